import PyProof.Rows.All
import Lean
import KE.KTryDeep
import KE.IntBitsLaws
import KE.KDictList
import KE.KIsAll
import KE.KRevIter
import KE.KDictOf
import KE.KItem
import PySem.Challenge.RW_keynests_k53_shelves_renewed
set_option autoImplicit false
open List (all_cons any_cons any_eq_true any_map append_assoc append_nil countP_cons count_append drop_eq_getElem_cons ext_getElem? filterMap_cons filter_congr filter_sublist flatten_cons getD_eq_getElem?_getD getElem_mem length_append length_cons length_map length_range length_set length_singleton length_take lookup_cons lookup_nil mapM_cons map_append map_congr_left map_cons map_map map_nil mem_append mem_append_left mem_append_right mem_cons mem_cons_of_mem mem_cons_self mem_filter mem_map mem_of_getElem? mem_range mem_singleton mergeSort_perm nil_append nodup_append nodup_cons nodup_nil not_mem_nil of_mem_zip pairwise_map replicate_succ size_toArray sum_cons take_add_one take_append_drop take_length take_succ)
set_option maxRecDepth 100000
set_option linter.all false
set_option Elab.async false
open PySem renaming wpAny_bind→ya,Addr→yc,Shared→yd,wpAny_pure→yf,FuncData→yh,starEach→yj,wpAny→yn,mainGlobals→yo,Str→yt,model→yv,Program→yA,sizeLine→yD,Expr→yE,World→yI,bootBuiltins→yJ,Around→yK,wpAny_holding→yQ,wpAny_mono→yS,Heap→yT,wpAny_newObj_type→yY,Stmt→Yb,wpAny_call_entry→Yc,eval→Ye,mem_of_lookup→Yg,wpAny_callSpecial?_slot→Yi,backTo→Ym,cellsFrom→Yq,sizeLine_eq→Yr,assignEach→Yw,compareOp→Yx,attributeBase→YA,codeAny_builtin→YD,codeAny_mono→YG,rawInt→YH,wpAny_field→YI,wpAny_loadPart_at→YM,keywordEach→YQ,Obj→YT,wpAny_standAt→YU,foldedSetIterable→YV,wpAny_setField→YX,wpAny_setState_of→YY,wpAny_ite_split→xa,Builtin→xh,plainId_quiet→xi,NameKind→xj,codeAny_call_builtin→xk,excClassObj→xl,wpAny_specialOf→xo,Pos→xp,wpAny_isSubtype_exc→xr,holding→xt,binaryOp→xw,wpAny_Call_Name_kw→xy,SetTable→xz,wpAny_passesOwn→xD,wpAny_truthy_bool→xG,wpAny_pyIter_list→xH,codeAny→xN,Keyword→xO,wpAny_setEntries_of→xP,swapsWith→xQ,backToKw→xR,PyData→xS,pyNext→xW,wpAny_setField_rec→Xb,wpAny_execs_nil→Xd,builtinLookup_eq_fast→Xj,Scope→Xm,wpAny_call→Xq,typeLookup→Xr,call_meets→Xs,wpAny_typeOf→Xy,wpAny_isInstance→Xz
open PySem.Heap renaming get?_push_of_some→yb,lt_size→yk,get?_push_size→yp,get?_update_self→yN,get?_update_other→Yh,SameBut→Yp,size_push→Ys,ExtBut→Xv
open List.cons renaming inj→ye,injEq→xF
open List renaming getElem?_map→yg,getElem?_eq_getElem→yq,getElem?_append_left→yr,range→yw,replicate→yC,getElem?_set_ne→yL,getElem?_append_right→yM,getElem?_set_self→yO,getElem?_eq_none→Yd,lookup→YL,getElem?_replicate→YR,perm_ext_iff_of_nodup→xB,find?_cons→Xe,length_replicate→Xi,length_filter_le→Xl,getElem?_zipIdx→Xx
open Nat renaming le_refl→yi,ne_of_lt→yu,lt_of_lt_of_le→yz,le_trans→yF,lt_irrefl→yU,ne_of_gt→yW,zero_le→Yt,lt_succ_self→Yz,lt_succ_of_lt→YB,le_of_lt→YO,le_succ→xV,lt_trans→Xa
open Option renaming bind_some→ym,map_some→xE,getD_some→xT
open PySem.W renaming Frag→yx,nsIn→Yk,findIn→Yl,mg_none_of→YJ,mg_of→xI,emptyDict→xU,kia_one→Xf
open PySem.NameKind renaming free→yy,cell→yR
open Bool renaming false_ne_true→yB,and_eq_true→yH,false_eq_true→xZ,and_self→Xg
open PySem.Value renaming ref→yG,none→Yn,type→Yv,builtin→xv
open Sum renaming inl→yP
open Ne renaming symm→yV
open Int renaming toNat_natCast→yX,eq_ofNat_of_zero_le→xn,emod_lt_of_pos→Xc
open PySem.Obj renaming data_mapFields→yZ,isFreed_of_fields→YF,mapFields→xg,mapSeq→xY,cls_mapFields→Xn
open Option.some renaming inj→Yj,injEq→xm
open PySem.PyData renaming eqv→Yo,int→xL,eqvAll→Xh,canLayAll0→Xo
open PySem.Around renaming under_plainId→Yu
open PySem.Builtin.List renaming listExtendWith→Yy,listTooLong→xf,listLengthHint→xu,listSameRef→xK
open False renaming elim→YC
open PySem.Heap.SameBut renaming update→YE
open PySem.Builtin.SmallTypes renaming nextOf→YK
open PySem.SetTable renaming below→YN,grown→Xu
open PyProof.Rows renaming callWith_type1→YS,slot_tuple_getitem→xb
open PySem.Str renaming ofString→YW
open ForInStep renaming yield→YZ
open PySem.Builtin.Tuple renaming tupleExact→xc
open PyProof.Rows.F renaming plain_set_update_loop→xq
open PySem.F renaming slot_tuple_iterator_next→xA,slot_enumerate_next→Xk,excBase_ValueError→Xw
open PySem.Builtin.Slice renaming slicePlaces→xC
open PySem.Challenge renaming rw_keynests_k53_shelves_renewed→xJ
open PySem.AutoSeq1 renaming wpAny_loadPart'→xM
open True renaming intro→xX
open PySem.SetTable.below renaming go→Xp
noncomputable section
namespace M
open PySem PySem.W PyProof.Rows
def kOf(as:List yc)(h:yT):Frag:=as.filterMap λa=>(h.get? a).map λo=>(a,o)
def zzA(h:yT):Frag:=kOf (yw h.objs.size) h
def zqy(s:Yb):Arguments:=match s with
 |.FunctionDef _ a _ _ _ _ _ _ _ _=>a
 |_=>{posonlyargs:=[],args:=[],vararg:=none,kwonlyargs:=[],kw_defaults:=[],kwarg:=none,defaults:=[]}
def zEx(s:Yb):List Yb:=match s with
 |.FunctionDef _ _ b _ _ _ _ _ _ _=>b
 |_=>[]
def zUu(s:Yb):Xm:=match s with
 |.FunctionDef _ _ _ _ _ _ sc _ _ _=>sc
 |_=>{kind:=.function,names:=[],isGenerator:=false,isCoroutine:=false }
def zxC(s:Yb):xp:=match s with
 |.FunctionDef _ _ _ _ _ _ _ _ _ p=>p
 |_=>⟨0,0,0,0⟩
structure ss where
 name:yt
 qual:yt
 params:Arguments
 body:FuncBody
 scope:Xm
 globals:yc
 closure:List (yt×yc)
 defaults:Value
 builtins:yc
 code:Bool
 keep:Bool
def zAe(K:Frag)(a:yc)(qual:yt):Option ss:=match K.lookup a with
 |some ⟨_,_,.func fd,_⟩=>some ⟨fd.name,fd.qualname,fd.params,fd.body,fd.scope,fd.globals,fd.closure,fd.defaults,fd.builtins,codeIn K fd.code qual,keepIn K (.ref a)⟩
 |_=>none
def zeb(K:Frag)(nm:yt):Option ss:=match nsIn K yo nm with
 |some (some (.ref a))=>zAe K a nm
 |_=>none
def zUe(nm qual:yt)(st:Yb):Option ss:=some ⟨nm,qual,zqy st,.stmts (zEx st),zUu st,yo,[],.none,builtinsNs,true,true⟩
def zfb(nm:yt)(st:Yb):Option ss:=zUe nm nm st
def z4n(K:Frag)(nm:yt):Option Int:=match nsIn K yo nm with
 |some (some (.int i _))=>some i
 |_=>none
def zFu(K:Frag)(C:yc):Option (Value×String×List Value×Bool×Bool):=match K.lookup C with
 |some ⟨c,_,.cls cd,sl⟩=>(match sl.toList with | [_,_,_,_,some (.builtin n),_]=>some (c,n,cd.mro,cd.hasDict,cd.hasDel)|_=>none)
 |_=>none
def zKv{p q:yA}{loose:List yt}{α:Type}{Yf:yd->α}{y:α}{N:Nat}(h1:LeftO p q loose (λ_=>true) (λ_=>()) (λ_=>()) N)(h2:∀w,(openEnds treeTable p w N).map Yf=some y):LeftO p q loose (λ_=>true) Yf (λ_=>y) N:=λw=>by
 obtain⟨s,e,a⟩:=Option.map_eq_some_iff.mp (h1 w);obtain⟨s',e',b⟩:=Option.map_eq_some_iff.mp (h2 w);rw[e]at e';cases e';rw[e];show some (_,Yf s)=some (_,y);rw[b];exact congrArg (λz=>some (z.1,y)) a
end M
namespace Hd
open PySem PySem.Spec PyProof.Rows M
def top(i:Nat):Yb:=PySem.Challenge.pw_keynests_k53_shelves_renewed.main.body.getD i (.Pass ⟨0,0,0,0⟩)
def z6k(s:Yb)(j:Nat):Yb:=match s with
 |.ClassDef _ _ _ body _ _ _ _ _ _ _=>body.getD j (.Pass ⟨0,0,0,0⟩)
 |_ =>.Pass ⟨0,0,0,0⟩
def zsy(s:Yb):Yb:=z6k s 0
def qv:yA:={PySem.Challenge.pw_keynests_k53_shelves_renewed with main:={PySem.Challenge.pw_keynests_k53_shelves_renewed.main with body:=[top 51]}}
def lse:List yt:=(PySem.Challenge.pw_keynests_k53_shelves_renewed.main.scope.names.map (·.1)).filter λx=>!(x == "law")
def dl:DefRec:={name:="law",params:=zqy (top 51),body:=zEx (top 51),scope:=zUu (top 51),pos:=zxC (top 51)}
def obs(K:yx):List (Option ss)×List (Option (Option Value))×List (Option Int)×List (Bool)×List (Option Bool)×List (Option Value)×List (Option W.CFound)×List (Option (Value×String×List Value×Bool×Bool)):=([zeb K "_law_pen",zAe K 215 "Shelf.__init__",zeb K "_law_mixed",zeb K "_law_take",zeb K "_law_rule",zAe K 234 "Shelf.has",zeb K "lying",zeb K "pushes_to",zeb K "left",zeb K "row_to",zeb K "put_in",zAe K 248 "Shelf.all_there",zeb K "homes",zeb K "web_of",zAe K 258 "Shelf.laying",zAe K 220 "Shelf.put",zeb K "fault",zeb K "is_push",zeb K "follows",zeb K "pushed",zeb K "laid_more",zeb K "laid_at_all",zeb K "room_of",zeb K "homes_of",zeb K "is_crowd",zeb K "spare_key",zeb K "trimmed",zeb K "fitted",zAe K 270 "Shelf.renew",zeb K "_law_renewed",zeb K "_law_room",zeb K "_law_laid_by",zeb K "_law_fit",zeb K "_law_wholes",zAe K 265 "Shelf.left",zAe K 277 "Shelf.rule",zAe K 241 "Shelf.where",zeb K "_law_homes",zAe K 253 "Shelf.nest",zeb K "_law_is_kept",zeb K "_law_excess",zeb K "_law_is_crowd",zeb K "_law_one",zeb K "_law_key",zeb K "law",zAe K 60 "Full.__init__"],[Yk K yo "Shelf",Yl K (.ref 280) "__setattr__",Yl K (.ref 280) "nest_of",Yl K (.ref 280) "kept_rule",Yl K (.ref 280) "__init__",Yl K (.ref 280) "has",Yl K (.ref 280) "all_there",Yl K (.ref 280) "laying",Yl K (.ref 280) "put",Yl K (.ref 280) "renew",Yl K (.ref 280) "left",Yl K (.ref 280) "rule",Yl K (.ref 280) "where",Yl K (.ref 280) "nest",Yk K yo "left_layings",Yk K yo "left",Yk K yo "all",Yk K yo "bool",Yk K yo "dict",Yk K yo "enumerate",Yk K yo "int",Yk K yo "isinstance",Yk K yo "len",Yk K yo "list",Yk K yo "range",Yk K yo "reversed",Yk K yo "set",Yk K yo "sorted",Yk K yo "sum",Yk K yo "tuple",Yk K yo "Full",Yk K yo "NestError",Yk K yo "Twice",W.specialIn K (.ref 31) "__getattribute__",Yl K (.ref 63) "__init__",Yl K (.ref 63) "__setattr__",Yl K (.ref 63) "some",Yl K (.ref 63) "__getattribute__",Yl K (.ref 63) "__getattr__",Yl K (.ref 63) "__class__",W.specialIn K (.builtin "object.__class__") "__get__"],[z4n K "DIVISOR",z4n K "MOST_KEYS"],[W.plainGet K 280 PySem.Str.empty,W.hasDictIn K 280,W.plainOver K 280,W.isFn K (.ref 215),W.makesIn K 280,W.keepIn K (.ref 280),W.isFn K (.ref 234),W.isFn K (.ref 248),W.isFn K (.ref 258),W.isFn K (.ref 220),W.isFn K (.ref 270),W.isFn K (.ref 265),W.isFn K (.ref 277),W.isFn K (.ref 241),W.isFn K (.ref 253),W.ktsIn K 63 "BaseException",W.ktsIn K 31 "BaseException",W.ktsIn K 44 "BaseException",W.excIn K 44 [.type "ValueError",.type "Exception",.type "BaseException",.type "object"] "ValueError.__new__",W.excIn K 31 [.type "ValueError",.type "Exception",.type "BaseException",.type "object"] "ValueError.__new__",W.readsIn K 31 (.type "type"),W.hasDictIn K 63,(W.clsIn K 63).isSome],[W.mroIn K 44 (.ref 63),W.mroIn K 44 (.ref 44),W.mroIn K 63 (.ref 63),W.mroIn K 63 (.ref 44),W.mroIn K 63 (.type "BaseException"),W.mroIn K 63 (.type "object"),W.takesIn K (.builtin "object.__class__")],[W.typeIn K (.ref 60)],[W.findCls K (.ref 31) (.type "type") "__init__"],[zFu K 63])
def good:List (Option ss)×List (Option (Option Value))×List (Option Int)×List (Bool)×List (Option Bool)×List (Option Value)×List (Option W.CFound)×List (Option (Value×String×List Value×Bool×Bool)):=([zfb "_law_pen" (top 36),zUe "__init__" "Shelf.__init__" (z6k (top 34) 0),zfb "_law_mixed" (top 37),zfb "_law_take" (top 38),zfb "_law_rule" (top 39),zUe "has" "Shelf.has" (z6k (top 34) 3),zfb "lying" (top 10),zfb "pushes_to" (top 15),zfb "left" (top 7),zfb "row_to" (top 16),zfb "put_in" (top 17),zUe "all_there" "Shelf.all_there" (z6k (top 34) 5),zfb "homes" (top 22),zfb "web_of" (top 25),zUe "laying" "Shelf.laying" (z6k (top 34) 7),zUe "put" "Shelf.put" (z6k (top 34) 1),zfb "fault" (top 9),zfb "is_push" (top 12),zfb "follows" (top 13),zfb "pushed" (top 14),zfb "laid_more" (top 18),zfb "laid_at_all" (top 19),zfb "room_of" (top 27),zfb "homes_of" (top 26),zfb "is_crowd" (top 29),zfb "spare_key" (top 30),zfb "trimmed" (top 31),zfb "fitted" (top 32),zUe "renew" "Shelf.renew" (z6k (top 34) 9),zfb "_law_renewed" (top 48),zfb "_law_room" (top 44),zfb "_law_laid_by" (top 45),zfb "_law_fit" (top 46),zfb "_law_wholes" (top 42),zUe "left" "Shelf.left" (z6k (top 34) 8),zUe "rule" "Shelf.rule" (z6k (top 34) 10),zUe "where" "Shelf.where" (z6k (top 34) 4),zfb "_law_homes" (top 40),zUe "nest" "Shelf.nest" (z6k (top 34) 6),zfb "_law_is_kept" (top 43),zfb "_law_excess" (top 47),zfb "_law_is_crowd" (top 49),zfb "_law_one" (top 50),zfb "_law_key" (top 41),zfb "law" (top 51),zUe "__init__" "Full.__init__" (zsy (top 4))],[some (some (.ref 280)),some (some (.builtin "object.__setattr__")),some none,some none,some (some (.ref 215)),some (some (.ref 234)),some (some (.ref 248)),some (some (.ref 258)),some (some (.ref 220)),some (some (.ref 270)),some (some (.ref 265)),some (some (.ref 277)),some (some (.ref 241)),some (some (.ref 253)),some (some (.ref 89)),some (some (.ref 89)),some none,some none,some none,some none,some none,some none,some none,some none,some none,some none,some none,some none,some none,some none,some (some (.ref 63)),some (some (.ref 31)),some (some (.ref 44)),some (some (.builtin "type.__getattribute__")),some (some (.ref 60)),some (some (.builtin "object.__setattr__")),some none,some (some (.builtin "BaseException.__getattribute__")),some none,some (some (.builtin "object.__class__")),some (some (.builtin "getset_descriptor.__get__"))],[some 10007,some 30],[true,true,true,true,true,true,true,true,true,true,true,true,true,true,true,true,true,true,true,true,true,true,true],[some false,some true,some true,some false,some true,some true,some true],[some (.type "function")],[some (.val (.builtin "ValueError.__init__"))],[some (.type "type","ValueError.__new__",.ref 63::(.ref 31::[.type "ValueError",.type "Exception",.type "BaseException",.type "object"]),true,false)])
set_option maxHeartbeats 0
def hd21:W.LeftO PySem.Challenge.rw_keynests_k53_shelves_renewed.prog qv lse (λ_=>true) (λ_=>()) (λ_=>()) 60000:=λw=>by kernel_rfl
def hd22:∀w,(W.openEnds treeTable PySem.Challenge.rw_keynests_k53_shelves_renewed.prog w 60000).map (λs=>obs (zzA s.heap))=some good:=λw=>by kernel_rfl
def hd2:W.LeftO PySem.Challenge.rw_keynests_k53_shelves_renewed.prog qv lse (λ_=>true) (λs=>obs (zzA s.heap)) (λ_=>good) 60000:=zKv hd21 hd22
def hd1:PySem.Challenge.rw_keynests_k53_shelves_renewed.wellSaid=true:=by kernel_rfl
def hd3:W.defOf qv PySem.Challenge.rw_keynests_k53_shelves_renewed.name=some (dl,[]):=by kernel_rfl
def hd4:PySem.Challenge.rw_keynests_k53_shelves_renewed.prog.theDef PySem.Challenge.rw_keynests_k53_shelves_renewed.name=some (dl.params,dl.body,dl.scope):=by kernel_rfl
def hd5:W.kwWritten? dl.params.kwonlyargs dl.params.kw_defaults=some []:=by kernel_rfl
def hd6:(W.chainsOk qv&&W.opensWell PySem.Challenge.rw_keynests_k53_shelves_renewed.prog&&(W.frees PySem.Challenge.rw_keynests_k53_shelves_renewed.row.toRowW&&PySem.Challenge.rw_keynests_k53_shelves_renewed.row.within.isEmpty))=true:=by kernel_rfl
def hd7:PySem.Challenge.rw_keynests_k53_shelves_renewed.prog.bare:=⟨rfl,rfl,rfl,rfl,rfl,by decide +kernel⟩
end Hd
namespace L2
open PySem PySem.Spec PyProof.Rows
abbrev Key:=Sum Int yt
def z0p:Key->Value->Bool
 |.inl k,v=>Value.isInt k v
 |.inr x,v=>Value.isStrOf x v
def zJC(w:yI):Key->Int
 |.inl k=>hashInt k
 |.inr x=>hashStr w x
def znb:∀{k:Key} {v:Value},z0p k v=true->(∃i t,k=yP i/\v=Value.int i t)\/(∃x t,k=Sum.inr x/\v=Value.str x t)
 |.inl i,v,h=>by
  obtain⟨t,e⟩:=Value.isInt_shape (k:=i) (v:=v) h;exact .inl ⟨i,t,rfl,e⟩
 |.inr x,v,h=>by
  obtain⟨t,e⟩:=Value.isStrOf_shape (x:=x) (v:=v) h;exact .inr ⟨x,t,rfl,e⟩
def zWs(i:Int)(t:Tok):z0p (.inl i) (.int i t)=true:=by simp[z0p,Value.isInt]
def z4t(x:yt)(t:Tok):z0p (.inr x) (.str x t)=true:=by simp[z0p,Value.isStrOf]
def zRz(a b:Int):decide ((yP a:Key)=yP b)=(a==b):=by
 by_cases e:a=b
 ·subst e;simp
 ·have h:¬(yP a:Key)=yP b:=λq=>e (Sum.inl.inj q);rw[decide_eq_false h];exact(beq_eq_false_iff_ne.mpr e).symm
def ztA(a b:yt):decide ((Sum.inr a:Key)=Sum.inr b)=decide (a=b):=by
 by_cases e:a=b
 ·subst e;simp
 ·have h:¬(Sum.inr a:Key)=Sum.inr b:=λq=>e (Sum.inr.inj q);rw[decide_eq_false h,decide_eq_false e]
def zAA(a:Int)(b:yt):decide ((yP a:Key)=Sum.inr b)=false:=decide_eq_false (λq=>nomatch q)
def zrA(a:yt)(b:Int):decide ((Sum.inr a:Key)=yP b)=false:=decide_eq_false (λq=>nomatch q)
def zkb(prog:yA)(w:yI):PySem.KeyKind prog w Key where
 is:=z0p
 hash:=zJC w
 inj:=λv a b ha hb=>by
  rcases znb ha with ⟨i,t,rfl,rfl⟩|⟨x,t,rfl,rfl⟩
  ·rcases znb hb with ⟨j,u,rfl,e⟩|⟨y,u,rfl,e⟩
   ·injection e with e1 _;rw[e1]
   ·exact nomatch e
  ·rcases znb hb with ⟨j,u,rfl,e⟩|⟨y,u,rfl,e⟩
   ·exact nomatch e
   ·injection e with e1 _;rw[e1]
 byValue:=λk v h=>by
  rcases znb h with ⟨i,t,rfl,rfl⟩|⟨x,t,rfl,rfl⟩<;>rfl
 pyHash:=λhv h=>by
  rcases znb hv with ⟨i,t,rfl,rfl⟩|⟨x,t,rfl,rfl⟩
  ·exact wpAny_pyHash_int h
  ·exact wpAny_pyHash_str h
 eqBool:=λhu hv h=>by
  rcases znb hu with ⟨i,t,rfl,rfl⟩|⟨x,t,rfl,rfl⟩
  ·rcases znb hv with ⟨j,u,rfl,rfl⟩|⟨y,u,rfl,rfl⟩
   ·rw[zRz]at h;exact wpAny_eqBool_int h
   ·rw[zAA]at h;exact SeqAt.EqAt.int_str i t y u _ _ _ _ h
  ·rcases znb hv with ⟨j,u,rfl,rfl⟩|⟨y,u,rfl,rfl⟩
   ·rw[zrA]at h;exact SeqAt.EqAt.str_int x t j u _ _ _ _ h
   ·rw[ztA]at h;exact wpAny_eqBool_str h
 «strs»:=λk x t v h=>by
  rcases znb h with ⟨i,u,rfl,e⟩|⟨y,u,rfl,e⟩
  ·exact nomatch e
  ·injection e with e1 _;subst e1;cases v<;>rfl
def zyj(prog:yA)(w:yI)(k:Key)(v:Value):(zkb prog w).is k v=z0p k v:=rfl
def z5p(prog:yA)(w:yI)(i:Int)(t:Tok):(zkb prog w).is (.inl i) (.int i t)=true:=zWs i t
def z1p(prog:yA)(w:yI)(x:yt)(t:Tok):(zkb prog w).is (.inr x) (.str x t)=true:=z4t x t
inductive V where
 |non|bl (b:Bool)|int (i:Int)|str (x:yt)|byt (b:Array UInt8)|flt (b:UInt64)|ref (a:yc)|ty (n:String)
 deriving DecidableEq
def RelV:V->Value->Prop
 |.non,u=>u=Yn
 |.bl b,u=>u=Value.bool b
 |.int i,u=>∃t,u=Value.int i t
 |.str x,u=>∃t,u=Value.str x t
 |.byt b,u=>∃t,u=Value.bytes b t
 |.flt b,u=>∃t,u=Value.float b t
 |.ref a,u=>u=yG a
 |.ty n,u=>u=Yv n
abbrev Vals:List V->List Value->Prop:=Paired RelV
def Vals.length{xs:List V}{us:List Value}(r:Vals xs us):xs.length=us.length:=Paired.length r
def Vals.get:∀{xs:List V} {us:List Value} {i:Nat} {x:V},Vals xs us->xs[i]?=some x->∃u,us[i]?=some u/\RelV x u
 |_,_,_,_,.nil,e=>by simp at e
 |_,_,0,_,.cons r _,e=>by simp at e;subst e;exact⟨_,rfl,r⟩
 |_,_,i+1,x,.cons _ t,e=>by
  obtain⟨u,h1,h2⟩:=Vals.get (i:=i) (x:=x) t (by simpa using e);exact⟨u,by simpa using h1,h2⟩
def Vals.set{x:V}{u:Value}(r:RelV x u):∀{xs:List V} {us:List Value} (i:Nat),Vals xs us->Vals (xs.set i x) (us.set i u)
 |_,_,_,.nil =>.nil
 |_,_,0,.cons _ t =>.cons r t
 |_,_,i+1,.cons q t =>.cons q (Vals.set r i t)
def Vals.append:∀{xs ys:List V} {us ws:List Value},Vals xs us->Vals ys ws->Vals (xs++ys) (us++ws)
 |_,_,_,_,.nil,s=>s
 |_,_,_,_,.cons r t,s =>.cons r (Vals.append t s)
def Vals.take:∀{xs:List V} {us:List Value} (n:Nat),Vals xs us->Vals (xs.take n) (us.take n)
 |_,_,0,_ =>.nil
 |_,_,_+1,.nil =>.nil
 |_,_,n+1,.cons r t =>.cons r (Vals.take n t)
def Vals.drop:∀{xs:List V} {us:List Value} (n:Nat),Vals xs us->Vals (xs.drop n) (us.drop n)
 |_,_,0,r=>r
 |_,_,_+1,.nil =>.nil
 |_,_,n+1,.cons _ t=>Vals.drop n t
def TW:Option V->Option Value->Prop
 |some v,some u=>RelV v u
 |none,none=>True
 |_,_=>False
def KV{κ:Type}:List (κ×V)->List (κ×Value)->Prop:=Paired λ(p:κ×V) (q:κ×Value)=>p.1=q.1/\RelV p.2 q.2
def kV:Key->V
 |.inl i =>.int i
 |.inr x =>.str x
inductive HO where
 |lst (xs:List V)
 |tup (xs:List V)
 |dK (kvs:List (Key×V))|dT (kvs:List (List Key×V))
 |set (S:Int->Bool) (n:Nat)
 |ins (C dx:yc) (fs:List (yt×V))
 |own (x:yc)
 |xd (fs:List (yt×V))
 |met (f x:yc)
 |rng (lo hi:Int)
 |frz (o:YT) (u:HO)
 |tbl (ps:Array Value)
 |ext (G:yT->Prop)
abbrev Hp:=yc->Option HO
def upd(H:Hp)(a:yc)(o:HO):Hp:=λb=>if b=a then some o else H b
def zF{H:Hp}{a:yc}{o:HO}:upd H a o a=some o:=by unfold upd;rw[if_pos rfl]
def zL{H:Hp}{a b:yc}{o:HO}(h:b≠a):upd H a o b=H b:=by unfold upd;rw[if_neg h]
def zI{H:Hp}{a b:yc}{o:HO}(h:H a=some o)(h':H b=none):a≠b:=by
 intro e;subst e;rw[h]at h';cases h'
section
variable (P:yA)(w:yI)
def tG(H:Hp)(h:yT)(a:yc):HO->Prop
 |.lst xs=>xs.length<=yD/\∃(its:List Value)(n:Nat),Vals xs its/\h.get? a=some {cls:=.type "list",data:=.seq its.toArray n }
 |.tup xs=>xs.length<=yD/\∃its:List Value,Vals xs its/\IsTup h a its.toArray
 |.dK kvs=>kvs.length<=yD/\(a==sysModules)=false/\∃vs,KV kvs vs/\h.DictOf (zkb P w) a vs
 |.dT kvs=>kvs.length<=yD/\(a==sysModules)=false/\∃xs:List (List Key×yc×Value),
  Paired (λ(p:List Key×V) (q:List Key×yc×Value)=>p.1=q.1/\H q.2.1=some (.tup (p.1.map kV))/\RelV p.2 q.2.2) kvs xs /\
  ∃o es ep,h.get? a=some o/\o.ExactDict/\o.data=.dict es ep/\es.toList=xs.map (entryOfKey (tupleKind (zkb P w)))/\(xs.map (·.1)).Nodup
 |.set S n=>h.SetOf (intKind P w) a S n
 |.ins C dx fs=>H dx=some (.own a)/\fs.length<=1000/\dx≠a/\h.get? a=some (W.instObj C dx) /\
  ∃mA,h.Ns1 dx mA/\(∀f,TW (fs.lookup f) (mA f))/\PySem.Within mA (fs.map (·.1))
 |.own _=>∃o,h.get? a=some o
 |.xd fs=>∃mA,h.Ns1 a mA/\∀f,TW (fs.lookup f) (mA f)
 |.rng lo hi=>∃t u v,h.get? a=some {cls:=.type "range",data:=.fields #[.int lo t,.int hi u,.int 1 v]}
 |.frz o u=>h.get? a=some o/\tG H h a u
 |.tbl ps=>h.get? a=some {cls:=.none,data:=.fields ps }
 |.met f x=>h.get? a=some (W.methodObj (.ref f) (.ref x))
 |.ext G=>G h/\(∃o,h.get? a=some o)/\∀h1 h2:yT,G h1->(∀o,h1.get? a=some o->h2.get? a=some o)->G h2
def HOk(H:Hp)(h:yT):Prop:=∀a o,H a=some o->tG P w H h a o
variable {P:yA}{w:yI}{H H':Hp}{h h':yT}{a:yc}{o:HO}
def tG.lt(x:tG P w H h a o):a<h.objs.size:=by
 cases o with
 |lst xs=>obtain⟨_,_,_,_,e⟩:=x;exact yk e
 |tup xs=>obtain⟨_,_,_,p⟩:=x;exact p.lt
 |dK kvs=>obtain⟨_,_,_,_,o,_,_,e,_⟩:=x;exact yk e
 |dT kvs=>obtain⟨_,_,_,_,o,_,_,e,_⟩:=x;exact yk e
 |set S n=>obtain⟨o,_,_,_,e,_⟩:=x;exact yk e
 |ins C dx fs=>obtain⟨_,_,_,e,_⟩:=x;exact yk e
 |own y=>obtain⟨_,e⟩:=x;exact yk e
 |xd fs=>obtain⟨_,⟨_,_,_,e,_⟩,_⟩:=x;exact yk e
 |rng lo hi=>obtain⟨_,_,_,e⟩:=x;exact yk e
 |frz ob u=>obtain⟨e,_⟩:=x;exact yk e
 |tbl ps=>exact yk (show h.get? a=some _ from x)
 |met f y=>exact yk (show h.get? a=some _ from x)
 |ext G=>obtain⟨_,⟨_,e⟩,_⟩:=x;exact yk e
def Paired.mapP{α β:Type}{F φ:α->β->Prop}:∀{l₁:List α} {l₂:List β},Paired F l₁ l₂->(∀a b,F a b->φ a b)->Paired φ l₁ l₂
 |_,_,.nil,_ =>.nil
 |_,_,.cons r t,f =>.cons (f _ _ r) (Paired.mapP t f)
def tG.stay(x:tG P w H h a o)(k:∀b u,(b=a\/H b=some (.own a))->h.get? b=some u->h'.get? b=some u)
 (ho:∀b,H b=some (.own a)->H' b=some (.own a)) (ht:∀b xs,H b=some (.tup xs)->H' b=some (.tup xs)):tG P w H' h' a o:=by
 induction o with
 |lst xs=>obtain⟨z,its,n,r,e⟩:=x;exact⟨z,its,n,r,k _ _ (.inl rfl) e⟩
 |tup xs=>obtain⟨z,its,r,ob,e,c⟩:=x;exact⟨z,its,r,ob,k _ _ (.inl rfl) e,c⟩
 |dK kvs=>obtain⟨z,y,vs,r,ob,es,ep,e,c⟩:=x;exact⟨z,y,vs,r,ob,es,ep,k _ _ (.inl rfl) e,c⟩
 |dT kvs=>
  obtain⟨z,y,xs,r,ob,es,ep,e,c⟩:=x;exact⟨z,y,xs,Paired.mapP r λp q z=>⟨z.1,ht _ _ z.2.1,z.2.2⟩,ob,es,ep,k _ _ (.inl rfl) e,c⟩
 |set S n=>obtain⟨ob,es,ep,t,e,c⟩:=x;exact⟨ob,es,ep,t,k _ _ (.inl rfl) e,c⟩
 |ins C dx fs=>
  obtain⟨d,z,ne,e,mA,⟨od,es,ep,e2,c⟩,r⟩:=x;exact⟨ho _ d,z,ne,k _ _ (.inl rfl) e,mA,⟨od,es,ep,k _ _ (.inr d) e2,c⟩,r⟩
 |own y=>obtain⟨ob,e⟩:=x;exact⟨ob,k _ _ (.inl rfl) e⟩
 |xd fs=>obtain⟨mA,⟨od,es,ep,e,c⟩,r⟩:=x;exact⟨mA,⟨od,es,ep,k _ _ (.inl rfl) e,c⟩,r⟩
 |rng lo hi=>obtain⟨t,u,v,e⟩:=x;exact⟨t,u,v,k _ _ (.inl rfl) e⟩
 |frz ob u ih=>obtain⟨e,q⟩:=x;exact⟨k _ _ (.inl rfl) e,ih q⟩
 |tbl ps=>
  have e:h.get? a=some {cls:=.none,data:=.fields ps }:=x;show h'.get? a=some {cls:=.none,data:=.fields ps };exact k a _ (.inl rfl) e
 |met f y=>
  have e:h.get? a=some (W.methodObj (.ref f) (.ref y)):=x;show h'.get? a=some (W.methodObj (.ref f) (.ref y));exact k a _ (.inl rfl) e
 |ext G=>obtain⟨p,⟨o,e⟩,st⟩:=x;exact⟨st _ _ p λo q=>k _ _ (.inl rfl) q,⟨o,k _ _ (.inl rfl) e⟩,st⟩
def HOk.lt(x:HOk P w H h)(e:H a=some o):a<h.objs.size:=(x a o e).lt
def HOk.fresh(x:HOk P w H h)(e:h.objs.size<=a):H a=none:=by
 cases q:H a with
 |none=>rfl
 |some u=>exact absurd (yz (x.lt q) e) (yU _)
def HOk.kept(x:HOk P w H h)(k:∀b u,h.get? b=some u->h'.get? b=some u):HOk P w H h':=λa o e=>
 (x a o e).stay (λb u _ q=>k b u q) (λ_ q=>q) λ_ _ q=>q
def HOk.laid(x:HOk P w H h)(k:∀b u,h.get? b=some u->h'.get? b=some u)(hp:h.objs.size<=a)(new:tG P w (upd H a o) h' a o):HOk P w (upd H a o) h':=λb u e=>by
 have hn:=x.fresh hp
 by_cases hb:b=a
 ·subst hb;rw[zF]at e;cases e;exact new
 ·rw[zL hb]at e;exact(x b u e).stay (λc v _ q=>k c v q) (λc q=>by rw[zL (zI q hn)];exact q) λc xs q=>by rw[zL (zI q hn)];exact q
end
def Rd(H:Hp)(a:yc)(u:HO):Prop:=H a=some u\/∃o,H a=some (.frz o u)
def Rd.ok{P:yA}{w:yI}{H:Hp}{h:yT}{a:yc}{u:HO}(r:Rd H a u)(x:HOk P w H h):tG P w H h a u:=by
 rcases r with r|⟨o,r⟩
 ·exact x a u r
 ·obtain⟨_,q⟩:=x a _ r;exact q
def Mut:Option HO->Prop
 |some (.lst _)=>True
 |some (.dK _)=>True
 |some (.dT _)=>True
 |some (.set _ _)=>True
 |some (.ins _ _ _)=>True
 |some (.ext _)=>True
 |_=>False
section
variable {P:yA}{w:yI}{H:Hp}{h h':yT}{x e:yc}{o':HO}
def HOk.write(ok:HOk P w H h)(mu:Mut (H x))(he:e=x\/H e=some (.own x))(k:∀b u,b≠e->h.get? b=some u->h'.get? b=some u)(heo:∃u,h'.get? e=some u)
 (new:tG P w (upd H x o') h' x o'):HOk P w (upd H x o') h':=λb u q=>by
 have nown:∀c y,H c=some (.own y)->c≠x:=λc y r z=>by subst z;rw[r]at mu;exact mu
 have ntup:∀c xs,H c=some (.tup xs)->c≠x:=λc xs r z=>by subst z;rw[r]at mu;exact mu
 by_cases hb:b=x
 ·subst hb;rw[zF]at q;cases q;exact new
 ·rw[zL hb]at q
  by_cases hbe:b=e
  ·have q':H b=some (.own x):=by
    rcases he with z|z
    ·exact absurd (hbe.trans z) hb
    ·rw[hbe];exact z
   rw[q]at q';cases q';obtain⟨v,hv⟩:=heo;exact⟨v,by rw[hbe];exact hv⟩
  ·refine(ok b u q).stay (λc v hc r=>k c v ?_ r) (λc r=>by rw[zL (nown c b r)];exact r) λc xs r=>by rw[zL (ntup c xs r)];exact r
   rcases hc with rfl|hc
   ·exact hbe
   ·rintro rfl;rcases he with z|z
    ·exact nown c b hc z
    ·rw[hc]at z;cases z;exact hb rfl
end
structure Un(fs ex:List yc)(H H':Hp)(h h':yT):Prop where
 keep:∀b o,h.get? b=some o->H b=none->b∉fs->b∉ex->h'.get? b=some o
 slot:∀b o,h.get? b=some o->H b=none->b∈fs->b∉ex->∃sl,h'.get? b=some {o with slots:=sl }
 free:∀b o,h.get? b=some o->H b=none->b∉ex->H' b=none
 there:∀b o,h.get? b=some o->b∉ex->∃o',h'.get? b=some o'
 tups:∀b xs,H b=some (.tup xs)->H' b=some (.tup xs)
 TK:∀b o u,H b=some (.frz o u)->H' b=some (.frz o u)
 TU:∀b ps,H b=some (.tbl ps)->∃more,H' b=some (.tbl (ps++more))
section
variable {fs fs' ex ex':List yc}{H H1 H2:Hp}{h h1 h2 h':yT}{a x e:yc}{o:HO}
def Un.any(u:Un fs ex H H1 h h1){b:yc}{ob:YT}(q:h.get? b=some ob)(n:H b=none)(hx:b∉ex):∃sl,h1.get? b=some {ob with slots:=sl }:=by
 by_cases hb:b∈fs
 ·exact u.slot b ob q n hb hx
 ·exact⟨ob.slots,u.keep b ob q n hb hx⟩
def Un.trans(a:Un fs ex H H1 h h1)(b:Un fs ex H1 H2 h1 h2):Un fs ex H H2 h h2 where
 keep:=λc ob q n hc hx=>b.keep c ob (a.keep c ob q n hc hx) (a.free c ob q n hx) hc hx
 slot:=λc ob q n hc hx=>by
  obtain⟨sl,e1⟩:=a.slot c ob q n hc hx;obtain⟨sl',e2⟩:=b.slot c _ e1 (a.free c ob q n hx) hc hx;exact⟨sl',e2⟩
 free:=λc ob q n hx=>by
  obtain⟨o',e1⟩:=a.there c ob q hx;exact b.free c o' e1 (a.free c ob q n hx) hx
 there:=λc ob q hx=>by
  obtain⟨o',e1⟩:=a.there c ob q hx;exact b.there c o' e1 hx
 tups:=λc xs q=>b.tups c xs (a.tups c xs q)
 TK:=λc ob xs q=>b.TK c ob xs (a.TK c ob xs q)
 TU:=λc ps q=>by
  obtain⟨m1,e1⟩:=a.TU c ps q;obtain⟨m2,e2⟩:=b.TU c _ e1;exact⟨m1++m2,by rw[e2,Array.append_assoc]⟩
def Un.kept(k:∀b u,h.get? b=some u->h'.get? b=some u):Un fs ex H H h h' :=
 ⟨λb ob q _ _ _=>k b ob q,λb ob q _ _ _=>⟨ob.slots,k b ob q⟩,λ_ _ _ n _=>n,λb ob q _=>⟨ob,k b ob q⟩,λ_ _ q=>q,λ_ _ _ q=>q,λ_ ps q=>⟨#[],by rw[q];simp⟩⟩
def Un.refl:Un fs ex H H h h:=Un.kept λ_ _ q=>q
def Un.laid(k:∀b u,h.get? b=some u->h'.get? b=some u)(hp:h.objs.size<=a)(hn:H a=none):Un fs ex H (upd H a o) h h' where
 keep:=λb u q _ _ _=>k b u q
 slot:=λb u q _ _ _=>⟨u.slots,k b u q⟩
 free:=λb u q n _=>by rw[zL (yu (yz (yk q) hp))];exact n
 there:=λb u q _=>⟨u,k b u q⟩
 tups:=λb xs q=>by rw[zL (zI q hn)];exact q
 TK:=λb u xs q=>by rw[zL (zI q hn)];exact q
 TU:=λb ps q=>⟨#[],by rw[zL (zI q hn),q];simp⟩
def Un.write(mu:Mut (H x))(he:e=x\/H e=some (.own x))(k:∀b u,b≠e->h.get? b=some u->h'.get? b=some u)(heo:∃u,h'.get? e=some u):Un fs ex H (upd H x o) h h':=by
 have hx:∀b,H b=none->b≠x:=λb n z=>by subst z;rw[n]at mu;exact mu
 have hb:∀b,H b=none->b≠e:=λb n z=>by
  subst z;rcases he with r|r
  ·exact hx b n r
  ·rw[n]at r;cases r
 have hm:∀b u,H b=some u->¬Mut (some u)->b≠x:=λb u q nm z=>by subst z;rw[q]at mu;exact nm mu
 refine⟨λb u q n _ _=>k b u (hb b n) q,λb u q n _ _=>⟨u.slots,k b u (hb b n) q⟩,λb u q n _=>by rw[zL (hx b n)];exact n,λb u q _=>?_,
  λb xs q=>by rw[zL (hm b _ q λz=>z)];exact q,λb u xs q=>by rw[zL (hm b _ q λz=>z)];exact q,λb ps q=>⟨#[],by rw[zL (hm b _ q λz=>z),q];simp⟩⟩
 by_cases hbe:b=e
 ·subst hbe;exact heo
 ·exact⟨u,k b u hbe q⟩
end
def trk(h:yT)(H:Hp):List yc:=(yw h.objs.size).filter λa=>(H a).isSome
def zwv(h:yT)(H:Hp):yT:=W.hideAll h (trk h H)
def zXs(h:yT)(H:Hp):(zwv h H).objs.size=h.objs.size:=W.hideAll_size _ _
def zuw{h:yT}{H:Hp}{b:yc}{o:YT}(e:h.get? b=some o)(n:H b=none):(zwv h H).get? b=some o :=
 W.hideAll_get _ e λhm=>by
  have q:(H b).isSome=true:=(List.mem_filter.mp hm).2;rw[n]at q;simp at q
def zHx{h:yT}{H:Hp}{b:yc}{o:YT}(e:(zwv h H).get? b=some o):h.get? b=some o/\H b=none:=by
 have e':h.get? b=some o:=W.of_hideAll (trk h H) e;refine⟨e',?_⟩
 cases q:H b with
 |none=>rfl
 |some x=>
  have hm:b∈trk h H:=List.mem_filter.mpr ⟨List.mem_range.mpr (yk e'),by simp[q]⟩;have z:(zwv h H).get? b=none:=W.hideAll_none (trk h H) hm;rw[z]at e;cases e
def zxx(g h:yT)(L:yc):List (yc×YT):=(yw h.objs.size).filterMap λa=>if a=L\/(g.get? a).isSome=true then none else(h.get? a).map λo=>(a,o)
def rest(g h:yT)(L d:yc):List (yc×YT):=(zxx g h L).filter λp=>decide (p.1≠d)
structure Mod(K:yx)(mg:yt->Option Value)(base:yT):Prop where
 kin:K.In base
 glob:base.Ns yo mg
 blt:∃mb,base.Ns builtinsNs mb/\∀x:yt,x≠"__name__"->mb x=yJ x
 nolimit:base.NoLimit
structure Cx where
 prog:yA
 w:yI
 K:yx
 mg:yt->Option Value
 base:yT
 A:yK
 N:List yt
 s₀:yd
 H₀:Hp
 env:Env
 outer:List Env
 stack:List Env
 ex:List yc
 fn:yt->Bool
 calm:Bool
 pn:List (yc×YT)
 xe:Value->yd->Prop
def frs(l:List Env):List yc:=l.filterMap (·.frame)
abbrev Cx.fs(X:Cx):List yc:=frs X.outer
def Vis(sc:Xm)(x:yt):Prop:=sc.names.lookup x=some .local\/sc.names.lookup x=some .cell\/sc.names.lookup x=some .free
def Loc(sc:Xm)(x:yt):Prop:=sc.names.lookup x=some .local\/sc.names.lookup x=some .cell
def zoC(env:Env)(h:yT)(m:yt->Option Value)(x:yt)(u:Value):Prop :=
 (env.kindOf x=some .local/\m x=some u)\/((env.kindOf x=some .cell\/env.kindOf x=some .free)/\∃c,env.cells.lookup x=some c/\h.IsCell c (some u))
structure Cx.Ok(X:Cx):Prop where
 mod:Mod X.K X.mg X.base
 kind:X.env.scope.kind=.function
 glob:X.env.globals=yo
 blt:X.env.builtins=builtinsNs
 above:X.s₀.heap.objs.size<=X.env.locals
 inj:∀x y c,X.env.cells.lookup x=some c->X.env.cells.lookup y=some c->x=y
 has:∀x,(X.env.kindOf x=some .cell\/X.env.kindOf x=some .free)->∃c,X.env.cells.lookup x=some c
 cab:∀x c,X.fn x=true->X.env.cells.lookup x=some c->X.s₀.heap.objs.size<=c
 hd:X.calm=true->X.A.handled=none
 frames:X.A.frames=some X.stack
 stk:X.stack=X.outer\/(X.stack=X.env::X.outer/\X.env.frame=some X.env.locals)
 exf:∀b∈X.ex,b≠X.env.locals/\∀x c,X.env.cells.lookup x=some c->c≠b
 bs:∀b o,X.base.get? b=some o->X.s₀.heap.get? b=some o/\X.H₀ b=none
 bsz:X.base.objs.size<=X.s₀.heap.objs.size
 SD:∀b o,X.base.get? b=some o->b∉X.ex
 SI:∀b∈X.ex,b∉X.fs
 sx:X.s₀.heap.FunFrames X.base X.outer
 frf:∀b∈X.fs,X.H₀ b=none
structure Inv(X:Cx)(U:List (yc×YT))(Y:List (Option V))(H:Hp)(s:yd):Prop where
 ok:X.Ok
 os:s.os=X.s₀.os
 bare:AllBare s.gens
 base:Un X.fs X.ex X.H₀ H X.s₀.heap s.heap
 loc:∃m,s.heap.Ns X.env.locals m/\∀(i:Nat)(x:yt)(v:V),X.N[i]?=some x->Y[i]?=some (some v)->Vis X.env.scope x->∃u,RelV v u/\zoC X.env s.heap m x u
 cell:∀x c,X.env.cells.lookup x=some c->∃v,s.heap.IsCell c v
 free:H X.env.locals=none
 freeC:∀x c,X.env.cells.lookup x=some c->H c=none
 pin:∀p∈X.pn++U,s.heap.get? p.1=some p.2/\H p.1=none/\p.1≠X.env.locals/\p.1∉X.fs/\∀v,p.2.data≠.cell v
 hok:HOk X.prog X.w H s.heap
 len:Y.length=X.N.length
section
variable {X:Cx}{U:List (yc×YT)}{Y:List (Option V)}{H H':Hp}{s:yd}{h':yT}
def Cx.Ok.nofr(ok:X.Ok){b:yc}{o:YT}(e:X.base.get? b=some o):b∉X.fs:=λhb=>by
 have:=(ok.sx.mem hb).1;rw[e]at this;cases this
def Inv.bs(I:Inv X U Y H s):∀b o,X.base.get? b=some o->s.heap.get? b=some o/\H b=none:=λb o e=>
 ⟨I.base.keep b o (I.ok.bs b o e).1 (I.ok.bs b o e).2 (I.ok.nofr e) (I.ok.SD b o e),I.base.free b o (I.ok.bs b o e).1 (I.ok.bs b o e).2 (I.ok.SD b o e)⟩
def Inv.bk(I:Inv X U Y H s):∀b o,X.base.get? b=some o->s.heap.get? b=some o:=λb o e=>(I.bs b o e).1
def Inv.mod(I:Inv X U Y H s):Mod X.K X.mg X.base:=I.ok.mod
def Inv.kIn(I:Inv X U Y H s):X.K.In s.heap:=I.ok.mod.kin.keeps I.bk
def Inv.fr(I:Inv X U Y H s):∃m,Fr X.base X.env.locals s.heap m :=
 let ⟨m,hn,_⟩:=I.loc
 ⟨m,hn,I.bk,yF I.ok.bsz I.ok.above⟩
def Inv.lt(I:Inv X U Y H s):X.env.locals<s.heap.objs.size:=let ⟨_,hn,_⟩:=I.loc;hn.lt
def Inv.sz(I:Inv X U Y H s):X.s₀.heap.objs.size<=s.heap.objs.size:=yF I.ok.above (YO I.lt)
def Inv.nofs(I:Inv X U Y H s){a:yc}(h:s.heap.objs.size<=a):a∉X.fs:=λhb=>by
 obtain⟨_,o,ho,_⟩:=I.ok.sx.mem hb;exact absurd (yz (yk ho) (yF I.sz h)) (yU _)
def Inv.cne(I:Inv X U Y H s):∀x c,X.env.cells.lookup x=some c->c≠X.env.locals:=λx c e z=>by
 obtain⟨v,o,ho,hd⟩:=I.cell x c e;obtain⟨m,⟨o',es,ep,ho',hd',_⟩,_⟩:=I.loc;rw[z,ho']at ho;cases ho;rw[hd']at hd;cases hd
def Inv.sx(I:Inv X U Y H s):s.heap.FunFrames X.base X.outer:=by
 have all:∀(l:List Env),(∀b∈frs l,b∈X.fs)->X.s₀.heap.FunFrames X.base l->s.heap.FunFrames X.base l:=by
  intro l
  induction l with
  |nil=>intro _ _;trivial
  |cons env r ih=>
   intro hs hl;obtain⟨hk,⟨L,o,hf,hn,ho,hd⟩,hr⟩:=hl;have hL:L∈X.fs:=hs L (by unfold frs;rw[filterMap_cons,hf];exact mem_cons_self);obtain⟨sl,e⟩:=I.base.slot L o ho (I.ok.frf L hL) hL λz=>I.ok.SI L z hL;exact⟨hk,⟨L,_,hf,hn,e,hd⟩,ih (λb hb=>hs b (by unfold frs;rw[filterMap_cons,hf];exact mem_cons_of_mem _ hb)) hr⟩
 exact all X.outer (λ_ hb=>hb) I.ok.sx
def Inv.stack(I:Inv X U Y H s):s.heap.FunFrames X.base X.stack:=by
 rcases I.ok.stk with e|⟨e,hf⟩
 ·rw[e];exact I.sx
 ·rw[e];obtain⟨m,hn,_⟩:=I.loc;refine .cons (by rw[I.ok.kind];decide) hf hn ?_ I.sx;exact Heap.get?_none_of_le (yF I.ok.bsz I.ok.above)
def Inv.sU(I:Inv X U Y H s):∀b∈frs X.stack,b∈X.env.locals::X.fs:=λb hb=>by
 rcases I.ok.stk with e|⟨e,hf⟩
 ·rw[e]at hb;exact mem_cons_of_mem _ hb
 ·rw[e]at hb;unfold frs at hb;rw[filterMap_cons,hf]at hb;exact hb
def Inv.TL(I:Inv X U Y H s):∀b∈frs X.stack,H b=none:=λb hb=>by
 rcases List.mem_cons.mp (I.sU b hb) with e|hb
 ·rw[e];exact I.free
 ·obtain⟨_,o,ho,_⟩:=I.ok.sx.mem hb;exact I.base.free b o ho (I.ok.frf b hb) λz=>I.ok.SI b z hb
def Inv.step{g':Array GenState}{t':Nat}{d':Drawn}{ch:List yc}(I:Inv X U Y H s)
 (hch:∀b∈ch,(b∈X.ex\/X.s₀.heap.objs.size<=b)/\b≠X.env.locals/\(∀x c,X.env.cells.lookup x=some c->c≠b)/\∀p∈X.pn++U,p.1≠b)
 (keep:∀b o,b≠X.env.locals->b∉X.fs->b∉ch->s.heap.get? b=some o->H b=none->h'.get? b=some o)
 (slot:∀b o,b≠X.env.locals->b∈X.fs->b∉ch->s.heap.get? b=some o->H b=none->∃sl,h'.get? b=some {o with slots:=sl }) (free:∀b o,b∉ch->s.heap.get? b=some o->H b=none->H' b=none)
 (there:∀b o,b∉ch->s.heap.get? b=some o->∃o',h'.get? b=some o')
 (tups:∀b xs,H b=some (.tup xs)->H' b=some (.tup xs)) (TK:∀b o u,H b=some (.frz o u)->H' b=some (.frz o u)) (TU:∀b ps,H b=some (.tbl ps)->∃more,H' b=some (.tbl (ps++more)))
 (ns:∀m,s.heap.Ns X.env.locals m->h'.Ns X.env.locals m) (hok:HOk X.prog X.w H' h') (hg:AllBare g') :
 Inv X U Y H' {s with heap:=h',gens:=g',drawn:=d',toks:=t' }:=by
 have neL:∀b o,X.s₀.heap.get? b=some o->b≠X.env.locals:=λb o e=>yu (yz (yk e) I.ok.above)
 have neC:∀b o,X.s₀.heap.get? b=some o->b∉X.ex->b∉ch:=λb o e hx hb=>by
  rcases(hch b hb).1 with z|z
  ·exact hx z
  ·exact absurd (yz (yk e) z) (yU _)
 have cellK:∀x c,X.env.cells.lookup x=some c->∀v,s.heap.IsCell c v->h'.IsCell c v:=λx c e v ⟨o,ho,hd⟩=>by
  have nch:c∉ch:=λz=>(hch c z).2.2.1 x c e rfl
  by_cases hc:c∈X.fs
  ·obtain⟨sl,q⟩:=slot c o (I.cne x c e) hc nch ho (I.freeC x c e);exact⟨_,q,hd⟩
  ·exact⟨o,keep c o (I.cne x c e) hc nch ho (I.freeC x c e),hd⟩
 refine⟨I.ok,I.os,hg,⟨λb o e n hb hx=>?_,λb o e n hb hx=>?_,λb o e n hx=>?_,λb o e hx=>?_,λb xs e=>tups b xs (I.base.tups b xs e),λb o xs e=>TK b o xs (I.base.TK b o xs e),λb ps e=>?_⟩,?_,λx c e=>?_,?_,λx c e=>?_,λp hp=>?_,hok,I.len⟩
 ·exact keep b o (neL b o e) hb (neC b o e hx) (I.base.keep b o e n hb hx) (I.base.free b o e n hx)
 ·obtain⟨sl,e1⟩:=I.base.slot b o e n hb hx;obtain⟨sl',e2⟩:=slot b _ (neL b o e) hb (neC b o e hx) e1 (I.base.free b o e n hx);exact⟨sl',e2⟩
 ·obtain⟨o',e1⟩:=I.base.there b o e hx;exact free b o' (neC b o e hx) e1 (I.base.free b o e n hx)
 ·obtain⟨o',e1⟩:=I.base.there b o e hx;exact there b o' (neC b o e hx) e1
 ·obtain⟨m1,e1⟩:=I.base.TU b ps e;obtain⟨m2,e2⟩:=TU b _ e1;exact⟨m1++m2,by rw[e2,Array.append_assoc]⟩
 ·obtain⟨m,hn,hl⟩:=I.loc;refine⟨m,ns m hn,λi x v e1 e2 e3=>?_⟩;obtain⟨u,r,l⟩:=hl i x v e1 e2 e3;refine⟨u,r,?_⟩;rcases l with l|⟨k,c,e,z⟩
  ·exact .inl l
  ·exact .inr ⟨k,c,e,cellK x c e _ z⟩
 ·obtain⟨v,z⟩:=I.cell x c e;exact⟨v,cellK x c e v z⟩
 ·obtain⟨m,⟨o,_,_,ho,_⟩,_⟩:=I.loc;exact free _ o (λz=>(hch _ z).2.1 rfl) ho I.free
 ·obtain⟨v,o,ho,hd⟩:=I.cell x c e;exact free c o (λz=>(hch c z).2.2.1 x c e rfl) ho (I.freeC x c e)
 ·obtain⟨e,n,ne,nf,d⟩:=I.pin p hp;have nch:p.1∉ch:=λz=>(hch p.1 z).2.2.2 p hp rfl;exact⟨keep p.1 p.2 ne nf nch e n,free p.1 p.2 nch e n,ne,nf,d⟩
def Inv.un{t':Nat}(I:Inv X U Y H s)(u:Un X.fs [] H H' s.heap h')(hok:HOk X.prog X.w H' h'):Inv X U Y H' {s with heap:=h',toks:=t' }:=by
 obtain⟨m,⟨o,es,ep,ho,r⟩,_⟩:=id I.loc;obtain⟨sl,hL⟩:=u.any ho I.free (by simp)
 exact I.step (g':=s.gens) (d':=s.drawn) (ch:=[]) (λ_ z=>nomatch z) (λb o _ hb _ e n=>u.keep b o e n hb (by simp)) (λb o _ hb _ e n=>u.slot b o e n hb (by simp)) (λb o _ e n=>u.free b o e n (by simp)) (λb o _ e=>u.there b o e (by simp)) u.tups u.TK u.TU (λm' hm=>by
  obtain⟨o',es',ep',ho',r'⟩:=hm;rw[ho]at ho';cases ho';exact⟨_,es',ep',hL,r'⟩) hok I.bare
def Inv.call{g':Array GenState}{t':Nat}{d':Drawn}{ch:List yc}(I:Inv X U Y H s)(u:Un (frs X.stack) ch H H' s.heap h')(hok:HOk X.prog X.w H' h')(hg:AllBare g')
 (hch:∀b∈ch,(b∈X.ex\/X.s₀.heap.objs.size<=b)/\b≠X.env.locals/\(∀x c,X.env.cells.lookup x=some c->c≠b)/\∀p∈X.pn++U,p.1≠b) :
 Inv X U Y H' {s with heap:=h',gens:=g',drawn:=d',toks:=t' }:=by
 obtain⟨m,⟨o,es,ep,ho,r⟩,_⟩:=id I.loc;obtain⟨sl,hL⟩:=u.any ho I.free λz=>(hch _ z).2.1 rfl
 exact I.step (ch:=ch) hch (λb o hL hb hc e n=>u.keep b o e n (λz=>(List.mem_cons.mp (I.sU b z)).elim hL hb) hc) (λb o _ _ hc e n=>u.any e n hc) (λb o hc e n=>u.free b o e n hc) (λb o hc e=>u.there b o e hc) u.tups u.TK u.TU (λm' hm=>by
  obtain⟨o',es',ep',ho',r'⟩:=hm;rw[ho]at ho';cases ho';exact⟨_,es',ep',hL,r'⟩) hok hg
def Inv.turned{t':Nat}{it:yc}(I:Inv X U Y H s)(k:∀b o,b≠it->s.heap.get? b=some o->h'.get? b=some o)(hn:H it=none)(hL:it≠X.env.locals)
 (h1:it∈X.ex\/X.s₀.heap.objs.size<=it) (h2:∀x c,X.env.cells.lookup x=some c->c≠it) (h3:∀p∈X.pn++U,p.1≠it):Inv X U Y H {s with heap:=h',toks:=t' }:=by
 have nit:∀b u,H b=some u->b≠it:=λb u e z=>by rw[z,hn]at e;cases e
 refine I.step (g':=s.gens) (d':=s.drawn) (ch:=[it]) (λb hb=>?_) (λb o _ _ hc e _=>k b o (λz=>hc (by simp[z])) e) (λb o _ _ hc e _=>⟨o.slots,k b o (λz=>hc (by simp[z])) e⟩) (λ_ _ _ _ n=>n)
  (λb o hc e=>⟨o,k b o (λz=>hc (by simp[z])) e⟩) (λ_ _ e=>e) (λ_ _ _ e=>e) (λb ps e=>⟨#[],by rw[e];simp⟩) (λm hm=>?_) (λb u e=>?_) I.bare
 ·have e:b=it:=by simpa using hb
  subst e;exact⟨h1,hL,h2,h3⟩
 ·obtain⟨o,es,ep,ho,r⟩:=hm;exact⟨o,es,ep,k _ o (yV hL) ho,r⟩
 ·refine(I.hok b u e).stay (λc v hc q=>k c v ?_ q) (λ_ q=>q) λ_ _ q=>q;rcases hc with z|z
  ·rw[z];exact nit b u e
  ·exact nit c _ z
def Inv.tok(I:Inv X U Y H s)(t:Nat):Inv X U Y H {s with toks:=t }:=I.un (h':=s.heap) (t':=t) Un.refl I.hok
def Inv.kept{t':Nat}(I:Inv X U Y H s)(k:∀b u,s.heap.get? b=some u->h'.get? b=some u):Inv X U Y H {s with heap:=h',toks:=t' }:=I.un (Un.kept k) (I.hok.kept k)
def Inv.laid{a:yc}{o:HO}{t':Nat}(I:Inv X U Y H s)(k:∀b u,s.heap.get? b=some u->h'.get? b=some u)(hp:s.heap.objs.size<=a)(new:tG X.prog X.w (upd H a o) h' a o) :
 Inv X U Y (upd H a o) {s with heap:=h',toks:=t' }:=I.un (Un.laid k hp (I.hok.fresh hp)) (I.hok.laid k hp new)
def Inv.write{x e:yc}{o:HO}{t':Nat}(I:Inv X U Y H s)(mu:Mut (H x))(he:e=x\/H e=some (.own x))(k:∀b u,b≠e->s.heap.get? b=some u->h'.get? b=some u)(heo:∃u,h'.get? e=some u)
 (new:tG X.prog X.w (upd H x o) h' x o):Inv X U Y (upd H x o) {s with heap:=h',toks:=t' }:=I.un (Un.write mu he k heo) (I.hok.write mu he k heo new)
def Inv.weak{Y':List (Option V)}(I:Inv X U Y H s)(hl:Y'.length=Y.length)(w:∀(i:Nat) v,Y'[i]?=some (some v)->Y[i]?=some (some v)):Inv X U Y' H s :=
 ⟨I.ok,I.os,I.bare,I.base,let ⟨m,hn,hl'⟩:=I.loc;⟨m,hn,λi x v e1 e2 e3=>hl' i x v e1 (w i v e2) e3⟩,I.cell,I.free,I.freeC,I.pin,I.hok,hl.trans I.len⟩
def Inv.sV{U':List (yc×YT)}(I:Inv X U Y H s)(h:∀p∈U',s.heap.get? p.1=some p.2/\H p.1=none/\p.1≠X.env.locals/\p.1∉X.fs/\∀v,p.2.data≠.cell v):Inv X U' Y H s :=
 ⟨I.ok,I.os,I.bare,I.base,I.loc,I.cell,I.free,I.freeC,λp hp=>(List.mem_append.mp hp).elim (λz=>I.pin p (mem_append_left _ z)) (h p),I.hok,I.len⟩
def z8n{N:List yt}(hN:N.Nodup){i j:Nat}{x:yt}(a:N[i]?=some x)(b:N[j]?=some x):i=j:=by
 obtain⟨h1,e1⟩:=List.getElem?_eq_some_iff.mp a;obtain⟨h2,e2⟩:=List.getElem?_eq_some_iff.mp b;exact(List.getElem_inj hN).mp (e1.trans e2.symm)
def zzp{M:Model}{A:yK}{E:Value->yd->Prop}{i:Nat}{x:yt}{v:V}{u:Value}{Q:Unit->yd->Prop}(I:Inv X U Y H s)(hN:X.N.Nodup)(hi:X.N[i]?=some x)(hx:Loc X.env.scope x)(r:RelV v u)
 (h:∀s',Inv X U (Y.set i (some v)) H s'->(∃a,Yp a s.heap s'.heap/\(a=X.env.locals\/X.env.cells.lookup x=some a))->Q () s') (hf:X.fn x=true\/X.env.scope.names.lookup x=some .local:=by first|exact .inl rfl|exact .inr rfl|assumption):yn M A (storeName X.env x u) Q E s:=by
 obtain⟨m,hn,hl⟩:=id I.loc;have hcls:(X.env.scope.kind == .class||(X.env.scope.kind == .module&&X.env.locals != X.env.globals))=false:=by rw[I.ok.kind];rfl
 have hiσ:i<Y.length:=by rw[I.len];exact(List.getElem?_eq_some_iff.mp hi).1
 have cne:=I.cne
 have tracked:∀{a:yc} {h':yT},(∃o,s.heap.get? a=some o/\H a=none)->Yp a s.heap h'->HOk X.prog X.w H h':=λ{a h'} ha hs b ob e=>by
  obtain⟨_,_,hfree⟩:=ha;refine(I.hok b ob e).stay (λc w' hc q=>(hs.2 c ?_).trans q) (λ_ q=>q) λ_ _ q=>q;rintro rfl;rcases hc with rfl|hc
  ·rw[hfree]at e;cases e
  ·rw[hfree]at hc;cases hc
 rcases hx with hk|hk
 ·refine wpAny_storeName_local hk hn (λh' hn' hs=>?_) hcls;obtain⟨oL,_,_,hoL,_⟩:=id hn;refine h _ ⟨I.ok,I.os,I.bare,⟨λb o e n hb hx=>?_,λb o e n hb hx=>?_,I.base.free,λb o e hx=>?_,I.base.tups,I.base.TK,I.base.TU⟩,⟨_,hn',λj y v' e1 e2 e3=>?_⟩,λy c e=>?_,I.free,I.freeC,λp hp=>?_,tracked ⟨oL,hoL,I.free⟩ hs,by simpa using I.len⟩ ⟨_,hs,.inl rfl⟩
  ·exact(hs.2 b (yu (yz (yk e) I.ok.above))).trans (I.base.keep b o e n hb hx)
  ·obtain⟨sl,e1⟩:=I.base.slot b o e n hb hx;exact⟨sl,(hs.2 b (yu (yz (yk e) I.ok.above))).trans e1⟩
  ·obtain⟨o',e1⟩:=I.base.there b o e hx;exact⟨o',(hs.2 b (yu (yz (yk e) I.ok.above))).trans e1⟩
  ·by_cases hj:j=i
   ·subst hj;rw[hi]at e1;cases e1;rw[yO hiσ]at e2;cases e2;exact⟨u,r,.inl ⟨hk,by simp⟩⟩
   ·rw[yL (yV hj)]at e2;obtain⟨u',r',q⟩:=hl j y v' e1 e2 e3;refine⟨u',r',?_⟩;rcases q with ⟨k,e⟩|⟨k,c,e,z⟩
    ·refine .inl ⟨k,?_⟩;have:y≠x:=λe=>hj (z8n hN e1 (e▸hi));simp[this,e]
    ·exact .inr ⟨k,c,e,z.sameBut hs (cne y c e)⟩
  ·obtain⟨w',z⟩:=I.cell y c e;exact⟨w',z.sameBut hs (cne y c e)⟩
  ·obtain⟨e,n,ne,nf,d⟩:=I.pin p hp;exact⟨(hs.2 p.1 ne).trans e,n,ne,nf,d⟩
 ·have hfn:X.fn x=true:=by
   rcases hf with z|z
   ·exact z
   ·rw[z]at hk;cases hk
  obtain⟨c,hc⟩:=I.ok.has x (.inl hk);obtain⟨w',z⟩:=I.cell x c hc;refine wpAny_storeName_cell I.ok.kind hk hc z (λh' hc' hs=>?_);obtain⟨oc,hoc,hocd⟩:=id z;refine h {s with heap:=h' } ⟨I.ok,I.os,I.bare,⟨λb o e n hb hx=>?_,λb o e n hb hx=>?_,I.base.free,λb o e hx=>?_,I.base.tups,I.base.TK,I.base.TU⟩,⟨m,hn.sameBut hs (yV (cne x c hc)),λj y v' e1 e2 e3=>?_⟩,λy c' e=>?_,I.free,I.freeC,λp hp=>?_,tracked ⟨oc,hoc,I.freeC x c hc⟩ hs,by simpa using I.len⟩ ⟨c,hs,.inr hc⟩
  ·exact(hs.2 b (yu (yz (yk e) (I.ok.cab x c hfn hc)))).trans (I.base.keep b o e n hb hx)
  ·obtain⟨sl,e1⟩:=I.base.slot b o e n hb hx;exact⟨sl,(hs.2 b (yu (yz (yk e) (I.ok.cab x c hfn hc)))).trans e1⟩
  ·obtain⟨o',e1⟩:=I.base.there b o e hx;exact⟨o',(hs.2 b (yu (yz (yk e) (I.ok.cab x c hfn hc)))).trans e1⟩
  ·by_cases hj:j=i
   ·subst hj;rw[hi]at e1;cases e1;rw[yO hiσ]at e2;cases e2;exact⟨u,r,.inr ⟨.inl hk,c,hc,hc'⟩⟩
   ·rw[yL (yV hj)]at e2;obtain⟨u',r',q⟩:=hl j y v' e1 e2 e3;refine⟨u',r',?_⟩;rcases q with q|⟨k,c',e,z'⟩
    ·exact .inl q
    ·refine .inr ⟨k,c',e,z'.sameBut hs ?_⟩;rintro rfl;exact hj (z8n hN e1 (I.ok.inj _ _ _ e hc▸hi))
  ·by_cases hcc:c'=c
   ·subst hcc;exact⟨_,hc'⟩
   ·obtain⟨w2,z2⟩:=I.cell y c' e;exact⟨w2,z2.sameBut hs hcc⟩
  ·obtain⟨e,n,ne,nf,d⟩:=I.pin p hp;refine⟨(hs.2 p.1 ?_).trans e,n,ne,nf,d⟩;intro q;rw[q,hoc]at e;have q':oc=p.2:=Yj e;exact d w' (by rw[<-q'];exact hocd)
def zDi{M:Model}{A:yK}{E:Value->yd->Prop}{i:Nat}{x:yt}{v:V}{u:Value}{Q:Unit->yd->Prop}(I:Inv X U Y H s)(hN:X.N.Nodup)(hi:X.N[i]?=some x)(hx:Loc X.env.scope x)(r:RelV v u)
 (h:∀s',Inv X U (Y.set i (some v)) H s'->Q () s') (hf:X.fn x=true\/X.env.scope.names.lookup x=some .local:=by first|exact .inl rfl|exact .inr rfl|assumption):yn M A (storeName X.env x u) Q E s :=
 zzp I hN hi hx r (λs' I' _=>h s' I') hf
def Inv.Sx{s':yd}{ch:List yc}(I:Inv X U Y H s)(ho:s'.os=s.os)(u:Un (frs X.stack) ch H H' s.heap s'.heap)(hok:HOk X.prog X.w H' s'.heap)(hg:AllBare s'.gens)
 (hch:∀b∈ch,(b∈X.ex\/X.s₀.heap.objs.size<=b)/\b≠X.env.locals/\(∀x c,X.env.cells.lookup x=some c->c≠b)/\∀p∈X.pn++U,p.1≠b):Inv X U Y H' s':=by
 obtain⟨h',g',d',t',o'⟩:=s';have e:o'=s.os:=ho;subst e;exact I.call (g':=g') (t':=t') (d':=d') u hok hg hch
end
abbrev XK:=Value->Option yc->Hp->Prop
abbrev St:=List (Option V)
abbrev VK:=V->Hp->Prop
abbrev TE:=St->Hp->VK->Prop
abbrev TT:=St->Hp->(Bool->Hp->Prop)->Prop
abbrev TA:=St->Hp->(List V->Hp->Prop)->Prop
structure Ends where
 nx:St->Hp->Prop
 rt:VK
 bk:St->Hp->Prop:=λ_ _=>False
 ct:St->Hp->Prop:=λ_ _=>False
abbrev TS:=Ends->St->Hp->Prop
def EP(X:Cx)(U:List (yc×YT))(Y:St)(Q:VK)(u:Value)(s':yd):Prop:=∃v H',Inv X U Y H' s'/\RelV v u/\Q v H'
def TP(X:Cx)(U:List (yc×YT))(Y:St)(Q:Bool->Hp->Prop)(b:Bool)(s':yd):Prop:=∃H',Inv X U Y H' s'/\Q b H'
def AP(X:Cx)(U:List (yc×YT))(Y:St)(Q:List V->Hp->Prop)(us:List Value)(s':yd):Prop:=∃vs H',Inv X U Y H' s'/\Vals vs us/\Q vs H'
def SP(X:Cx)(U:List (yc×YT))(D:Ends)(f:Flow)(s':yd):Prop :=
 match f with
 |.next=>∃Y' H',Inv X U Y' H' s'/\D.nx Y' H'
 |.brk=>∃Y' H',Inv X U Y' H' s'/\D.bk Y' H'
 |.cont=>∃Y' H',Inv X U Y' H' s'/\D.ct Y' H'
 |.ret u=>∃v Y' H',Inv X U Y' H' s'/\RelV v u/\D.rt v H'
def PE(X:Cx)(e:yE)(t:TE):Prop :=
 ∀(U:List (yc×YT)) (s:yd) (Y:St) (H:Hp) (Q:VK),Inv X U Y H s->t Y H Q->yn (yv X.prog X.w) X.A (Ye e X.env) (EP X U Y Q) X.xe s
def PT(X:Cx)(e:yE)(t:TT):Prop :=
 ∀(U:List (yc×YT)) (s:yd) (Y:St) (H:Hp) (Q:Bool->Hp->Prop),Inv X U Y H s->t Y H Q->yn (yv X.prog X.w) X.A (isTrue e X.env (Ye e X.env)) (TP X U Y Q) X.xe s
def PW(X:Cx)(e:yE)(t:TT):Prop :=
 ∀(whole:Sem Value)(U:List (yc×YT)) (s:yd) (Y:St) (H:Hp) (Q:Bool->Hp->Prop),Inv X U Y H s->t Y H Q->yn (yv X.prog X.w) X.A (isTrue e X.env whole) (TP X U Y Q) X.xe s
def PA(X:Cx)(es:List yE)(t:TA):Prop :=
 ∀(pos:xp)(U:List (yc×YT)) (s:yd) (Y:St) (H:Hp) (Q:List V->Hp->Prop),Inv X U Y H s->t Y H Q->yn (yv X.prog X.w) X.A (spliced (Ym pos (yj es X.env))) (AP X U Y Q) X.xe s
def PS(X:Cx)(st:Yb)(t:TS):Prop :=
 ∀(U:List (yc×YT)) (s:yd) (Y:St) (H:Hp) (D:Ends),Inv X U Y H s->t D Y H->yn (yv X.prog X.w) X.A (exec st X.env) (SP X U D) X.xe s
def PSs(X:Cx)(st:List Yb)(t:TS):Prop :=
 ∀(U:List (yc×YT)) (s:yd) (Y:St) (H:Hp) (D:Ends),Inv X U Y H s->t D Y H->yn (yv X.prog X.w) X.A (execs st X.env) (SP X U D) X.xe s
def thn{α:Type}{t:Sem α}{Q Q':α->yd->Prop}{M:Model}{A:yK}{E:Value->yd->Prop}{s:yd}(h:yn M A t Q E s)(hQ:∀a s,Q a s->Q' a s):yn M A t Q' E s:=yS h hQ λ_ _ x=>x
section
variable {X:Cx}
def zRB(i:Nat):TE:=λY H Q=>∃v,Y[i]?=some (some v)/\Q v H
def tC(v:V):TE:=λ_ H Q=>Q v H
def zQw{i:Nat}{x:yt}{pos:xp}(hN:X.N[i]?=some x)(hv:Vis X.env.scope x)(hd:(x==("__debug__":yt))=false:=by decide)(hcd:(x==("__classdict__":yt))=false:=by decide):PE X (.Name x pos) (zRB i):=by
 intro U s Y H Q I h;obtain⟨v,e,h⟩:=h;obtain⟨m,hn,hl⟩:=I.loc;obtain⟨u,r,l⟩:=hl i x v hN e hv;have fin:EP X U Y Q u s:=⟨v,H,I,r,h⟩
 rcases l with ⟨hk,hm⟩|⟨hk,c,hc,hcell⟩
 ·exact wpAny_Name (wpAny_loadName_local I.ok.kind hk hn hm fin) hd
 ·rcases hk with hk|hk
  ·exact wpAny_Name (wpAny_loadName_cell I.ok.kind hk hc hcell fin) hd
  ·exact wpAny_Name (wpAny_loadName_free I.ok.kind hk hc hcell fin hcd) hd
def zMA{i j pos}:PE X (.Constant (.int i) j pos) (tC (.int i)):=λ_ _ _ H _ I h=>wpAny_Constant_int ⟨.int i,H,I.tok _,⟨_,rfl⟩,h⟩
def zTB{b j pos}:PE X (.Constant (.bool b) j pos) (tC (.bl b)):=λ_ _ _ H _ I h=>Constant_bool ⟨.bl b,H,I,rfl,h⟩
def zBA{j pos}:PE X (.Constant .none j pos) (tC .non):=λ_ _ _ H _ I h=>Constant_none ⟨.non,H,I,rfl,h⟩
def zuA{x j pos}:PE X (.Constant (.str x) j pos) (tC (.str x)):=λ_ _ _ H _ I h=>Calls.Constant_str ⟨.str x,H,I.tok _,⟨_,rfl⟩,h⟩
def Gl(X:Cx)(x:yt):Prop:=X.env.kindOf x=some .globalImplicit
def zpg{E:Value->yd->Prop}{U:List (yc×YT)}{s:yd}{Y:St}{H:Hp}{x:yt}{u:Value}{pos:xp}{Q:Value->yd->Prop}(I:Inv X U Y H s)(hg:Gl X x)(hm:X.mg x=some u)(h:Q u s)
 (hd:(x==("__debug__":yt))=false:=by decide):yn (yv X.prog X.w) X.A (Ye (.Name x pos) X.env) Q E s :=
 Calls.Name_function_global I.ok.kind hg (Calls.loadGlobal_global (by rw[I.ok.glob];exact I.mod.glob.keeps I.bk) hm h) hd
def zal{E:Value->yd->Prop}{U:List (yc×YT)}{s:yd}{Y:St}{H:Hp}{x:yt}{u:Value}{pos:xp}{Q:Value->yd->Prop}(I:Inv X U Y H s)(hg:Gl X x)(hm:X.mg x=none)(hv:yJ x=some u)(h:Q u s)
 (hn:x≠"__name__":=by decide) (hd:(x==("__debug__":yt))=false:=by decide):yn (yv X.prog X.w) X.A (Ye (.Name x pos) X.env) Q E s:=by
 obtain⟨mb,h1,h2⟩:=I.mod.blt;exact Calls.Name_function_global I.ok.kind hg (Calls.loadGlobal_builtin (by rw[I.ok.glob];exact I.mod.glob.keeps I.bk) hm (by rw[I.ok.blt];exact h1.keeps I.bk) ((h2 x hn).trans hv) h) hd
def zwy{x:yt}{v:V}{u:Value}{pos:xp}(hg:Gl X x)(hm:X.mg x=some u)(r:RelV v u)(hd:(x==("__debug__":yt))=false:=by decide):PE X (.Name x pos) (tC v) :=
 λ_ _ _ H _ I h=>zpg I hg hm ⟨v,H,I,r,h⟩ hd
def zAy{x:yt}{v:V}{u:Value}{pos:xp}(hg:Gl X x)(hm:X.mg x=none)(hv:yJ x=some u)(r:RelV v u)(hn:x≠"__name__":=by decide)(hd:(x==("__debug__":yt))=false:=by decide):PE X (.Name x pos) (tC v) :=
 λ_ _ _ H _ I h=>zal I hg hm hv ⟨v,H,I,r,h⟩ hn hd
variable {a b:yE}{ta tb:TE}{pos:xp}
def Sd(b:yE){op:CmpOp}(h:op≠.In)(h2:op≠.NotIn):behindInMarks op b=false:=by
 have e1:(op==CmpOp.In)=false:=by cases op<;>first|rfl|exact absurd rfl h
 have e2:(op==CmpOp.NotIn)=false:=by cases op<;>first|rfl|exact absurd rfl h2
 cases b<;>simp[behindInMarks,e1,e2]
def tB(t:TE):TT:=λY H Q=>t Y H λx H1=>∃c,x=.bl c/\Q c H1
def zrz{e:yE}{t:TE}(h:PE X e t)(he:∀whole,isTrue e X.env whole=(do let v <-whole;standAt e.pos;xt [v] (truthy v)):=by intro _;rfl):PT X e (tB t):=by
 intro U s Y H Q I hw;refine isTrue_plain (thn (h U s Y H _ I hw) λv s1 ⟨x,H1,I1,r1,q1⟩=>?_) (he _);obtain⟨d,rfl,q⟩:=q1;cases r1;exact xG ⟨H1,I1,q⟩
variable {tA tB':TT}{rest:List yE}
def zDC(t u:TT):TT:=λY H Q=>t Y H λc H1=>if c=true then u Y H1 Q else Q false H1
def tOr(t u:TT):TT:=λY H Q=>t Y H λc H1=>if c=true then Q true H1 else u Y H1 Q
def zhC(t:TT):TT:=λY H Q=>t Y H λc H1=>Q (!c) H1
def zky(ha:PT X a tA):PW X (.BoolOp .And [a] pos) tA:=by
 intro wh U s Y H Q I h;refine isTrue_and (thn (ha U s Y H Q I h) λc s1 e=>?_)
 cases c with
 |true=>exact isTrue_and_nil e
 |false=>exact e
def zsA(ha:PT X a tA):PW X (.BoolOp .Or [a] pos) tA:=by
 intro wh U s Y H Q I h;refine isTrue_or (thn (ha U s Y H Q I h) λc s1 e=>?_)
 cases c with
 |false=>exact isTrue_or_nil e
 |true=>exact e
def zVz(ha:PT X a tA)(hb:PW X (.BoolOp .And (b::rest) pos) tB'):PW X (.BoolOp .And (a::b::rest) pos) (zDC tA tB'):=by
 intro wh U s Y H Q I h;refine isTrue_and (thn (ha U s Y H _ I h) λc s1 ⟨H1,I1,q1⟩=>?_)
 cases c with
 |true=>exact hb wh U s1 Y H1 Q I1 q1
 |false=>exact⟨H1,I1,q1⟩
def z5A(ha:PT X a tA)(hb:PW X (.BoolOp .Or (b::rest) pos) tB'):PW X (.BoolOp .Or (a::b::rest) pos) (tOr tA tB'):=by
 intro wh U s Y H Q I h;refine isTrue_or (thn (ha U s Y H _ I h) λc s1 ⟨H1,I1,q1⟩=>?_)
 cases c with
 |true=>exact⟨H1,I1,q1⟩
 |false=>exact hb wh U s1 Y H1 Q I1 q1
def z3z(ha:PT X a tA):PT X (.UnaryOp .Not a pos) (zhC tA):=by
 intro U s Y H Q I h;exact isTrue_not (ha U s Y H (λc H1=>Q (!c) H1) I h)
def z3A(ta tb:TE):TE:=λY H Q=>ta Y H λx H1=>∃c,x=.bl c/\if c=true then tb Y H1 Q else Q (.bl false) H1
def zgC(ta tb:TE):TE:=λY H Q=>ta Y H λx H1=>∃c,x=.bl c/\if c=true then Q (.bl true) H1 else tb Y H1 Q
def zyA{op}{t:TE}(h:PE X a t):PE X (.BoolOp op [a] pos) t:=λU s Y H Q I hw=>BoolOp_one (h U s Y H Q I hw)
def zmA(ha:PE X a ta)(hb:PE X (.BoolOp .And (b::rest) pos) tb):PE X (.BoolOp .And (a::b::rest) pos) (z3A ta tb):=by
 intro U s Y H Q I h;refine BoolOp_and (thn (ha U s Y H _ I h) λv s1 ⟨x,H1,I1,r1,q1⟩=>?_);obtain⟨c,rfl,q1⟩:=q1;cases r1;refine xG ?_
 cases c with
 |true=>exact hb U s1 Y H1 Q I1 q1
 |false=>exact⟨.bl false,H1,I1,rfl,q1⟩
def zNB(ha:PE X a ta)(hb:PE X (.BoolOp .Or (b::rest) pos) tb):PE X (.BoolOp .Or (a::b::rest) pos) (zgC ta tb):=by
 intro U s Y H Q I h;refine BoolOp_or (thn (ha U s Y H _ I h) λv s1 ⟨x,H1,I1,r1,q1⟩=>?_);obtain⟨c,rfl,q1⟩:=q1;cases r1;refine xG ?_
 cases c with
 |false=>exact hb U s1 Y H1 Q I1 q1
 |true=>exact⟨.bl true,H1,I1,rfl,q1⟩
end
def SqL(K:yx)(H:Hp)(a:yc)(xs:List V):Prop :=
 Rd H a (.lst xs) \/
  ∃(o:YT)(its:Array Value)(n:Nat),K.lookup a=some o/\o.cls=.type "list"/\o.dict=none/\o.data=.seq its n/\its.size<=yD/\Vals xs its.toList
def SqT(K:yx)(H:Hp)(a:yc)(xs:List V):Prop :=
 Rd H a (.tup xs) \/
  ∃(o:YT)(its:Array Value)(n:Nat),K.lookup a=some o/\o.cls=.type "tuple"/\o.data=.seq its n/\its.size<=yD/\Vals xs its.toList
def zLC:Value->Option V
 |.none=>some .non
 |.bool b=>some (.bl b)
 |.int i _=>some (.int i)
 |.str x _=>some (.str x)
 |.bytes b _=>some (.byt b)
 |.float b _=>some (.flt b)
 |.ref a=>some (.ref a)
 |.type n=>some (.ty n)
 |_=>none
def RelV.abs{x:V}{u:Value}(r:RelV x u):zLC u=some x:=by
 cases x with
 |non=>cases r;rfl
 |bl _=>cases r;rfl
 |int _=>obtain⟨t,rfl⟩:=r;rfl
 |str _=>obtain⟨t,rfl⟩:=r;rfl
 |byt _=>obtain⟨t,rfl⟩:=r;rfl
 |flt _=>obtain⟨t,rfl⟩:=r;rfl
 |ref _=>cases r;rfl
 |ty _=>cases r;rfl
def RelV.inj{x y:V}{u:Value}(r:RelV x u)(q:RelV y u):x=y:=Yj (r.abs.symm.trans q.abs)
def Vals.inj{xs ys:List V}{us:List Value}(h:Vals xs us):Vals ys us->xs=ys:=by
 induction h generalizing ys with
 |nil=>intro h;cases h;rfl
 |cons r _ ih=>
  intro h
  cases h with
  |cons r' t'=>rw[r.inj r',ih t']
section
variable {X:Cx}{U:List (yc×YT)}{Y:St}{H:Hp}{s:yd}{a:yc}{xs ys:List V}
def SqL.of{K:yx}(h:H a=some (.lst xs)):SqL K H a xs:=.inl (.inl h)
def SqT.of{K:yx}(h:H a=some (.tup xs)):SqT K H a xs:=.inl (.inl h)
def Inv.list(I:Inv X U Y H s)(h:SqL X.K H a xs):∃its:List Value,Vals xs its/\PlainL s.heap a its.toArray/\xs.length<=yD:=by
 rcases h with h|⟨o,its,n,hk,hc,hd,hs,hz,r⟩
 ·obtain⟨z,its,n,r,e⟩:=h.ok I.hok;exact⟨its,r,⟨_,n,e,rfl,rfl,rfl⟩,z⟩
 ·refine⟨its.toList,r,⟨o,n,I.kIn a o hk,hc,hd,by simpa using hs⟩,?_⟩;have e:=r.length;simp only[Array.length_toList]at e;omega
def Inv.tuple(I:Inv X U Y H s)(h:SqT X.K H a xs):∃its:List Value,Vals xs its/\IsTup s.heap a its.toArray/\xs.length<=yD:=by
 rcases h with h|⟨o,its,n,hk,hc,hs,hz,r⟩
 ·obtain⟨z,its,r,p⟩:=h.ok I.hok;exact⟨its,r,p,z⟩
 ·refine⟨its.toList,r,⟨o,I.kIn a o hk,hc,n,by simpa using hs⟩,?_⟩;have e:=r.length;simp only[Array.length_toList]at e;omega
def Inv.Se(I:Inv X U Y H s)(h:SqL X.K H a xs)(h':SqL X.K H a ys):xs=ys:=by
 obtain⟨its,r,⟨o,n,e,_,_,d⟩,_⟩:=I.list h;obtain⟨its',r',⟨o',n',e',_,_,d'⟩,_⟩:=I.list h';rw[e]at e';cases e';rw[d]at d';injection d' with d1 _;have:its=its':=by simpa using congrArg Array.toList d1
 subst this;exact r.inj r'
def Inv.sQ(I:Inv X U Y H s)(h:SqT X.K H a xs)(h':SqT X.K H a ys):xs=ys:=by
 obtain⟨its,r,⟨o,e,_,n,d⟩,_⟩:=I.tuple h;obtain⟨its',r',⟨o',e',_,n',d'⟩,_⟩:=I.tuple h';rw[e]at e';cases e';rw[d]at d';injection d' with d1 _;have:its=its':=by simpa using congrArg Array.toList d1
 subst this;exact r.inj r'
end
abbrev Cx.sG(X:Cx)(E:Value->yd->Prop):Cx:={X with xe:=E }
abbrev Cx.nox(X:Cx):Cx:=X.sG λ_ _=>False
def Cx.Ok.sG{X:Cx}(ok:X.Ok)(E:Value->yd->Prop):(X.sG E).Ok :=
 ⟨ok.mod,ok.kind,ok.glob,ok.blt,ok.above,ok.inj,ok.has,ok.cab,ok.hd,ok.frames,ok.stk,ok.exf,ok.bs,ok.bsz,ok.SD,ok.SI,ok.sx,ok.frf⟩
def Cx.Ok.TD{X:Cx}{E:Value->yd->Prop}(ok:(X.sG E).Ok):X.Ok :=
 ⟨ok.mod,ok.kind,ok.glob,ok.blt,ok.above,ok.inj,ok.has,ok.cab,ok.hd,ok.frames,ok.stk,ok.exf,ok.bs,ok.bsz,ok.SD,ok.SI,ok.sx,ok.frf⟩
section
variable {X:Cx}{U:List (yc×YT)}{Y:St}{H:Hp}{s:yd}{E:Value->yd->Prop}
def Inv.sG(I:Inv X U Y H s)(E:Value->yd->Prop):Inv (X.sG E) U Y H s:=⟨I.ok.sG E,I.os,I.bare,I.base,I.loc,I.cell,I.free,I.freeC,I.pin,I.hok,I.len⟩
def Inv.TD(I:Inv (X.sG E) U Y H s):Inv X U Y H s:=⟨I.ok.TD,I.os,I.bare,I.base,I.loc,I.cell,I.free,I.freeC,I.pin,I.hok,I.len⟩
def SP.TD{D:Ends}{f:Flow}{s':yd}(h:SP (X.sG E) U D f s'):SP X U D f s':=by
 cases f with
 |next=>obtain⟨Y',H',I,q⟩:=h;exact⟨Y',H',I.TD,q⟩
 |brk=>obtain⟨Y',H',I,q⟩:=h;exact⟨Y',H',I.TD,q⟩
 |cont=>obtain⟨Y',H',I,q⟩:=h;exact⟨Y',H',I.TD,q⟩
 |ret u=>obtain⟨v,Y',H',I,r,q⟩:=h;exact⟨v,Y',H',I.TD,r,q⟩
def PSs.nox{st:List Yb}{t:TS}(h:PSs X.nox st t):PSs X st t:=λU s Y H D I hw=>
 yS (h U s Y H D (I.sG _) hw) (λ_ _ q=>q.TD) λ_ _ z=>YC z
variable {st:Yb}{rest:List Yb}{t u:TS}{e:yE}{te:TE}{pos:xp}
def zWB:TS:=λD Y H=>D.nx Y H
def zeC(t u:TS):TS:=λD Y H=>t {D with nx:=u D } Y H
def zKy:PSs X [] zWB:=λ_ _ Y H _ I h=>Xd ⟨Y,H,I,h⟩
def zUq(h1:PS X st t)(h2:PSs X rest u):PSs X (st::rest) (zeC t u):=by
 intro U s Y H D I h;refine wpAny_execs_cons (thn (h1 U s Y H {D with nx:=u D } I h) λf s1 q=>?_)
 cases f with
 |next=>
  obtain⟨Y',H',I',q⟩:=q;exact h2 U s1 Y' H' D I' q
 |ret v=>exact q
 |brk=>exact q
 |cont=>exact q
def zYs(h1:PS X st t):PSs X [st] t:=by
 intro U s Y H D I h;refine wpAny_execs_cons (thn (h1 U s Y H D I h) λf s1 q=>?_)
 cases f with
 |next=>exact Xd q
 |ret v=>exact q
 |brk=>exact q
 |cont=>exact q
def Inv.quiet{U:List (yc×YT)}{Y:St}{H:Hp}{s:yd}(I:Inv X U Y H s):interactive X.env=false:=by simp[interactive,I.ok.kind]
def zFB(te:TE):TS:=λD Y H=>te Y H λ_ H1=>D.nx Y H1
def zFt(he:PE X e te)(hs:xQ e none pos.line X.env=pure false:=by rfl):PS X (.Expr e pos) (zFB te):=by
 intro U s Y H D I h;exact wpAny_Expr_any (thn (he U s Y H _ I h) λv s1 ⟨x,H1,I1,r1,q1⟩=>⟨Y,H1,I1,q1⟩) I.quiet hs
def zGC(te:TE):TS:=λD Y H=>te Y H D.rt
def zAz(he:PE X e te):PS X (.Return (some e) pos) (zGC te):=by
 intro U s Y H D I h;exact wpAny_Return_some (thn (he U s Y H _ I h) λv s1 ⟨x,H1,I1,r1,q1⟩=>⟨x,Y,H1,I1,r1,q1⟩)
def zMC(c:TT)(t u:TS):TS:=λD Y H=>c Y H λb H1=>if b=true then t D Y H1 else u D Y H1
def z8A{c:yE}{a b:List Yb}{tc:TT}(hc:PT X c tc)(ha:PSs X a t)(hb:PSs X b u):PS X (.If c a b pos) (zMC tc t u):=by
 intro U s Y H D I h;refine wpAny_If (thn (hc U s Y H _ I h) λd s1 ⟨H1,I1,q1⟩=>?_)
 cases d with
 |true=>exact ha U s1 Y H1 D I1 q1
 |false=>exact hb U s1 Y H1 D I1 q1
def zpA:TS:=λ_ _ _=>False
def znw:PS X st zpA:=λ_ _ _ _ _ _ h=>h.elim
end
abbrev TG:=V->St->Hp->(St->Hp->Prop)->Prop
abbrev TGs:=List V->St->Hp->(St->Hp->Prop)->Prop
def PG(X:Cx)(target:yE)(t:TG):Prop :=
 ∀(U:List (yc×YT)) (s:yd) (Y:St) (H:Hp) (v:V) (u:Value) (Q:St->Hp->Prop),Inv X U Y H s->RelV v u->t v Y H Q ->
  yn (yv X.prog X.w) X.A (assign target X.env u) (λ_ s'=>∃Y' H',Inv X U Y' H' s'/\Q Y' H') X.xe s
def PGs(X:Cx)(ts:List yE)(t:TGs):Prop :=
 ∀(U:List (yc×YT)) (s:yd) (Y:St) (H:Hp) (vs:List V) (us:List Value) (Q:St->Hp->Prop),Inv X U Y H s->Vals vs us->t vs Y H Q ->
  yn (yv X.prog X.w) X.A (assignInOrder ((Yw ts X.env).map (·.2)) us) (λ_ s'=>∃Y' H',Inv X U Y' H' s'/\Q Y' H') X.xe s
abbrev zxB:=V->V->V->Hp->(Hp->Prop)->Prop
def zEB(X:Cx)(t:zxB):Prop :=
 ∀(U:List (yc×YT)) (s:yd) (Y:St) (H:Hp) (o i v:V) (ov iv u:Value) (Q:Hp->Prop),Inv X U Y H s->RelV o ov->RelV i iv->RelV v u->t o i v H Q ->
  yn (yv X.prog X.w) X.A (setItem ov iv u) (λ_ s'=>∃H',Inv X U Y H' s'/\Q H') X.xe s
abbrev TIp:=V->V->Hp->VK->Prop
def PIp(X:Cx)(op:Operator)(t:TIp):Prop :=
 ∀(U:List (yc×YT)) (s:yd) (Y:St) (H:Hp) (x y:V) (v u:Value) (Q:VK),Inv X U Y H s->RelV x v->RelV y u->t x y H Q ->
  yn (yv X.prog X.w) X.A (inplaceOp op v u) (EP X U Y Q) X.xe s
section
variable {X:Cx}{pos:xp}
def z6y(i:Nat):TG:=λv Y H Q=>Q (Y.set i (some v)) H
def zmt{i:Nat}{x:yt}(hN:X.N.Nodup)(hi:X.N[i]?=some x)(hx:Loc X.env.scope x)(hf:X.fn x=true\/X.env.scope.names.lookup x=some .local:=by first|exact .inl rfl|exact .inr rfl|assumption):PG X (.Name x pos) (z6y i):=by
 intro U s Y H v u Q I r h;exact wpAny_assign_Name (zDi I hN hi hx r (λs' I'=>⟨_,H,I',h⟩) hf)
def zFC:TGs:=λvs Y H Q=>vs=[]/\Q Y H
def z6A(t:TG)(u:TGs):TGs:=λvs Y H Q=>∃v r,vs=v::r/\t v Y H λY' H'=>u r Y' H' Q
def zXt:PGs X [] zFC:=by
 intro U s Y H vs us Q I r h;obtain⟨e,h⟩:=h;subst e;cases r;exact assignInOrder_nil ⟨Y,H,I,h⟩
def zlr{e:yE}{es:List yE}{t:TG}{u:TGs}(h1:PG X e t)(h2:PGs X es u)
 (hs:(Yw (e::es) X.env).map (·.2)=assign e X.env::(Yw es X.env).map (·.2):=by rfl):PGs X (e::es) (z6A t u):=by
 intro U s Y H vs us Q I r h;obtain⟨v,vr,e1,h⟩:=h;subst e1
 cases r with
 |cons r rr=>
  rw[hs];refine assignInOrder_cons (thn (h1 U s Y H _ _ _ I r h) λ_ s1 ⟨Y1,H1,I1,q1⟩=>?_);exact h2 U s1 Y1 H1 _ _ Q I1 rr q1
def zEC(K:yx)(n:Nat)(t:TGs):TG:=λv Y H Q=>∃a xs,v=.ref a/\SqT K H a xs/\xs.length=n/\t xs Y H Q
def zWw{es:List yE}{k:Nat}{t:TGs}{n:Nat}(hc:X.calm=true)(h:PGs X es t)
 (hn:(Yw es X.env).length=n:=by rfl) (hst:(Yw es X.env).findIdx? (·.1)=none:=by rfl):PG X (.Tuple es k pos) (zEC X.K n t):=by
 intro U s Y H v u Q I r hw;obtain⟨a,xs,e1,hq,hl,hw⟩:=hw;subst e1;cases r;obtain⟨its,rv,ht,hz⟩:=I.tuple hq;refine assign_Tuple_tuple (I.ok.hd hc) ht (by simp[hn,<-hl,rv.length]) hst λh' hx=>?_;have I1:Inv X U Y H {s with heap:=h' }:=I.kept (t':=s.toks) λb o e=>hx b o (yu (yk e)) e;exact h U _ Y H xs _ Q I1 (by simpa using rv) hw
def zVs(to ti:TE)(t:zxB):TG:=λv Y H Q=>to Y H λo H1=>ti Y H1 λi H2=>t o i v H2 λH3=>Q Y H3
def zVw{o i:yE}{to ti:TE}{t:zxB}(ho:PE X o to)(hi:PE X i ti)(hs:zEB X t)
 (ha:∀v,assign (.Subscript o i pos) X.env v=(do
  let ov <-xt [v] (Ye o X.env)
  let iv <-xt [v,ov] (Ye i X.env)
  standAt pos
  xt [v,ov,iv] (setItem ov iv v)
  release [v,ov,iv] []):=by intro _;rfl):PG X (.Subscript o i pos) (zVs to ti t):=by
 intro U s Y H v u Q I r h;rw[ha];refine ya (yQ (thn (ho U s Y H _ I h) λov s1 ⟨x,H1,I1,r1,q1⟩=>?_));refine ya (yQ (thn (hi U s1 Y H1 _ I1 q1) λiv s2 ⟨y,H2,I2,r2,q2⟩=>?_));refine ya (YU (ya (yQ (thn (hs U s2 Y H2 x y v ov iv u _ I2 r1 r2 r q2) λ_ s3 ⟨H3,I3,q3⟩=>?_))));exact wpAny_release ⟨Y,H3,I3,q3⟩
def zyB(te:TE)(g:TG):TS:=λD Y H=>te Y H λx H1=>g x Y H1 D.nx
def z0z{tg e:yE}{te:TE}{g:TG}(he:PE X e te)(hg:PG X tg g)(hs:swapsWithSole [tg] e pos.line X.env=pure false:=by rfl)(hw:swappedStores [tg] e X.env=pure none:=by rfl)
 (h1:(Yw [tg] X.env).map (·.2)=[assign tg X.env]:=by rfl):PS X (.Assign [tg] e pos) (zyB te g):=by
 intro U s Y H D I h;refine wpAny_Assign_stores (thn (he U s Y H _ I h) λv s1 ⟨x,H1,I1,r1,q1⟩=>?_) hs hw;rw[h1];exact thn (hg U s1 Y H1 x v _ I1 r1 q1) λ_ s2 q=>q
def zkz{i:Nat}{x:yt}{e:yE}{te:TE}{pos':xp}(hN:X.N.Nodup)(hi:X.N[i]?=some x)(hx:Loc X.env.scope x)(he:PE X e te)(hs:xQ e (some (.Name x pos')) pos.line X.env=pure false:=by rfl)(hf:X.fn x=true\/X.env.scope.names.lookup x=some .local:=by first|exact .inl rfl|exact .inr rfl|assumption) :
 PS X (.Assign [.Name x pos'] e pos) (zyB te (z6y i)):=by
 intro U s Y H D I h;refine wpAny_Assign_Name (thn (he U s Y H _ I h) λv s1 ⟨y,H1,I1,r1,q1⟩=>?_) hs;exact zDi I1 hN hi hx r1 (λs2 I2=>⟨_,H1,I2,q1⟩) hf
def zqC(i:Nat)(te:TE)(ti:TIp):TS:=λD Y H=>∃x,Y[i]?=some (some x)/\te Y H λy H1=>ti x y H1 λz H2=>D.nx (Y.set i (some z)) H2
def znz{i:Nat}{x:yt}{e:yE}{te:TE}{op:Operator}{ti:TIp}{pos':xp}(hN:X.N.Nodup)(hi:X.N[i]?=some x)(hx:Loc X.env.scope x)(he:PE X e te)(ho:PIp X op ti)(hf:X.fn x=true\/X.env.scope.names.lookup x=some .local:=by first|exact .inl rfl|exact .inr rfl|assumption) :
 PS X (.AugAssign (.Name x pos') op e pos) (zqC i te ti):=by
 intro U s Y H D I h;obtain⟨v,e1,h⟩:=h;obtain⟨m,hn,hl⟩:=I.loc;have vis:Vis X.env.scope x:=by rcases hx with k|k;exact .inl k;exact .inr (.inl k)
 obtain⟨u,r,l⟩:=hl i x v hi e1 vis;refine wpAny_AugAssign_Name ?_
 have go:yn (yv X.prog X.w) X.A (Ye e X.env) (λw s₂=>yn (yv X.prog X.w) X.A (inplaceOp op u w) (λr s₃=>yn (yv X.prog X.w) X.A (storeName X.env x r) (λ_=>SP X U D .next) X.xe s₃) X.xe s₂) X.xe s:=by
  refine thn (he U s Y H _ I h) λw s1 ⟨y,H1,I1,r1,q1⟩=>?_;refine thn (ho U s1 Y H1 v y u w _ I1 r r1 q1) λz s2 ⟨zv,H2,I2,r2,q2⟩=>?_;exact zDi I2 hN hi hx r2 (λs3 I3=>⟨_,H2,I3,q2⟩) hf
 rcases l with ⟨hk,hm⟩|⟨hk,c,hc,hcell⟩
 ·exact wpAny_loadName_local I.ok.kind hk hn hm go
 ·rcases hk with hk|hk
  ·exact wpAny_loadName_cell I.ok.kind hk hc hcell go
  ·rcases hx with k|k
   ·have:X.env.scope.names.lookup x=some .free:=hk;rw[k]at this;cases this
   ·have:X.env.scope.names.lookup x=some .free:=hk;rw[k]at this;cases this
def zTz(c:TT)(tb:TS):TS:=λD Y H=>∃W:Nat->St->Hp->Prop,(∃m,W m Y H)/\∀m Y H,W m Y H ->
 c Y H λb H1=>if b=true then ∃N:St->Hp->Prop,(∀Y' H',N Y' H'->∃m',m'<m/\W m' Y' H')/\tb {D with nx:=N,ct:=N,bk:=D.nx } Y H1 else D.nx Y H1
def z8v{c:yE}{body:List Yb}{tc:TT}{tb:TS}(hp:PassesOwn (yv X.prog X.w) X.A X.env X.xe)(hc:PT X c tc)(hb:PSs X body tb):PS X (.While c body [] pos) (zTz tc tb):=by
 intro U s Y H D I h;obtain⟨W,⟨m0,w0⟩,turn⟩:=h;refine wpAny_While (codeAny_whileLoop (λn s'=>∃Y' H',Inv X U Y' H' s'/\W n Y' H') ?_ m0 ⟨Y,H,I,w0⟩);rintro n s1 ⟨Y1,H1,I1,w1⟩;refine xD hp (thn (hc U s1 Y1 H1 _ I1 (turn n Y1 H1 w1)) λb s2 ⟨H2,I2,q2⟩=>?_)
 cases b with
 |true=>
  obtain⟨N,hN,q2⟩:=q2;rw[if_pos rfl];refine xD hp (thn (hb U s2 Y1 H2 _ I2 q2) λf s3 q3=>?_)
  cases f with
  |next=>
   obtain⟨Y3,H3,I3,n3⟩:=q3;obtain⟨m',hm,w3⟩:=hN Y3 H3 n3;exact⟨m',hm,Y3,H3,I3,w3⟩
  |cont=>
   obtain⟨Y3,H3,I3,n3⟩:=q3;obtain⟨m',hm,w3⟩:=hN Y3 H3 n3;exact⟨m',hm,Y3,H3,I3,w3⟩
  |brk=>exact q3
  |ret v=>exact q3
 |false=>
  rw[if_neg yB];exact Xd ⟨Y1,H2,I2,q2⟩
end
structure It where
 go:Nat->Hp->Prop
 yld:Nat->Hp->V->Hp->Prop
 stop:Nat->Hp->Prop
def zkr(X:Cx)(U:List (yc×YT))(H:Hp)(b:yc):Prop :=
 H b=none/\b≠X.env.locals/\b∉X.fs/\(b∈X.ex\/X.s₀.heap.objs.size<=b)/\(∀x c,X.env.cells.lookup x=some c->c≠b)/\∀p∈X.pn++U,p.1≠b
def Inv.Sm{X:Cx}{U:List (yc×YT)}{Y:St}{H H':Hp}{s:yd}{b:yc}(I:Inv X U Y H s)(hb:s.heap.objs.size<=b)(hn:H' b=none):zkr X U H' b:=by
 refine⟨hn,yW (yz I.lt hb),I.nofs hb,.inr (yF I.sz hb),λx c e z=>?_,λp hp z=>?_⟩
 ·obtain⟨v,q⟩:=I.cell x c e;exact absurd (yz q.lt (by rw[z];exact hb)) (yU _)
 ·exact absurd (yz (yk (I.pin p hp).1) (by rw[z];exact hb)) (yU _)
structure Turn(P:yA)(w:yI)(K:yx)(tg:yE)(δ:It)(fp:List yc)(it:yc)(tn:Nat->yT->Prop):Prop where
 mem:it∈fp
 obj:∀i h,tn i h->∀b∈fp,∃o,h.get? b=some o/\∀v,o.data≠.cell v
 keep:∀i h h',tn i h->(∀b∈fp,∀o,h.get? b=some o->h'.get? b=some o)->tn i h'
 item:∀(X:Cx),X.prog=P->X.w=w->X.K=K->X.calm=true->∀(i:Nat)(U:List (yc×YT)) (s:yd) (Y:St) (H:Hp) (E:Value->yd->Prop),Inv X U Y H s->(∀b∈fp,zkr X U H b)->tn i s.heap->δ.go i H ->
  yn (yv P w) X.A (xW (.ref it)) (λr s1=>∃u,r=some u /\
   yn (yv P w) X.A (letOwnedTupleGo tg (.ref it) u) (λ_ s2=>∃x H',Inv X U Y H' s2/\RelV x u/\δ.yld i H x H'/\tn (i+1) s2.heap/\∀b∈fp,H' b=none) E s1) E s
 done:∀(X:Cx),X.prog=P->X.w=w->X.K=K->X.calm=true->∀(i:Nat)(U:List (yc×YT)) (s:yd) (Y:St) (H:Hp) (E:Value->yd->Prop),Inv X U Y H s->(∀b∈fp,zkr X U H b)->tn i s.heap->δ.stop i H ->
  yn (yv P w) X.A (xW (.ref it)) (λr s1=>r=none/\Inv X U Y H s1) E s
 self:∀(A:yK)(i:Nat)(s:yd)(Q:Value->yd->Prop)(E:Value->yd->Prop),tn i s.heap->Q (.ref it) s->yn (yv P w) A (pyIter (.ref it)) Q E s
abbrev TI:=St->Hp->(It->Hp->Prop)->Prop
def PIE(X:Cx)(U:List (yc×YT))(Y:St)(tg:yE)(R:It->Hp->Prop)(itv:Value)(s2:yd):Prop :=
 ∃(it:yc)(fp:List yc)(tn:Nat->yT->Prop)(δ:It)(H':Hp),itv=.ref it/\Inv X U Y H' s2/\Turn X.prog X.w X.K tg δ fp it tn/\tn 0 s2.heap/\(∀b∈fp,zkr X U H' b)/\R δ H'
def PI(X:Cx)(tg iter:yE)(wi:TI):Prop :=
 ∀(U:List (yc×YT)) (s:yd) (Y:St) (H:Hp) (R:It->Hp->Prop),Inv X U Y H s->wi Y H R ->
  yn (yv X.prog X.w) X.A (Ye iter X.env) (λv s1=>yn (yv X.prog X.w) X.A (pyIter v) (PIE X U Y tg R) X.xe s1) X.xe s
def zrv{M:Model}{A:yK}{E:Value->yd->Prop}{s:yd}{tg:yE}{it:yc}{u:Value}{o:YT}{n:String}{vs:Array Value}{Q:Unit->yd->Prop}(ho:s.heap.get? it=some o)(hc:o.cls=.type n)(hd:o.data=.fields vs)
 (hn:["enumerate","zip","dict_itemiterator","dict_reverseitemiterator","odict_iterator","itertools.zip_longest","itertools.pairwise"].contains n=false) (hQ:Q () s):yn M A (letOwnedTupleGo tg (.ref it) u) Q E s:=by
 unfold letOwnedTupleGo
 cases tg<;>first
  |exact yf hQ
  |(cases u<;>first
   |exact yf hQ
   | (refine ya (wpAny_load ho ?_)
      rw[hc,hd];show yn M A (if(["enumerate","zip","dict_itemiterator","dict_reverseitemiterator","odict_iterator","itertools.zip_longest","itertools.pairwise"].contains n&&vs[0]?==some (YH _))=true then _ else _) Q E s;rw[if_neg (by intro h;rw[hn,Bool.false_and]at h;cases h)];exact yf hQ))
def Itl(K:yx)(a:yc):It :=
 ⟨λi H=>∃xs x,SqL K H a xs/\xs[i]?=some x,λi H x H'=>H'=H/\∀xs,SqL K H a xs->xs[i]?=some x,λi H=>∃xs,SqL K H a xs/\xs.length<=i⟩
def Itt(K:yx)(a:yc):It :=
 ⟨λi H=>∃xs x,SqT K H a xs/\xs[i]?=some x,λi H x H'=>H'=H/\∀xs,SqT K H a xs->xs[i]?=some x,λi H=>∃xs,SqT K H a xs/\xs.length<=i⟩
def Itr(lo:Int)(n:Nat):It:=⟨λi _=>i<n,λi H x H'=>H'=H/\x=.int (lo+i),λi _=>n<=i⟩
def z5s{P:yA}{w:yI}{K:yx}{tg:yE}(a it:yc):Turn P w K tg (Itl K a) [it] it (λi h=>h.IsListIter it a i) where
 mem:=by simp
 obj:=λi h st b hb=>by
  have e:b=it:=by simpa using hb
  subst e;obtain⟨o,e,c,d⟩:=st;exact⟨o,e,λv z=>by rw[d]at z;cases z⟩
 keep:=λi h h' st k=>st.at λo e=>k it (by simp) o e
 item:=by
  intro X hP hw hK hc i U s Y H E I hf st hg;subst hP hw hK;obtain⟨xs,x,hq,hx⟩:=hg;obtain⟨its,rv,p,hz⟩:=I.list hq;obtain⟨u,hu,ru⟩:=rv.get hx;obtain⟨f0,f1,f2,f3,f4,f5⟩:=hf it (by simp);refine wpAny_pyNext_list_item st p.isList (x:=u) (by simpa using hu) λh' st' sb=>?_;have I1:Inv X U Y H {s with heap:=h' }:=I.turned (t':=s.toks) (λb o hb e=>(sb.2 b hb).trans e) f0 f1 f3 f4 f5;obtain⟨o,e,c,d⟩:=id st';exact⟨u,rfl,zrv (s:={s with heap:=h' }) e c d (by decide) ⟨x,H,I1,ru,⟨rfl,λys hy=>by rw[I.Se hy hq];exact hx⟩,st',λb hb=>(hf b hb).1⟩⟩
 done:=by
  intro X hP hw hK hc i U s Y H E I hf st hg;subst hP hw hK;obtain⟨xs,hq,hx⟩:=hg;obtain⟨its,rv,p,hz⟩:=I.list hq;obtain⟨f0,f1,f2,f3,f4,f5⟩:=hf it (by simp);have hl:=rv.length;exact wpAny_pyNext_list_end (I.ok.hd hc) st p.isList (by simp;omega) λh' eb=>⟨rfl,I.turned (t':=s.toks) (λb o hb e=>eb b o hb e) f0 f1 f3 f4 f5⟩
 self:=λ_ _ _ _ _ st h=>wpAny_pyIter_listiter st h
def zVr{P:yA}{w:yI}{K:yx}{tg:yE}(a it:yc):Turn P w K tg (Itt K a) [it] it (λi h=>h.IsTupleIter it a i) where
 mem:=by simp
 obj:=λi h st b hb=>by
  have e:b=it:=by simpa using hb
  subst e;obtain⟨o,e,c,d⟩:=st;exact⟨o,e,λv z=>by rw[d]at z;cases z⟩
 keep:=λi h h' st k=>st.at λo e=>k it (by simp) o e
 item:=by
  intro X hP hw hK hc i U s Y H E I hf st hg;subst hP hw hK;obtain⟨xs,x,hq,hx⟩:=hg;obtain⟨its,rv,p,hz⟩:=I.tuple hq;obtain⟨u,hu,ru⟩:=rv.get hx;obtain⟨f0,f1,f2,f3,f4,f5⟩:=hf it (by simp);refine wpAny_pyNext_tuple_item st (show s.heap.IsTuple a its.toArray from p) (x:=u) (by simpa using hu) λh' st' sb=>?_;have I1:Inv X U Y H {s with heap:=h' }:=I.turned (t':=s.toks) (λb o hb e=>(sb.2 b hb).trans e) f0 f1 f3 f4 f5;obtain⟨o,e,c,d⟩:=id st';exact⟨u,rfl,zrv (s:={s with heap:=h' }) e c d (by decide) ⟨x,H,I1,ru,⟨rfl,λys hy=>by rw[I.sQ hy hq];exact hx⟩,st',λb hb=>(hf b hb).1⟩⟩
 done:=by
  intro X hP hw hK hc i U s Y H E I hf st hg;subst hP hw hK;obtain⟨xs,hq,hx⟩:=hg;obtain⟨its,rv,p,hz⟩:=I.tuple hq;obtain⟨f0,f1,f2,f3,f4,f5⟩:=hf it (by simp);have hl:=rv.length;exact wpAny_pyNext_tuple_end (I.ok.hd hc) st (show s.heap.IsTuple a its.toArray from p) (by simp;omega) λh' eb=>⟨rfl,I.turned (t':=s.toks) (λb o hb e=>eb b o hb e) f0 f1 f3 f4 f5⟩
 self:=λ_ _ _ _ _ st h=>wpAny_pyIter_tupleiter st h
def zcs{P:yA}{w:yI}{K:PySem.W.Frag}{tg:yE}(it:yc)(lo:Int)(n:Nat):Turn P w K tg (Itr lo n) [it] it (λi h=>IsRangeIter h it (lo+(i:Nat)*1) ((n:Int)-(i:Nat)) 1) where
 mem:=by simp
 obj:=λi h st b hb=>by
  have e:b=it:=by simpa using hb
  subst e
  exact⟨_,st,λv z=>by
   have z':Data.fields _=Data.cell v:=z;cases z'⟩
 keep:=λi h h' st k=>k it (by simp) _ st
 item:=by
  intro X hP hw hK hc i U s Y H E I hf st hg;subst hP hw hK;obtain⟨f0,f1,f2,f3,f4,f5⟩:=hf it (by simp);have W:=Walks.range (prog:=X.prog) (w:=X.w) (I.ok.hd hc) it lo 1 n;refine W.item i s _ _ hg st λv h' tk hv st' kk=>?_;obtain⟨t,rfl⟩:=hv;have I1:Inv X U Y H {s with heap:=h',toks:=tk }:=I.turned (λb o hb e=>kk b o (by simpa using hb) e) f0 f1 f3 f4 f5;refine⟨_,rfl,zrv (s:={s with heap:=h',toks:=tk }) (n:="range_iterator") st' rfl rfl (by decide) ⟨.int (lo+i),H,I1,⟨t,?_⟩,⟨rfl,rfl⟩,st',λb hb=>(hf b hb).1⟩⟩;rw[Int.mul_one]
 done:=by
  intro X hP hw hK hc i U s Y H E I hf st hg;subst hP hw hK;obtain⟨f0,f1,f2,f3,f4,f5⟩:=hf it (by simp);exact wpAny_pyNext_range_end (I.ok.hd hc) st (by have:n<=i:=hg;omega) λh' eb=>⟨rfl,I.turned (t':=s.toks) (λb o hb e=>eb b o hb e) f0 f1 f3 f4 f5⟩
 self:=λ_ _ _ _ _ st h=>wpAny_pyIter_rangeiter st h
section
variable {X:Cx}{tg:yE}
def zkt(K:yx)(tl:TE):TI:=λY H R=>tl Y H λx H1=>∃a,x=.ref a/\(∃xs,SqL K H1 a xs)/\R (Itl K a) H1
def zuC(K:yx)(tl:TE):TI:=λY H R=>tl Y H λx H1=>∃a,x=.ref a/\(∃xs,SqT K H1 a xs)/\R (Itt K a) H1
def z4x{l:yE}{tl:TE}(hl:PE X l tl):PI X tg l (zkt X.K tl):=by
 intro U s Y H R I h;refine thn (hl U s Y H _ I h) λv s1 ⟨x,H1,I1,r1,q1⟩=>?_;obtain⟨a,e,⟨xs,hq⟩,q⟩:=q1;subst e;cases r1;obtain⟨its,rv,p,hz⟩:=I1.list hq;refine xH p.isList ?_;refine⟨s1.heap.objs.size,[s1.heap.objs.size],_,_,H1,rfl,I1.kept (t':=s1.toks) λb o e=>yb _ e,z5s a _,⟨_,yp _ rfl,rfl,rfl⟩,λb hb=>?_,q⟩;have e:b=s1.heap.objs.size:=by simpa using hb
 subst e;exact I1.Sm (yi _) (I1.hok.fresh (yi _))
def zDz{l:yE}{tl:TE}(hl:PE X l tl):PI X tg l (zuC X.K tl):=by
 intro U s Y H R I h;refine thn (hl U s Y H _ I h) λv s1 ⟨x,H1,I1,r1,q1⟩=>?_;obtain⟨a,e,⟨xs,hq⟩,q⟩:=q1;subst e;cases r1;obtain⟨its,rv,p,hz⟩:=I1.tuple hq;refine wpAny_pyIter_tuple (show s1.heap.IsTuple a its.toArray from p) ?_;refine⟨s1.heap.objs.size,[s1.heap.objs.size],_,_,H1,rfl,I1.kept (t':=s1.toks) λb o e=>yb _ e,zVr a _,⟨_,yp _ rfl,rfl,rfl⟩,λb hb=>?_,q⟩;have e:b=s1.heap.objs.size:=by simpa using hb
 subst e;exact I1.Sm (yi _) (I1.hok.fresh (yi _))
def zyw{U:List (yc×YT)}{Y:St}{H:Hp}{s:yd}{R:It->Hp->Prop}{E:Value->yd->Prop}{lo hi:Int}{t u v:Tok}{tk:Nat}(I:Inv X U Y H s)(h1:-(2^62)<=lo)(h2:lo<2^62)(h3:-(2^62)<=hi)(h4:hi<2^62)
 (q:R (Itr lo (hi-lo).toNat) H):yn (yv X.prog X.w) X.A (pyIter (.ref s.heap.objs.size)) (PIE X U Y tg R) E {s with heap:=s.heap.push {cls:=.type "range",data:=.fields #[.int lo t,.int hi u,.int 1 v]},toks:=tk }:=by
 refine wpAny_pyIter_range (IsRange.new ..) (small_one h1 h2 h3 h4) ?_;have I1:Inv X U Y H {s with heap:=s.heap.push {cls:=.type "range",data:=.fields #[.int lo t,.int hi u,.int 1 v]},toks:=tk }:=I.kept λb o e=>yb _ e
 refine⟨(s.heap.push {cls:=.type "range",data:=.fields #[.int lo t,.int hi u,.int 1 v]}).objs.size,[(s.heap.push {cls:=.type "range",data:=.fields #[.int lo t,.int hi u,.int 1 v]}).objs.size],_,_,H,rfl,
  I1.kept (t':=tk) λb o e=>yb _ e,zcs _ lo (hi-lo).toNat,?_,λb hb=>?_,q⟩
 ·have e1:lo+((0:Nat):Int)*1=lo:=by simp
  have e2:(((hi-lo).toNat:Nat):Int)-((0:Nat):Int)=Builtin.Range.rangeSize lo hi 1:=by rw[rangeSize_one];split<;>omega
  show IsRangeIter _ _ (lo+((0:Nat):Int)*1) ((((hi-lo).toNat:Nat):Int)-((0:Nat):Int)) 1;rw[e1,e2];exact yp _ rfl
 ·have e:b=(s.heap.push {cls:=.type "range",data:=.fields #[.int lo t,.int hi u,.int 1 v]}).objs.size:=by simpa using hb
  subst e;exact I1.Sm (yi _) (I1.hok.fresh (yi _))
def zrB(ta:TA):TI:=λY H R=>ta Y H λvs H1=>∃j:Int,vs=[.int j]/\-(2^62)<=j/\j<2^62/\R (Itr 0 j.toNat) H1
def zdu{a:yE}{ta:TA}{p pos:xp}(hg:Gl X "range")(hm:X.mg "range"=none)(ha:PA X [a] ta)(hs:yj [a] X.env=[(false,Ye a X.env)]:=by rfl):PI X tg (.Call (.Name "range" p) [a] [] pos) (zrB ta):=by
 intro U s Y H R I h;refine Call_ (zal I hg hm boot_range (YS (thn (ha pos U s Y H _ I h) λus s1 ⟨vs,H1,I1,r1,q1⟩=>?_) hs rfl));obtain⟨j,e,q1,q2,q⟩:=q1;subst e
 cases r1 with
 |cons r rr=>
  cases rr;obtain⟨t,rfl⟩:=r;exact call_range_1 (zyw I1 (by omega) (by omega) q1 q2 (by simpa using q))
def zjC(wi:TI)(g:TG)(tb:TS):TS:=λD Y H=>wi Y H λδ H1=>∃W:Nat->Nat->St->Hp->Prop,(∃m,W 0 m Y H1)/\∀i m Y H,W i m Y H ->
 (δ.stop i H/\D.nx Y H)\/(δ.go i H/\∃N:St->Hp->Prop,(∀Y' H',N Y' H'->∃m',m'<m/\W (i+1) m' Y' H')/\∀x H',δ.yld i H x H'->g x Y H' λY2 H2=>tb {D with nx:=N,ct:=N,bk:=D.nx } Y2 H2)
def zCp(fp:List yc)(h:yT):List (yc×YT):=fp.filterMap λb=>(h.get? b).map λo=>(b,o)
def zeh{fp:List yc}{h:yT}{b:yc}{o:YT}(hb:b∈fp)(e:h.get? b=some o):(b,o)∈zCp fp h:=List.mem_filterMap.mpr ⟨b,hb,by rw[e];rfl⟩
def zYu{fp:List yc}{h:yT}{p:yc×YT}(hp:p∈zCp fp h):p.1∈fp/\h.get? p.1=some p.2:=by
 obtain⟨b,hb,e⟩:=List.mem_filterMap.mp hp
 cases q:h.get? b with
 |none=>rw[q]at e;cases e
 |some o=>
  rw[q]at e;have e':(b,o)=p:=Yj e;subst e';exact⟨hb,q⟩
def Inv.pinned{U:List (yc×YT)}{Y:St}{H:Hp}{s:yd}{fp:List yc}(I:Inv X U Y H s)(hf:∀b∈fp,zkr X U H b)(ho:∀b∈fp,∃o,s.heap.get? b=some o/\∀v,o.data≠.cell v):Inv X (U++zCp fp s.heap) Y H s :=
 I.sV λp hp=>(List.mem_append.mp hp).elim (λz=>I.pin p (mem_append_right _ z)) λz=>by
  obtain⟨hb,e⟩:=zYu z;obtain⟨f0,f1,f2,_⟩:=hf p.1 hb;obtain⟨o,e',d⟩:=ho p.1 hb;rw[e]at e';cases e';exact⟨e,f0,f1,f2,d⟩
def Inv.TX{U pl:List (yc×YT)}{Y:St}{H:Hp}{s:yd}(I:Inv X (U++pl) Y H s):Inv X U Y H s:=I.sV λp hp=>I.pin p (mem_append_right _ (mem_append_left _ hp))
def zRA{iter:yE}{body:List Yb}{wi:TI}{g:TG}{tb:TS}{pos:xp}(hp:PassesOwn (yv X.prog X.w) X.A X.env X.xe)(hc:X.calm=true)(hi:PI X tg iter wi)(hg:PG X tg g)(hb:PSs X body tb)
 (hs:∀x,YV iter X.env x=pure x:=by intro _;rfl):PS X (.For tg iter body [] pos) (zjC wi g tb):=by
 intro U s Y H D I h;refine wpAny_For (thn (hi U s Y H _ I h) λv s1 h1=>thn h1 λitv s2 h2=>?_) hs;obtain⟨it,fp,tn,δ,H2,e,I2,T,st2,f2,W,⟨m0,w0⟩,turn⟩:=h2;subst e;have stat:∀{H':Hp},(∀b∈fp,H' b=none)->∀b∈fp,zkr X U H' b:=λhn b hb=>⟨hn b hb,(f2 b hb).2⟩
 refine codeAny_forLoop_any (λn s'=>∃i Y' H',Inv X U Y' H' s'/\tn i s'.heap/\(∀b∈fp,H' b=none)/\W i n Y' H') ?_ m0 ⟨0,Y,H2,I2,st2,λb hb=>(f2 b hb).1,w0⟩;rintro n s3 ⟨i,Y3,H3,I3,st3,fr3,w3⟩;rcases turn i n Y3 H3 w3 with ⟨stop,qn⟩|⟨go,N,hN,step⟩
 ·refine xD hp (thn (T.done X rfl rfl rfl hc i U s3 Y3 H3 X.xe I3 (stat fr3) st3 stop) λr s4 ⟨hr,I4⟩=>?_);subst hr;exact Xd ⟨Y3,H3,I4,qn⟩
 ·refine xD hp (thn (T.item X rfl rfl rfl hc i U s3 Y3 H3 X.xe I3 (stat fr3) st3 go) λr s4 ⟨u,hr,h4⟩=>?_);subst hr;refine xD hp (thn h4 λ_ s5 ⟨x,H5,I5,r5,y5,st5,fr5⟩=>?_);have I5':=I5.pinned (stat fr5) (T.obj _ _ st5);refine xD hp (thn (hg _ s5 Y3 H5 x u _ I5' r5 (step x H5 y5)) λ_ s6 ⟨Y6,H6,I6,q6⟩=>?_);refine xD hp (thn (hb _ s6 Y6 H6 _ I6 q6) λf s7 q7=>?_)
  have again:∀{Y7:St} {H7:Hp},Inv X (U++zCp fp s5.heap) Y7 H7 s7->N Y7 H7->∃m,m<n/\∃i Y' H',Inv X U Y' H' s7/\tn i s7.heap/\(∀b∈fp,H' b=none)/\W i m Y' H':=λ{Y7 H7} I7 n7=>by
   obtain⟨m',hm,w7⟩:=hN Y7 H7 n7;refine⟨m',hm,i+1,Y7,H7,I7.TX,T.keep _ _ _ st5 λb hb o e=>(I7.pin (b,o) (mem_append_right _ (mem_append_right _ (zeh hb e)))).1,λb hb=>?_,w7⟩;obtain⟨o,e,d⟩:=T.obj _ _ st5 b hb;exact(I7.pin (b,o) (mem_append_right _ (mem_append_right _ (zeh hb e)))).2.1
  cases f with
  |next=>obtain⟨Y7,H7,I7,n7⟩:=q7;exact again I7 n7
  |cont=>obtain⟨Y7,H7,I7,n7⟩:=q7;exact again I7 n7
  |brk=>obtain⟨Y7,H7,I7,q7⟩:=q7;exact⟨Y7,H7,I7.TX,q7⟩
  |ret v=>obtain⟨x7,Y7,H7,I7,r7,q7⟩:=q7;exact⟨x7,Y7,H7,I7.TX,r7,q7⟩
end
abbrev R2:=V->V->Hp->VK->Prop
def OpR(X:Cx)(f:Value->Value->Sem Value)(r:R2):Prop :=
 ∀(U:List (yc×YT)) (s:yd) (Y:St) (H:Hp) (x y:V) (v u:Value) (Q:VK),Inv X U Y H s->RelV x v->RelV y u->r x y H Q ->
  yn (yv X.prog X.w) X.A (f v u) (EP X U Y Q) X.xe s
def zfm(X:Cx)(f:Value)(r:List V->Hp->VK->Prop):Prop :=
 ∀(U:List (yc×YT)) (s:yd) (Y:St) (H:Hp) (xs:List V) (us:List Value) (Q:VK),Inv X U Y H s->Vals xs us->r xs H Q ->
  yn (yv X.prog X.w) X.A (call f us) (EP X U Y Q) X.xe s
def tOp(r:R2)(ta tb:TE):TE:=λY H Q=>ta Y H λx H1=>tb Y H1 λy H2=>r x y H2 Q
def rI(C:Int->Int->Prop)(g:Int->Int->V):R2:=λx y H Q=>∃i j,x=.int i/\y=.int j/\C i j/\Q (g i j) H
def rI0(g:Int->Int->V):R2:=λx y H Q=>∃i j,x=.int i/\y=.int j/\Q (g i j) H
section
variable {X:Cx}{a b c:yE}{ta tb tc:TE}{pos:xp}
def binT(ha:PE X a ta)(hb:PE X b tb){U:List (yc×YT)}{s:yd}{Y:St}{H:Hp}{R:V->V->Hp->Prop}(I:Inv X U Y H s)
 (h:ta Y H λx H1=>tb Y H1 λy H2=>R x y H2) {Q:Value->yd->Prop} {f:Value->Value->Sem Value}
 (hf:∀v u s2 x y H2,Inv X U Y H2 s2->RelV x v->RelV y u->R x y H2->yn (yv X.prog X.w) X.A (f v u) Q X.xe s2) :
 yn (yv X.prog X.w) X.A (Ye a X.env) (λv s₁=>yn (yv X.prog X.w) X.A (Ye b X.env) (λu s₂=>yn (yv X.prog X.w) X.A (f v u) Q X.xe s₂) X.xe s₁) X.xe s:=by
 refine thn (ha U s Y H _ I h) λv s1 ⟨x,H1,I1,r1,q1⟩=>?_;refine thn (hb U s1 Y H1 _ I1 q1) λu s2 ⟨y,H2,I2,r2,q2⟩=>?_;exact hf v u s2 x y H2 I2 r1 r2 q2
def zaB{op:Operator}{r:R2}(ho:OpR X (xw op) r)(ha:PE X a ta)(hb:PE X b tb):PE X (.BinOp a op b pos) (tOp r ta tb):=by
 intro U s Y H Q I h;exact wpAny_BinOp (binT ha hb I h λv u s2 x y H2 I2 rx ry q=>ho U s2 Y H2 x y v u Q I2 rx ry q)
def opI{f:Value->Value->Sem Value}{C:Int->Int->Prop}{g:Int->Int->Int}
 (rule:∀(i j:Int)(t u:Tok)(s:yd)(Q:Value->yd->Prop)(E:Value->yd->Prop),C i j->Q (.int (g i j) s.toks) {s with toks:=s.toks+1 }->yn (yv X.prog X.w) X.A (f (.int i t) (.int j u)) Q E s) :
 OpR X f (rI C λi j =>.int (g i j)):=by
 intro U s Y H x y v u Q I rx ry h;obtain⟨i,j,rfl,rfl,hc,q⟩:=h;obtain⟨t,rfl⟩:=rx;obtain⟨t',rfl⟩:=ry;exact rule i j t t' s _ _ hc ⟨.int (g i j),H,I.tok _,⟨_,rfl⟩,q⟩
def opI0{f:Value->Value->Sem Value}{g:Int->Int->Int}
 (rule:∀(i j:Int)(t u:Tok)(s:yd)(Q:Value->yd->Prop)(E:Value->yd->Prop),Q (.int (g i j) s.toks) {s with toks:=s.toks+1 }->yn (yv X.prog X.w) X.A (f (.int i t) (.int j u)) Q E s) :
 OpR X f (rI0 λi j =>.int (g i j)):=by
 intro U s Y H x y v u Q I rx ry h;obtain⟨i,j,rfl,rfl,q⟩:=h;obtain⟨t,rfl⟩:=rx;obtain⟨t',rfl⟩:=ry;exact rule i j t t' s _ _ ⟨.int (g i j),H,I.tok _,⟨_,rfl⟩,q⟩
def opB0{f:Value->Value->Sem Value}{g:Int->Int->Bool}
 (rule:∀(i j:Int)(t u:Tok)(s:yd)(Q:Value->yd->Prop)(E:Value->yd->Prop),Q (.bool (g i j)) s->yn (yv X.prog X.w) X.A (f (.int i t) (.int j u)) Q E s) :
 OpR X f (rI0 λi j =>.bl (g i j)):=by
 intro U s Y H x y v u Q I rx ry h;obtain⟨i,j,rfl,rfl,q⟩:=h;obtain⟨t,rfl⟩:=rx;obtain⟨t',rfl⟩:=ry;exact rule i j t t' s _ _ ⟨.bl (g i j),H,I,rfl,q⟩
def zOA:OpR X (xw .Mod) (rI (λ_ j=>0<j) λi j =>.int (i%j)):=opI λi j _ _ _ _ _ hc q=>by
 have h1:(0:Int)<j:=hc;exact mod_int' (by omega) (by rw[Int.fmod_eq_emod_of_nonneg i (by omega)];exact q)
def zpx:OpR X (inplaceOp .Add) (rI0 λi j =>.int (i+j)):=opI0 λ_ _ _ _ _ _ _ q=>iadd_int q
def z9w{U:List (yc×YT)}{Y:St}{H:Hp}{s:yd}{Q:VK}{k k':Bool}(I:Inv X U Y H s)(q:Q (.bl k) H)(e:k=k'):EP X U Y Q (.bool k') s:=by
 subst e;exact⟨.bl k,H,I,rfl,q⟩
def zJB:OpR X (Yx .Lt) (rI0 λi j =>.bl (decide (i<j))):=opB0 λ_ _ _ _ _ _ _ q=>lt_int q
def ziB:OpR X (Yx .Gt) (rI0 λi j =>.bl (decide (j<i))):=opB0 λ_ _ _ _ _ _ _ q=>gt_int q
def zLB:OpR X (Yx .GtE) (rI0 λi j =>.bl (decide (j<=i))):=opB0 λ_ _ _ _ _ _ _ q=>ge_int q
def zOm:OpR X (Yx .Is) (λx y H Q=>y=.non/\Q (.bl (decide (x=.non))) H):=by
 intro U s Y H x y v u Q I rx ry h;obtain⟨rfl,q⟩:=h;cases ry;refine is_none_gen (z9w I q ?_)
 cases x<;>first
  |(cases rx;rfl)
  |(obtain⟨t,rfl⟩:=rx;rfl)
def zEj:OpR X (Yx .IsNot) (λx y H Q=>y=.non/\Q (.bl (!decide (x=.non))) H):=by
 intro U s Y H x y v u Q I rx ry h;obtain⟨rfl,q⟩:=h;cases ry;refine isnot_none_gen (z9w I q ?_)
 cases x<;>first
  |(cases rx;rfl)
  |(obtain⟨t,rfl⟩:=rx;rfl)
def zQx{op:CmpOp}{r:R2}(ho:OpR X (Yx op) r)(ha:PE X a ta)(hb:PE X b tb)(hm:behindInMarks op b=false):PE X (.Compare a [op] [b] pos) (tOp r ta tb):=by
 intro U s Y H Q I h;exact wpAny_Compare1 (binT ha hb I h λv u s2 x y H2 I2 rx ry q=>ho U s2 Y H2 x y v u Q I2 rx ry q) hm
def zdB(t:TE):TT:=λY H Q=>t Y H λx H'=>∃k,x=.bl k/\Q k H'
def z5x{op:CmpOp}{r:R2}(ho:OpR X (Yx op) r)(ha:PE X a ta)(hb:PE X b tb)(hm:behindInMarks op b=false):PT X (.Compare a [op] [b] pos) (zdB (tOp r ta tb)):=by
 intro U s Y H Q I h
 refine wpAny_isTrue_Compare1 (thn (ha U s Y H _ I h) λv s1 ⟨x,H1,I1,r1,q1⟩=>thn (hb U s1 Y H1 _ I1 q1) λu s2 ⟨y,H2,I2,r2,q2⟩=>
  thn (ho U s2 Y H2 x y v u _ I2 r1 r2 q2) λc s3 ⟨z,H3,I3,r3,k,e,q3⟩=>?_) hm
 subst e;cases r3;exact xG ⟨H3,I3,q3⟩
def sJ:(yD:Nat)<2^63:=by rw[Yr];decide
def vals1{x:V}{us:List Value}(r:Vals [x] us):∃u,us=[u]/\RelV x u:=by
 cases r with
 |cons r1 r2=>cases r2;exact⟨_,rfl,r1⟩
def vals2{x y:V}{us:List Value}(r:Vals [x,y] us):∃u w',us=[u,w']/\RelV x u/\RelV y w':=by
 cases r with
 |cons r1 r2=>
  cases r2 with
  |cons r3 r4=>cases r4;exact⟨_,_,rfl,r1,r3⟩
end
structure Sn(h:yT)(x dx C:yc)(mA:yt->Option Value):Prop where
 obj:h.get? x=some (W.instObj C dx)
 ns:h.Ns1 dx mA
 ne:dx≠x
def zHp{h:yT}{dx:yc}{mA:yt->Option Value}(n:h.Ns1 dx mA):∃od,h.get? dx=some od/\∀name,W.lookIn name od=some (mA name):=by
 obtain⟨o,es,ep,ho,hd,hk,_,hm⟩:=n;refine⟨o,ho,λname=>?_⟩;have e:=hm name;unfold nsFind findBy at e;rw[<-Array.find?_toList]at e;unfold W.lookIn;rw[hd];dsimp only
 split
 ·rename_i y q
  rw[q]at e;exact congrArg some e
 ·rename_i q
  rw[q]at e
  have a:es.toList.any (·.refKey)=false:=by
   rw[List.any_eq_false];intro y hy;obtain⟨z,t,hkey⟩:=hk y (Array.mem_toList_iff.mp hy);simp[DictEntry.refKey,hkey]
  have a':¬es.toList.any (·.refKey)=true:=by rw[a];exact yB
  rw[if_neg a'];exact congrArg some e
def Sn.look{h:yT}{x dx C:yc}{mA:yt->Option Value}(I:Sn h x dx C mA):∃od,W.InstAt h x (W.instObj C dx) C (some od)/\∀name,W.lookIn name od=some (mA name) :=
 let ⟨od,ho,hl⟩:=zHp I.ns
 ⟨od,⟨I.obj,rfl,rfl,ho⟩,hl⟩
section
variable {prog:yA}{w:yI}{A:yK}{E:Value->yd->Prop}{s:yd}{K:yx}{x dx C f:yc}{mA:yt->Option Value}{name:yt}{v:Value}
def z4y{expr:Bool}{Q:Value->yd->Prop}(X:K.In s.heap)(I:Sn s.heap x dx C mA)(hg:W.plainGet K C name=true)(hh:W.hasDictIn K C=true)
 (ha:Yl K (.ref C) name=some none) (hv:mA name=some v) (hv':W.handedIn v=true) (h:Q v {s with toks:=s.toks+1 }) :
 yn (yv prog w) A (getAttr (.ref x) name expr) Q E s:=by
 obtain⟨od,δ,hl⟩:=I.look;exact W.get_value X δ (W.plainGet_of hg).1 (W.findObj_own hh ha rfl (by rw[hl,hv])) hv' h
def zgw{pl:Sem Bool}{Q:Value×List Value->yd->Prop}(X:K.In s.heap)(I:Sn s.heap x dx C mA)(hg:W.plainGet K C name=true)
 (hf:Yl K (.ref C) name=some (some (.ref f))) (ht:W.isFn K (.ref f)=true) (hv:mA name=none) (h:Q (.ref f,[.ref x]) s) :
 yn (yv prog w) A (getMethod (.ref x) name pl) Q E s:=by
 obtain⟨od,δ,hl⟩:=I.look;exact W.method_fn X δ (W.plainGet_of hg).1 (W.plainGet_of hg).2 hf (beq_iff_eq.mp ht) (by show(W.lookIn name od).map (·.isSome)=some false;rw[hl,hv];rfl) h
def zGy{ns:List yt}{Q:Unit->yd->Prop}(X:K.In s.heap)(I:Sn s.heap x dx C mA)
 (hs:Yl K (.ref C) "__setattr__"=some (some (.builtin "object.__setattr__"))) (hp:W.plainOver K C=true) (ht:W.takerIn K C name=some none) (hh:W.hasDictIn K C=true)
 (hw:PySem.Within mA ns) (hsz:ns.length<=yD)
 (h:∀h',Sn h' x dx C (λy=>if y=name then some v else mA y)->Yp dx s.heap h'->Q () {s with heap:=h',toks:=s.toks+2 }) :
 yn (yv prog w) A (setAttr (.ref x) name v) Q E s:=by
 obtain⟨od,δ,hl⟩:=I.look;refine W.set_plain X δ hs (W.osa_open (s:={s with toks:=s.toks+1 }) (r:=none) X δ hp ht λb=>?_);obtain⟨cd,hc,hd'⟩:=W.any_some hh;have hx:s.heap.get? x=some ⟨.ref C,some dx,.plain,#[]⟩:=I.obj;refine ya (yf (ya (ya (wpAny_loadPart hx (ya (W.Looks.here (s:={s with toks:=s.toks+1 }) (W.looks_clsIn X hc) ?_))))));rw[hd'];refine yf (a:=some dx) (ya (yf (ya ?_)));refine wpAny_nsSet1 (s:={s with toks:=s.toks+1 }) I.ns λh' hn2 hs2=>?_;obtain⟨oD,esD,epD,hoD,hdD,hcD⟩:=hn2.count (PySem.Within.cons name v hw);refine ya (wpAny_lookBehind hoD (by rw[hdD];exact pastItsLine_dict (yF hcD (by rw[length_cons];omega))) ?_);exact yf (h _ ⟨(hs2.2 _ (yV I.ne)).trans I.obj,hn2,I.ne⟩ hs2)
def zVv{R:Result->yd->Prop}{vs:List Value}{kw:List (yt×Value)}(X:K.In s.heap)(hm:W.makesIn K C=true)
 (hi:Yl K (.ref C) "__init__"=some (some (.ref f))) (hf:W.typeIn K (.ref f)=some (.type "function"))
 (h:xN (yv prog w) (A.under (.builtin "type.__call__" ⟨.ref C::vs,kw⟩)) (.call (.ref f) ⟨.ref (s.heap.objs.size+1)::vs,kw⟩) (W.InitBack (s.heap.objs.size+1) R)
  {s with heap:=(s.heap.push xU).push (W.instObj C s.heap.objs.size)}) :
 xN (yv prog w) A (.call (.ref C) ⟨vs,kw⟩) R s:=by
 obtain⟨hh,g,d,t,os⟩:=s;exact W.make_core (W.makes_of X hm) (W.looks_findIn X hi) (λself=>W.bind_fn X self hf) (.inl rfl) h
end
def z4l(f:yt)(v:V):List (yt×V)->List (yt×V)
 |[]=>[(f,v)]
 |(g,x)::r=>if g=f then(g,v)::r else(g,x)::z4l f v r
def z8k(f g:yt)(v:V):∀fs:List (yt×V),(z4l f v fs).lookup g=if g=f then some v else fs.lookup g
 |[]=>by
  show YL g [(f,v)]=_
  by_cases h:g=f
  ·have hb:(g==f)=true:=beq_iff_eq.mpr h;simp only[YL,hb,if_pos h]
  ·have hb:(g==f)=false:=beq_eq_false_iff_ne.mpr h;simp only[YL,hb,if_neg h]
 |(k,x)::r=>by
  have ih:=z8k f g v r;rw[show z4l f v ((k,x)::r)=(if k=f then(k,v)::r else(k,x)::z4l f v r) from rfl]
  by_cases hk:k=f
  ·rw[if_pos hk]
   by_cases h:g=k
   ·have hb:(g==k)=true:=beq_iff_eq.mpr h;simp only[YL,hb,if_pos (h.trans hk)]
   ·have hb:(g==k)=false:=beq_eq_false_iff_ne.mpr h;simp only[YL,hb,if_neg (λe:g=f=>h (e.trans hk.symm))]
  ·rw[if_neg hk]
   by_cases h:g=k
   ·have hb:(g==k)=true:=beq_iff_eq.mpr h;simp only[YL,hb,if_neg (λe:g=f=>hk (h.symm.trans e))]
   ·have hb:(g==k)=false:=beq_eq_false_iff_ne.mpr h;simp only[YL,hb];exact ih
def z7k(f:yt)(v:V):∀fs:List (yt×V),f∈(z4l f v fs).map (·.1)/\∀g,g∈fs.map (·.1)->g∈(z4l f v fs).map (·.1)
 |[]=>⟨by simp[z4l],λg h=>by simp at h⟩
 |(k,x)::r=>by
  obtain⟨i1,i2⟩:=z7k f v r;rw[show z4l f v ((k,x)::r)=(if k=f then(k,v)::r else(k,x)::z4l f v r) from rfl]
  by_cases hk:k=f
  ·rw[if_pos hk];subst hk;exact⟨by simp,λg h=>by simpa using h⟩
  ·rw[if_neg hk];refine⟨?_,λg h=>?_⟩
   ·rw[map_cons];exact mem_cons_of_mem _ i1
   ·rw[map_cons]at h ⊢;rcases List.mem_cons.mp h with e|e
    ·exact List.mem_cons.mpr (.inl e)
    ·exact mem_cons_of_mem _ (i2 g e)
def zbl(f:yt)(v:V):∀fs:List (yt×V),(z4l f v fs).length<=fs.length+1
 |[]=>by simp[z4l]
 |(k,x)::r=>by
  have ih:=zbl f v r;rw[show z4l f v ((k,x)::r)=(if k=f then(k,v)::r else(k,x)::z4l f v r) from rfl]
  by_cases hk:k=f
  ·rw[if_pos hk,length_cons,length_cons];omega
  ·rw[if_neg hk,length_cons,length_cons];omega
def TW.some_of{v:V}{o:Option Value}(r:TW (some v) o):∃u,o=some u/\RelV v u:=by
 cases o with
 |none=>exact(show False from r).elim
 |some u=>exact⟨u,rfl,r⟩
def TW.none_of{o:Option Value}(r:TW none o):o=none:=by
 cases o with
 |none=>rfl
 |some u=>exact(show False from r).elim
def zNp{v:V}{u:Value}(r:RelV v u):W.handedIn u=true:=by
 cases v with
 |non=>cases (show u=Yn from r);rfl
 |bl b=>cases (show u=Value.bool b from r);rfl
 |int i=>obtain⟨t,e⟩:=(show ∃t,u=Value.int i t from r);cases e;rfl
 |str x=>obtain⟨t,e⟩:=(show ∃t,u=Value.str x t from r);cases e;rfl
 |byt b=>obtain⟨t,e⟩:=(show ∃t,u=Value.bytes b t from r);cases e;rfl
 |flt b=>obtain⟨t,e⟩:=(show ∃t,u=Value.float b t from r);cases e;rfl
 |ref a=>cases (show u=yG a from r);rfl
 |ty n=>cases (show u=Yv n from r);rfl
section
variable {P:yA}{w:yI}{H H':Hp}{h h':yT}{a C dx:yc}{fs fs':List (yt×V)}
def z2n(hok:HOk P w H h)(e:H a=some (.ins C dx fs)):∃mA,Sn h a dx C mA/\(∀f,TW (fs.lookup f) (mA f))/\PySem.Within mA (fs.map (·.1))/\fs.length<=1000/\H dx=some (.own a):=by
 obtain⟨d,z,ne,ob,mA,n,r,q⟩:=(show tG P w H h a (.ins C dx fs) from hok a _ e)
 exact⟨mA,⟨ob,n,ne⟩,r,q,z,d⟩
end
structure Cls(K:yx)(C:yc):Prop where
 pg:W.plainGet K C Str.empty=true
 hd:W.hasDictIn K C=true
 po:W.plainOver K C=true
 sa:Yl K (.ref C) "__setattr__"=some (some (.builtin "object.__setattr__"))
def Cls.get{K:yx}{C:yc}(c:Cls K C)(f:yt):W.plainGet K C f=true:=c.pg
def si(K:yx)(C:yc)(f:yt):Prop:=Yl K (.ref C) f=some none
def si.taker{K:yx}{C:yc}{f:yt}(n:si K C f):W.takerIn K C f=some none:=by
 unfold W.takerIn;rw[show Yl K (.ref C) f=some none from n];rfl
structure Con(K:yx)(C:yc)(f:yt)(v:V)(u:Value):Prop where
 at_:Yl K (.ref C) f=some (some u)
 rel:RelV v u
 get:W.specialIn K u "__get__"=some none
 cp:W.copiedNames.contains f=false
structure Meth(K:yx)(C:yc)(m:yt)(f:yc):Prop where
 at_:Yl K (.ref C) m=some (some (.ref f))
 fn:W.isFn K (.ref f)=true
 kp:W.keepIn K (.ref f)=true
section
variable {X:Cx}{U:List (yc×YT)}{Y:St}{H:Hp}{s:yd}{a C dx:yc}{fs:List (yt×V)}{f:yt}{v:V}{A:yK}{E:Value->yd->Prop}
def zBs{b:Bool}{Q:Value->yd->Prop}(I:Inv X U Y H s)(e:H a=some (.ins C dx fs))(c:Cls X.K C)(n:si X.K C f)(l:fs.lookup f=some v)
 (h:∀u s',Inv X U Y H s'->RelV v u->Q u s'):yn (yv X.prog X.w) A (getAttr (.ref a) f b) Q E s:=by
 obtain⟨mA,μ,r,_,_,_⟩:=z2n I.hok e;obtain⟨u,hu,ru⟩:=TW.some_of (v:=v) (o:=mA f) (by rw[<-l];exact r f);exact z4y I.kIn μ (c.get f) c.hd n hu (zNp ru) (h u _ (I.tok _) ru)
def zLj{m:yt}{g:yc}{pl:Sem Bool}{Q:Value×List Value->yd->Prop}(I:Inv X U Y H s)(e:H a=some (.ins C dx fs))(c:Cls X.K C)(k:Meth X.K C m g)(l:fs.lookup m=none)
 (h:Q (.ref g,[.ref a]) s):yn (yv X.prog X.w) A (getMethod (.ref a) m pl) Q E s:=by
 obtain⟨mA,μ,r,_,_,_⟩:=z2n I.hok e;have hn:mA m=none:=TW.none_of (by rw[<-l];exact r m);exact zgw I.kIn μ (c.get m) k.at_ k.fn hn h
def zds{y:V}{u:Value}{Q:Unit->yd->Prop}(I:Inv X U Y H s)(e:H a=some (.ins C dx fs))(c:Cls X.K C)(n:si X.K C f)(hl:fs.length<1000)(ry:RelV y u)
 (h:∀s',Inv X U Y (upd H a (.ins C dx (z4l f y fs))) s'->Q () s'):yn (yv X.prog X.w) A (setAttr (.ref a) f u) Q E s:=by
 obtain⟨mA,μ,r,wi,_,ho⟩:=z2n I.hok e;have hz:(fs.map (·.1)).length<=yD:=by rw[length_map,Yr];omega
 refine zGy I.kIn μ c.sa c.po n.taker c.hd wi hz λh' μ' sb=>h _ ?_;have hd:∃o,h'.get? dx=some o:=let ⟨o,_,_,e',_⟩:=μ'.ns;⟨o,e'⟩;refine I.write (x:=a) (e:=dx) (by rw[e];exact xX) (.inr ho) (λb q hb z=>(sb.2 b hb).trans z) hd ?_;refine⟨by rw[zL μ.ne];exact ho,?_,μ.ne,μ'.obj,_,μ'.ns,λg=>?_,λg hg=>?_⟩
 ·have:=zbl f y fs;omega
 ·show TW ((z4l f y fs).lookup g) (if g=f then some u else mA g);rw[z8k]
  by_cases q:g=f
  ·rw[if_pos q,if_pos q];exact ry
  ·rw[if_neg q,if_neg q];exact r g
 ·by_cases q:g=f
  ·rw[q];exact(z7k f y fs).1
  ·refine(z7k f y fs).2 g (wi g λz=>hg ?_);show(if g=f then some u else mA g)=none;rw[if_neg q];exact z
def Inv.made(I:Inv X U Y H s):Inv X U Y (upd (upd H s.heap.objs.size (.own (s.heap.objs.size+1))) (s.heap.objs.size+1) (.ins C s.heap.objs.size []))
 {s with heap:=(s.heap.push xU).push (W.instObj C s.heap.objs.size)}:=by
 have e1:(s.heap.push xU).get? s.heap.objs.size=some xU:=yp s.heap rfl
 have e2:((s.heap.push xU).push (W.instObj C s.heap.objs.size)).get? (s.heap.objs.size+1)=some (W.instObj C s.heap.objs.size):=by
  have:=yp (s.heap.push xU) (o:=W.instObj C s.heap.objs.size) rfl
  rwa [Ys]at this
 have e3:(s.heap.push xU).Ns s.heap.objs.size (λ_=>none):=⟨xU,#[],_,e1,rfl,(λe he=>absurd he (by simp)),λ_=>rfl⟩
 have I1:=I.laid (a:=s.heap.objs.size) (o:=.own (s.heap.objs.size+1)) (h':=s.heap.push xU) (t':=s.toks) (λb u q=>yb _ q) (yi _) ⟨_,e1⟩;refine I1.laid (a:=s.heap.objs.size+1) (o:=.ins C s.heap.objs.size []) (t':=s.toks) (λb u q=>yb _ q) (Nat.le_of_eq (Ys _ _)) ?_;have ne:s.heap.objs.size≠s.heap.objs.size+1:=yu (Yz _);refine⟨by rw[zL ne,zF],Yt _,ne,e2,λ_=>none,(Heap.Ns1.of_empty e3).at λo q=>yb _ q,λ_=>xX,λy hy=>absurd rfl hy⟩
def zQu{prog:yA}{w:yI}{env:Env}{e:yE}{f:yt}{pos:xp}{s:yd}{Q:Value->yd->Prop}(hb:YA e f env (Ye e env)=Ye e env)
 (h:yn (yv prog w) A (Ye e env) (λo s₁=>yn (yv prog w) A (getAttr o f true) Q E s₁) E s):yn (yv prog w) A (Ye (.Attribute e f pos) env) Q E s :=
 Attribute_any_ h (by rw[arm_eval_Attribute,hb])
end
def zHC(K:yx)(ta:TE)(f:yt):TE:=λY H Q=>ta Y H λx H1=>∃a C dx fs v,x=.ref a/\H1 a=some (.ins C dx fs)/\Cls K C/\si K C f/\fs.lookup f=some v/\Q v H1
def zAC(K:yx)(ta tv:TE)(f:yt):TS:=λD Y H=>tv Y H λy H1=>ta Y H1 λx H2=>∃a C dx fs,x=.ref a/\H2 a=some (.ins C dx fs)/\Cls K C/\si K C f/\fs.length<1000 /\
 D.nx Y (upd H2 a (.ins C dx (z4l f y fs)))
section
variable {X:Cx}{o e value:yE}{f:yt}{pos pos' tpos:xp}{ta tv:TE}
def zXz(he:PE X e ta)(hb:YA e f X.env (Ye e X.env)=Ye e X.env):PE X (.Attribute e f pos) (zHC X.K ta f):=by
 intro U s Y H Q I h;refine zQu hb (thn (he U s Y H _ I h) λu s1 ⟨x,H1,I1,rx,a,C,dx,fs,v,ex,ea,c,n,l,q⟩=>?_);subst ex;obtain rfl:u=yG a:=rx;exact zBs I1 ea c n l λu' s2 I2 ru=>⟨v,H1,I2,ru,q⟩
def zqA(ha:PE X o ta)(hv:PE X value tv)(hs:xQ value (some (.Attribute o f pos')) pos.line X.env=pure false):PS X (.Assign [.Attribute o f pos'] value pos) (zAC X.K ta tv f):=by
 intro U s Y H D I h;refine plainObj_wpAny_Assign_Attribute (thn (hv U s Y H _ I h) λu s1 ⟨y,H1,I1,ry,q⟩=>thn (ha U s1 Y H1 _ I1 q) λov s2 ⟨x,H2,I2,rx,a,C,dx,fs,ex,ea,c,n,l,q2⟩=>?_) hs;subst ex;obtain rfl:ov=yG a:=rx;exact zds I2 ea c n l ry λs3 I3=>⟨Y,_,I3,q2⟩
variable {U:List (yc×YT)}{Y:St}{H:Hp}{s:yd}{A:yK}{E Q:Value->yd->Prop}{c:Value}{b:Bool}
inductive sy(K:yx)(H:Hp):V->Value->Prop where
 |non:sy K H .non (.type "NoneType")
 |bl (x:Bool):sy K H (.bl x) (.type "bool")
 |int (i:Int):sy K H (.int i) (.type "int")
 |str (x:yt):sy K H (.str x) (.type "str")
 |flt (x:UInt64):sy K H (.flt x) (.type "float")
 |lst {a:yc} {xs:List V} (e:H a=some (.lst xs)):sy K H (.ref a) (.type "list")
 |frz {a:yc} {o:YT} {xs:List V} (e:H a=some (.frz o (.lst xs))):sy K H (.ref a) (.type "list")
 |tup {a:yc} {xs:List V} (e:H a=some (.tup xs)):sy K H (.ref a) (.type "tuple")
 |dK {a:yc} {kvs:List (Key×V)} (e:H a=some (.dK kvs)):sy K H (.ref a) (.type "dict")
 |dT {a:yc} {kvs:List (List Key×V)} (e:H a=some (.dT kvs)):sy K H (.ref a) (.type "dict")
 |ins {a C dx:yc} {fs:List (yt×V)} (e:H a=some (.ins C dx fs)) (cl:Cls K C) (ha:Yl K (.ref C) "__class__"=some (some (.builtin "object.__class__")))
  (hn:W.specialIn K (.builtin "object.__class__") "__get__"=some (some (.builtin "getset_descriptor.__get__"))) (htk:W.takesIn K (.builtin "object.__class__")=some true)
  (hm:W.mroIn K C (.type "object")=some true):sy K H (.ref a) (.ref C)
def zjt{x:V}{u t:Value}(I:Inv X U Y H s)(rx:RelV x u)(ty:sy X.K H x t)(e:W.kitOne X.K t c=some b)(h:∀tk,Q (.bool b) {s with toks:=tk }) :
 yn (yv X.prog X.w) A (call (.builtin "isinstance") [u,c]) Q E s:=by
 cases ty with
 |non=>cases (show u=Yn from rx);exact Xf W.kitx_none I.kIn xX e (λz=>nomatch z) h
 |bl y=>cases (show u=Value.bool y from rx);exact Xf W.kitx_bool I.kIn xX e (λz=>nomatch z) h
 |int i=>obtain⟨t,q⟩:=(show ∃t,u=Value.int i t from rx);cases q;exact Xf W.kitx_int I.kIn xX e (λz=>nomatch z) h
 |str y=>obtain⟨t,q⟩:=(show ∃t,u=Value.str y t from rx);cases q;exact Xf W.kitx_str I.kIn xX e (λz=>nomatch z) h
 |flt y=>obtain⟨t,q⟩:=(show ∃t,u=Value.float y t from rx);cases q;exact Xf W.kitx_float I.kIn xX e (λz=>nomatch z) h
 |@lst a xs ea=>
  cases (show u=yG a from rx);obtain⟨_,_,n,_,h1⟩:=(show tG X.prog X.w H s.heap a (.lst xs) from I.hok a _ ea)
  exact Xf W.kitx_list I.kIn ⟨_,h1,rfl⟩ e (λz=>nomatch z) h
 |@frz a ob xs ea=>
  cases (show u=yG a from rx);obtain⟨_,_,_,n,_,h1⟩:=(show tG X.prog X.w H s.heap a (.frz ob (.lst xs)) from I.hok a _ ea)
  exact Xf W.kitx_list I.kIn ⟨_,h1,rfl⟩ e (λz=>nomatch z) h
 |@tup a xs ea=>
  cases (show u=yG a from rx);obtain⟨_,_,_,p⟩:=(show tG X.prog X.w H s.heap a (.tup xs) from I.hok a _ ea)
  obtain⟨o,h1,h2,_⟩:=p;exact Xf W.kitx_tuple I.kIn ⟨o,h1,h2⟩ e (λz=>nomatch z) h
 |@dK a kvs ea=>
  cases (show u=yG a from rx);obtain⟨_,_,vs,_,p⟩:=(show tG X.prog X.w H s.heap a (.dK kvs) from I.hok a _ ea)
  obtain⟨o,es,ep,h1,h2,_⟩:=p;exact Xf W.kitx_dict I.kIn ⟨o,h1,h2.1⟩ e (λz=>nomatch z) h
 |@dT a kvs ea=>
  cases (show u=yG a from rx);obtain⟨_,_,xs,_,o,es,ep,h1,h2,_⟩:=(show tG X.prog X.w H s.heap a (.dT kvs) from I.hok a _ ea)
  exact Xf W.kitx_dict I.kIn ⟨o,h1,h2.1⟩ e (λz=>nomatch z) h
 |@ins a C dx fs ea cl ha hn htk hm=>
  cases (show u=yG a from rx);obtain⟨mA,μ,_⟩:=z2n I.hok ea;obtain⟨od,δ,_⟩:=μ.look;exact Xf (W.kitx_own (cl.get _) cl.hd ha hn htk hm) I.kIn δ e (λz=>nomatch z) h
end
structure tS(k:Nat)(A:yK):Prop where
 hd:A.handled=none
 dp:A.depth+3*k+5<recursionLimit
 un:A.units+16*k+200<cLine
 gd:A.guards=some []
def tS.mono{j k:Nat}{A:yK}(r:tS k A)(h:j<=k):tS j A:=⟨r.hd,by have:=r.dp;omega,by have:=r.un;omega,r.gd⟩
def tS.deeper{k:Nat}{A:yK}(r:tS (k+1) A)(env:Env):tS k (A.deeper env) :=
 ⟨r.hd,by have:=r.dp;show A.depth+1+3*k+5<_;omega,by have:=r.un;show A.units+3+16*k+200<_;omega,r.gd⟩
def z1r{A:yK}{C:yc}{us:List Value}{kw:List (yt×Value)}:(A.under (.builtin "type.__call__" ⟨.ref C::us,kw⟩)).depth=A.depth+1:=by
 first|rfl|simp[Around.under,Code.weight,Code.isCreation,Code.isGuard,Code.isCaller,Code.frames,Code.isFrame,guardIds]
def zzs{A:yK}{C:yc}{us:List Value}{kw:List (yt×Value)}:(A.under (.builtin "type.__call__" ⟨.ref C::us,kw⟩)).units=A.units+1:=by
 first|rfl|simp[Around.under,Code.cUnits,Code.frames,Code.isFrame]
def zYp{A:yK}{C:yc}{us:List Value}{kw:List (yt×Value)}:(A.under (.builtin "type.__call__" ⟨.ref C::us,kw⟩)).guards=A.guards:=by
 first|rfl|(cases h:A.guards<;>simp[Around.under,Code.guards,Code.isGuard,guardIds,h])
def tS.make{k:Nat}{A:yK}(r:tS (k+1) A)(C:yc)(us:List Value)(kw:List (yt×Value)):tS k (A.under (.builtin "type.__call__" ⟨.ref C::us,kw⟩)) :=
 ⟨r.hd,by have:=r.dp;rw[z1r];omega,by have:=r.un;rw[zzs];omega,by rw[zYp];exact r.gd⟩
def tS.depth{k:Nat}{A:yK}(r:tS k A):A.depth<recursionLimit:=by have:=r.dp;omega
def tS.units{k:Nat}{A:yK}(r:tS k A):A.units+64<cLine:=by have:=r.un;omega
def z7B:TA:=λ_ H Q=>Q [] H
def zsB(ta:TE)(tr:TA):TA:=λY H Q=>ta Y H λx H1=>tr Y H1 λxs H2=>Q (x::xs) H2
section
variable {X:Cx}{e:yE}{es:List yE}{te:TE}{t:TA}{pos:xp}
def zdi:PA X [] z7B:=λ_ _ _ _ H Q I h=>Calls.spliced_nil ⟨[],H,I,.nil,h⟩
def z4e(ha:PE X e te)(hr:PA X es t)(hs:yj (e::es) X.env=(false,Ye e X.env)::yj es X.env:=by rfl):PA X (e::es) (zsB te t):=by
 intro pos U s Y H Q I h;rw[hs];show yn _ _ (spliced ((false,Ye e X.env)::Ym pos (yj es X.env))) _ _ s;refine Calls.spliced_cons (thn (ha U s Y H _ I h) λu s1 ⟨x,H1,I1,r1,q1⟩=>?_);exact thn (hr pos U s1 Y H1 _ I1 q1) λus s2 ⟨xs,H2,I2,r2,q2⟩=>⟨x::xs,H2,I2,.cons r1 r2,q2⟩
def zKC(t:TA):TE:=λY H Q=>t Y H λxs H1=>xs.length<=yD/\∀p,H1 p=none->Q (.ref p) (upd H1 p (.tup xs))
def zIC(t:TA):TE:=λY H Q=>t Y H λxs H1=>xs.length<=yD/\∀p,H1 p=none->Q (.ref p) (upd H1 p (.lst xs))
def zmz{x1}(h:PA X es t):PE X (.Tuple es x1 pos) (zKC t):=by
 intro U s Y H Q I hq;refine wpAny_Tuple_spliced (thn (h pos U s Y H _ I hq) λus s1 ⟨xs,H1,I1,r,z,q⟩=>⟨by rw[<-r.length];exact z,?_⟩);have hf:H1 s1.heap.objs.size=none:=I1.hok.fresh (yi _);refine⟨.ref s1.heap.objs.size,upd H1 s1.heap.objs.size (.tup xs),I1.laid (t':=s1.toks) (λb u e=>yb _ e) (yi _) ?_,rfl,q _ hf⟩;exact⟨z,us,r,⟨_,yp _ rfl,rfl,_,rfl⟩⟩
def zBz(h:PA X es t):PE X (.List es pos) (zIC t):=by
 intro U s Y H Q I hq;refine wpAny_List_spliced (thn (h pos U s Y H _ I hq) λus s1 ⟨xs,H1,I1,r,z,q⟩=>⟨by rw[<-r.length];exact z,?_⟩);have hf:H1 s1.heap.objs.size=none:=I1.hok.fresh (yi _);refine⟨.ref s1.heap.objs.size,upd H1 s1.heap.objs.size (.lst xs),I1.laid (t':=s1.toks) (λb u e=>yb _ e) (yi _) ?_,rfl,q _ hf⟩;exact⟨z,us,0,r,yp _ rfl⟩
end
abbrev Sp:=List V->Hp->VK->XK->Prop
abbrev CXT:=List Env->Hp->yd->XK->Value->yd->Prop
structure So(P:yA)(w:yI)(K:yx)(mg:yt->Option Value)(base:yT)(A:yK)(outer:List Env)(s:yd)(H:Hp):Prop where
 frames:A.frames=some outer
 mod:Mod K mg base
 bs:∀b o,base.get? b=some o->s.heap.get? b=some o/\H b=none
 bsz:base.objs.size<=s.heap.objs.size
 sx:s.heap.FunFrames base outer
 frf:∀b∈frs outer,H b=none
 hok:HOk P w H s.heap
 bare:AllBare s.gens
def CE(outer:List Env)(P:yA)(w:yI)(H:Hp)(s:yd)(Q:VK)(u:Value)(s':yd):Prop :=
 ∃v H',s'.os=s.os/\AllBare s'.gens/\Un (frs outer) [] H H' s.heap s'.heap/\HOk P w H' s'.heap/\RelV v u/\Q v H'
def CR(CX:CXT)(outer:List Env)(P:yA)(w:yI)(H:Hp)(s:yd)(Q:VK)(E:XK)(r:Result)(s':yd):Prop :=
 match r with
 |.ok (.ret u)=>CE outer P w H s Q u s'
 |.ok _=>False
 |.error e=>CX outer H s E e s'
structure tq(P:yA)(w:yI)(K:yx)(mg:yt->Option Value)(base:yT)(CX:CXT)(k:Nat)(f:yc)(fd:yh)(ps:List yt)(sp:Sp):Prop where
 len:∀vs H Q E,sp vs H Q E->vs.length=ps.length
 run:∀(A:yK)(outer:List Env)(s:yd)(H:Hp)(args:Args)(us:List Value)(vs:List V)(Q:VK)(E:XK),tS k A->So P w K mg base A outer s H->BindsTo s fd args (ps.zip us)->Vals vs us->sp vs H Q E ->
  xN (yv P w) A (.call (.ref f) args) (CR CX outer P w H s Q E) s
def So.make{P:yA}{w:yI}{K:yx}{mg:yt->Option Value}{base:yT}{A:yK}{outer:List Env}{s:yd}{H:Hp}(e:So P w K mg base A outer s H)(C:yc)(us:List Value)(kw:List (yt×Value)) :
 So P w K mg base (A.under (.builtin "type.__call__" ⟨.ref C::us,kw⟩)) outer s H:=⟨by first|exact e.frames|(simpa[Around.under,Code.envs,Code.isFrame,pushEnvs] using e.frames),e.mod,e.bs,e.bsz,e.sx,e.frf,e.hok,e.bare⟩
section
variable {X:Cx}{U:List (yc×YT)}{Y:St}{H:Hp}{s s':yd}
def Inv.env0(I:Inv X U Y H s):So X.prog X.w X.K X.mg X.base X.A X.stack s H :=
 ⟨I.ok.frames,I.ok.mod,I.bs,yF I.ok.bsz I.sz,I.stack,I.TL,I.hok,I.bare⟩
def Inv.after{Q:VK}{u:Value}(I:Inv X U Y H s)(h:CE X.stack X.prog X.w H s Q u s'):EP X U Y Q u s':=by
 obtain⟨v,H',os,bare,un,hok,r,q⟩:=h;obtain⟨hh,g,d,t,os'⟩:=s';obtain rfl:os'=s.os:=os;exact⟨v,H',I.call (h':=hh) (g':=g) (d':=d) (t':=t) (ch:=[]) un hok bare (λb z=>absurd z (by simp)),r,q⟩
end
def zdv(sp:Sp)(dvs:List V)(E:XK)(t:TA):TE:=λY H Q=>t Y H λvs H1=>sp (vs++dvs) H1 Q E
def zKx(C:yc)(m:yt)(sp:Sp)(dvs:List V)(E:XK)(ta:TE)(t:TA):TE:=λY H Q=>ta Y H λx H1=>∃a dx fs,x=.ref a/\H1 a=some (.ins C dx fs)/\fs.lookup m=none /\
 t Y H1 λvs H2=>sp (x::(vs++dvs)) H2 Q E
def zvB(C:yc)(sp:Sp)(dvs:List V)(E:XK)(t:TA):TE:=λY H Q=>t Y H λvs H1=>∀x dx,H1 x=none->H1 dx=none->dx≠x ->
 sp (.ref x::(vs++dvs)) (upd (upd H1 dx (.own x)) x (.ins C dx [])) (λv H2=>v=.non/\Q (.ref x) H2) E
def Binds(K:yx)(fd:yh)(ps:List yt)(ds:List Value):Prop :=
 ∀(s:yd)(us:List Value),K.In s.heap->(us++ds).length=ps.length->BindsTo s fd ⟨us,[]⟩ (ps.zip (us++ds))
def Binds.all{K:yx}{fd:yh}{ps:List yt}(h:∀us:List Value,us.length=ps.length->bindArgs fd ⟨us,[]⟩=pure (ps.zip us)):Binds K fd ps []:=λs us _ hl=>by
 rw[append_nil]at hl ⊢;exact .of_eq (h us hl)
def zaj(CX:CXT)(X:Cx)(E:XK):Prop:=∀(U:List (yc×YT)) (Y:St) (H:Hp) (s:yd) (e:Value) (s':yd),Inv X U Y H s->CX X.stack H s E e s'->X.xe e s'
section
variable {X:Cx}{CX:CXT}{k:Nat}{f C:yc}{fd:yh}{ps:List yt}{sp:Sp}{dvs:List V}{ds:List Value}{E:XK}{x m:yt}{p pos apos:xp}{e o:yE}{es:List yE}{ta:TE}{t:TA}
def znt{U:List (yc×YT)}{Y:St}{H:Hp}{s:yd}{Q:VK}{us:List Value}{vs:List V}(F:tq X.prog X.w X.K X.mg X.base CX k f fd ps sp)(hr:tS k X.A)(hb:Binds X.K fd ps ds)(hd:Vals dvs ds)(hx:zaj CX X E)
 (I:Inv X U Y H s) (r:Vals vs us) (h:sp (vs++dvs) H Q E):yn (yv X.prog X.w) X.A (call (.ref f) us) (EP X U Y Q) X.xe s:=by
 have r2:Vals (vs++dvs) (us++ds):=r.append hd;have hl:(us++ds).length=ps.length:=by rw[<-r2.length];exact F.len _ _ _ _ h
 refine Xq (YG (F.run X.A X.stack s H ⟨us,[]⟩ (us++ds) (vs++dvs) Q E hr I.env0 (hb s us I.kIn hl) r2 h) λr s' hq=>?_)
 cases r with
 |error e=>exact hx U Y H s e s' I hq
 |ok fl=>
  cases fl with
  |ret u=>exact I.after hq
  |next=>exact YC hq
  |brk=>exact YC hq
  |cont=>exact YC hq
def zIy(F:tq X.prog X.w X.K X.mg X.base CX k f fd ps sp)(hr:tS k X.A)(hg:Gl X x)(hm:X.mg x=some (.ref f))(hk:W.keepIn X.K (.ref f)=true)(hb:Binds X.K fd ps ds)(hd:Vals dvs ds)(hx:zaj CX X E)
 (ha:PA X (e::es) t) (hdb:(x==("__debug__":yt))=false:=by decide) (he:yj (e::es) X.env=(false,Ye e X.env)::yj es X.env:=by rfl) (hpl:(Ym pos (yj es X.env)).any (·.1)=false:=by rfl) :
 PE X (.Call (.Name x p) (e::es) [] pos) (zdv sp dvs E t):=by
 intro U s Y H Q I h;refine xy (zpg I hg hm ?_ hdb);refine W.callWith_K (h₀:=X.base) I.ok.mod.kin hk (thn (ha pos U s Y H _ I h) λus s1 ⟨vs,H1,I1,r,q⟩=>⟨I1.kIn,?_⟩) he hpl;exact znt F hr hb hd hx I1 r q
def ztx{pl:Sem Bool}(he:PE X o ta)(c:Cls X.K C)(hm:Meth X.K C m f)(F:tq X.prog X.w X.K X.mg X.base CX k f fd ps sp)(hr:tS k X.A)(hb:Binds X.K fd ps ds)(hd:Vals dvs ds)(hx:zaj CX X E)(ha:PA X (e::es) t)
 (hst:yj (e::es) X.env=(false,Ye e X.env)::yj es X.env:=by rfl) (hpl:(Ym pos (yj es X.env)).any (·.1)=false:=by rfl)
 (ht:Ye (.Call (.Attribute o m apos) (e::es) [] pos) X.env=(do
  let ov <-Ye o X.env
  standAt apos.atName
  let (f,first) <-xt [ov] (getMethod ov m pl)
  callWith pos f first (Ym pos (yj (e::es) X.env)) (xR pos (YQ [] X.env))):=by rfl) :
 PE X (.Call (.Attribute o m apos) (e::es) [] pos) (zKx C m sp dvs E ta t):=by
 intro U s Y H Q I h;refine W.methodCall_KW (pl:=pl) (thn (he U s Y H _ I h) λu s1 ⟨x,H1,I1,rx,a,dx,fs,ex,ea,l,q⟩=>?_) ht;subst ex;obtain rfl:u=yG a:=rx;refine zLj I1 ea c hm l ?_;refine W.callWith_K (first:=[.ref a]) (h₀:=X.base) I.ok.mod.kin hm.kp (thn (ha pos U s1 Y H1 _ I1 q) λus s2 ⟨vs,H2,I2,r,q2⟩=>⟨I2.kIn,?_⟩) hst hpl;exact znt (us:=.ref a::us) (vs:=.ref a::vs) F hr hb hd hx I2 (.cons rfl r) q2
def zRv{pl:Sem Bool}(he:PE X o ta)(c:Cls X.K C)(hm:Meth X.K C m f)(F:tq X.prog X.w X.K X.mg X.base CX k f fd ps sp)(hr:tS k X.A)(hb:Binds X.K fd ps ds)(hd:Vals dvs ds)(hx:zaj CX X E)
 (ht:Ye (.Call (.Attribute o m apos) [] [] pos) X.env=(do
  let ov <-Ye o X.env
  standAt apos.atName
  let (f,first) <-xt [ov] (getMethod ov m pl)
  callWith pos f first (Ym pos (yj [] X.env)) (xR pos (YQ [] X.env))):=by rfl) :
 PE X (.Call (.Attribute o m apos) [] [] pos) (zKx C m sp dvs E ta z7B):=by
 intro U s Y H Q I h;refine W.methodCall_KW (pl:=pl) (thn (he U s Y H _ I h) λu s1 ⟨x,H1,I1,rx,a,dx,fs,ex,ea,l,q⟩=>?_) ht;subst ex;obtain rfl:u=yG a:=rx;refine zLj I1 ea c hm l ?_;exact W.callWith_K0 (first:=[.ref a]) I1.kIn hm.kp (znt (us:=[.ref a]) (vs:=[.ref a]) F hr hb hd hx I1 (.cons rfl .nil) q)
structure Mk(K:yx)(C f:yc):Prop where
 makes:W.makesIn K C=true
 init:Yl K (.ref C) "__init__"=some (some (.ref f))
 fn:W.isFn K (.ref f)=true
 kp:W.keepIn K (.ref C)=true
def ziw{U:List (yc×YT)}{Y:St}{H:Hp}{s:yd}{Q:VK}{us:List Value}{vs:List V}(M:Mk X.K C f)(F:tq X.prog X.w X.K X.mg X.base CX k f fd ps sp)(hr:tS (k+1) X.A)(hb:Binds X.K fd ps ds)(hd:Vals dvs ds)
 (hx:zaj CX X E) (I:Inv X U Y H s) (r:Vals vs us)
 (h:∀x dx,H x=none->H dx=none->dx≠x->sp (.ref x::(vs++dvs)) (upd (upd H dx (.own x)) x (.ins C dx [])) (λv H2=>v=.non/\Q (.ref x) H2) E) :
 yn (yv X.prog X.w) X.A (call (.ref C) us) (EP X U Y Q) X.xe s:=by
 have hq:=h (s.heap.objs.size+1) s.heap.objs.size (I.hok.fresh (xV _)) (I.hok.fresh (yi _)) (yu (Yz _));have I2:=Inv.made (C:=C) I;have r2:Vals (V.ref (s.heap.objs.size+1)::(vs++dvs)) (yG (s.heap.objs.size+1)::(us++ds)) :=.cons rfl (r.append hd)
 have hl:(yG (s.heap.objs.size+1)::us++ds).length=ps.length:=by
  have e:=r2.length;rw[F.len _ _ _ _ hq]at e;exact e.symm
 refine Xq (zVv (f:=f) I.kIn M.makes M.init (beq_iff_eq.mp M.fn) (YG (F.run _ X.stack _ _ ⟨yG (s.heap.objs.size+1)::us,[]⟩ (yG (s.heap.objs.size+1)::(us++ds)) _ _ E (hr.make C us [])
  (I2.env0.make C us []) (hb _ (yG (s.heap.objs.size+1)::us) I2.kIn hl) r2 hq) λr s' hq'=>?_))
 cases r with
 |error e=>exact hx U Y _ _ e s' I2 hq'
 |ok fl=>
  cases fl with
  |ret u=>
   obtain⟨v,H',I3,rv,ev,q3⟩:=I2.after hq';subst ev;exact⟨rv,⟨V.ref (s.heap.objs.size+1),H',I3,rfl,q3⟩⟩
  |next=>exact YC hq'
  |brk=>exact YC hq'
  |cont=>exact YC hq'
def z8y(M:Mk X.K C f)(F:tq X.prog X.w X.K X.mg X.base CX k f fd ps sp)(hr:tS (k+1) X.A)(hg:Gl X x)(hm:X.mg x=some (.ref C))(hb:Binds X.K fd ps ds)(hd:Vals dvs ds)(hx:zaj CX X E)
 (ha:PA X (e::es) t) (hdb:(x==("__debug__":yt))=false:=by decide) (he:yj (e::es) X.env=(false,Ye e X.env)::yj es X.env:=by rfl) (hpl:(Ym pos (yj es X.env)).any (·.1)=false:=by rfl) :
 PE X (.Call (.Name x p) (e::es) [] pos) (zvB C sp dvs E t):=by
 intro U s Y H Q I h;refine xy (zpg I hg hm ?_ hdb);refine W.callWith_K (h₀:=X.base) I.ok.mod.kin M.kp (thn (ha pos U s Y H _ I h) λus s1 ⟨vs,H1,I1,r,q⟩=>⟨I1.kIn,?_⟩) he hpl;exact ziw M F hr hb hd hx I1 r q
variable {ks:List yt}{kpos:xp}{kws:List xO}{te:TE}{tk:TA}{nm:Option yt}
structure KBinds(K:yx)(fd:yh)(ps ks:List yt)(g:List Value->List Value->List Value)(gV:List V->List V->List V):Prop where
 to:∀(s:yd)(us ws:List Value),K.In s.heap->(g us ws).length=ps.length->BindsTo s fd ⟨us,ks.zip ws⟩ (ps.zip (g us ws))
 rel:∀{vs:List V} {us:List Value} {zs:List V} {ws:List Value},Vals vs us->Vals zs ws->Vals (gV vs zs) (g us ws)
variable {g:List Value->List Value->List Value}{gV:List V->List V->List V}
end
structure tu(N P:List yt)(sc:Xm):Prop where
 kind:sc.kind=.function
 co:sc.isCoroutine=false
 gen:sc.isGenerator=false
 nd:N.Nodup
 pre:N.take P.length=P
 par:∀x∈P,sc.names.lookup x=some .local\/sc.names.lookup x=some .cell
 nofree:∀y∈sc.names,y.2≠.free
def zPo{kindOf:yt->Option xj}{x:yt}:∀{binds:List (yt×Value)} {m:yt->Option Value},(∀v,(x,v)∉binds)->bindL kindOf binds m x=m x
 |[],_,_=>rfl
 |(n,v)::r,m,h=>by
  unfold bindL;rw[zPo λw hw=>h w (mem_cons_of_mem _ hw)]
  split
  ·have:x≠n:=by rintro rfl;exact h v mem_cons_self
   simp[this]
  ·rfl
def zrp{kindOf:yt->Option xj}{x:yt}:∀{binds:List (yt×Value)} {m:yt->Option Value},(∀v,(x,v)∉binds)->bindC kindOf binds m x=m x
 |[],_,_=>rfl
 |(n,v)::r,m,h=>by
  unfold bindC;rw[zrp λw hw=>h w (mem_cons_of_mem _ hw)]
  split
  ·rfl
  ·have:x≠n:=by rintro rfl;exact h v mem_cons_self
   simp[this]
def zKp{kindOf:yt->Option xj}{x:yt}{v:Value}:∀{P:List yt} {vs:List Value} {i:Nat} {m:yt->Option Value},P.Nodup->P[i]?=some x->vs[i]?=some v->kindOf x=some .local ->
 bindL kindOf (P.zip vs) m x=some v
 |[],_,_,_,_,h,_,_=>by simp at h
 |_::_,[],_,_,_,_,h,_=>by simp at h
 |p::P,w::vs,0,m,nd,h1,h2,hk=>by
  simp at h1 h2;subst h1;subst h2;show bindL kindOf ((p,w)::P.zip vs) m p=_;unfold bindL;rw[zPo λv hv=>(List.nodup_cons.mp nd).1 (of_mem_zip hv).1,if_pos hk];simp
 |p::P,w::vs,i+1,m,nd,h1,h2,hk=>by
  show bindL kindOf ((p,w)::P.zip vs) m x=_;unfold bindL;exact zKp (i:=i) (List.nodup_cons.mp nd).2 (by simpa using h1) (by simpa using h2) hk
def zgp{kindOf:yt->Option xj}{x:yt}{v:Value}:∀{P:List yt} {vs:List Value} {i:Nat} {m:yt->Option Value},P.Nodup->P[i]?=some x->vs[i]?=some v->kindOf x≠some .local ->
 bindC kindOf (P.zip vs) m x=some v
 |[],_,_,_,_,h,_,_=>by simp at h
 |_::_,[],_,_,_,_,h,_=>by simp at h
 |p::P,w::vs,0,m,nd,h1,h2,hk=>by
  simp at h1 h2;subst h1;subst h2;show bindC kindOf ((p,w)::P.zip vs) m p=_;unfold bindC;rw[zrp λv hv=>(List.nodup_cons.mp nd).1 (of_mem_zip hv).1,if_neg hk];simp
 |p::P,w::vs,i+1,m,nd,h1,h2,hk=>by
  show bindC kindOf ((p,w)::P.zip vs) m x=_;unfold bindC;exact zgp (i:=i) (List.nodup_cons.mp nd).2 (by simpa using h1) (by simpa using h2) hk
def start(N:List yt)(vs:List V):St:=vs.map some++yC (N.length-vs.length) none
def zRs(CX:CXT)(P:yA)(w:yI)(K:yx)(mg:yt->Option Value)(base:yT)(N:List yt)(qual:yt)(scope:Xm)(f:yc)(cd:Value)(A:yK)(outer:List Env)(s:yd)(H:Hp)(E:XK):Cx where
 prog:=P
 w:=w
 K:=K
 mg:=mg
 base:=base
 A:=A.deeper (envOfC qual scope s.heap.objs.size f cd)
 N:=N
 s₀:=s
 H₀:=H
 env:=envOfC qual scope s.heap.objs.size f cd
 outer:=outer
 stack:=envOfC qual scope s.heap.objs.size f cd::outer
 ex:=[]
 calm:=true
 fn:=λ_=>true
 pn:=[]
 xe:=λe s'=>yn (yv P w) (A.deeper (envOfC qual scope s.heap.objs.size f cd)) (leaving (envOfC qual scope s.heap.objs.size f cd) e) (λ_ s''=>CX outer H s E e s'') (λe' s''=>CX outer H s E e' s'') s'
def zyr{sc:Xm}{n:Nat}{x:yt}(h:sc.names.lookup x=some .cell):∃c,(Yq n sc.names []).lookup x=some c:=by
 have q:=W.cellsFrom_some sc.names n [] (.inl h);exact Option.isSome_iff_exists.mp q
def zVu{CX:CXT}{P:yA}{w:yI}{K:yx}{mg:yt->Option Value}{base:yT}{N ps:List yt}{qual:yt}{scope:Xm}{f:yc}{cd:Value}{A:yK}{outer:List Env}{s s1:yd}{H:Hp}{E:XK}{us:List Value}{vs:List V}
 (S:tu N ps scope) (hd:A.handled=none) (e0:So P w K mg base A outer s H) (hl:vs.length=ps.length) (r:Vals vs us)
 (x:InCallC s s.heap.objs.size (bindL (envOfC qual scope s.heap.objs.size f cd).kindOf (ps.zip us) λ_=>none) (Yq (s.heap.objs.size+1) scope.names []) (bindC (envOfC qual scope s.heap.objs.size f cd).kindOf (ps.zip us) λ_=>none) s1) :
 Inv (zRs CX P w K mg base N qual scope f cd A outer s H E) [] (start N vs) H s1:=by
 have hpl:ps.length<=N.length:=by have:=congrArg List.length S.pre;rw[length_take]at this;omega
 obtain⟨h1,tk,rfl,hk⟩:=x.done;have noA:∀b:yc,b∉(zRs CX P w K mg base N qual scope f cd A outer s H E).ex:=λb z=>absurd (show b∈([]:List yc) from z) (by simp)
 refine⟨⟨e0.mod,S.kind,rfl,rfl,yi _,λy z c h1 h2=>?_,λy hy=>?_,λy c _ h=>?_,λ_=>hd,Around.frames_deeper e0.frames,.inr ⟨rfl,rfl⟩,λb z=>absurd z (noA b),e0.bs,e0.bsz,λb _ _=>noA b,λb z=>absurd z (noA b),e0.sx,e0.frf⟩,
  rfl,e0.bare,Un.kept hk,⟨_,x.toInCall.ns,λi y v h1 h2 h3=>?_⟩,λy c h=>⟨_,x.cell y c h⟩,e0.hok.fresh (yi _),λy c h=>?_,λp hp=>absurd (show p∈([]:List (yc×YT)) from hp) (by simp),e0.hok.kept hk,?_⟩
 ·exact name_of_addr x.apart (Yg h1) (Yg h2)
 ·have hy:scope.names.lookup y=some .cell\/scope.names.lookup y=some .free:=hy;rcases hy with hy|hy
  ·exact zyr hy
  ·exact absurd rfl (S.nofree _ (Yg hy))
 ·exact YO (x.above y c (Yg h))
 ·have hi:i<vs.length:=by
   unfold start at h2
   by_cases hi:i<vs.length
   ·exact hi
   ·rw[yM (by simpa using hi)]at h2;rw[YR]at h2
    split at h2<;>cases h2
  have ha:vs[i]?=some v:=by
   unfold start at h2;rw[yr (by simpa using hi),yg]at h2
   cases e:vs[i]? with
   |none=>rw[e]at h2;cases h2
   |some a=>rw[e]at h2;cases h2;rfl
  obtain⟨u,hu,rv⟩:=r.get ha
  have hp:ps[i]?=some y:=by
   rw[<-S.pre,List.getElem?_take_of_lt (by omega)];exact h1
  have ndP:ps.Nodup:=by rw[<-S.pre];exact S.nd.sublist (List.take_sublist _ _)
  refine⟨u,rv,?_⟩;rcases S.par y (mem_of_getElem? hp) with k|k
  ·exact .inl ⟨k,zKp ndP hp hu k⟩
  ·obtain⟨c,e⟩:=zyr (n:=s.heap.objs.size+1) k;refine .inr ⟨.inl k,c,e,?_⟩;have q:=x.cell y c e;rw[zgp ndP hp hu (by show scope.names.lookup y≠_;rw[k];decide)]at q;exact q
 ·exact e0.hok.fresh (YO (x.above y c (Yg h)))
 ·unfold start;show _=N.length;rw[length_append,length_map,Xi];omega
def ztz{CX:CXT}{P:yA}{w:yI}{K:yx}{mg:yt->Option Value}{base:yT}{k:Nat}{f:yc}{name qual:yt}{params:Arguments}{body:List Yb}{scope:Xm}{dV kV doc pm cdv ct oc:Value}{an od:Option yc}
 {osl:Array (Option Value)} {N ps:List yt} {sp:Sp} (lk:K.lookup f=some ⟨oc,od,.func (W.fnOf name qual params body scope dV kV doc pm an cdv ct),osl⟩) (hcd:W.codeIn K cdv qual=true) (S:tu N ps scope)
 (len:∀vs H Q E,sp vs H Q E->vs.length=ps.length)
 (hbody:∀(A:yK)(outer:List Env)(s:yd)(H:Hp)(vs:List V)(Q:VK)(E:XK),tS k (A.deeper (envOfC qual scope s.heap.objs.size f cdv))->sp vs H Q E ->
  ∃t,PSs (zRs CX P w K mg base N qual scope f cdv A outer s H E) body t/\t {nx:=λ_ H'=>Q .non H',rt:=Q } (start N vs) H) :
 tq P w K mg base CX (k+1) f (W.fnOf name qual params body scope dV kV doc pm an cdv ct) ps sp:=by
 refine⟨len,λA outer s H args us vs Q E hr e0 hb r hsp=>?_⟩;have hl:=len _ _ _ _ hsp;have KX:K.In s.heap:=e0.mod.kin.keeps λb o e=>(e0.bs b o e).1;have lim:s.heap.NoLimit:=e0.mod.nolimit.keeps λb o e=>(e0.bs b o e).1
 have hkind:∀y∈ps.zip us,scope.names.lookup y.1=some .local\/(scope.names.lookup y.1=some .cell/\((Yq (s.heap.objs.size+1) scope.names []).lookup y.1).isSome=true):=λ⟨n,v⟩ hy=>by
  rcases S.par n (of_mem_zip hy).1 with q|q
  ·exact .inl q
  ·exact .inr ⟨q,W.cellsFrom_some _ _ _ (.inl q)⟩
 refine codeAny_call_function hr.depth (KX _ _ lk) rfl S.co S.gen rfl (W.codeRec_of KX hcd) (hb _ _ _ _ ?_);refine wpAny_newFunctionEnv_cells S.kind hkind λenv he s1 x=>?_;subst he;refine⟨lim.keeps x.toInCall.keep,codeAny_func ?_⟩;obtain⟨t,ht,hq⟩:=hbody A outer s H vs Q E (hr.deeper _) hsp;have I:Inv (zRs CX P w K mg base N qual scope f cdv A outer s H E) [] (start N vs) H s1:=zVu S hr.hd e0 hl r x;refine yS (ht [] s1 (start N vs) H _ I hq) (λfl s' hs=>?_) λe s' hs=>hs
 have fin:∀{Y':St} {H':Hp} {v:V} {u:Value},Inv (zRs CX P w K mg base N qual scope f cdv A outer s H E) [] Y' H' s'->RelV v u->Q v H'->CE outer P w H s Q u s' :=
  λ{Y' H' v u} δ rv q=>⟨v,H',δ.os,δ.bare,δ.base,δ.hok,rv,q⟩
 cases fl with
 |ret u=>
  obtain⟨v,Y',H',δ,rv,q⟩:=hs;exact fin δ rv q
 |next=>
  obtain⟨Y',H',δ,q⟩:=hs;exact fin (v:=V.non) (u:=Yn) δ rfl q
 |brk=>
  obtain⟨_,_,_,q⟩:=hs;exact YC q
 |cont=>
  obtain⟨_,_,_,q⟩:=hs;exact YC q
section
variable {X:Cx}{x:yt}{p pos:xp}{e:yE}{es:List yE}{t:TA}{id T:String}{r:List V->Hp->VK->Prop}
def tCB(r:List V->Hp->VK->Prop)(t:TA):TE:=λY H Q=>t Y H λvs H1=>r vs H1 Q
def zIr(hc:zfm X (.builtin id) r)(hg:Gl X x)(hm:X.mg x=none)(hv:yJ x=some (.builtin id))(ha:PA X (e::es) t)(hn:x≠"__name__":=by decide)(hdb:(x==("__debug__":yt))=false:=by decide)
 (he:yj (e::es) X.env=(false,Ye e X.env)::yj es X.env:=by rfl) (hpl:(Ym pos (yj es X.env)).any (·.1)=false:=by rfl):PE X (.Call (.Name x p) (e::es) [] pos) (tCB r t):=by
 intro U s Y H Q I h;refine xy (zal I hg hm hv ?_ hn hdb);exact PyProof.Rows.callWith_builtin1 (thn (ha pos U s Y H _ I h) λus s1 ⟨vs,H1,I1,r1,q1⟩=>hc U s1 Y H1 vs us Q I1 r1 q1) he hpl
def zGg(hc:zfm X (.type T) r)(hg:Gl X x)(hm:X.mg x=none)(hv:yJ x=some (.type T))(ha:PA X (e::es) t)(hn:x≠"__name__":=by decide)(hdb:(x==("__debug__":yt))=false:=by decide)
 (he:yj (e::es) X.env=(false,Ye e X.env)::yj es X.env:=by rfl) (hpl:(Ym pos (yj es X.env)).any (·.1)=false:=by rfl):PE X (.Call (.Name x p) (e::es) [] pos) (tCB r t):=by
 intro U s Y H Q I h;refine xy (zal I hg hm hv ?_ hn hdb);exact YS (thn (ha pos U s Y H _ I h) λus s1 ⟨vs,H1,I1,r1,q1⟩=>hc U s1 Y H1 vs us Q I1 r1 q1) he hpl
end
end L2
namespace HT
open PySem PyProof.Rows
section
open PySem.SeqAt
open PySem.AutoSeq1 (wpAny_loadPart')
open PySem.MeetsSeq PySem.MeetsSeq2 PySem.MeetsSeq3
end
section
variable {prog:yA}{w:yI}{A:yK}{E:Value->yd->Prop}{s:yd}
def cat_tup{t b:yc}{vs ws:List Value}{Q:Value->yd->Prop}(ht:IsTup s.heap t vs.toArray)(hb:IsTup s.heap b ws.toArray)(hv:vs≠[])
 (h1:ws=[]->Q (.ref t) s) (h2:ws≠[]->Q (.ref s.heap.objs.size) {s with heap:=s.heap.push {cls:=.type "tuple",data:=.seq (vs++ws).toArray }})
 (hsz:vs.length+ws.length<=yD):yn (yv prog w) A (xw .Add (.ref t) (.ref b)) Q E s:=by
 obtain⟨⟨cls,dd,data,sl⟩,ho,hc,n,hd⟩:=id ht;obtain⟨⟨cls2,dd2,data2,sl2⟩,ho2,hc2,n2,hd2⟩:=id hb;simp only at hc hd hc2 hd2;subst hc hd hc2 hd2;have e:vs.toArray++ws.toArray=(vs++ws).toArray:=by simp
 by_cases hw:ws=[]
 ·exact concat_meets ⟨_,ho,rfl⟩ ⟨_,ho2,rfl⟩ noFill_tuple_add seq_tuple_add PySem.F.slot_tuple_add PySem.F.entry_tuple_add (PySem.F.args_tuple_add_2 _ _)
   (tuple_addW1 t b vs.toArray ws.toArray n n2 dd dd2 sl sl2 (by simpa using hv) (by simp[hw])) ⟨ho,ho2,h1 hw⟩
 ·refine concat_meets ⟨_,ho,rfl⟩ ⟨_,ho2,rfl⟩ noFill_tuple_add seq_tuple_add PySem.F.slot_tuple_add PySem.F.entry_tuple_add (PySem.F.args_tuple_add_2 _ _)
   (tuple_addW2 t b vs.toArray ws.toArray n n2 dd dd2 sl sl2 (by simpa using hv) (by simpa using hw) (by rw[size_toArray,size_toArray];exact hsz)) ⟨ho,ho2,?_⟩
  rw[e];exact h2 hw
def sIx(n d:Nat):Option Int->Nat
 |none=>d
 |some v=>if v<0 then(v+(n:Int)).toNat else min v.toNat n
def SJ(n d:Nat):sIx n d none=d:=rfl
def sIx_nat(n d k:Nat):sIx n d (some (k:Int))=min k n:=by
 show(if(k:Int)<0 then((k:Int)+(n:Int)).toNat else min (k:Int).toNat n)=min k n;rw[if_neg (by omega),yX]
def zwA(n d:Nat)(hd:d<=n)(o:Option Int):sIx n d o<=n:=by
 cases o with
 |none=>exact hd
 |some v=>
  show(if v<0 then(v+(n:Int)).toNat else min v.toNat n)<=n
  by_cases hv:v<0
  ·rw[if_pos hv];omega
  ·rw[if_neg hv];exact Nat.min_le_right _ _
def zqu(v:Int)(n d:Nat):(if v<0 then max (v+(n:Int)) 0 else min v (n:Int))=((sIx n d (some v):Nat):Int):=by
 show(if v<0 then max (v+(n:Int)) 0 else min v (n:Int))=(((if v<0 then(v+(n:Int)).toNat else min v.toNat n):Nat):Int)
 by_cases hv:v<0
 ·simp only[if_pos hv];omega
 ·simp only[if_neg hv];omega
def zJs(lo hi:Option Int)(n:Nat):Builtin.Slice.sliceAdjust lo hi 1 (n:Int)=(((sIx n 0 lo:Nat):Int),((sIx n n hi:Nat):Int)):=by
 have h1:¬((1:Int)<0):=by omega
 unfold Builtin.Slice.sliceAdjust;simp only[h1,if_false];refine Prod.ext ?_ ?_
 ·cases lo with
  |none=>rfl
  |some v=>exact zqu v n 0
 ·cases hi with
  |none=>rfl
  |some v=>exact zqu v n n
def zTr(i j:Nat):xC (i:Int) (j:Int) 1=j-i:=by
 unfold xC;have h1:(1:Int)>0:=by omega
 simp only[h1,if_true,Int.ediv_one]
 split<;>omega
def zIm{v:Value}{o:Option Int}{Q:Option Int->yd->Prop}(p:IsPart v o)(h:Q o s):yn (yv prog w) A (Builtin.Slice.slicePartIndex v) Q E s:=by
 cases p with
 |none=>exact slicePart_none h
 |int i t=>exact slicePart_int h
def TH{sl:yc}{vl vu:Value}{lo hi:Option Int}{n:Nat}{Q:Int×Int×Nat->yd->Prop}(hs:s.heap.IsSliceOf sl vl vu .none)(pl:IsPart vl lo)(pu:IsPart vu hi)
 (h:Q (((sIx n 0 lo:Nat):Int),1,sIx n n hi-sIx n 0 lo) s):yn (yv prog w) A (Builtin.Slice.sliceApplied (.ref sl) (pure (n:Int))) Q E s:=by
 obtain⟨os,hos,hcs,hds⟩:=id hs;unfold Builtin.Slice.sliceApplied Builtin.Slice.sliceFields;refine ya (ya (YI hos hds (x:=vl) rfl (ya (YI hos hds (x:=vu) rfl (ya (YI hos hds (x:=.none) rfl (yf ?_)))))));refine ya (slicePart_none ?_);show yn _ _ (if((1:Int)==0)=true then _ else _) _ _ s;rw[if_neg (by decide)];refine ya (zIm pl (ya (zIm pu (ya (yf ?_)))));show yn _ _ (match Builtin.Slice.sliceAdjust lo hi 1 (n:Int) with|(lo,hi)=>pure (lo,(1:Int),xC lo hi 1)) _ _ s;rw[zJs lo hi n];show yn _ _ (pure (((sIx n 0 lo:Nat):Int),(1:Int),xC ((sIx n 0 lo:Nat):Int) ((sIx n n hi:Nat):Int) 1)) _ _ s;rw[zTr];exact yf h
def zCv(xs:Array Value)(i k:Nat):((yw k).filterMap λ(m:Nat)=>xs[((i:Int)+(m:Int)*1).toNat]?).toArray=((xs.toList.drop i).take k).toArray:=by
 have e:(λ(m:Nat)=>xs[((i:Int)+(m:Int)*1).toNat]?)=λm=>xs[i+m]?:=by
  funext m
  have:((i:Int)+(m:Int)*1).toNat=i+m:=by omega
  rw[this]
 rw[e];have:=pick_run xs i k;rw[List.filterMap_map]at this;have e2:((λx=>xs[x]?)∘λx=>i+x)=λm=>xs[i+m]?:=rfl;rw[e2]at this;rw[this]
def su{t sl:yc}{items:Array Value}{vl vu:Value}{lo hi:Option Int}{Q:Value->yd->Prop}(ht:IsTup s.heap t items)(hs:s.heap.IsSliceOf sl vl vu .none)(pl:IsPart vl lo)(pu:IsPart vu hi)
 (hw:¬(sIx items.size 0 lo=0/\sIx items.size items.size hi=items.size))
 (h:Q (.ref s.heap.objs.size) {s with heap:=s.heap.push {cls:=.type "tuple",data:=.seq ((items.toList.drop (sIx items.size 0 lo)).take (sIx items.size items.size hi-sIx items.size 0 lo)).toArray }})
 (hsz:items.size<=yD):yn (yv prog w) A (getItem (.ref t) (.ref sl)) Q E s:=by
 have htake:sizeOk (.seq ((items.toList.drop (sIx items.size 0 lo)).take (sIx items.size items.size hi-sIx items.size 0 lo)).toArray):=by
  show((items.toList.drop (sIx items.size 0 lo)).take (sIx items.size items.size hi-sIx items.size 0 lo)).toArray.size<=yD;rw[size_toArray,length_take,List.length_drop,Array.length_toList];omega
 have hj:sIx items.size items.size hi<=items.size:=zwA _ _ (yi _) hi;obtain⟨os,hos,hcs,hds⟩:=id hs;have hTs:s.TypeIs (.ref sl) "slice":=⟨os,hos,hcs⟩
 unfold getItem
 try with_reducible refine yQ ?_
 first|refine ya (yf ?_)|skip
 refine ya (wpAny_sequenceKey ht.typeIs (by decide) ?_)
 refine ya (Yi (name:=YW "__getitem__") ht.typeIs xb
  (Yc xb ht.typeIs entry_tuple_getitem ?_ (args_tuple_getitem _ _)))
 show yn _ _ (Builtin.Tuple.tupleItemsOf (.ref t) >>= _) _ _ s;refine ya (tupleItemsOf_ ht ?_);refine ya (Xy hTs ?_);rw[if_pos (by decide)];refine ya (TH hs pl pu ?_)
 have hno:¬((((sIx items.size 0 lo:Nat):Int)==0&&(1:Int)==1&&(sIx items.size items.size hi-sIx items.size 0 lo)==items.size)=true):=by
  intro q;rw[yH,yH]at q;have q1:((sIx items.size 0 lo:Nat):Int)=0:=eq_of_beq q.1.1;have q2:sIx items.size items.size hi-sIx items.size 0 lo=items.size:=eq_of_beq q.2;exact hw ⟨by omega,by omega⟩
 show yn _ _ (if(((sIx items.size 0 lo:Nat):Int)==0&&(1:Int)==1&&(sIx items.size items.size hi-sIx items.size 0 lo)==items.size)=true then _ else _) _ _ s;rw[if_neg hno,zCv]
 first
  |exact ya (m:=xc _) (yY (yf ⟨_,rfl,yf h⟩) htake)
  |exact ya (m:=xc _) (yY (ya (yf (yf ⟨_,rfl,yf h⟩))) htake)
  |exact ya (ya (m:=xc _) (yY (yf (yf ⟨_,rfl,yf h⟩)) htake))
  |exact ya (ya (m:=xc _) (yY (yf ⟨_,rfl,yf h⟩) htake))
end
end HT
namespace L2
open PySem PySem.Spec PyProof.Rows
abbrev TO:=St->Hp->(Option Int->Hp->Prop)->Prop
def PO(X:Cx)(e:Option yE)(t:TO):Prop :=
 ∀(U:List (yc×YT)) (s:yd) (Y:St) (H:Hp) (Q:Option Int->Hp->Prop),Inv X U Y H s->t Y H Q ->
  yn (yv X.prog X.w) X.A (evalPart e X.env) (λu s'=>∃o H',Inv X U Y H' s'/\IsPart u o/\Q o H') X.xe s
def zGx:TO:=λ_ H Q=>Q none H
def zAB(t:TE):TO:=λY H Q=>t Y H λx H1=>∃i,x=.int i/\Q (some i) H1
def z6g{ns:List Int}:∀{us:List Value},Vals (ns.map V.int) us->IntsAre us ns:=by
 induction ns with
 |nil=>intro us r;rw[map_nil]at r;cases r;exact .nil
 |cons n ns ih=>
  intro us r;rw[map_cons]at r
  cases r with
  |cons r1 r2=>
   obtain⟨t,e⟩:=r1;subst e;exact .cons n t (ih r2)
section
variable {X:Cx}{e:yE}{te:TE}{lo hi:Option yE}{tl th:TO}{pos p2:xp}
def zJx:PO X none zGx:=by
 intro U s Y H Q I h;rw[evalPart_none];exact yf ⟨none,H,I,.none,h⟩
def zVx(h:PE X e te):PO X (some e) (zAB te):=by
 intro U s Y H Q I hw;rw[evalPart_some];refine thn (h U s Y H _ I hw) λu s1 ⟨x,H1,I1,r1,q1⟩=>?_;obtain⟨i,rfl,q⟩:=q1;obtain⟨t,rfl⟩:=r1;exact⟨some i,H1,I1,.int i t,q⟩
def SlR(X:Cx)(r:V->Option Int->Option Int->Hp->VK->Prop):Prop :=
 ∀(U:List (yc×YT)) (s:yd) (Y:St) (H:Hp) (x:V) (v vl vu:Value) (lo hi:Option Int) (sl:yc) (Q:VK),Inv X U Y H s->RelV x v->s.heap.IsSliceOf sl vl vu .none->IsPart vl lo->IsPart vu hi->r x lo hi H Q ->
  ∃T id,Xr (.type T) "__getitem__"=pure (some (.builtin id))/\s.TypeIs v T/\yn (yv X.prog X.w) X.A (getItem v (.ref sl)) (EP X U Y Q) X.xe s
def SlR.or{r r':V->Option Int->Option Int->Hp->VK->Prop}(h:SlR X r)(h':SlR X r'):SlR X (λx lo hi H Q=>r x lo hi H Q\/r' x lo hi H Q):=by
 intro U s Y H x v vl vu lo hi sl Q I rx hs pl pu q;rcases q with q|q
 ·exact h U s Y H x v vl vu lo hi sl Q I rx hs pl pu q
 ·exact h' U s Y H x v vl vu lo hi sl Q I rx hs pl pu q
def tSl(r:V->Option Int->Option Int->Hp->VK->Prop)(te:TE)(tl th:TO):TE:=λY H Q=>te Y H λx H1=>tl Y H1 λl H2=>th Y H2 λu H3=>r x l u H3 Q
def zfw{r:V->Option Int->Option Int->Hp->VK->Prop}(hr:SlR X r)(he:PE X e te)(hl:PO X lo tl)(hu:PO X hi th):PE X (.Subscript e (.Slice lo hi none p2) pos) (tSl r te tl th):=by
 intro U s Y H Q I h;refine Subscript_ (thn (he U s Y H _ I h) λv s1 ⟨x,H1,I1,r1,q1⟩=>?_);refine wpAny_Slice (thn (hl U s1 Y H1 _ I1 q1) λvl s2 ⟨l,H2,I2,pl,q2⟩=>thn (hu U s2 Y H2 _ I2 q2) λvu s3 ⟨u,H3,I3,pu,q3⟩=>?_);rw[evalPart_none];refine yf ?_;have I4:Inv X U Y H3 {s3 with heap:=s3.heap.push {cls:=.type "slice",data:=.fields #[vl,vu,.none]}}:=I3.kept (t':=s3.toks) λb ob q=>yb _ q;obtain⟨T,id,hT,ht,hg⟩:=hr U {s3 with heap:=s3.heap.push {cls:=.type "slice",data:=.fields #[vl,vu,.none]}} Y H3 x v vl vu l u s3.heap.objs.size Q I4 r1 (Heap.IsSliceOf.new ..) pl pu q3;show yn (yv X.prog X.w) X.A (subscriptTail e (.Slice lo hi none p2) v (.ref s3.heap.objs.size)) (EP X U Y Q) X.xe {s3 with heap:=s3.heap.push {cls:=.type "slice",data:=.fields #[vl,vu,.none]}};exact tail_any (ops:=[.ref s3.heap.objs.size,v]) ht hT hg (by with_unfolding_all rfl)
def zvu(xs:List V)(lo hi:Option Int):List V:=(xs.drop (HT.sIx xs.length 0 lo)).take (HT.sIx xs.length xs.length hi-HT.sIx xs.length 0 lo)
def z9k(xs:List V)(lo hi:Option Int):(zvu xs lo hi).length<=xs.length:=by
 unfold zvu;rw[length_take,List.length_drop];omega
def zCC(K:yx):V->Option Int->Option Int->Hp->VK->Prop:=λx lo hi H Q=>∃a xs,x=.ref a/\SqT K H a xs /\
 ¬(HT.sIx xs.length 0 lo=0/\HT.sIx xs.length xs.length hi=xs.length)/\∀p,H p=none->Q (.ref p) (upd H p (.tup (zvu xs lo hi)))
def zbA:SlR X (zCC X.K):=by
 intro U s Y H x v vl vu lo hi sl Q I rx hs pl pu h;obtain⟨a,xs,rfl,hx,hw,q⟩:=h;cases rx;obtain⟨its,r,ht,hz⟩:=I.tuple hx;have hlen:its.toArray.size=xs.length:=by rw[size_toArray];exact r.length.symm
 refine⟨"tuple",_,PyProof.Rows.slot_tuple_getitem.lookup,ht.typeIs,?_⟩;refine HT.su ht hs pl pu (by rw[hlen];exact hw) ?_ (by rw[hlen];exact hz);rw[hlen];refine⟨.ref s.heap.objs.size,_,I.laid (t':=s.toks) (o:=.tup (zvu xs lo hi)) (λb ob q=>yb _ q) (yi _) ?_,rfl,q _ (I.hok.fresh (yi _))⟩;exact⟨yF (z9k xs lo hi) hz,_,(r.drop (HT.sIx xs.length 0 lo)).take (HT.sIx xs.length xs.length hi-HT.sIx xs.length 0 lo),IsTup.new _ _⟩
def zfB(K:yx):R2:=λx y H Q=>∃a b xs ys,x=.ref a/\y=.ref b/\SqT K H a xs/\SqT K H b ys/\xs≠[]/\xs.length+ys.length<=yD /\
 (ys=[]->Q (.ref a) H)/\(ys≠[]->∀p,H p=none->Q (.ref p) (upd H p (.tup (xs++ys))))
def Vals.sH{xs:List V}{us:List Value}(r:Vals xs us):us=[]↔xs=[]:=by
 cases r with
 |nil=>simp
 |cons _ _=>simp
def zey:OpR X (xw .Add) (zfB X.K):=by
 intro U s Y H x y v u Q I rx ry h;obtain⟨a,b,xs,ys,rfl,rfl,ha,hb,hx,hz,q1,q2⟩:=h;cases rx;cases ry;obtain⟨its,r1,p1,_⟩:=I.tuple ha;obtain⟨its2,r2,p2,_⟩:=I.tuple hb;refine HT.cat_tup p1 p2 (λz=>hx (r1.sH.mp z)) (λz=>⟨.ref a,H,I,rfl,q1 (r2.sH.mp z)⟩) (λz=>?_) (by rw[<-r1.length,<-r2.length];exact hz);refine⟨.ref s.heap.objs.size,_,I.laid (t':=s.toks) (o:=.tup (xs++ys)) (λb ob q=>yb _ q) (yi _) ?_,rfl,q2 (λw=>z (r2.sH.mpr w)) _ (I.hok.fresh (yi _))⟩;exact⟨by rw[length_append];exact hz,_,r1.append r2,IsTup.new _ _⟩
end
def ixN(n:Nat)(i:Int):Option Nat:=if 0<=i then(if i<n then some i.toNat else none) else if -(n:Int)<=i then some (i+n).toNat else none
def atI{α:Type}(xs:List α)(i:Int):Option α:=(ixN xs.length i).bind λj=>xs[j]?
def zlu{n:Nat}{i:Int}{j:Nat}(h:ixN n i=some j):seqIndex? i n=some j/\j<n/\-(n:Int)<=i/\i<n:=by
 unfold ixN at h
 by_cases h0:0<=i
 ·rw[if_pos h0]at h
  by_cases h1:i<n
  ·rw[if_pos h1]at h;have e:i.toNat=j:=Yj h;exact⟨by rw[seqIndex_of h0 h1,e],by omega,by omega,h1⟩
  ·rw[if_neg h1]at h;cases h
 ·rw[if_neg h0]at h
  by_cases h1:-(n:Int)<=i
  ·rw[if_pos h1]at h;have e:(i+n).toNat=j:=Yj h;exact⟨by rw[seqIndex_neg (by omega) h1,e],by omega,h1,by omega⟩
  ·rw[if_neg h1]at h;cases h
def z6p{α:Type}{xs:List α}{i:Int}{v:α}(h:atI xs i=some v):∃j,seqIndex? i xs.length=some j/\xs[j]?=some v/\j<xs.length/\-(xs.length:Int)<=i/\i<xs.length:=by
 unfold atI at h
 cases e:ixN xs.length i with
 |none=>rw[e]at h;cases h
 |some j=>
  rw[e]at h;obtain⟨h1,h2,h3,h4⟩:=zlu e;exact⟨j,h1,h,h2,h3,h4⟩
def z4b{α:Type}{xs:List α}{j:Nat}{v:α}(h:xs[j]?=some v):atI xs (j:Int)=some v:=by
 have hj:j<xs.length:=(List.getElem?_eq_some_iff.mp h).1
 have e:ixN xs.length (j:Int)=some j:=by
  unfold ixN;rw[if_pos (by omega),if_pos (by omega)];simp
 unfold atI;rw[e];exact h
def zJq(b:yE):Prop:=∀o i,subscripted b false o i=operate [o,i] (getItem o i)
def IxR(X:Cx)(r:R2):Prop :=
 ∀(value slice:yE)(U:List (yc×YT)) (s:yd) (Y:St) (H:Hp) (x y:V) (v u:Value) (Q:VK),Inv X U Y H s->RelV x v->RelV y u->r x y H Q ->
  subscripted slice false v u=operate [v,u] (getItem v u)->yn (yv X.prog X.w) X.A (subscriptTail value slice v u) (EP X U Y Q) X.xe s
def MtR(X:Cx)(id:String)(r:V->List V->Hp->VK->Prop):Prop :=
 ∀(U:List (yc×YT)) (s:yd) (Y:St) (H:Hp) (x:V) (xs:List V) (v:Value) (us:List Value) (Q:VK),Inv X U Y H s->RelV x v->Vals xs us->r x xs H Q ->
  yn (yv X.prog X.w) X.A (call (.builtin id) (v::us)) (EP X U Y Q) X.xe s
section
variable {X:Cx}{a b:yE}{ta tb:TE}{pos:xp}
def IxR.or{r r':R2}(h:IxR X r)(h':IxR X r'):IxR X (λx y H Q=>r x y H Q\/r' x y H Q):=by
 intro value slice U s Y H x y v u Q I rx ry q hs;rcases q with q|q
 ·exact h value slice U s Y H x y v u Q I rx ry q hs
 ·exact h' value slice U s Y H x y v u Q I rx ry q hs
def zQz{r:R2}(hr:IxR X r)(ha:PE X a ta)(hb:PE X b tb)(hs:zJq b):PE X (.Subscript a b pos) (tOp r ta tb):=by
 intro U s Y H Q I h;exact Subscript_ (binT ha hb I h λv u s2 x y H2 I2 rx ry q=>hr a b U s2 Y H2 x y v u Q I2 rx ry q (hs _ _))
def zbC(K:yx):R2:=λx y H Q=>∃p xs i v,x=.ref p/\y=.int i/\SqL K H p xs/\atI xs i=some v/\Q v H
def z0B(K:yx):R2:=λx y H Q=>∃p xs i v,x=.ref p/\y=.int i/\SqT K H p xs/\atI xs i=some v/\Q v H
def z1B:R2:=λx y H Q=>∃z i c,x=.str z/\y=.int i/\z.length<=yD/\atI z.cps.toList i=some c/\Q (.str ⟨#[c]⟩) H
def ix_list:IxR X (zbC X.K):=by
 intro value slice U s Y H x y v u Q I rx ry h hs;obtain⟨p,xs,i,z,rfl,rfl,hq,he,q⟩:=h;cases rx;obtain⟨t,rfl⟩:=ry;obtain⟨its,r,pl,hz⟩:=I.list hq;obtain⟨j,h1,h2,h3,h4,h5⟩:=z6p he;obtain⟨w,ew,rw'⟩:=r.get h2;have hl:=r.length;have hn:=sJ;have fin:EP X U Y Q w s:=⟨z,H,I,rw',q⟩
 by_cases h0:0<=i
 ·have hj:i.toNat=j:=by
   rw[seqIndex_of h0 h5]at h1;exact Yj h1
  exact item_listR pl.isList h0 (by omega) (by rw[hj];simpa using ew) fin hs
 ·have hj:(i+(its.toArray.size:Int)).toNat=j:=by
   rw[seqIndex_neg (by omega) h4]at h1;rw[size_toArray,<-hl];exact Yj h1
  exact subscriptTail_builtinR (x:=w) pl.isList.typeIs slot_list_getitem.lookup
   (wpAny_getItem_list_neg (Q:=λr s'=>r=w/\EP X U Y Q r s') pl.isList (by omega) (by rw[size_toArray]<;>omega) (by omega) (by rw[hj];simpa using ew) ⟨rfl,fin⟩) hs
def ix_tup:IxR X (z0B X.K):=by
 intro value slice U s Y H x y v u Q I rx ry h hs;obtain⟨p,xs,i,z,rfl,rfl,hq,he,q⟩:=h;cases rx;obtain⟨t,rfl⟩:=ry;obtain⟨its,r,pl,hz⟩:=I.tuple hq;obtain⟨j,h1,h2,h3,h4,h5⟩:=z6p he;obtain⟨w,ew,rw'⟩:=r.get h2;have hl:=r.length;have hn:=sJ;have fin:EP X U Y Q w s:=⟨z,H,I,rw',q⟩
 exact subscriptTail_builtinR (x:=w) pl.typeIs slot_tuple_getitem.lookup
  (getItem_tuple (j:=j) (Q:=λr s'=>r=w/\EP X U Y Q r s') pl (by omega) (by omega) (by rw[size_toArray,<-hl];exact h1) (by simpa using ew) ⟨rfl,fin⟩) hs
def zPA:IxR X z1B:=by
 intro value slice U s Y H x y v u Q I rx ry h hs;obtain⟨z,i,c,rfl,rfl,hz,he,q⟩:=h;obtain⟨t,rfl⟩:=rx;obtain⟨t',rfl⟩:=ry;obtain⟨j,h1,h2,h3,h4,h5⟩:=z6p he;have hl:z.cps.toList.length=z.length:=by simp[Str.length]
 rw[hl]at h1 h4 h5;have hn:=sJ
 exact tail_any (typeIs_str s z t) slot_str_getitem.lookup (getItem_str (c:=c) (by
  have e1:decide (i < -(2^63:Int))=false:=decide_eq_false (by omega);have e2:decide (i≥2^63)=false:=decide_eq_false (by omega);rw[e1,e2,Bool.or_false]) (by rw[h1];simpa using h2) ⟨.str ⟨#[c]⟩,H,I.tok _,⟨_,rfl⟩,q⟩) hs
def rIx(K:yx):R2:=λx y H Q=>zbC K x y H Q\/z0B K x y H Q\/z1B x y H Q
def zUw:IxR X (rIx X.K):=ix_list.or (ix_tup.or zPA)
def zgs(its:List Value)(n j:Nat)(u:Value):xY (·.setIfInBounds j u) {cls:=.type "list",data:=.seq its.toArray n } = {cls:=.type "list",data:=.seq (its.set j u).toArray n }:=by
 simp[xY]
def Inv.lst{U:List (yc×YT)}{Y:St}{H:Hp}{s:yd}{p:yc}{xs:List V}(I:Inv X U Y H s)(h:H p=some (.lst xs)) :
 ∃(its:List Value)(n:Nat),Vals xs its/\s.heap.get? p=some {cls:=.type "list",data:=.seq its.toArray n }/\xs.length<=yD:=by
 obtain⟨z,its,n,r,e⟩:=I.hok p _ h;exact⟨its,n,r,e,z⟩
def Inv.lstUpd{U:List (yc×YT)}{Y:St}{H:Hp}{s:yd}{p:yc}{xs ys:List V}{its its':List Value}{n n':Nat}{f:YT->YT}(I:Inv X U Y H s)(h:H p=some (.lst xs))
 (ho:s.heap.get? p=some {cls:=.type "list",data:=.seq its.toArray n }) (hf:f {cls:=.type "list",data:=.seq its.toArray n } = {cls:=.type "list",data:=.seq its'.toArray n' }) (r:Vals ys its') (hz:ys.length<=yD) (t:Nat) :
 Inv X U Y (upd H p (.lst ys)) {s with heap:=s.heap.update p f,toks:=t }:=by
 have e:(s.heap.update p f).get? p=some {cls:=.type "list",data:=.seq its'.toArray n' }:=by
  rw[yN f ho (by rw[hf]<;>rfl),hf]
 refine I.write (x:=p) (e:=p) (by rw[h];trivial) (.inl rfl) (λb u hb q=>(Yh _ _ (yV hb)).trans q) ⟨_,e⟩ ?_;exact⟨hz,its',n',r,e⟩
def zSB:V->V->V->Hp->(Hp->Prop)->Prop:=λo i v H Q=>∃p xs k j,o=.ref p/\i=.int k/\H p=some (.lst xs)/\ixN xs.length k=some j/\Q (upd H p (.lst (xs.set j v)))
def zLw:zEB X zSB:=by
 intro U s Y H o i v ov iv u Q I ro ri rv h;obtain⟨p,xs,k,j,rfl,rfl,hp,hj,q⟩:=h;cases ro;obtain⟨t,rfl⟩:=ri;obtain⟨its,n,r,ho,hz⟩:=I.lst hp;obtain⟨h1,h2,h3,h4⟩:=zlu hj;have hl:=r.length;have hn:=sJ
 have I':Inv X U Y (upd H p (.lst (xs.set j v))) {s with heap:=s.heap.update p (xY (·.setIfInBounds j u))} :=
  I.lstUpd hp ho (zgs its n j u) (r.set rv j) (by rw[length_set];exact hz) s.toks
 by_cases h0:0<=k
 ·have hk:k.toNat=j:=by
   rw[seqIndex_of h0 h4]at h1;exact Yj h1
  exact W.ki_setAt ho h0 (by omega) (by rw[size_toArray,<-hl];exact h4) (by rw[hk];exact⟨_,I',q⟩)
 ·have hk:(k+(its.toArray.size:Int)).toNat=j:=by
   rw[seqIndex_neg (by omega) h3]at h1;rw[size_toArray,<-hl];exact Yj h1
  exact W.ki_setBack ho (by omega) (by rw[size_toArray,<-hl];exact h3) (by omega) (by rw[hk];exact⟨_,I',q⟩)
def zro(lo hi:Option Int)(n:Nat):(sliceBounds lo hi none n).1=((HT.sIx n 0 lo:Nat):Int)/\(sliceBounds lo hi none n).2.1=((HT.sIx n n hi:Nat):Int)/\(sliceBounds lo hi none n).2.2=1:=by
 refine⟨?_,?_,rfl⟩
 ·cases lo with
  |none=>simp[sliceBounds,HT.sIx]
  |some i=>
   simp only[sliceBounds,HT.sIx,Option.getD_none,show(1:Int)>0 by decide,if_true]
   by_cases h:i<0
   ·simp only[h,if_true]<;>omega
   ·simp only[h,if_false]<;>omega
 ·cases hi with
  |none=>simp[sliceBounds,HT.sIx]
  |some i=>
   simp only[sliceBounds,HT.sIx,Option.getD_none,show(1:Int)>0 by decide,if_true]
   by_cases h:i<0
   ·simp only[h,if_true]<;>omega
   ·simp only[h,if_false]<;>omega
def zMn(its:List Value)(lo hi:Option Int):slicePick its.toArray lo hi none=((its.drop (HT.sIx its.length 0 lo)).take (HT.sIx its.length its.length hi-HT.sIx its.length 0 lo)).toArray:=by
 obtain⟨h1,h2,h3⟩:=zro lo hi its.toArray.size;unfold slicePick;rw[h1,h2,h3];simp only[sliceRange_one,pick_run,size_toArray]<;>rfl
def zsC(K:yx):V->Option Int->Option Int->Hp->VK->Prop:=λx lo hi H Q=>∃a xs,x=.ref a/\SqL K H a xs/\∀p,H p=none->Q (.ref p) (upd H p (.lst (zvu xs lo hi)))
def zMx:SlR X (zsC X.K):=by
 intro U s Y H x v vl vu lo hi sl Q I rx hs pl pu h;obtain⟨a,xs,rfl,hx,q⟩:=h;cases rx;obtain⟨its,r,ht,hz⟩:=I.list hx;have hlen:=r.length;refine⟨"list",_,slot_list_getitem.lookup,ht.isList.typeIs,?_⟩;refine wpAny_getItem_list_slice ht.isList hs pl pu .none (by simp) ?_ (by rw[size_toArray]<;>omega);rw[zMn,<-hlen];refine⟨.ref s.heap.objs.size,_,I.laid (t':=s.toks) (o:=.lst (zvu xs lo hi)) (λb ob q=>yb _ q) (yi _) ?_,rfl,q _ (I.hok.fresh (yi _))⟩;exact⟨yF (z9k xs lo hi) hz,_,0,(r.drop (HT.sIx xs.length 0 lo)).take (HT.sIx xs.length xs.length hi-HT.sIx xs.length 0 lo),yp _ rfl⟩
def zrl:V->Bool
 |.non=>true
 |.bl _=>true
 |.int _=>true
 |.str _=>true
 |_=>false
def eqV:V->V->Bool
 |.non,.non=>true
 |.bl a,.bl b=>a==b
 |.bl a,.int b=>(if a then 1 else 0)==b
 |.int a,.bl b=>a==(if b then 1 else 0)
 |.int a,.int b=>a==b
 |.str a,.str b=>a==b
 |_,_=>false
def zFA{A:yK}{s:yd}{y x:V}{u v:Value}(ry:RelV y u)(rx:RelV x v)(fy:zrl y=true)(fx:zrl x=true):SeqAt.EqAt A s u v (eqV y x):=by
 cases y with
 |non=>
  cases ry
  cases x with
  |non=>cases rx;exact SeqAt.EqAt.same _
  |bl b=>cases rx;exact SeqAt.EqAt.none_bool b
  |int b=>obtain⟨t,rfl⟩:=rx;exact SeqAt.EqAt.none_int b t
  |str b=>obtain⟨t,rfl⟩:=rx;exact SeqAt.EqAt.none_str b t
  |_=>exact absurd (show false=true from fx) yB
 |bl a=>
  cases ry
  cases x with
  |non=>cases rx;exact SeqAt.EqAt.bool_none a
  |bl b=>cases rx;exact SeqAt.EqAt.bool_bool a b
  |int b=>obtain⟨t,rfl⟩:=rx;exact SeqAt.EqAt.bool_int a b t
  |str b=>obtain⟨t,rfl⟩:=rx;exact SeqAt.EqAt.bool_str a b t
  |_=>exact absurd (show false=true from fx) yB
 |int a=>
  obtain⟨t',rfl⟩:=ry
  cases x with
  |non=>cases rx;exact SeqAt.EqAt.int_none a t'
  |bl b=>cases rx;exact SeqAt.EqAt.int_bool a t' b
  |int b=>obtain⟨t,rfl⟩:=rx;exact SeqAt.EqAt.int_int a t' b t
  |str b=>obtain⟨t,rfl⟩:=rx;exact SeqAt.EqAt.int_str a t' b t
  |_=>exact absurd (show false=true from fx) yB
 |str a=>
  obtain⟨t',rfl⟩:=ry
  cases x with
  |non=>cases rx;exact SeqAt.EqAt.str_none a t'
  |bl b=>cases rx;exact SeqAt.EqAt.str_bool a t' b
  |int b=>obtain⟨t,rfl⟩:=rx;exact SeqAt.EqAt.str_int a t' b t
  |str b=>obtain⟨t,rfl⟩:=rx;exact SeqAt.EqAt.str_str a t' b t
  |_=>exact absurd (show false=true from fx) yB
 |_=>exact absurd (show false=true from fy) yB
def eqU(x:V)(u:Value):Bool:=match u with
 |.none=>eqV .non x
 |.bool b=>eqV (.bl b) x
 |.int i _=>eqV (.int i) x
 |.str z _=>eqV (.str z) x
 |_=>false
def znu{x y:V}{u:Value}(r:RelV y u)(f:zrl y=true):eqU x u=eqV y x:=by
 cases y with
 |non=>cases r;rfl
 |bl b=>cases r;rfl
 |int i=>obtain⟨t,rfl⟩:=r;rfl
 |str z=>obtain⟨t,rfl⟩:=r;rfl
 |_=>exact absurd (show false=true from f) yB
def zVl{x:V}:∀{xs:List V} {us:List Value},Vals xs us->xs.all zrl=true->us.any (eqU x)=xs.any λy=>eqV y x
 |_,_,.nil,_=>rfl
 |y::xs,u::us,.cons r t,f=>by
  rw[all_cons,yH]at f;rw[any_cons,any_cons,znu r f.1,zVl t f.2]
def zmh{A:yK}{s:yd}{x:V}{v:Value}(rx:RelV x v)(fx:zrl x=true):∀{xs:List V} {us:List Value},Vals xs us->xs.all zrl=true->∀u∈us,SeqAt.EqAt A s u v (eqU x u)
 |_,_,.nil,_=>λu hu=>by cases hu
 |y::xs,u::us,.cons r t,f=>λu' hu=>by
  rw[all_cons,yH]at f;rcases List.mem_cons.mp hu with rfl|hu
  ·rw[znu r f.1];exact zFA r rx f.1 fx
  ·exact zmh rx fx t f.2 u' hu
def inV(x:V)(xs:List V):Bool:=xs.any λy=>eqV y x
def rIn(K:yx)(neg:Bool):R2:=λx y H Q=>∃p xs,y=.ref p/\(SqL K H p xs\/SqT K H p xs)/\zrl x=true/\xs.all zrl=true/\Q (.bl (if neg then !inV x xs else inV x xs)) H
def z2t:OpR X (Yx .In) (rIn X.K false):=by
 intro U s Y H x y v u Q I rx ry h;obtain⟨p,xs,rfl,hq,fx,fs,q⟩:=h;cases ry;rcases hq with hq|hq
 ·obtain⟨its,r,pl,hz⟩:=I.list hq;refine SeqAt.in_listAt (eqU x) pl.isList (λw hw=>zmh rx fx r fs w (by simpa using hw)) ⟨.bl _,H,I,rfl,?_⟩;rw[show its.toArray.any (eqU x)=its.any (eqU x) by simp,zVl r fs];exact q
 ·obtain⟨its,r,pl,hz⟩:=I.tuple hq;refine SeqAt.in_tupleAt (eqU x) pl (λw hw=>zmh rx fx r fs w (by simpa using hw)) ⟨.bl _,H,I,rfl,?_⟩;rw[show its.toArray.any (eqU x)=its.any (eqU x) by simp,zVl r fs];exact q
def zjp:OpR X (Yx .NotIn) (rIn X.K true):=by
 intro U s Y H x y v u Q I rx ry h;obtain⟨p,xs,rfl,hq,fx,fs,q⟩:=h;cases ry;rcases hq with hq|hq
 ·obtain⟨its,r,pl,hz⟩:=I.list hq;refine SeqAt.notIn_listAt (eqU x) pl.isList (λw hw=>zmh rx fx r fs w (by simpa using hw)) ⟨.bl _,H,I,rfl,?_⟩;rw[show its.toArray.any (eqU x)=its.any (eqU x) by simp,zVl r fs];exact q
 ·obtain⟨its,r,pl,hz⟩:=I.tuple hq;refine SeqAt.notIn_tupleAt (eqU x) pl (λw hw=>zmh rx fx r fs w (by simpa using hw)) ⟨.bl _,H,I,rfl,?_⟩;rw[show its.toArray.any (eqU x)=its.any (eqU x) by simp,zVl r fs];exact q
def zBp:zfm X (.builtin "len") (λxs H Q=>∃p ys,xs=[.ref p]/\(SqL X.K H p ys\/SqT X.K H p ys)/\Q (.int ys.length) H):=by
 intro U s Y H xs us Q I r h;obtain⟨p,ys,rfl,hq,q⟩:=h;obtain⟨u,rfl,rx⟩:=vals1 r;cases rx;have hn:=sJ;rcases hq with hq|hq
 ·obtain⟨its,r',pl,hz⟩:=I.list hq;have hlen:=r'.length;exact Calls.call_len_list pl.isList (by simp only[size_toArray]<;>omega) ⟨.int ys.length,H,I.tok _,⟨s.toks+1,by rw[size_toArray,hlen]⟩,q⟩
 ·obtain⟨its,r',pl,hz⟩:=I.tuple hq;have hlen:=r'.length;exact len_tuple pl (by simp only[size_toArray]<;>omega) ⟨.int ys.length,H,I.tok _,⟨s.toks+1,by rw[size_toArray,hlen]⟩,q⟩
def zSj:zfm X (.type "list") (λxs H Q=>∃p ys,xs=[.ref p]/\(SqL X.K H p ys\/SqT X.K H p ys)/\∀l,H l=none->Q (.ref l) (upd H l (.lst ys))):=by
 intro U s Y H xs us Q I r h;obtain⟨p,ys,rfl,hq,q⟩:=h;obtain⟨u,rfl,rx⟩:=vals1 r;cases rx
 have fin:∀(its:List Value),Vals ys its->ys.length<=yD->∀(h':yT)(c':Nat),(∀b o',s.heap.get? b=some o'->h'.get? b=some o') ->
  h'.get? s.heap.objs.size=some {cls:=.type "list",dict:=none,data:=.seq its.toArray c',slots:=#[]}->EP X U Y Q (.ref s.heap.objs.size) {s with heap:=h' }:=λits r' hz h' c' kp e=>
  ⟨.ref s.heap.objs.size,_,I.laid (t':=s.toks) kp (yi _) (show tG X.prog X.w _ h' _ (.lst ys) from⟨hz,its,c',r',e⟩),rfl,q _ (I.hok.fresh (yi _))⟩
 rcases hq with hq|hq
 ·obtain⟨its,r',pl,hz⟩:=I.list hq;have hlen:=r'.length;obtain⟨o,ho,hc,n,hd⟩:=pl.isList;exact call_list_seq p (.inl rfl) ho hc hd (λh' c' kp e=>fin its r' hz h' c' kp e) (by simp only[size_toArray]<;>omega)
 ·obtain⟨its,r',pl,hz⟩:=I.tuple hq;have hlen:=r'.length;obtain⟨o,ho,hc,n,hd⟩:=pl;exact call_list_seq p (.inr rfl) ho hc hd (λh' c' kp e=>fin its r' hz h' c' kp e) (by simp only[size_toArray]<;>omega)
def zIf:zfm X (.type "tuple") (λxs H Q=>∃p ys,xs=[.ref p]/\((SqL X.K H p ys/\∀l,H l=none->Q (.ref l) (upd H l (.tup ys)))\/(SqT X.K H p ys/\Q (.ref p) H))):=by
 intro U s Y H xs us Q I r h;obtain⟨p,ys,rfl,h⟩:=h;obtain⟨u,rfl,rx⟩:=vals1 r;cases rx;rcases h with ⟨hq,q⟩|⟨hq,q⟩
 ·obtain⟨its,r',pl,hz⟩:=I.list hq;have hlen:=r'.length;refine call_tuple_list pl.isList (λh' kp=>?_) (by simp only[size_toArray]<;>omega);have I1:Inv X U Y H {s with heap:=h' }:=I.kept (t':=s.toks) kp
  have I2:Inv X U Y (upd H h'.objs.size (.tup ys)) {s with heap:=h'.push {cls:=.type "tuple",data:=.seq its.toArray }} :=
   I1.laid (t':=s.toks) (λb o e=>yb _ e) (yi _) (show tG X.prog X.w _ _ _ (.tup ys) from⟨hz,its,r',IsTup.new _ _⟩)
  exact⟨.ref h'.objs.size,_,I2,rfl,q _ (I1.hok.fresh (yi _))⟩
 ·obtain⟨its,r',pl,hz⟩:=I.tuple hq;exact call_tuple_same pl ⟨.ref p,H,I,rfl,q⟩
def tyV(K:yx)(T:String)(x:V)(H:Hp):Prop:=match x with
 |.str _=>T="str"
 |.int _=>T="int"
 |.ref p=>(T="list"/\∃xs,SqL K H p xs)\/(T="tuple"/\∃o,K.lookup p=some o/\o.cls=.type "tuple"/\o.dict=none) \/
  (T="dict"/\((∃kvs,H p=some (.dK kvs))\/∃kvs,H p=some (.dT kvs)))\/(T="set"/\∃S n,H p=some (.set S n))
 |_=>False
def z5w{U:List (yc×YT)}{Y:St}{H:Hp}{s:yd}{T:String}{x:V}{v:Value}(I:Inv X U Y H s)(r:RelV x v)(ty:tyV X.K T x H) :
 s.TypeIs v T/\∀a,v=.ref a->∃ob,s.heap.get? a=some ob/\ob.dict=none:=by
 cases x with
 |str z=>
  obtain⟨t,rfl⟩:=r;cases (show T="str" from ty);exact⟨typeIs_str s z t,λ_ e=>nomatch e⟩
 |int i=>
  obtain⟨t,rfl⟩:=r;cases (show T="int" from ty);exact⟨typeIs_int s i t,λ_ e=>nomatch e⟩
 |ref p=>
  cases r;rcases ty with ⟨rfl,xs,hq⟩|⟨rfl,o,hk,hc,hd⟩|⟨rfl,hk⟩|⟨rfl,S,n,hk⟩
  ·obtain⟨its,_,pl,_⟩:=I.list hq;refine⟨pl.isList.typeIs,λa e=>?_⟩;cases e;obtain⟨o,n,e,c,hd,_⟩:=pl;exact⟨o,e,hd⟩
  ·refine⟨⟨o,I.kIn p o hk,hc⟩,λa e=>?_⟩;cases e;exact⟨o,I.kIn _ o hk,hd⟩
  ·have z:∃o,s.heap.get? p=some o/\o.ExactDict:=by
    rcases hk with ⟨kvs,hk⟩|⟨kvs,hk⟩
    ·obtain⟨_,_,_,_,o,_,_,e,ex,_⟩:=I.hok p _ hk;exact⟨o,e,ex⟩
    ·obtain⟨_,_,_,_,o,_,_,e,ex,_⟩:=I.hok p _ hk;exact⟨o,e,ex⟩
   obtain⟨o,e,ex⟩:=z;refine⟨⟨o,e,ex.1⟩,λa e2=>?_⟩;cases e2;exact⟨o,e,ex.2.1⟩
  ·obtain⟨o,_,_,_,e,ex,_⟩:=I.hok p _ hk;refine⟨⟨o,e,ex.1⟩,λa e2=>?_⟩;cases e2;exact⟨o,e,ex.2.1⟩
 |_=>exact YC ty
def zwC(K:yx)(T:String)(r:V->List V->Hp->VK->Prop)(to:TE):TE:=λY H Q=>to Y H λx H1=>tyV K T x H1/\r x [] H1 Q
def tBM(K:yx)(T:String)(r:V->List V->Hp->VK->Prop)(to:TE)(t:TA):TE:=λY H Q=>to Y H λx H1=>tyV K T x H1/\t Y H1 λxs H2=>r x xs H2 Q
variable {o e:yE}{es:List yE}{to:TE}{t:TA}{name:yt}{apos cpos:xp}{T id:String}{r:V->List V->Hp->VK->Prop}
def zyz(pa:PlainAttrs T)(slot:Slot T name id)(hty:typeOf (.builtin id)=pure (.type "method_descriptor"))(hm:MtR X id r)(ho:PE X o to)
 (hbase:YA o name X.env (Ye o X.env)=Ye o X.env:=by rfl) (hline:(apos.endLine==cpos.line)=true:=by rfl):PE X (.Call (.Attribute o name apos) [] [] cpos) (zwC X.K T r to):=by
 intro U s Y H Q I h;refine wpAny_Call_method0_late hbase hline (thn (ho U s Y H _ I h) λv s1 ⟨x,H1,I1,r1,ty,q1⟩=>?_);obtain⟨h1,h2⟩:=z5w I1 r1 ty;exact⟨T,id,pa,slot,hty,h1,h2,Calls.callWith_builtin rfl (PySem.evalArgs_none (hm U s1 Y H1 x [] v [] Q I1 r1 .nil q1))⟩
def zoz(pa:PlainAttrs T)(slot:Slot T name id)(hty:typeOf (.builtin id)=pure (.type "method_descriptor"))(hm:MtR X id r)(ho:PE X o to)(ha:PA X (e::es) t)
 (hbase:YA o name X.env (Ye o X.env)=Ye o X.env:=by rfl)
 (hfew:((Ym cpos (yj (e::es) X.env)).all (λx=>!x.1)&&(xR cpos (YQ [] X.env)).all (λx=>x.1.isSome)
  && decide ((e::es).length+([]:List xO).length+(if([]:List xO).isEmpty then 0 else 1)<30))=true:=by rfl)
 (hline:(apos.endLine==cpos.line)=true:=by rfl) (hs:yj (e::es) X.env=(false,Ye e X.env)::yj es X.env:=by rfl) (hplain:(Ym cpos (yj es X.env)).any (·.1)=false:=by rfl) :
 PE X (.Call (.Attribute o name apos) (e::es) [] cpos) (tBM X.K T r to t):=by
 intro U s Y H Q I h;refine wpAny_Call_method_late hbase hfew hline rfl (thn (ho U s Y H _ I h) λv s1 ⟨x,H1,I1,r1,ty,q1⟩=>?_);obtain⟨h1,h2⟩:=z5w I1 r1 ty;refine⟨T,id,pa,slot,hty,h1,h2,?_⟩;have hA:=ha cpos U s1 Y H1 _ I1 q1;rw[hs]at hA ⊢;refine Calls.callWith_builtin (by show(false||(Ym cpos (yj es X.env)).any (·.1))=false;rw[hplain]<;>rfl) (Calls.evalArgs_plain ?_);exact thn hA λus s2 ⟨vs,H2,I2,r2,q2⟩=>hm U s2 Y H2 x vs v us Q I2 r1 r2 q2
end
def MtM(X:Cx)(id:String)(r:V->List V->Hp->VK->Prop):Prop :=
 ∀(U:List (yc×YT)) (s:yd) (Y:St) (H:Hp) (x:V) (xs:List V) (v:Value) (us:List Value) (Q:VK),Inv X U Y H s->RelV x v->Vals xs us->r x xs H Q ->
  yn (yv X.prog X.w) X.A (call (.builtin id) (v::us)) (EP X U Y Q) X.xe s
def Vals.uncons{x:V}{xs:List V}{us:List Value}(h:Vals (x::xs) us):∃u ws,us=u::ws/\RelV x u/\Vals xs ws:=by
 cases h with
 |cons r t=>exact⟨_,_,rfl,r,t⟩
def Vals.unnil{us:List Value}(h:Vals [] us):us=[]:=by
 cases h;rfl
def Vals.one{x:V}{us:List Value}(h:Vals [x] us):∃u,us=[u]/\RelV x u:=by
 obtain⟨u,ws,e,r,t⟩:=h.uncons;exact⟨u,by rw[e,t.unnil],r⟩
def Vals.zero:∀{us:List Value},Vals [] us->us=[]
 |_,.nil=>rfl
def Vals.dropLast{xs:List V}{us:List Value}(h:Vals xs us):Vals xs.dropLast us.dropLast:=by
 induction h with
 |nil=>exact .nil
 |cons r t ih=>
  cases t with
  |nil=>exact .nil
  |cons q t'=>exact .cons r ih
def Vals.reverse{xs:List V}{us:List Value}(h:Vals xs us):Vals xs.reverse us.reverse:=by
 induction h with
 |nil=>exact .nil
 |cons r t ih=>rw[List.reverse_cons,List.reverse_cons];exact Vals.append ih (.cons r .nil)
def Vals.rep{xs:List V}{us:List Value}(h:Vals xs us):∀k:Nat,Vals (yC k xs).flatten (yC k us).flatten
 |0 =>.nil
 |k+1=>by
  rw[replicate_succ,replicate_succ,flatten_cons,flatten_cons];exact Vals.append h (Vals.rep h k)
def zAo(its:List Value):∀(k:Nat)(acc:List Value),
 List.foldl (λx1 x2=>x1++x2) acc.toArray (yC k its.toArray)=(acc++(yC k its).flatten).toArray
 |0,acc=>by simp
 |k+1,acc=>by
  have e:acc.toArray++its.toArray=(acc++its).toArray:=by simp
  have e2:(acc++its)++(yC k its).flatten=acc++(yC (k+1) its).flatten:=by
   rw[replicate_succ,flatten_cons,append_assoc]
  rw[<-e2,<-zAo its k (acc++its),<-e,replicate_succ,List.foldl_cons]
section
variable {X:Cx}{U:List (yc×YT)}{Y:St}{H:Hp}{s:yd}{l b:yc}{xs ys zs:List V}
def Inv.SK{its its':List Value}{n:Nat}{f:Array Value->Array Value}{t':Nat}(I:Inv X U Y H s)(hH:H l=some (.lst xs))
 (e:s.heap.get? l=some {cls:=.type "list",data:=.seq its.toArray n }) (hf:f its.toArray=its'.toArray) (hv:Vals ys its') (hz:ys.length<=yD) :
 Inv X U Y (upd H l (.lst ys)) {s with heap:=s.heap.update l (xY f),toks:=t' }:=by
 have q:=PySem.IsL.update e f;rw[hf]at q;refine I.write (x:=l) (e:=l) (by rw[hH];exact trivial) (.inl rfl) (λb' u hb hu=>(Yh s.heap (xY f) (yV hb)).trans hu) ⟨_,q⟩ ?_;exact⟨hz,its',_,hv,q⟩
def Inv.lnew{its:List Value}{t':Nat}(I:Inv X U Y H s)(hv:Vals ys its)(hz:ys.length<=yD) :
 Inv X U Y (upd H s.heap.objs.size (.lst ys)) {s with heap:=s.heap.push {cls:=.type "list",data:=.seq its.toArray },toks:=t' } :=
 I.laid (λ_ _ q=>yb _ q) (yi _) ⟨hz,its,0,hv,yp _ rfl⟩
def Inv.fresh(I:Inv X U Y H s):H s.heap.objs.size=none:=I.hok.fresh (yi _)
def Inv.sO(I:Inv X U Y H s)(hH:H l=some (.lst xs)):xs.length<=yD/\∃(its:List Value)(n:Nat),Vals xs its/\xs.length=its.length/\s.heap.get? l=some {cls:=.type "list",data:=.seq its.toArray n }:=by
 obtain⟨z,its,n,r,e⟩:=I.hok l _ hH;exact⟨z,its,n,r,r.length,e⟩
def sK{n:Nat}(h:n<=yD):xf n=false:=by
 unfold xf;exact decide_eq_false (by omega)
def zTy:V->List V->Hp->VK->Prop:=λx vs H Q=>∃l xs y,x=.ref l/\vs=[y]/\H l=some (.lst xs)/\xs.length<yD/\Q .non (upd H l (.lst (xs++[y])))
def z6u:MtM X "list.append" zTy:=by
 intro U s Y H x vs v us Q I rx rv h;obtain⟨l,xs,y,rfl,rfl,hH,hz,q⟩:=h;cases rx;obtain⟨u,rfl,ru⟩:=rv.one;obtain⟨z,its,n,r,hl,e⟩:=I.sO hH;refine Xs F.slot_list_append ⟨_,e,rfl⟩ F.entry_list_append (F.args_list_append_2 _ _) (PySem.list_append l its.toArray n u (by rw[size_toArray];omega)) ⟨e,?_⟩;refine⟨.non,_,I.SK (its':=its++[u]) hH e (by simp) (r.append (.cons ru .nil)) ?_,rfl,q⟩;rw[length_append,length_singleton];omega
def zNx:V->List V->Hp->VK->Prop:=λx vs H Q=>∃l b xs zs,x=.ref l/\vs=[.ref b]/\H l=some (.lst xs)/\H b=some (.lst zs)/\xs.length+zs.length<=yD/\Q .non (upd H l (.lst (xs++zs)))
def zRu:MtM X "list.extend" zNx:=by
 intro U s Y H x vs v us Q I rx rv h;obtain⟨l,b,xs,zs,rfl,rfl,hH,hB,hz,q⟩:=h;cases rx;obtain⟨u,rfl,ru⟩:=rv.one;cases ru;obtain⟨z,its,n,r,hl,e⟩:=I.sO hH;obtain⟨z2,its2,n2,r2,hl2,e2⟩:=I.sO hB;have hsz:its.toArray.size+its2.toArray.size<=yD:=by rw[size_toArray,size_toArray];omega
 have hlong:¬(!its.toArray.isEmpty&&xf (its.toArray.size+its2.toArray.size))=true:=by
  rw[sK hsz,Bool.and_false];exact yB
 refine Xs F.slot_list_extend ⟨_,e,rfl⟩ F.entry_list_extend (F.args_list_extend_2 _ _)
  (AutoSeq1.list_extend_list_list_0 l its.toArray n b its2.toArray n2 hlong (by rw[size_toArray];omega) (by omega)) ⟨e,e2,?_⟩
 refine⟨.non,_,I.SK (its':=its++its2) hH e (by simp) (r.append r2) ?_,rfl,q⟩;rw[length_append];omega
def zGA:V->List V->Hp->VK->Prop:=λx vs H Q=>∃l xs,x=.ref l/\vs=[]/\H l=some (.lst xs)/\Q .non (upd H l (.lst []))
def ztv:MtM X "list.clear" zGA:=by
 intro U s Y H x vs v us Q I rx rv h;obtain⟨l,xs,rfl,rfl,hH,q⟩:=h;cases rx;have hus:=rv.zero;subst hus;obtain⟨z,its,n,r,hl,e⟩:=I.sO hH;refine Xs F.slot_list_clear ⟨_,e,rfl⟩ F.entry_list_clear (F.args_list_clear_1 _) (AutoSeq1.list_clear_list_0 l its.toArray n (by rw[size_toArray];omega)) ⟨e,?_⟩;exact⟨.non,_,I.SK (its':=[]) (ys:=[]) hH e rfl .nil (Yt _),rfl,q⟩
def zBC:R2:=λx y H Q=>∃l b xs zs,x=.ref l/\y=.ref b/\H l=some (.lst xs)/\H b=some (.lst zs)/\xs.length+zs.length<=yD/\∀p,H p=none->Q (.ref p) (upd H p (.lst (xs++zs)))
def zZz:OpR X (xw .Add) zBC:=by
 intro U s Y H x y v u Q I rx ry h;obtain⟨l,b,xs,zs,rfl,rfl,hH,hB,hz,q⟩:=h;cases rx;cases ry;obtain⟨z,its,n,r,hl,e⟩:=I.sO hH;obtain⟨z2,its2,n2,r2,hl2,e2⟩:=I.sO hB;refine PySem.P.add_list e e2 ?_ (by rw[size_toArray,size_toArray];omega);have ea:its.toArray++its2.toArray=(its++its2).toArray:=by simp
 rw[ea];exact⟨.ref _,_,I.lnew (t':=s.toks) (r.append r2) (by rw[length_append];omega),rfl,q _ I.fresh⟩
def zrC:R2:=λx y H Q=>∃l k xs,x=.ref l/\y=.int k/\H l=some (.lst xs)/\-(2^63)<=k/\k<2^63/\xs.length*k.toNat<=yD /\
 ∀p,H p=none->Q (.ref p) (upd H p (.lst (yC k.toNat xs).flatten))
def z3t{α:Type}(xs:List α)(k:Nat):(yC k xs).flatten.length=k*xs.length:=by
 induction k with
 |zero=>simp
 |succ k ih=>rw[replicate_succ,flatten_cons,length_append,ih,Nat.succ_mul,Nat.add_comm]
def zxz:OpR X (xw .Mult) zrC:=by
 intro U s Y H x y v u Q I rx ry h;obtain⟨l,k,xs,rfl,rfl,hH,h1,h2,hz,q⟩:=h;cases rx;obtain⟨t,rfl⟩:=ry;obtain⟨z,its,n,r,hl,e⟩:=I.sO hH;have hlen:its.toArray.size*k.toNat<=yD:=by rw[size_toArray,<-hl];exact hz
 have hcap:¬its.toArray.size*k.toNat>(2^63-1) / 8:=by
  have:(yD:Nat)<=(2^63-1) / 8:=by decide
  omega
 have hfit:¬(!Builtin.List.listFitsIndex k)=true:=by
  rw[fitsIndex_both h1 h2];exact yB
 have hlong:¬xf (its.toArray.size*k.toNat)=true:=by
  rw[sK hlen];exact yB
 have hnew:List.foldl (λx1 x2=>x1++x2) #[] (yC (if its.toArray.isEmpty=true then 0 else k.toNat) its.toArray)=(yC k.toNat its).flatten.toArray:=by
  have f0:∀m:Nat,List.foldl (λx1 x2=>x1++x2) #[] (yC m its.toArray)=(yC m its).flatten.toArray:=λm=>by
   have:=zAo its m [];rw[nil_append]at this;exact this
  rw[f0]
  cases its with
  |nil=>simp
  |cons a r'=>rw[if_neg (by simp)]
 refine wpAny_binaryOp_repeat_ref (T:="list") (U:="int") (by decide) ⟨_,e,rfl⟩ (λs'=>typeIs_int s' k t) noFill_list_mul F.fills_int_mul F.slot_int_rmul repeat_list F.slot_int_index.lookup
  (Xs F.slot_int_rmul (typeIs_int s k t) F.entry_int_rmul (F.args_int_rmul_2 _ _) (int___rmul___int_list k t l its.toArray n)
   ⟨e,rfl,⟨_,e,rfl⟩,Xs F.slot_list_mul ⟨_,e,rfl⟩ F.entry_list_mul (F.args_list_mul_2 _ _) (AutoListH.list___mul___list_int_3 l its.toArray n k t hfit hcap hlong) ⟨e,?_⟩⟩)
 rw[hnew];exact⟨.ref _,_,I.lnew (t':=s.toks) (r.rep k.toNat) (by rw[z3t,Nat.mul_comm];exact hz),rfl,q _ I.fresh⟩
variable {prog:yA}{w:yI}{A:yK}{E:Value->yd->Prop}
end
end L2
namespace Att
open PySem PySem.W PySem.Calls PyProof.Rows
def zql{P:Params}{h:yT}:∀(ns:List Int)(vs:List Value),WellAll P h vs (ns.map WData.int)->IntsAre vs ns:=by
 intro ns
 induction ns with
 |nil=>
  intro vs w;rw[map_nil]at w;cases w;exact .nil
 |cons n ns ih=>
  intro vs w;rw[map_cons]at w
  cases w with
  |cons a b=>
   cases a;exact .cons _ _ (ih _ b)
def zNu{l:OpenLaw}{n:Nat}(hn:l.most=some n){P:Params}{h:yT}{args:List WData}{vals:List Value}
 (hpre:l.row.toRowW.claim.pre args=true) (hwl:WellAll P h vals args) :
 ∃a vs ns,vals=[yG a]/\args=[WData.list (ns.map WData.int)]/\h.get? a=some {cls:=.type "list",data:=.seq vs.toArray }/\IntsAre vs ns/\ns.length<=n:=by
 have hsh:WShape.hasAll [] args [.list .int]=true:=(pre_splitW hpre).1;have hc:l.pre.holds [] {args:=args } = true:=(pre_splitW hpre).2;obtain⟨d,r,rfl,h1,h2⟩:=hasAllW_cons hsh;obtain rfl:=hasAllW_nil h2;obtain⟨xs,rfl,h3⟩:=hasW_list h1;obtain⟨ns,rfl⟩:=items_int h3
 have hlen:ns.length<=n:=by
  unfold OpenLaw.pre at hc
  have h4:(WTm.not (.lt (.lit (.int (n:Int))) (.len (.arg 0)))).holds [] {args:=[.list (ns.map .int)]} = true:=by
   have h4:=(holds_andW hc).1;rw[hn]at h4;exact h4
  have h5:=condW_of h4 (w_not (w_lt w_lit (w_len_list (w_arg rfl))));rw[length_map]at h5;refine Nat.le_of_not_lt λq=>?_;have q':(n:Int)<((ns.length:Nat):Int):=by omega
  first
   |(rw[decide_eq_true q']at h5;exact absurd h5 (by decide))
   |(simp at h5;omega)
 cases hwl with
 |cons w1 w2=>
  cases w2
  cases w1 with
  |list ho hall=>exact⟨_,_,ns,rfl,rfl,ho,zql ns _ hall,hlen⟩
def zou(l:OpenLaw)(args:List WData):l.row.toRowW.claim.post args (.bool true) args=true :=
 postW_of (r:=l.row.toRowW) (X:=(true==true))
  (show WShape.has [] (.bool true) .bool=true by first|rfl|decide|simp[WShape.has,WShape.arms,WShape.armsAll])
  (show(WTm.eq .res (.lit (.bool true))).value [] {args:=args,res:=some (.bool true),after:=args } = some (.bool (true==true)) from w_eq_bool (w_res rfl) w_lit) rfl
def Sf{l:OpenLaw}{n:Nat}{q:yA}{loose:List yt}{XP:(yt->Option Value)->yT->Prop}{YP:yI->yT->Prop}{d:DefRec}
 (hn:l.most=some n) (hdf:d.params.defaults=[])
 (call:∀(w:yI)(s₀ s₁:yd)(mg mb:yt->Option Value)(fa:yc)(o:YT)(pm cd doc:Value)(a:yc)(vs:List Value)(ns:List Int),
  Ground q loose [] XP w s₀ mg mb s₁.heap->YP w s₁.heap ->
  s₁.heap.get? fa=some o->o.data=.func (docDef d.name d.params d.body d.scope pm cd doc)->s₁.heap.CodeRec cd d.name->mg d.name=some (.ref fa) ->
  s₁.heap.get? a=some {cls:=.type "list",data:=.seq vs.toArray }->IntsAre vs ns->ns.length<=n->s₁.gens = #[] ->
  xN (yv l.prog w) callerA (.call (.ref fa) ⟨[.ref a],[]⟩) (λr s'=>r=.ok (.ret (.bool true))/\OldK s₁.heap s'.heap/\s'.os=s₁.os/\AllBare s'.gens) s₁) :
 WalkO q loose XP YP l.row.toRowW d [] (λf vs=>PySem.call f vs):=by
 intro w s₀ s₁ mg mb φ σ fa o pm cd doc dV kV ho hd hcd hD hmg hg args vals as hpre hlay hrd hwl hlo;obtain rfl:dV=.none:=Dflts.none hD hdf;obtain rfl:kV=.none:=Dflts.noKw hD;obtain⟨a,vs,ns,rfl,rfl,hobj,hints,hlen⟩:=zNu hn hpre hwl;refine enter_call (YG (call w s₀ s₁ mg mb fa o pm cd doc a vs ns φ σ ho (fd_plain hd) hcd hmg hobj hints hlen hg) λr s' hq=>?_);obtain⟨rfl,h2,h3,h4⟩:=hq;exact⟨.inl ⟨.bool true,.bool true,[],rfl,λ_=>rfl,.bool true,zou l _,λ_=>⟨List.Pairwise.nil,λ_ hm=>(nomatch hm)⟩⟩,h2,h3,h4⟩
section
variable {prog:yA}{w:yI}{A:yK}{E:Value->yd->Prop}{s:yd}{K:Frag}
end
end Att
namespace L2
open PySem PySem.Spec PyProof.Rows
def zmp:∀{vs:List Value} {ns:List Int},IntsAre vs ns->Vals (ns.map V.int) vs
 |_,_,.nil =>.nil
 |_,_,.cons n t h =>.cons ⟨t,rfl⟩ (zmp h)
def zYA(H:Hp):Prop:=∀b,H b=none\/∃o xs,H b=some (.frz o (.lst xs))
def zpv{P:yA}{w:yI}{K:yx}{mg mb:yt->Option Value}{CX:CXT}{k:Nat}{fa a:yc}{fd:yh}{x:yt}{sp:Sp}{s₁:yd}{vs:List Value}{ns:List Int}
 (KX:K.In s₁.heap) (hns:s₁.heap.Ns yo mg) (hb:s₁.heap.Ns builtinsNs mb) (hbb:∀x:yt,x≠"__name__"->mb x=yJ x) (hlim:s₁.heap.NoLimit) (hg:s₁.gens = #[])
 (ha:s₁.heap.get? a=some {cls:=.type "list",data:=.seq vs.toArray }) (hi:IntsAre vs ns) (hl:ns.length<=yD) (hr:tS k callerA)
 (F:∀base:yT,K.In base->base.Ns yo mg->tq P w K mg base CX k fa fd [x] sp) (hbind:∀(s:yd)(u:Value),BindsTo s fd ⟨[u],[]⟩ [(x,u)])
 (hsp:∀H:Hp,zYA H->SqL K H a (ns.map V.int)->sp [.ref a] H (λv _=>v=.bl true) λ_ _ _=>False)
 (hCX:∀H e s',CX [] H s₁ (λ_ _ _=>False) e s'->False) :
 xN (yv P w) callerA (.call (.ref fa) ⟨[.ref a],[]⟩) (λr s'=>r=.ok (.ret (.bool true))/\OldK s₁.heap s'.heap/\s'.os=s₁.os/\AllBare s'.gens) s₁:=by
 have rv:=zmp hi;have lenV:=hi.length
 have core:∀H:Hp,zYA H->SqL K H a (ns.map V.int)->HOk P w H s₁.heap->(∀b,H b≠none->b=a)->(H a≠none->K.lookup a=none) ->
  xN (yv P w) callerA (.call (.ref fa) ⟨[.ref a],[]⟩) (λr s'=>r=.ok (.ret (.bool true))/\OldK s₁.heap s'.heap/\s'.os=s₁.os/\AllBare s'.gens) s₁:=by
  intro H hO hS hok hA hK;have base_of:∀{b:yc} {o:YT},s₁.heap.get? b=some o->H b=none->(zwv s₁.heap H).get? b=some o:=λe n=>zuw e n
  have noA:∀{b:yc} {o:YT} {es:Array DictEntry} {ep:Nat},s₁.heap.get? b=some o->o.data=.dict es ep->H b=none:=λ{b o es ep} e d=>by
   cases q:H b with
   |none=>rfl
   |some u=>
    have e':b=a:=hA b (by rw[q];simp);subst e';rw[ha]at e;cases e;have d':Data.seq vs.toArray _=Data.dict es ep:=d;cases d'
  have nsK:∀{b:yc} {m:yt->Option Value},s₁.heap.Ns b m->(zwv s₁.heap H).Ns b m:=λ{b m} ⟨o,es,ep,e,d,r⟩=>⟨o,es,ep,base_of e (noA e d),d,r⟩
  have hKb:K.In (zwv s₁.heap H):=λb o e=>base_of (KX b o e) (by
   cases q:H b with
   |none=>rfl
   |some u=>
    have e':b=a:=hA b (by rw[q];simp);subst e';rw[hK (by rw[q];simp)]at e;cases e)
  have hM:Mod K mg (zwv s₁.heap H):=⟨hKb,nsK hns,⟨mb,nsK hb,hbb⟩,let ⟨mc,h1,h2⟩:=hlim;⟨mc,nsK h1,h2⟩⟩
  have e0:So P w K mg (zwv s₁.heap H) callerA [] s₁ H:=⟨rfl,hM,λb o e=>zHx e,Nat.le_of_eq (zXs _ _),trivial,λb hb=>absurd (show b∈([]:List yc) from hb) (by simp),hok,.of_eq hg⟩
  refine YG ((F _ hKb (nsK hns)).run callerA [] s₁ H ⟨[.ref a],[]⟩ [.ref a] [.ref a] _ _ hr e0 (hbind s₁ (.ref a)) (.cons rfl .nil) (hsp H hO hS)) λr s' h=>?_
  cases r with
  |error e=>exact(hCX H e s' h).elim
  |ok fl=>
   cases fl with
   |next=>exact YC h
   |brk=>exact YC h
   |cont=>exact YC h
   |ret u=>
    obtain⟨v,H',os,bare,un,hok',r',q⟩:=h;have q':v=.bl true:=q;subst q';obtain rfl:u=Value.bool true:=r';refine⟨rfl,OldK.of_keep λb o e=>?_,os,bare⟩
    cases q:H b with
    |none=>exact un.keep b o e q (by intro z;exact absurd (show b∈([]:List yc) from z) (by simp)) (by simp)
    |some u=>
     rcases hO b with z|⟨ob,xs,z⟩
     ·rw[q]at z;cases z
     ·have z2:=un.TK b ob _ z;obtain⟨e1,_⟩:=hok b _ z;obtain⟨e2,_⟩:=hok' b _ z2;rw[e]at e1;cases e1;exact e2
 cases hk:K.lookup a with
 |some o=>
  have e:=KX a o hk;rw[ha]at e;cases e;refine core (λ_=>none) (λ_ =>.inl rfl) (.inr ⟨_,vs.toArray,_,hk,rfl,rfl,rfl,by rw[size_toArray,lenV];exact hl,by simpa using rv⟩) (λb u z=>by have z':(none:Option HO)=some u:=z;cases z') (λb z=>absurd rfl z) λz=>absurd rfl z
 |none=>
  refine core (λb=>if b=a then some (.frz {cls:=.type "list",data:=.seq vs.toArray } (.lst (ns.map V.int))) else none) (λb=>?_) (.inl (.inr ⟨{cls:=.type "list",data:=.seq vs.toArray },if_pos rfl⟩)) (λb u z=>?_) (λb z=>?_) λ_=>hk
  ·by_cases hb:b=a
   ·exact .inr ⟨_,_,if_pos hb⟩
   ·exact .inl (if_neg hb)
  ·by_cases hb:b=a
   ·have z':=(if_pos hb).symm.trans z;cases z';subst hb;exact⟨ha,by rw[length_map];exact hl,vs,_,rv,ha⟩
   ·have z':=(if_neg hb).symm.trans z;cases z'
  ·by_cases hb:b=a
   ·exact hb
   ·exact absurd (if_neg hb) z
def walk_of{l:W.OpenLaw}{n k:Nat}{q:yA}{loose:List yt}{XP:(yt->Option Value)->yT->Prop}{YP:yI->yT->Prop}{d:DefRec}{K:Params->yx}{CX:yI->CXT}{sp:yI->Sp}{x:yt}
 (hn:l.most=some n) (hn2:n<=yD) (hdf:d.params.defaults=[]) (hr:tS k callerA)
 (hY:∀(w:yI)(h:yT),YP w h->(K w.params).In h)
 (F:∀(w:yI)(mg:yt->Option Value)(fa:yc)(h:yT),(K w.params).In h->h.Ns yo mg->mg d.name=some (.ref fa) ->
  ∃fd:yh,(∀(s:yd)(u:Value),BindsTo s fd ⟨[u],[]⟩ [(x,u)]) /\
   ∀base:yT,(K w.params).In base->base.Ns yo mg->tq l.prog w (K w.params) mg base (CX w) k fa fd [x] (sp w))
 (hsp:∀(w:yI)(H:Hp)(a:yc)(ns:List Int),ns.length<=n->zYA H->SqL (K w.params) H a (ns.map V.int)->sp w [.ref a] H (λv _=>v=.bl true) λ_ _ _=>False)
 (hCX:∀(w:yI)(H:Hp)(s:yd)(e:Value)(s':yd),CX w [] H s (λ_ _ _=>False) e s'->False) :
 W.WalkO q loose XP YP l.row.toRowW d [] (λf vs=>PySem.call f vs):=by
 refine Att.Sf hn hdf λw s₀ s₁ mg mb fa o pm cd doc a vs ns φ σ ho hd hcd hmg hobj hints hlen hg=>?_;have KX:=hY w _ σ;obtain⟨fd,hb,hF⟩:=F w mg fa _ KX φ.T.g hmg;exact zpv KX φ.T.g φ.T.b φ.T.builtins φ.T.nolimit hg hobj hints (yF hlen hn2) hr hF hb (λH hO hS=>hsp w H a ns hlen hO hS) λH e s'=>hCX w H s₁ e s'
def zZe(s:Yb)(j:Nat):Yb:=match s with
 |.ClassDef _ _ _ body _ _ _ _ _ _ _=>body.getD j (.Pass ⟨0,0,0,0⟩)
 |_ =>.Pass ⟨0,0,0,0⟩
def zUd(s:Yb):Arguments:=match s with
 |.FunctionDef _ a _ _ _ _ _ _ _ _=>a
 |_=>{posonlyargs:=[],args:=[],vararg:=none,kwonlyargs:=[],kw_defaults:=[],kwarg:=none,defaults:=[]}
def zqc(s:Yb):List Yb:=match s with
 |.FunctionDef _ _ b _ _ _ _ _ _ _=>b
 |_=>[]
def zo(s:Yb):Xm:=match s with
 |.FunctionDef _ _ _ _ _ _ sc _ _ _=>sc
 |_=>{kind:=.function,names:=[],isGenerator:=false,isCoroutine:=false }
abbrev CX0:CXT:=λ_ _ _ _ _ _=>False
abbrev E0:XK:=λ_ _ _=>False
def Sy{X:Cx}:zaj CX0 X E0:=λ_ _ _ _ _ _ _ h=>h.elim
structure Fun(K:yx)(x qual:yt)(st:Yb)(f:yc)(fd:yh):Prop where
 ex:∃(oc:Value)(od:Option yc)(kV doc pm:Value)(an:Option yc)(cdv ct:Value)(osl:Array (Option Value)),
  fd=W.fnOf x qual (zUd st) (zqc st) (zo st) .none kV doc pm an cdv ct/\K.lookup f=some ⟨oc,od,.func fd,osl⟩/\W.codeIn K cdv qual=true
 kp:W.keepIn K (.ref f)=true
section
variable {P:yA}{w:yI}{K:yx}{mg:yt->Option Value}{base:yT}
def Fun.ok{x qual:yt}{st:Yb}{f:yc}{fd:yh}{N ps:List yt}{k:Nat}{sp:Sp}(F:Fun K x qual st f fd)(S:tu N ps (zo st))(len:∀vs H Q E,sp vs H Q E->vs.length=ps.length)
 (hbody:∀(cdv:Value)(A:yK)(outer:List Env)(s:yd)(H:Hp)(vs:List V)(Q:VK)(E:XK),tS k (A.deeper (envOfC qual (zo st) s.heap.objs.size f cdv))->sp vs H Q E ->
  ∃t,PSs (zRs CX0 P w K mg base N qual (zo st) f cdv A outer s H E).nox (zqc st) t/\t {nx:=λ_ H'=>Q .non H',rt:=Q } (start N vs) H):tq P w K mg base CX0 (k+1) f fd ps sp:=by
 obtain⟨oc,od,kV,doc,pm,an,cdv,ct,osl,rfl,lk,hcd⟩:=F.ex;refine ztz lk hcd S len λA outer s H vs Q E hr hsp=>?_;obtain⟨t,h,q⟩:=hbody cdv A outer s H vs Q E hr hsp;exact⟨t,h.nox,q⟩
def Fun.binds{x qual:yt}{st:Yb}{f:yc}{fd:yh}{ps:List yt}(F:Fun K x qual st f fd)
 (h:∀(kV doc pm:Value)(an:Option yc)(cdv ct:Value)(us:List Value),us.length=ps.length->bindArgs (W.fnOf x qual (zUd st) (zqc st) (zo st) .none kV doc pm an cdv ct) ⟨us,[]⟩=pure (ps.zip us)):Binds K fd ps []:=by
 obtain⟨oc,od,kV,doc,pm,an,cdv,ct,osl,rfl,lk,hcd⟩:=F.ex;exact .all (h kV doc pm an cdv ct)
def zHe{x qual:yt}{st:Yb}{f:yc}{oc:Value}{od an:Option yc}{osl:Array (Option Value)}{kV doc pm cdv ct:Value}(l:K.lookup f=some ⟨oc,od,.func (W.fnOf x qual (zUd st) (zqc st) (zo st) .none kV doc pm an cdv ct),osl⟩)
 (c:W.codeIn K cdv qual=true) (k:W.keepIn K (.ref f)=true):Fun K x qual st f (W.fnOf x qual (zUd st) (zqc st) (zo st) .none kV doc pm an cdv ct):=⟨⟨oc,od,kV,doc,pm,an,cdv,ct,osl,rfl,l,c⟩,k⟩
end
def sA{n:Nat}(h:n<=1000):n<yD:=Nat.lt_of_le_of_lt h (by decide)
section
variable {X:Cx}
def pv(i:Nat){x:yt}{pos:xp}(hN:X.N[i]?=some x:=by rfl)(hv:Vis X.env.scope x:=by first|exact Or.inl rfl|exact Or.inr (Or.inl rfl)|exact Or.inr (Or.inr rfl))(hd:(x==("__debug__":yt))=false:=by decide)
 (hcd:(x==("__classdict__":yt))=false:=by decide):PE X (.Name x pos) (zRB i):=zQw hN hv hd hcd
end
def Sq{A B:Prop}(h:B):if false=true then A else B:=by
 rw[if_neg yB];exact h
def Sr{A B:Prop}(h:A):if true=true then A else B:=by
 rw[if_pos rfl];exact h
def zbm(f:Array Value->Array Value)(o:YT):(xg f o).dict=o.dict:=by
 unfold xg
 split<;>rfl
def Trc(B h:yT)(e:yc)(x:Value):Prop:=x=.none\/∃T oT ts y,x=.ref T/\B.get? T=none/\T≠e/\h.get? T=some oT/\oT.data=.fields ts/\ts[3]?=some y
structure Fly(B:yT)(l:List Env)(e:yc)(cls:Value)(dx:Option yc)(h:yT):Prop where
 st:B.StaysIn h
 new:B.get? e=none
 ff:h.FunFrames B l
 ob:∃oe vs x,h.get? e=some oe/\oe.cls=cls/\oe.dict=dx/\oe.data=.fields vs/\vs[1]?=some x/\Trc B h e x
section
variable {M:Model}{A:yK}{E:Value->yd->Prop}{s:yd}{B:yT}{l outer:List Env}{env:Env}{e L:yc}{cls:Value}{dx:Option yc}{Q:Unit->yd->Prop}
def Fly.recW{h:yT}{T:yc}{oT:YT}{ts:Array Value}(F:Fly B l e cls dx h)(hb:B.get? T=none)(hT:h.get? T=some oT)(hd:oT.data=.fields ts)(g:Array Value->Array Value)
 (hob:∃oe vs x,(h.update T (xg g)).get? e=some oe/\oe.cls=cls/\oe.dict=dx/\oe.data=.fields vs/\vs[1]?=some x/\Trc B (h.update T (xg g)) e x) :
 Fly B l e cls dx (h.update T (xg g))/\h.UpToSlots (h.update T (xg g)):=by
 have other:∀b,b≠T->(h.update T (xg g)).get? b=h.get? b:=λb hb=>Yh _ _ (yV hb)
 have noR:∀b o,h.get? b=some o->(∀vs,o.data≠.fields vs)->b≠T:=λb o q hn z=>by
  rw[z,hT]at q;cases q;exact hn ts hd
 exact⟨⟨λb o q=>(other b λz=>by rw[z,hb]at q;cases q).trans (F.st b o q),F.new,F.ff.of_keeps λb o q hn=>⟨o,(other b (noR b o q hn)).trans q,rfl⟩,hob⟩,λb o q hn=>⟨o.slots,(other b (noR b o q hn)).trans q⟩⟩
def z7f(F:Fly B l e cls dx s.heap)(h:∀h',Fly B l e cls dx h'->s.heap.UpToSlots h'->Q () {s with heap:=h' }):yn M A (setFlight (.ref e) none) Q E s:=by
 obtain⟨oe,vs,x,he,hc,hx,hd,h1,tr⟩:=F.ob;unfold setFlight;refine ya (YI he hd h1 ?_);rcases tr with rfl|⟨T,oT,ts,y,rfl,hb,hne,hT,hdT,h3⟩
 ·rw[if_neg (by decide)];exact yf (h _ F (.refl _))
 ·rw[if_pos (show(yG T != Yn)=true from by simp)];have h3':=(Array.getElem?_eq_some_iff.mp h3).1;refine YX hT hdT h3' ?_
  obtain⟨F',u⟩:=F.recW hb hT hdT (·.setIfInBounds 3 ((none:Option yc).elim Yn λf=>YH f))
   ⟨oe,vs,_,(Yh _ _ hne).trans he,hc,hx,hd,h1,.inr ⟨T,_,_,.none,rfl,hb,hne,yN _ hT (YF (yZ hdT _)),yZ hdT _,by simp[h3']⟩⟩
  exact h _ F' u
def zcu{head:Value}{hadNext:Bool}(hfr:A.frames=some (env::outer))(hf:env.frame=some L)(F:Fly B (env::outer) e cls dx s.heap)(h:∀h',Fly B (env::outer) e cls dx h'->s.heap.UpToSlots h'->Q () {s with heap:=h' }) :
 yn M A (do let a <-frameOf env;let pl <-entryPlaceOf L hadNext;let b <-EntryCells.newEntry head a .none (YH L) .none pl;setField (.ref e) 1 b) Q E s:=by
 obtain⟨oe,vs,x,he,hc,hx,hd,h1,tr⟩:=F.ob;have hl:=F.ff
 have hene:e∉(env::outer).filterMap (·.frame):=λhm=>by
  obtain⟨_,o,ho,hnf⟩:=hl.mem hm;rw[he]at ho;cases ho;exact hnf vs hd
 refine ya (wpAny_frameOf_fun hfr hl hf λh₁ hs=>?_);refine ya (wpAny_entryPlaceOf λpl hpl=>?_);unfold EntryCells.newEntry newFields;refine ya (yY ?_ (hpl.sizeOk5 _ _ _ _ _));generalize hts:([head,yG L,Yn,YH L,Yn]++(if pl.isEmpty=true then yC 6 Yn else pl))=ts;have hts3:ts.toArray[3]?=some (YH L):=by rw[<-hts];simp
 have he₁:h₁.get? e=some oe:=(hs.2.1 e hene).trans he;have hn:h₁.objs.size≠e:=yW (yk he₁);have kb:B.StaysIn h₁:=λb o q=>(hs.2.1 b λhm=>by rw[(hl.mem hm).1]at q;cases q).trans (F.st b o q);have he₂:=yb (h:=h₁) {cls:=.type "traceback",dict:=none,data:=.fields ts.toArray } he₁;refine YX he₂ hd (Array.getElem?_eq_some_iff.mp h1).1 (h _ ?_ ?_)
 all_goals
  have keep:∀b o,b≠e->h₁.get? b=some o->((h₁.push {cls:=.type "traceback",dict:=none,data:=.fields ts.toArray }).update e (xg (·.setIfInBounds 1 (yG h₁.objs.size)))).get? b=some o:=λb o hbe hb=>by
   rw[Yh _ _ (yV hbe)];exact yb _ hb
  have noR:∀b o,s.heap.get? b=some o->(∀vs,o.data≠.fields vs)->b≠e:=λb o q hn z=>by
   rw[z,he]at q;cases q;exact hn vs hd
 ·refine⟨λb o q=>keep b o (λz=>by rw[z,F.new]at q;cases q) (kb b o q),F.new,hl.of_keeps λb o q hn=>?_,?_⟩
  ·obtain⟨sl,z⟩:=hs.2.2 b o q;exact⟨_,keep b _ (noR b o q hn) z,rfl⟩
  ·have hd₃:=yZ hd (·.setIfInBounds 1 (yG h₁.objs.size));refine⟨_,_,_,yN _ he₂ (YF hd₃),(Xn _ _).trans hc,(zbm _ _).trans hx,hd₃,by simp[(Array.getElem?_eq_some_iff.mp h1).1],.inr ⟨h₁.objs.size,{cls:=.type "traceback",dict:=none,data:=.fields ts.toArray },ts.toArray,YH L,rfl,kb.fresh,hn,?_,rfl,hts3⟩⟩;exact(Yh _ _ (yV hn)).trans (yp h₁ rfl)
 ·intro b o q hn;obtain⟨sl,z⟩:=hs.2.2 b o q;exact⟨sl,keep b _ (noR b o q hn) z⟩
def zAl(hfr:A.frames=some (env::outer))(hf:env.frame=some L)(F:Fly B (env::outer) e cls dx s.heap)(h:∀h',Fly B (env::outer) e cls dx h'->s.heap.UpToSlots h'->Q () {s with heap:=h' }) :
 yn M A (noteFrame (.ref e) env) Q E s:=by
 obtain⟨oe,vs,x,he,hc,hx,hd,h1,tr⟩:=F.ob;unfold noteFrame;simp only[hf];refine ya (YI he hd h1 ?_);rcases tr with rfl|⟨T,oT,ts,y,rfl,hb,hne,hT,hdT,h3⟩
 ·rw[if_neg (by decide)];exact zcu hfr hf F h
 ·rw[if_pos (show(yG T != Yn)=true from by simp)];refine ya (YI hT hdT h3 ?_)
  by_cases hy:(y==YH L)=true
  ·rw[if_pos hy];exact yf (h _ F (.refl _))
  ·rw[if_neg hy];have h3':=(Array.getElem?_eq_some_iff.mp h3).1;refine ya (YX hT hdT h3' ?_)
   obtain⟨F',u⟩:=F.recW hb hT hdT (·.setIfInBounds 3 Yn)
    ⟨oe,vs,_,(Yh _ _ hne).trans he,hc,hx,hd,h1,.inr ⟨T,_,_,.none,rfl,hb,hne,yN _ hT (YF (yZ hdT _)),yZ hdT _,by simp[h3']⟩⟩
   exact zcu hfr hf F' λh' F'' u'=>h h' F'' (u.trans u')
def zit(hfr:A.frames=some (env::outer))(hf:env.frame=some L)(F:Fly B (env::outer) e cls dx s.heap)(h:∀h',Fly B outer e cls dx h'->s.heap.UpToSlots h'->Q () {s with heap:=h' }) :
 yn M A (leaving env (.ref e)) Q E s:=by
 unfold leaving;refine ya (zAl hfr hf F λh1 F1 u1=>?_);refine z7f (s:={s with heap:=h1 }) F1 λh2 F2 u2=>?_;exact h h2 ⟨F2.st,F2.new,F2.ff.2.2,F2.ob⟩ (u1.trans u2)
end
def tG.there{P:yA}{w:yI}{H:Hp}{h:yT}{a:yc}{o:HO}(x:tG P w H h a o):∃u,h.get? a=some u:=by
 cases o with
 |lst xs=>obtain⟨_,_,_,_,e⟩:=x;exact⟨_,e⟩
 |tup xs=>obtain⟨_,_,_,o,e,_⟩:=x;exact⟨_,e⟩
 |dK kvs=>obtain⟨_,_,_,_,o,_,_,e,_⟩:=x;exact⟨_,e⟩
 |dT kvs=>obtain⟨_,_,_,_,o,_,_,e,_⟩:=x;exact⟨_,e⟩
 |set S n=>obtain⟨o,_,_,_,e,_⟩:=x;exact⟨_,e⟩
 |ins C dx fs=>obtain⟨_,_,_,e,_⟩:=x;exact⟨_,e⟩
 |own y=>obtain⟨_,e⟩:=x;exact⟨_,e⟩
 |xd fs=>obtain⟨_,⟨_,_,_,e,_⟩,_⟩:=x;exact⟨_,e⟩
 |rng lo hi=>obtain⟨_,_,_,e⟩:=x;exact⟨_,e⟩
 |frz ob u=>obtain⟨e,_⟩:=x;exact⟨_,e⟩
 |tbl ps=>exact⟨_,(show h.get? a=some _ from x)⟩
 |met f y=>exact⟨_,(show h.get? a=some _ from x)⟩
 |ext G=>obtain⟨_,⟨_,e⟩,_⟩:=x;exact⟨_,e⟩
structure Cov(outer:List Env)(H':Hp)(h B:yT):Prop where
 tr:∀b o,H' b=some o->∃u,B.get? b=some u
 old:∀b o,h.get? b=some o->b∉frs outer->∃u,B.get? b=some u
structure sW(P:yA)(w:yI)(outer:List Env)(H:Hp)(s:yd)(C:Value)(dx:Option yc)(H':Hp)(e:Value)(s':yd):Prop where
 os:s'.os=s.os
 bare:AllBare s'.gens
 un:Un (frs outer) [] H H' s.heap s'.heap
 hok:HOk P w H' s'.heap
 fly:∃a B,e=.ref a/\Fly B outer a C dx s'.heap/\Cov outer H' s.heap B
def CXq(P:yA)(w:yI):CXT:=λouter H s E e s'=>∃C dx H',sW P w outer H s C dx H' e s'/\E C dx H'
section
variable {P:yA}{w:yI}{outer:List Env}{H H':Hp}{h0 h h' B base:yT}
def zaq(u:Un (frs outer) [] H H' h0 h)(c:Cov outer H' h0 B)(st:B.StaysIn h)(st':B.StaysIn h')(sm:h.UpToSlots h')(ff:h0.FunFrames base outer)(frf:∀b∈frs outer,H b=none):Un (frs outer) [] H H' h0 h' where
 keep:=λb o q n hb hx=>by
  obtain⟨v,hv⟩:=c.old b o q hb;have e1:=u.keep b o q n hb hx;have e2:=st b v hv;rw[e1]at e2;cases e2;exact st' b o hv
 slot:=λb o q n hb hx=>by
  obtain⟨sl,e1⟩:=u.slot b o q n hb hx;obtain⟨_,o',ho',hd⟩:=ff.mem hb;rw[q]at ho';cases ho';obtain⟨sl',e2⟩:=sm b _ e1 hd;exact⟨sl',e2⟩
 free:=u.free
 there:=λb o q hx=>by
  by_cases hb:b∈frs outer
  ·obtain⟨sl,e1⟩:=u.slot b o q (frf b hb) hb hx;obtain⟨_,o',ho',hd⟩:=ff.mem hb;rw[q]at ho';cases ho';obtain⟨sl',e2⟩:=sm b _ e1 hd;exact⟨_,e2⟩
  ·obtain⟨v,hv⟩:=c.old b o q hb;exact⟨v,st' b v hv⟩
 tups:=u.tups
 TK:=u.TK
 TU:=u.TU
def zho(x:HOk P w H' h)(c:Cov outer H' h0 B)(st:B.StaysIn h)(st':B.StaysIn h'):HOk P w H' h':=λa o e=>by
 refine(x a o e).stay (λb u hb q=>?_) (λ_ q=>q) λ_ _ q=>q
 have hb:∃o',H' b=some o':=by
  rcases hb with rfl|hb
  ·exact⟨_,e⟩
  ·exact⟨_,hb⟩
 obtain⟨o',hb⟩:=hb;obtain⟨v,hv⟩:=c.tr b o' hb;have e2:=st b v hv;rw[q]at e2;cases e2;exact st' b u hv
variable {X:Cx}{U:List (yc×YT)}{Y:St}{s s':yd}{C:Value}{a:yc}{dx:Option yc}
def Inv.fly{B h':yT}(I:Inv X U Y H s)(F:sW X.prog X.w X.stack H s C dx H' (.ref a) s')(c:Cov X.stack H' s.heap B)(st:B.StaysIn s'.heap)(st':B.StaysIn h')(sm:s'.heap.UpToSlots h'){t':Nat}{d':Drawn} :
 Inv X U Y H' {s' with heap:=h',toks:=t',drawn:=d' } :=
 I.Sx F.os (zaq F.un c st st' sm I.stack I.TL) (zho F.hok c st st') F.bare λb z=>absurd z (by simp)
def Inv.madeX{h':yT}{vs:List Value}(I:Inv X U Y H s)(hm:Heap.MadeExcOf s.heap h' a C vs):sW X.prog X.w X.stack H s C none H (.ref a) {s with heap:=h' }:=by
 have hin:∀env∈X.stack,∀b,env.frame=some b->b∈frs X.stack:=λenv he b hb=>List.mem_filterMap.mpr ⟨env,he,hb⟩;obtain⟨t,he,_,_⟩:=hm.there
 have hn:(W.hideAll s.heap (frs X.stack)).get? a=none:=by
  cases q:(W.hideAll s.heap (frs X.stack)).get? a with
  |none=>rfl
  |some o=>have:=W.of_hideAll _ q;rw[hm.new]at this;cases this
 refine⟨rfl,I.bare,Un.kept hm.keeps,I.hok.kept hm.keeps,a,W.hideAll s.heap (frs X.stack),rfl,⟨λb o q=>hm.keeps b o (W.of_hideAll _ q),hn,?_,⟨_,_,_,he,rfl,rfl,rfl,rfl,.inl rfl⟩⟩,?_⟩
 ·exact(W.funFrames_hide I.stack hin).of_keeps λb o hb _=>⟨o,hm.keeps b o hb,rfl⟩
 ·exact⟨λb o q=>by
   obtain⟨u,hu⟩:=(I.hok b o q).there;exact⟨u,W.hideAll_get _ hu λhm=>by rw[I.TL b hm]at q;cases q⟩,λb o q hb=>⟨o,W.hideAll_get _ q hb⟩⟩
end
def zIn(X:Cx)(C:Value)(dx:Option yc)(H':Hp):Prop:=∀U Y H s e s',Inv X U Y H s->sW X.prog X.w X.stack H s C dx H' e s'->X.xe e s'
section
variable {P:yA}{w:yI}{K:yx}{mg:yt->Option Value}{base:yT}{N:List yt}{qual:yt}{scope:Xm}{f:yc}{cd:Value}{A:yK}{outer:List Env}{s:yd}{H H':Hp}{E:XK}{C:Value}{dx:Option yc}
def z7x{X:Cx}{U:List (yc×YT)}{Y:St}{H1:Hp}{s1:yd}{B:yT}(I:Inv X U Y H1 s1)(hs:X.stack=X.env::X.outer)(hf:X.env.frame=some X.env.locals)(hex:X.ex=[])(c:Cov X.stack H' s1.heap B):Cov X.outer H' X.s₀.heap B where
 tr:=c.tr
 old:=λb o q hb=>by
  obtain⟨o1,e1⟩:=I.base.there b o q (by rw[hex];simp);refine c.old b o1 e1 ?_;rw[hs];unfold frs;rw[filterMap_cons,hf];intro hm;rcases List.mem_cons.mp hm with rfl|hm
  ·exact absurd (yz (yk q) I.ok.above) (yU _)
  ·exact hb hm
def zfs(hE:E C dx H'):zIn (zRs (CXq P w) P w K mg base N qual scope f cd A outer s H E) C dx H':=by
 intro U Y H1 s1 e s' I F;have hf:(envOfC qual scope s.heap.objs.size f cd).frame=some (envOfC qual scope s.heap.objs.size f cd).locals:=rfl;obtain⟨a,B,rfl,fl,c⟩:=F.fly;refine zit I.ok.frames hf fl λh'' fl' sm=>?_;have δ:Inv (zRs (CXq P w) P w K mg base N qual scope f cd A outer s H E) U Y H' {s' with heap:=h'' }:=I.fly F c fl.st fl'.st sm;exact⟨C,dx,H',⟨δ.os,δ.bare,δ.base,δ.hok,a,B,rfl,fl',z7x (X:=zRs (CXq P w) P w K mg base N qual scope f cd A outer s H E) I rfl rfl rfl c⟩,hE⟩
end
end L2
namespace M
open PySem PySem.Spec PyProof.Rows L2
inductive D where
 |non|bl (b:Bool)|int (i:Int)|str (x:yt)|ty (n:String)
  |tup (ds:List D)
  |fz (ds:List D)
  |loc (n:Nat)
  |own (c:yt)
inductive tE where
 |lst (ds:List D)
  |dct (kvs:List (Int×D))
  |dcf (kvs:List (Int×D))
  |exc (c:yt) (fs:List (yt×D))
  |ins (c:yt) (fs:List (yt×D))
abbrev Mem:=List tE
def zYr(a C:yc)(dx:Option yc):yT->Prop:=λh=>∃o vs,h.get? a=some o/\o.cls=.ref C/\o.dict=dx/\o.data=.fields vs
abbrev Loc:=List (Option D)
section
variable (K:yx)
def FzL(H:Hp)(a:yc)(vs:List V):Prop :=
 (∃o,H a=some (.frz o (.lst vs)))\/∃(o:YT)(its:Array Value)(n:Nat),K.lookup a=some o/\o.cls=.type "list"/\o.dict=none/\o.data=.seq its n/\its.size<=yD/\Vals vs its.toList
mutual
def tx(Z:List yc)(H:Hp):D->V->Prop
 |.non,v=>v=.non
 |.bl b,v=>v=.bl b
 |.int i,v=>v=.int i
 |.str x,v=>v=.str x
 |.ty n,v=>v=.ty n
 |.tup ds,v=>∃a vs,v=.ref a/\H a=some (.tup vs)/\tf Z H ds vs
 |.fz ds,v=>∃a vs,v=.ref a/\FzL K H a vs/\tf Z H ds vs
 |.loc n,v=>∃a,v=.ref a/\Z[n]?=some a
 |.own c,v=>∃a,v=.ref a/\Yk K yo c=some (some (.ref a))
def tf(Z:List yc)(H:Hp):List D->List V->Prop
 |[],vs=>vs=[]
 |d::ds,vs=>∃v r,vs=v::r/\tx Z H d v/\tf Z H ds r
end
def Sg(Z:List yc)(H:Hp)(fs:List (yt×D))(dx:Option yc):Prop:=(fs=[]/\dx=none)\/∃p vs,dx=some p/\H p=some (.xd vs)/\vs.map (·.1)=fs.map (·.1)/\tf K Z H (fs.map (·.2)) (vs.map (·.2))
def Si(Z:List yc)(H:Hp)(a:yc):tE->Prop
 |.lst ds=>∃vs,H a=some (.lst vs)/\tf K Z H ds vs
 |.dct kvs=>∃vs,H a=some (.dK vs)/\vs.map (·.1)=kvs.map (λp=>yP p.1)/\tf K Z H (kvs.map (·.2)) (vs.map (·.2))
 |.dcf kvs=>∃o vs,H a=some (.frz o (.dK vs))/\vs.map (·.1)=kvs.map (λp=>yP p.1)/\tf K Z H (kvs.map (·.2)) (vs.map (·.2))
 |.exc c fs=>∃C dx,Yk K yo c=some (some (.ref C))/\H a=some (.ext (zYr a C dx))/\Sg K Z H fs dx
 |.ins c fs=>∃C dx vs,Yk K yo c=some (some (.ref C))/\H a=some (.ins C dx vs)/\vs.map (·.1)=fs.map (·.1)/\tf K Z H (fs.map (·.2)) (vs.map (·.2))
structure tI(Z:List yc)(H:Hp)(O:Mem):Prop where
 nd:Z.Nodup
 len:Z.length=O.length
 at_:∀(n:Nat) a o,Z[n]?=some a->O[n]?=some o->Si K Z H a o
structure Ext(Z:List yc)(H:Hp)(Z':List yc)(H':Hp):Prop where
 pre:∃more,Z'=Z++more
 tup:∀a vs,H a=some (.tup vs)->H' a=some (.tup vs)
 frz:∀a o u,H a=some (.frz o u)->H' a=some (.frz o u)
 xd:∀a fs,H a=some (.xd fs)->H' a=some (.xd fs)
def Sz(Z:List yc)(H:Hp)(Y:L2.St)(J:Loc):Prop:=∀(i:Nat) d,J[i]?=some (some d)->∃v,Y[i]?=some (some v)/\tx K Z H d v
end
section
variable {K:yx}{Z Z' Z'':List yc}{H H' H'':Hp}{O:Mem}{Y:L2.St}{J:Loc}
def Ext.refl:Ext Z H Z H:=⟨⟨[],by simp⟩,λ_ _ h=>h,λ_ _ _ h=>h,λ_ _ h=>h⟩
def Ext.trans(a:Ext Z H Z' H')(b:Ext Z' H' Z'' H''):Ext Z H Z'' H'':=by
 obtain⟨m,e⟩:=a.pre;obtain⟨m',e'⟩:=b.pre;exact⟨⟨m++m',by rw[e',e,append_assoc]⟩,λ_ _ h=>b.tup _ _ (a.tup _ _ h),λ_ _ _ h=>b.frz _ _ _ (a.frz _ _ _ h),λ_ _ h=>b.xd _ _ (a.xd _ _ h)⟩
def Ext.get(e:Ext Z H Z' H'){n:Nat}{a:yc}(h:Z[n]?=some a):Z'[n]?=some a:=by
 obtain⟨m,e⟩:=e.pre;rw[e,yr (List.getElem?_eq_some_iff.mp h).1];exact h
def Ext.fz(e:Ext Z H Z' H'){a:yc}{vs:List V}(h:FzL K H a vs):FzL K H' a vs:=by
 rcases h with ⟨o,h⟩|h
 ·exact .inl ⟨o,e.frz _ _ _ h⟩
 ·exact .inr h
mutual
def tx.ext(e:Ext Z H Z' H'):∀{d:D} {v:V},tx K Z H d v->tx K Z' H' d v
 |.non,_,h=>by unfold tx at h ⊢;exact h
 |.bl _,_,h=>by unfold tx at h ⊢;exact h
 |.int _,_,h=>by unfold tx at h ⊢;exact h
 |.str _,_,h=>by unfold tx at h ⊢;exact h
 |.ty _,_,h=>by unfold tx at h ⊢;exact h
 |.tup ds,_,h=>by
  unfold tx at h ⊢;obtain⟨a,vs,e1,e2,r⟩:=h;exact⟨a,vs,e1,e.tup _ _ e2,tf.ext e r⟩
 |.fz ds,_,h=>by
  unfold tx at h ⊢;obtain⟨a,vs,e1,e2,r⟩:=h;exact⟨a,vs,e1,e.fz e2,tf.ext e r⟩
 |.loc n,_,h=>by
  unfold tx at h ⊢;obtain⟨a,e1,e2⟩:=h;exact⟨a,e1,e.get e2⟩
 |.own c,_,h=>by unfold tx at h ⊢;exact h
def tf.ext(e:Ext Z H Z' H'):∀{ds:List D} {vs:List V},tf K Z H ds vs->tf K Z' H' ds vs
 |[],_,h=>by unfold tf at h ⊢;exact h
 |d::ds,_,h=>by
  unfold tf at h ⊢;obtain⟨v,r,e1,h1,h2⟩:=h;exact⟨v,r,e1,tx.ext e h1,tf.ext e h2⟩
end
def Sz.ext(e:Ext Z H Z' H')(h:Sz K Z H Y J):Sz K Z' H' Y J:=λi d q=>
 let ⟨v,e1,r⟩:=h i d q
 ⟨v,e1,r.ext e⟩
def tf.length:∀{ds:List D} {vs:List V},tf K Z H ds vs->ds.length=vs.length
 |[],_,h=>by unfold tf at h;subst h;rfl
 |d::ds,_,h=>by
  unfold tf at h;obtain⟨v,r,e1,_,h2⟩:=h;subst e1;have:=tf.length h2;simp[this]
def tf.get:∀{ds:List D} {vs:List V} {i:Nat} {d:D},tf K Z H ds vs->ds[i]?=some d->∃v,vs[i]?=some v/\tx K Z H d v
 |[],_,_,_,_,q=>by simp at q
 |d::ds,_,0,d',h,q=>by
  unfold tf at h;obtain⟨v,r,e1,h1,_⟩:=h;subst e1;simp at q;subst q;exact⟨v,by simp,h1⟩
 |d::ds,_,i+1,d',h,q=>by
  unfold tf at h;obtain⟨v,r,e1,_,h2⟩:=h;subst e1;obtain⟨w,e2,h3⟩:=tf.get (i:=i) h2 (by simpa using q);exact⟨w,by simpa using e2,h3⟩
def tf.cons{d:D}{v:V}{ds:List D}{vs:List V}(h1:tx K Z H d v)(h2:tf K Z H ds vs):tf K Z H (d::ds) (v::vs):=by
 unfold tf;exact⟨v,vs,rfl,h1,h2⟩
def tf.nil:tf K Z H [] []:=by unfold tf;rfl
def tf.cons_inv{d:D}{ds:List D}{vs:List V}(h:tf K Z H (d::ds) vs):∃v r,vs=v::r/\tx K Z H d v/\tf K Z H ds r:=by
 unfold tf at h;exact h
def tf.nil_inv{vs:List V}(h:tf K Z H [] vs):vs=[]:=by unfold tf at h;exact h
def tf.append:∀{ds es:List D} {vs us:List V},tf K Z H ds vs->tf K Z H es us->tf K Z H (ds++es) (vs++us)
 |[],_,_,_,h,q=>by rw[h.nil_inv];exact q
 |d::ds,_,_,_,h,q=>by
  obtain⟨v,r,rfl,h1,h2⟩:=h.cons_inv;exact .cons h1 (tf.append h2 q)
def tf.take:∀{ds:List D} {vs:List V} (n:Nat),tf K Z H ds vs->tf K Z H (ds.take n) (vs.take n)
 |[],_,n,h=>by rw[h.nil_inv];simp[tf.nil]
 |d::ds,_,0,h=>by simp[tf.nil]
 |d::ds,_,n+1,h=>by
  obtain⟨v,r,rfl,h1,h2⟩:=h.cons_inv;simpa using tf.cons h1 (tf.take n h2)
def tf.drop:∀{ds:List D} {vs:List V} (n:Nat),tf K Z H ds vs->tf K Z H (ds.drop n) (vs.drop n)
 |[],_,n,h=>by rw[h.nil_inv];simp[tf.nil]
 |d::ds,_,0,h=>by simpa using h
 |d::ds,_,n+1,h=>by
  obtain⟨v,r,rfl,h1,h2⟩:=h.cons_inv;simpa using tf.drop n h2
def tf.set:∀{ds:List D} {vs:List V} {d:D} {v:V} (n:Nat),tx K Z H d v->tf K Z H ds vs->tf K Z H (ds.set n d) (vs.set n v)
 |[],_,_,_,n,_,h=>by rw[h.nil_inv];simp[tf.nil]
 |d::ds,_,_,_,0,q,h=>by
  obtain⟨v,r,rfl,h1,h2⟩:=h.cons_inv;simpa using tf.cons q h2
 |d::ds,_,_,_,n+1,q,h=>by
  obtain⟨v,r,rfl,h1,h2⟩:=h.cons_inv;simpa using tf.cons h1 (tf.set n q h2)
def tx.int_inv{i:Int}{v:V}(h:tx K Z H (.int i) v):v=.int i:=by unfold tx at h;exact h
def tx.tN{i:Bool}{v:V}(h:tx K Z H (.bl i) v):v=.bl i:=by unfold tx at h;exact h
def tx.tK{v:V}(h:tx K Z H .non v):v=.non:=by unfold tx at h;exact h
def tx.str_inv{x:yt}{v:V}(h:tx K Z H (.str x) v):v=.str x:=by unfold tx at h;exact h
def tx.ty_inv{x:String}{v:V}(h:tx K Z H (.ty x) v):v=.ty x:=by unfold tx at h;exact h
def tx.tT{ds:List D}{v:V}(h:tx K Z H (.tup ds) v):∃a vs,v=.ref a/\H a=some (.tup vs)/\tf K Z H ds vs:=by unfold tx at h;exact h
def tx.sL{ds:List D}{v:V}(h:tx K Z H (.fz ds) v):∃a vs,v=.ref a/\FzL K H a vs/\tf K Z H ds vs:=by unfold tx at h;exact h
def tx.tz{n:Nat}{v:V}(h:tx K Z H (.loc n) v):∃a,v=.ref a/\Z[n]?=some a:=by unfold tx at h;exact h
def tx.int{i:Int}:tx K Z H (.int i) (.int i):=by unfold tx;rfl
def tx.bl{i:Bool}:tx K Z H (.bl i) (.bl i):=by unfold tx;rfl
def tx.non:tx K Z H .non .non:=by unfold tx;rfl
def tx.str{x:yt}:tx K Z H (.str x) (.str x):=by unfold tx;rfl
def tx.ty{x:String}:tx K Z H (.ty x) (.ty x):=by unfold tx;rfl
def tx.tup{ds:List D}{a:yc}{vs:List V}(e:H a=some (.tup vs))(h:tf K Z H ds vs):tx K Z H (.tup ds) (.ref a):=by unfold tx;exact⟨a,vs,rfl,e,h⟩
def tx.fz{ds:List D}{a:yc}{vs:List V}(e:FzL K H a vs)(h:tf K Z H ds vs):tx K Z H (.fz ds) (.ref a):=by unfold tx;exact⟨a,vs,rfl,e,h⟩
def tx.loc{n:Nat}{a:yc}(e:Z[n]?=some a):tx K Z H (.loc n) (.ref a):=by unfold tx;exact⟨a,rfl,e⟩
def FzL.sq{a:yc}{vs:List V}(h:FzL K H a vs):SqL K H a vs:=by
 rcases h with h|h
 ·exact .inl (.inr h)
 ·exact .inr h
def Si.some{a:yc}{o:tE}(h:Si K Z H a o):∃u,H a=some u:=by
 cases o with
 |lst ds=>obtain⟨vs,e,_⟩:=h;exact⟨_,e⟩
 |dct kvs=>obtain⟨vs,e,_⟩:=h;exact⟨_,e⟩
 |dcf kvs=>obtain⟨o,vs,e,_⟩:=h;exact⟨_,e⟩
 |exc c fs=>obtain⟨C,dx,_,e,_⟩:=h;exact⟨_,e⟩
 |ins c fs=>obtain⟨C,dx,vs,_,e,_⟩:=h;exact⟨_,e⟩
def tI.mem_some(R:tI K Z H O){a:yc}(h:a∈Z):∃u,H a=some u:=by
 obtain⟨n,h1,e⟩:=List.mem_iff_getElem.mp h;have h2:n<O.length:=by rw[<-R.len];exact h1
 exact(R.at_ n a O[n] (by rw[yq h1,e]) (by simp[h2])).some
def Sg.ext{fs:List (yt×D)}{dx:Option yc}(e:Ext Z H Z' H')(h:Sg K Z H fs dx):Sg K Z' H' fs dx:=by
 rcases h with h|⟨p,vs,e1,e2,e3,r⟩
 ·exact .inl h
 ·exact .inr ⟨p,vs,e1,e.xd _ _ e2,e3,r.ext e⟩
def Si.ext{a:yc}{o:tE}(e:Ext Z H Z' H')(h:Si K Z H a o)(s:H' a=H a):Si K Z' H' a o:=by
 cases o with
 |lst ds=>obtain⟨vs,q,r⟩:=h;exact⟨vs,s.trans q,r.ext e⟩
 |dct kvs=>obtain⟨vs,q,q2,r⟩:=h;exact⟨vs,s.trans q,q2,r.ext e⟩
 |dcf kvs=>obtain⟨o,vs,q,q2,r⟩:=h;exact⟨o,vs,s.trans q,q2,r.ext e⟩
 |exc c fs=>obtain⟨C,dx,n,q,r⟩:=h;exact⟨C,dx,n,s.trans q,r.ext e⟩
 |ins c fs=>obtain⟨C,dx,vs,n,q,q2,r⟩:=h;exact⟨C,dx,vs,n,s.trans q,q2,r.ext e⟩
def Ext.new{p:yc}{o:HO}(hp:H p=none):Ext Z H Z (upd H p o) :=
 ⟨⟨[],by simp⟩,λa vs e=>by rw[zL (zI e hp)];exact e,λa o u e=>by rw[zL (zI e hp)];exact e,λa fs e=>by rw[zL (zI e hp)];exact e⟩
def tI.other(R:tI K Z H O)(e:Ext Z H Z H')(s:∀a∈Z,H' a=H a):tI K Z H' O :=
 ⟨R.nd,R.len,λn a o h1 h2=>(R.at_ n a o h1 h2).ext e (s a (mem_of_getElem? h1))⟩
def tI.Tx(R:tI K Z H O){p:yc}{o:HO}(hp:H p=none):tI K Z (upd H p o) O :=
 R.other (Ext.new hp) λa ha=>by
  obtain⟨u,e⟩:=R.mem_some ha;exact zL (zI e hp)
def Ext.push{p:yc}{o:HO}(hp:H p=none):Ext Z H (Z++[p]) (upd H p o) :=
 ⟨⟨[p],rfl⟩,(Ext.new (Z:=Z) hp).tup,(Ext.new (Z:=Z) hp).frz,(Ext.new (Z:=Z) hp).xd⟩
def tI.push(R:tI K Z H O){p:yc}{o:HO}{lo:tE}(hp:H p=none)(h:Si K (Z++[p]) (upd H p o) p lo):tI K (Z++[p]) (upd H p o) (O++[lo]):=by
 refine⟨?_,by simp[R.len],λn a u h1 h2=>?_⟩
 ·rw[nodup_append];refine⟨R.nd,by simp,λa ha b hb=>?_⟩;simp at hb;subst hb;obtain⟨u,e⟩:=R.mem_some ha;exact zI e hp
 ·by_cases hn:n<Z.length
  ·rw[yr hn]at h1;rw[yr (by rw[<-R.len];exact hn)]at h2;have q:=R.at_ n a u h1 h2;obtain⟨z,e⟩:=q.some;exact q.ext (Ext.push hp) (zL (zI e hp))
  ·have hl:n<(Z++[p]).length:=(List.getElem?_eq_some_iff.mp h1).1;have e:n=Z.length:=by simp at hl;omega
   subst e;rw[yM (yi _)]at h1;rw[R.len,yM (yi _)]at h2;simp at h1 h2;subst h1 h2;exact h
def zzb{p:yc}(R:tI K Z H O):(Z++[p])[O.length]?=some p:=by
 rw[<-R.len];simp
def Ext.wr{p:yc}{o:HO}(hm:Mut (H p)):Ext Z H Z (upd H p o) :=
 ⟨⟨[],by simp⟩,λa vs e=>by rw[zL (by rintro rfl;rw[e]at hm;exact hm)];exact e,λa o u e=>by rw[zL (by rintro rfl;rw[e]at hm;exact hm)];exact e,λa fs e=>by rw[zL (by rintro rfl;rw[e]at hm;exact hm)];exact e⟩
def tI.wr(R:tI K Z H O){n:Nat}{p:yc}{o:HO}{lo:tE}(hm:Mut (H p))(hn:Z[n]?=some p)(h:Si K Z (upd H p o) p lo):tI K Z (upd H p o) (O.set n lo):=by
 have hlt:=(List.getElem?_eq_some_iff.mp hn).1;refine⟨R.nd,by simp[R.len],λm a u h1 h2=>?_⟩
 by_cases hmn:m=n
 ·subst hmn;rw[hn]at h1;cases h1;rw[yO (by rw[<-R.len];exact hlt)]at h2;cases h2;exact h
 ·rw[yL (yV hmn)]at h2
  have hap:a≠p:=by
   rintro rfl;obtain⟨x1,y1⟩:=List.getElem?_eq_some_iff.mp h1;obtain⟨x2,y2⟩:=List.getElem?_eq_some_iff.mp hn;exact hmn ((List.getElem_inj R.nd).mp (y1.trans y2.symm))
  exact(R.at_ m a u h1 h2).ext (Ext.wr hm) (zL hap)
end
abbrev FE:=Loc->Mem->Option (D×Mem)
abbrev FT:=Loc->Mem->Option (Bool×Mem)
abbrev FA:=Loc->Mem->Option (List D×Mem)
inductive Out where
 |next (J:Loc) (O:Mem)|ret (d:D) (O:Mem)|brk (J:Loc) (O:Mem)|cont (J:Loc) (O:Mem)
  |exc (c:yt) (fs:List (yt×D)) (O:Mem)
abbrev FS:=Loc->Mem->Option Out
section
variable (K:yx)
structure At(Z:List yc)(H:Hp)(Y:L2.St)(J:Loc)(O:Mem):Prop where
 st:Sz K Z H Y J
 hp:tI K Z H O
 len:Y.length=J.length
def tM(G:FE):TE:=λY H Q=>∃Z J O d O',At K Z H Y J O/\G J O=some (d,O')/\∀Z' H' v,Ext Z H Z' H'->tI K Z' H' O'->tx K Z' H' d v->Q v H'
def tMT(G:FT):TT:=λY H Q=>∃Z J O b O',At K Z H Y J O/\G J O=some (b,O')/\∀Z' H',Ext Z H Z' H'->tI K Z' H' O'->Q b H'
def tMA(G:FA):TA:=λY H Q=>∃Z J O ds O',At K Z H Y J O/\G J O=some (ds,O')/\∀Z' H' vs,Ext Z H Z' H'->tI K Z' H' O'->tf K Z' H' ds vs->Q vs H'
def sM(W:XK)(Z:List yc)(H:Hp)(E:Ends):Out->Prop
 |.next J' O'=>∀Z' Y' H',Ext Z H Z' H'->At K Z' H' Y' J' O'->E.nx Y' H'
 |.brk J' O'=>∀Z' Y' H',Ext Z H Z' H'->At K Z' H' Y' J' O'->E.bk Y' H'
 |.cont J' O'=>∀Z' Y' H',Ext Z H Z' H'->At K Z' H' Y' J' O'->E.ct Y' H'
 |.ret d O'=>∀Z' v H',Ext Z H Z' H'->tI K Z' H' O'->tx K Z' H' d v->E.rt v H'
 |.exc c fs O'=>∀Z' H' C dx,PySem.W.nsIn K yo c=some (some (.ref C))->Ext Z H Z' H'->tI K Z' H' O'->Sg K Z' H' fs dx->W (.ref C) dx H'
def tMS(W:XK)(ψ:FS):TS:=λE Y H=>∃Z J O o,At K Z H Y J O/\ψ J O=some o/\sM K W Z H E o
end
def ME(X:Cx)(e:yE)(G:FE):Prop:=PE X e (tM X.K G)
def MT(X:Cx)(e:yE)(G:FT):Prop:=PT X e (tMT X.K G)
def MW(X:Cx)(e:yE)(G:FT):Prop:=PW X e (tMT X.K G)
def MA(X:Cx)(es:List yE)(G:FA):Prop:=PA X es (tMA X.K G)
def MS(X:Cx)(st:Yb)(ψ:FS):Prop:=PS X st (tMS X.K (zIn X) ψ)
def MSs(X:Cx)(st:List Yb)(ψ:FS):Prop:=PSs X st (tMS X.K (zIn X) ψ)
abbrev FF:=List D->Mem->Option (D×Mem)
def spM(K:yx)(n:Nat)(F:FF):Sp:=λvs H Q _=>vs.length=n/\∃Z ds O d O',tf K Z H ds vs/\tI K Z H O/\F ds O=some (d,O')/\∀Z' H' v,Ext Z H Z' H'->tI K Z' H' O'->tx K Z' H' d v->Q v H'
def At.ext{K:yx}{Z Z':List yc}{H H':Hp}{Y:L2.St}{J:Loc}{O O':Mem}(a:At K Z H Y J O)(e:Ext Z H Z' H')(R:tI K Z' H' O'):At K Z' H' Y J O':=⟨a.st.ext e,R,a.len⟩
def zfe{X:Cx}{e:yE}{t:TE}{G:FE}(h:PE X e t)(w:∀Z J O Y H d O' Q,At X.K Z H Y J O->G J O=some (d,O')->(∀Z' H' v,Ext Z H Z' H'->tI X.K Z' H' O'->tx X.K Z' H' d v->Q v H')->t Y H Q):ME X e G :=
 by intro U s Y H Q I hh;obtain⟨Z,J,O,d,O',a,e,k⟩:=hh;exact h U s Y H Q I (w Z J O Y H d O' Q a e k)
def zly{X:Cx}{e:yE}{t:TT}{G:FT}(h:PT X e t)(w:∀Z J O Y H b O' Q,At X.K Z H Y J O->G J O=some (b,O')->(∀Z' H',Ext Z H Z' H'->tI X.K Z' H' O'->Q b H')->t Y H Q):MT X e G :=
 by intro U s Y H Q I hh;obtain⟨Z,J,O,d,O',a,e,k⟩:=hh;exact h U s Y H Q I (w Z J O Y H d O' Q a e k)
def z1z{X:Cx}{e:yE}{t:TT}{G:FT}(h:PW X e t)(w:∀Z J O Y H b O' Q,At X.K Z H Y J O->G J O=some (b,O')->(∀Z' H',Ext Z H Z' H'->tI X.K Z' H' O'->Q b H')->t Y H Q):MW X e G :=
 λwh U s Y H Q I ⟨Z,J,O,d,O',a,e,k⟩=>h wh U s Y H Q I (w Z J O Y H d O' Q a e k)
def zpz{X:Cx}{e:List yE}{t:TA}{G:FA}(h:PA X e t)(w:∀Z J O Y H ds O' Q,At X.K Z H Y J O->G J O=some (ds,O')->(∀Z' H' vs,Ext Z H Z' H'->tI X.K Z' H' O'->tf X.K Z' H' ds vs->Q vs H')->t Y H Q):MA X e G :=
 λpos U s Y H Q I ⟨Z,J,O,d,O',a,e,k⟩=>h pos U s Y H Q I (w Z J O Y H d O' Q a e k)
def zQk{X:Cx}{e:Yb}{t:TS}{ψ:FS}(h:PS X e t)(w:∀Z J O Y H o E,At X.K Z H Y J O->ψ J O=some o->sM X.K (zIn X) Z H E o->t E Y H):MS X e ψ :=
 by intro U s Y H E I hh;obtain⟨Z,J,O,o,a,e,k⟩:=hh;exact h U s Y H E I (w Z J O Y H o E a e k)
def zex{X:Cx}{e:List Yb}{t:TS}{ψ:FS}(h:PSs X e t)(w:∀Z J O Y H o E,At X.K Z H Y J O->ψ J O=some o->sM X.K (zIn X) Z H E o->t E Y H):MSs X e ψ :=
 by intro U s Y H E I hh;obtain⟨Z,J,O,o,a,e,k⟩:=hh;exact h U s Y H E I (w Z J O Y H o E a e k)
end M
namespace M
open PySem PySem.Spec PyProof.Rows L2
def zi{α β:Type}{o:Option α}{f:α->Option β}{b:β}(h:o.bind f=some b):∃a,o=some a/\f a=some b:=by
 cases o with
 |none=>cases h
 |some a=>exact⟨a,rfl,h⟩
section
variable {X:Cx}{a b c e:yE}{es:List yE}{G ψ χ:FE}{pos:xp}
@[simp] def zm(i:Nat):FE:=λJ O=>match J[i]? with
 |some (some d)=>some (d,O)
 |_=>none
@[simp] def fC(d:D):FE:=λ_ O=>some (d,O)
def zfA{i:Nat}{x:yt}(h:PE X (.Name x pos) (zRB i)):ME X (.Name x pos) (zm i) :=
 zfe h λZ J O Y H d O' Q A e k=>by
  unfold zm at e
  split at e
  ·rename_i d' hd
   cases e;obtain⟨v,hv,r⟩:=A.st i _ hd;exact⟨v,hv,k Z H v Ext.refl A.hp r⟩
  ·cases e
def zdz{v:V}{d:D}(h:PE X e (tC v))(r:∀Z H,tx X.K Z H d v):ME X e (fC d) :=
 zfe h λZ J O Y H d' O' Q A e k=>by
  cases e;exact k Z H v Ext.refl A.hp (r Z H)
def zu{i j}:ME X (.Constant (.int i) j pos) (fC (.int i)):=zdz zMA λ_ _ =>.int
def zYh{i j}:ME X (.Constant (.bool i) j pos) (fC (.bl i)):=zdz zTB λ_ _ =>.bl
def zlf{j}:ME X (.Constant .none j pos) (fC .non):=zdz zBA λ_ _ =>.non
def zdg{x j}:ME X (.Constant (.str x) j pos) (fC (.str x)):=zdz zuA λ_ _ =>.str
def mv(i:Nat){x:yt}(hN:X.N[i]?=some x:=by rfl)(hv:Vis X.env.scope x:=by first|exact Or.inl rfl|exact Or.inr (Or.inl rfl)|exact Or.inr (Or.inr rfl))(hd:(x==("__debug__":yt))=false:=by decide)
 (hcd:(x==("__classdict__":yt))=false:=by decide):ME X (.Name x pos) (zm i):=zfA (zQw hN hv hd hcd)
def zVt{x:yt}{i:Int}(hm:∃t,X.mg x=some (.int i t))(hg:Gl X x:=by rfl)(hd:(x==("__debug__":yt))=false:=by decide):ME X (.Name x pos) (fC (.int i)) :=
 let ⟨t,ht⟩:=hm
 zdz (zwy (v:=V.int i) hg ht ⟨t,rfl⟩ hd) λ_ _ =>.int
def zzr{x:yt}{T:String}(hm:X.mg x=none)(hb:yJ x=some (.type T))(hg:Gl X x:=by rfl)(hn:x≠"__name__":=by decide)(hd:(x==("__debug__":yt))=false:=by decide):ME X (.Name x pos) (fC (.ty T)) :=
 zdz (zAy (v:=V.ty T) hg hm hb (show L2.RelV (V.ty T) (Yv T) from rfl) hn hd) λ_ _ =>.ty
abbrev φ2:=D->D->Mem->Option (D×Mem)
def rM(K:yx)(g:φ2):R2:=λx y H Q=>∃Z dx dy O d O',tx K Z H dx x/\tx K Z H dy y/\tI K Z H O/\g dx dy O=some (d,O')/\∀Z' H' v,Ext Z H Z' H'->tI K Z' H' O'->tx K Z' H' d v->Q v H'
def OpM(X:Cx)(f:Value->Value->Sem Value)(g:φ2):Prop:=OpR X f (rM X.K g)
def OpM.of{X:Cx}{f:Value->Value->Sem Value}{g:φ2}(h:∀(U:List (yc×YT)) (s:yd) (Y:L2.St) (H:Hp) (x y:V) (v u:Value) (Q:VK),Inv X U Y H s->RelV x v->RelV y u->∀(Z:List yc)(dx dy:D)(O:Mem)(d:D)(O':Mem),tx X.K Z H dx x->tx X.K Z H dy y->tI X.K Z H O->g dx dy O=some (d,O')->(∀Z' H' v,Ext Z H Z' H'->tI X.K Z' H' O'->tx X.K Z' H' d v->Q v H')->yn (yv X.prog X.w) X.A (f v u) (EP X U Y Q) X.xe s):OpM X f g:=by
 intro U s Y H x y v u Q I rx ry hh;obtain⟨Z,dx,dy,O,d,O',r1,r2,R,e,k⟩:=hh;exact h U s Y H x y v u Q I rx ry Z dx dy O d O' r1 r2 R e k
@[simp] def zH(g:φ2)(G ψ:FE):FE:=λJ O=>(G J O).bind λp=>(ψ J p.2).bind λq=>g p.1 q.1 q.2
def z1u{g:φ2}{Z:List yc}{J:Loc}{O:Mem}{Y:L2.St}{H:Hp}{d:D}{O':Mem}{Q:VK}(A:At X.K Z H Y J O)(e:zH g G ψ J O=some (d,O'))
 (k:∀Z' H' v,Ext Z H Z' H'->tI X.K Z' H' O'->tx X.K Z' H' d v->Q v H'):tOp (rM X.K g) (tM X.K G) (tM X.K ψ) Y H Q:=by
 obtain⟨⟨x,O1⟩,e1,e⟩:=zi e;obtain⟨⟨y,O2⟩,e2,e⟩:=zi e;refine⟨Z,J,O,x,O1,A,e1,λZ1 H1 v x1 R1 r1=>?_⟩;refine⟨Z1,J,O1,y,O2,A.ext x1 R1,e2,λZ2 H2 u x2 R2 r2=>?_⟩;exact⟨Z2,x,y,O2,d,O',r1.ext x2,r2,R2,e,λZ3 H3 w x3 R3 r3=>k Z3 H3 w (x1.trans (x2.trans x3)) R3 r3⟩
def zmb{op:Operator}{g:φ2}(ho:OpM X (xw op) g)(ha:ME X a G)(hb:ME X b ψ):ME X (.BinOp a op b pos) (zH g G ψ) :=
 zfe (zaB ho ha hb) λ_ _ _ _ _ _ _ _ A e k=>z1u A e k
def z8f{op:CmpOp}{g:φ2}(ho:OpM X (Yx op) g)(ha:ME X a G)(hb:ME X b ψ)(hm:behindInMarks op b=false:=by first|exact Sd _ (by decide) (by decide)|rfl|with_unfolding_all rfl):ME X (.Compare a [op] [b] pos) (zH g G ψ) :=
 zfe (zQx ho ha hb hm) λ_ _ _ _ _ _ _ _ A e k=>z1u A e k
@[simp] def z8(G:FE):FT:=λJ O=>(G J O).bind λp=>match p.1 with
 |.bl b=>some (b,p.2)
 |_=>none
def zXq{J:Loc}{O O':Mem}{b:Bool}(h:z8 G J O=some (b,O')):G J O=some (.bl b,O'):=by
 obtain⟨⟨x,O1⟩,e1,e⟩:=zi h;dsimp only at e
 split at e
 ·cases e;exact e1
 ·cases e
def zZ{op:CmpOp}{g:φ2}(ho:OpM X (Yx op) g)(ha:ME X a G)(hb:ME X b ψ)(hm:behindInMarks op b=false:=by first|exact Sd _ (by decide) (by decide)|rfl|with_unfolding_all rfl):MT X (.Compare a [op] [b] pos) (z8 (zH g G ψ)) :=
 zly (z5x ho ha hb hm) λZ J O Y H b O' Q A e k=>z1u (Q:=λx H'=>∃k,x=.bl k/\Q k H') A (zXq e) λZ' H' v x R r=>⟨b,r.tN,k Z' H' x R⟩
@[simp] def z2h:φ2:=λx y O=>match x,y with
 |.int i,.int j=>some (.int (i+j),O)
 |.tup as,.tup bs=>bif decide (as.length+bs.length<=1000000) then some (.tup (as++bs),O) else none
 |.loc l,.loc m=>match O[l]?,O[m]? with
  |some (.lst as),some (.lst bs)=>bif decide (as.length+bs.length<=1000000) then some (.loc O.length,O++[.lst (as++bs)]) else none
  |_,_=>none
 |_,_=>none
@[simp] def zVs:φ2:=λx y O=>match x,y with
 |.int i,.int j=>some (.int (i-j),O)
 |_,_=>none
def zZh(i j:Int):Bool:=decide (-(2^64)<i/\i<2^64)||decide (-(2^64)<j/\j<2^64)||(decide (i.natAbs<2^1000)&&decide (j.natAbs<2^1000))
def zmw{i j:Int}(h:zZh i j=true):IntMulOk i j:=by
 unfold zZh at h;rw[Bool.or_eq_true,Bool.or_eq_true,yH]at h;rcases h with (h|h)|⟨h1,h2⟩
 ·have h:=of_decide_eq_true h;exact .of_left (intBits_le_64 h.1 h.2)
 ·have h:=of_decide_eq_true h;exact .of_right (intBits_le_64 h.1 h.2)
 ·exact .of_le (m:=1000) (n:=1000) (intBits_le (of_decide_eq_true h1)) (intBits_le (of_decide_eq_true h2)) (by decide)
def zik:φ2:=λx y O=>match x,y with
 |.int i,.int j=>bif zZh i j then some (.int (i*j),O) else none
 |.tup ds,.int n=>bif decide (2<=n/\n<=1000/\0<ds.length/\ds.length<=1000) then some (.tup (yC n.toNat ds).flatten,O) else none
 |.loc l,.int n=>match O[l]? with
  |some (.lst ds)=>bif decide (n<=1000/\-(2^62)<=n/\ds.length<=1000) then some (.loc O.length,O++[.lst (yC n.toNat ds).flatten]) else none
  |_=>none
 |_,_=>none
@[simp] def zon:φ2:=λx y O=>match x,y with
 |.int i,.int j=>bif decide (0<j) then some (.int (i%j),O) else none
 |_,_=>none
@[simp] def z2y:φ2:=λx y O=>match x,y with
 |.int i,.int j=>bif decide (0<j/\j<1606938044258990275541962092341162602522202993782792835301376) then some (.int (i / j),O) else none
 |_,_=>none
def zhz:φ2:=λx y O=>match x,y with
 |.int i,.int j=>bif decide (0<=j/\j<=100000/\i.natAbs<1606938044258990275541962092341162602522202993782792835301376) then some (.int (i^j.toNat),O) else none
 |_,_=>none
def zW{α:Type}{c:Bool}{o:Option α}{x:α}(h:(bif c then o else none)=some x):c=true/\o=some x:=by
 cases c with
 |true=>exact⟨rfl,h⟩
 |false=>cases h
def zko{f:Value->Value->Sem Value}{g:φ2}{C:Int->Int->Prop}{h:Int->Int->Int}(o:OpR X f (rI C λi j =>.int (h i j)))
 (w:∀x y O d O',g x y O=some (d,O')->∃i j,x=.int i/\y=.int j/\C i j/\d=.int (h i j)/\O'=O):OpM X f g:=by
 refine OpM.of λU s Y H x y v u Q I rx ry Z dx dy O d O' r1 r2 R e k=>?_;obtain⟨i,j,rfl,rfl,hc,rfl,rfl⟩:=w _ _ _ _ _ e;refine o U s Y H x y v u Q I rx ry ⟨i,j,r1.int_inv,r2.int_inv,hc,?_⟩;exact k Z H _ Ext.refl R .int
def zJj:OpM X (xw .Sub) zVs:=zko (C:=λ_ _=>True) (h:=λi j=>i-j) (opI λ_ _ _ _ _ _ _ _ q=>sub_int q) λx y O d O' e=>by
 unfold zVs at e
 split at e
 ·cases e;exact⟨_,_,rfl,rfl,trivial,rfl,rfl⟩
 ·cases e
def zSd:OpM X (xw .Mod) zon:=zko (h:=λi j=>i%j) zOA λx y O d O' e=>by
 unfold zon at e
 split at e
 ·obtain⟨h1,e⟩:=zW e;cases e;have h2:=of_decide_eq_true h1;exact⟨_,_,rfl,rfl,h2,rfl,rfl⟩
 ·cases e
def zlz(i j:Int):Prop:=0<j/\j<1606938044258990275541962092341162602522202993782792835301376
def zQv:OpR X (xw .FloorDiv) (rI zlz λi j =>.int (i / j)):=opI λi j _ _ _ _ _ hc q=>by
 have h1:(0:Int)<j:=hc.1;have h2:j<1606938044258990275541962092341162602522202993782792835301376:=hc.2;refine floordiv_int (by omega) (by rw[Int.fdiv_eq_ediv_of_nonneg i (by omega)];exact q) (.inl (PyProof.noPylong_of_log2 ?_));have:j.natAbs.log2<200:=(Nat.log2_lt (by omega)).mpr (by rw[show 2^200=1606938044258990275541962092341162602522202993782792835301376 from rfl];omega);omega
def zjq:OpM X (xw .FloorDiv) z2y:=zko (C:=zlz) (h:=λi j=>i / j) zQv λx y O d O' e=>by
 unfold z2y at e
 split at e
 ·obtain⟨h1,e⟩:=zW e;cases e;have h2:=of_decide_eq_true h1;exact⟨_,_,rfl,rfl,h2,rfl,rfl⟩
 ·cases e
def zHA(i j:Int):Prop:=0<=j/\j<=100000/\i.natAbs<1606938044258990275541962092341162602522202993782792835301376
def zyx:OpR X (xw .Pow) (rI zHA λi j =>.int (i^j.toNat)):=opI λi j _ _ _ _ _ hc q=>by
 refine pow_int hc.1 ?_ q;have hb:Builtin.Int.intBits i<=200:=intBits_le (by rw[show 2^200=1606938044258990275541962092341162602522202993782792835301376 from rfl];exact hc.2.2);have h2:=hc.2.1;have h1:=hc.1
 calc (Builtin.Int.intBits i:Int)*j<=200*100000:=Int.mul_le_mul (by omega) h2 h1 (by omega)
  _<=2^27:=by decide
def zWy:OpM X (xw .Pow) zhz:=zko (C:=zHA) (h:=λi j=>i^j.toNat) zyx λx y O d O' e=>by
 unfold zhz at e
 split at e
 ·obtain⟨h1,e⟩:=zW e;cases e;have h2:=of_decide_eq_true h1;exact⟨_,_,rfl,rfl,h2,rfl,rfl⟩
 ·cases e
@[simp] def zFm(p:Int->Int->Bool):φ2:=λx y O=>match x,y with
 |.int i,.int j=>some (.bl (p i j),O)
 |_,_=>none
def zAq{f:Value->Value->Sem Value}{p:Int->Int->Bool}(o:OpR X f (rI0 λi j =>.bl (p i j))):OpM X f (zFm p):=by
 refine OpM.of λU s Y H x y v u Q I rx ry Z dx dy O d O' r1 r2 R e k=>?_;unfold zFm at e
 split at e
 ·cases e;exact o U s Y H x y v u Q I rx ry ⟨_,_,r1.int_inv,r2.int_inv,k Z H _ Ext.refl R .bl⟩
 ·cases e
def zSi:OpM X (Yx .Lt) (zFm λi j=>decide (i<j)):=zAq zJB
def z5q:OpM X (Yx .Gt) (zFm λi j=>decide (j<i)):=zAq ziB
def zkA:OpM X (Yx .GtE) (zFm λi j=>decide (j<=i)):=zAq zLB
@[simp] def z0A(G ψ:FE):FE:=λJ O=>(G J O).bind λp=>match p.1 with
 |.bl true=>ψ J p.2
 |.bl false=>some (.bl false,p.2)
 |_=>none
@[simp] def fOr(G ψ:FE):FE:=λJ O=>(G J O).bind λp=>match p.1 with
 |.bl false=>ψ J p.2
 |.bl true=>some (.bl true,p.2)
 |_=>none
@[simp] def zzC(G:FE):FE:=λJ O=>(G J O).bind λp=>match p.1 with
 |.bl b=>some (.bl (!b),p.2)
 |_=>none
def zOw{op}(h:ME X a G):ME X (.BoolOp op [a] pos) G:=zyA h
def z8w{rest:List yE}(ha:ME X a G)(hb:ME X (.BoolOp .And (b::rest) pos) ψ):ME X (.BoolOp .And (a::b::rest) pos) (z0A G ψ) :=
 zfe (zmA ha hb) λZ J O Y H d O' Q A e k=>by
  obtain⟨⟨x,O1⟩,e1,e⟩:=zi e;refine⟨Z,J,O,x,O1,A,e1,λZ1 H1 v x1 R1 r1=>?_⟩;dsimp only at e
  split at e
  ·exact⟨true,r1.tN,Sr ⟨Z1,J,O1,d,O',A.ext x1 R1,e,λZ2 H2 w x2 R2 r2=>k Z2 H2 w (x1.trans x2) R2 r2⟩⟩
  ·cases e;exact⟨false,r1.tN,Sq (k Z1 H1 _ x1 R1 .bl)⟩
  ·cases e
def zGB{rest:List yE}(ha:ME X a G)(hb:ME X (.BoolOp .Or (b::rest) pos) ψ):ME X (.BoolOp .Or (a::b::rest) pos) (fOr G ψ) :=
 zfe (zNB ha hb) λZ J O Y H d O' Q A e k=>by
  obtain⟨⟨x,O1⟩,e1,e⟩:=zi e;refine⟨Z,J,O,x,O1,A,e1,λZ1 H1 v x1 R1 r1=>?_⟩;dsimp only at e
  split at e
  ·exact⟨false,r1.tN,Sq ⟨Z1,J,O1,d,O',A.ext x1 R1,e,λZ2 H2 w x2 R2 r2=>k Z2 H2 w (x1.trans x2) R2 r2⟩⟩
  ·cases e;exact⟨true,r1.tN,Sr (k Z1 H1 _ x1 R1 .bl)⟩
  ·cases e
@[simp] def zNt(G ψ:FT):FT:=λJ O=>(G J O).bind λp=>bif p.1 then ψ J p.2 else some (false,p.2)
@[simp] def zlq(G ψ:FT):FT:=λJ O=>(G J O).bind λp=>bif p.1 then some (true,p.2) else ψ J p.2
@[simp] def zHl(G:FT):FT:=λJ O=>(G J O).bind λp=>some (!p.1,p.2)
def zVd{G:FE}(h:ME X a G)(he:∀whole,isTrue a X.env whole=(do let v <-whole;standAt a.pos;xt [v] (truthy v)):=by intro _;rfl):MT X a (z8 G) :=
 zly (zrz h he) λZ J O Y H b O' Q A e k=>⟨Z,J,O,.bl b,O',A,zXq e,λZ' H' v x R r=>⟨b,r.tN,k Z' H' x R⟩⟩
def MW.mt{G:FT}(h:MW X a G):MT X a G:=h _
def zEq{G:FT}(h:MT X a G):MW X (.BoolOp .And [a] pos) G:=zky h
def zPg{G:FT}(h:MT X a G):MW X (.BoolOp .Or [a] pos) G:=zsA h
def z0u{G ψ:FT}{rest:List yE}(ha:MT X a G)(hb:MW X (.BoolOp .And (b::rest) pos) ψ):MW X (.BoolOp .And (a::b::rest) pos) (zNt G ψ) :=
 z1z (zVz ha hb) λZ J O Y H b O' Q A e k=>by
  obtain⟨⟨x,O1⟩,e1,e⟩:=zi e;refine⟨Z,J,O,x,O1,A,e1,λZ1 H1 x1 R1=>?_⟩
  cases x with
  |true=>exact Sr ⟨Z1,J,O1,b,O',A.ext x1 R1,e,λZ2 H2 x2 R2=>k Z2 H2 (x1.trans x2) R2⟩
  |false=>
   cases e;exact Sq (k Z1 H1 x1 R1)
def zxj{G ψ:FT}{rest:List yE}(ha:MT X a G)(hb:MW X (.BoolOp .Or (b::rest) pos) ψ):MW X (.BoolOp .Or (a::b::rest) pos) (zlq G ψ) :=
 z1z (z5A ha hb) λZ J O Y H b O' Q A e k=>by
  obtain⟨⟨x,O1⟩,e1,e⟩:=zi e;refine⟨Z,J,O,x,O1,A,e1,λZ1 H1 x1 R1=>?_⟩
  cases x with
  |false=>exact Sq ⟨Z1,J,O1,b,O',A.ext x1 R1,e,λZ2 H2 x2 R2=>k Z2 H2 (x1.trans x2) R2⟩
  |true=>
   cases e;exact Sr (k Z1 H1 x1 R1)
def zmj{G:FT}(ha:MT X a G):MT X (.UnaryOp .Not a pos) (zHl G) :=
 zly (z3z ha) λZ J O Y H b O' Q A e k=>by
  obtain⟨⟨x,O1⟩,e1,e⟩:=zi e;cases e;exact⟨Z,J,O,x,O1,A,e1,λZ1 H1 x1 R1=>k Z1 H1 x1 R1⟩
structure MAn(X:Cx)(es:List yE)(G:FA):Prop where
 ma:MA X es G
 len:∀J O ds O',G J O=some (ds,O')->ds.length=es.length
@[simp] def zK:FA:=λ_ O=>some ([],O)
@[simp] def zh(G:FE)(ψ:FA):FA:=λJ O=>(G J O).bind λp=>(ψ J p.2).bind λq=>some (p.1::q.1,q.2)
def zf:MAn X [] zK:=⟨zpz zdi λZ J O Y H ds O' Q A e k=>by
 cases e;exact k Z H [] Ext.refl A.hp .nil,λ_ _ _ _ e=>by cases e;rfl⟩
def zxA:yE->Bool
 |.Starred ..=>false
 |_=>true
def z2c{e:yE}{es:List yE}{env:Env}(h:zxA e=true):yj (e::es) env=(false,Ye e env)::yj es env:=by
 cases e<;>first|rfl|cases h
def zb{G:FE}{ψ:FA}(ha:ME X e G)(hr:MAn X es ψ)(hs:yj (e::es) X.env=(false,Ye e X.env)::yj es X.env:=by exact z2c rfl):MAn X (e::es) (zh G ψ) :=
 ⟨zpz (z4e ha hr.ma hs) λZ J O Y H ds O' Q A e k=>by
  obtain⟨⟨x,O1⟩,e1,e⟩:=zi e;obtain⟨⟨y,O2⟩,e2,e⟩:=zi e;cases e;refine⟨Z,J,O,x,O1,A,e1,λZ1 H1 v x1 R1 r1=>?_⟩;refine⟨Z1,J,O1,y,O2,A.ext x1 R1,e2,λZ2 H2 u x2 R2 r2=>?_⟩;exact k Z2 H2 _ (x1.trans x2) R2 (.cons (r1.ext x2) r2),λJ O ds O' e=>by
  obtain⟨⟨x,O1⟩,e1,e⟩:=zi e;obtain⟨⟨y,O2⟩,e2,e⟩:=zi e;cases e;have:=hr.len _ _ _ _ e2;simp[this]⟩
@[simp] def z5k(G:FA):FE:=λJ O=>(G J O).bind λp=>some (.tup p.1,p.2)
@[simp] def zRn(G:FA):FE:=λJ O=>(G J O).bind λp=>some (.loc p.2.length,p.2++[.lst p.1])
def zfd{x1}{G:FA}(h:MAn X es G)(hn:es.length<=1000:=by decide):ME X (.Tuple es x1 pos) (z5k G) :=
 zfe (zmz h.ma) λZ J O Y H d O' Q A e k=>by
  obtain⟨⟨x,O1⟩,e1,e⟩:=zi e;cases e;refine⟨Z,J,O,x,O1,A,e1,λZ1 H1 vs x1 R1 r1=>⟨?_,λp hp=>?_⟩⟩
  ·rw[<-r1.length,h.len _ _ _ _ e1];exact YO (sA hn)
  ·exact k Z1 _ _ (x1.trans (Ext.new hp)) (R1.Tx hp) (.tup zF (r1.ext (Ext.new hp)))
def zPe{G:FA}(h:MAn X es G)(hn:es.length<=1000:=by decide):ME X (.List es pos) (zRn G) :=
 zfe (zBz h.ma) λZ J O Y H d O' Q A e k=>by
  obtain⟨⟨x,O1⟩,e1,e⟩:=zi e;cases e;refine⟨Z,J,O,x,O1,A,e1,λZ1 H1 vs x1 R1 r1=>⟨?_,λp hp=>?_⟩⟩
  ·rw[<-r1.length,h.len _ _ _ _ e1];exact YO (sA hn)
  ·exact k _ _ _ (x1.trans (Ext.push hp)) (R1.push hp ⟨vs,zF,r1.ext (Ext.push hp)⟩) (.loc (zzb R1))
@[simp] def zB(F:FF)(G:FA):FE:=λJ O=>(G J O).bind λp=>F p.1 p.2
def zdt{k n:Nat}{f:yc}{fd:yh}{ps:List yt}{F:FF}{x:yt}{p:xp}{G:FA}(φ:tq X.prog X.w X.K X.mg X.base CX0 k f fd ps (spM X.K n F))(hr:tS k X.A)(hm:X.mg x=some (.ref f))(hk:W.keepIn X.K (.ref f)=true)(hb:Binds X.K fd ps [])
 (ha:MAn X (e::es) G) (hn:(e::es).length=n:=by rfl) (hg:Gl X x:=by rfl) (hdb:(x==("__debug__":yt))=false:=by decide) (he:yj (e::es) X.env=(false,Ye e X.env)::yj es X.env:=by exact z2c rfl) (hpl:(Ym pos (yj es X.env)).any (·.1)=false:=by rfl) :
 ME X (.Call (.Name x p) (e::es) [] pos) (zB F G) :=
 zfe (zIy φ hr hg hm hk hb .nil Sy ha.ma hdb he hpl) λZ J O Y H d O' Q A e k=>by
  obtain⟨⟨x,O1⟩,e1,e⟩:=zi e;refine⟨Z,J,O,x,O1,A,e1,λZ1 H1 vs x1 R1 r1=>?_⟩;show spM X.K n F (vs++[]) H1 Q E0;rw[append_nil];exact⟨by rw[<-r1.length,ha.len _ _ _ _ e1];exact hn,Z1,x,O1,d,O',r1,R1,e,λZ2 H2 v x2 R2 r2=>k Z2 H2 v (x1.trans x2) R2 r2⟩
abbrev GL:=List D->Mem->Option (D×Mem)
def rCM(K:yx)(g:GL):List V->Hp->VK->Prop:=λvs H Q=>∃Z ds O d O',tf K Z H ds vs/\tI K Z H O/\g ds O=some (d,O')/\∀Z' H' v,Ext Z H Z' H'->tI K Z' H' O'->tx K Z' H' d v->Q v H'
def tX(X:Cx)(f:Value)(g:GL):Prop:=zfm X f (rCM X.K g)
def tX.of{X:Cx}{f:Value}{g:GL}(h:∀(U:List (yc×YT)) (s:yd) (Y:L2.St) (H:Hp) (xs:List V) (us:List Value) (Q:VK),Inv X U Y H s->Vals xs us->∀(Z:List yc)(ds:List D)(O:Mem)(d:D)(O':Mem),tf X.K Z H ds xs->tI X.K Z H O->g ds O=some (d,O')->(∀Z' H' v,Ext Z H Z' H'->tI X.K Z' H' O'->tx X.K Z' H' d v->Q v H')->yn (yv X.prog X.w) X.A (call f us) (EP X U Y Q) X.xe s):tX X f g:=by
 intro U s Y H xs us Q I r hh;obtain⟨Z,ds,O,d,O',r1,R,e,k⟩:=hh;exact h U s Y H xs us Q I r Z ds O d O' r1 R e k
def zZB{g:GL}{G:FA}{Z:List yc}{J:Loc}{O:Mem}{Y:L2.St}{H:Hp}{d:D}{O':Mem}{Q:VK}(A:At X.K Z H Y J O)(e:zB g G J O=some (d,O'))
 (k:∀Z' H' v,Ext Z H Z' H'->tI X.K Z' H' O'->tx X.K Z' H' d v->Q v H'):tCB (rCM X.K g) (tMA X.K G) Y H Q:=by
 obtain⟨⟨x,O1⟩,e1,e⟩:=zi e;exact⟨Z,J,O,x,O1,A,e1,λZ1 H1 vs x1 R1 r1=>⟨Z1,x,O1,d,O',r1,R1,e,λZ2 H2 v x2 R2 r2=>k Z2 H2 v (x1.trans x2) R2 r2⟩⟩
def zS{g:GL}{id:String}{x:yt}{p:xp}{G:FA}(hc:tX X (.builtin id) g)(hm:X.mg x=none)(hv:yJ x=some (.builtin id))(ha:MAn X (e::es) G)(hg:Gl X x:=by rfl)(hn:x≠"__name__":=by decide)(hdb:(x==("__debug__":yt))=false:=by decide)
 (he:yj (e::es) X.env=(false,Ye e X.env)::yj es X.env:=by exact z2c rfl) (hpl:(Ym pos (yj es X.env)).any (·.1)=false:=by rfl):ME X (.Call (.Name x p) (e::es) [] pos) (zB g G) :=
 zfe (zIr hc hg hm hv ha.ma hn hdb he hpl) λ_ _ _ _ _ _ _ _ A e k=>zZB A e k
def zFd{g:GL}{T:String}{x:yt}{p:xp}{G:FA}(hc:tX X (.type T) g)(hm:X.mg x=none)(hv:yJ x=some (.type T))(ha:MAn X (e::es) G)(hg:Gl X x:=by rfl)(hn:x≠"__name__":=by decide)(hdb:(x==("__debug__":yt))=false:=by decide)
 (he:yj (e::es) X.env=(false,Ye e X.env)::yj es X.env:=by exact z2c rfl) (hpl:(Ym pos (yj es X.env)).any (·.1)=false:=by rfl):ME X (.Call (.Name x p) (e::es) [] pos) (zB g G) :=
 zfe (zGg hc hg hm hv ha.ma hn hdb he hpl) λ_ _ _ _ _ _ _ _ A e k=>zZB A e k
variable {K:yx}{Z:List yc}{H:Hp}{O:Mem}
@[simp] def items(O:Mem):D->Option (List D)
 |.tup ds=>some ds
 |.fz ds=>some ds
 |.loc n=>match O[n]? with
  |some (.lst ds)=>some ds
  |_=>none
 |_=>none
def zHg{d:D}{v:V}{ds:List D}(R:tI K Z H O)(r:tx K Z H d v)(e:items O d=some ds):∃p vs,v=.ref p/\(SqL K H p vs\/SqT K H p vs)/\tf K Z H ds vs:=by
 unfold items at e
 split at e
 ·cases e;obtain⟨a,vs,e1,e2,q⟩:=r.tT;exact⟨a,vs,e1,.inr (SqT.of e2),q⟩
 ·cases e;obtain⟨a,vs,e1,e2,q⟩:=r.sL;exact⟨a,vs,e1,.inl e2.sq,q⟩
 ·split at e
  ·rename_i h
   cases e;obtain⟨a,e1,e2⟩:=r.tz;obtain⟨vs,e3,q⟩:=R.at_ _ _ _ e2 h;exact⟨a,vs,e1,.inl (SqL.of e3),q⟩
  ·cases e
 ·cases e
@[simp] def gIx:φ2:=λx y O=>match y with
 |.int i=>(items O x).bind λds=>(atI ds i).bind λd=>some (d,O)
 |_=>none
def zny{K:yx}{Z:List yc}{H:Hp}{ds:List D}{vs:List V}{i:Int}{d:D}(r:tf K Z H ds vs)(e:atI ds i=some d):∃v,atI vs i=some v/\tx K Z H d v:=by
 unfold atI at e ⊢;rw[r.length]at e;obtain⟨j,e1,e2⟩:=zi e;obtain⟨v,e3,q⟩:=r.get e2;exact⟨v,by rw[e1];exact e3,q⟩
def ixM:IxR X (rM X.K gIx):=by
 intro value slice U s Y H x y v u Q I rx ry ⟨Z,dx,dy,O,d,O',r1,r2,R,e,k⟩ hs;unfold gIx at e
 split at e
 ·obtain⟨ds,e1,e⟩:=zi e;obtain⟨d',e2,e⟩:=zi e;cases e;obtain⟨p,vs,rfl,hq,rr⟩:=zHg R r1 e1;obtain⟨w,e3,q⟩:=zny rr e2;rcases hq with hq|hq
  ·exact zUw value slice U s Y H _ y v u Q I rx ry (.inl ⟨p,vs,_,w,rfl,r2.int_inv,hq,e3,k Z H w Ext.refl R q⟩) hs
  ·exact zUw value slice U s Y H _ y v u Q I rx ry (.inr (.inl ⟨p,vs,_,w,rfl,r2.int_inv,hq,e3,k Z H w Ext.refl R q⟩)) hs
 ·cases e
def zT(ha:ME X a G)(hb:ME X b ψ)(hs:zJq b:=by exact λ_ _=>rfl):ME X (.Subscript a b pos) (zH gIx G ψ) :=
 zfe (zQz ixM ha hb hs) λ_ _ _ _ _ _ _ _ A e k=>z1u A e k
@[simp] def znk:GL:=λds O=>match ds with
 |[d]=>(items O d).bind λxs=>some (.int xs.length,O)
 |_=>none
def zab:tX X (.builtin "len") znk:=by
 refine tX.of λU s Y H xs us Q I r Z ds O d O' r1 R e k=>?_;unfold znk at e
 split at e
 ·obtain⟨ds,e1,e⟩:=zi e;cases e;obtain⟨v,rr,rfl,q1,q2⟩:=r1.cons_inv;have q2:=q2.nil_inv;subst q2;obtain⟨p,vs,rfl,hq,rr⟩:=zHg R q1 e1;exact zBp U s Y H _ us Q I r ⟨p,vs,rfl,hq,k Z H _ Ext.refl R (by rw[rr.length];exact .int)⟩
 ·cases e
@[simp] def zss:GL:=λds O=>match ds with
 |[d]=>(items O d).bind λxs=>some (.loc O.length,O++[.lst xs])
 |_=>none
def zBj:tX X (.type "list") zss:=by
 refine tX.of λU s Y H xs us Q I r Z ds O d O' r1 R e k=>?_;unfold zss at e
 split at e
 ·obtain⟨ds,e1,e⟩:=zi e;cases e;obtain⟨v,rr,rfl,q1,q2⟩:=r1.cons_inv;have q2:=q2.nil_inv;subst q2;obtain⟨p,vs,rfl,hq,rr⟩:=zHg R q1 e1;exact zSj U s Y H _ us Q I r ⟨p,vs,rfl,hq,λl hl=>k _ _ _ (Ext.push hl) (R.push hl ⟨vs,zF,rr.ext (Ext.push hl)⟩) (.loc (zzb R))⟩
 ·cases e
@[simp] def zAh:GL:=λds O=>match ds with
 |[.tup xs]=>some (.tup xs,O)
 |[d]=>(items O d).bind λxs=>some (.tup xs,O)
 |_=>none
def zKf:tX X (.type "tuple") zAh:=by
 refine tX.of λU s Y H xs us Q I r Z ds O d O' r1 R e k=>?_
 have key:∃x ys,ds=[x]/\items O x=some ys/\d=.tup ys/\O'=O:=by
  unfold zAh at e
  split at e
  ·cases e;exact⟨_,_,rfl,rfl,rfl,rfl⟩
  ·obtain⟨ds,e1,e⟩:=zi e;cases e;exact⟨_,_,rfl,e1,rfl,rfl⟩
  ·cases e
 obtain⟨x,ys,rfl,e1,rfl,rfl⟩:=key;obtain⟨v,rr,rfl,q1,q2⟩:=r1.cons_inv;have q2:=q2.nil_inv;subst q2
 cases x with
 |tup zs=>
  cases e1;obtain⟨a,vs,rfl,e2,q⟩:=q1.tT;exact zIf U s Y H _ us Q I r ⟨a,vs,rfl,.inr ⟨SqT.of e2,k Z H _ Ext.refl R q1⟩⟩
 |fz zs=>
  cases e1;obtain⟨a,vs,rfl,e2,q⟩:=q1.sL;exact zIf U s Y H _ us Q I r ⟨a,vs,rfl,.inl ⟨e2.sq,λl hl=>k Z _ _ (Ext.new hl) (R.Tx hl) (.tup zF (q.ext (Ext.new hl)))⟩⟩
 |loc n=>
  unfold items at e1;dsimp only at e1
  split at e1
  ·rename_i h
   cases e1;obtain⟨a,rfl,e2⟩:=q1.tz;obtain⟨vs,e3,q⟩:=R.at_ _ _ _ e2 h;exact zIf U s Y H _ us Q I r ⟨a,vs,rfl,.inl ⟨SqL.of e3,λl hl=>k Z _ _ (Ext.new hl) (R.Tx hl) (.tup zF (q.ext (Ext.new hl)))⟩⟩
  ·cases e1
 |_=>cases e1
end
def zyp{prog:yA}{w:yI}{A:yK}{R:Result->yd->Prop}{s:yd}{elt target iter:yE}{ifs:List yE}{scope:Xm}{pos:xp}{it acc:Value}{env:Env}(I:Nat->yd->Prop)
 (turn:∀n s,I n s->yn (yv prog w) A (xW it) (λr s₁=>match r with
  |none=>R (.ok .next) s₁
  |some v=>yn (yv prog w) A (letOwnedTupleGo target it v) (λ_ s₁'=>yn (yv prog w) A (assign target env v) (λ_ s₂=>
   yn (yv prog w) A (forIn ifs true λc r=>if r=true then do let ok <-isTrue c env (Ye c env);pure (YZ ok) else pure (YZ r)) (λok s₃=>
    if ok=true then yn (yv prog w) A (Ye elt env) (λx s₄=>
     yn (yv prog w) A (call (.builtin "list.append") [acc,x]) (λ_ s₅=>∃m,m<n/\I m s₅) (λ_ _=>False) s₄) (λ_ _=>False) s₃
    else ∃m,m<n/\I m s₃) (λ_ _=>False) s₂) (λ_ _=>False) s₁') (λ_ _=>False) s₁) (λ_ _=>False) s)
 (n:Nat) (h:I n s) :
 xN (yv prog w) A (.compLoop (.ListComp elt [⟨target,iter,ifs,0⟩] scope pos) 0 it acc env) R s:=by
 refine codeAny_loop rfl I (λn s hI=>?_) n h;show yn _ A ((compTurn (.ListComp elt [⟨target,iter,ifs,0⟩] scope pos) 0 it acc env).onRaise (λx=>do noteFrame x env;theTreesLotGoes x)) _ _ s;refine wpAny_noted ?_;rw[compTurn_list];refine ya (YU (ya (yS (turn n s hI) (λr s₁ h₁=>?_) λ_ _ h'=>h'.elim)))
 cases r with
 |none=>exact yf h₁
 |some v=>
  refine ya (yS h₁ (λ_ s₁' h₁=>?_) λ_ _ h'=>h'.elim);refine ya (yS h₁ (λ_ s₂ h₂=>ya (yS h₂ (λok s₃ h₃=>?_) λ_ _ h'=>h'.elim)) λ_ _ h'=>h'.elim)
  cases ok with
  |false=>exact yf ⟨rfl,h₃⟩
  |true=>
   exact ya (ya (yS h₃ (λx s₄ h₄=>ya (yS h₄ (λ_ s₅ h₅=>yf (yf ⟨rfl,h₅⟩)) λ_ _ h'=>h'.elim)) λ_ _ h'=>h'.elim))
def z7b(cells:List (yt×yc)):List (yt×xj)->List (yt×yc)->List (yt×yc)
 |[],acc=>acc
 |(n,k)::r,acc=>z7b cells r (if k == .free then(match cells.lookup n with|some c=>(n,c)::acc|none=>acc) else acc)
def zek{env:Env}:∀(names:List (yt×xj)) (acc:List (yt×yc)),(∀x∈names,x.2=.free->∃c,env.cells.lookup x.1=some c) ->
 (forIn names acc λ(x:yt×xj) (cs:List (yt×yc))=>(match x with|(name,kind)=>if kind == .free then do let c <-cellOf env name;pure (YZ ((name,c)::cs)) else pure (YZ cs):Sem (ForInStep (List (yt×yc)))))=(pure (z7b env.cells names acc):Sem (List (yt×yc)))
 |[],acc,_=>rfl
 |(n,k)::r,acc,h=>by
  have ih:=λacc'=>zek r acc' λx hx=>h x (mem_cons_of_mem _ hx);rw[List.forIn_cons]
  by_cases hk:k=.free
  ·subst hk;obtain⟨c,hc⟩:=h (n,.free) mem_cons_self rfl;have e:cellOf env n=pure c:=by unfold cellOf;rw[hc]
   have:z7b env.cells ((n,yy)::r) acc=z7b env.cells r ((n,c)::acc):=by
    show z7b env.cells r (if(yy==yy)=true then(match env.cells.lookup n with|some c=>(n,c)::acc|none=>acc) else acc)=_;rw[hc];rfl
   rw[this,<-ih];show((do let c <-cellOf env n;pure (YZ ((n,c)::acc))) >>= _:Sem _)=_;rw[e];rfl
  ·have hb:(k==yy)=false:=by simpa using hk
   have:z7b env.cells ((n,k)::r) acc=z7b env.cells r acc:=by
    show z7b env.cells r (if(k==yy)=true then _ else acc)=_;rw[hb];rfl
   rw[this,<-ih];simp only[hb,xZ,if_false];rfl
def zDm{scope:Xm}{env:Env}(h:∀x∈scope.names,x.2=.free->∃c,env.cells.lookup x.1=some c):closureFor scope env=pure (z7b env.cells scope.names []):=by
 have e:=zek (env:=env) scope.names [] h;unfold closureFor;show(forIn scope.names [] _ >>= λr=>pure r:Sem _)=_;rw[show(forIn scope.names ([]:List (yt×yc)) λ(x:yt×xj) (r:List (yt×yc))=>(match x with|(name,kind)=>if kind == .free then do let c <-cellOf env name;pure (YZ ((name,c)::r)) else pure (YZ r):Sem (ForInStep (List (yt×yc)))))=pure (z7b env.cells scope.names []) from e];rfl
def zao{cells:List (yt×yc)}{x:yt}{c:yc}:∀(names:List (yt×xj)) (acc:List (yt×yc)),(z7b cells names acc).lookup x=some c->acc.lookup x=some c\/cells.lookup x=some c
 |[],_,h =>.inl h
 |(n,k)::r,acc,h=>by
  rcases zao r _ h with q|q
  ·by_cases hk:(k==yy)=true
   ·rw[if_pos hk]at q
    cases e:cells.lookup n with
    |none=>rw[e]at q;exact .inl q
    |some a=>
     rw[e]at q;simp only[lookup_cons]at q
     by_cases hx:(x==n)=true
     ·rw[hx]at q;have hx':x=n:=by simpa using hx
      subst hx';cases q;exact .inr e
     ·have hx':(x==n)=false:=by simpa using hx
      rw[hx']at q;exact .inl q
   ·rw[if_neg hk]at q;exact .inl q
  ·exact .inr q
def zSt{cells:List (yt×yc)}{x:yt}:∀(names:List (yt×xj)) (acc:List (yt×yc)),(acc.lookup x).isSome=true->((z7b cells names acc).lookup x).isSome=true
 |[],_,h=>h
 |(n,k)::r,acc,h=>by
  refine zSt r _ ?_
  by_cases hk:(k==yy)=true
  ·rw[if_pos hk]
   cases e:cells.lookup n with
   |none=>exact h
   |some a=>
    simp only[lookup_cons]
    by_cases hx:(x==n)=true
    ·rw[hx];rfl
    ·have hx':(x==n)=false:=by simpa using hx
     rw[hx'];exact h
  ·rw[if_neg hk];exact h
def zPw{cells:List (yt×yc)}{x:yt}{c:yc}(hc:cells.lookup x=some c):∀(names:List (yt×xj)) (acc:List (yt×yc)),(x,yy)∈names->((z7b cells names acc).lookup x).isSome=true
 |[],_,h=>by cases h
 |(n,k)::r,acc,h=>by
  rcases List.mem_cons.mp h with h|h
  ·cases h;refine zSt r _ ?_;rw[if_pos (by rfl),hc];simp[lookup_cons]
  ·exact zPw hc r _ h
def cxC(X:Cx)(own:List yt)(fr:List Nat)(scope:Xm)(cl:List (yt×yc))(C:yc)(s₀:yd)(H₀:Hp)(fp:List yc):Cx :=
 {X with N:=own++fr.map λi=>X.N.getD i Str.empty,s₀:=s₀,H₀:=H₀,env:=compEnvC scope cl C X.env,outer:=X.stack,ex:=fp,fn:=λx=>scope.names.lookup x==some .cell,xe:=λ_ _=>False }
def σC(n:Nat)(fr:List Nat)(Y:L2.St):L2.St:=yC n none++fr.map λi=>(Y[i]?).getD none
def z6x(Y Y':L2.St):Prop:=Y'.length=Y.length/\∀(i:Nat) v,Y[i]?=some (some v)->Y'[i]?=some (some v)
def PF(X:Cx)(ifs:List yE)(t:TT):Prop:=∀(U:List (yc×YT)) (s:yd) (Y:L2.St) (H:Hp) (Q:Bool->Hp->Prop),Inv X U Y H s->t Y H Q ->
 yn (yv X.prog X.w) X.A (forIn ifs true λc r=>if r=true then do let ok <-isTrue c X.env (Ye c X.env);pure (YZ ok) else pure (YZ r)) (TP X U Y Q) X.xe s
def zLz{X:Cx}:PF X [] (λY H Q=>Q true H):=λU s Y H Q I h=>wpAny_tests_nil ⟨H,I,h⟩
def zwz{X:Cx}{c:yE}{t:TT}(h:PT X c t):PF X [c] t:=λU s Y H Q I hw=>wpAny_tests_one (h U s Y H Q I hw)
def tLC(n:Nat)(fr:List Nat)(wi:TI)(g:TG)(tc:TT)(te:TE):TE:=λY H Q=>wi Y H λδ H1=>∃W:Nat->Nat->List V->Hp->Prop,(∃m,W 0 m [] H1)/\∀i m ys H,W i m ys H ->
 (δ.stop i H/\∀p,H p=none->Q (.ref p) (upd H p (.lst ys))) \/
 (δ.go i H/\ys.length<yD/\∀x H',δ.yld i H x H'->g x (σC n fr Y) H' λY2 H2=>z6x (σC n fr Y) Y2/\tc Y2 H2 λb H3=>
  if b=true then te Y2 H3 λy H4=>∃m',m'<m/\W (i+1) m' (ys++[y]) H4 else ∃m',m'<m/\W (i+1) m' ys H3)
section
variable {X:Cx}{own:List yt}{fr:List Nat}{scope:Xm}{U:List (yc×YT)}{Y:L2.St}{H:Hp}{s:yd}
def z6e{env:Env}{x:yt}{k:xj}:∀{names:List (yt×xj)},(names.map λ(n,k)=>if(k==yy&&env.scope.kind == .function&&env.kindOf n==some .cell) then(n,yR) else(n,k)).lookup x=some k ->
 (k=.cell\/k=.free)->(x,yy)∈names\/(x,yR)∈names
 |[],h,_=>by simp at h
 |(n,k')::r,h,hk=>by
  rw[map_cons]at h
  by_cases hx:x=n
  ·subst hx
   by_cases hb:(k'==yy&&env.scope.kind == .function&&env.kindOf x==some .cell)=true
   ·have:k'=.free:=by
     simp only[yH,beq_iff_eq]at hb;exact hb.1.1
    subst this;exact .inl mem_cons_self
   ·have h2:((x,k')::r.map λ(n,k)=>if(k==yy&&env.scope.kind == .function&&env.kindOf n==some .cell) then(n,yR) else(n,k)).lookup x=some k:=by
     have e:(if(k'==yy&&env.scope.kind == .function&&env.kindOf x==some .cell)=true then(x,yR) else(x,k'))=(x,k'):=if_neg hb;rw[<-e];exact h
    simp only[lookup_cons,beq_self_eq_true]at h2;cases h2;rcases hk with rfl|rfl
    ·exact .inr mem_cons_self
    ·exact .inl mem_cons_self
  ·have hx':(x==n)=false:=by simpa using hx
   have h2:(r.map λ(n,k)=>if(k==yy&&env.scope.kind == .function&&env.kindOf n==some .cell) then(n,yR) else(n,k)).lookup x=some k:=by
    by_cases hb:(k'==yy&&env.scope.kind == .function&&env.kindOf n==some .cell)=true
    ·have e:(if(k'==yy&&env.scope.kind == .function&&env.kindOf n==some .cell)=true then(n,yR) else(n,k'))=(n,yR):=if_pos hb;have h3:((n,yR)::r.map λ(n,k)=>if(k==yy&&env.scope.kind == .function&&env.kindOf n==some .cell) then(n,yR) else(n,k)).lookup x=some k:=by rw[<-e];exact h
     simpa only[lookup_cons,hx'] using h3
    ·have e:(if(k'==yy&&env.scope.kind == .function&&env.kindOf n==some .cell)=true then(n,yR) else(n,k'))=(n,k'):=if_neg hb;have h3:((n,k')::r.map λ(n,k)=>if(k==yy&&env.scope.kind == .function&&env.kindOf n==some .cell) then(n,yR) else(n,k)).lookup x=some k:=by rw[<-e];exact h
     simpa only[lookup_cons,hx'] using h3
   rcases z6e h2 hk with q|q
   ·exact .inl (mem_cons_of_mem _ q)
   ·exact .inr (mem_cons_of_mem _ q)
def zTj{env:Env}{x:yt}:∀{names:List (yt×xj)},names.lookup x=some .free ->
 (names.map λ(n,k)=>if(k==yy&&env.scope.kind == .function&&env.kindOf n==some .cell) then(n,yR) else(n,k)).lookup x=some .cell \/
 (names.map λ(n,k)=>if(k==yy&&env.scope.kind == .function&&env.kindOf n==some .cell) then(n,yR) else(n,k)).lookup x=some .free
 |[],h=>by simp at h
 |(n,k')::r,h=>by
  rw[map_cons]
  by_cases hx:x=n
  ·subst hx;simp only[lookup_cons,beq_self_eq_true]at h;cases h
   by_cases hb:(yy==yy&&env.scope.kind == .function&&env.kindOf x==some .cell)=true
   ·have e:(if(yy==yy&&env.scope.kind == .function&&env.kindOf x==some .cell)=true then(x,yR) else(x,yy))=(x,yR):=if_pos hb
    left
    show YL x ((if(yy==yy&&env.scope.kind == .function&&env.kindOf x==some .cell)=true then(x,yR) else(x,yy))::_)=_;rw[e];simp[lookup_cons]
   ·have e:(if(yy==yy&&env.scope.kind == .function&&env.kindOf x==some .cell)=true then(x,yR) else(x,yy))=(x,yy):=if_neg hb
    right
    show YL x ((if(yy==yy&&env.scope.kind == .function&&env.kindOf x==some .cell)=true then(x,yR) else(x,yy))::_)=_;rw[e];simp[lookup_cons]
  ·have hx':(x==n)=false:=by simpa using hx
   simp only[lookup_cons,hx']at h;have ih:=zTj (env:=env) h
   have step:∀k,(r.map λ(n,k)=>if(k==yy&&env.scope.kind == .function&&env.kindOf n==some .cell) then(n,yR) else(n,k)).lookup x=some k ->
    YL x ((if(k'==yy&&env.scope.kind == .function&&env.kindOf n==some .cell)=true then(n,yR) else(n,k'))::(r.map λ(n,k)=>if(k==yy&&env.scope.kind == .function&&env.kindOf n==some .cell) then(n,yR) else(n,k)))=some k:=λk hk=>by
     by_cases hb:(k'==yy&&env.scope.kind == .function&&env.kindOf n==some .cell)=true
     ·rw[if_pos hb];simpa only[lookup_cons,hx'] using hk
     ·rw[if_neg hb];simpa only[lookup_cons,hx'] using hk
   rcases ih with ih|ih
   ·exact .inl (step _ ih)
   ·exact .inr (step _ ih)
def zrq{b:yc}(I:Inv X U Y H s)(h1:b≠X.env.locals)(h2:b∉X.fs):b∉frs X.stack:=λz=>
 (List.mem_cons.mp (I.sU b z)).elim h1 h2
def σC_get{n:Nat}{i:Nat}{v:V}(h:(σC n fr Y)[i]?=some (some v)):n<=i/\∃j,fr[i-n]?=some j/\Y[j]?=some (some v):=by
 unfold σC at h
 by_cases hi:i<n
 ·rw[yr (by simpa using hi),YR]at h
  split at h<;>cases h
 ·have hi:n<=i:=Nat.le_of_not_lt hi;rw[yM (by simpa using hi),Xi,yg]at h
  cases e:fr[i-n]? with
  |none=>rw[e]at h;cases h
  |some j=>
   rw[e]at h;refine⟨hi,j,rfl,?_⟩;have h':(Y[j]?).getD none=some v:=Yj h
   cases e2:Y[j]? with
   |none=>rw[e2]at h';cases h'
   |some o=>rw[e2]at h';exact congrArg some h'
def zSm:∀(names:List (yt×xj)) (n:Nat) (acc:List (yt×yc)),Yq n names acc=Yq n names []++acc
 |[],n,acc=>rfl
 |(x,k)::r,n,acc=>by
  unfold Yq
  split
  ·rw[zSm r (n+1) ((x,n)::acc),zSm r (n+1) [(x,n)]];simp
  ·exact zSm r n acc
def zVm:∀(names:List (yt×xj)) (n:Nat) (x:yt) (c:yc),(x,c)∈Yq n names []->n<=c/\(x,yR)∈names
 |[],n,x,c,h=>by cases h
 |(y,k)::r,n,x,c,h=>by
  unfold Yq at h
  split at h
  ·rename_i hk
   rw[zSm]at h;rcases List.mem_append.mp h with h|h
   ·obtain⟨h1,h2⟩:=zVm r (n+1) x c h;exact⟨Nat.le_of_succ_le h1,mem_cons_of_mem _ h2⟩
   ·have e:(x,c)=(y,n):=by simpa using h
    cases e;rw[beq_iff_eq.mp hk];exact⟨yi _,mem_cons_self⟩
  ·obtain⟨h1,h2⟩:=zVm r n x c h;exact⟨h1,mem_cons_of_mem _ h2⟩
def zRp{names:List (yt×xj)}{n:Nat}{acc:List (yt×yc)}{x:yt}{c:yc}(h:(Yq n names acc).lookup x=some c):(Yq n names []).lookup x=some c\/((Yq n names []).lookup x=none/\acc.lookup x=some c):=by
 rw[zSm,List.lookup_append]at h
 cases e:(Yq n names []).lookup x with
 |none=>rw[e]at h;exact .inr ⟨rfl,h⟩
 |some d=>rw[e]at h;exact .inl h
def zJy{names:List (yt×xj)}{n:Nat}{x:yt}(hn:∀y∈names,names.lookup y.1=some y.2)(h:(x,yy)∈names):(Yq n names []).lookup x=none:=by
 cases e:(Yq n names []).lookup x with
 |none=>rfl
 |some c=>
  have h1:=hn _ (zVm _ _ _ _ (Yg e)).2;have h2:=hn _ h;rw[h1]at h2;cases h2
def zGv{fp:List yc}{D C:yc}{lo:Nat}{h1:yT}{t:Nat}{mC:yt->Option Value}{oD:YT}(I:Inv X U Y H s)(hf:∀b∈fp,zkr X U H b)(hfl:∀b∈fp,b<s.heap.objs.size)
 (hk:scope.kind=.function) (hnm:∀y∈scope.names,scope.names.lookup y.1=some y.2) (hfree:∀x∈scope.names,x.2=.free->(X.env.kindOf x.1=some .cell\/X.env.kindOf x.1=some .free))
 (hfr:∀i∈fr,∃x,X.N[i]?=some x/\scope.names.lookup x=some .free) (hlo:C<lo) (hOC:CellsOk h1 lo (Yq lo scope.names []))
 (old:∀b o,s.heap.get? b=some o->h1.get? b=some o) (hD:s.heap.objs.size<=D) (hC:s.heap.objs.size<=C) (hDC:D≠C) (hDlo:D<lo) (eD:h1.get? D=some oD) (dD:∀v,oD.data≠.cell v) (nC:h1.Ns C mC) :
 Inv (cxC X own fr scope (Yq lo scope.names (z7b X.env.cells scope.names [])) C s H fp) (U++[(D,oD)]) (σC own.length fr Y) H {s with heap:=h1,toks:=t }:=by
 have cl1:∀x c,(z7b X.env.cells scope.names []).lookup x=some c->X.env.cells.lookup x=some c:=λx c e=>by
  rcases zao _ _ e with q|q
  ·cases q
  ·exact q
 have clH:∀x,(x,yy)∈scope.names->∃c,(Yq lo scope.names (z7b X.env.cells scope.names [])).lookup x=some c/\X.env.cells.lookup x=some c:=λx hx=>by
  obtain⟨c,hc⟩:=I.ok.has x (hfree _ hx rfl);obtain⟨c',hc'⟩:=Option.isSome_iff_exists.mp (zPw hc scope.names [] hx);exact⟨c',by rw[zSm,List.lookup_append,zJy hnm hx];exact hc',cl1 _ _ hc'⟩
 have two:∀x c,(Yq lo scope.names (z7b X.env.cells scope.names [])).lookup x=some c->((Yq lo scope.names []).lookup x=some c/\lo<=c)\/X.env.cells.lookup x=some c:=λx c e=>by
  rcases zRp e with q|⟨_,q⟩
  ·exact .inl ⟨q,(zVm _ _ _ _ (Yg q)).1⟩
  ·exact .inr (cl1 _ _ q)
 have oldc:∀x c,X.env.cells.lookup x=some c->c<s.heap.objs.size:=λx c e=>by
  obtain⟨v,o,ho,_⟩:=I.cell x c e;exact yk ho
 have hslo:s.heap.objs.size<=lo:=yF hC (YO hlo)
 refine⟨⟨I.ok.mod,hk,I.ok.glob,I.ok.blt,hC,λx y c e1 e2=>?inj,λx hx=>?_,λx c hx e=>?cab,I.ok.hd,I.ok.frames,.inl rfl,λb hb=>⟨?_,λx c e=>?exf⟩,I.bs,yF I.ok.bsz I.sz,λb o e hb=>?_,λb hb=>?_,I.stack,I.TL⟩,
  rfl,I.bare,Un.kept old,⟨mC,nC,λi x v h1 h2 h3=>?_⟩,λx c e=>?cell,I.hok.fresh hC,λx c e=>?freeC,λp hp=>?_,I.hok.kept old,?_⟩
 case inj=>
  rcases two x c e1 with ⟨q1,l1⟩|q1
  ·rcases two y c e2 with ⟨q2,_⟩|q2
   ·exact name_of_addr hOC.apart (Yg q1) (Yg q2)
   ·exact absurd (yz (oldc y c q2) (yF hslo l1)) (yU _)
  ·rcases two y c e2 with ⟨_,l2⟩|q2
   ·exact absurd (yz (oldc x c q1) (yF hslo l2)) (yU _)
   ·exact I.ok.inj x y c q1 q2
 case cab=>
  have hx:(scope.names.lookup x==some .cell)=true:=hx;obtain⟨d,hd⟩:=Option.isSome_iff_exists.mp (W.cellsFrom_some scope.names lo [] (.inl (beq_iff_eq.mp hx)));rcases zRp (show(Yq lo scope.names (z7b X.env.cells scope.names [])).lookup x=some c from e) with q|⟨q,_⟩
  ·exact yF hslo (zVm _ _ _ _ (Yg q)).1
  ·rw[q]at hd;cases hd
 case exf=>
  rcases two x c e with ⟨_,l⟩|q
  ·exact yW (yz (hfl b hb) (yF hslo l))
  ·exact(hf b hb).2.2.2.2.1 x c q
 case cell=>
  rcases two x c e with ⟨q,_⟩|q
  ·exact⟨none,(hOC.empty x c (Yg q)).1⟩
  ·obtain⟨v,o,ho,hd⟩:=I.cell x c q;exact⟨v,o,old _ _ ho,hd⟩
 case freeC=>
  rcases two x c e with ⟨_,l⟩|q
  ·exact I.hok.fresh (yF hslo l)
  ·exact I.freeC x c q
 ·have hx':(relabel scope X.env).names.lookup x=some .cell\/(relabel scope X.env).names.lookup x=some .free:=hx
  have hm:(x,yy)∈scope.names\/(x,yR)∈scope.names:=by
   rcases hx' with h|h
   ·exact z6e (env:=X.env) h (.inl rfl)
   ·exact z6e (env:=X.env) h (.inr rfl)
  rcases hm with hm|hm
  ·obtain⟨c,e,_⟩:=clH x hm;exact⟨c,e⟩
  ·exact Option.isSome_iff_exists.mp (W.cellsFrom_some scope.names lo _ (.inl (hnm _ hm)))
 ·exact yu (yz (hfl b hb) hC)
 ·rcases(hf b hb).2.2.2.1 with z|z
  ·exact I.ok.SD b o e z
  ·exact absurd (yz (yk e) (yF I.ok.bsz z)) (yU _)
 ·exact zrq I (hf b hb).2.1 (hf b hb).2.2.1
 ·obtain⟨hi,j,e1,e2⟩:=σC_get h2;have hjm:j∈fr:=mem_of_getElem? e1;obtain⟨y,ey,ly⟩:=hfr j hjm
  have hxy:x=y:=by
   have h1':(own++fr.map λi=>X.N.getD i Str.empty)[i]?=some x:=h1;rw[yM hi,yg,e1]at h1';have h1'':X.N.getD j Str.empty=x:=Yj h1';rw[getD_eq_getElem?_getD,ey]at h1'';exact h1''.symm
  subst hxy;have hm:(x,yy)∈scope.names:=Yg ly
  have hv:Vis X.env.scope x:=by
   rcases hfree _ hm rfl with q|q
   ·exact .inr (.inl q)
   ·exact .inr (.inr q)
  obtain⟨m,hn,hl⟩:=id I.loc;obtain⟨u,ru,q⟩:=hl j x v ey e2 hv;obtain⟨c,c1,c2⟩:=clH x hm;refine⟨u,ru,.inr ⟨zTj (env:=X.env) ly,c,c1,?_⟩⟩;rcases q with ⟨k,_⟩|⟨k,c',e',z⟩
  ·rcases hfree _ hm rfl with q|q
   ·rw[show X.env.kindOf (x,yy).1=X.env.kindOf x from rfl,k]at q;cases q
   ·rw[show X.env.kindOf (x,yy).1=X.env.kindOf x from rfl,k]at q;cases q
  ·rw[c2]at e';cases e';obtain⟨o,ho,hd⟩:=z;exact⟨o,old _ _ ho,hd⟩
 ·have hp':p∈X.pn++(U++[(D,oD)]):=hp;rw[<-append_assoc]at hp';rcases List.mem_append.mp hp' with hp'|hp'
  ·obtain⟨a1,a2,a3,a4,a5⟩:=I.pin p hp';exact⟨old _ _ a1,a2,yu (yz (yk a1) hC),zrq I a3 a4,a5⟩
  ·have:p=(D,oD):=by simpa using hp'
   subst this;refine⟨eD,I.hok.fresh hD,hDC,λz=>?_,dD⟩;rcases List.mem_cons.mp (I.sU _ z) with z|z
   ·exact absurd (yz I.lt (z▸hD)) (yU _)
   ·exact I.nofs hD z
 ·show(σC own.length fr Y).length=(own++fr.map λi=>X.N.getD i Str.empty).length;unfold σC;simp
end
def HOk.SL{P:yA}{w:yI}{H:Hp}{h:yT}{a:yc}{o:HO}(x:HOk P w H h)(hn:H a=none)(new:tG P w (upd H a o) h a o):HOk P w (upd H a o) h:=λb u e=>by
 by_cases hb:b=a
 ·subst hb;rw[zF]at e;cases e;exact new
 ·rw[zL hb]at e;exact(x b u e).stay (λc v _ q=>q) (λc q=>by rw[zL (zI q hn)];exact q) λc xs q=>by rw[zL (zI q hn)];exact q
def newEnvC{M:Model}{A:yK}{E:Value->yd->Prop}{s:yd}{scope:Xm}{globals:yc}{cl:List (yt×yc)}{qual:yt}{env:Env}{Q:Env->yd->Prop}
 (hQ:Q (newEnv scope s.heap.objs.size globals (Yq (s.heap.objs.size+1) scope.names cl) qual none .none (some env) builtinsNs) {s with heap:=pushCells (s.heap.push {cls:=.type "dict",data:=.dict #[]}) scope.names }) :
 yn M A (newFunctionEnv scope globals cl [] qual none .none (some env)) Q E s:=by
 simp only[newFunctionEnv,Option.isSome_some,if_true];refine ya (wpAny_alloc ?_);refine ya (wpAny_layCells _ (λname kind cells=>by cases hkc:kind==yR<;>simp[hkc]) _ _ _ _ ?_);rw[show({s with heap:=s.heap.push {cls:=.type "dict",data:=.dict #[]}}:yd).heap.objs.size=s.heap.objs.size+1 from Ys ..];refine ya ?_;rw[List.forIn_nil];exact yf (yf hQ)
section
variable {X:Cx}{own:List yt}{fr:List Nat}{scope:Xm}
structure Ss(X:Cx)(U:List (yc×YT))(Y:L2.St)(H:Hp)(ys:List V)(D C:yc)(s:yd):Prop where
 inv:Inv X U Y (upd H D (.lst ys)) s
 free:H D=none
 freeC:upd H D (.lst ys) C=none
 own:∃m,s.heap.Ns C m
 notL:C≠X.env.locals
 young:X.s₀.heap.objs.size<=C
 sX:∀x c,X.env.cells.lookup x=some c->c≠C
 SM:∀p∈X.pn++U,p.1≠C
def zpu{elt tg iter:yE}{ifs:List yE}{pos:xp}{g:TG}{tc:TT}{te:TE}{U:List (yc×YT)}{Y:L2.St}{s2:yd}{Qn:List V->Hp->Prop}{itv:Value}{RR:Value->yc->Result->yd->Prop}(own:List yt)(fr:List Nat)(hc:X.calm=true)
 (hg:∀cl C s₀ H₀ fp,PG (cxC X own fr scope cl C s₀ H₀ fp) tg g) (hq:∀cl C s₀ H₀ fp,PF (cxC X own fr scope cl C s₀ H₀ fp) ifs tc) (he:∀cl C s₀ H₀ fp,PE (cxC X own fr scope cl C s₀ H₀ fp) elt te)
 (hk:scope.kind=.function) (hnm:∀y∈scope.names,scope.names.lookup y.1=some y.2)
 (hfree:∀x∈scope.names,x.2=.free->(X.env.kindOf x.1=some .cell\/X.env.kindOf x.1=some .free)) (hfr:∀i∈fr,∃x,X.N[i]?=some x/\scope.names.lookup x=some .free)
 (h2:PIE X U Y tg (λδ H1=>∃W:Nat->Nat->List V->Hp->Prop,(∃m,W 0 m [] H1)/\∀i m ys H,W i m ys H ->
  (δ.stop i H/\Qn ys H)\/(δ.go i H/\ys.length<yD/\∀x H',δ.yld i H x H'->g x (σC own.length fr Y) H' λY2 H2=>z6x (σC own.length fr Y) Y2/\tc Y2 H2 λb H3=>
   if b=true then te Y2 H3 λy H4=>∃m',m'<m/\W (i+1) m' (ys++[y]) H4 else ∃m',m'<m/\W (i+1) m' ys H3)) itv s2)
 (fin:∀ys H D C s4,Qn ys H->Ss X U Y H ys D C s4->RR (.ref D) C (.ok .next) s4) :
 yn (yv X.prog X.w) X.A (newList []) (λacc s₃=>yn (yv X.prog X.w) X.A (newFunctionEnv scope X.env.globals (z7b X.env.cells scope.names []) [] X.env.qual none .none (some X.env)) (λcenv s₄=>
  xN (yv X.prog X.w) X.A (.compStart (.ListComp elt [⟨tg,iter,ifs,0⟩] scope pos) 0 itv acc {cenv with scope:=relabel scope X.env }) (RR acc cenv.locals) s₄) X.xe s₃) X.xe s2:=by
 obtain⟨it,fp,tn,δ,H2,e,I2,T,st2,f2,W,⟨m0,w0⟩,turn⟩:=h2;subst e
 have hfl:∀b∈fp,b<s2.heap.objs.size:=λb hb=>by
  obtain⟨o,e,_⟩:=T.obj _ _ st2 b hb;exact yk e
 refine yY (newEnvC ?_);dsimp only;generalize hH2:s2.heap.push {cls:=.type "list",dict:=none,data:=.seq ([]:List Value).toArray } = φ2;have hC:φ2.objs.size=s2.heap.objs.size+1:=by rw[<-hH2,Ys]
 have hDC:s2.heap.objs.size≠φ2.objs.size:=by rw[hC];exact yu (Yz _)
 have hCle:s2.heap.objs.size<=φ2.objs.size:=by rw[hC];exact xV _
 have below:∀b,b<s2.heap.objs.size->b≠φ2.objs.size/\b≠s2.heap.objs.size:=λb hb=>⟨by rw[hC];exact yu (YB hb),yu hb⟩
 have hns₁:(pushCells (φ2.push {cls:=.type "dict",data:=.dict #[]}) scope.names).Ns φ2.objs.size (λ_=>none):=(Heap.Ns.new φ2 (.type "dict")).keeps λb o e=>pushCells_keeps _ _ _ _ e
 have hok₁:CellsOk (pushCells (φ2.push {cls:=.type "dict",data:=.dict #[]}) scope.names) (φ2.objs.size+1) (Yq (φ2.objs.size+1) scope.names []):=by
  have:=cellsFrom_ok scope.names (φ2.push {cls:=.type "dict",data:=.dict #[]}) (φ2.objs.size+1) [] ⟨λ_ _ hm=>(nomatch hm),List.Pairwise.nil⟩ (by rw[Ys];exact yi _);rw[Ys]at this;exact this
 have hk₁:∀b o,φ2.get? b=some o->(pushCells (φ2.push {cls:=.type "dict",data:=.dict #[]}) scope.names).get? b=some o:=λb o e=>pushCells_keeps _ _ _ _ (yb _ e);generalize pushCells (φ2.push {cls:=.type "dict",data:=.dict #[]}) scope.names=h₁ at hns₁ hok₁ hk₁ ⊢;have old:∀b o,s2.heap.get? b=some o->h₁.get? b=some o:=λb o e=>hk₁ b o (hH2▸yb _ e);have hacc:h₁.get? s2.heap.objs.size=some {cls:=.type "list",data:=.seq ([]:List Value).toArray 0 }:=hk₁ _ _ (hH2▸yp _ rfl);generalize hXC:cxC X own fr scope (Yq (φ2.objs.size+1) scope.names (z7b X.env.cells scope.names [])) φ2.objs.size s2 H2 fp=XC;have eenv:compEnvC scope (Yq (φ2.objs.size+1) scope.names (z7b X.env.cells scope.names [])) φ2.objs.size X.env=XC.env:=by rw[<-hXC];rfl
 have eprog:XC.prog=X.prog:=by rw[<-hXC];rfl
 have ew:XC.w=X.w:=by rw[<-hXC];rfl
 have eA:XC.A=X.A:=by rw[<-hXC];rfl
 have eK:XC.K=X.K:=by rw[<-hXC];rfl
 have ecalm:XC.calm=true:=by rw[<-hXC];exact hc
 have exe:XC.xe=λ_ _=>False:=by rw[<-hXC];rfl
 have eloc:XC.env.locals=φ2.objs.size:=by rw[<-hXC];rfl
 have eex:XC.ex=fp:=by rw[<-hXC];rfl
 have efs:XC.fs=frs X.stack:=by rw[<-hXC];rfl
 have es0:XC.s₀=s2:=by rw[<-hXC];rfl
 have eH0:XC.H₀=H2:=by rw[<-hXC];rfl
 have epn:XC.pn=X.pn:=by rw[<-hXC];rfl
 have ecells:∀x c,XC.env.cells.lookup x=some c->X.env.cells.lookup x=some c\/φ2.objs.size<c:=λx c e=>by
  rw[<-hXC]at e;rcases zRp (show(Yq (φ2.objs.size+1) scope.names (z7b X.env.cells scope.names [])).lookup x=some c from e) with q|⟨_,q⟩
  ·exact .inr (zVm _ _ _ _ (Yg q)).1
  ·rcases zao _ _ q with q|q
   ·cases q
   ·exact .inl q
 have hg':PG XC tg g:=hXC▸hg _ _ _ _ _;have hq':PF XC ifs tc:=hXC▸hq _ _ _ _ _;have he':PE XC elt te:=hXC▸he _ _ _ _ _
 have fpok:∀{H':Hp} {pl:List (yc×YT)},(∀b∈fp,H' b=none)->(∀p∈pl,p.1=s2.heap.objs.size)->∀b∈fp,zkr XC (U++pl) H' b:=λ{H' pl} hn hpl b hb=>by
  obtain⟨_,f2,f3,f4,f5,f6⟩:=f2 b hb;refine⟨hn b hb,by rw[eloc];exact(below b (hfl b hb)).1,by rw[efs];exact zrq I2 f2 f3,.inl (by rw[eex];exact hb),λx c e=>?c5,λp hp=>?_⟩
  case c5=>
   rcases ecells x c e with q|q
   ·exact f5 x c q
   ·exact yW (yz (hfl b hb) (yF hCle (YO q)))
  rw[epn,<-append_assoc]at hp;rcases List.mem_append.mp hp with hp|hp
  ·exact f6 p hp
  ·rw[hpl p hp];exact yV (below b (hfl b hb)).2
 have loop:∀s₃:yd,s₃ = {s2 with heap:=h₁ } ->
  xN (yv X.prog X.w) X.A (.compLoop (.ListComp elt [⟨tg,iter,ifs,0⟩] scope pos) 0 (.ref it) (.ref s2.heap.objs.size) (compEnvC scope (Yq (φ2.objs.size+1) scope.names (z7b X.env.cells scope.names [])) φ2.objs.size X.env))
   (RR (.ref s2.heap.objs.size) φ2.objs.size) s₃:=by
  rintro s₃ rfl;have I0:=zGv (own:=own) (fr:=fr) (t:=s2.toks) (lo:=φ2.objs.size+1) I2 f2 hfl hk hnm hfree hfr (Yz _) hok₁ old (yi _) hCle hDC (Nat.lt_succ_of_le hCle) hacc (by intro v z;cases z) hns₁;rw[hXC]at I0
  refine zyp (λn s'=>∃(i:Nat)(ys:List V)(its:Array Value)(k:Nat)(H':Hp),Inv XC (U++[(s2.heap.objs.size,({cls:=.type "list",data:=.seq its k }:YT))]) (σC own.length fr Y) H' s'/\Vals ys its.toList/\ys.length<=yD/\tn i s'.heap/\(∀b∈fp,H' b=none)/\W i n ys H') ?_ m0
   ⟨0,[],#[],0,H2,I0,.nil,Yt _,T.keep _ _ _ st2 (λb hb o e=>old b o e),λb hb=>(f2 b hb).1,w0⟩
  rintro n s3 ⟨i,ys,its,kk,H3,I3,rv,hz,st3,fr3,w3⟩
  have pl1:∀p∈[(s2.heap.objs.size,({cls:=.type "list",data:=.seq its kk }:YT))],p.1=s2.heap.objs.size:=λp hp=>by
   rw[List.mem_singleton.mp hp]
  rcases turn i n ys H3 w3 with ⟨stop,qn⟩|⟨go,hlt,step⟩
  ·have td:=T.done XC eprog ew eK ecalm i _ s3 _ H3 (λ_ _=>False) I3 (fpok fr3 pl1) st3 stop;rw[eA]at td;refine thn td λr s4 ⟨hr,I4⟩=>?_;subst hr;obtain⟨m,hn,_⟩:=id I4.loc;rw[eloc]at hn;obtain⟨p1,p2,p3,p4,p5⟩:=I4.pin (s2.heap.objs.size,_) (mem_append_right _ (mem_append_right _ mem_cons_self));have hnC:H3 φ2.objs.size=none:=by have:=I4.free;rw[eloc]at this;exact this
   have hokf:HOk X.prog X.w (upd H3 s2.heap.objs.size (.lst ys)) s4.heap:=by
    refine HOk.SL (by have:=I4.hok;rw[eprog,ew]at this;exact this) p2 ⟨hz,its.toList,kk,rv,by simpa using p1⟩
   have u0:Un (frs X.stack) fp H2 H3 s2.heap s4.heap:=by
    have:=I4.base;rw[efs,eex,es0,eH0]at this;exact this
   have u1:Un (frs X.stack) fp H2 (upd H3 s2.heap.objs.size (.lst ys)) s2.heap s4.heap:=by
    have bd:∀b o,s2.heap.get? b=some o->b≠s2.heap.objs.size:=λb o e=>(below b (yk e)).2;refine⟨u0.keep,u0.slot,λb o e n hx=>by rw[zL (bd b o e)];exact u0.free b o e n hx,u0.there,λb xs e=>?_,λb o u e=>?_,λb ps e=>?_⟩
    ·have q:=u0.tups b xs e;rw[zL (zI q p2)];exact q
    ·have q:=u0.TK b o u e;rw[zL (zI q p2)];exact q
    ·obtain⟨more,q⟩:=u0.TU b ps e;exact⟨more,by rw[zL (zI q p2)];exact q⟩
   have os4:s4.os=s2.os:=by have:=I4.os;rw[es0]at this;exact this
   have IF:Inv X U Y (upd H3 s2.heap.objs.size (.lst ys)) {s2 with heap:=s4.heap,gens:=s4.gens,drawn:=s4.drawn,toks:=s4.toks } :=
    I2.call (h':=s4.heap) (ch:=fp) u1 hokf I4.bare λb hb=>by
     obtain⟨_,f2,f3,f4,f5,f6⟩:=f2 b hb;exact⟨f4,f2,f5,f6⟩
   have es:s4 = {s2 with heap:=s4.heap,gens:=s4.gens,drawn:=s4.drawn,toks:=s4.toks }:=by
    obtain⟨a1,a2,a3,a4,a5⟩:=s4;have:a5=s2.os:=os4;subst this;rfl
   rw[<-es]at IF;refine fin ys H3 _ _ s4 qn ⟨IF,p2,by rw[zL (yV hDC)];exact hnC,⟨m,hn⟩,yV (below _ I2.lt).1,yF I2.sz hCle,λx c e=>?_,λp hp=>?_⟩
   ·obtain⟨v,o,ho,_⟩:=I2.cell x c e;exact(below c (yk ho)).1
   ·exact(below p.1 (yk (I2.pin p hp).1)).1
  ·have td:=T.item XC eprog ew eK ecalm i _ s3 _ H3 (λ_ _=>False) I3 (fpok fr3 pl1) st3 go;rw[eA]at td;refine thn td λr s4 ⟨u,hr,h4⟩=>?_;subst hr;refine thn h4 λ_ s5 ⟨x,H5,I5,r5,y5,st5,fr5⟩=>?_;have I5':=I5.pinned (fpok fr5 pl1) (T.obj _ _ st5);have hgw:=hg' _ s5 _ H5 x u _ I5' r5 (step x H5 y5);rw[exe,eprog,ew,eA]at hgw;rw[eenv];refine thn hgw λ_ s6 ⟨Y6,H6,I6,⟨hsl,hsub⟩,q6⟩=>?_;have hqw:=hq' _ s6 Y6 H6 _ I6 q6;rw[exe,eprog,ew,eA]at hqw;refine thn hqw λok s7 ⟨H7,I7,q7⟩=>?_
   have back:∀{H8:Hp} {s8:yd},Inv XC (U++[(s2.heap.objs.size,({cls:=.type "list",data:=.seq its kk }:YT))]++zCp fp s5.heap) Y6 H8 s8 ->
    Inv XC (U++[(s2.heap.objs.size,({cls:=.type "list",data:=.seq its kk }:YT))]) (σC own.length fr Y) H8 s8/\tn (i+1) s8.heap/\∀b∈fp,H8 b=none:=λ{H8 s8} I8=>by
    refine⟨I8.TX.weak hsl.symm hsub,T.keep _ _ _ st5 λb hb o e=>(I8.pin (b,o) (mem_append_right _ (mem_append_right _ (zeh hb e)))).1,λb hb=>?_⟩;obtain⟨o,e,d⟩:=T.obj _ _ st5 b hb;exact(I8.pin (b,o) (mem_append_right _ (mem_append_right _ (zeh hb e)))).2.1
   cases ok with
   |false=>
    have q7':∃m',m'<n/\W (i+1) m' ys H7:=by simpa using q7
    rw[if_neg yB];obtain⟨m',hm,w7⟩:=q7';obtain⟨δ1,δ2,δ3⟩:=back I7;exact⟨m',hm,i+1,ys,its,kk,H7,δ1,rv,hz,δ2,δ3,w7⟩
   |true=>
    rw[if_pos rfl]at q7 ⊢;have hew:=he' _ s7 Y6 H7 _ I7 q7;rw[exe,eprog,ew,eA]at hew;refine thn hew λy s8 ⟨vy,H8,I8,r8,m',hm,w8⟩=>?_;obtain⟨δ1,δ2,δ3⟩:=back I8;obtain⟨p1,p2,p3,p4,p5⟩:=δ1.pin (s2.heap.objs.size,_) (mem_append_right _ (mem_append_right _ mem_cons_self));have hil:its.size=ys.length:=by rw[rv.length];simp
    refine append_at (hsz:=by rw[hil];exact hz) p1 λh9 sb9 e9=>?_;have Df:s2.heap.objs.size∉fp:=λz=>absurd (hfl _ z) (yU _);have δ0:Inv XC U (σC own.length fr Y) H8 s8:=δ1.TX
    have δ9:Inv XC U (σC own.length fr Y) H8 {s8 with heap:=h9 }:=by
     refine δ0.turned (t':=s8.toks) (it:=s2.heap.objs.size) (λb o hb e=>(sb9.2 b hb).trans e) p2 p3 (.inr (by rw[es0];exact yi _)) (λx c e z=>?_) (λp hp z=>?_)
     ·rcases ecells x c e with q|q
      ·obtain⟨v,o,ho,_⟩:=I2.cell x c q;exact(below c (yk ho)).2 z
      ·exact yW (Nat.lt_of_le_of_lt hCle q) z
     ·rw[epn]at hp;exact(below p.1 (yk (I2.pin p hp).1)).2 z
    refine⟨m',hm,i+1,ys++[vy],its.push y,kk+1,H8,δ9.sV λp hp=>?_,?_,by simp;exact hlt,T.keep _ _ _ δ2 (λb hb o e=>(sb9.2 b (λz=>Df (z▸hb))).trans e),δ3,w8⟩
    ·rcases List.mem_append.mp hp with hp|hp
     ·exact δ9.pin p (mem_append_right _ hp)
     ·have e:=List.mem_singleton.mp hp;subst e;exact⟨e9,p2,p3,p4,by intro v z;cases z⟩
    ·rw[Array.toList_push];exact rv.append (.cons r8 .nil)
 exact codeAny_compStart_list (loop _ rfl) (T.self X.A 0 _ _ _ (T.keep _ _ _ st2 λb hb o e=>old b o e) (loop _ rfl))
def Ss.gone{U:List (yc×YT)}{Y:L2.St}{H:Hp}{ys:List V}{D C:yc}{s:yd}(w:Ss X U Y H ys D C s){h':yT}(sb:Yp C s.heap h'):Inv X U Y (upd H D (.lst ys)) {s with heap:=h' } :=
 w.inv.turned (t':=s.toks) (λb o hb e=>(sb.2 b hb).trans e) w.freeC (yV (yV w.notL)) (.inr w.young) w.sX w.SM
def zbB{elt tg iter:yE}{ifs:List yE}{pos:xp}{wi:TI}{g:TG}{tc:TT}{te:TE}(own:List yt)(fr:List Nat)(hc:X.calm=true)(hi:PI X tg iter wi)
 (hg:∀cl C s₀ H₀ fp,PG (cxC X own fr scope cl C s₀ H₀ fp) tg g) (hq:∀cl C s₀ H₀ fp,PF (cxC X own fr scope cl C s₀ H₀ fp) ifs tc) (he:∀cl C s₀ H₀ fp,PE (cxC X own fr scope cl C s₀ H₀ fp) elt te)
 (hk:scope.kind=.function) (hnm:∀y∈scope.names,scope.names.lookup y.1=some y.2)
 (hfree:∀x∈scope.names,x.2=.free->(X.env.kindOf x.1=some .cell\/X.env.kindOf x.1=some .free)) (hfr:∀i∈fr,∃x,X.N[i]?=some x/\scope.names.lookup x=some .free)
 (hs:∀x,YV iter X.env x=pure x:=by intro _;rfl):PE X (.ListComp elt [⟨tg,iter,ifs,0⟩] scope pos) (tLC own.length fr wi g tc te):=by
 intro U s Y H Q I h;rw[eval_ListComp];have hclos:closureFor scope X.env=pure (z7b X.env.cells scope.names []):=zDm λx hx e=>I.ok.has x.1 (hfree x hx e);refine wpAny_comprehension_free (use:=none) rfl hs hclos hk (λx hx e=>by rw[hnm x hx,e]) ?_;show yn _ _ (Ye iter X.env) _ _ s;refine thn (hi U s Y H _ I h) λv s1 h1=>thn h1 λitv s2 h2=>?_;refine zpu (RR:=λacc C=>compPost (yv X.prog X.w) X.A X.xe none (EP X U Y Q) acc C) own fr hc hg hq he hk hnm hfree hfr h2 λys H3 D C s4 q w=>?_;obtain⟨m,hn⟩:=w.own;exact⟨m,hn,λh' sb=>⟨.ref D,_,w.gone sb,rfl,q D w.free⟩⟩
def z2v{elt tg iter:yE}{ifs:List yE}{pos spos py:xp}{wi:TI}{g:TG}{tc:TT}{te:TE}{y:yt}{i:Nat}(own:List yt)(fr:List Nat)(hN:X.N.Nodup)(hiN:X.N[i]?=some y)(hy:X.env.scope.names.lookup y=some .local)(hc:X.calm=true)(hi:PI X tg iter wi)
 (hsw:xQ (.ListComp elt [⟨tg,iter,ifs,0⟩] scope pos) (some (.Name y py)) spos.line X.env=pure true)
 (hg:∀cl C s₀ H₀ fp,PG (cxC X own fr scope cl C s₀ H₀ fp) tg g) (hq:∀cl C s₀ H₀ fp,PF (cxC X own fr scope cl C s₀ H₀ fp) ifs tc) (he:∀cl C s₀ H₀ fp,PE (cxC X own fr scope cl C s₀ H₀ fp) elt te)
 (hk:scope.kind=.function) (hnm:∀y∈scope.names,scope.names.lookup y.1=some y.2)
 (hfree:∀x∈scope.names,x.2=.free->(X.env.kindOf x.1=some .cell\/X.env.kindOf x.1=some .free)) (hfr:∀i∈fr,∃x,X.N[i]?=some x/\scope.names.lookup x=some .free)
 (hs:∀x,YV iter X.env x=pure x:=by intro _;rfl):PS X (.Assign [.Name y py] (.ListComp elt [⟨tg,iter,ifs,0⟩] scope pos) spos) (zyB (tLC own.length fr wi g tc te) (z6y i)):=by
 intro U s Y H E I h;rw[exec_Assign_Name_used _ _ _ _ hsw];refine ya (YU (ya ?_));have hclos:closureFor scope X.env=pure (z7b X.env.cells scope.names []):=zDm λx hx e=>I.ok.has x.1 (hfree x hx e);show yn _ X.A (do let _ <-comprehension (.ListComp elt [⟨tg,iter,ifs,0⟩] scope pos) scope X.env _ (newList []) false (Ye iter X.env) (some (assign (.Name y py) X.env))) _ _ s;refine ya (yS (wpAny_comprehension_free (use:=some (assign (.Name y py) X.env)) (Q:=λ_ s'=>SP X U E .next s') rfl hs hclos hk (λx hx e=>by rw[hnm x hx,e]) ?_) (λ_ s' hq=>yf (yf hq)) λ_ _ e=>e);show yn _ _ (Ye iter X.env) _ _ s;refine thn (hi U s Y H _ I h) λv s1 h1=>thn h1 λitv s2 h2=>?_;refine zpu (RR:=λacc C=>compPost (yv X.prog X.w) X.A X.xe (some (assign (.Name y py) X.env)) (λ_ s'=>SP X U E .next s') acc C) own fr hc hg hq he hk hnm hfree hfr h2 λys H3 D C s4 q w=>?_;show yn _ X.A (assign (.Name y py) X.env (.ref D)) _ _ s4;obtain⟨m,hn⟩:=w.own;refine wpAny_assign_Name (zzp (v:=V.ref D) w.inv hN hiN (.inl hy) rfl (λs5 I5 ⟨a,sb,ha⟩=>?_) (.inr hy))
 have haC:C≠a:=by
  rcases ha with e|e
  ·rw[e];exact w.notL
  ·exact yV (w.sX y a e)
 refine⟨m,hn.sameBut sb haC,λh' sb'=>?_⟩;refine⟨_,_,I5.turned (t':=s5.toks) (λb o hb e=>(sb'.2 b hb).trans e) w.freeC w.notL (.inr w.young) w.sX w.SM,q D w.free⟩
variable {K:yx}{Z Z1:List yc}{H H1:Hp}
def sM.ext{W:XK}{E:Ends}{o:Out}(h:sM K W Z H E o)(x:Ext Z H Z1 H1):sM K W Z1 H1 E o:=by
 cases o with
 |next J O=>exact λZ' Y' H' x' A=>h Z' Y' H' (x.trans x') A
 |brk J O=>exact λZ' Y' H' x' A=>h Z' Y' H' (x.trans x') A
 |cont J O=>exact λZ' Y' H' x' A=>h Z' Y' H' (x.trans x') A
 |ret d O=>exact λZ' v H' x' R r=>h Z' v H' (x.trans x') R r
 |exc c fs O=>exact λZ' H' C dx hc x' R r=>h Z' H' C dx hc (x.trans x') R r
def At.set{Y:L2.St}{J:Loc}{O:Mem}{d:D}{v:V}(A:At K Z H Y J O)(r:tx K Z H d v)(i:Nat):At K Z H (Y.set i (some v)) (J.set i (some d)) O:=by
 refine⟨λj d' e=>?_,A.hp,by simp[A.len]⟩
 by_cases hj:j=i
 ·subst hj
  have hl:j<J.length:=by
   have:=(List.getElem?_eq_some_iff.mp e).1;simpa using this
  rw[yO hl]at e;cases e;exact⟨v,by rw[yO (by rw[A.len];exact hl)],r⟩
 ·rw[yL (yV hj)]at e;obtain⟨u,e1,q⟩:=A.st j d' e;exact⟨u,by rw[yL (yV hj)];exact e1,q⟩
variable {a b c e:yE}{es:List yE}{G ψ χ:FE}{pos:xp}{st:Yb}{rest:List Yb}
@[simp] def zVb:FS:=λJ O=>some (.next J O)
@[simp] def zcb(p q:FS):FS:=λJ O=>match p J O with
 |some (.next J' O')=>q J' O'
 |o=>o
def z7:MSs X [] zVb:=zex zKy λZ J O Y H o E A e k=>by
 cases e;exact k Z Y H Ext.refl A
def zn{p:FS}(h:MS X st p):MSs X [st] p:=zYs h
def zj{p q:FS}(h1:MS X st p)(h2:MSs X rest q):MSs X (st::rest) (zcb p q) :=
 zex (zUq h1 h2) λZ J O Y H o E A e k=>by
  unfold zcb at e;show tMS X.K (zIn X) p {E with nx:=tMS X.K (zIn X) q E } Y H
  cases ep:p J O with
  |none=>rw[ep]at e;cases e
  |some op=>
   rw[ep]at e;refine⟨Z,J,O,op,A,ep,?_⟩
   cases op with
   |next J' O'=>exact λZ' Y' H' x' A'=>⟨Z',J',O',o,A',e,k.ext x'⟩
   |brk J' O'=>cases e;exact k
   |cont J' O'=>cases e;exact k
   |ret d O'=>cases e;exact k
   |exc C fs O'=>cases e;exact k
@[simp] def zgc(G:FE):FS:=λJ O=>(G J O).bind λp=>some (.ret p.1 p.2)
def zM(h:ME X e G):MS X (.Return (some e) pos) (zgc G):=zQk (zAz h) λZ J O Y H o E A e k=>by
 obtain⟨⟨x,O1⟩,e1,e⟩:=zi e;cases e;exact⟨Z,J,O,x,O1,A,e1,λZ' H' v x' R r=>k Z' v H' x' R r⟩
@[simp] def zgk(G:FE):FS:=λJ O=>(G J O).bind λp=>some (.next J p.2)
def zMf(h:ME X e G)(hs:xQ e none pos.line X.env=pure false:=by rfl):MS X (.Expr e pos) (zgk G):=zQk (zFt h hs) λZ J O Y H o E A e k=>by
 obtain⟨⟨x,O1⟩,e1,e⟩:=zi e;cases e;exact⟨Z,J,O,x,O1,A,e1,λZ' H' v x' R r=>k Z' Y H' x' (A.ext x' R)⟩
@[simp] def zKc(i:Nat)(G:FE):FS:=λJ O=>(G J O).bind λp=>some (.next (J.set i (some p.1)) p.2)
def zX{x:yt}{pos':xp}(i:Nat)(he:ME X e G)(hN:X.N.Nodup:=by first|assumption|decide)(hi:X.N[i]?=some x:=by rfl)(hx:L2.Loc X.env.scope x:=by first|exact Or.inl rfl|exact Or.inr rfl)(hs:xQ e (some (.Name x pos')) pos.line X.env=pure false:=by rfl)
 (hf:X.fn x=true\/X.env.scope.names.lookup x=some .local:=by first|exact .inl rfl|exact .inr rfl|assumption):MS X (.Assign [.Name x pos'] e pos) (zKc i G):=zQk (zkz hN hi hx he hs hf) λZ J O Y H o E A e k=>by
 obtain⟨⟨x,O1⟩,e1,e⟩:=zi e;cases e;exact⟨Z,J,O,x,O1,A,e1,λZ' H' v x' R r=>k Z' _ H' x' ((A.ext x' R).set r i)⟩
@[simp] def sIf(c:FT)(p q:FS):FS:=λJ O=>(c J O).bind λt=>bif t.1 then p J t.2 else q J t.2
def zhc{s1 s2:List Yb}{t:FT}{p q:FS}(hc:MT X c t)(h1:MSs X s1 p)(h2:MSs X s2 q):MS X (.If c s1 s2 pos) (sIf t p q):=zQk (z8A hc h1 h2) λZ J O Y H o E A e k=>by
 obtain⟨⟨x,O1⟩,e1,e⟩:=zi e;refine⟨Z,J,O,x,O1,A,e1,λZ' H' x' R=>?_⟩
 cases x with
 |true=>exact Sr ⟨Z',J,O1,o,A.ext x' R,e,k.ext x'⟩
 |false=>exact Sq ⟨Z',J,O1,o,A.ext x' R,e,k.ext x'⟩
def zEt:FS:=λ_ _=>none
def zDr:MS X st zEt:=zQk znw λ_ _ _ _ _ _ _ _ e _=>by cases e
abbrev FG:=D->Loc->Mem->Option (Loc×Mem)
abbrev FGs:=List D->Loc->Mem->Option (Loc×Mem)
def tMG(K:yx)(g:FG):TG:=λv Y H Q=>∃Z J O d J' O',At K Z H Y J O/\tx K Z H d v/\g d J O=some (J',O')/\∀Z' Y' H',Ext Z H Z' H'->At K Z' H' Y' J' O'->Q Y' H'
def zmC(K:yx)(g:FGs):TGs:=λvs Y H Q=>∃Z J O ds J' O',At K Z H Y J O/\tf K Z H ds vs/\g ds J O=some (J',O')/\∀Z' Y' H',Ext Z H Z' H'->At K Z' H' Y' J' O'->Q Y' H'
def MG(X:Cx)(t:yE)(g:FG):Prop:=PG X t (tMG X.K g)
def MGs(X:Cx)(t:List yE)(g:FGs):Prop:=PGs X t (zmC X.K g)
def mg_of{t:yE}{tt:TG}{g:FG}(h:PG X t tt)(w:∀Z J O d J' O' v Y H Q,At X.K Z H Y J O->tx X.K Z H d v->g d J O=some (J',O')->(∀Z' Y' H',Ext Z H Z' H'->At X.K Z' H' Y' J' O'->Q Y' H')->tt v Y H Q):MG X t g :=
 by intro U s Y H v u Q I r hh;obtain⟨Z,J,O,d,J',O',A,q,e,k⟩:=hh;exact h U s Y H v u Q I r (w Z J O d J' O' v Y H Q A q e k)
def zax{t:List yE}{tt:TGs}{g:FGs}(h:PGs X t tt)(w:∀Z J O d J' O' v Y H Q,At X.K Z H Y J O->tf X.K Z H d v->g d J O=some (J',O')->(∀Z' Y' H',Ext Z H Z' H'->At X.K Z' H' Y' J' O'->Q Y' H')->tt v Y H Q):MGs X t g :=
 by intro U s Y H v u Q I r hh;obtain⟨Z,J,O,d,J',O',A,q,e,k⟩:=hh;exact h U s Y H v u Q I r (w Z J O d J' O' v Y H Q A q e k)
@[simp] def gN(i:Nat):FG:=λd J O=>some (J.set i (some d),O)
def zbb{x:yt}(i:Nat)(hN:X.N.Nodup:=by first|assumption|decide)(hi:X.N[i]?=some x:=by rfl)(hx:L2.Loc X.env.scope x:=by first|exact Or.inl rfl|exact Or.inr rfl)(hf:X.fn x=true\/X.env.scope.names.lookup x=some .local:=by first|exact .inl rfl|exact .inr rfl|assumption):MG X (.Name x pos) (gN i) :=
 mg_of (zmt hN hi hx hf) λZ J O d J' O' v Y H Q A q e k=>by
  cases e;exact k Z _ H Ext.refl (A.set q i)
@[simp] def zTh:FGs:=λds J O=>match ds with
 |[]=>some (J,O)
 |_=>none
@[simp] def zTb(g:FG)(gs:FGs):FGs:=λds J O=>match ds with
 |d::r=>(g d J O).bind λp=>gs r p.1 p.2
 |_=>none
def z1h:MGs X [] zTh:=zax zXt λZ J O ds J' O' vs Y H Q A q e k=>by
 unfold zTh at e
 split at e
 ·cases e;exact⟨q.nil_inv,k Z Y H Ext.refl A⟩
 ·cases e
def zQb{g:FG}{gs:FGs}(h1:MG X e g)(h2:MGs X es gs)(hs:(Yw (e::es) X.env).map (·.2)=assign e X.env::(Yw es X.env).map (·.2):=by rfl):MGs X (e::es) (zTb g gs) :=
 zax (zlr h1 h2 hs) λZ J O ds J' O' vs Y H Q A q e k=>by
  unfold zTb at e
  split at e
  ·obtain⟨⟨J1,O1⟩,e1,e⟩:=zi e;obtain⟨v,r,rfl,q1,q2⟩:=q.cons_inv;refine⟨v,r,rfl,Z,J,O,_,J1,O1,A,q1,e1,λZ1 Y1 H1 x1 A1=>?_⟩;exact⟨Z1,J1,O1,_,J',O',A1,q2.ext x1,e,λZ2 Y2 H2 x2 A2=>k Z2 Y2 H2 (x1.trans x2) A2⟩
  ·cases e
@[simp] def gT(n:Nat)(gs:FGs):FG:=λd J O=>match d with
 |.tup ds=>bif ds.length==n then gs ds J O else none
 |_=>none
def z7m{k n:Nat}{gs:FGs}(h:MGs X es gs)(hc:X.calm=true:=by rfl)(hn:(Yw es X.env).length=n:=by rfl)(hst:(Yw es X.env).findIdx? (·.1)=none:=by rfl):MG X (.Tuple es k pos) (gT n gs) :=
 mg_of (zWw hc h hn hst) λZ J O d J' O' v Y H Q A q e k=>by
  unfold gT at e
  split at e
  ·obtain⟨h1,e⟩:=zW e;obtain⟨a,vs,rfl,e2,q2⟩:=q.tT;exact⟨a,vs,rfl,SqT.of e2,by rw[<-q2.length];exact beq_iff_eq.mp h1,Z,J,O,_,J',O',A,q2,e,k⟩
  ·cases e
@[simp] def gAt(G ψ:FE):FG:=λd J O=>(G J O).bind λp=>(ψ J p.2).bind λq=>match p.1,q.1 with
 |.loc n,.int i=>match q.2[n]? with
  |some (.lst ds)=>(ixN ds.length i).bind λj=>some (J,q.2.set n (.lst (ds.set j d)))
  |_=>none
 |_,_=>none
def zws{o i:yE}(ho:ME X o G)(hi:ME X i ψ)(ha:∀v,assign (.Subscript o i pos) X.env v=(do
 let ov <-xt [v] (Ye o X.env)
 let iv <-xt [v,ov] (Ye i X.env)
 standAt pos
 xt [v,ov,iv] (setItem ov iv v)
 release [v,ov,iv] []):=by intro _;rfl):MG X (.Subscript o i pos) (gAt G ψ) :=
 mg_of (zVw ho hi zLw ha) λZ J O d J' O' v Y H Q A q e k=>by
  obtain⟨⟨x,O1⟩,e1,e⟩:=zi e;obtain⟨⟨y,O2⟩,e2,e⟩:=zi e;refine⟨Z,J,O,x,O1,A,e1,λZ1 H1 v1 x1 R1 r1=>?_⟩;refine⟨Z1,J,O1,y,O2,A.ext x1 R1,e2,λZ2 H2 v2 x2 R2 r2=>?_⟩;dsimp only at e
  split at e
  ·split at e
   ·rename_i hm
    obtain⟨j,e3,e⟩:=zi e;cases e;obtain⟨ad,rfl,hr⟩:=(r1.ext x2).tz;obtain⟨vs,hv,q3⟩:=R2.at_ _ _ _ hr hm;have hmu:Mut (H2 ad):=by rw[hv];trivial
    refine⟨ad,vs,_,j,rfl,r2.int_inv,hv,by rw[<-q3.length];exact e3,?_⟩;have xx:=x1.trans x2;have R3:=R2.wr (o:=.lst (vs.set j v)) (lo:=.lst _) hmu hr ⟨_,zF,tf.ext (Ext.wr hmu) (q3.set j (q.ext xx))⟩;exact k Z2 Y _ (xx.trans (Ext.wr hmu)) (A.ext (xx.trans (Ext.wr hmu)) R3)
   ·cases e
  ·cases e
@[simp] def zPp(G:FE)(g:FG):FS:=λJ O=>(G J O).bind λp=>(g p.1 J p.2).bind λq=>some (.next q.1 q.2)
def z9f{tg:yE}{g:FG}(he:ME X e G)(hg:MG X tg g)(hs:swapsWithSole [tg] e pos.line X.env=pure false:=by rfl)(hw:swappedStores [tg] e X.env=pure none:=by rfl)
 (h1:(Yw [tg] X.env).map (·.2)=[assign tg X.env]:=by rfl):MS X (.Assign [tg] e pos) (zPp G g):=zQk (z0z he hg hs hw h1) λZ J O Y H o E A e k=>by
 obtain⟨⟨x,O1⟩,e1,e⟩:=zi e;obtain⟨⟨J1,O2⟩,e2,e⟩:=zi e;cases e;refine⟨Z,J,O,x,O1,A,e1,λZ1 H1 v1 x1 R1 r1=>?_⟩;exact⟨Z1,J,O1,x,J1,O2,A.ext x1 R1,r1,e2,λZ2 Y2 H2 x2 A2=>k Z2 Y2 H2 (x1.trans x2) A2⟩
abbrev FI:=Loc->Mem->Option (List D×(Mem->Bool)×Mem)
structure Su(K:yx)(δ:It)(Z:List yc)(H:Hp)(ds:List D)(ok:Mem->Bool):Prop where
 go:∀Z' H' O' (i:Nat),Ext Z H Z' H'->tI K Z' H' O'->ok O'=true->i<ds.length->δ.go i H'
 yld:∀Z' H' O' (i:Nat) x H'' d,Ext Z H Z' H'->tI K Z' H' O'->ok O'=true->ds[i]?=some d->δ.yld i H' x H''->Ext Z' H' Z' H''/\tI K Z' H'' O'/\tx K Z' H'' d x
 stop:∀Z' H' O',Ext Z H Z' H'->tI K Z' H' O'->ok O'=true->δ.stop ds.length H'
def tMI(K:yx)(G:FI):TI:=λY H R=>∃Z J O ds ok O',At K Z H Y J O/\G J O=some (ds,ok,O')/\∀Z' H' δ,Ext Z H Z' H'->tI K Z' H' O'->Su K δ Z' H' ds ok->R δ H'
def MI(X:Cx)(tg iter:yE)(G:FI):Prop:=PI X tg iter (tMI X.K G)
def zBt{tg it:yE}{t:TI}{G:FI}(h:PI X tg it t)(w:∀Z J O Y H ds ok O' R,At X.K Z H Y J O->G J O=some (ds,ok,O')->(∀Z' H' δ,Ext Z H Z' H'->tI X.K Z' H' O'->Su X.K δ Z' H' ds ok->R δ H')->t Y H R):MI X tg it G :=
 by intro U s Y H R I hh;obtain⟨Z,J,O,ds,ok,O',A,e,k⟩:=hh;exact h U s Y H R I (w Z J O Y H ds ok O' R A e k)
@[simp] def yes:Mem->Bool:=λ_=>true
@[simp] def zlg(G:FA):FI:=λJ O=>(G J O).bind λp=>match p.1 with
 |[.int j]=>bif decide (-(2^62)<=j/\j<2^62) then some ((yw j.toNat).map λ(k:Nat) =>.int k,yes,p.2) else none
 |_=>none
def zHf{tg:yE}{p:xp}{G:FA}(hm:X.mg "range"=none)(ha:MAn X [a] G)(hg:Gl X "range":=by rfl)(hs:yj [a] X.env=[(false,Ye a X.env)]:=by rfl):MI X tg (.Call (.Name "range" p) [a] [] pos) (zlg G) :=
 zBt (zdu hg hm ha.ma hs) λZ J O Y H ds ok O' R A e k=>by
  obtain⟨⟨x,O1⟩,e1,e⟩:=zi e;refine⟨Z,J,O,x,O1,A,e1,λZ1 H1 v1 x1 R1 r1=>?_⟩;dsimp only at e
  split at e
  ·rename_i j
   obtain⟨h1,e⟩:=zW e;have h2:=of_decide_eq_true h1;cases e;obtain⟨w,r,rfl,q1,q2⟩:=r1.cons_inv;refine⟨j,by rw[q1.int_inv,q2.nil_inv],h2.1,h2.2,k Z1 H1 _ x1 R1 ⟨λZ' H' O' i _ _ _ h=>by rw[length_map,length_range]at h;exact h,λZ' H' O' i x H'' d _ RR _ e ⟨y1,y2⟩=>⟨y1▸Ext.refl,y1▸RR,?_⟩,λZ' H' O' _ _ _=>by show j.toNat<=_;simp⟩⟩;rw[yg]at e
   cases e3:(yw j.toNat)[i]? with
   |none=>rw[e3]at e;cases e
   |some m=>
    rw[e3]at e
    have hmi:m=i:=by
     obtain⟨w1,w2⟩:=List.getElem?_eq_some_iff.mp e3;simpa using w2.symm
    subst hmi;have e':D.int (m:Nat)=d:=Yj e;subst e';rw[y2,show(0:Int)+(m:Nat)=(m:Int) by omega];exact .int
  ·cases e
def z1w{K:yx}{Z:List yc}{H:Hp}{a:yc}{vs:List V}{ds:List D}(h:H a=some (.tup vs))(r:tf K Z H ds vs):Su K (Itt K a) Z H ds yes:=by
 refine⟨λZ' H' O' i x R _ hi=>?_,λZ' H' O' i x H'' d x' R _ e ⟨y1,y2⟩=>⟨y1▸Ext.refl,y1▸R,y1▸?_⟩,λZ' H' O' x R _=>⟨vs,SqT.of (x.tup _ _ h),by rw[r.length];exact yi _⟩⟩
 ·have hi':i<vs.length:=by rw[<-r.length];exact hi
  exact⟨vs,vs[i],SqT.of (x.tup _ _ h),by simp[hi']⟩
 ·have q:=y2 vs (SqT.of (x'.tup _ _ h));obtain⟨w,e1,rr⟩:=(r.ext x').get e;rw[q]at e1;cases e1;exact rr
@[simp] def zgx(G:FE):FI:=λJ O=>(G J O).bind λp=>match p.1 with
 |.tup ds=>some (ds,yes,p.2)
 |_=>none
def zCA{tg:yE}(h:ME X a G):MI X tg a (zgx G) :=
 zBt (zDz h) λZ J O Y H ds ok O' R A e k=>by
  obtain⟨⟨x,O1⟩,e1,e⟩:=zi e;refine⟨Z,J,O,x,O1,A,e1,λZ1 H1 v1 x1 R1 r1=>?_⟩;dsimp only at e
  split at e
  ·cases e;obtain⟨a,vs,rfl,e2,q2⟩:=r1.tT;exact⟨a,rfl,⟨vs,SqT.of e2⟩,k Z1 H1 _ x1 R1 (z1w e2 q2)⟩
  ·cases e
def zTo(n:Nat)(ds:List D):Mem->Bool:=λO=>@decide (O[n]?=some (.lst ds)) (Classical.propDecidable _)
def Th{n:Nat}{ds:List D}{O:Mem}:zTo n ds O=true↔O[n]?=some (.lst ds):=by
 unfold zTo;exact @decide_eq_true_iff _ (Classical.propDecidable _)
def zkt(G:FE):FI:=λJ O=>(G J O).bind λp=>match p.1 with
 |.fz ds=>some (ds,yes,p.2)
 |.loc n=>match p.2[n]? with
  |some (.lst ds)=>some (ds,zTo n ds,p.2)
  |_=>none
 |_=>none
def zZq{K:yx}{Z:List yc}{H:Hp}{a:yc}{ds:List D}{ok:Mem->Bool}(h:∀Z' H' O',Ext Z H Z' H'->tI K Z' H' O'->ok O'=true->∃vs,SqL K H' a vs/\tf K Z' H' ds vs):Su K (Itl K a) Z H ds ok:=by
 refine⟨λZ' H' O' i x R o hi=>?_,λZ' H' O' i x H'' d x' R o e ⟨y1,y2⟩=>⟨y1▸Ext.refl,y1▸R,y1▸?_⟩,λZ' H' O' x R o=>?_⟩
 ·obtain⟨vs,s,r⟩:=h Z' H' O' x R o;have hi':i<vs.length:=by rw[<-r.length];exact hi
  exact⟨vs,vs[i],s,by simp[hi']⟩
 ·obtain⟨vs,s,r⟩:=h Z' H' O' x' R o;have q:=y2 vs s;obtain⟨w,e1,rr⟩:=r.get e;rw[q]at e1;cases e1;exact rr
 ·obtain⟨vs,s,r⟩:=h Z' H' O' x R o;exact⟨vs,s,by rw[r.length];exact yi _⟩
def zhu{tg:yE}(h:ME X a G):MI X tg a (zkt G) :=
 zBt (z4x h) λZ J O Y H ds ok O' R A e k=>by
  obtain⟨⟨x,O1⟩,e1,e⟩:=zi e;refine⟨Z,J,O,x,O1,A,e1,λZ1 H1 v1 x1 R1 r1=>?_⟩;dsimp only at e
  split at e
  ·cases e;obtain⟨a,vs,rfl,e2,q2⟩:=r1.sL;exact⟨a,rfl,⟨vs,e2.sq⟩,k Z1 H1 _ x1 R1 (zZq λZ' H' O' x _ _=>⟨vs,(x.fz e2).sq,q2.ext x⟩)⟩
  ·split at e
   ·rename_i hm
    cases e;obtain⟨a,rfl,e2⟩:=r1.tz;obtain⟨vs,e3,q3⟩:=R1.at_ _ _ _ e2 hm;refine⟨a,rfl,⟨vs,SqL.of e3⟩,k Z1 H1 _ x1 R1 (zZq λZ' H' O'' x R' o=>?_)⟩;obtain⟨vs',e4,q4⟩:=R'.at_ _ _ _ (x.get e2) (Th.mp o);exact⟨vs',SqL.of e4,q4⟩
   ·cases e
  ·cases e
def zsj(g:FG)(body:FS)(ok:Mem->Bool):List D->FS
 |[],J,O=>bif ok O then some (.next J O) else none
 |x::xs,J,O=>bif ok O then(g x J O).bind λp=>match body p.1 p.2 with
  |some (.next J' O')=>zsj g body ok xs J' O'
  |some (.cont J' O')=>zsj g body ok xs J' O'
  |some (.brk J' O')=>some (.next J' O')
  |some (.ret d O')=>some (.ret d O')
  |some (.exc C fs O')=>some (.exc C fs O')
  |none=>none
  else none
@[simp] def zak(i:FI)(g:FG)(body:FS):FS:=λJ O=>(i J O).bind λp=>zsj g body p.2.1 p.1 J p.2.2
def zAc{tg iter:yE}{body:List Yb}{i:FI}{g:FG}{p:FS}(hi:MI X tg iter i)(hg:MG X tg g)(hb:MSs X body p)(hx:PassesOwn (yv X.prog X.w) X.A X.env X.xe:=by first|exact PassesOwn.never|exact PassesOwn.leaving)(hc:X.calm=true:=by rfl)
 (hs:∀x,YV iter X.env x=pure x:=by intro _;rfl):MS X (.For tg iter body [] pos) (zak i g p) :=
 zQk (zRA hx hc hi hg hb hs) λZ J O Y H o E A e k=>by
  obtain⟨⟨ds,ok,O1⟩,e1,e⟩:=zi e;refine⟨Z,J,O,ds,ok,O1,A,e1,λZ1 H1 δ x1 R1 II=>?_⟩;refine⟨λi m Y' H'=>∃Z' J' O',Ext Z1 H1 Z' H'/\At X.K Z' H' Y' J' O'/\i<=ds.length/\m=ds.length-i/\zsj g p ok (ds.drop i) J' O'=some o,⟨_,Z1,J,O1,Ext.refl,A.ext x1 R1,Yt _,rfl,e⟩,?_⟩;rintro i m Y' H' ⟨Z',J',O',x',A',hi,rfl,ef⟩
  by_cases hlt:i<ds.length
  ·right
   have hd:ds.drop i=ds[i]::ds.drop (i+1):=drop_eq_getElem_cons hlt;rw[hd]at ef;unfold zsj at ef;obtain⟨hok,ef⟩:=zW ef;obtain⟨⟨J2,O2⟩,e2,ef⟩:=zi ef;refine⟨II.go Z' H' O' i x' A'.hp hok hlt,λY3 H3=>∃Z3 J3 O3,Ext Z1 H1 Z3 H3/\At X.K Z3 H3 Y3 J3 O3/\zsj g p ok (ds.drop (i+1)) J3 O3=some o,λY3 H3 ⟨Z3,J3,O3,x3,A3,e3⟩=>⟨ds.length-(i+1),by omega,Z3,J3,O3,x3,A3,hlt,rfl,e3⟩,λx H'' y=>?_⟩;obtain⟨xe,Re,rx⟩:=II.yld Z' H' O' i x H'' ds[i] x' A'.hp hok (by simp[hlt]) y;have x':=x'.trans xe;refine⟨Z',J',O',ds[i],J2,O2,A'.ext xe Re,rx,e2,λZ4 Y4 H4 x4 A4=>?_⟩
   cases eb:p J2 O2 with
   |none=>rw[eb]at ef;cases ef
   |some ob=>
    rw[eb]at ef;refine⟨Z4,J2,O2,ob,A4,eb,?_⟩;have x5:=x'.trans x4
    cases ob with
    |next J6 O6=>exact λZ6 Y6 H6 x6 A6=>⟨Z6,J6,O6,x5.trans x6,A6,ef⟩
    |cont J6 O6=>exact λZ6 Y6 H6 x6 A6=>⟨Z6,J6,O6,x5.trans x6,A6,ef⟩
    |brk J6 O6=>cases ef;exact(k.ext x1).ext x5
    |ret d O6=>cases ef;exact(k.ext x1).ext x5
    |exc C fs O6=>cases ef;exact(k.ext x1).ext x5
  ·left
   have e0:i=ds.length:=by omega
   subst e0;rw[List.drop_length]at ef;unfold zsj at ef;obtain⟨hok,ef⟩:=zW ef;cases ef;exact⟨II.stop Z' H' O' x' A'.hp hok,k Z' Y' H' (x1.trans x') A'⟩
end
def zkv(g:FG)(c:FT)(G:FE)(ok:Mem->Bool)(J:Loc):List D->List D->Mem->Option (D×Mem)
 |[],ys,O=>bif ok O then some (.loc O.length,O++[.lst ys]) else none
 |x::xs,ys,O=>bif ok O then(g x J O).bind λp=>(c p.1 p.2).bind λt=>bif t.1 then(G p.1 t.2).bind λq=>zkv g c G ok J xs (ys++[q.1]) q.2 else zkv g c G ok J xs ys t.2 else none
@[simp] def δC(n:Nat)(fr:List Nat)(J:Loc):Loc:=yC n none++fr.map λi=>(J[i]?).getD none
@[simp] def few(ds:List D):Bool:=decide (ds.length<=1000000)
@[simp] def fLC(n:Nat)(fr:List Nat)(i:FI)(g:FG)(c:FT)(G:FE):FE:=λJ O=>(i J O).bind λp=>bif few p.1 then zkv g c G p.2.1 (δC n fr J) p.1 [] p.2.2 else none
def MF(X:Cx)(ifs:List yE)(c:FT):Prop:=PF X ifs (tMT X.K c)
@[simp] def zRh:FT:=λ_ O=>some (true,O)
def zcd{X:Cx}:MF X [] zRh:=by intro U s Y H Q I hh;obtain⟨Z,J,O,b,O',A,e,k⟩:=hh;exact zLz U s Y H Q I (by cases e;exact k Z H Ext.refl A.hp)
def zcj{X:Cx}{e:yE}{c:FT}(h:MT X e c):MF X [e] c:=zwz h
def At.δC{K:yx}{Z:List yc}{H:Hp}{Y:L2.St}{J:Loc}{O:Mem}(A:At K Z H Y J O)(n:Nat)(fr:List Nat):At K Z H (σC n fr Y) (M.δC n fr J) O:=by
 refine⟨λi d e=>?_,A.hp,by unfold σC M.δC;simp⟩;unfold M.δC at e;unfold σC
 by_cases hi:i<n
 ·rw[yr (by simpa using hi),YR]at e
  split at e<;>cases e
 ·have hi:n<=i:=Nat.le_of_not_lt hi;rw[yM (by simpa using hi),Xi,yg]at e;rw[yM (by simpa using hi),Xi,yg]
  cases e1:fr[i-n]? with
  |none=>rw[e1]at e;cases e
  |some j=>
   rw[e1]at e;have e2:(J[j]?).getD none=some d:=Yj e
   have e3:J[j]?=some (some d):=by
    cases q:J[j]? with
    |none=>rw[q]at e2;cases e2
    |some z=>rw[q]at e2;exact congrArg some e2
   obtain⟨v,hv,r⟩:=A.st j d e3;exact⟨v,by rw[xE,hv];rfl,r⟩
def sg(n:Nat)(Y Y':L2.St):Prop:=Y'.length=Y.length/\∀(i:Nat),n<=i->Y'[i]?=Y[i]?
def sg.refl{n:Nat}{Y:L2.St}:sg n Y Y:=⟨rfl,λ_ _=>rfl⟩
def sg.trans{n:Nat}{Y Y1 Y2:L2.St}(a:sg n Y Y1)(b:sg n Y1 Y2):sg n Y Y2:=⟨b.1.trans a.1,λi h=>(b.2 i h).trans (a.2 i h)⟩
def tGc(K:yx)(n:Nat)(g:FG):TG:=λv Y H Q=>∃Z J O d J' O',At K Z H Y J O/\tx K Z H d v/\g d J O=some (J',O')/\∀Z' Y' H',Ext Z H Z' H'->At K Z' H' Y' J' O'->sg n Y Y'->Q Y' H'
def zpC(K:yx)(n:Nat)(g:FGs):TGs:=λvs Y H Q=>∃Z J O ds J' O',At K Z H Y J O/\tf K Z H ds vs/\g ds J O=some (J',O')/\∀Z' Y' H',Ext Z H Z' H'->At K Z' H' Y' J' O'->sg n Y Y'->Q Y' H'
def MGc(X:Cx)(n:Nat)(t:yE)(g:FG):Prop:=PG X t (tGc X.K n g)
def zWA(X:Cx)(n:Nat)(t:List yE)(g:FGs):Prop:=PGs X t (zpC X.K n g)
section
variable {X:Cx}{e:yE}{es:List yE}{pos:xp}{n:Nat}
def zU{x:yt}(i:Nat)(hin:i<n:=by decide)(hN:X.N.Nodup:=by first|assumption|decide)(hi:X.N[i]?=some x:=by rfl)(hx:L2.Loc X.env.scope x:=by first|exact Or.inl rfl|exact Or.inr rfl)(hf:X.fn x=true\/X.env.scope.names.lookup x=some .local:=by first|exact .inl rfl|exact .inr rfl|assumption):MGc X n (.Name x pos) (gN i) :=
 by intro U s Y H v u Q I r hh;obtain⟨Z,J,O,d,J',O',A,q,e,k⟩:=hh;exact zmt hN hi hx hf U s Y H v u Q I r (by
  cases e;exact k Z _ H Ext.refl (A.set q i) ⟨by simp,λj hj=>yL (by omega)⟩)
def z1n:zWA X n [] zTh:=by intro U s Y H v u Q I r hh;obtain⟨Z,J,O,d,J',O',A,q,e,k⟩:=hh;exact zXt U s Y H v u Q I r (by
 unfold zTh at e
 split at e
 ·cases e;exact⟨q.nil_inv,k Z Y H Ext.refl A sg.refl⟩
 ·cases e)
def zpf{g:FG}{gs:FGs}(h1:MGc X n e g)(h2:zWA X n es gs)(hs:(Yw (e::es) X.env).map (·.2)=assign e X.env::(Yw es X.env).map (·.2):=by rfl):zWA X n (e::es) (zTb g gs) :=
 by intro U s Y H vs us Q I r hh;obtain⟨Z,J,O,ds,J',O',A,q,e,k⟩:=hh;exact zlr h1 h2 hs U s Y H vs us Q I r (by
  unfold zTb at e
  split at e
  ·obtain⟨⟨J1,O1⟩,e1,e⟩:=zi e;obtain⟨v,vr,rfl,q1,q2⟩:=q.cons_inv;refine⟨v,vr,rfl,Z,J,O,_,J1,O1,A,q1,e1,λZ1 Y1 H1 x1 A1 f1=>?_⟩;exact⟨Z1,J1,O1,_,J',O',A1,q2.ext x1,e,λZ2 Y2 H2 x2 A2 f2=>k Z2 Y2 H2 (x1.trans x2) A2 (f1.trans f2)⟩
  ·cases e)
def zbq{k m:Nat}{gs:FGs}(h:zWA X n es gs)(hc:X.calm=true:=by rfl)(hn:(Yw es X.env).length=m:=by rfl)(hst:(Yw es X.env).findIdx? (·.1)=none:=by rfl):MGc X n (.Tuple es k pos) (gT m gs) :=
 by intro U s Y H v u Q I r hh;obtain⟨Z,J,O,d,J',O',A,q,e,k⟩:=hh;exact zWw hc h hn hst U s Y H v u Q I r (by
  unfold gT at e
  split at e
  ·obtain⟨h1,e⟩:=zW e;obtain⟨a,vs,rfl,e2,q2⟩:=q.tT;exact⟨a,vs,rfl,SqT.of e2,by rw[<-q2.length];exact beq_iff_eq.mp h1,Z,J,O,_,J',O',A,q2,e,k⟩
  ·cases e)
end
def z2s{n:Nat}{fr:List Nat}{Y Y':L2.St}(f:sg n (σC n fr Y) Y'):z6x (σC n fr Y) Y':=by
 refine⟨f.1,λi v e=>?_⟩;obtain⟨hi,_⟩:=σC_get e;rw[f.2 i hi];exact e
def Tv:1000000<yD:=by rw[Yr];decide
def z9B{K:yx}{n:Nat}{fr:List Nat}{i:FI}{g:FG}{c:FT}{G:FE}{Z:List yc}{J:Loc}{O:Mem}{Y:L2.St}{H:Hp}{d:D}{O':Mem}{Q:VK}(A:At K Z H Y J O)(e:fLC n fr i g c G J O=some (d,O'))
 (k:∀Z' H' v,Ext Z H Z' H'->tI K Z' H' O'->tx K Z' H' d v->Q v H'):tLC n fr (tMI K i) (tGc K n g) (tMT K c) (tM K G) Y H Q:=by
 obtain⟨⟨ds,ok,O1⟩,e1,e⟩:=zi e;obtain⟨hfew,e⟩:=zW e;have hfew:ds.length<=1000000:=of_decide_eq_true hfew;refine⟨Z,J,O,ds,ok,O1,A,e1,λZ1 H1 δ x1 R1 II=>?_⟩;refine⟨λi m ys H'=>∃Z' es O2,Ext Z1 H1 Z' H'/\tI K Z' H' O2/\tf K Z' H' es ys/\es.length<=i/\i<=ds.length/\m=ds.length-i/\zkv g c G ok (δC n fr J) (ds.drop i) es O2=some (d,O'),⟨_,Z1,[],O1,Ext.refl,R1,.nil,Yt _,Yt _,rfl,e⟩,?_⟩;rintro i m ys H' ⟨Z',es,O2,x',R',re,hel,hi,rfl,ef⟩
 by_cases hlt:i<ds.length
 ·right
  have hd:ds.drop i=ds[i]::ds.drop (i+1):=drop_eq_getElem_cons hlt;rw[hd]at ef;unfold zkv at ef;obtain⟨hok,ef⟩:=zW ef;obtain⟨⟨J2,O3⟩,e2,ef⟩:=zi ef;obtain⟨⟨b,O4⟩,e3,ef⟩:=zi ef;refine⟨II.go Z' H' O2 i x' R' hok hlt,?_,λx H'' y=>?_⟩
  ·rw[<-re.length];exact Nat.lt_of_le_of_lt (yF hel (yF hi hfew)) Tv
  ·obtain⟨xe,Re,rx⟩:=II.yld Z' H' O2 i x H'' ds[i] x' R' hok (by simp[hlt]) y;have x':=x'.trans xe;have re:=re.ext xe;have A':At K Z' H'' (σC n fr Y) (δC n fr J) O2:=((A.ext x1 R1).ext x' Re).δC n fr;refine⟨Z',_,O2,ds[i],J2,O3,A',rx,e2,λZ4 Y4 H4 x4 A4 f4=>⟨z2s f4,?_⟩⟩;refine⟨Z4,J2,O3,b,O4,A4,e3,λZ5 H5 x5 R5=>?_⟩
   cases b with
   |false=>exact Sq ⟨ds.length-(i+1),by omega,Z5,es,O4,x'.trans (x4.trans x5),R5,re.ext (x4.trans x5),by omega,hlt,rfl,ef⟩
   |true=>
    obtain⟨⟨y,O6⟩,e4,ef⟩:=zi ef;refine Sr ⟨Z5,J2,O4,y,O6,A4.ext x5 R5,e4,λZ6 H6 v x6 R6 r6=>?_⟩;exact⟨ds.length-(i+1),by omega,Z6,es++[y],O6,x'.trans (x4.trans (x5.trans x6)),R6,(re.ext (x4.trans (x5.trans x6))).append (.cons r6 .nil),by simp;exact hel,hlt,rfl,ef⟩
 ·left
  have e0:i=ds.length:=by omega
  subst e0;rw[List.drop_length]at ef;unfold zkv at ef;obtain⟨hok,ef⟩:=zW ef;cases ef;refine⟨II.stop Z' H' O2 x' R' hok,λp hp=>?_⟩;exact k _ _ _ (x1.trans (x'.trans (Ext.push hp))) (R'.push hp ⟨ys,zF,re.ext (Ext.push hp)⟩) (.loc (zzb R'))
def zgB{X:Cx}{scope:Xm}{elt tg iter:yE}{ifs:List yE}{pos:xp}{i:FI}{g:FG}{c:FT}{G:FE}(own:List yt)(fr:List Nat)(hi:MI X tg iter i)
 (hg:∀cl C s₀ H₀ fp,MGc (cxC X own fr scope cl C s₀ H₀ fp) own.length tg g) (hq:∀cl C s₀ H₀ fp,MF (cxC X own fr scope cl C s₀ H₀ fp) ifs c) (he:∀cl C s₀ H₀ fp,ME (cxC X own fr scope cl C s₀ H₀ fp) elt G)
 (hc:X.calm=true:=by rfl) (hk:scope.kind=.function:=by rfl) (hnm:∀y∈scope.names,scope.names.lookup y.1=some y.2:=by decide)
 (hfree:∀x∈scope.names,x.2=.free->(X.env.kindOf x.1=some .cell\/X.env.kindOf x.1=some .free):=by decide) (hfr:∀i∈fr,∃x,X.N[i]?=some x/\scope.names.lookup x=some .free)
 (hs:∀x,YV iter X.env x=pure x:=by intro _;rfl):ME X (.ListComp elt [⟨tg,iter,ifs,0⟩] scope pos) (fLC own.length fr i g c G) :=
 zfe (zbB (wi:=tMI X.K i) (g:=tGc X.K own.length g) (tc:=tMT X.K c) (te:=tM X.K G) own fr hc hi (λcl C s₀ H₀ fp=>hg cl C s₀ H₀ fp) (λcl C s₀ H₀ fp=>hq cl C s₀ H₀ fp) (λcl C s₀ H₀ fp=>he cl C s₀ H₀ fp) hk hnm hfree hfr hs) λZ J O Y H d O' Q A e k=>z9B A e k
def toP(O:Mem):Nat->D->Option xS
 |0,_=>none
 |n+1,d=>match d with
  |.non=>some .none
  |.bl b=>some (.bool b)
  |.int i=>some (.int i)
  |.str x=>bif PyData.strOk x then some (.str x) else none
  |.ty _=>none
  |.own _=>none
  |.tup ds=>(ds.mapM (toP O n)).bind λps=>some (.tuple ps)
  |.fz ds=>(ds.mapM (toP O n)).bind λps=>some (.list ps)
  |.loc k=>match O[k]? with
   |some (.lst ds)=>(ds.mapM (toP O n)).bind λps=>some (.list ps)
   |_=>none
def z0j{f:D->Option xS}{ps:List xS}(h:([]:List D).mapM f=some ps):ps=[]:=by
 simp at h;exact h
def zbj{f:D->Option xS}{d:D}{ds:List D}{ps:List xS}(h:(d::ds).mapM f=some ps):∃p r,f d=some p/\ds.mapM f=some r/\ps=p::r:=by
 rw[mapM_cons]at h;obtain⟨p,e1,h⟩:=zi h;obtain⟨r,e2,h⟩:=zi h;cases h;exact⟨p,r,e1,e2,rfl⟩
def zPm{f:D->Option xS}{m:Nat}(hf:∀d p,f d=some p->p.canLay0=true/\p.depth<=m):∀{ds:List D} {ps:List xS},ds.mapM f=some ps->Xo ps=true/\PyData.depthAll ps<=m
 |[],ps,h=>by rw[z0j h];exact⟨rfl,Yt _⟩
 |d::ds,ps,h=>by
  obtain⟨p,r,e1,e2,rfl⟩:=zbj h;obtain⟨h1,h2⟩:=hf d p e1;obtain⟨h3,h4⟩:=zPm hf e2;refine⟨?_,?_⟩
  ·simp only[Xo,h1,h3,Bool.and_true]
  ·simp only[PyData.depthAll];omega
def zVk{O:Mem}:∀(n:Nat)(d:D)(p:xS),toP O n d=some p->p.canLay0=true/\p.depth<=n
 |0,d,p,h=>by cases h
 |n+1,d,p,h=>by
  have seq:∀{ds:List D} {c:List xS->xS},(∀ps,(c ps).canLay0=Xo ps)->(∀ps,(c ps).depth=PyData.depthAll ps+1)->((ds.mapM (toP O n)).bind λps=>some (c ps))=some p->p.canLay0=true/\p.depth<=n+1:=λ{ds c} h1 h2 h=>by
   obtain⟨ps,e1,e2⟩:=zi h;cases e2;obtain⟨q1,q2⟩:=zPm (zVk n) e1;exact⟨by rw[h1];exact q1,by rw[h2];omega⟩
  unfold toP at h
  cases d with
  |non=>cases h;exact⟨rfl,Yt _⟩
  |bl b=>cases h;exact⟨rfl,Yt _⟩
  |int b=>cases h;exact⟨rfl,Yt _⟩
  |str x=>
   obtain⟨h1,h2⟩:=zW h;cases h2;exact⟨h1,Yt _⟩
  |ty _=>cases h
  |own _=>cases h
  |tup ds=>exact seq (λ_=>rfl) (λ_=>rfl) h
  |fz ds=>exact seq (λ_=>rfl) (λ_=>rfl) h
  |loc k=>
   dsimp only at h
   split at h
   ·exact seq (λ_=>rfl) (λ_=>rfl) h
   ·cases h
section
variable {X:Cx}{U:List (yc×YT)}{Y:L2.St}{H:Hp}{s:yd}{Z:List yc}{O:Mem}
def zGi{f:D->Option xS}(hf:∀d p v u,f d=some p->tx X.K Z H d v->RelV v u->∃as,Reads s.heap u p as):∀{ds:List D} {ps:List xS} {vs:List V} {us:List Value},ds.mapM f=some ps->tf X.K Z H ds vs->Vals vs us->∃as,ReadsAll s.heap us ps as
 |[],ps,vs,us,h,r,q=>by
  rw[z0j h];rw[r.nil_inv]at q;cases q;exact⟨[],.nil⟩
 |d::ds,ps,vs,us,h,r,q=>by
  obtain⟨p,pr,e1,e2,rfl⟩:=zbj h;obtain⟨v,vr,rfl,r1,r2⟩:=r.cons_inv
  cases q with
  |cons q1 q2=>
   obtain⟨a1,h1⟩:=hf _ _ _ _ e1 r1 q1;obtain⟨a2,h2⟩:=zGi hf e2 r2 q2;exact⟨_,.cons h1 h2⟩
def zyf(I:Inv X U Y H s)(R:tI X.K Z H O):∀(n:Nat)(d:D)(p:xS)(v:V)(u:Value),toP O n d=some p->tx X.K Z H d v->RelV v u->∃as,Reads s.heap u p as
 |0,d,p,v,u,h,_,_=>by cases h
 |n+1,d,p,v,u,h,r,q=>by
  unfold toP at h
  cases d with
  |non=>cases h;rw[r.tK]at q;cases q;exact⟨_,.none⟩
  |bl b=>cases h;rw[r.tN]at q;cases q;exact⟨_,.bool b⟩
  |int b=>cases h;rw[r.int_inv]at q;obtain⟨t,rfl⟩:=q;exact⟨_,.int b t⟩
  |str x=>
   obtain⟨h1,h2⟩:=zW h;cases h2;rw[r.str_inv]at q;obtain⟨t,rfl⟩:=q;exact⟨_,.str x t⟩
  |ty _=>cases h
  |own _=>cases h
  |tup ds=>
   obtain⟨ps,e1,e2⟩:=zi h;cases e2;obtain⟨a,vs,rfl,e3,rr⟩:=r.tT;cases q;obtain⟨its,rv,⟨o,ho,hc,k,hd⟩,_⟩:=I.tuple (SqT.of e3);obtain⟨as,ha⟩:=zGi (zyf I R n) e1 rr rv;exact⟨_,reads_tuple_at ho hc hd (by simpa using ha)⟩
  |fz ds=>
   obtain⟨ps,e1,e2⟩:=zi h;cases e2;obtain⟨a,vs,rfl,e3,rr⟩:=r.sL;cases q;obtain⟨its,rv,⟨o,k,ho,hc,_,hd⟩,_⟩:=I.list e3.sq;obtain⟨as,ha⟩:=zGi (zyf I R n) e1 rr rv;exact⟨_,reads_list_at ho hc hd (by simpa using ha)⟩
  |loc k=>
   dsimp only at h
   split at h
   ·rename_i hm
    obtain⟨ps,e1,e2⟩:=zi h;cases e2;obtain⟨a,rfl,e2⟩:=r.tz;obtain⟨vs,e3,rr⟩:=R.at_ _ _ _ e2 hm;cases q;obtain⟨its,rv,⟨o,k,ho,hc,_,hd⟩,_⟩:=I.list (SqL.of (K:=X.K) e3);obtain⟨as,ha⟩:=zGi (zyf I R n) e1 rr rv;exact⟨_,reads_list_at ho hc hd (by simpa using ha)⟩
   ·cases h
end
def gEq:φ2:=λx y O=>(toP O 8 x).bind λp=>(toP O 8 y).bind λq=>some (.bl (Yo p q),O)
def gNe:φ2:=λx y O=>(toP O 8 x).bind λp=>(toP O 8 y).bind λq=>some (.bl (!PyData.eqv p q),O)
def zci{O:Mem}{d:D}{p:xS}(h:toP O 8 d=some p):SeqAt.shaped p=true:=by
 obtain⟨h1,h2⟩:=zVk 8 d p h;unfold SeqAt.shaped;rw[h1,decide_eq_true (by omega)];rfl
section
variable {X:Cx}{a b c e:yE}{es:List yE}{G ψ χ:FE}{pos:xp}
def zFc(hu:X.A.units+64<cLine):OpM X (Yx .Eq) gEq:=by
 refine OpM.of λU s Y H x y v u Q I rx ry Z dx dy O d O' r1 r2 R e k=>?_;obtain⟨p,e1,e⟩:=zi e;obtain⟨q,e2,e⟩:=zi e;cases e;obtain⟨as,h1⟩:=zyf I R 8 dx p x v e1 r1 rx;obtain⟨bs,h2⟩:=zyf I R 8 dy q y u e2 r2 ry;exact eq_dataH h1 h2 (zci e1) (zci e2) hu ⟨.bl _,H,I,rfl,k Z H _ Ext.refl R .bl⟩
def zXj(hu:X.A.units+64<cLine):OpM X (Yx .NotEq) gNe:=by
 refine OpM.of λU s Y H x y v u Q I rx ry Z dx dy O d O' r1 r2 R e k=>?_;obtain⟨p,e1,e⟩:=zi e;obtain⟨q,e2,e⟩:=zi e;cases e;obtain⟨as,h1⟩:=zyf I R 8 dx p x v e1 r1 rx;obtain⟨bs,h2⟩:=zyf I R 8 dy q y u e2 r2 ry;exact ne_dataH h1 h2 (zci e1) (zci e2) hu ⟨.bl _,H,I,rfl,k Z H _ Ext.refl R .bl⟩
@[simp] def gIs:φ2:=λx y O=>match x,y with
 |.bl i,.bl j=>some (.bl (i==j),O)
 |.non,.non=>some (.bl true,O)
 |.bl _,.non=>some (.bl false,O)
 |.int _,.non=>some (.bl false,O)
 |.str _,.non=>some (.bl false,O)
 |.tup _,.non=>some (.bl false,O)
 |.loc _,.non=>some (.bl false,O)
 |_,_=>none
@[simp] def z5i:φ2:=λx y O=>match x,y with
 |.bl i,.bl j=>some (.bl (i != j),O)
 |.non,.non=>some (.bl false,O)
 |.bl _,.non=>some (.bl true,O)
 |.int _,.non=>some (.bl true,O)
 |.str _,.non=>some (.bl true,O)
 |.tup _,.non=>some (.bl true,O)
 |.loc _,.non=>some (.bl true,O)
 |_,_=>none
def z0w:OpM X (Yx .Is) gIs:=by
 refine OpM.of λU s Y H x y v u Q I rx ry Z dx dy O d O' r1 r2 R e k=>?_;unfold gIs at e
 split at e<;>cases e
 ·rw[r1.tN]at rx;rw[r2.tN]at ry;cases rx;cases ry;exact is_bool ⟨.bl _,H,I,rfl,k Z H _ Ext.refl R .bl⟩
 ·exact zOm U s Y H x y v u Q I rx ry ⟨r2.tK,by rw[r1.tK];exact k Z H _ Ext.refl R .bl⟩
 ·exact zOm U s Y H x y v u Q I rx ry ⟨r2.tK,by rw[r1.tN];exact k Z H _ Ext.refl R .bl⟩
 ·exact zOm U s Y H x y v u Q I rx ry ⟨r2.tK,by rw[r1.int_inv];exact k Z H _ Ext.refl R .bl⟩
 ·exact zOm U s Y H x y v u Q I rx ry ⟨r2.tK,by rw[r1.str_inv];exact k Z H _ Ext.refl R .bl⟩
 ·exact zOm U s Y H x y v u Q I rx ry ⟨r2.tK,by obtain⟨a,vs,rfl,_⟩:=r1.tT;exact k Z H _ Ext.refl R .bl⟩
 ·exact zOm U s Y H x y v u Q I rx ry ⟨r2.tK,by obtain⟨a,rfl,_⟩:=r1.tz;exact k Z H _ Ext.refl R .bl⟩
def zAg:OpM X (Yx .IsNot) z5i:=by
 refine OpM.of λU s Y H x y v u Q I rx ry Z dx dy O d O' r1 r2 R e k=>?_;unfold z5i at e
 split at e<;>cases e
 ·rw[r1.tN]at rx;rw[r2.tN]at ry;cases rx;cases ry;exact isnot_bool ⟨.bl _,H,I,rfl,k Z H _ Ext.refl R .bl⟩
 ·exact zEj U s Y H x y v u Q I rx ry ⟨r2.tK,by rw[r1.tK];exact k Z H _ Ext.refl R .bl⟩
 ·exact zEj U s Y H x y v u Q I rx ry ⟨r2.tK,by rw[r1.tN];exact k Z H _ Ext.refl R .bl⟩
 ·exact zEj U s Y H x y v u Q I rx ry ⟨r2.tK,by rw[r1.int_inv];exact k Z H _ Ext.refl R .bl⟩
 ·exact zEj U s Y H x y v u Q I rx ry ⟨r2.tK,by rw[r1.str_inv];exact k Z H _ Ext.refl R .bl⟩
 ·exact zEj U s Y H x y v u Q I rx ry ⟨r2.tK,by obtain⟨a,vs,rfl,_⟩:=r1.tT;exact k Z H _ Ext.refl R .bl⟩
 ·exact zEj U s Y H x y v u Q I rx ry ⟨r2.tK,by obtain⟨a,rfl,_⟩:=r1.tz;exact k Z H _ Ext.refl R .bl⟩
inductive Ty where
 |non|bl|int|str|tup|lst|dict
 deriving DecidableEq
@[simp] def zZA(O:Mem):D->Option Ty
 |.non=>some .non
 |.bl _=>some .bl
 |.int _=>some .int
 |.str _=>some .str
 |.tup _=>some .tup
 |.loc n=>match O[n]? with
  |some (.lst _)=>some .lst
  |some (.dct _)=>some .dict
  |_=>none
 |_=>none
@[simp] def Ty.name:Ty->String
 |.non=>"NoneType" | .bl=>"bool" | .int=>"int" | .str=>"str" | .tup=>"tuple" | .lst=>"list" | .dict=>"dict"
@[simp] def znB:Ty->Ty->Bool
 |.bl,.int=>true
 |.non,.non=>true
 |.bl,.bl=>true
 |.int,.int=>true
 |.str,.str=>true
 |.tup,.tup=>true
 |.lst,.lst=>true
 |.dict,.dict=>true
 |_,_=>false
@[simp] def z3u(c:Ty):GL:=λds O=>match ds with
 |[x,.ty n]=>bif n==c.name then(zZA O x).bind λt=>some (.bl (znB t c),O) else none
 |_=>none
def zxy{K:yx}{Z:List yc}{H:Hp}{O:Mem}{x:D}{v:V}{t:Ty}(R:tI K Z H O)(r:tx K Z H x v)(e:zZA O x=some t):sy K H v (.type t.name):=by
 cases x with
 |non=>cases e;rw[r.tK];exact .non
 |bl b=>cases e;rw[r.tN];exact .bl b
 |int b=>cases e;rw[r.int_inv];exact .int b
 |str b=>cases e;rw[r.str_inv];exact .str b
 |tup ds=>cases e;obtain⟨a,vs,rfl,e2,_⟩:=r.tT;exact .tup e2
 |loc n=>
  unfold zZA at e;dsimp only at e
  split at e
  ·rename_i hm;cases e;obtain⟨a,rfl,e2⟩:=r.tz;obtain⟨vs,e3,_⟩:=R.at_ _ _ _ e2 hm;exact .lst e3
  ·rename_i hm;cases e;obtain⟨a,rfl,e2⟩:=r.tz;obtain⟨vs,e3,_⟩:=R.at_ _ _ _ e2 hm;exact .dK e3
  ·cases e
 |_=>cases e
def zvA(K:yx)(t c:Ty):W.kitOne K (.type t.name) (.type c.name)=some (znB t c):=by
 cases t<;>cases c<;>first|rfl|decide +kernel
def zRi(c:Ty):tX X (.builtin "isinstance") (z3u c):=by
 refine tX.of λU s Y H xs us Q I r Z ds O d O' r1 R e k=>?_;unfold z3u at e
 split at e
 ·obtain⟨hn,e⟩:=zW e;obtain⟨t,e1,e⟩:=zi e;cases e;obtain⟨v,rr,rfl,q1,q2⟩:=r1.cons_inv;obtain⟨v2,rr2,rfl,q3,q4⟩:=q2.cons_inv;rw[q4.nil_inv,q3.ty_inv,beq_iff_eq.mp hn]at r
  cases r with
  |cons ra rb=>
   cases rb with
   |cons rc rd=>
    cases rd;cases rc;exact zjt I ra (zxy R q1 e1) (zvA X.K t c) λtk=>⟨.bl _,H,I.tok tk,rfl,k Z H _ Ext.refl R .bl⟩
 ·cases e
@[simp] def zkC:D->Bool
 |.bl _=>true
 |_=>false
@[simp] def blB:D->Bool
 |.bl b=>b
 |_=>false
@[simp] def zbz:GL:=λds O=>match ds with
 |[.loc n]=>match O[n]? with
  |some (.lst xs)=>bif xs.all zkC then some (.bl (xs.all blB),O) else none
  |_=>none
 |_=>none
def zOl(hc:X.calm=true):tX X (.builtin "all") zbz:=by
 refine tX.of λU s Y H xs us Q I r Z ds O d O' r1 R e k=>?_;unfold zbz at e
 split at e
 ·split at e
  ·rename_i n _ ys hm
   obtain⟨hb,e⟩:=zW e;cases e;obtain⟨v,rr,rfl,q1,q2⟩:=r1.cons_inv;obtain⟨a,rfl,e2⟩:=q1.tz;obtain⟨vs,e3,q3⟩:=R.at_ _ _ _ e2 hm;rw[q2.nil_inv]at r;obtain⟨u,rfl,ru⟩:=vals1 r;cases ru;obtain⟨its,rv,pl,hz⟩:=I.list (SqL.of (K:=X.K) e3);have hlt:a<s.heap.objs.size:=by obtain⟨_,_,e,_⟩:=pl;exact yk e
   refine call_all_walk (xH pl.isList ?_);refine⟨_,_,_,_,_,_,λi=>blB (ys.getD i .non),rfl,Walks.list (A:=X.A.in1) (I.ok.hd hc) s.heap.objs.size a (yu hlt) its.toArray,⟨⟨_,yp _ rfl,rfl,rfl⟩,pl.isList.push _⟩,?_,λh' tk hk=>?_⟩
   ·intro i w s' Q' E' hP hQ;have hi:its[i]?=some w:=by simpa using hP
    have hil:i<ys.length:=by
     have h1:=(List.getElem?_eq_some_iff.mp hi).1;rw[q3.length,rv.length];exact h1
    have hyi:ys[i]?=some ys[i]:=by simp[hil]
    obtain⟨vv,ev,rvv⟩:=q3.get hyi;obtain⟨ww,ew,rww⟩:=rv.get ev;rw[hi]at ew;cases ew;have hall:=List.all_eq_true.mp hb ys[i] (getElem_mem hil)
    have hQ':Q' (blB ys[i]) s':=by
     have e:ys.getD i .non=ys[i]:=by rw[getD_eq_getElem?_getD,hyi];rfl
     rw[<-e];exact hQ
    cases hyb:ys[i] with
    |bl b=>
     rw[hyb]at rvv hQ';rw[rvv.tN]at rww;cases rww;exact xG hQ'
    |_=>rw[hyb]at hall;cases hall
   ·have hsz:its.toArray.size=ys.length:=by rw[q3.length,rv.length];simp
    have eall:((yw its.toArray.size).all λi=>blB (ys.getD i .non))=ys.all blB:=by
     rw[hsz,Bool.eq_iff_iff,List.all_eq_true,List.all_eq_true];constructor
     ·intro h y hy;obtain⟨i,hi,rfl⟩:=List.mem_iff_getElem.mp hy;have:=h i (by simpa using hi);rw[getD_eq_getElem?_getD,show ys[i]?=some ys[i] by simp[hi]]at this;exact this
     ·intro h i hi;have hi':i<ys.length:=by simpa using hi
      rw[getD_eq_getElem?_getD,show ys[i]?=some ys[i] by simp[hi']];exact h ys[i] (getElem_mem hi')
    rw[eall];have I1:Inv X U Y H {s with heap:=s.heap.push {cls:=.type "list_iterator",data:=.fields #[.ref a,.int 0 0]}}:=I.kept (t':=s.toks) λb o e=>yb _ e;have hfr:=I1.hok;refine⟨.bl _,H,I.kept (h':=h') (t':=tk) λb o e=>hk b o (by simpa using yu (yk e)) (yb _ e),rfl,k Z H _ Ext.refl R .bl⟩
  ·cases e
 ·cases e
def zJw{scope:Xm}{elt tg iter:yE}{ifs:List yE}{spos py:xp}{y:yt}{fi:FI}{g:FG}{ct:FT}(i:Nat)(own:List yt)(fr:List Nat)(hi:MI X tg iter fi)
 (hg:∀cl C s₀ H₀ fp,MGc (cxC X own fr scope cl C s₀ H₀ fp) own.length tg g) (hq:∀cl C s₀ H₀ fp,MF (cxC X own fr scope cl C s₀ H₀ fp) ifs ct) (he:∀cl C s₀ H₀ fp,ME (cxC X own fr scope cl C s₀ H₀ fp) elt G)
 (hfr:∀i∈fr,∃x,X.N[i]?=some x/\scope.names.lookup x=some .free)
 (hN:X.N.Nodup:=by first|assumption|decide) (hiN:X.N[i]?=some y:=by rfl) (hy:X.env.scope.names.lookup y=some .local:=by rfl)
 (hsw:xQ (.ListComp elt [⟨tg,iter,ifs,0⟩] scope pos) (some (.Name y py)) spos.line X.env=pure true:=by rfl)
 (hc:X.calm=true:=by rfl) (hk:scope.kind=.function:=by rfl) (hnm:∀y∈scope.names,scope.names.lookup y.1=some y.2:=by decide)
 (hfree:∀x∈scope.names,x.2=.free->(X.env.kindOf x.1=some .cell\/X.env.kindOf x.1=some .free):=by decide)
 (hs:∀x,YV iter X.env x=pure x:=by intro _;rfl):MS X (.Assign [.Name y py] (.ListComp elt [⟨tg,iter,ifs,0⟩] scope pos) spos) (zKc i (fLC own.length fr fi g ct G)) :=
 zQk (z2v (wi:=tMI X.K fi) (g:=tGc X.K own.length g) (tc:=tMT X.K ct) (te:=tM X.K G) own fr hN hiN hy hc hi hsw (λcl C s₀ H₀ fp=>hg cl C s₀ H₀ fp) (λcl C s₀ H₀ fp=>hq cl C s₀ H₀ fp) (λcl C s₀ H₀ fp=>he cl C s₀ H₀ fp) hk hnm hfree hfr hs) λZ J O Y H o E A e k=>by
  obtain⟨⟨x,O1⟩,e1,e⟩:=zi e;cases e;exact z9B A e1 λZ' H' v x' R r=>k Z' _ H' x' ((A.ext x' R).set r i)
end
@[simp] def zxb:Option Out->Option (D×Mem)
 |some (.ret d O)=>some (d,O)
 |some (.next _ O)=>some (.non,O)
 |_=>none
@[simp] def zP(N:List yt)(ds:List D):Loc:=ds.map some++yC (N.length-ds.length) none
def zEr{K:yx}{Z:List yc}{H:Hp}{O:Mem}{N:List yt}{ds:List D}{vs:List V}(r:tf K Z H ds vs)(R:tI K Z H O):At K Z H (L2.start N vs) (zP N ds) O:=by
 refine⟨λi d e=>?_,R,by unfold L2.start zP;simp[r.length]⟩;unfold zP at e;unfold L2.start
 by_cases hi:i<ds.length
 ·rw[yr (by simpa using hi),yg]at e
  cases e1:ds[i]? with
  |none=>rw[e1]at e;cases e
  |some d'=>
   rw[e1]at e;cases e;obtain⟨v,e2,q⟩:=r.get e1;refine⟨v,?_,q⟩;rw[yr (by simpa[<-r.length] using hi),yg,e2];rfl
 ·rw[yM (by simpa using hi),YR]at e
  split at e<;>cases e
def fnM{P:yA}{w:yI}{K:yx}{mg:yt->Option Value}{base:yT}{x qual:yt}{st:Yb}{f:yc}{fd:yh}{N ps:List yt}{k n:Nat}{F:FF}(φ:Fun K x qual st f fd)(S:tu N ps (zo st))(hn:ps.length=n)
 (hbody:∀(cdv:Value)(A:yK)(outer:List Env)(s:yd)(H:Hp)(E:XK),tS k (A.deeper (envOfC qual (zo st) s.heap.objs.size f cdv)) ->
  ∃p,MSs (zRs CX0 P w K mg base N qual (zo st) f cdv A outer s H E).nox (zqc st) p/\∀ds O d O',ds.length=n->F ds O=some (d,O')->zxb (p (zP N ds) O)=some (d,O')) :
 tq P w K mg base CX0 (k+1) f fd ps (spM K n F):=by
 refine φ.ok S (λvs H Q E h=>by rw[hn];exact h.1) (λcdv A outer s H vs Q E hr h=>?_);obtain⟨p,hp,hF⟩:=hbody cdv A outer s H E hr;refine⟨_,hp,?_⟩;obtain⟨hl,Z,ds,O,d,O',r,R,e,k⟩:=h;have e':=hF ds O d O' (by rw[r.length];exact hl) e
 cases eo:p (zP N ds) O with
 |none=>rw[eo]at e';cases e'
 |some o=>
  rw[eo]at e';refine⟨Z,zP N ds,O,o,zEr r R,eo,?_⟩
  cases o with
  |ret d2 O2=>cases e';exact λZ' v H' x' R' r'=>k Z' H' v x' R' r'
  |next J2 O2=>cases e';exact λZ' Y' H' x' A'=>k Z' H' .non x' A'.hp .non
  |brk _ _=>cases e'
  |cont _ _=>cases e'
  |exc _ _ _=>cases e'
def zhx(sc inner:Xm):Bool:=(inner.kind == .function)&&inner.names.all (λy=>inner.names.lookup y.1==some y.2) &&
 inner.names.all λx=>x.2 != .free||sc.names.lookup x.1==some .cell||sc.names.lookup x.1==some .free
def zHo{sc inner:Xm}(h:zhx sc inner=true):inner.kind=.function:=by
 unfold zhx at h;simp only[yH,beq_iff_eq]at h;exact h.1.1
def ziv{sc inner:Xm}(h:zhx sc inner=true):∀y∈inner.names,inner.names.lookup y.1=some y.2:=by
 unfold zhx at h;simp only[yH]at h;intro y hy;exact beq_iff_eq.mp (List.all_eq_true.mp h.1.2 y hy)
def zMo{sc inner:Xm}(h:zhx sc inner=true):∀x∈inner.names,x.2=.free->(sc.names.lookup x.1=some .cell\/sc.names.lookup x.1=some .free):=by
 unfold zhx at h;simp only[yH]at h;intro y hy e;have:=List.all_eq_true.mp h.2 y hy;simpa[e] using this
def zV{N:List yt}(h:decide N.Nodup=true):N.Nodup:=of_decide_eq_true h
def zNb{P:Nat->Prop}:∀i∈([]:List Nat),P i:=λi h=>nomatch h
def z9{P:Nat->Prop}{i:Nat}{l:List Nat}(h:P i)(r:∀j∈l,P j):∀j∈i::l,P j:=λj hj=>by
 rcases List.mem_cons.mp hj with rfl|hj
 ·exact h
 ·exact r j hj
section
variable {X:Cx}{a b c e:yE}{es:List yE}{G ψ χ:FE}{pos:xp}
def mlc{scope:Xm}{elt tg iter:yE}{ifs:List yE}{i:FI}{g:FG}{ct:FT}(own:List yt)(fr:List Nat)(hi:MI X tg iter i)
 (hg:∀cl C s₀ H₀ fp,MGc (cxC X own fr scope cl C s₀ H₀ fp) own.length tg g) (hq:∀cl C s₀ H₀ fp,MF (cxC X own fr scope cl C s₀ H₀ fp) ifs ct) (he:∀cl C s₀ H₀ fp,ME (cxC X own fr scope cl C s₀ H₀ fp) elt G)
 (hfr:∀i∈fr,∃x,X.N[i]?=some x/\scope.names.lookup x=some .free) (hok:zhx X.env.scope scope=true:=by rfl) (hc:X.calm=true:=by rfl) (hs:∀x,YV iter X.env x=pure x:=by intro _;rfl) :
 ME X (.ListComp elt [⟨tg,iter,ifs,0⟩] scope pos) (fLC own.length fr i g ct G) :=
 zgB own fr hi hg hq he hc (zHo hok) (ziv hok) (zMo hok) hfr hs
def mslc{scope:Xm}{elt tg iter:yE}{ifs:List yE}{spos py:xp}{y:yt}{fi:FI}{g:FG}{ct:FT}(i:Nat)(own:List yt)(fr:List Nat)(hi:MI X tg iter fi)
 (hg:∀cl C s₀ H₀ fp,MGc (cxC X own fr scope cl C s₀ H₀ fp) own.length tg g) (hq:∀cl C s₀ H₀ fp,MF (cxC X own fr scope cl C s₀ H₀ fp) ifs ct) (he:∀cl C s₀ H₀ fp,ME (cxC X own fr scope cl C s₀ H₀ fp) elt G)
 (hfr:∀i∈fr,∃x,X.N[i]?=some x/\scope.names.lookup x=some .free) (hN:X.N.Nodup) (hiN:X.N[i]?=some y:=by rfl) (hy:X.env.scope.names.lookup y=some .local:=by rfl)
 (hsw:xQ (.ListComp elt [⟨tg,iter,ifs,0⟩] scope pos) (some (.Name y py)) spos.line X.env=pure true:=by rfl) (hok:zhx X.env.scope scope=true:=by rfl) (hc:X.calm=true:=by rfl) (hs:∀x,YV iter X.env x=pure x:=by intro _;rfl) :
 MS X (.Assign [.Name y py] (.ListComp elt [⟨tg,iter,ifs,0⟩] scope pos) spos) (zKc i (fLC own.length fr fi g ct G)) :=
 zJw i own fr hi hg hq he hfr hN hiN hy hsw hc (zHo hok) (ziv hok) (zMo hok) hs
structure FnAt(K:yx)(mg:yt->Option Value)(x:yt)(st:Yb)(ps:List yt)(f:yc)(fd:yh):Prop where
 fn:Fun K x x st f fd
 at_:mg x=some (.ref f)
 bd:Binds K fd ps []
def tD{k j n:Nat}{st:Yb}{f:yc}{fd:yh}{ps:List yt}{F:FF}{x:yt}{p:xp}{G:FA}(B:FnAt X.K X.mg x st ps f fd)(φ:tq X.prog X.w X.K X.mg X.base CX0 j f fd ps (spM X.K n F))(hr:tS k X.A)
 (ha:MAn X (e::es) G) (hj:j<=k:=by decide) (hn:(e::es).length=n:=by rfl) (hg:Gl X x:=by rfl) (hdb:(x==("__debug__":yt))=false:=by decide) (he:yj (e::es) X.env=(false,Ye e X.env)::yj es X.env:=by exact z2c rfl) (hpl:(Ym pos (yj es X.env)).any (·.1)=false:=by rfl) :
 ME X (.Call (.Name x p) (e::es) [] pos) (zB F G):=zdt φ (hr.mono hj) B.at_ B.fn.kp B.bd ha hn hg hdb he hpl
def cat0{prog:yA}{w:yI}{A:yK}{E:Value->yd->Prop}{s:yd}{t b:yc}{vs ws:List Value}{Q:Value->yd->Prop}(ht:IsTup s.heap t vs.toArray)(hb:IsTup s.heap b ws.toArray)(hv:vs=[])(h:Q (.ref b) s) :
 yn (yv prog w) A (xw .Add (.ref t) (.ref b)) Q E s:=by
 obtain⟨⟨cls,dd,data,sl⟩,ho,hc,n,hd⟩:=id ht;obtain⟨⟨cls2,dd2,data2,sl2⟩,ho2,hc2,n2,hd2⟩:=id hb;simp only at hc hd hc2 hd2;subst hc hd hc2 hd2;refine concat_meets ⟨_,ho,rfl⟩ ⟨_,ho2,rfl⟩ noFill_tuple_add seq_tuple_add PySem.F.slot_tuple_add PySem.F.entry_tuple_add (PySem.F.args_tuple_add_2 _ _) (tuple_addW0 t b vs.toArray ws.toArray n n2 dd dd2 sl sl2 (by rw[hv];rfl)) ⟨ho,ho2,h⟩
def zfc:OpM X (xw .Add) z2h:=by
 refine OpM.of λU s Y H x y v u Q I rx ry Z dx dy O d O' r1 r2 R e k=>?_;unfold z2h at e
 split at e
 ·cases e;rw[r1.int_inv]at rx;rw[r2.int_inv]at ry;obtain⟨t,rfl⟩:=rx;obtain⟨t',rfl⟩:=ry;exact add_int ⟨.int _,H,I.tok _,⟨_,rfl⟩,k Z H _ Ext.refl R .int⟩
 ·rename_i as bs
  obtain⟨h1,e⟩:=zW e;have h1:=of_decide_eq_true h1;cases e;obtain⟨a1,vs,rfl,e1,q1⟩:=r1.tT;obtain⟨a2,ws,rfl,e2,q2⟩:=r2.tT;have hm:=Tv;have hl1:=q1.length;have hl2:=q2.length
  by_cases hv:vs=[]
  ·cases rx;cases ry;obtain⟨its,rv,p1,_⟩:=I.tuple (SqT.of (K:=X.K) e1);obtain⟨its2,rv2,p2,_⟩:=I.tuple (SqT.of (K:=X.K) e2);refine cat0 p1 p2 (rv.sH.mpr hv) ⟨.ref a2,H,I,rfl,k Z H _ Ext.refl R ?_⟩;have ha:as=[]:=by rw[hv]at hl1;exact List.length_eq_zero_iff.mp hl1
   rw[ha,nil_append];exact r2
  ·refine zey U s Y H _ _ v u Q I rx ry ⟨a1,a2,vs,ws,rfl,rfl,SqT.of e1,SqT.of e2,hv,by omega,λhw=>?_,λ_ p hp=>?_⟩
   ·have hb:bs=[]:=by rw[hw]at hl2;exact List.length_eq_zero_iff.mp hl2
    rw[hb,append_nil]at k;exact k Z H _ Ext.refl R r1
   ·exact k Z _ _ (Ext.new hp) (R.Tx hp) (.tup zF ((q1.append q2).ext (Ext.new hp)))
 ·split at e
  ·rename_i hm1 hm2
   obtain⟨h1,e⟩:=zW e;have h1:=of_decide_eq_true h1;cases e;obtain⟨a1,rfl,e1⟩:=r1.tz;obtain⟨a2,rfl,e2⟩:=r2.tz;obtain⟨vs,e3,q1⟩:=R.at_ _ _ _ e1 hm1;obtain⟨ws,e4,q2⟩:=R.at_ _ _ _ e2 hm2;have hm:=Tv;have hl1:=q1.length;have hl2:=q2.length;exact zZz U s Y H _ _ v u Q I rx ry ⟨a1,a2,vs,ws,rfl,rfl,e3,e4,by omega,λp hp=>k _ _ _ (Ext.push hp) (R.push hp ⟨_,zF,(q1.append q2).ext (Ext.push hp)⟩) (.loc (zzb R))⟩
  ·cases e
 ·cases e
def zem:fillsNumberSlot (.type "tuple") "mul"=pure false :=
 PyProof.Rows.fillsNumberSlot_seq (id:="tuple.__mul__") (r:=some (.builtin "tuple.__rmul__")) PySem.F.slot_tuple_mul.lookup (by decide +kernel) PySem.F.slot_tuple_rmul.lookup (by decide +kernel)
def zCs:seqRepeat? (.type "tuple")=pure (some (.builtin "tuple.__mul__")):=by
 unfold seqRepeat?;rw[PyProof.Rows.seqSlot_of (T:="tuple") (name:="__mul__") (id:="tuple.__mul__") PySem.F.slot_tuple_mul.lookup (by decide +kernel),PyProof.Rows.seqSlot_of (T:="tuple") (name:="__rmul__") (id:="tuple.__rmul__") PySem.F.slot_tuple_rmul.lookup (by decide +kernel)];rfl
def zrj(i:Int)(t:Tok)(l:yc)(items:Array Value)(n:Nat)(dd:Option yc)(sl:Array (Option Value)) :
 Meets (xh.«int.__rmul__» ⟨[.int i t,.ref l],[]⟩) (λ_ R s=>s.heap.get? l=some {cls:=.type "tuple",dict:=dd,data:=.seq items n,slots:=sl }/\R (.ok (.ret Value.notImplemented)) s) :=
 .of_wp λprog w A R s h=>by
  obtain⟨hp,g,d,tk,os⟩:=s;obtain⟨hl,h⟩:=h
  wp_walk
  exact⟨_,rfl,h⟩
def zDn(l:yc)(items:Array Value)(n:Nat)(dd:Option yc)(sl:Array (Option Value))(i:Int)(t:Tok)(h2:2<=i)(h3:i<=1000)(h4:items.isEmpty=false)(h5:items.size<=1000)
 (hsz:((yC i.toNat items).foldl (λx1 x2=>x1++x2) #[]).size<=yD) :
 Meets (xh.«tuple.__mul__» ⟨[.ref l,.int i t],[]⟩) (λ_ R s=>s.heap.get? l=some {cls:=.type "tuple",dict:=dd,data:=.seq items n,slots:=sl } /\
  R (.ok (.ret (yG s.heap.objs.size))) {s with heap:=s.heap.push {cls:=Yv "tuple",data:=Data.seq ((yC i.toNat items).foldl (λx1 x2=>x1++x2) #[])},toks:=s.toks }) :=
 .of_wp λprog w A R s h=>by
  obtain⟨hp,g,d,tk,os⟩:=s;obtain⟨hl,h⟩:=h;have f1:=AutoSeq1.idx_int
  have c1:¬((decide (i < -(2^63))||decide (i≥2^63))=true):=by
   rw[decide_eq_false (by omega),decide_eq_false (by omega)];exact yB
  have c2:¬((items.isEmpty||i==1)=true):=by
   rw[h4,show(i==1)=false by simp;omega];exact yB
  have c3:¬((decide (i<=0)||items.isEmpty)=true):=by
   rw[h4,decide_eq_false (by omega)];exact yB
  have c4:¬((items.size:Int)*i>(2^63-1) / 8):=by
   have h6:(items.size:Int)*i<=1000*1000:=Int.mul_le_mul (by omega) h3 (by omega) (by omega);omega
  have c5:¬(Builtin.Tuple.tupleTooMany ((items.size:Int)*i)=true):=by
   have h6:(items.size:Int)*i<=1000*1000:=Int.mul_le_mul (by omega) h3 (by omega) (by omega);have hz:(yD:Int)=16777216:=by rw[Yr];rfl
   unfold Builtin.Tuple.tupleTooMany;rw[decide_eq_false (by omega)];exact yB
  wp_walk using wpAny_loadPart' hl
  rw[if_neg c1]
  wp_walk using wpAny_loadPart' hl
  rw[if_neg c2];dsimp only;rw[if_neg c3,if_neg c4,if_neg c5];refine ya (m:=xc _) (yY (yf ⟨_,rfl,h⟩) hsz)
def zrm(its:List Value):∀(n:Nat)(acc:List Value),List.foldl (λx1 x2=>x1++x2) acc.toArray (yC n its.toArray)=(acc++(yC n its).flatten).toArray
 |0,acc=>by simp
 |n+1,acc=>by
  rw[replicate_succ,List.foldl_cons,List.append_toArray,zrm its n,replicate_succ,flatten_cons,append_assoc]
def znq{K:yx}{Z:List yc}{H:Hp}{ds:List D}{vs:List V}(r:tf K Z H ds vs):∀n:Nat,tf K Z H (yC n ds).flatten (yC n vs).flatten
 |0 =>.nil
 |n+1=>by
  rw[replicate_succ,replicate_succ,flatten_cons,flatten_cons];exact r.append (znq r n)
def zCn{vs:List V}{us:List Value}(r:Vals vs us):∀n:Nat,Vals (yC n vs).flatten (yC n us).flatten
 |0 =>.nil
 |n+1=>by
  rw[replicate_succ,replicate_succ,flatten_cons,flatten_cons];exact r.append (zCn r n)
def zBe:OpM X (xw .Mult) zik:=by
 refine OpM.of λU s Y H x y v u Q I rx ry Z dx dy O d O' r1 r2 R e k=>?_;unfold zik at e
 split at e
 ·obtain⟨h1,e⟩:=zW e;cases e;rw[r1.int_inv]at rx;rw[r2.int_inv]at ry;obtain⟨t,rfl⟩:=rx;obtain⟨t',rfl⟩:=ry;exact mul_int ⟨.int _,H,I.tok _,⟨_,rfl⟩,k Z H _ Ext.refl R .int⟩ (zmw h1)
 ·rename_i ds i
  obtain⟨h1,e⟩:=zW e;have h1:=of_decide_eq_true h1;obtain⟨h2,h3,h4,h5⟩:=h1;cases e;obtain⟨a1,vs,rfl,e1,q1⟩:=r1.tT;rw[r2.int_inv]at ry;cases rx;obtain⟨t,rfl⟩:=ry;obtain⟨its,rv,⟨⟨cls,dd,data,sl⟩,ho,hc,n,hd⟩,hz⟩:=I.tuple (SqT.of (K:=X.K) e1);simp only at hc hd;subst hc hd;have hl:its.length=ds.length:=by rw[q1.length,rv.length]
  have hlen:((yC i.toNat vs).flatten).length<=yD:=by
   rw[z3t];have hm:=Tv;have h6:i.toNat*vs.length<=1000*1000:=Nat.mul_le_mul (by omega) (by rw[<-q1.length];exact h5);omega
  have e2:=zrm its i.toNat [];rw[nil_append]at e2
  have hsz:((yC i.toNat its.toArray).foldl (λx1 x2=>x1++x2) #[]).size<=yD:=by
   rw[show(#[]:Array Value)=([]:List Value).toArray from rfl,e2,size_toArray,<-(zCn rv i.toNat).length];exact hlen
  refine wpAny_binaryOp_repeat_ref (T:="tuple") (U:="int") (by decide) ⟨_,ho,rfl⟩ (λs'=>typeIs_int s' i t) zem PySem.F.fills_int_mul PySem.F.slot_int_rmul zCs PySem.F.slot_int_index.lookup
   (Xs PySem.F.slot_int_rmul (typeIs_int s i t) PySem.F.entry_int_rmul (PySem.F.args_int_rmul_2 _ _) (zrj i t a1 its.toArray n dd sl)
    ⟨ho,rfl,⟨_,ho,rfl⟩,Xs PySem.F.slot_tuple_mul ⟨_,ho,rfl⟩ PySem.F.entry_tuple_mul (PySem.F.args_tuple_mul_2 _ _) (zDn a1 its.toArray n dd sl i t h2 h3 (by rw[List.isEmpty_toArray,List.isEmpty_eq_false_iff_exists_mem];exact⟨_,getElem_mem (by omega:0<its.length)⟩) (by rw[size_toArray,hl];exact h5) hsz) ⟨ho,?_⟩⟩)
  rw[show(#[]:Array Value)=([]:List Value).toArray from rfl,e2];have hf:=I.hok.fresh (yi s.heap.objs.size);refine⟨.ref s.heap.objs.size,_,I.laid (t':=s.toks) (o:=.tup (yC i.toNat vs).flatten) (λb ob q=>yb _ q) (yi _) ?_,rfl,k Z _ _ (Ext.new hf) (R.Tx hf) (.tup zF ((znq q1 i.toNat).ext (Ext.new hf)))⟩;exact⟨hlen,_,zCn rv i.toNat,IsTup.new _ _⟩
 ·rename_i l n
  split at e
  ·rename_i ds hm
   obtain⟨h1,e⟩:=zW e;have h1:=of_decide_eq_true h1;obtain⟨h2,h3,h4⟩:=h1;cases e;obtain⟨a1,rfl,ea⟩:=r1.tz;obtain⟨vs,e3,q3⟩:=R.at_ _ _ _ ea hm;refine zxz U s Y H _ _ v u Q I rx ry ⟨a1,n,vs,rfl,r2.int_inv,e3,by omega,by omega,?_,λp hp=>k _ _ _ (Ext.push hp) (R.push hp ⟨_,zF,(znq q3 n.toNat).ext (Ext.push hp)⟩) (.loc (zzb R))⟩;have hmi:=Tv;have h6:vs.length*n.toNat<=1000*1000:=Nat.mul_le_mul (by rw[<-q3.length];exact h4) (by omega);omega
  ·cases e
 ·cases e
abbrev FO:=Loc->Mem->Option (Option Int×Mem)
def tMO(K:yx)(G:FO):TO:=λY H Q=>∃Z J O o O',At K Z H Y J O/\G J O=some (o,O')/\∀Z' H',Ext Z H Z' H'->tI K Z' H' O'->Q o H'
def MO(X:Cx)(e:Option yE)(G:FO):Prop:=PO X e (tMO X.K G)
@[simp] def pNo:FO:=λ_ O=>some (none,O)
@[simp] def zeB(G:FE):FO:=λJ O=>(G J O).bind λp=>match p.1 with
 |.int i=>some (some i,p.2)
 |_=>none
def cutD(xs:List D)(lo hi:Option Int):List D:=(xs.drop (HT.sIx xs.length 0 lo)).take (HT.sIx xs.length xs.length hi-HT.sIx xs.length 0 lo)
@[simp] def fSl(G:FE)(lo hi:FO):FE:=λJ O=>(G J O).bind λp=>(lo J p.2).bind λl=>(hi J l.2).bind λh=>match p.1 with
 |.tup ds=>some (.tup (cutD ds l.1 h.1),h.2)
 |.loc n=>match h.2[n]? with
  |some (.lst ds)=>some (.loc h.2.length,h.2++[.lst (cutD ds l.1 h.1)])
  |_=>none
 |_=>none
end
def zqt{prog:yA}{w:yI}{A:yK}{E:Value->yd->Prop}{s:yd}{t sl:yc}{items:Array Value}{vl vu:Value}{lo hi:Option Int}{Q:Value->yd->Prop}(ht:IsTup s.heap t items)(hs:s.heap.IsSliceOf sl vl vu .none)(pl:IsPart vl lo)(pu:IsPart vu hi)
 (hw:HT.sIx items.size 0 lo=0/\HT.sIx items.size items.size hi=items.size) (h:Q (.ref t) s):yn (yv prog w) A (getItem (.ref t) (.ref sl)) Q E s:=by
 obtain⟨os,hos,hcs,hds⟩:=id hs;have hTs:s.TypeIs (.ref sl) "slice":=⟨os,hos,hcs⟩
 unfold getItem
 try with_reducible refine yQ ?_
 first|refine ya (yf ?_)|skip
 refine ya (wpAny_sequenceKey ht.typeIs (by decide) ?_)
 refine ya (Yi (name:=YW "__getitem__") ht.typeIs xb
  (Yc xb ht.typeIs entry_tuple_getitem ?_ (args_tuple_getitem _ _)))
 show yn _ _ (Builtin.Tuple.tupleItemsOf (.ref t) >>= _) _ _ s;refine ya (tupleItemsOf_ ht ?_);refine ya (Xy hTs ?_);rw[if_pos (by decide)];refine ya (HT.TH hs pl pu ?_)
 have hyes:(((HT.sIx items.size 0 lo:Nat):Int)==0&&(1:Int)==1&&(HT.sIx items.size items.size hi-HT.sIx items.size 0 lo)==items.size)=true:=by
  rw[hw.1,hw.2];simp
 show yn _ _ (if(((HT.sIx items.size 0 lo:Nat):Int)==0&&(1:Int)==1&&(HT.sIx items.size items.size hi-HT.sIx items.size 0 lo)==items.size)=true then _ else _) _ _ s;rw[if_pos hyes];refine ya (m:=Builtin.Tuple.tupleIsExact _) ?_;unfold Builtin.Tuple.tupleIsExact;refine ya (Xy ht.typeIs (yf ?_));rw[if_pos (by decide)];exact ya (wpAny_rule (yf ⟨_,rfl,yf h⟩))
section
variable {X:Cx}{a b c e:yE}{es:List yE}{G ψ χ:FE}{pos p2:xp}{lo hi:Option yE}
def rSl(K:yx):V->Option Int->Option Int->Hp->VK->Prop:=λx lo hi H Q=>∃a xs,x=.ref a/\H a=some (.tup xs) /\
 ((HT.sIx xs.length 0 lo=0/\HT.sIx xs.length xs.length hi=xs.length)->Q (.ref a) H)/\∀p,H p=none->Q (.ref p) (upd H p (.tup (zvu xs lo hi)))
def zWz:SlR X (rSl X.K):=by
 intro U s Y H x v vl vu lo hi sl Q I rx hs pl pu h;obtain⟨a,xs,rfl,hx,h1,h2⟩:=h
 by_cases hw:HT.sIx xs.length 0 lo=0/\HT.sIx xs.length xs.length hi=xs.length
 ·cases rx;obtain⟨its,r,ht,hz⟩:=I.tuple (SqT.of (K:=X.K) hx);have hlen:its.toArray.size=xs.length:=by rw[size_toArray];exact r.length.symm
  exact⟨"tuple",_,PyProof.Rows.slot_tuple_getitem.lookup,ht.typeIs,zqt ht hs pl pu (by rw[hlen];exact hw) ⟨.ref a,H,I,rfl,h1 hw⟩⟩
 ·exact zbA U s Y H _ v vl vu lo hi sl Q I rx hs pl pu ⟨a,xs,rfl,SqT.of hx,hw,h2⟩
def zkB:MO X none pNo:=by intro U s Y H Q I hh;obtain⟨Z,J,O,o,O',A,e,k⟩:=hh;exact zJx U s Y H Q I (by cases e;exact k Z H Ext.refl A.hp)
def znA(h:ME X e G):MO X (some e) (zeB G):=by intro U s Y H Q I hh;obtain⟨Z,J,O,o,O',A,e,k⟩:=hh;exact zVx h U s Y H Q I (by
 obtain⟨⟨x,O1⟩,e1,e⟩:=zi e;refine⟨Z,J,O,x,O1,A,e1,λZ1 H1 v x1 R1 r1=>?_⟩;dsimp only at e
 split at e
 ·cases e;exact⟨_,r1.int_inv,k Z1 H1 x1 R1⟩
 ·cases e)
def z2p{K:yx}{Z:List yc}{H:Hp}{ds:List D}{vs:List V}{lo hi:Option Int}(r:tf K Z H ds vs):tf K Z H (cutD ds lo hi) (zvu vs lo hi):=by
 unfold cutD zvu;rw[r.length];exact(r.drop _).take _
def zOB{l h:FO}(he:ME X e G)(hl:MO X lo l)(hu:MO X hi h):ME X (.Subscript e (.Slice lo hi none p2) pos) (fSl G l h) :=
 zfe (zfw (SlR.or zWz zMx) he hl hu) λZ J O Y H d O' Q A e k=>by
  obtain⟨⟨x,O1⟩,e1,e⟩:=zi e;obtain⟨⟨o1,O2⟩,e2,e⟩:=zi e;obtain⟨⟨o2,O3⟩,e3,e⟩:=zi e;refine⟨Z,J,O,x,O1,A,e1,λZ1 H1 v x1 R1 r1=>?_⟩;refine⟨Z1,J,O1,o1,O2,A.ext x1 R1,e2,λZ2 H2 x2 R2=>?_⟩;refine⟨Z2,J,O2,o2,O3,A.ext (x1.trans x2) R2,e3,λZ3 H3 x3 R3=>?_⟩;dsimp only at e
  split at e
  ·cases e;obtain⟨a,vs,rfl,ea,q⟩:=(r1.ext (x2.trans x3)).tT;have xx:=x1.trans (x2.trans x3);refine .inl ⟨a,vs,rfl,ea,λhw=>k Z3 H3 _ xx R3 (.tup ea ?_),λp hp=>k Z3 _ _ (xx.trans (Ext.new hp)) (R3.Tx hp) (.tup zF ((z2p q).ext (Ext.new hp)))⟩
   have e4:zvu vs o1 o2=vs:=by
    unfold zvu;rw[hw.1,hw.2,Nat.sub_zero,List.drop_zero,take_length]
   have:=z2p (lo:=o1) (hi:=o2) q;rw[e4]at this;exact this
  ·split at e
   ·rename_i hm
    cases e;obtain⟨a,rfl,ea⟩:=(r1.ext (x2.trans x3)).tz;obtain⟨vs,ev,q⟩:=R3.at_ _ _ _ ea hm;have xx:=x1.trans (x2.trans x3);exact .inr ⟨a,vs,rfl,SqL.of ev,λp hp=>k _ _ _ (xx.trans (Ext.push hp)) (R3.push hp ⟨_,zF,(z2p q).ext (Ext.push hp)⟩) (.loc (zzb R3))⟩
   ·cases e
  ·cases e
@[simp] def ztC(G:FE):FE:=λJ O=>(G J O).bind λp=>match p.1 with
 |.int i=>some (.int (-i),p.2)
 |_=>none
def big{U:List (yc×YT)}{Y:L2.St}{H:Hp}{s:yd}(I:Inv X U Y H s):sysModules<s.heap.objs.size:=by
 have h:yo<s.heap.objs.size:=(I.mod.glob.keeps I.bk).lt;exact Xa (by decide) h
@[simp] def zXA:FE:=λ_ O=>some (.loc O.length,O++[.dct []])
def zbx:ME X (.Dict [] [] pos) zXA:=by
 intro U s Y H Q I hh;obtain⟨Z,J,O,d,O',A,e,k⟩:=hh;cases e;have hf:=I.hok.fresh (yi s.heap.objs.size);refine wpAny_Dict_empty ⟨.ref s.heap.objs.size,_,I.laid (a:=s.heap.objs.size) (o:=.dK []) (t':=s.toks) (λ_ _ q=>yb _ q) (yi _) ?_,rfl,k _ _ _ (Ext.push hf) (A.hp.push hf ⟨[],zF,rfl,.nil⟩) (.loc (zzb A.hp))⟩;exact⟨Yt _,beq_eq_false_iff_ne.mpr (yV (yu (big I))),[],.nil,Heap.DictOf.new _⟩
def zed:D->Bool
 |.non | .bl _ | .int _ | .str _=>true
 |_=>false
def eqF:D->D->Bool
 |.non,.non=>true
 |.bl a,.bl b=>a==b
 |.bl a,.int b=>(if a then 1 else 0)==b
 |.int a,.bl b=>a==(if b then 1 else 0)
 |.int a,.int b=>a==b
 |.str a,.str b=>a==b
 |_,_=>false
def gIn:φ2:=λx y O=>(items O y).bind λds=>bif zed x&&ds.all zed then some (.bl (ds.any λd=>eqF d x),O) else none
def zEh:φ2:=λx y O=>(items O y).bind λds=>bif zed x&&ds.all zed then some (.bl (!ds.any λd=>eqF d x),O) else none
def zKk{K:yx}{Z:List yc}{H:Hp}{d:D}{v:V}(r:tx K Z H d v)(f:zed d=true):zrl v=true:=by
 cases d with
 |non=>rw[r.tK];rfl
 |bl b=>rw[r.tN];rfl
 |int b=>rw[r.int_inv];rfl
 |str b=>rw[r.str_inv];rfl
 |_=>cases f
def zut{K:yx}{Z:List yc}{H:Hp}{d d':D}{v v':V}(r:tx K Z H d v)(r':tx K Z H d' v')(f:zed d=true)(f':zed d'=true):eqV v v'=eqF d d':=by
 cases d with
 |non=>rw[r.tK];cases d' with
  |non=>rw[r'.tK];rfl
  |bl b=>rw[r'.tN];rfl
  |int b=>rw[r'.int_inv];rfl
  |str b=>rw[r'.str_inv];rfl
  |_=>cases f'
 |bl b=>rw[r.tN];cases d' with
  |non=>rw[r'.tK];rfl
  |bl b=>rw[r'.tN];rfl
  |int b=>rw[r'.int_inv];rfl
  |str b=>rw[r'.str_inv];rfl
  |_=>cases f'
 |int b=>rw[r.int_inv];cases d' with
  |non=>rw[r'.tK];rfl
  |bl b=>rw[r'.tN];rfl
  |int b=>rw[r'.int_inv];rfl
  |str b=>rw[r'.str_inv];rfl
  |_=>cases f'
 |str b=>rw[r.str_inv];cases d' with
  |non=>rw[r'.tK];rfl
  |bl b=>rw[r'.tN];rfl
  |int b=>rw[r'.int_inv];rfl
  |str b=>rw[r'.str_inv];rfl
  |_=>cases f'
 |_=>cases f
def z0q{K:yx}{Z:List yc}{H:Hp}{x:D}{v:V}(rx:tx K Z H x v)(fx:zed x=true):∀{ds:List D} {vs:List V},tf K Z H ds vs->ds.all zed=true->vs.all zrl=true/\inV v vs=ds.any λd=>eqF d x
 |[],_,r,_=>by rw[r.nil_inv];exact⟨rfl,rfl⟩
 |d::ds,_,r,f=>by
  obtain⟨w,ws,rfl,r1,r2⟩:=r.cons_inv;rw[all_cons,yH]at f;obtain⟨h1,h2⟩:=z0q rx fx r2 f.2;refine⟨by rw[all_cons,zKk r1 f.1,h1];rfl,?_⟩;unfold inV at h2 ⊢;rw[any_cons,any_cons,h2,zut r1 rx f.1 fx]
def zcA:OpM X (Yx .In) gIn:=by
 refine OpM.of λU s Y H x y v u Q I rx ry Z dx dy O d O' r1 r2 R e k=>?_;obtain⟨ds,e1,e⟩:=zi e;obtain⟨h1,e⟩:=zW e;rw[yH]at h1;cases e;obtain⟨p,vs,rfl,hq,rr⟩:=zHg R r2 e1;obtain⟨h3,h4⟩:=z0q r1 h1.1 rr h1.2;exact z2t U s Y H x _ v u Q I rx ry ⟨p,vs,rfl,hq,zKk r1 h1.1,h3,by rw[if_neg yB,h4];exact k Z H _ Ext.refl R .bl⟩
def zef:OpM X (Yx .NotIn) zEh:=by
 refine OpM.of λU s Y H x y v u Q I rx ry Z dx dy O d O' r1 r2 R e k=>?_;obtain⟨ds,e1,e⟩:=zi e;obtain⟨h1,e⟩:=zW e;rw[yH]at h1;cases e;obtain⟨p,vs,rfl,hq,rr⟩:=zHg R r2 e1;obtain⟨h3,h4⟩:=z0q r1 h1.1 rr h1.2;exact zjp U s Y H x _ v u Q I rx ry ⟨p,vs,rfl,hq,zKk r1 h1.1,h3,by rw[if_pos rfl,h4];exact k Z H _ Ext.refl R .bl⟩
abbrev GM:=D->List D->Mem->Option (D×Mem)
@[simp] def z4h(g:GM)(G:FE)(ψ:FA):FE:=λJ O=>(G J O).bind λp=>match p.1 with
 |.loc n=>match p.2[n]? with
  |some (.lst _)=>(ψ J p.2).bind λq=>g (.loc n) q.1 q.2
  |_=>none
 |_=>none
@[simp] def zxf:GM:=λx ds O=>match x,ds with
 |.loc n,[d]=>match O[n]? with
  |some (.lst xs)=>bif decide (xs.length<=1000000) then some (.non,O.set n (.lst (xs++[d]))) else none
  |_=>none
 |_,_=>none
def MtG(X:Cx)(id:String)(g:GM):Prop:=MtR X id λx xs H Q=>∃Z dx ds O d O',tx X.K Z H dx x/\tf X.K Z H ds xs/\tI X.K Z H O/\g dx ds O=some (d,O')/\∀Z' H' v,Ext Z H Z' H'->tI X.K Z' H' O'->tx X.K Z' H' d v->Q v H'
def MtG.of{X:Cx}{id:String}{g:GM}(h:∀(U:List (yc×YT)) (s:yd) (Y:L2.St) (H:Hp) (x:V) (xs:List V) (v:Value) (us:List Value) (Q:VK),Inv X U Y H s->RelV x v->Vals xs us->∀(Z:List yc)(dx:D)(ds:List D)(O:Mem)(d:D)(O':Mem),tx X.K Z H dx x->tf X.K Z H ds xs->tI X.K Z H O->g dx ds O=some (d,O')->(∀Z' H' v,Ext Z H Z' H'->tI X.K Z' H' O'->tx X.K Z' H' d v->Q v H')->yn (yv X.prog X.w) X.A (call (.builtin id) (v::us)) (EP X U Y Q) X.xe s):MtG X id g:=by
 intro U s Y H x xs v us Q I rx rs hh;obtain⟨Z,dx,ds,O,d,O',r1,r2,R,e,k⟩:=hh;exact h U s Y H x xs v us Q I rx rs Z dx ds O d O' r1 r2 R e k
def zlo{o:yE}{ψ:FA}{name:yt}{id:String}{g:GM}{apos:xp}(slot:Slot "list" name id)(hty:typeOf (.builtin id)=pure (.type "method_descriptor"))(hm:MtG X id g)(ho:ME X o G)(ha:MAn X (e::es) ψ)
 (hbase:YA o name X.env (Ye o X.env)=Ye o X.env:=by rfl)
 (hfew:((Ym pos (yj (e::es) X.env)).all (λx=>!x.1)&&(xR pos (YQ [] X.env)).all (λx=>x.1.isSome)
  && decide ((e::es).length+([]:List xO).length+(if([]:List xO).isEmpty then 0 else 1)<30))=true:=by rfl)
 (hline:(apos.endLine==pos.line)=true:=by rfl) (hs:yj (e::es) X.env=(false,Ye e X.env)::yj es X.env:=by rfl) (hplain:(Ym pos (yj es X.env)).any (·.1)=false:=by rfl) :
 ME X (.Call (.Attribute o name apos) (e::es) [] pos) (z4h g G ψ) :=
 zfe (zoz PySem.F.plainAttrs_list slot hty hm ho ha.ma hbase hfew hline hs hplain) λZ J O Y H d O' Q A e k=>by
  obtain⟨⟨x,O1⟩,e1,e⟩:=zi e;refine⟨Z,J,O,x,O1,A,e1,λZ1 H1 v x1 R1 r1=>?_⟩;dsimp only at e
  split at e
  ·split at e
   ·rename_i hm'
    obtain⟨⟨ds,O2⟩,e2,e⟩:=zi e;obtain⟨a,rfl,ea⟩:=r1.tz;obtain⟨vs,e3,q3⟩:=R1.at_ _ _ _ ea hm';refine⟨.inl ⟨rfl,vs,SqL.of e3⟩,Z1,J,O1,ds,O2,A.ext x1 R1,e2,λZ2 H2 vs2 x2 R2 r2=>?_⟩;exact⟨Z2,_,ds,O2,d,O',r1.ext x2,r2,R2,e,λZ3 H3 v3 x3 R3 r3=>k Z3 H3 v3 (x1.trans (x2.trans x3)) R3 r3⟩
   ·cases e
  ·cases e
def z3r:MtG X "list.append" zxf:=by
 refine MtG.of λU s Y H x xs v us Q I rx rs Z dx ds O d O' r1 r2 R e k=>?_;unfold zxf at e
 split at e
 ·split at e
  ·rename_i hm
   obtain⟨h1,e⟩:=zW e;have h1:=of_decide_eq_true h1;cases e;obtain⟨a,rfl,ea⟩:=r1.tz;obtain⟨vs,e3,q3⟩:=R.at_ _ _ _ ea hm;obtain⟨w,r,rfl,q1,q2⟩:=r2.cons_inv;rw[q2.nil_inv]at rs;have hl:=q3.length;have hmi:=Tv;have hmu:Mut (H a):=by rw[e3];trivial
   refine z6u U s Y H _ _ v us Q I rx rs ⟨a,vs,w,rfl,rfl,e3,by omega,?_⟩;exact k Z _ _ (Ext.wr hmu) (R.wr hmu ea ⟨_,zF,tf.ext (Ext.wr hmu) (q3.append (.cons q1 .nil))⟩) .non
  ·cases e
 ·cases e
def zOg{o:yE}{ψ:FA}{apos:xp}(ho:ME X o G)(ha:MAn X (e::es) ψ)
 (hbase:YA o "append" X.env (Ye o X.env)=Ye o X.env:=by rfl)
 (hfew:((Ym pos (yj (e::es) X.env)).all (λx=>!x.1)&&(xR pos (YQ [] X.env)).all (λx=>x.1.isSome)
  && decide ((e::es).length+([]:List xO).length+(if([]:List xO).isEmpty then 0 else 1)<30))=true:=by rfl)
 (hline:(apos.endLine==pos.line)=true:=by rfl) (hs:yj (e::es) X.env=(false,Ye e X.env)::yj es X.env:=by rfl) (hplain:(Ym pos (yj es X.env)).any (·.1)=false:=by rfl) :
 ME X (.Call (.Attribute o "append" apos) (e::es) [] pos) (z4h zxf G ψ):=zlo PySem.F.slot_list_append PySem.F.type_list_append z3r ho ha hbase hfew hline hs hplain
end
end M
namespace M
open PySem
def RS(xs:Array Nat):Prop:=xs.toList.Pairwise (· < ·)
def zBn(xs:Array Nat)(j:Nat)(h:RS xs):∀(fuel lo hi:Nat),lo<=hi->hi<=xs.size->hi-lo<=fuel->(∀i (hi':i<xs.size),i<lo->xs[i]<j)->(∀i (hi':i<xs.size),hi<=i->j<=xs[i]) ->
 Xp xs j fuel lo hi<=xs.size/\(∀i (hi':i<xs.size),i<Xp xs j fuel lo hi->xs[i]<j)/\∀i (hi':i<xs.size),Xp xs j fuel lo hi<=i->j<=xs[i]
 |0,lo,hi,h1,h2,h3,h4,h5=>by
  have:lo=hi:=by omega
  subst this;unfold Xp;exact⟨h2,h4,h5⟩
 |fuel+1,lo,hi,h1,h2,h3,h4,h5=>by
  have hp:∀i k (hi:i<xs.size) (hk:k<xs.size),i<k->xs[i]<xs[k]:=λi k hi hk hik=>by
   have:=List.pairwise_iff_getElem.mp h i k (by simpa using hi) (by simpa using hk) hik;simpa using this
  unfold Xp
  by_cases hlt:lo<hi
  ·rw[if_pos hlt];dsimp only;have hm:(lo+hi) / 2<xs.size:=by omega
   have hg:xs.getD ((lo+hi) / 2) j=xs[(lo+hi) / 2]:=by simp[Array.getD,hm]
   rw[hg]
   by_cases hc:xs[(lo+hi) / 2]<j
   ·rw[if_pos hc];refine zBn xs j h fuel _ hi (by omega) h2 (by omega) (λi hi' hil=>?_) h5
    by_cases e:i=(lo+hi) / 2
    ·subst e;exact hc
    ·exact Xa (hp i _ hi' hm (by omega)) hc
   ·rw[if_neg hc];refine zBn xs j h fuel lo _ (by omega) (by omega) (by omega) h4 (λi hi' hil=>?_)
    by_cases e:i=(lo+hi) / 2
    ·subst e;omega
    ·exact yF (by omega) (YO (hp _ i hm hi' (by omega)))
  ·rw[if_neg hlt];have:lo=hi:=by omega
   subst this;exact⟨h2,h4,h5⟩
def zwm(xs:Array Nat)(j:Nat)(h:RS xs):YN xs j<=xs.size/\(∀i (hi:i<xs.size),i<YN xs j->xs[i]<j)/\∀i (hi':i<xs.size),YN xs j<=i->j<=xs[i] :=
 zBn xs j h xs.size 0 xs.size (Yt _) (yi _) (by omega) (λi _ h=>by omega) (λi h1 h2=>by omega)
def zUn{α:Type}(xs:Array α)(p:Nat)(x:α):(SetTable.insertAt xs p x).toList=xs.toList.take p++x::xs.toList.drop p:=by
 unfold SetTable.insertAt;simp;rw[List.take_of_length_le (by simp)]
def zSA{xs:Array Nat}{j:Nat}(h:RS xs)(hn:xs[YN xs j]?≠some j):RS (SetTable.insertAt xs (YN xs j) j):=by
 obtain⟨h0,h1,h2⟩:=zwm xs j h;unfold RS at h ⊢;rw[zUn];generalize YN xs j=r at *
 have hd:∀y∈xs.toList.drop r,j<y:=λy hy=>by
  obtain⟨i,hi,rfl⟩:=List.mem_iff_getElem.mp hy;simp at hi;have hi':r+i<xs.size:=by omega
  have h3:=h2 (r+i) hi' (by omega);have e:(xs.toList.drop r)[i]'(by simp;omega)=xs[r+i]:=by simp
  rw[e]
  by_cases hz:i=0
  ·subst hz;have:xs[r]?=some xs[r]:=by simp
   simp only[Nat.add_zero]at h3 ⊢;rw[this]at hn;have:xs[r]≠j:=λe=>hn (by rw[e]);omega
  ·have hp:=List.pairwise_iff_getElem.mp h r (r+i) (by simp;omega) (by simpa using hi') (by omega);simp at hp;have:=h2 r (by omega) (yi _);omega
 have ht:∀y∈xs.toList.take r,y<j:=λy hy=>by
  obtain⟨i,hi,rfl⟩:=List.mem_iff_getElem.mp hy;simp at hi;have e:(xs.toList.take r)[i]'(by simp;omega)=xs[i]:=by simp
  rw[e];exact h1 i (by omega) (by omega)
 rw[List.pairwise_append];refine⟨h.sublist (List.take_sublist _ _),List.pairwise_cons.mpr ⟨hd,h.sublist (List.drop_sublist _ _)⟩,λa ha b hb=>?_⟩;rcases List.mem_cons.mp hb with rfl|hb
 ·exact ht a ha
 ·exact Xa (ht a ha) (hd b hb)
structure TOk(L:Bool)(t:xz):Prop where
 rs:RS t.place
 nd:t.dummies = #[]
 led:t.led=L
def zir{j:Nat}:SetTable.has #[] j=false:=by
 unfold SetTable.has;simp
def zcr{t:xz}(hn:t.dummies = #[]){ha:Nat->Int}{h:Int}:∀(fuel:Nat)(p:SetTable.Probe)(j:Nat)(d:Option Nat),p.dummy=none->SetTable.probe.go t ha h fuel p=some (.empty j d)->t.slot j=.empty/\d=none
 |0,p,j,d,_,e=>by unfold SetTable.probe.go at e;cases e
 |fuel+1,p,j,d,hd,e=>by
  unfold SetTable.probe.go at e
  have hadv:(t.advance p).dummy=none:=by
   unfold SetTable.advance
   split
   ·exact hd
   ·exact hd
  split at e
  ·rename_i hs
   cases e;exact⟨hs,hd⟩
  ·rename_i hs
   unfold SetTable.slot at hs;dsimp only at hs;rw[hn,zir]at hs
   split at hs<;>simp at hs
  ·split at e
   ·cases e
   ·exact zcr hn fuel _ j d hadv e
def zyn{t:xz}(hn:t.dummies = #[]){h:Int}{j:Nat}{b:Bool}(e:t.freeSlot h=some (j,b)):t.place[YN t.place j]?≠some j:=by
 unfold SetTable.freeSlot at e
 split at e
 ·rename_i j' d hp
  obtain⟨h1,rfl⟩:=zcr hn _ _ _ _ rfl hp;cases e;unfold SetTable.slot at h1;dsimp only at h1;intro q;simp only[Option.getD_none]at q;rw[q]at h1;simp at h1
 ·cases e
def TOk.standIn{L:Bool}{t:xz}(h:TOk L t)(n:Nat):TOk L (t.standIn n):=by
 refine⟨?_,rfl,h.led⟩;unfold RS SetTable.standIn;rw[Array.toList_range];exact List.pairwise_lt_range
def TOk.layNew{L:Bool}{t:xz}(h:TOk L t)(es:Array (Int×Value))(hs:Int)(x:Value):TOk L (layNew t es hs x).2.1:=by
 unfold PySem.layNew
 split
 ·rename_i slot wd e
  have hne:=zyn h.nd e
  have h1:TOk L (t.put slot).1:=⟨zSA h.rs hne,by
   unfold SetTable.put;dsimp only;rw[h.nd,zir];rfl,h.led⟩
  show TOk L ((t.put slot).1.orStandIn _);unfold SetTable.orStandIn
  split
  ·exact h1
  ·exact h1.standIn _
 ·exact h.standIn _
def TOk.relay{L:Bool}{t:xz}(h:TOk L t)(es:Array (Int×Value))(wanted:Nat):TOk L (relayAll t es wanted).2.1:=by
 unfold relayAll
 split
 ·rename_i t' order e
  dsimp only
  split
  ·unfold SetTable.relaid SetTable.laid at e;obtain⟨ow,_,e⟩:=Option.bind_eq_some_iff.mp e;cases e;refine⟨?_,rfl,h.led⟩;unfold RS;dsimp only;rw[pairwise_map];refine List.Pairwise.filterMap _ (λa a' hlt b hb b' hb'=>?_) List.pairwise_lt_range;simp at hb hb';obtain⟨_,_,rfl⟩:=hb;obtain⟨_,_,rfl⟩:=hb';exact hlt
  ·exact h.standIn _
 ·exact h.standIn _
def TOk.fresh(L:Bool):TOk L (.fresh 0 0 L):=⟨List.Pairwise.nil,rfl,rfl⟩
def zMl(e:Int×Value):Int:=match e.2 with
 |.int i _=>i
 |_=>0
def TR(prog:yA)(w:yI)(h:yT)(a:yc)(ks:List Int):Prop :=
 ∃o es ep t,h.get? a=some o/\o.ExactSet/\o.data=.set es ep t/\t.fits es.size=true/\TOk (!w.params.followText "set-order") t/\ElemsOf (intKind prog w) es.toList/\(es.toList.map zMl).Perm ks
section
variable {prog:yA}{w:yI}{A:yK}{E:Value->yd->Prop}{s:yd}
def zyt{es:List (Int×Value)}{e:Int×Value}{k:Int}(h:ElemsOf (intKind prog w) es)(he:e∈es):(intKind prog w).is k e.2=true↔zMl e=k:=by
 obtain⟨⟨j,hj,_⟩,_⟩:=h e he;obtain⟨t,ht⟩:=Value.isInt_shape (show Value.isInt j e.2=true from hj);unfold zMl;rw[ht];constructor
 ·intro q;obtain⟨u,hu⟩:=Value.isInt_shape (show Value.isInt k (.int j t)=true from q);cases hu;rfl
 ·intro q;have q:j=k:=q;rw[q];exact intKind_is prog w k t
def TR.at'{h h':yT}{a:yc}{ks:List Int}(x:TR prog w h a ks)(k:∀o,h.get? a=some o->h'.get? a=some o):TR prog w h' a ks:=by
 obtain⟨o,es,ep,t,h1,h2⟩:=x;exact⟨o,es,ep,t,k o h1,h2⟩
def zjr(b:Bool){Q:Unit->yd->Prop}(h:Q () s):yn (yv prog w) A (match b with|true=>rule "set.scan.the-table-gave-way" | false=>pure ()) Q E s:=by
 cases b
 ·exact yf h
 ·exact wpAny_rule h
def stored{o:YT}{h:yT}{a:yc}{es:Array (Int×Value)}{ep:Nat}{t:xz}(ho:h.get? a=some o)(hd:o.data=.set es ep t)(es1:Array (Int×Value))(t1:xz) :
 (h.update a (Obj.putSet es1 t1)).get? a=some {o with data:=.set es1 (ep+1) t1 }:=by
 have e:=putSet_of es1 t1 hd;have q:=yN (Obj.putSet es1 t1) ho (by rw[e];rfl);rw[e]at q;exact q
def zox{a:yc}{ks:List Int}{k:Int}{tk:Tok}{Q:Bool->yd->Prop}(hS:TR prog w s.heap a ks)(hroom:ks.length+1<scanBound)
 (h:∀b h',Yp a s.heap h'->TR prog w h' a (if k∈ks then ks else ks++[k])->Q b {s with heap:=h' }):yn (yv prog w) A (setAddHashed a (.int k tk) (hashInt k)) Q E s:=by
 obtain⟨o,es,ep,t,ho,hex,hd,hf,hT,hel,hp⟩:=hS
 have hsz:es.size=ks.length:=by
  have:=hp.length_eq;simpa using this
 have hmem:k∈ks↔∃e∈es.toList,zMl e=k:=by
  rw[<-hp.mem_iff,mem_map]
 unfold setAddHashed setAddHashedIn;refine yQ (ya (YY ho hd hf ?_));dsimp only;rw[byScan_of (knd:=intKind prog w) (x:=.int k tk) rfl (by omega) hel];simp only[↓reduceIte];unfold setAddByScan;refine ya (ya (wpAny_rule (ya (wpAny_setScan_of (knd:=intKind prog w) (k:=k) (intKind_is prog w k tk) ho hd hf hel ?_))))
 cases hr:List.findIdx? (λe=>(intKind prog w).is k e.2) es.toList with
 |some j=>
  dsimp only;obtain⟨hj,hpj,_⟩:=List.findIdx?_eq_some_iff_getElem.mp hr;have hk:k∈ks:=hmem.mpr ⟨es.toList[j],getElem_mem hj,(zyt hel (getElem_mem hj)).mp hpj⟩;have q:=h false s.heap (Heap.SameBut.refl a s.heap) ⟨o,es,ep,t,ho,hex,hd,hf,hT,hel,by rw[if_pos hk];exact hp⟩;exact yf (yf q)
 |none=>
  dsimp only
  have hk:k∉ks:=λhk=>by
   obtain⟨e,he,q⟩:=hmem.mp hk;have:=List.findIdx?_eq_none_iff.mp hr e he;rw[(zyt hel he).mpr q]at this;cases this
  rw[if_neg hk]at h;have p1:=layNew_perm t es (hashInt k) (.int k tk);have f1:=layNew_fits t es (hashInt k) (.int k tk);have T1:=hT.layNew es (hashInt k) (.int k tk);show yn _ _ (_ >>= _) _ _ _;generalize layNew t es (hashInt k) (.int k tk)=L1 at p1 f1 T1 ⊢;obtain⟨es1,t1,wd,gv⟩:=L1;dsimp only at p1 f1 T1 ⊢;rw[Array.toList_push]at p1;have el1:ElemsOf (intKind prog w) es1.toList:=(hel.push (intKind_is prog w k tk) rfl).perm p1
  have pk1:(es1.toList.map zMl).Perm (ks++[k]):=by
   refine(p1.map zMl).trans ?_;rw[map_append];exact hp.append_right _
  have z1:es1.size=ks.length+1:=by
   have:=pk1.length_eq;simpa using this
  refine ya (zjr gv ?_)
  have fin:yn (yv prog w) A (do
   storeSet a es1 t1
   if (!wd && t1.tooFull)=true then
    match relayAll t1 es1 (Xu es1.size) with
    |(es2,t2,gv2)=>do
     (match gv2 with|true=>rule "set.scan.the-table-gave-way" | false=>pure ())
     storeSet a es2 t2
     pure (some true)
   else pure (some true)) (λr s'=>∃h',s' = {s with heap:=h' }/\r=some true/\Yp a s.heap h'/\TR prog w h' a (ks++[k])) E s:=by
   refine ya (wpAny_storeSet_of ho hd ?_ (fits_of_scanBound (by omega)));have s1:=stored ho hd es1 t1;have b1:=YE s.heap a (Obj.putSet es1 t1)
   split
   ·have p2:=relayAll_perm t1 es1 (Xu es1.size);have f2:=relayAll_fits t1 es1 (Xu es1.size);have T2:=T1.relay es1 (Xu es1.size);generalize relayAll t1 es1 (Xu es1.size)=L2 at p2 f2 T2 ⊢;obtain⟨es2,t2,gv2⟩:=L2;dsimp only at p2 f2 T2 ⊢
    have z2:es2.size=es1.size:=by
     have:=p2.length_eq;simpa using this
    refine ya (zjr gv2 (ya (wpAny_storeSet_of s1 rfl ?_ (fits_of_scanBound (by omega)))));exact yf ⟨_,rfl,rfl,b1.trans (YE _ a _),_,es2,_,t2,stored s1 rfl es2 t2,hex,rfl,f2,T2,el1.perm p2,(p2.map zMl).trans pk1⟩
   ·exact yf ⟨_,rfl,rfl,b1,_,es1,_,t1,s1,hex,rfl,f1,T1,el1,pk1⟩
  have goal2:yn (yv prog w) A (do
   storeSet a es1 t1
   if (!wd && t1.tooFull)=true then
    match relayAll t1 es1 (Xu es1.size) with
    |(es2,t2,gv2)=>do
     (match gv2 with|true=>rule "set.scan.the-table-gave-way" | false=>pure ())
     storeSet a es2 t2
     pure (some true)
   else pure (some true)) (λr s'=>yn (yv prog w) A (match r with|some added=>pure added|none=>setAddHashedIn a (.int k tk) (hashInt k) 99999) Q E s') E s:=by
   refine yS fin (λr s' ⟨h',e1,e2,b,x⟩=>?_) λ_ _ z=>z;subst e1 e2;exact yf (h true h' b x)
  split
  ·refine ya ?_;rw[hashByValue_scannable 8 (x:=.int k tk) rfl];exact yf goal2
  ·exact ya (yf goal2)
end
def zFj{α:Type}:∀(l:List α)(i:Nat)(h:i<l.length),(l[i]::l.eraseIdx i).Perm l
 |[],i,h=>by simp at h
 |y::ys,0,h=>by simp
 |y::ys,i+1,h=>by
  have h':i<ys.length:=by simpa using h
  show(ys[i]::y::ys.eraseIdx i).Perm (y::ys);exact(List.Perm.swap y ys[i] _).trans ((zFj ys i h').cons y)
def ziu{α:Type}(next:Nat->Nat):∀(fuel k:Nat)(rest:List α)(out:Array α),rest.length<=fuel->(pickOrder.go next fuel k rest out).toList.Perm (out.toList++rest)
 |0,k,rest,out,h=>by
  have:rest=[]:=List.length_eq_zero_iff.mp (Nat.le_zero.mp h);subst this;unfold pickOrder.go;simp
 |fuel+1,k,rest,out,h=>by
  unfold pickOrder.go
  cases rest with
  |nil=>simp
  |cons y ys=>
   have hlt:next k%(y::ys).length<(y::ys).length:=Nat.mod_lt _ (by simp);rw[yq hlt];dsimp only;refine(ziu next fuel (k+1) _ _ (by rw[List.length_eraseIdx_of_lt hlt];simp at h ⊢;omega)).trans ?_;rw[Array.toList_push,append_assoc];exact List.Perm.append_left _ (zFj _ _ hlt)
def zJl{α:Type}(next:Nat->Nat)(xs:Array α):(pickOrder next xs).toList.Perm xs.toList:=by
 unfold pickOrder;exact(ziu next xs.size 0 xs.toList #[] (by simp)).trans (by simp)
def tL:Slot "set_iterator" "__next__" "set_iterator.__next__" :=
 .of (owner:="set_iterator") (n:="__next__") (by rw[typeLookup_type,Xj];kernel_rfl) (by decide +kernel) (by decide +kernel) (by decide +kernel) (by first|exact .inl (by decide +kernel)|exact .inr (by decide +kernel)) (by rw[isSubtype_type];kernel_rfl)
def zdk:Slot "set_iterator" "__iter__" "set_iterator.__iter__" :=
 .of (owner:="set_iterator") (n:="__iter__") (by rw[typeLookup_type,Xj];kernel_rfl) (by decide +kernel) (by decide +kernel) (by decide +kernel) (by first|exact .inl (by decide +kernel)|exact .inr (by decide +kernel)) (by rw[isSubtype_type];kernel_rfl)
def zZd:entryFor table "set_iterator.__next__"=some xh.«set_iterator.__next__»:=entryFor_of_tree (by kernel_rfl)
def zLn:entryFor table "set_iterator.__iter__"=some xh.«dict_keyiterator.__iter__»:=entryFor_alias (id':="dict_keyiterator.__iter__") (by kernel_rfl) rfl (by decide +kernel) (by kernel_rfl)
def zOe(a:Value):argsOk "set_iterator.__next__" ⟨[a],[]⟩:=by unfold argsOk;kernel_rfl
def z3o(a:Value):argsOk "set_iterator.__iter__" ⟨[a],[]⟩:=by unfold argsOk;kernel_rfl
def zlp:entryFor table "set.__iter__"=some xh.«frozenset.__iter__»:=entryFor_alias (id':="frozenset.__iter__") (by kernel_rfl) rfl (by decide +kernel) (by kernel_rfl)
def SIt(h:yT)(it a:yc)(first:Value)(i n ep:Nat):Prop:=∃o,h.get? it=some o/\o.cls=.type "set_iterator"/\o.data=.fields #[first,.int i 0,.ref a,.int n 0,.int ep 0]
def SOb(h:yT)(a:yc)(es:Array (Int×Value))(ep:Nat)(t:xz):Prop:=∃o,h.get? a=some o/\o.cls=.type "set"/\o.data=.set es ep t/\t.fits es.size=true
section
variable {prog:yA}{w:yI}{A:yK}{E:Value->yd->Prop}{s:yd}
def SIt.typeIs{it a:yc}{first:Value}{i n ep:Nat}(x:SIt s.heap it a first i n ep):s.TypeIs (.ref it) "set_iterator":=let ⟨o,ho,hc,_⟩:=x;⟨o,ho,hc⟩
def SIt.at'{h h':yT}{it a:yc}{first:Value}{i n ep:Nat}(x:SIt h it a first i n ep)(k:∀o,h.get? it=some o->h'.get? it=some o):SIt h' it a first i n ep:=let ⟨o,ho,r⟩:=x;⟨o,k o ho,r⟩
def SOb.at'{h h':yT}{a:yc}{es:Array (Int×Value)}{ep:Nat}{t:xz}(x:SOb h a es ep t)(k:∀o,h.get? a=some o->h'.get? a=some o):SOb h' a es ep t:=let ⟨o,ho,r⟩:=x;⟨o,k o ho,r⟩
def zat{it:yc}{o:YT}{vs:Array Value}{Q:Option Value->yd->Prop}(hh:A.handled=none)(ho:s.heap.get? it=some o)(hd:o.data=.fields vs)(h2:2<vs.size)
 (hQ:∀h',Xv it s.heap h'->Q none {s with heap:=h' }) :
 yn (yv prog w) A.in1 (do setField (.ref it) 2 .none;raiseNew (<-newExc (.type "StopIteration") []):Sem Fin)
  (λ_ _=>False) (λe s'=>yn (yv prog w) A (do if <-isInstance e (.type "StopIteration") then pure none else throw e) Q E s') s:=by
 refine ya (YX ho hd h2 ?_);refine ya ?_;simp only[newExc,newTuple];refine ya (yY ?_ (by size_fits));refine ya (m:=firstArgMember _ _) (wpAny_of_eq (a:=Yn) (by first|rfl|(simp only[firstArgMember];rfl)) ?_);refine yY ?_ (by size_fits);simp only[raiseNew];refine ya (wpAny_handled ?_);have e:A.in1.handled=none:=hh;rw[e];refine ya (yf (wpAny_throw ?_));refine ya (Xz (T:="StopIteration") (b:=true) ⟨_,yp _ rfl,rfl⟩ isSubtype_stop ?_);exact yf (hQ _ (((YE s.heap it _).extBut.push _).push _))
variable {it a:yc}{es:Array (Int×Value)}{ep i:Nat}{t:xz}{Q:Option Value->yd->Prop}
def zSn(n:Nat):¬(((n:Int) != (n:Int))=true):=by simp
def zFl{slot nx:Nat}{x:Value}(hI:SIt s.heap it a (.int slot 0) i es.size ep)(hO:SOb s.heap a es ep t)
 (hn:∀(Q':Option (Value×Nat)->yd->Prop) (E':Value->yd->Prop),Q' (some (x,nx)) s->yn (yv prog w) A.in1 (setNext a slot i ep) Q' E' s)
 (hQ:∀h',SIt h' it a (.int nx 0) (i+1) es.size ep->Yp it s.heap h'->Q (some x) {s with heap:=h' }):yn (yv prog w) A (xW (.ref it)) Q E s:=by
 obtain⟨o,ho,hc,hd⟩:=id hI;obtain⟨oa,hoa,_,hda,hfa⟩:=hO;unfold xW;refine ya (wpAny_attempt (Yi (name:=YW "__next__") hI.typeIs tL (Yc tL hI.typeIs zZd ?_ (zOe _))));unfold xh.«set_iterator.__next__»;refine ya (m:=slotArgs "__next__" 0 ⟨[yG it],[]⟩) (yf ?_);refine ya (wpAny_fieldsOf ho hd ?_);dsimp only;refine ya (xP hoa hda hfa ?_);rw[if_neg (zSn es.size)];refine ya (hn _ _ ?_);dsimp only;refine ya (YX ho hd (by simp) ?_);have ho1:=yN (xg (·.setIfInBounds 0 (YH nx))) ho (YF (yZ hd _));have hd1:=yZ hd (·.setIfInBounds 0 (YH nx));refine ya (YX ho1 hd1 (by simp) (yf ⟨x,rfl,yf (hQ _ ?_ ((YE s.heap it _).trans (YE _ it _)))⟩));refine⟨_,yN _ ho1 (YF (yZ hd1 _)),(Xn ..).trans ((Xn ..).trans hc),?_⟩;rw[yZ hd1];simp[YH]
def zMm{slot:Nat}(hh:A.handled=none)(hI:SIt s.heap it a (.int slot 0) i es.size ep)(hO:SOb s.heap a es ep t)
 (hn:∀(Q':Option (Value×Nat)->yd->Prop) (E':Value->yd->Prop),Q' none s->yn (yv prog w) A.in1 (setNext a slot i ep) Q' E' s)
 (hQ:∀h',Xv it s.heap h'->Q none {s with heap:=h' }):yn (yv prog w) A (xW (.ref it)) Q E s:=by
 obtain⟨o,ho,hc,hd⟩:=id hI;obtain⟨oa,hoa,_,hda,hfa⟩:=hO;unfold xW;refine ya (wpAny_attempt (Yi (name:=YW "__next__") hI.typeIs tL (Yc tL hI.typeIs zZd ?_ (zOe _))));unfold xh.«set_iterator.__next__»;refine ya (m:=slotArgs "__next__" 0 ⟨[yG it],[]⟩) (yf ?_);refine ya (wpAny_fieldsOf ho hd ?_);dsimp only;refine ya (xP hoa hda hfa ?_);rw[if_neg (zSn es.size)];refine ya (hn _ _ ?_);dsimp only;exact yS (zat (Q:=Q) (E:=E) hh ho hd (by simp) hQ) (λ_ _ z=>z.elim) λ_ _ z=>z
def zqq{tup:yc}{ot:YT}{items:Array Value}{nt place:Nat}{x:Value}{hx:Int}(hI:SIt s.heap it a (.ref tup) i es.size ep)(hO:SOb s.heap a es ep t)(hot:s.heap.get? tup=some ot)(hdt:ot.data=.seq items nt)
 (hp:items[i]?=some (.int place 0)) (he:es[place]?=some (hx,x))
 (hQ:∀h',SIt h' it a (.ref tup) (i+1) es.size ep->Yp it s.heap h'->Q (some x) {s with heap:=h' }):yn (yv prog w) A (xW (.ref it)) Q E s:=by
 obtain⟨o,ho,hc,hd⟩:=id hI;obtain⟨oa,hoa,_,hda,hfa⟩:=hO;unfold xW;refine ya (wpAny_attempt (Yi (name:=YW "__next__") hI.typeIs tL (Yc tL hI.typeIs zZd ?_ (zOe _))));unfold xh.«set_iterator.__next__»;refine ya (m:=slotArgs "__next__" 0 ⟨[yG it],[]⟩) (yf ?_);refine ya (wpAny_fieldsOf ho hd ?_);dsimp only;refine ya (xP hoa hda hfa ?_);rw[if_neg (zSn es.size)];refine ya (wpAny_seqItems hot hdt ?_);dsimp only;simp only[yX,hp];unfold setNextDrawn;refine ya (ya (YY hoa hda hfa ?_));dsimp only;rw[if_neg (by simp),he];dsimp only;refine yf ?_;refine ya (YX ho hd (by simp) (yf ⟨x,rfl,yf (hQ _ ?_ (YE s.heap it _))⟩));refine⟨_,yN _ ho (YF (yZ hd _)),(Xn ..).trans hc,?_⟩;rw[yZ hd];simp[YH]
def zDs{tup:yc}{ot:YT}{items:Array Value}{nt:Nat}(hh:A.handled=none)(hI:SIt s.heap it a (.ref tup) i es.size ep)(hO:SOb s.heap a es ep t)(hot:s.heap.get? tup=some ot)(hdt:ot.data=.seq items nt)
 (hp:items[i]?=none) (hQ:∀h',Xv it s.heap h'->Q none {s with heap:=h' }):yn (yv prog w) A (xW (.ref it)) Q E s:=by
 obtain⟨o,ho,hc,hd⟩:=id hI;obtain⟨oa,hoa,_,hda,hfa⟩:=hO;unfold xW;refine ya (wpAny_attempt (Yi (name:=YW "__next__") hI.typeIs tL (Yc tL hI.typeIs zZd ?_ (zOe _))));unfold xh.«set_iterator.__next__»;refine ya (m:=slotArgs "__next__" 0 ⟨[yG it],[]⟩) (yf ?_);refine ya (wpAny_fieldsOf ho hd ?_);dsimp only;refine ya (xP hoa hda hfa ?_);rw[if_neg (zSn es.size)];refine ya (wpAny_seqItems hot hdt ?_);dsimp only;simp only[yX,hp];refine ya (YX ho hd (by simp) ?_);have ho1:=yN (xg (·.setIfInBounds 0 (YH 0))) ho (YF (yZ hd _));have hd1:=yZ hd (·.setIfInBounds 0 (YH 0));exact yS (zat (Q:=Q) (E:=E) hh ho1 hd1 (by simp) λh' x=>hQ h' λb o' hb e=>x b o' hb ((YE s.heap it _).extBut b o' hb e)) (λ_ _ z=>z.elim) λ_ _ z=>z
def zbi{Q:Bool->yd->Prop}(h:Q (w.params.followText "set-order") s):yn (yv prog w) A setsByText Q E s:=by
 unfold setsByText;exact ya (wpAny_askSetting (yf h))
def zhp{slot:Nat}(hw:w.params.followText "set-order"=true)(hO:SOb s.heap a es ep t){Q:Option (Value×Nat)->yd->Prop}(h:Q (((pickOrder (w.params.setOrder a ep) es)[i]?).map λe=>(e.2,slot)) s) :
 yn (yv prog w) A (setNext a slot i ep) Q E s:=by
 obtain⟨oa,hoa,_,hda,hfa⟩:=hO;unfold setNext;refine ya (YY hoa hda hfa ?_);dsimp only;refine ya (zbi ?_);rw[hw,if_pos rfl,if_neg (by simp)];unfold setWalk;refine ya (ya (YY hoa hda hfa ?_));dsimp only;refine ya (zbi ?_);rw[hw,if_pos rfl];exact ya (wpAny_askSetting (yf (yf h)))
def zhf(t:xz)(i:Nat):Nat:=if i=0 then 0 else t.place.getD (i-1) 0+1
def zUr(h:RS t.place)(hi:i<=t.place.size):YN t.place (zhf t i)=i:=by
 obtain⟨h0,h1,h2⟩:=zwm t.place (zhf t i) h
 have hp:∀i k (hi:i<t.place.size) (hk:k<t.place.size),i<k->t.place[i]<t.place[k]:=λi k hi hk hik=>by
  have:=List.pairwise_iff_getElem.mp h i k (by simpa using hi) (by simpa using hk) hik;simpa using this
 generalize hr:YN t.place (zhf t i)=r at *;unfold zhf at h1 h2
 by_cases hz:i=0
 ·subst hz;rw[if_pos rfl]at h1
  by_cases hr0:0<r
  ·have:=h1 0 (by omega) hr0;omega
  ·omega
 ·rw[if_neg hz]at h1 h2;have hl:i-1<t.place.size:=by omega
  have hg:t.place.getD (i-1) 0=t.place[i-1]:=by simp[Array.getD,hl]
  rw[hg]at h1 h2;rcases Nat.lt_trichotomy r i with hlt|he|hgt
  ·have h3:=h2 (i-1) hl (by omega);omega
  ·exact he
  ·have h3:=h1 i (by omega) hgt;have h4:=hp (i-1) i hl (by omega) (by omega);omega
def zgn(hw:w.params.followText "set-order"=false)(hd:(!t.plain&&decide (es.size>1))=false)(hT:TOk true t)(hi:i<=es.size)(hO:SOb s.heap a es ep t){Q:Option (Value×Nat)->yd->Prop}(h:Q ((es[i]?).map λe=>(e.2,zhf t (i+1))) s) :
 yn (yv prog w) A (setNext a (zhf t i) i ep) Q E s:=by
 obtain⟨oa,hoa,_,hda,hfa⟩:=hO
 have hsz:t.place.size=es.size:=by
  unfold SetTable.fits at hfa;rw[yH]at hfa;exact beq_iff_eq.mp hfa.1
 unfold setNext;refine ya (YY hoa hda hfa ?_);dsimp only;refine ya (zbi ?_);rw[hw,if_neg yB];refine xa (λhab=>?_) λ_=>?_
 ·have hab:(!t.plain&&decide (es.size>1))=true:=hab;rw[hd]at hab;cases hab
 ·refine ya ?_
  have led:yn (yv prog w) A (if(!t.led && !es.isEmpty)=true then unsupported "set:maker-not-led" else pure ()) (λ_ s'=>yn (yv prog w) A (pure (match es[YN t.place (zhf t i)]?,t.place[YN t.place (zhf t i)]? with
   |some (_,x),some j=>some (x,j+1)
   |_,_=>none):Sem (Option (Value×Nat))) Q E s') E s:=by
   rw[hT.led,if_neg (by simp)];refine yf (yf ?_);rw[zUr hT.rs (by omega)]
   by_cases hlt:i<es.size
   ·have e1:es[i]?=some es[i]:=by simp[hlt]
    have e2:t.place[i]?=some (t.place[i]'(by omega)):=by simp[show i<t.place.size by omega]
    rw[e1]at h;rw[e1,e2]
    have e3:zhf t (i+1)=t.place[i]'(by omega)+1:=by
     unfold zhf;rw[if_neg (by omega)];simp[Array.getD,show i<t.place.size by omega]
    rw[e3]at h;exact h
   ·have e1:es[i]?=none:=by simp;omega
    rw[e1]at h;rw[e1];exact h
  exact led
def zHm{α:Type}:∀(n:Nat)(xs:List α)(s:yd)(Q:List α->yd->Prop),n=xs.length->(∀ys d,ys.Perm xs->Q ys {s with drawn:=d })->yn (yv prog w) A (drawOrder n xs) Q E s
 |0,xs,s,Q,hn,h=>by
  have:xs=[]:=List.length_eq_zero_iff.mp hn.symm;subst this;exact yf (h [] s.drawn .nil)
 |n+1,[],s,Q,hn,h=>by simp at hn
 |n+1,x::xs,s,Q,hn,h=>by
  unfold drawOrder;refine ya ?_;intro Γ p hΓ;unfold choose;rw[Sem.wp_choose];refine⟨by simp,?_⟩;have hlt:(yv prog w).w.draws .order (s.drawn.get .order)%(x::xs).length<(x::xs).length:=Nat.mod_lt _ (by simp);generalize (yv prog w).w.draws .order (s.drawn.get .order)%(x::xs).length=j at hlt ⊢;generalize s.drawn.bump .order=d1
  have main:yn (yv prog w) A (match(x::xs)[j]? with
   |some y=>do return y::(<-drawOrder n ((x::xs).eraseIdx j))
   |none=>unsupported "internal:drawOrder") Q E {s with drawn:=d1 }:=by
   rw[yq hlt];dsimp only;refine ya (zHm n _ _ _ (by rw[List.length_eraseIdx_of_lt hlt];simp at hn ⊢;omega) λys d hp=>yf (h _ d ?_));exact(hp.cons _).trans (zFj _ _ hlt)
  simp only[Sem.wp_pure];exact main
variable {I:yc}
def zVp{first:Value}{n:Nat}{Q:Value->yd->Prop}(hI:SIt s.heap I a first i n ep)(h:Q (.ref I) s):yn (yv prog w) A (pyIter (.ref I)) Q E s:=by
 refine wpAny_pyIter_slot hI.typeIs zdk (Yc zdk hI.typeIs zLn ?_ (z3o _));unfold xh.«dict_keyiterator.__iter__»;refine ya (m:=slotArgs "__iter__" 0 ⟨[yG I],[]⟩) (yf ?_);exact yf ⟨_,rfl,"set_iterator",_,hI.typeIs,tL.lookup,h⟩
abbrev zcz(ent:List (Int×Value))(i:Nat)(v:Value):Prop:=∃k,ent[i]?=some (k,v)
def zLt(hh:A.handled=none)(hne:a≠I)(hw:w.params.followText "set-order"=true) :
 Walks prog w A I [I,a] [I] es.size (zcz (pickOrder (w.params.setOrder a ep) es).toList) (λi h=>SIt h I a (.int ((0:Nat):Int) 0) i es.size ep/\SOb h a es ep t) where
 sub:=λb hb=>by simp at hb;simp[hb]
 frame:=λ_ _ _ st hk=>⟨st.1.at' λo e=>hk I (by simp) o e,st.2.at' λo e=>hk a (by simp) o e⟩
 item:=λi s Q E hi st hQ=>by
  have hl:(pickOrder (w.params.setOrder a ep) es).size=es.size:=by
   have:=(zJl (w.params.setOrder a ep) es).length_eq;simpa using this
  have hi':i<(pickOrder (w.params.setOrder a ep) es).size:=by omega
  have e1:(pickOrder (w.params.setOrder a ep) es)[i]?=some (pickOrder (w.params.setOrder a ep) es)[i]:=by simp[hi']
  refine zFl (nx:=0) (x:=(pickOrder (w.params.setOrder a ep) es)[i].2) st.1 st.2 (λQ' E' hq=>zhp hw st.2 (by rw[e1];exact hq)) λh' x sb=>?_;refine hQ _ h' s.toks ⟨_,by rw[Array.getElem?_toList,e1]⟩ ⟨x,st.2.at' λo e=>sb.extBut a o hne e⟩ λb o hb e=>sb.extBut b o (λh=>hb (by simp[h])) e
 done:=λs Q E st hQ=>by
  have hl:(pickOrder (w.params.setOrder a ep) es).size=es.size:=by
   have:=(zJl (w.params.setOrder a ep) es).length_eq;simpa using this
  refine zMm hh st.1 st.2 (λQ' E' hq=>zhp hw st.2 (by rw[show(pickOrder (w.params.setOrder a ep) es)[es.size]?=none by simp;omega];exact hq)) λh' x=>hQ h' s.toks λb o hb e=>x b o (λh=>hb (by simp[h])) e
 self:=λ_ _ _ _ st hQ=>zVp st.1 hQ
def z8r(hh:A.handled=none)(hne:a≠I)(hw:w.params.followText "set-order"=false)(hd:(!t.plain&&decide (es.size>1))=false)(hT:TOk true t) :
 Walks prog w A I [I,a] [I] es.size (zcz es.toList) (λi h=>SIt h I a (.int (zhf t i:Nat) 0) i es.size ep/\SOb h a es ep t) where
 sub:=λb hb=>by simp at hb;simp[hb]
 frame:=λ_ _ _ st hk=>⟨st.1.at' λo e=>hk I (by simp) o e,st.2.at' λo e=>hk a (by simp) o e⟩
 item:=λi s Q E hi st hQ=>by
  have e1:es[i]?=some es[i]:=by simp[hi]
  refine zFl (nx:=zhf t (i+1)) (x:=es[i].2) st.1 st.2 (λQ' E' hq=>zgn hw hd hT (by omega) st.2 (by rw[e1];exact hq)) λh' x sb=>?_;refine hQ _ h' s.toks ⟨_,by rw[Array.getElem?_toList,e1]⟩ ⟨x,st.2.at' λo e=>sb.extBut a o hne e⟩ λb o hb e=>sb.extBut b o (λh=>hb (by simp[h])) e
 done:=λs Q E st hQ=>by
  refine zMm hh st.1 st.2 (λQ' E' hq=>zgn hw hd hT (by omega) st.2 (by rw[show es[es.size]?=none by simp];exact hq)) λh' x=>hQ h' s.toks λb o hb e=>x b o (λh=>hb (by simp[h])) e
 self:=λ_ _ _ _ st hQ=>zVp st.1 hQ
def zNs{tup:yc}{ord:List Nat}{nt:Nat}(hh:A.handled=none)(hne:a≠I)(hne2:tup≠I)(hp:ord.Perm (yw es.size)) :
 Walks prog w A I [I,a,tup] [I] es.size (zcz (ord.map λj=>es.getD j (0,.none))) (λi h=>SIt h I a (.ref tup) i es.size ep/\SOb h a es ep t/\∃ot,h.get? tup=some ot/\ot.data=.seq (ord.map λ(j:Nat)=>YH j).toArray nt) where
 sub:=λb hb=>by simp at hb;simp[hb]
 frame:=λ_ _ _ st hk=>⟨st.1.at' λo e=>hk I (by simp) o e,st.2.1.at' λo e=>hk a (by simp) o e,let ⟨ot,h1,h2⟩:=st.2.2;⟨ot,hk tup (by simp) ot h1,h2⟩⟩
 item:=λi s Q E hi st hQ=>by
  obtain⟨st1,st2,ot,h1,h2⟩:=st
  have hl:ord.length=es.size:=by
   have:=hp.length_eq;simpa using this
  have hi':i<ord.length:=by omega
  have hj:ord[i]<es.size:=by
   have:=hp.mem_iff.mp (getElem_mem hi');simpa using this
  have e1:es[ord[i]]?=some es[ord[i]]:=by simp[hj]
  refine zqq (x:=es[ord[i]].2) (place:=ord[i]) (hx:=es[ord[i]].1) st1 st2 h1 h2 (by simp[hi',YH]) e1 λh' x sb=>?_;refine hQ _ h' s.toks ⟨es[ord[i]].1,by simp[hi',Array.getD,hj]⟩ ⟨x,st2.at' λo e=>sb.extBut a o hne e,ot,sb.extBut tup ot hne2 h1,h2⟩ λb o hb e=>sb.extBut b o (λh=>hb (by simp[h])) e
 done:=λs Q E st hQ=>by
  obtain⟨st1,st2,ot,h1,h2⟩:=st
  have hl:ord.length=es.size:=by
   have:=hp.length_eq;simpa using this
  refine zDs hh st1 st2 h1 h2 (by simp;omega) λh' x=>hQ h' s.toks λb o hb e=>x b o (λh=>hb (by simp[h])) e
 self:=λ_ _ _ _ st hQ=>zVp st.1 hQ
def zBv{ord:List Nat}(hp:ord.Perm (yw es.size)):(ord.map λj=>es.getD j (0,.none)).Perm es.toList:=by
 refine(hp.map _).trans ?_
 have:(yw es.size).map (λj=>es.getD j (0,Yn))=es.toList:=by
  apply List.ext_getElem
  ·simp
  ·intro n h1 h2;simp at h1 h2;simp[Array.getD,h1]
 rw[this]
def zjB(prog:yA)(w:yI)(A:yK)(s:yd)(es:Array (Int×Value))(a:yc)(I:yc)(s':yd):Prop :=
 ∃fp ent St,Walks prog w A I fp [I] es.size (zcz ent) St/\St 0 s'.heap/\ent.Perm es.toList/\s.heap.objs.size<=I/\(∀b∈fp,s.heap.objs.size<=b\/b=a)/\(∀b∈fp,b<s'.heap.objs.size)/\(∀b o,s.heap.get? b=some o->s'.heap.get? b=some o)/\∃d,s' = {s with heap:=s'.heap,drawn:=d }
def z7v{Q:Value->yd->Prop}(hh:A.handled=none)(hT:TOk (!w.params.followText "set-order") t)(hO:SOb s.heap a es ep t)(hsz:es.size<=yD)
 (h:∀I s',zjB prog w A s es a I s'->Q (.ref I) s'):yn (yv prog w) A (pyIter (.ref a)) Q E s:=by
 obtain⟨oa,hoa,hca,hda,hfa⟩:=id hO;have hTy:s.TypeIs (.ref a) "set":=⟨oa,hoa,hca⟩
 have hlt:a<s.heap.objs.size:=yk hoa;refine wpAny_pyIter_slot hTy F.slot_set_iter (Yc F.slot_set_iter hTy zlp ?_ (F.args_set_iter_1 _));unfold xh.«frozenset.__iter__»;refine ya (m:=Builtin.Frozenset.slot0 "__iter__" ⟨[yG a],[]⟩) (yf ?_);unfold Builtin.Frozenset.sizeOf;refine ya (ya (xP hoa hda hfa (yf ?_)));unfold setDrawn;refine ya (ya (YY hoa hda hfa ?_));dsimp only;refine ya (zbi (yf ?_));refine xa (λhab=>?_) λhab=>?_
 ·have hab:(!w.params.followText "set-order" && (!t.plain&&decide (es.size>1)))=true:=hab;refine ya (zHm es.size _ _ _ (by simp) λord d hp=>?_)
  have hol:ord.length=es.size:=by
   have:=hp.length_eq;simpa using this
  unfold newTuple;refine ya (yY ?_ (by show(List.map (λ(i:Nat)=>YH i) ord).toArray.size<=yD;simp;omega));have hg:(s.heap.push {cls:=.type "tuple",data:=.seq (ord.map λ(i:Nat)=>YH i).toArray }).get? a=some oa:=yb _ hoa;refine ya ?_;unfold setEpoch;refine ya (YY (s:={s with heap:=_,drawn:=d }) hg hda hfa (yf ?_));unfold newFields;refine ya (yY (yf ⟨_,rfl,"set_iterator",_,⟨_,yp _ rfl,rfl⟩,tL.lookup,?_⟩));have hs1:(s.heap.push {cls:=.type "tuple",data:=.seq (ord.map λ(i:Nat)=>YH i).toArray }).objs.size=s.heap.objs.size+1:=by rw[Ys]
  refine h _ _ ⟨[(s.heap.push {cls:=.type "tuple",data:=.seq (ord.map λ(i:Nat)=>YH i).toArray }).objs.size,a,s.heap.objs.size],ord.map λj=>es.getD j (0,.none),_,
   zNs (t:=t) (ep:=ep) (nt:=0) hh (by rw[hs1];exact yu (YB hlt)) (by rw[hs1];exact yu (Yz _)) hp,⟨⟨_,yp _ rfl,rfl,by simp[YH]⟩,⟨oa,yb _ hg,hca,hda,hfa⟩,_,yb _ (yp _ rfl),rfl⟩,
   zBv hp,by rw[hs1];exact xV _,?_,?_,λb o e=>yb _ (yb _ e),d,rfl⟩
  ·intro b hb;rw[hs1]at hb;simp at hb;rcases hb with rfl|rfl|rfl
   ·exact .inl (xV _)
   ·exact .inr rfl
   ·exact .inl (yi _)
  ·intro b hb;show b<((s.heap.push _).push _).objs.size;rw[Ys,hs1];rw[hs1]at hb;simp at hb;rcases hb with rfl|rfl|rfl
   ·exact Yz _
   ·exact YB (YB hlt)
   ·exact YB (Yz _)
 ·have hab:¬(!w.params.followText "set-order" && (!t.plain&&decide (es.size>1)))=true:=hab;refine ya (yf ?_);refine ya ?_;unfold setEpoch;refine ya (YY hoa hda hfa (yf ?_));unfold newFields;refine ya (yY (yf ⟨_,rfl,"set_iterator",_,⟨_,yp _ rfl,rfl⟩,tL.lookup,?_⟩))
  have pre:∀(ent:List (Int×Value)) (St:Nat->yT->Prop),Walks prog w A s.heap.objs.size [s.heap.objs.size,a] [s.heap.objs.size] es.size (zcz ent) St->St 0 (s.heap.push {cls:=.type "set_iterator",data:=.fields #[YH 0,YH 0,.ref a,YH es.size,YH ep]})->ent.Perm es.toList ->
   Q (.ref s.heap.objs.size) {s with heap:=s.heap.push {cls:=.type "set_iterator",data:=.fields #[YH 0,YH 0,.ref a,YH es.size,YH ep]}}:=λent St W st hp=>
   h _ _ ⟨_,ent,St,W,st,hp,yi _,λb hb=>by simp at hb;rcases hb with rfl|rfl;exact .inl (yi _);exact .inr rfl,λb hb=>by
    show b<(s.heap.push _).objs.size;rw[Ys];simp at hb;rcases hb with rfl|rfl
    ·exact Yz _
    ·exact YB hlt,λb o e=>yb _ e,s.drawn,rfl⟩
  cases hw:w.params.followText "set-order" with
  |true=>exact pre _ _ (zLt (t:=t) (ep:=ep) hh (yu hlt) hw) ⟨⟨_,yp _ rfl,rfl,by simp[YH]⟩,⟨oa,yb _ hoa,hca,hda,hfa⟩⟩ (zJl _ _)
  |false=>
   rw[hw]at hab hT;exact pre _ _ (z8r (t:=t) (ep:=ep) hh (yu hlt) hw (by simpa using hab) hT) ⟨⟨_,yp _ rfl,rfl,by simp[YH,zhf]⟩,⟨oa,yb _ hoa,hca,hda,hfa⟩⟩ (.refl _)
def zDw{Q:Bool->yd->Prop}(hT:s.TypeIs (.ref a) "set")(hq:Q false s):yn (yv prog w) A (xu (.ref a)) Q E s:=by
 unfold xu;refine ya (xo hT F.slot_set_len.lookup ?_);generalize hn:("set.__len__":String)=nm
 wp_delta
 rw[show splitId nm=some ("set","__len__") from by subst hn;decide +kernel];subst hn;refine ya (Xz (T:="set") (b:=true) hT (by rw[isSubtype_type];kernel_rfl) ?_);refine xa (λno=>absurd no (by decide)) λ_=>?_;refine xa (λ_=>?_) λno=>absurd (by decide +kernel) no;exact ya (Xy hT (yf hq))
def zYB(s:yd)(es:Array (Int×Value))(vs:List Value)(s':yd):Prop :=
 (∃ent:List (Int×Value),ent.Perm es.toList/\vs=ent.map (·.2))/\(∀b o,s.heap.get? b=some o->s'.heap.get? b=some o)/\s'.os=s.os/\s'.gens=s.gens/\s.heap.objs.size<=s'.heap.objs.size
def zew{ent:List (Int×Value)}{acc:Array Value}{n:Nat}(hl:ent.length=n)(h:ItemsOf (zcz ent) acc n):acc.toList=ent.map (·.2):=by
 apply List.ext_getElem
 ·simp[h.1,hl]
 ·intro j h1 h2;have h1':j<acc.size:=by simpa using h1
  obtain⟨k,e⟩:=h.2 j acc[j] (by simp[h1']);have h3:j<ent.length:=by simpa using h2
  rw[yq h3]at e;simp only[xm]at e;simp[e]
def zoq{Q:List Value->yd->Prop}(hh:A.handled=none)(hT:TOk (!w.params.followText "set-order") t)(hO:SOb s.heap a es ep t)(hsz:es.size<=yD)(h:∀vs s',zYB s es vs s'->Q vs s') :
 yn (yv prog w) A (collect (.ref a)) Q E s:=by
 obtain⟨oa,hoa,hca,hda,hfa⟩:=id hO;have hlt:a<s.heap.objs.size:=yk hoa;unfold collect;refine ya (wpAny_runValue (YD F.entry_proto_collect ?_));rw[Yu F.plain_proto_collect _];show yn _ A.in1 (newList [] >>= λl=>again (.builtin "list.__iadd__" ⟨[l,.ref a],[]⟩)) _ _ s;refine ya (yY ?_);refine yf ⟨xi F.plain_list_iadd _,YD F.entry_list_iadd ?_⟩;rw[Yu F.plain_list_iadd _];obtain⟨S,hSe⟩:∃S,S=s.heap.objs.size:=⟨_,rfl⟩
 have hL:(s.heap.push {cls:=.type "list",data:=.seq ([]:List Value).toArray }).get? S=some {cls:=.type "list",data:=.seq #[]}:=by rw[hSe];exact yp _ rfl
 have hk0:∀b o,s.heap.get? b=some o->(s.heap.push {cls:=.type "list",data:=.seq ([]:List Value).toArray }).get? b=some o:=λb o e=>yb _ e;have hz0:(s.heap.push {cls:=.type "list",data:=.seq ([]:List Value).toArray }).objs.size=S+1:=by rw[hSe,Ys]
 show yn _ A.in1 (Yy (.ref s.heap.objs.size) (.ref a) (.ref s.heap.objs.size)) _ _ _;rw[<-hSe];generalize s.heap.push {cls:=.type "list",data:=.seq ([]:List Value).toArray } = h0 at hL hk0 hz0 ⊢;have hO0:SOb h0 a es ep t:=hO.at' λo e=>hk0 _ o e;have hSa:S≠a:=by rw[hSe];exact yW hlt
 have hTy:Shared.TypeIs {s with heap:=h0 } (.ref a) "set":=⟨oa,hk0 _ _ hoa,hca⟩
 unfold Yy;refine ya (Xy hTy ?_);have g1:xK (.ref S) (.ref a)=false:=by simp[xK,hSa]
 have g2:(Yv "set" == Yv "list")=false:=by decide
 have g3:(Yv "set" == Yv "tuple")=false:=by decide
 simp only[g1,g2,g3,Bool.or_false,xZ,if_false];refine ya (z7v (s:={s with heap:=h0 }) hh hT hO0 hsz λI s1 hI=>?_);obtain⟨fp,ent,St,W,st,hp,hIs,hf1,hf2,hk1,d,hs1⟩:=hI;have hL1:s1.heap.get? S=some {cls:=.type "list",data:=.seq #[]}:=hk1 _ _ hL;have hIs:S+1<=I:=by rw[<-hz0];exact hIs
 have hSf:S∉fp:=λhm=>by
  rcases hf1 S hm with q|q
  ·have q:h0.objs.size<=S:=q;rw[hz0]at q;exact yU _ q
  ·exact hSa q
 have hTy1:s1.TypeIs (.ref a) "set":=⟨oa,hk1 _ _ (hk0 _ _ hoa),hca⟩
 refine ya (yQ (zDw hTy1 ?_))
 have loop:∀(h2:yT)(c:Nat),(∀b o,b≠S->s1.heap.get? b=some o->h2.get? b=some o)->h2.get? S=some {cls:=.type "list",data:=.seq #[] c } ->
  xN (yv prog w) A (.builtin "list.extend.loop" ⟨[.ref S,.ref I,.ref S],[]⟩) (λr s'=>∃acc c',r=.ok (.ret (.ref S))/\s'.heap.get? S=some {cls:=.type "list",dict:=none,data:=.seq acc c',slots:=#[]}/\zYB s es acc.toList s') {s1 with heap:=h2 }:=by
  intro h2 c hk2 hL2;refine codeAny_extend_loopS W.toS hsz S hSf (.ref S) es.size 0 _ #[] c rfl (Yt _) (W.frame 0 _ _ st λb hb o e=>hk2 b o (λq=>hSf (q▸hb)) e) hL2 (ItemsOf.nil _) λs' acc c' hm hS' hacc=>?_;refine⟨acc,c',rfl,hS',⟨ent,hp,zew (by simpa using hp.length_eq) hacc⟩,λb o e=>?_,?_,?_,by rw[<-hSe];exact YO (yk hS')⟩
  ·have hb:b<s.heap.objs.size:=yk e;rw[<-hSe]at hb;refine hm.heap b o (λhmem=>?_) (hk2 b o (yu hb) (hk1 _ _ (hk0 _ _ e)));rcases List.mem_cons.mp hmem with q|q
   ·exact absurd hb (by rw[q];exact yU _)
   ·rw[List.mem_singleton.mp q]at hb;exact yU _ (Xa hb (yz (Yz _) hIs))
  ·have:=hm.os;rw[this];show s1.os=s.os;rw[hs1]
  ·have:s'.gens=s1.gens:=hm.gens;rw[this,hs1]
 have fin:∀(h2:yT)(c:Nat),(∀b o,b≠S->s1.heap.get? b=some o->h2.get? b=some o)->h2.get? S=some {cls:=.type "list",data:=.seq #[] c } ->
  xN (yv prog w) A (.builtin "list.extend.loop" ⟨[.ref S,.ref I,.ref S],[]⟩) (λr s'=>match r with
   |.ok (.ret v)=>yn (yv prog w) A (match v with
    |.ref b=>do
     let o <-load b
     match o.data with
     |.seq xs _=>pure xs.toList
     |_=>unsupported "internal:collect"
    |_=>unsupported "internal:collect") Q E s'
   |_=>False) {s1 with heap:=h2 }:=λh2 c hk2 hL2=>YG (loop h2 c hk2 hL2) λr s' ⟨acc,c',e,hS',hc⟩=>by
  subst e;dsimp only;refine ya (wpAny_load hS' ?_);exact yf (h _ _ hc)
 refine xa (λ_=>?_) λ_=>?_
 ·refine ya (wpAny_rule ?_);refine ya ?_;show yn _ _ (updateSeq S (·.push .none) >>= λ_=>updateSeq S (·.pop)) _ _ _;refine ya (wpAny_updateSeq hL1 rfl ?_);have hL2:=yN (xY (·.push Yn)) hL1 rfl;refine wpAny_updateSeq (hz:=by seq_fits) hL2 rfl ?_;have hL3:=yN (xY (·.pop)) hL2 rfl;refine yf ⟨xi F.plain_extend_loop _,YG (fin _ _ (λb o hb e=>?_) hL3) λr s' z=>?_⟩
  ·exact(Yh _ _ (yV hb)).trans ((Yh _ _ (yV hb)).trans e)
  ·cases r with
   |error e=>exact z.elim
   |ok f=>cases f<;>exact z
 ·refine yf ⟨xi F.plain_extend_loop _,YG (fin _ _ (λb o hb e=>e) hL1) λr s' z=>?_⟩
  cases r with
  |error e=>exact z.elim
  |ok f=>cases f<;>exact z
end
end M
namespace M
open PySem PyProof.Rows
section
variable {prog:yA}{w:yI}{A:yK}{E:Value->yd->Prop}{s:yd}{a:yc}
def z8i:∀(ent:List (Int×Value)),ElemsOf (intKind prog w) ent->IntsAre (ent.map (·.2)) (ent.map zMl)
 |[],_ =>.nil
 |e::ent,h=>by
  obtain⟨⟨k,hk,_⟩,_⟩:=h e mem_cons_self;obtain⟨t,ht⟩:=Value.isInt_shape (show Value.isInt k e.2=true from hk);have:zMl e=k:=by unfold zMl;rw[ht]
  rw[map_cons,map_cons,ht,this];exact .cons k t (z8i ent λx hx=>h x (mem_cons_of_mem _ hx))
def zcx(s:yd)(ks:List Int)(p:yc)(s':yd):Prop :=
 ∃(out:Array Value)(ns:List Int)(e:Nat),s'.heap.get? p=some {cls:=.type "list",data:=.seq out e }/\IntsAre out.toList ns/\ns.Perm ks/\ns.Pairwise (·<=·)/\s.heap.objs.size<=p/\(∀b o,s.heap.get? b=some o->s'.heap.get? b=some o)/\s'.os=s.os/\s'.gens=s.gens
def zis{ks:List Int}{Q:Value->yd->Prop}(hh:A.handled=none)(hS:TR prog w s.heap a ks)(h64:ks.length<64)(h:∀p s',zcx s ks p s'->Q (.ref p) s') :
 yn (yv prog w) A (call (.builtin "sorted") [.ref a]) Q E s:=by
 obtain⟨o,es,ep,t,ho,hex,hd,hf,hT,hel,hpk⟩:=hS
 have hlen:es.size=ks.length:=by
  have:=hpk.length_eq;simpa using this
 have hO:SOb s.heap a es ep t:=⟨o,ho,hex.1,hd,hf⟩
 refine Calls.call_function_entry kind_sorted plain_sorted entry_sorted (args_sorted1 _) ?_;unfold xh.«sorted»;refine ya (m:=checkCount "sorted" 1 1 _) (yf ?_);refine ya (zoq (A:=A.in1) hh hT hO (yF (YO (by omega:es.size<64)) (by rw[Yr];decide)) λvs s1 hc=>?_);obtain⟨⟨ent,hp,rfl⟩,hk,hos,hgn,hsz⟩:=hc;have hel2:ElemsOf (intKind prog w) ent:=hel.perm hp;have hI:=z8i ent hel2
 have hl:ent.length=ks.length:=by
  rw[hp.length_eq];simpa using hlen
 refine ya (wpAny_newList ?_ (by simp;rw[Yr];omega));have hnew:(s1.heap.push (seqObj "list" (ent.map (·.2)).toArray 0)).get? s1.heap.objs.size=some (seqObj "list" (ent.map (·.2)).toArray 0):=yp _ rfl;refine ya (yQ (Yc slot_list_sort ⟨_,hnew,rfl⟩ entry_list_sort (list_sort_tree hnew hI (by simp;omega) λout ns q1 q2 q3=>⟨_,rfl,?_⟩) (args_list_sort _)));obtain⟨e,he⟩:=sortedHeap_at (out:=out) hnew;refine yf ⟨_,rfl,h _ _ ⟨out,ns,e,he,q1,q2.trans ((hp.map zMl).trans hpk),q3,hsz,λb ob eb=>?_,hos,hgn⟩⟩;have hb1:=hk _ _ eb;have hlt1:b<s1.heap.objs.size:=yk hb1;show(sortedHeap (s1.heap.push (seqObj "list" (ent.map (·.2)).toArray 0)) s1.heap.objs.size (ent.map (·.2)) out).get? b=some ob;rw[sortedHeap_old (yu hlt1) (by rw[size_push'];exact YB hlt1)];exact yb _ hb1
end
def z1A(ks:List Int)(k:Int):List Int:=if k∈ks then ks else ks++[k]
def uqN(val:Nat->Int):Nat->List Int
 |0=>[]
 |i+1=>z1A (uqN val i) (val i)
def z0t(val:Nat->Int):∀i,(uqN val i).length<=i
 |0=>yi _
 |i+1=>by
  have:=z0t val i;unfold uqN z1A
  split
  ·omega
  ·simp;omega
def zbt(val:Nat->Int)(k:Int):∀i,k∈uqN val i↔∃j,j<i/\val j=k
 |0=>by simp[uqN]
 |i+1=>by
  have ih:=zbt val k i;unfold uqN z1A;constructor
  ·intro h
   split at h
   ·obtain⟨j,h1,h2⟩:=ih.mp h;exact⟨j,by omega,h2⟩
   ·rcases List.mem_append.mp h with h|h
    ·obtain⟨j,h1,h2⟩:=ih.mp h;exact⟨j,by omega,h2⟩
    ·exact⟨i,by omega,by simpa using(List.mem_singleton.mp h).symm⟩
  ·rintro⟨j,h1,h2⟩
   by_cases e:j=i
   ·subst e
    split
    ·rename_i hm
     rw[<-h2];exact hm
    ·simp[h2]
   ·have:=ih.mpr ⟨j,by omega,h2⟩
    split
    ·exact this
    ·exact mem_append_left _ this
def zno(val:Nat->Int):∀i,(uqN val i).Nodup
 |0=>nodup_nil
 |i+1=>by
  have ih:=zno val i;unfold uqN z1A
  split
  ·exact ih
  ·rename_i hm
   rw[nodup_append];exact⟨ih,by simp,λa ha b hb e=>by simp at hb;subst hb;exact hm (e▸ha)⟩
section
variable {prog:yA}{w:yI}{A:yK}{R:Result->yd->Prop}{I:yc}{fp wr:List yc}{n:Nat}{P:Nat->Value->Prop}{St:Nat->yT->Prop}
def zqw(W:Walks prog w A.in1 I fp wr n P St)(S:yc)(hSf:S∉fp)(val:Nat->Int)(hval:∀i v,P i v->∃t,v=.int (val i) t)(hb:n+1<scanBound):∀(k i:Nat)(s:yd),n-i=k->i<=n->St i s.heap->TR prog w s.heap S (uqN val i) ->
 (∀h' tk,(∀b o,b∉S::wr->s.heap.get? b=some o->h'.get? b=some o)->TR prog w h' S (uqN val n)->R (.ok (.ret .none)) {s with heap:=h',toks:=tk })->xN (yv prog w) A (.builtin "set.update.loop" ⟨[.ref S,.ref I],[]⟩) R s:=by
 have hSw:S∉wr:=λq=>hSf (W.sub _ q);intro k
 induction k with
 |zero=>
  intro i s hk hi st hS hR;have e:i=n:=by omega
  subst e;refine YD PyProof.Rows.F.entry_set_update_loop ?_;rw[Yu xq _];show yn _ A.in1 (xW (.ref I) >>= _) _ _ s;refine ya (W.done s _ _ st λh' tk hk'=>?_);exact yf (hR h' tk (λb o hb e=>hk' b o (λq=>hb (mem_cons_of_mem _ q)) e) (hS.at' λo e=>hk' S o hSw e))
 |succ k ih=>
  intro i s hk hi st hS hR;have hlt:i<n:=by omega
  refine YD PyProof.Rows.F.entry_set_update_loop ?_;rw[Yu xq _];show yn _ A.in1 (xW (.ref I) >>= _) _ _ s;refine ya (W.item i s _ _ hlt st λv h1 tk hP st1 hk1=>?_);obtain⟨t,rfl⟩:=hval i v hP;show yn _ A.in1 (xt [Value.int (val i) t] (setAdd S (.int (val i) t)) >>= _) _ _ _;refine ya (yQ ?_);unfold setAdd;refine yQ ?_;refine ya (wpAny_pyHash_int ?_);have hS1:TR prog w h1 S (uqN val i):=hS.at' λo e=>hk1 S o hSw e;refine zox (s:={s with heap:=h1,toks:=tk+1 }) hS1 (by have:=z0t val i;omega) λb h2 sb hS2=>?_;refine yf ⟨xi xq _,ih (i+1) _ (by omega) hlt (W.frame _ _ _ st1 λc hc o e=>?_) hS2 λh3 tk3 hk3 hS3=>?_⟩
  ·exact sb.extBut c o (λq=>hSf (q▸hc)) e
  ·exact hR h3 tk3 (λc o hc e=>hk3 c o hc (sb.extBut c o (λq=>hc (by rw[q];exact mem_cons_self)) (hk1 c o (λq=>hc (mem_cons_of_mem _ q)) e))) hS3
variable {E:Value->yd->Prop}{s:yd}
abbrev zxe(w:yI):YT:={cls:=.type "set",dict:=none,data:=.set #[] 0 (.fresh 0 0 (!w.params.followText "set-order"))}
def zPy(a:Value){Q:Value->yd->Prop}(h:Q (.ref s.heap.objs.size) {s with heap:=s.heap.push (zxe w)}) :
 xN (yv prog w) A (.call (.builtin "set.__new__") ⟨[.type "set",a],[]⟩) (wants Q E) s:=by
 refine codeAny_of_tree ?_;show yn _ A.in1 (do checkBuiltinCall "set.__new__" ⟨[.type "set",a],[]⟩;again (.builtin "set.__new__" ⟨[.type "set",a],[]⟩)) _ _ s;refine ya (wpAny_of_eq (PySem.F.newCall_set_1 a) (yf ⟨xi PySem.F.plain_set_new _,YD PySem.F.entry_set_new ?_⟩));rw[Yu PySem.F.plain_set_new _];unfold xh.«set.__new__» Builtin.Frozenset.newClass;have hsub:=PySem.sub_set_self;obtain⟨hp,g,d,tk,os⟩:=s;dsimp only
 wp_walk
 refine wpAny_askSetting (yf ?_);dsimp only;simp only[newObj];refine ya (wpAny_alloc (yf ?_));exact yf h
def zSu(prog:yA)(w:yI)(s:yd)(ks:List Int)(s':yd):Prop :=
 TR prog w s'.heap s.heap.objs.size ks/\(∀b o,s.heap.get? b=some o->s'.heap.get? b=some o)/\∃h' tk,s' = {s with heap:=h',toks:=tk }
set_option maxHeartbeats 3200000 in
def zmq{l:yc}{its:Array Value}{ns:List Int}{Q:Value->yd->Prop}(hh:A.handled=none)(hl:s.heap.IsList l its)(hi:IntsAre its.toList ns)(hb:its.size+1<scanBound)
 (h:∀s',zSu prog w s (uqN (λi=>ns.getD i 0) its.size) s'->Q (.ref s.heap.objs.size) s'):yn (yv prog w) A (call (.type "set") [.ref l]) Q E s:=by
 obtain⟨c,tl,hmro⟩:=PySem.F.called_set.mro;have hmade:=PySem.F.called_set.made;have hsub:=PySem.F.called_set.sub;refine Xq (codeAny_of_tree ?_);show yn _ _ (callAny (.type "set") _) _ _ _;refine yf ⟨Code.quiet_builtin _ (by decide +kernel),YD PySem.F.entry_type_call ?_⟩;rw[Around.under_plain (weight_type_call_type "set" [.ref l] []) rfl];have t1:=PySem.F.called_set.notType;have t2:=PySem.F.called_set.canCreate;have t3:=PySem.F.typeCall_set_1 (.ref l)
 repeat (any_goals (first|assumption|wp_step))
 refine YG (zPy (w:=w) (.ref l) (E:=E) (Q:=λob s1=>ob=.ref s.heap.objs.size/\s1 = {s with heap:=s.heap.push (zxe w)}) ⟨rfl,rfl⟩) λr s1 hr=>?_
 cases r with
 |error e=>exact hr
 |ok fl=>
  cases fl with
  |ret ob=>
   obtain⟨rfl,rfl⟩:=hr;have hS:(s.heap.push (zxe w)).get? s.heap.objs.size=some (zxe w):=yp _ rfl;have hT:Shared.TypeIs {s with heap:=s.heap.push (zxe w)} (.ref s.heap.objs.size) "set":=⟨_,hS,rfl⟩
   have i1:=PySem.F.called_set.init.lookup;have i2:=PySem.F.called_set.init.bind (.ref s.heap.objs.size)
   repeat (any_goals (first|assumption|wp_step))
   refine YG (xk (R:=wants (λr s2=>r=.none/\zSu prog w s (uqN (λi=>ns.getD i 0) its.size) s2) E) PySem.F.called_set.init.plain PySem.F.entry_set_init (check_set_init_1 hT ?_)) λr2 s2 hr2=>?_
   ·obtain⟨ol,hol,hcl,nl,hdl⟩:=hl;obtain⟨ocls,odict,odata,oslots⟩:=ol;simp only at hcl hdl;subst hcl;subst hdl;have hlS:l<s.heap.objs.size:=yk hol;have hol1:(s.heap.push (zxe w)).get? l=some {cls:=.type "list",dict:=odict,data:=.seq its nl,slots:=oslots }:=yb _ hol;have n1:=PySem.F.sub_list_set;have n2:=PySem.F.sub_list_frozenset;have n3:(Yv "list" == Yv "dict")=false:=by decide
    have hl1:(s.heap.push (zxe w)).IsList l its:=⟨_,hol1,rfl,nl,rfl⟩
    unfold xh.«set.__init__» noKeywords Builtin.Frozenset.updateFrom;generalize hPI:pyIter=PI
    wp_walk
    subst hPI;refine xH hl1 ?_;refine ya (wpAny_runValue ?_);have hz:(s.heap.push (zxe w)).objs.size=s.heap.objs.size+1:=by rw[Ys]
    have hne:l≠(s.heap.push (zxe w)).objs.size:=by rw[hz];exact yu (YB hlS)
    have hSf:s.heap.objs.size∉[(s.heap.push (zxe w)).objs.size,l]:=by
     rw[hz];simp only[mem_cons,not_mem_nil,or_false,not_or];exact⟨yu (Yz _),yW hlS⟩
    have hval:∀(i:Nat)(v:Value),its[i]?=some v->∃t,v=.int ((λi=>ns.getD i 0) i) t:=λi v hv=>IntsAre.int_at hi i v (by rw[Array.getElem?_toList];exact hv);refine zqw (Walks.list (by simp[hh]) _ l hne its) s.heap.objs.size hSf (λi=>ns.getD i 0) hval hb (its.size-0) 0 _ (by omega) (Yt _) ⟨⟨_,yp _ rfl,rfl,rfl⟩,hl1.push _⟩ ?s0 ?r0
    case s0=>
     exact⟨zxe w,#[],0,_,yb _ hS,⟨rfl,rfl,rfl⟩,rfl,rfl,.fresh _,λe he=>by simp at he,by simp[uqN]⟩
    case r0=>
     intro h' tk hk hS';refine yf ?_;show yn _ _ (ret Yn) _ _ _;refine yf ⟨rfl,hS',λb o e=>?_,h',tk,rfl⟩;have hlt:b<s.heap.objs.size:=yk e;refine hk b o ?_ (yb _ (yb _ e));rw[hz];simp only[mem_cons,not_mem_nil,or_false,not_or];exact⟨yu hlt,yu (YB hlt)⟩
   ·cases r2 with
    |error e=>exact hr2
    |ok fl2=>
     cases fl2 with
     |ret r=>
      obtain⟨rfl,hm⟩:=hr2
      repeat (any_goals (first|assumption|wp_step))
      exact h _ hm
     |_=>exact hr2.elim
  |_=>exact hr.elim
end
end M
namespace M
open PySem PySem.Spec PyProof.Rows L2
section
variable {X:Cx}{U:List (yc×YT)}{Y:L2.St}{H:Hp}{s s':yd}
def zqv(I:Inv X U Y H s)(ho:s'.os=s.os)(hg:s'.gens=s.gens)(k:∀b u,s.heap.get? b=some u->s'.heap.get? b=some u):Inv X U Y H s' :=
 I.Sx (ch:=[]) ho (Un.kept k) (I.hok.kept k) (by rw[hg];exact I.bare) λb z=>nomatch z
def zPr{p:yc}{o:HO}(I:Inv X U Y H s)(ho:s'.os=s.os)(hg:s'.gens=s.gens)(k:∀b u,s.heap.get? b=some u->s'.heap.get? b=some u)(hp:s.heap.objs.size<=p)(new:tG X.prog X.w (upd H p o) s'.heap p o):Inv X U Y (upd H p o) s' :=
 I.Sx (ch:=[]) ho (Un.laid k hp (I.hok.fresh hp)) (I.hok.laid k hp new) (by rw[hg];exact I.bare) λb z=>nomatch z
def zMe:∀{us:List Value} {ns:List Int},IntsAre us ns->Vals (ns.map V.int) us
 |_,_,.nil =>.nil
 |_,_,.cons n t r =>.cons ⟨t,rfl⟩ (zMe r)
def zbw(X:Cx)(p:yc)(ks:List Int):HO:=.ext λh=>TR X.prog X.w h p ks
def zOt(hc:X.calm=true):zfm X (.type "set") (λxs H Q=>∃(a:yc)(ns:List Int),xs=[.ref a]/\SqL X.K H a (ns.map V.int)/\ns.length+1<scanBound/\∀p,H p=none->Q (.ref p) (upd H p (zbw X p (uqN (λi=>ns.getD i 0) ns.length)))):=by
 intro U s Y H xs us Q I r ⟨a,ns,e,hq,hb,k⟩;subst e;obtain⟨u,rfl,rx⟩:=vals1 r;cases rx;obtain⟨its,rv,pl,hz⟩:=I.list hq;have hl:its.length=ns.length:=by rw[<-rv.length];simp
 refine zmq (I.ok.hd hc) pl.isList (its:=its.toArray) (ns:=ns) (by simpa using z6g rv) (by simp;omega) λs' ⟨hS,hk,h',tk,e⟩=>?_;subst e;rw[show its.toArray.size=ns.length by simp;exact hl]at hS;refine⟨.ref s.heap.objs.size,_,I.laid (t':=tk) hk (yi _) (show tG X.prog X.w _ h' _ (zbw X _ _) from⟨hS,?_,λh1 h2 x y=>x.at' y⟩),rfl,k _ I.fresh⟩;obtain⟨o,_,_,_,ho,_⟩:=hS;exact⟨o,ho⟩
def zms(hc:X.calm=true):zfm X (.builtin "sorted") (λxs H Q=>∃(a:yc)(ks:List Int),xs=[.ref a]/\H a=some (zbw X a ks)/\ks.length<64/\∀(p:yc)(ns:List Int),H p=none->ns.Perm ks->ns.Pairwise (·<=·)->Q (.ref p) (upd H p (.lst (ns.map V.int)))):=by
 intro U s Y H xs us Q I r ⟨a,ks,e,hq,h64,k⟩;subst e;obtain⟨u,rfl,rx⟩:=vals1 r;cases rx;obtain⟨hS,_,_⟩:=I.hok a _ hq;refine zis (I.ok.hd hc) hS h64 λp s' ⟨out,ns,e,h1,h2,h3,h4,h5,h6,h7,h8⟩=>?_;have hl:ns.length=ks.length:=h3.length_eq;refine⟨.ref p,_,zPr I h7 h8 h6 h5 (show tG X.prog X.w _ s'.heap _ (.lst (ns.map V.int)) from⟨by simp;rw[Yr];omega,out.toList,e,zMe h2,by simpa using h1⟩),rfl,k p ns (I.hok.fresh h5) h3 h4⟩
end
def zfC:D->Option Int
 |.int i=>some i
 |_=>none
def zPj(ds:List D):Option (List Int):=ds.mapM zfC
@[simp] theorem zvi:∀ns:List Int,zPj (ns.map D.int)=some ns
 |[]=>rfl
 |i::ns=>by
  have:=zvi ns;unfold zPj at this ⊢;rw[map_cons,mapM_cons,this];rfl
def zqf:∀{ds:List D} {ns:List Int},zPj ds=some ns->ds=ns.map D.int
 |[],ns,h=>by
  unfold zPj at h;simp at h;subst h;rfl
 |d::ds,ns,h=>by
  unfold zPj at h;rw[mapM_cons]at h;obtain⟨i,e1,h⟩:=zi h;obtain⟨r,e2,h⟩:=zi h;cases h
  cases d with
  |int j=>cases e1;rw[zqf (show zPj ds=some r from e2)];rfl
  |_=>cases e1
def zmi{K:yx}{Z:List yc}{H:Hp}:∀{ns:List Int} {vs:List V},tf K Z H (ns.map D.int) vs->vs=ns.map V.int
 |[],vs,r=>r.nil_inv
 |i::ns,vs,r=>by
  obtain⟨v,q,rfl,h1,h2⟩:=r.cons_inv;rw[h1.int_inv,zmi h2];rfl
def zAf{K:yx}{Z:List yc}{H:Hp}:∀{ns:List Int},tf K Z H (ns.map D.int) (ns.map V.int)
 |[] =>.nil
 |i::ns =>.cons .int zAf
def uqL(ns:List Int):List Int:=uqN (λi=>ns.getD i 0) ns.length
def zhw(ns:List Int):List Int:=(uqL ns).mergeSort λa b=>decide (a<=b)
def zOc{a b:List Int}(p:a.Perm b)(ha:a.Pairwise (·<=·))(hb:b.Pairwise (·<=·)):a=b:=p.eq_of_pairwise (λ_ _ _ _ h1 h2=>Int.le_antisymm h1 h2) ha hb
def zXh(ns:List Int):(ns.mergeSort λa b=>decide (a<=b)).Pairwise (·<=·):=by
 have:=List.pairwise_mergeSort (le:=λa b:Int=>decide (a<=b)) (λa b c h1 h2=>by simp at h1 h2 ⊢;omega) (λa b=>by simp;omega) ns;exact this.imp λh=>by simpa using h
def z8p(G:FE):FE:=λJ O=>(G J O).bind λp=>match p.1 with
 |.loc n=>match p.2[n]? with
  |some (.lst ds)=>(zPj ds).bind λns=>bif decide (ns.length<=4000/\(uqL ns).length<64) then some (.loc p.2.length,p.2++[.lst ((zhw ns).map .int)]) else none
  |_=>none
 |_=>none
section
variable {X:Cx}{a b c e:yE}{es:List yE}{G ψ χ:FE}{pos pos2 p1 p2:xp}
def zHq(hm1:X.mg "sorted"=none)(hv1:yJ "sorted"=some (.builtin "sorted"))(hm2:X.mg "set"=none)(hv2:yJ "set"=some (.type "set"))(h:ME X e G)(hc:X.calm=true:=by rfl)(hg1:Gl X "sorted":=by rfl)(hg2:Gl X "set":=by rfl)
 (he:yj [e] X.env=(false,Ye e X.env)::yj [] X.env:=by rfl) (he2:yj [.Call (.Name "set" p2) [e] [] pos2] X.env=(false,Ye (.Call (.Name "set" p2) [e] [] pos2) X.env)::yj [] X.env:=by rfl) :
 ME X (.Call (.Name "sorted" p1) [.Call (.Name "set" p2) [e] [] pos2] [] pos) (z8p G) :=
 zfe (zIr (zms hc) hg1 hm1 hv1 (z4e (zGg (zOt hc) hg2 hm2 hv2 (z4e h zdi he) (by decide) (by decide) he rfl) zdi he2) (by decide) (by decide) he2 rfl) λZ J O Y H d O' Q A e k=>by
  obtain⟨⟨x,O1⟩,e1,e⟩:=zi e;refine⟨Z,J,O,x,O1,A,e1,λZ1 H1 v x1 R1 r1=>?_⟩;dsimp only at e
  split at e
  ·split at e
   ·rename_i hm
    obtain⟨ns,e2,e⟩:=zi e;obtain⟨hb,e⟩:=zW e;have hb:=of_decide_eq_true hb;cases e;rw[zqf e2]at hm;obtain⟨p,rfl,ep⟩:=r1.tz;obtain⟨vs,e3,q⟩:=R1.at_ _ _ _ ep hm;rw[zmi q]at e3;refine⟨p,ns,rfl,SqL.of e3,by unfold scanBound;omega,λp1 hp1=>?_⟩;refine⟨p1,uqL ns,rfl,zF,hb.2,λp2 ms hp2 hpm hpw=>?_⟩;have hms:ms=zhw ns:=zOc (hpm.trans (mergeSort_perm _ _).symm) hpw (zXh _);subst hms;have R2:=R1.Tx (o:=zbw X p1 (uqL ns)) hp1;exact k _ _ _ (x1.trans ((Ext.new hp1).trans (Ext.push hp2))) (R2.push hp2 ⟨_,zF,zAf⟩) (.loc (zzb R2))
   ·cases e
  ·cases e
variable {prog:yA}{w:yI}{A:yK}{E:Value->yd->Prop}{s:yd}
def zGs{l b:yc}{its its2:List Value}{n:Nat}{Q:Value->yd->Prop}(hl:s.heap.get? l=some {cls:=.type "list",data:=.seq its.toArray n })(hb:IsTup s.heap b its2.toArray)(hz:its.length+its2.length<=yD)
 (h:Q .none {s with heap:=s.heap.update l (xY (· ++ its2.toArray))}):yn (yv prog w) A (call (.builtin "list.extend") [.ref l,.ref b]) Q E s:=by
 obtain⟨o,ho,hc,m,hd⟩:=hb
 have hlong:¬(!its.toArray.isEmpty&&xf (its.toArray.size+its2.toArray.size))=true:=by
  rw[sK (by rw[size_toArray,size_toArray];exact hz),Bool.and_false];exact yB
 refine Yc PySem.F.slot_list_extend ⟨_,hl,rfl⟩ PySem.F.entry_list_extend ?_ (PySem.F.args_list_extend_2 _ _);unfold xh.«list.extend»;refine ya (m:=selfAndOne "list.extend" ⟨[.ref l,.ref b],[]⟩) (yf ?_);dsimp only;unfold Yy;refine ya (Xy (T:="tuple") ⟨o,ho,hc⟩ ?_);have ht:(Yv "tuple" == Yv "tuple")=true:=by rfl
 rw[if_pos (by rw[ht];simp)];refine ya (listItems_at ho hd ?_);refine ya (listItems_at hl rfl ?_);rw[if_neg hlong];refine ya (listUpdate_at hl rfl ?_ (by rw[size_toArray];omega) (by rw[Array.size_append,size_toArray,size_toArray];omega));exact yf ⟨_,rfl,h⟩
@[simp] def zOy:GM:=λx ds O=>match x,ds with
 |.loc n,[.tup ys]=>match O[n]? with
  |some (.lst xs)=>bif decide (xs.length+ys.length<=1000000) then some (.non,O.set n (.lst (xs++ys))) else none
  |_=>none
 |.loc n,[.loc m]=>match O[n]?,O[m]? with
  |some (.lst xs),some (.lst ys)=>bif decide (xs.length+ys.length<=1000000) then some (.non,O.set n (.lst (xs++ys))) else none
  |_,_=>none
 |_,_=>none
def zRr:MtG X "list.extend" zOy:=by
 refine MtG.of λU s Y H x xs v us Q I rx rs Z dx ds O d O' r1 r2 R e k=>?_;have hmi:=Tv;unfold zOy at e
 split at e
 ·split at e
  ·rename_i hm
   obtain⟨h1,e⟩:=zW e;have h1:=of_decide_eq_true h1;cases e;obtain⟨l,rfl,ea⟩:=r1.tz;obtain⟨vs,e3,q3⟩:=R.at_ _ _ _ ea hm;obtain⟨w,r,rfl,q1,q2⟩:=r2.cons_inv;rw[q2.nil_inv]at rs;obtain⟨b,ws,rfl,eb,qb⟩:=q1.tT;obtain⟨u,rfl,ru⟩:=vals1 rs;cases ru;cases rx;obtain⟨z,its,n,rv,hl,el⟩:=I.sO e3;obtain⟨its2,rv2,pt,_⟩:=I.tuple (SqT.of (K:=X.K) eb);have hl1:=q3.length;have hl2:=qb.length;have hl3:=rv2.length;have hmu:Mut (H l):=by rw[e3];trivial
   refine zGs el pt (by omega) ?_;refine⟨.non,_,I.SK (t':=s.toks) (ys:=vs++ws) (its':=its++its2) e3 el (by simp) (rv.append rv2) (by rw[length_append];omega),rfl,?_⟩;exact k Z _ _ (Ext.wr hmu) (R.wr hmu ea ⟨_,zF,tf.ext (Ext.wr hmu) (q3.append qb)⟩) .non
  ·cases e
 ·split at e
  ·rename_i hm1 hm2
   obtain⟨h1,e⟩:=zW e;have h1:=of_decide_eq_true h1;cases e;obtain⟨l,rfl,ea⟩:=r1.tz;obtain⟨vs,e3,q3⟩:=R.at_ _ _ _ ea hm1;obtain⟨w,r,rfl,q1,q2⟩:=r2.cons_inv;rw[q2.nil_inv]at rs;obtain⟨b,rfl,eb⟩:=q1.tz;obtain⟨ws,e4,q4⟩:=R.at_ _ _ _ eb hm2;have hl1:=q3.length;have hl2:=q4.length;have hmu:Mut (H l):=by rw[e3];trivial
   refine zRu U s Y H _ _ v us Q I rx rs ⟨l,b,vs,ws,rfl,rfl,e3,e4,by omega,?_⟩;exact k Z _ _ (Ext.wr hmu) (R.wr hmu ea ⟨_,zF,tf.ext (Ext.wr hmu) (q3.append q4)⟩) .non
  ·cases e
 ·cases e
def z9o{o:yE}{ψ:FA}{apos:xp}(ho:ME X o G)(ha:MAn X (e::es) ψ)
 (hbase:YA o "extend" X.env (Ye o X.env)=Ye o X.env:=by rfl)
 (hfew:((Ym pos (yj (e::es) X.env)).all (λx=>!x.1)&&(xR pos (YQ [] X.env)).all (λx=>x.1.isSome)
  && decide ((e::es).length+([]:List xO).length+(if([]:List xO).isEmpty then 0 else 1)<30))=true:=by rfl)
 (hline:(apos.endLine==pos.line)=true:=by rfl) (hs:yj (e::es) X.env=(false,Ye e X.env)::yj es X.env:=by rfl) (hplain:(Ym pos (yj es X.env)).any (·.1)=false:=by rfl) :
 ME X (.Call (.Attribute o "extend" apos) (e::es) [] pos) (z4h zOy G ψ):=zlo PySem.F.slot_list_extend PySem.F.type_list_extend zRr ho ha hbase hfew hline hs hplain
@[simp] def zfz:GL:=λds O=>match ds with
 |[.loc n]=>match O[n]? with
  |some (.lst xs)=>(zPj xs).bind λns=>some (.int ns.sum,O)
  |_=>none
 |_=>none
def zpo(ns:List Int):∀i,i<=ns.length->preSum (λj=>ns.getD j 0) i=(ns.take i).sum
 |0,_=>by simp[preSum]
 |i+1,h=>by
  have ih:=zpo ns i (by omega);unfold preSum;have hi:i<ns.length:=by omega
  have e:ns.take (i+1)=ns.take i++[ns[i]]:=by simp
  rw[ih,e,List.sum_append];simp[hi]
def zop(hc:X.calm=true):tX X (.builtin "sum") zfz:=by
 refine tX.of λU s Y H xs us Q I r Z ds O d O' r1 R e k=>?_;unfold zfz at e
 split at e
 ·split at e
  ·rename_i hm
   obtain⟨ns,e2,e⟩:=zi e;cases e;rw[zqf e2]at hm;obtain⟨v,rr,rfl,q1,q2⟩:=r1.cons_inv;obtain⟨a,rfl,ea⟩:=q1.tz;obtain⟨vs,e3,q3⟩:=R.at_ _ _ _ ea hm;rw[zmi q3]at e3;rw[q2.nil_inv]at r;obtain⟨u,rfl,ru⟩:=vals1 r;cases ru;obtain⟨its,rv,pl,hz⟩:=I.list (SqL.of (K:=X.K) e3);have hlt:a<s.heap.objs.size:=by obtain⟨_,_,e,_⟩:=pl;exact yk e
   have hI:=z6g rv;have hl:its.length=ns.length:=by rw[<-rv.length];simp
   refine call_sum_walkAnyS (xH pl.isList ?_);refine⟨_,_,_,_,_,_,_,λj=>ns.getD j 0,rfl,(Walks.list (A:=X.A.in1) (I.ok.hd hc) s.heap.objs.size a (yu hlt) its.toArray).toS,⟨⟨_,yp _ rfl,rfl,rfl⟩,pl.isList.push _⟩,λb hb=>?_,λi v hv=>IntsAre.int_at hI i v (by simpa using hv),λs' t' hmv=>?_⟩
   ·show b<(s.heap.push _).objs.size;rw[Ys];simp at hb;rcases hb with rfl|rfl
    ·exact Yz _
    ·exact YB hlt
   ·refine⟨.int _,H,zqv I hmv.os hmv.gens λb o e=>hmv.heap b o (by simpa using yu (yk e)) (yb _ e),⟨t',rfl⟩,?_⟩;rw[size_toArray,hl,zpo ns _ (yi _),take_length];exact k Z H _ Ext.refl R .int
  ·cases e
 ·cases e
@[simp] def zse(G:FE):FI:=λJ O=>(G J O).bind λp=>match p.1 with
 |.tup ds=>some (ds,yes,p.2)
 |.fz ds=>some (ds,yes,p.2)
 |.loc n=>match p.2[n]? with
  |some (.lst ds)=>some (ds,zTo n ds,p.2)
  |_=>none
 |_=>none
def zsb{tg:yE}(h:ME X a G):MI X tg a (zse G):=by
 intro U s Y H R I hh;obtain⟨Z,J,O,ds,ok,O',A,e,k⟩:=hh
 cases e1:G J O with
 |none=>unfold zse at e;rw[e1]at e;cases e
 |some p=>
  obtain⟨x,O1⟩:=p
  cases x with
  |tup zs=>exact zCA h U s Y H R I ⟨Z,J,O,ds,ok,O',A,by unfold zse at e;unfold zgx;rw[e1]at e ⊢;exact e,k⟩
  |fz zs=>exact zhu h U s Y H R I ⟨Z,J,O,ds,ok,O',A,by unfold zse at e;unfold zkt;rw[e1]at e ⊢;exact e,k⟩
  |loc n=>exact zhu h U s Y H R I ⟨Z,J,O,ds,ok,O',A,by unfold zse at e;unfold zkt;rw[e1]at e ⊢;exact e,k⟩
  |_=>unfold zse at e;rw[e1]at e;cases e
end
def zxp{K:yx}{h:yT}{C:yc}{bmB:List Value}{newId:String}(X:K.In h)(q:W.excIn K C bmB newId=true) :
 ∃bm N nm qn bs hdct sn sub ab col dd k0 k1 k2 k3 k5 mN,h.get? C=some (xl nm qn C N bs bm hdct sn sub ab col dd k0 k1 k2 k3 k5 newId)/\h.Ns N mN/\mN "__init__"=none/\OwnTail h bmB bm:=by
 unfold W.excIn at q
 split at q
 ·rename_i dd cd sl ho
  split at q
  ·rename_i C' bm k0 k1 k2 k3 n k5 hm hs
   simp only[yH,beq_iff_eq,Bool.not_eq_true']at q;obtain⟨⟨⟨⟨⟨rfl,rfl⟩,hdel⟩,ht⟩,hok⟩,hni⟩:=q;obtain⟨nm,bs,mro,ns,qn,hd,sn,sub,ab,col,del⟩:=cd;dsimp only at hm hdel hok hni;subst hm hdel
   have hsl:sl = #[k0,k1,k2,k3,some (.builtin n),k5]:=by
    obtain⟨l⟩:=sl;simp only at hs;rw[hs]
   subst hsl;exact⟨bm,ns,nm,qn,bs,hd,sn,sub,ab,col,dd,k0,k1,k2,k3,k5,_,X _ _ ho,.of_isNs (W.isNs_of_in X hok),W.nsMap_none_of_in X hok hni,W.tail_of_in X ht⟩
  ·cases q
 ·cases q
section
variable {X:Cx}{e:yE}{es:List yE}{pos np cpos:xp}{x:yt}{C:yc}{B newId initId:String}{bmB:List Value}
@[simp] def zKr(c:yt)(G:FA):FS:=λJ O=>(G J O).bind λp=>some (.exc c [] p.2)
def zvv{G:FA}(hn:Yk X.K yo x=some (some (.ref C)))(q:W.excIn X.K C bmB newId=true)(FB:ExcBaseFacts B newId initId bmB)(ha:MAn X (e::es) G)(hl:(e::es).length<=1000:=by decide)(hh:X.calm=true:=by rfl)(hg:Gl X x:=by rfl)
 (he:yj (e::es) X.env=(false,Ye e X.env)::yj es X.env:=by exact z2c rfl) (hpl:(Ym cpos (yj es X.env)).any (·.1)=false:=by rfl) (hdb:(x==("__debug__":yt))=false:=by decide) :
 MS X (.Raise (some (.Call (.Name x np) (e::es) [] cpos)) none pos) (zKr x G):=by
 intro U s Y H D I ⟨Z,J,O,o,A,eo,k⟩;obtain⟨⟨ds,O1⟩,e1,eo⟩:=zi eo;cases eo;obtain⟨bm,N,nm,qn,bs,hdct,sn,sub,ab,col,dd,k0,k1,k2,k3,k5,mN,hC,hN,hni,T⟩:=zxp I.mod.kin q
 have hpl':(Ym cpos (yj (e::es) X.env)).any (·.1)=false:=by
  rw[he];show(false||(Ym cpos (yj es X.env)).any (·.1))=false;rw[hpl];rfl
 refine wpAny_Raise_call_subT (C:=C) (nm:=nm) (q:=qn) (N:=N) (bs:=bs) (bm:=bm) (hdct:=hdct) (sn:=sn) (sub:=sub) (ab:=ab) (col:=col) (dd:=dd) (k0:=k0) (k1:=k1) (k2:=k2) (k3:=k3) (k5:=k5)
  FB (mN:=mN) (T.hasType FB.hasBase) (I.ok.hd hh) hpl' hni (zpg I hg (xI I.mod.kin I.mod.glob hn) ⟨rfl,?_⟩ hdb)
 have h:=ha.ma cpos U s Y H (λvs H'=>vs.length<=yD/\zIn X (.ref C) none H') I ⟨Z,J,O,ds,O1,A,e1,λZ' H' vs x' R r=>⟨by
  rw[<-r.length,ha.len _ _ _ _ e1];exact YO (sA hl),k Z' H' C none hn x' R (.inl ⟨rfl,rfl⟩)⟩⟩
 rw[he]at h ⊢;refine Calls.evalArgs_plain (yS h (λus s2 h2=>?_) λ_ _ y=>y);obtain⟨vs,H',I',r,hl,hw⟩:=h2;exact⟨rfl,by rw[<-r.length];exact hl,I'.bk _ _ hC,hN.keeps I'.bk,T.keeps I'.bk,λh' a hm=>hw U Y H' s2 (.ref a) _ I' (I'.madeX hm)⟩
end
inductive RO where
 |ok (d:D) (O:Mem)
 |exc (c:yt) (fs:List (yt×D)) (O:Mem)
abbrev FX:=List D->Mem->Option RO
def ROk(K:yx)(Z:List yc)(H:Hp)(Q:VK)(E:XK):RO->Prop
 |.ok d O'=>∀Z' H' v,Ext Z H Z' H'->tI K Z' H' O'->tx K Z' H' d v->Q v H'
 |.exc c fs O'=>∀Z' H' C dx,Yk K yo c=some (some (.ref C))->Ext Z H Z' H'->tI K Z' H' O'->Sg K Z' H' fs dx->E (.ref C) dx H'
def ROk.ext{K:yx}{Z Z1:List yc}{H H1:Hp}{Q:VK}{E:XK}{r:RO}(h:ROk K Z H Q E r)(x:Ext Z H Z1 H1):ROk K Z1 H1 Q E r:=by
 cases r with
 |ok d O=>exact λZ' H' v x' R r=>h Z' H' v (x.trans x') R r
 |exc c fs O=>exact λZ' H' C dx hc x' R r=>h Z' H' C dx hc (x.trans x') R r
def spX(K:yx)(n:Nat)(F:FX):Sp:=λvs H Q E=>vs.length=n/\∃Z ds O r,tf K Z H ds vs/\tI K Z H O/\F ds O=some r/\ROk K Z H Q E r
@[simp] def zzz:Option Out->Option RO
 |some (.ret d O)=>some (.ok d O)
 |some (.next _ O)=>some (.ok .non O)
 |some (.exc c fs O)=>some (.exc c fs O)
 |_=>none
def fnX{P:yA}{w:yI}{K:yx}{mg:yt->Option Value}{base:yT}{x qual:yt}{st:Yb}{f:yc}{fd:yh}{N ps:List yt}{k n:Nat}{F:FX}(φ:Fun K x qual st f fd)(S:tu N ps (zo st))(hn:ps.length=n)
 (hbody:∀(cdv:Value)(A:yK)(outer:List Env)(s:yd)(H:Hp)(E:XK),tS k (A.deeper (envOfC qual (zo st) s.heap.objs.size f cdv)) ->
  ∃p,MSs (zRs (CXq P w) P w K mg base N qual (zo st) f cdv A outer s H E) (zqc st) p/\∀ds O r,ds.length=n->F ds O=some r->zzz (p (zP N ds) O)=some r) :
 tq P w K mg base (CXq P w) (k+1) f fd ps (spX K n F):=by
 obtain⟨oc,od,kV,doc,pm,an,cdv,ct,osl,rfl,lk,hcd⟩:=φ.ex;refine ztz lk hcd S (λvs H Q E h=>by rw[hn];exact h.1) λA outer s H vs Q E hr h=>?_;obtain⟨p,hp,hF⟩:=hbody cdv A outer s H E hr;refine⟨_,hp,?_⟩;obtain⟨hl,Z,ds,O,r,rv,R,e,hk⟩:=h;have e':=hF ds O r (by rw[rv.length];exact hl) e
 cases eo:p (zP N ds) O with
 |none=>rw[eo]at e';cases e'
 |some o=>
  rw[eo]at e';refine⟨Z,zP N ds,O,o,zEr rv R,eo,?_⟩
  cases o with
  |ret d2 O2=>cases e';exact λZ' v H' x' R' r'=>hk Z' H' v x' R' r'
  |next J2 O2=>cases e';exact λZ' Y' H' x' A'=>hk Z' H' .non x' A'.hp .non
  |exc c fs O2=>cases e';exact λZ' H' C dx hc x' R' r'=>zfs (hk Z' H' C dx hc x' R' r')
  |brk _ _=>cases e'
  |cont _ _=>cases e'
section
variable {X:Cx}{e:yE}{es:List yE}{pos p spos:xp}{x:yt}{k j n:Nat}{st:Yb}{f:yc}{fd:yh}{ps:List yt}{F:FX}{G:FA}
def tCX(K:PySem.W.Frag)(W:XK)(n:Nat)(F:FX)(G:FA):TE:=zdv (spX K n F) [] W (tMA K G)
def zfx{K:PySem.W.Frag}{W:XK}{Z:List yc}{J:Loc}{O:Mem}{Y:L2.St}{H:Hp}{Q:VK}{ds:List D}{O1:Mem}{r:RO}(A:At K Z H Y J O)(e1:G J O=some (ds,O1))(hl:ds.length=n)(e2:F ds O1=some r)(h:ROk K Z H Q W r):tCX K W n F G Y H Q :=
 ⟨Z,J,O,ds,O1,A,e1,λZ1 H1 vs x1 R1 r1=>by
  show spX K n F (vs++[]) H1 Q W;rw[append_nil];exact⟨by rw[<-r1.length];exact hl,Z1,ds,O1,r,r1,R1,e2,h.ext x1⟩⟩
@[simp] def ztB(F:FX)(G:FA)(g:D->Loc->Mem->Out):FS:=λJ O=>(G J O).bind λp=>match F p.1 p.2 with
 |some (.ok d O')=>some (g d J O')
 |some (.exc c fs O')=>some (.exc c fs O')
 |none=>none
def zMq{g:D->Loc->Mem->Out}{J:Loc}{O:Mem}{o:Out}(h:ztB F G g J O=some o):∃ds O1 r,G J O=some (ds,O1)/\F ds O1=some r/\o=match r with
 |.ok d O'=>g d J O'
 |.exc c fs O' =>.exc c fs O':=by
 obtain⟨⟨ds,O1⟩,e1,h⟩:=zi h;refine⟨ds,O1,?_⟩
 cases e2:F ds O1 with
 |none=>rw[e2]at h;cases h
 |some r=>
  rw[e2]at h
  cases r with
  |ok d O'=>cases h;exact⟨_,e1,rfl,rfl⟩
  |exc c fs O'=>cases h;exact⟨_,e1,rfl,rfl⟩
@[simp] def zRt(F:FX)(G:FA):FS:=ztB F G λ_ J O =>.next J O
@[simp] def z1x(i:Nat)(F:FX)(G:FA):FS:=ztB F G λd J O =>.next (J.set i (some d)) O
end
end M
namespace L2
open PySem PySem.Spec PyProof.Rows
section
variable {X:Cx}{U:List (yc×YT)}{Y:St}{H:Hp}{s:yd}
def zFn{M:Model}{A:yK}{E:Value->yd->Prop}{i:Nat}{x:yt}{pos:xp}{Q:Unit->yd->Prop}(I:Inv X U Y H s)(hN:X.N.Nodup)(hi:X.N[i]?=some x)(hk:X.env.scope.names.lookup x=some .local)
 (h:∀s',Inv X U (Y.set i none) H s'->Q () s'):yn M A (do bindName X.env x .none;unbindBehindTheSuite X.env x pos) Q E s:=by
 obtain⟨m,hn,hl⟩:=id I.loc;have hcls:(X.env.scope.kind == .class||(X.env.scope.kind == .module&&X.env.locals != X.env.globals))=false:=by rw[I.ok.kind];rfl
 have hiσ:i<Y.length:=by rw[I.len];exact(List.getElem?_eq_some_iff.mp hi).1
 refine wpAny_nameGoes_keeps hk hn hcls λh' v hn' hs=>?_;have old:∀b o,X.s₀.heap.get? b=some o->b≠X.env.locals:=λb o e=>yu (yz (yk e) I.ok.above)
 have hok:HOk X.prog X.w H h':=λb ob e=>by
  refine(I.hok b ob e).stay (λc w' hc q=>(hs.2 c ?_).trans q) (λ_ q=>q) λ_ _ q=>q;rintro rfl;rcases hc with rfl|hc
  ·rw[I.free]at e;cases e
  ·rw[I.free]at hc;cases hc
 refine h _ ⟨I.ok,I.os,I.bare,⟨λb o e n hb hx=>(hs.2 b (old b o e)).trans (I.base.keep b o e n hb hx),λb o e n hb hx=>?_,I.base.free,λb o e hx=>?_,I.base.tups,I.base.TK,I.base.TU⟩,⟨_,hn',λj y v' e1 e2 e3=>?_⟩,λy c e=>?_,I.free,I.freeC,λp hp=>?_,hok,by simpa using I.len⟩
 ·obtain⟨sl,e1⟩:=I.base.slot b o e n hb hx;exact⟨sl,(hs.2 b (old b o e)).trans e1⟩
 ·obtain⟨o',e1⟩:=I.base.there b o e hx;exact⟨o',(hs.2 b (old b o e)).trans e1⟩
 ·by_cases hj:j=i
  ·subst hj;rw[yO hiσ]at e2;cases e2
  ·rw[yL (yV hj)]at e2;obtain⟨u',r',q⟩:=hl j y v' e1 e2 e3;refine⟨u',r',?_⟩;rcases q with ⟨k,e⟩|⟨k,c,e,z⟩
   ·refine .inl ⟨k,?_⟩;have:y≠x:=λe=>hj (z8n hN e1 (e▸hi));simp[this,e]
   ·exact .inr ⟨k,c,e,z.sameBut hs (I.cne y c e)⟩
 ·obtain⟨w',z⟩:=I.cell y c e;exact⟨w',z.sameBut hs (I.cne y c e)⟩
 ·obtain⟨p1,p2,p3,p4,p5⟩:=I.pin p hp;exact⟨(hs.2 p.1 p3).trans p1,p2,p3,p4,p5⟩
abbrev Cx.suite(X:Cx)(v:Value):Cx:={X with A:=X.A.mark (some v),calm:=false,xe:=λ_ _=>False }
def Inv.suite(I:Inv X U Y H s)(v:Value):Inv (X.suite v) U Y H s :=
 ⟨⟨I.ok.mod,I.ok.kind,I.ok.glob,I.ok.blt,I.ok.above,I.ok.inj,I.ok.has,I.ok.cab,λz=>absurd z (by simp),I.ok.frames,I.ok.stk,I.ok.exf,I.ok.bs,I.ok.bsz,I.ok.SD,I.ok.SI,I.ok.sx,I.ok.frf⟩,
  I.os,I.bare,I.base,I.loc,I.cell,I.free,I.freeC,I.pin,I.hok,I.len⟩
def Inv.TB{v:Value}(ok:X.Ok)(I:Inv (X.suite v) U Y H s):Inv X U Y H s :=
 ⟨ok,I.os,I.bare,I.base,I.loc,I.cell,I.free,I.freeC,I.pin,I.hok,I.len⟩
def HOk.SL{P:yA}{w:yI}{h:yT}{a:yc}{o:HO}(x:HOk P w H h)(hn:H a=none)(new:tG P w (upd H a o) h a o):HOk P w (upd H a o) h:=λb u e=>by
 by_cases hb:b=a
 ·subst hb;rw[zF]at e;cases e;exact new
 ·rw[zL hb]at e;exact(x b u e).stay (λc v _ q=>q) (λc q=>by rw[zL (zI q hn)];exact q) λc xs q=>by rw[zL (zI q hn)];exact q
variable {M:Model}{A:yK}{E:Value->yd->Prop}{h:yT}{g:Array GenState}{d:Drawn}{t:Nat}{os:OsState}
def zGh{nm q:yt}{C N:yc}{bs bm:List Value}{hdct:Bool}{sn:List yt}{sub:List Value}{ab:Bool}{col:Option Bool}{dd:Option yc}{k0 k1 k2 k3 k5:Option Value}{newId:String}
 {nm' q':yt} {C' N':yc} {bs' bm':List Value} {SN:Bool} {sn':List yt} {sub':List Value} {ab':Bool} {col':Option Bool} {dd':Option yc} {k0' k1' k2' k3' k5':Option Value} {newId':String} {e:yc} {oe:YT} {b:Bool} {Q:Bool->yd->Prop}
 (hC:h.get? C=some (xl nm q C N bs bm hdct sn sub ab col dd k0 k1 k2 k3 k5 newId)) (hC':h.get? C'=some (xl nm' q' C' N' bs' bm' SN sn' sub' ab' col' dd' k0' k1' k2' k3' k5' newId'))
 (he:h.get? e=some oe) (hcls:oe.cls=.ref C) (hbase:bm'.contains (.type "BaseException")=true) (hb:(yG C::bm).contains (.ref C')=b) (hq:Q b ⟨h,g,d,t,os⟩):yn M A (excMatches (.ref e) (.ref C')) Q E ⟨h,g,d,t,os⟩:=by
 have hcB:(yG C'::bm').contains (.type "BaseException")=true:=by rw[List.contains_cons,hbase,Bool.or_true]
 have f:=tc_notTuple;unfold excMatches
 cases b with
 |true=>
  repeat (first|(with_reducible refine YM he ?_;rw[hcls])|with_reducible refine YM hC' ?_|(with_reducible refine xr hC' ?_;rw[hcB])|(with_reducible refine xr hC ?_;rw[hb])|wp_step)
  exact hq
 |false=>
  repeat (first|(with_reducible refine YM he ?_;rw[hcls])|with_reducible refine YM hC' ?_|(with_reducible refine xr hC' ?_;rw[hcB])|(with_reducible refine xr hC ?_;rw[hb])|wp_step)
  exact hq
end
def zCt{K:yx}{h:yT}{C:yc}{v:Value}{b:Bool}{nm q:yt}{N:yc}{bs bm:List Value}{hdct:Bool}{sn:List yt}{sub:List Value}{ab:Bool}{col:Option Bool}{dd:Option yc}{k0 k1 k2 k3 k5:Option Value}{newId:String}(X:K.In h)(e:W.mroIn K C v=some b)
 (hC:h.get? C=some (xl nm q C N bs bm hdct sn sub ab col dd k0 k1 k2 k3 k5 newId)):(yG C::bm).contains v=b:=by
 obtain⟨cd,a,z⟩:=Option.bind_eq_some_iff.mp e;unfold W.clsIn at a
 split at a
 ·rename_i ho
  cases a;have:=X _ _ ho;rw[hC]at this;cases this
  split at z
  ·cases z
  ·cases z;rfl
 ·cases a
end L2
namespace M
open PySem PySem.Spec PyProof.Rows L2
def XP(X:Cx)(U:List (yc×YT))(Y:L2.St)(W:XK)(e:Value)(s':yd):Prop:=∃H1 s1 C dx H',Inv X U Y H1 s1/\sW X.prog X.w X.stack H1 s1 C dx H' e s'/\W C dx H'
def PX1(X:Cx)(st:Yb)(ψ:FS):Prop:=∀(U:List (yc×YT)) (s:yd) (Y:L2.St) (H:Hp) (D:Ends) (W:XK),Inv X U Y H s->tMS X.K W ψ D Y H->yn (yv X.prog X.w) X.A (exec st X.env) (SP X U D) (XP X U Y W) s
def PX(X:Cx)(sts:List Yb)(ψ:FS):Prop:=∀(U:List (yc×YT)) (s:yd) (Y:L2.St) (H:Hp) (D:Ends) (W:XK),Inv X U Y H s->tMS X.K W ψ D Y H->yn (yv X.prog X.w) X.A (execs sts X.env) (SP X U D) (XP X U Y W) s
section
variable {X:Cx}{c e:yE}{es:List yE}{pos p spos:xp}{x:yt}{k j n:Nat}{st:Yb}{f:yc}{fd:yh}{ps:List yt}{F:FX}{G:FA}
def zRw{ψ:FS}(h:PX1 X st ψ):PX X [st] ψ:=by
 intro U s Y H D W I q;refine wpAny_execs_cons (thn (h U s Y H D W I q) λf s1 q=>?_)
 cases f with
 |next=>exact Xd q
 |ret v=>exact q
 |brk=>exact q
 |cont=>exact q
end
abbrev FH:=yt->List (yt×D)->FS
def Cau(X:Cx)(U:List (yc×YT))(Y:L2.St)(C:Value)(dx:Option yc)(H':Hp)(a:yc)(s':yd):Prop:=∃H1 s1,Inv X U Y H1 s1/\sW X.prog X.w X.stack H1 s1 C dx H' (.ref a) s'
def zYt{P:yA}{w:yI}{outer:List Env}{H H':Hp}{s s':yd}{C:Value}{dx:Option yc}{a:yc}{B base h2:yT}(F:sW P w outer H s C dx H' (.ref a) s')(c:Cov outer H' s.heap B)(st:B.StaysIn s'.heap)(fl:Fly B outer a C dx h2)(sm:s'.heap.UpToSlots h2)
 (ff:s.heap.FunFrames base outer) (frf:∀b∈frs outer,H b=none):sW P w outer H s C dx H' (.ref a) {s' with heap:=h2 } :=
 ⟨F.os,F.bare,zaq F.un c st fl.st sm ff frf,zho F.hok c st fl.st,a,B,rfl,fl,c⟩
def MH(X:Cx)(hs:List ExceptHandler)(η:FH):Prop :=
 ∀U Y C c fs dx H' a s' Z J O o D,Cau X U Y (.ref C) dx H' a s'->Yk X.K yo c=some (some (.ref C))->Sg X.K Z H' fs dx->At X.K Z H' Y J O->η c fs J O=some o->sM X.K (zIn X) Z H' D o ->
  yn (yv X.prog X.w) X.A (handleBy (.ref a) X.env hs) (SP X U D) X.xe s'
@[simp] def zZy:FH:=λ_ _ _ _=>none
def z5t{X:Cx}{hs:List ExceptHandler}:MH X hs zZy:=λ_ _ _ _ _ _ _ _ _ _ _ _ _ _ _ _ _ _ e _=>by cases e
@[simp] def zQt(p:FS)(η:FH):FS:=λJ O=>match p J O with
 |some (.exc c fs O')=>η c fs J O'
 |o=>o
def z4w{X:Cx}{body:List Yb}{h0:ExceptHandler}{hs:List ExceptHandler}{pos:xp}{p:FS}{η:FH}(hb:PX X body p)(hh:MH X (h0::hs) η)(hst:X.stack=X.env::X.outer:=by rfl)(hfm:X.env.frame=some X.env.locals:=by rfl):MS X (.Try body (h0::hs) [] [] pos) (zQt p η):=by
 intro U s Y H D I ⟨Z,J,O,o,A,eo,kk⟩
 have calm:∀o',p J O=some o'->(∀c fs O',o'≠.exc c fs O')->yn (yv X.prog X.w) X.A (exec (.Try body (h0::hs) [] [] pos) X.env) (SP X U D) X.xe s:=λo' ep hne=>by
  have eo':o'=o:=by
   unfold zQt at eo;rw[ep]at eo
   cases o' with
   |exc c fs O'=>exact absurd rfl (hne c fs O')
   |next _ _=>cases eo;rfl
   |ret _ _=>cases eo;rfl
   |brk _ _=>cases eo;rfl
   |cont _ _=>cases eo;rfl
  subst eo';refine wpAny_Try_except (yS (hb U s Y H D E0 I ⟨Z,J,O,o',A,ep,?_⟩) (λfl s1 q=>?_) λe s1 ⟨_,_,_,_,_,_,_,z⟩=>z.elim)
  ·cases o' with
   |exc c fs O'=>exact absurd rfl (hne c fs O')
   |next _ _=>exact kk
   |ret _ _=>exact kk
   |brk _ _=>exact kk
   |cont _ _=>exact kk
  ·cases fl with
   |next=>exact Xd q
   |ret v=>exact q
   |brk=>exact q
   |cont=>exact q
 cases ep:p J O with
 |none=>unfold zQt at eo;rw[ep]at eo;cases eo
 |some o'=>
  cases o' with
  |next _ _=>exact calm _ ep (by intros;simp)
  |ret _ _=>exact calm _ ep (by intros;simp)
  |brk _ _=>exact calm _ ep (by intros;simp)
  |cont _ _=>exact calm _ ep (by intros;simp)
  |exc c fs O'=>
   have eo:η c fs J O'=some o:=by unfold zQt at eo;rw[ep]at eo;exact eo
   refine wpAny_Try_except (yS (hb U s Y H {nx:=λ_ _=>False,rt:=λ_ _=>False } (λCv dx H'=>∃C Z',Cv=.ref C/\Yk X.K yo c=some (some (.ref C))/\Ext Z H Z' H'/\tI X.K Z' H' O'/\Sg X.K Z' H' fs dx) I
    ⟨Z,J,O,_,A,ep,λZ' H' C dx hc x' R r=>⟨C,Z',rfl,hc,x',R,r⟩⟩) (λfl s1 q=>?_) λe s1 q=>?_)
   ·cases fl with
    |next=>obtain⟨_,_,_,z⟩:=q;exact z.elim
    |ret v=>obtain⟨_,_,_,_,_,z⟩:=q;exact z.elim
    |brk=>obtain⟨_,_,_,z⟩:=q;exact z.elim
    |cont=>obtain⟨_,_,_,z⟩:=q;exact z.elim
   ·obtain⟨H1,s2,Cv,dx,H',I1,F,C,Z',rfl,hc,x',R,rX⟩:=q;obtain⟨a,B,rfl,fl,cov⟩:=F.fly;have fl':Fly B (X.env::X.outer) a (.ref C) dx s1.heap:=by rw[<-hst];exact fl
    have hfr:X.A.frames=some (X.env::X.outer):=by rw[<-hst];exact I.ok.frames
    refine zAl hfr hfm fl' λh2 fl2 sm2=>z7f (s:={s1 with heap:=h2 }) fl2 λh3 fl3 sm3=>?_;rw[<-hst]at fl3;exact hh U Y C c fs dx H' a {s1 with heap:=h3 } Z' J O' o D ⟨H1,s2,I1,zYt (h2:=h3) F cov fl.st fl3 (sm2.trans sm3) I1.stack I1.TL⟩ hc rX (A.ext x' R) eo (kk.ext x')
@[simp] def behind(i:Nat):Option Out->Option Out
 |some (.next J O)=>some (.next (J.set i none) O)
 |some (.ret d O)=>some (.ret d O)
 |some (.brk J O)=>some (.brk (J.set i none) O)
 |some (.cont J O)=>some (.cont (J.set i none) O)
 |_=>none
@[simp] def hAs(i:Nat)(tb:List (yt×Bool))(q:FS)(η:FH):FH:=λc fs J O=>match tb.lookup c with
 |some true=>behind i (q (J.set i (some (.loc O.length))) (O++[.exc c fs]))
 |some false=>η c fs J O
 |none=>none
def sj(K:yx)(D0:yc)(tb:List (yt×Bool)):Prop:=∀c b,tb.lookup c=some b->∀C,Yk K yo c=some (some (.ref C))->W.ktsIn K C "BaseException"=true/\W.mroIn K C (.ref D0)=some b
def At.unset{K:yx}{Z:List yc}{H:Hp}{Y:L2.St}{J:Loc}{O:Mem}(A:At K Z H Y J O)(i:Nat):At K Z H (Y.set i none) (J.set i none) O:=by
 refine⟨λj d' e=>?_,A.hp,by simp[A.len]⟩
 by_cases hj:j=i
 ·subst hj
  have hl:j<J.length:=by
   have:=(List.getElem?_eq_some_iff.mp e).1;simpa using this
  rw[yO hl]at e;cases e
 ·rw[yL (yV hj)]at e;obtain⟨u,e1,q⟩:=A.st j d' e;exact⟨u,by rw[yL (yV hj)];exact e1,q⟩
def zXB{X:Cx}{d n:yt}{D0:yc}{b0:Yb}{suite:List Yb}{pos np:xp}{rest:List ExceptHandler}{q:FS}{η:FH}(i:Nat)(tb:List (yt×Bool))(hd:Yk X.K yo d=some (some (.ref D0)))(hk:W.ktsIn X.K D0 "BaseException"=true)(ht:sj X.K D0 tb)
 (hq:∀v,MSs (X.suite v) (b0::suite) q) (hr:MH X rest η) (hg:Gl X d:=by rfl) (hN:X.N.Nodup:=by first|assumption|decide) (hi:X.N[i]?=some n:=by rfl) (hl:X.env.scope.names.lookup n=some .local:=by rfl) (hdb:(d==("__debug__":yt))=false:=by decide) :
 MH X (.ExceptHandler (some (.Name d np)) (some n) (b0::suite) pos::rest) (hAs i tb q η):=by
 intro U Y C c fs dx H' a s' Z J O o D hcau hc hX A eo kk;obtain⟨H1,s1,I1,F⟩:=hcau;obtain⟨a',B,ea,fl,cov⟩:=F.fly;cases ea;have δ:Inv X U Y H' s':=I1.fly F cov fl.st fl.st (.refl _);obtain⟨oe,vs,y,he,hcl,hdx,hfd,h1,tr⟩:=fl.ob
 cases hb:tb.lookup c with
 |none=>unfold hAs at eo;rw[hb]at eo;cases eo
 |some b=>
  obtain⟨kC,mC⟩:=ht c b hb C hc;obtain⟨nm,qn,N,bs,bm,hdct,sn,sub,ab,col,dd,k0,k1,k2,k3,k5,newId,hC,_,_⟩:=W.kts_cls δ.kIn kC;obtain⟨nm',qn',N',bs',bm',SN,sn',sub',ab',col',dd',k0',k1',k2',k3',k5',newId',hC',hbase',_⟩:=W.kts_cls δ.kIn hk;refine wpAny_handleBy_cons (codeAny_handlers_test (zpg (X:=X.suite (.ref a)) (δ.suite (.ref a)) hg (xI δ.mod.kin δ.mod.glob hd) ?_ hdb)) (by intro z;cases z);obtain⟨hh,g,dr,tk,os⟩:=s';refine zGh hC hC' he hcl hbase' (zCt δ.kIn mC hC) ?_
  cases b with
  |false=>
   unfold hAs at eo;rw[hb]at eo;exact hr U Y C c fs dx H' a _ Z J O o D ⟨H1,s1,I1,F⟩ hc hX A eo kk
  |true=>
   unfold hAs at eo;rw[hb]at eo;refine codeAny_handlers_suite_as (z7f (s:=⟨hh,g,dr,tk,os⟩) fl λh2 fl2 sm2=>?_)
   have hna:H' a=none:=by
    cases z:H' a with
    |none=>rfl
    |some u=>obtain⟨w,hw⟩:=cov.tr a u z;rw[fl.new]at hw;cases hw
   have hold:∀b o,s1.heap.get? b=some o->b≠a:=λb o ho z=>by
    subst z
    by_cases hm:b∈frs X.stack
    ·obtain⟨_,o',ho',hnf⟩:=fl.ff.mem hm;rw[he]at ho';cases ho';exact hnf _ hfd
    ·obtain⟨w,hw⟩:=cov.old b o ho hm;rw[fl.new]at hw;cases hw
   have u2:=zaq F.un cov fl.st fl2.st sm2 I1.stack I1.TL;have ok2:=zho F.hok cov fl.st fl2.st;obtain⟨oe2,vs2,y2,he2,hcl2,hdx2,hfd2,_,_⟩:=fl2.ob
   have δ3:Inv X U Y (upd H' a (.ext (zYr a C dx))) ⟨h2,g,dr,tk,os⟩:=by
    refine I1.Sx (s':=⟨h2,g,dr,tk,os⟩) (ch:=[]) F.os ⟨u2.keep,u2.slot,λb o e1 e2 e3=>?_,u2.there,λb xs z=>?_,λb ob u z=>?_,λb ps z=>?_⟩ (ok2.SL hna ⟨⟨oe2,vs2,he2,hcl2,hdx2,hfd2⟩,⟨_,he2⟩,λx1 x2 z1 z2=>?_⟩) F.bare λb z=>absurd z (by simp)
    ·rw[zL (hold b o e1)];exact u2.free b o e1 e2 e3
    ·have:=u2.tups b xs z;rw[zL (zI this hna)];exact this
    ·have:=u2.TK b ob u z;rw[zL (zI this hna)];exact this
    ·obtain⟨m,this⟩:=u2.TU b ps z;exact⟨m,by rw[zL (zI this hna)];exact this⟩
    ·obtain⟨o1,v1,w1,w2⟩:=z1;exact⟨o1,v1,z2 _ w1,w2⟩
   refine zDi (X:=X.suite (.ref a)) (v:=.ref a) (u:=.ref a) (δ3.suite (.ref a)) hN hi (.inl hl) rfl (λs3 I3=>?_) (.inr hl)
   have A3:At X.K (Z++[a]) (upd H' a (.ext (zYr a C dx))) (Y.set i (some (.ref a))) (J.set i (some (.loc O.length))) (O++[.exc c fs]) :=
    (A.ext (Ext.push hna) (A.hp.push (o:=.ext (zYr a C dx)) (lo:=.exc c fs) hna ⟨C,dx,hc,zF,hX.ext (Ext.push hna)⟩)).set (.loc (zzb A.hp)) i
   cases eq:q (J.set i (some (.loc O.length))) (O++[.exc c fs]) with
   |none=>rw[eq]at eo;cases eo
   |some o'=>
    rw[eq]at eo;have kk':=kk.ext (Ext.push (o:=.ext (zYr a C dx)) hna);refine yS (hq (.ref a) U s3 _ _ {nx:=λY' H2=>D.nx (Y'.set i none) H2,rt:=D.rt,bk:=λY' H2=>D.bk (Y'.set i none) H2,ct:=λY' H2=>D.ct (Y'.set i none) H2 } I3 ⟨_,_,_,o',A3,eq,?_⟩) (λf4 s4 hs4=>?_) λ_ _ z=>z.elim
    ·cases o' with
     |next J' O'=>cases eo;exact λZ' Y' H2 x2 A2=>kk' Z' _ H2 x2 (A2.unset i)
     |brk J' O'=>cases eo;exact λZ' Y' H2 x2 A2=>kk' Z' _ H2 x2 (A2.unset i)
     |cont J' O'=>cases eo;exact λZ' Y' H2 x2 A2=>kk' Z' _ H2 x2 (A2.unset i)
     |ret d' O'=>cases eo;exact kk'
     |exc _ _ _=>cases eo
    ·cases f4 with
     |next=>obtain⟨Y4,H4,I4,z⟩:=hs4;exact zFn (I4.TB δ.ok) hN hi hl λs5 I5=>⟨_,H4,I5,z⟩
     |brk=>obtain⟨Y4,H4,I4,z⟩:=hs4;exact zFn (I4.TB δ.ok) hN hi hl λs5 I5=>⟨_,H4,I5,z⟩
     |cont=>obtain⟨Y4,H4,I4,z⟩:=hs4;exact zFn (I4.TB δ.ok) hN hi hl λs5 I5=>⟨_,H4,I5,z⟩
     |ret u=>obtain⟨v4,Y4,H4,I4,r4,z⟩:=hs4;exact zFn (I4.TB δ.ok) hN hi hl λs5 I5=>⟨v4,_,H4,I5,r4,z⟩
@[simp] def zSk(tb:List (yt×Bool))(q:FS)(η:FH):FH:=λc fs J O=>match tb.lookup c with
 |some true=>(match q J O with
  |some (.exc _ _ _)=>none
  |o=>o)
 |some false=>η c fs J O
 |none=>none
def zZt{X:Cx}{d:yt}{D0:yc}{b0:Yb}{suite:List Yb}{pos np:xp}{rest:List ExceptHandler}{q:FS}{η:FH}(tb:List (yt×Bool))(hd:Yk X.K yo d=some (some (.ref D0)))(hk:W.ktsIn X.K D0 "BaseException"=true)(ht:sj X.K D0 tb)
 (hq:∀v,MSs (X.suite v) (b0::suite) q) (hr:MH X rest η) (hg:Gl X d:=by rfl) (hdb:(d==("__debug__":yt))=false:=by decide) :
 MH X (.ExceptHandler (some (.Name d np)) none (b0::suite) pos::rest) (zSk tb q η):=by
 intro U Y C c fs dx H' a s' Z J O o D hcau hc hX A eo kk;obtain⟨H1,s1,I1,F⟩:=hcau;obtain⟨a',B,ea,fl,cov⟩:=F.fly;cases ea;have δ:Inv X U Y H' s':=I1.fly F cov fl.st fl.st (.refl _);obtain⟨oe,vs,y,he,hcl,hdx,hfd,h1,tr⟩:=fl.ob
 cases hb:tb.lookup c with
 |none=>unfold zSk at eo;rw[hb]at eo;cases eo
 |some b=>
  obtain⟨kC,mC⟩:=ht c b hb C hc;obtain⟨nm,qn,N,bs,bm,hdct,sn,sub,ab,col,dd,k0,k1,k2,k3,k5,newId,hC,_,_⟩:=W.kts_cls δ.kIn kC;obtain⟨nm',qn',N',bs',bm',SN,sn',sub',ab',col',dd',k0',k1',k2',k3',k5',newId',hC',hbase',_⟩:=W.kts_cls δ.kIn hk;refine wpAny_handleBy_cons (codeAny_handlers_test (zpg (X:=X.suite (.ref a)) (δ.suite (.ref a)) hg (xI δ.mod.kin δ.mod.glob hd) ?_ hdb)) (by intro z;cases z);obtain⟨hh,g,dr,tk,os⟩:=s';refine zGh hC hC' he hcl hbase' (zCt δ.kIn mC hC) ?_
  cases b with
  |false=>
   unfold zSk at eo;rw[hb]at eo;exact hr U Y C c fs dx H' a _ Z J O o D ⟨H1,s1,I1,F⟩ hc hX A eo kk
  |true=>
   unfold zSk at eo;rw[hb]at eo;refine codeAny_handlers_suite (z7f (s:=⟨hh,g,dr,tk,os⟩) fl λh2 fl2 sm2=>?_);have δ2:Inv X U Y H' ⟨h2,g,dr,tk,os⟩:=I1.fly F cov fl.st fl2.st sm2
   cases eq:q J O with
   |none=>rw[eq]at eo;cases eo
   |some o'=>
    rw[eq]at eo;refine yS (hq (.ref a) U _ Y H' D (δ2.suite _) ⟨Z,J,O,o',A,eq,?_⟩) (λf4 s4 hs4=>?_) λ_ _ z=>z.elim
    ·cases o' with
     |next J' O'=>cases eo;exact kk
     |brk J' O'=>cases eo;exact kk
     |cont J' O'=>cases eo;exact kk
     |ret d' O'=>cases eo;exact kk
     |exc _ _ _=>cases eo
    ·cases f4 with
     |next=>obtain⟨Y4,H4,I4,z⟩:=hs4;exact⟨Y4,H4,I4.TB δ.ok,z⟩
     |brk=>obtain⟨Y4,H4,I4,z⟩:=hs4;exact⟨Y4,H4,I4.TB δ.ok,z⟩
     |cont=>obtain⟨Y4,H4,I4,z⟩:=hs4;exact⟨Y4,H4,I4.TB δ.ok,z⟩
     |ret u=>obtain⟨v4,Y4,H4,I4,r4,z⟩:=hs4;exact⟨v4,Y4,H4,I4.TB δ.ok,r4,z⟩
end M
namespace PySem.W
open PySem PySem.Spec PySem.Calls PyProof.Rows
structure AskC(K:Frag)(C:yc):Prop where
 cl:(clsIn K C).isSome=true
 ga:findIn K (.ref C) "__getattribute__"=some (some (.builtin "BaseException.__getattribute__"))
 gk:findIn K (.ref C) "__getattr__"=some none
 be:mroIn K C (.type "BaseException")=some true
 ha:findIn K (.ref C) "__class__"=some (some (.builtin "object.__class__"))
 hn:specialIn K (.builtin "object.__class__") "__get__"=some (some (.builtin "getset_descriptor.__get__"))
 tk:takesIn K (.builtin "object.__class__")=some true
 hm:mroIn K C (.type "object")=some true
section
variable {prog:yA}{w:yI}{A:yK}{E:Value->yd->Prop}{s:yd}{K:Frag}{x D:yc}{ox:YT}{odo:Option YT}
def zTt{M:Model}{nameV:Value}{Q:Unit->yd->Prop}(X:K.In s.heap)(I:InstAt s.heap x ox D odo)(c:AskC K D)(hq:Q () s):yn M A (checkBuiltinCall "BaseException.__getattribute__" ⟨[.ref x,nameV],[]⟩) Q E s:=by
 have hk:builtinKind "BaseException.__getattribute__"=some .slot:=by decide +kernel
 have hsplit:splitId "BaseException.__getattribute__"=some ("BaseException","__getattribute__"):=by decide +kernel
 have ha:=F.args_bexc_ga (.ref x) nameV;have L0:=I.type (M:=M);have L1:=looks_mroIn (M:=M) X c.be;obtain⟨hh,g,d,t,os⟩:=s;simp only[checkBuiltinCall,hk,hsplit];refine ya ?_
 ·unfold isInstance
  repeat (first|with_reducible refine L0.at ?_|with_reducible refine L1.at ?_|wp_step)
  exact hq
end
end PySem.W
namespace M
open PySem PySem.Spec PyProof.Rows L2
section
variable {X:Cx}
inductive CN where
 |own (c:yt)
 |ty (n:String)
 deriving DecidableEq
abbrev Kit:=List ((Option yt×CN)×Bool)
def z2B(K:yx):CN->Value->Prop
 |.own d,v=>∃a,Yk K yo d=some (some (.ref a))/\v=.ref a
 |.ty n,v=>v=.type n
structure KitOk(K:yx)(tb:Kit):Prop where
 non:∀d b v,tb.lookup (none,d)=some b->z2B K d v->W.kitOne K (.type "NoneType") v=some b
 ask:∀c d b,tb.lookup (some c,d)=some b->∀C,Yk K yo c=some (some (.ref C))->W.AskC K C
 exc:∀c d b v,tb.lookup (some c,d)=some b->z2B K d v->∀C,Yk K yo c=some (some (.ref C))->W.kitOne K (.ref C) v=some b
variable {K:yx}{D0:yc}{tb:List (yt×Bool)}{kt:Kit}
def sj.nil:sj K D0 []:=λc b h=>by cases h
def sj.cons{c:yt}{C:yc}{b:Bool}(hc:Yk K yo c=some (some (.ref C)))(k:W.ktsIn K C "BaseException"=true)(m:W.mroIn K C (.ref D0)=some b)(r:sj K D0 tb):sj K D0 ((c,b)::tb):=λc' b' h C' hC'=>by
 unfold YL at h
 split at h
 ·rename_i e
  cases h;rw[beq_iff_eq.mp e,hc]at hC';cases hC';exact⟨k,m⟩
 ·exact r c' b' h C' hC'
end
structure MSsl(X:Cx)(sts:List Yb)(ψ:FS):Prop where
 h:MSs X sts ψ
end M
namespace PySem
open Sem (wp)
section
variable {prog:yA}{w:yI}{A:yK}{E:Value->yd->Prop}{h:yT}{g:Array GenState}{d:Drawn}{t:Nat}{os:OsState}
variable {nm q:yt}{C N fI:yc}{bs bm bmB:List Value}{hdct:Bool}{sn:List yt}{sub:List Value}{ab:Bool}{col:Option Bool}{dd:Option yc}{k0 k1 k2 k3 k5:Option Value}{B newId initId:String}
abbrev zLh(h:yT)(C:yc)(rest:List Value):yT:=(h.push {cls:=.type "tuple",data:=.seq rest.toArray }).push {cls:=.ref C,data:=.fields #[.ref h.objs.size,.none,.none,.none,.bool false,.none]}
def zYi(F:ExcBaseFacts B newId initId bmB)(T:OwnTail h bmB bm){rest:List Value}{Q:Fin->yd->Prop}
 (hC:h.get? C=some (xl nm q C N bs bm hdct sn sub ab col dd k0 k1 k2 k3 k5 newId)) (L:W.Looks (yv prog w) h (Xr (.ref C) "__init__") (some (.ref fI))) (LB:∀self,W.Looks (yv prog w) h (bindSpecial (.ref fI) self) (.ref fI,[self]))
 (hq:yn (yv prog w) A (call (.ref fI) (.ref (h.objs.size+1)::rest)) (λv s'=>v=.none/\Q (.done (.ret (.ref (h.objs.size+1)))) s') E ⟨zLh h C rest,g,d,t,os⟩) (hrest:rest.length<=yD:=by size_fits) :
 yn (yv prog w) A (xh.«type.__call__» ⟨.ref C::rest,[]⟩) Q E ⟨h,g,d,t,os⟩:=by
 repeat (first|with_reducible refine YM hC ?_|with_reducible refine wpAny_madeBy_exc hC ?_|wp_step)
 refine codeAny_call_builtin_code (Code.quiet_builtin _ F.quiet) (wpAny_check_new_subT F T hC ?_);refine codeAny_exc_new_subT F T hC ?_ hrest;show yn _ _ _ _ _ _;have k:∀b o,h.get? b=some o->(zLh h C rest).get? b=some o:=λb o e=>yb _ (yb _ e);have hC₁:=k _ _ hC;have hget:(zLh h C rest).get? (h.objs.size+1)=some {cls:=.ref C,data:=.fields #[.ref h.objs.size,.none,.none,.none,.bool false,.none]}:=by heap_get
 have hcC:(yG C::bm).contains (.ref C)=true:=by simp
 have T₁:=T.keeps k;unfold isInstance
 repeat (first|with_reducible refine YM hget ?_|(with_reducible refine xr hC₁ ?_;rw[hcC])|wp_step)
 show yn _ _ (Xr (.ref C) _) _ _ _;refine L _ _ _ _ k ?_;refine yQ (ya (LB _ _ _ _ _ k ?_));refine ya (yS hq (λv s' hv=>?_) λ_ _ x=>x);obtain⟨rfl,hv⟩:=hv
 repeat wp_step
 exact hv
def zOn(F:ExcBaseFacts B newId initId bmB)(T:OwnTail h bmB bm){rest:List Value}{Q:Value->yd->Prop}
 (hC:h.get? C=some (xl nm q C N bs bm hdct sn sub ab col dd k0 k1 k2 k3 k5 newId)) (L:W.Looks (yv prog w) h (Xr (.ref C) "__init__") (some (.ref fI))) (LB:∀self,W.Looks (yv prog w) h (bindSpecial (.ref fI) self) (.ref fI,[self]))
 (hq:yn (yv prog w) (A.under (.builtin "type.__call__" ⟨.ref C::rest,[]⟩)) (call (.ref fI) (.ref (h.objs.size+1)::rest)) (λv s'=>v=.none/\Q (.ref (h.objs.size+1)) s') E ⟨zLh h C rest,g,d,t,os⟩) (hrest:rest.length<=yD:=by size_fits) :
 yn (yv prog w) A (call (.ref C) rest) Q E ⟨h,g,d,t,os⟩:=by
 have f1:=tc_lookup;have f2:=tc_bind (.ref C);have hT:(⟨h,g,d,t,os⟩:yd).TypeIs (.ref C) "type":=⟨_,hC,rfl⟩
 refine Xq (codeAny_of_tree ?_);show yn _ _ (callAny (.ref C) _) _ _ _
 repeat (any_goals (first|assumption|with_reducible refine YM hC ?_|wp_step))
 refine⟨rfl,?_⟩;refine codeAny_call_builtin_at (Code.quiet_builtin _ (by decide +kernel)) entry_typeCall (wpAny_check_type_call_sub hC (zYi (hrest:=hrest) F T hC L LB ?_));exact hq
def zwf{M:Model}{s:yd}{env:Env}{x:Sem Value}{Q:Flow->yd->Prop}(hbase:bm.contains (.type "BaseException")=true)(hh:A.handled=none)
 (h:yn M A x (λv s₁=>∃e de te,v=.ref e/\s₁.heap.get? C=some (xl nm q C N bs bm hdct sn sub ab col dd k0 k1 k2 k3 k5 newId)/\s₁.heap.get? e=some {cls:=.ref C,dict:=de,data:=.fields #[.ref te,.none,.none,.none,.bool false,.none]}/\E (.ref e) s₁) E s) :
 yn M A (raiseStmt env (some x) none) Q E s:=by
 have hcB:(yG C::bm).contains (.type "BaseException")=true:=by rw[List.contains_cons,hbase,Bool.or_true]
 unfold raiseStmt;refine ya (yS h (λv s₁ h₁=>?_) λ_ _ x=>x);obtain⟨e,de,te,rfl,hC,he,hE⟩:=h₁;obtain⟨hp,g,d,tk,os⟩:=s₁
 repeat (first|with_reducible refine YM he ?_|with_reducible refine YM hC ?_|(with_reducible refine xr hC ?_;rw[hcB])|wp_step)
 exact wpAny_raiseNew_none hh hE
variable {s:yd}{env:Env}
variable {nm q:yt}{C N fI:yc}{bs bm bmB:List Value}{hdct:Bool}{sn:List yt}{sub:List Value}{ab:Bool}{col:Option Bool}{dd:Option yc}{k0 k1 k2 k3 k5:Option Value}{B newId initId:String}
def z0l(F:ExcBaseFacts B newId initId bmB){x:yt}{np cpos pos:xp}{args:List yE}{Q:Flow->yd->Prop}
 (hbase:bm.contains (.type "BaseException")=true) (hh:A.handled=none) (hplain:(Ym cpos (yj args env)).any (·.1)=false)
 (h:yn (yv prog w) A (Ye (.Name x np) env) (λf s₁=>f=.ref C/\yn (yv prog w) A (evalArgs (.ref C) true (Ym cpos (yj args env)) [])
  (λa s₂=>a.kw=[]/\a.pos.length<=yD/\s₂.heap.get? C=some (xl nm q C N bs bm hdct sn sub ab col dd k0 k1 k2 k3 k5 newId)/\W.Looks (yv prog w) s₂.heap (Xr (.ref C) "__init__") (some (.ref fI))/\OwnTail s₂.heap bmB bm/\(∀self,W.Looks (yv prog w) s₂.heap (bindSpecial (.ref fI) self) (.ref fI,[self])) /\
   yn (yv prog w) (A.under (.builtin "type.__call__" ⟨.ref C::a.pos,[]⟩)) (call (.ref fI) (.ref (s₂.heap.objs.size+1)::a.pos)) (λv s₃=>v=.none/\s₃.heap.get? C=some (xl nm q C N bs bm hdct sn sub ab col dd k0 k1 k2 k3 k5 newId) /\
    (∃de te,s₃.heap.get? (s₂.heap.objs.size+1)=some {cls:=.ref C,dict:=de,data:=.fields #[.ref te,.none,.none,.none,.bool false,.none]})/\E (.ref (s₂.heap.objs.size+1)) s₃) E {s₂ with heap:=zLh s₂.heap C a.pos }) E s₁) E s) :
 yn (yv prog w) A (exec (.Raise (some (.Call (.Name x np) args [] cpos)) none pos) env) Q E s:=by
 rw[arm_exec_Raise]
 first
  |refine ya (YU (zwf (C:=C) (nm:=nm) (q:=q) (N:=N) (bs:=bs) (bm:=bm) (hdct:=hdct) (sn:=sn) (sub:=sub) (ab:=ab) (col:=col) (dd:=dd) (k0:=k0) (k1:=k1) (k2:=k2) (k3:=k3) (k5:=k5) (newId:=newId) hbase hh (ya (yS (wpAny_Call_ofName (yS h (λf s₁ h₁=>?_) λ_ _ x=>x)) (λv s₃ h₃=>ya (YU (yf h₃))) λ_ _ x=>x))))
  |(simp only[evalOpt,Option.map];refine ya (YU (zwf (C:=C) (nm:=nm) (q:=q) (N:=N) (bs:=bs) (bm:=bm) (hdct:=hdct) (sn:=sn) (sub:=sub) (ab:=ab) (col:=col) (dd:=dd) (k0:=k0) (k1:=k1) (k2:=k2) (k3:=k3) (k5:=k5) (newId:=newId) hbase hh (ya (yS (wpAny_Call_ofName (yS h (λf s₁ h₁=>?_) λ_ _ x=>x)) (λv s₃ h₃=>ya (YU (yf h₃))) λ_ _ x=>x)))))
  |(refine ya (YU (zwf (C:=C) (nm:=nm) (q:=q) (N:=N) (bs:=bs) (bm:=bm) (hdct:=hdct) (sn:=sn) (sub:=sub) (ab:=ab) (col:=col) (dd:=dd) (k0:=k0) (k1:=k1) (k2:=k2) (k3:=k3) (k5:=k5) (newId:=newId) hbase hh ?_));refine ya (yS (wpAny_Call_ofName (yS h (λf s₁ h₁=>?_) λ_ _ x=>x)) (λv s₃ h₃=>ya (YU (yf h₃))) λ_ _ x=>x))
 obtain⟨rfl,h₁⟩:=h₁;unfold callWith;refine ya (yQ (yS h₁ (λa s₂ h₂=>ya (YU ?_)) λ_ _ x=>x));obtain⟨apos,akw⟩:=a;obtain⟨hkw,hlen,hC,L,T,LB,h₂⟩:=h₂;obtain rfl:akw=[]:=hkw;obtain⟨hp,g,d,tk,os⟩:=s₂;simp only[hplain];refine ya (wpAny_keeperOf_exc hC ?_);refine ya (zOn (hrest:=hlen) F T hC L LB ?_);refine yS h₂ (λv s₃ h₃=>?_) λ_ _ x=>x;obtain⟨rfl,hC3,⟨de,te,he⟩,hE⟩:=h₃;exact⟨rfl,ya (yQ (wpAny_point (yf ⟨_,de,te,rfl,hC3,he,hE⟩)))⟩
end
end PySem
namespace PySem
open Sem (wp)
section
variable {prog:yA}{w:yI}{A:yK}{E:Value->yd->Prop}{h:yT}{g:Array GenState}{d:Drawn}{t:Nat}{os:OsState}
variable {nm q:yt}{C N:yc}{bs bm bmB:List Value}{hdct:Bool}{sn:List yt}{sub:List Value}{ab:Bool}{col:Option Bool}{dd:Option yc}{k0 k1 k2 k3 k5:Option Value}{B newId initId:String}
def zWt(F:ExcBaseFacts B newId initId bmB)(T:OwnTail h bmB bm){e te:yc}{de:Option yc}{rest:List Value}{Q:Value->yd->Prop}
 (hC:h.get? C=some (xl nm q C N bs bm hdct sn sub ab col dd k0 k1 k2 k3 k5 newId)) (he:h.get? e=some {cls:=.ref C,dict:=de,data:=.fields #[.ref te,.none,.none,.none,.bool false,.none]})
 (hq:∀h',(∀b o,b≠e->h.get? b=some o->h'.get? b=some o)->h'.get? e=some {cls:=.ref C,dict:=de,data:=.fields #[.ref h.objs.size,.none,.none,.none,.bool false,.none]}->h.objs.size<=h'.objs.size->Q .none ⟨h',g,d,t,os⟩) (hrest:rest.length<=yD:=by size_fits) :
 yn (yv prog w) A (call (.builtin initId) (.ref e::rest)) Q E ⟨h,g,d,t,os⟩:=by
 refine Xq (xk F.init.plain F.initEntry (wpAny_check_init_subT F T hC he rfl ?_))
 wp_walk
 refine hq _ (λb o hb eb=>?_) ?_ ?_
 ·rw[Yh _ _ (yV hb)];exact yb _ eb
 ·rw[yN _ (yb _ he) rfl];rfl
 ·simp
end
end PySem
namespace PySem.W
open PySem PySem.Spec PySem.Calls PyProof.Rows
open Builtin Builtin.ObjectAttr
abbrev bmV:List Value:=[.type "ValueError",.type "Exception",.type "BaseException",.type "object"]
def Tq:List Value->List Value
 |.ref _::r=>Tq r
 |l=>l
def ztu{v:Value}{r:List Value}(q:¬∃c,v=.ref c):Tq (v::r)=v::r:=by
 unfold Tq
 split
 ·rename_i z;cases z;exact absurd ⟨_,rfl⟩ q
 ·rfl
def z8m(self:Value):∀{l:List Value},Tq l=bmV->refuseLoop self "__setattr__" l=pure ()
 |[],h=>by cases h
 |v::r,h=>by
  by_cases q:∃c,v=.ref c
  ·obtain⟨c,rfl⟩:=q;rw[refuseLoop_ref];exact z8m self (l:=r) h
  ·rw[ztu q]at h;rw[h];exact PySem.F.store_ValueError.passes self
def z6q:∀{l:List Value},Tq l=bmV->l.contains (.type "object")=true/\l.isEmpty=false
 |[],h=>by cases h
 |v::r,h=>by
  refine⟨?_,rfl⟩
  by_cases q:∃c,v=.ref c
  ·obtain⟨c,rfl⟩:=q;rw[List.contains_cons,(z6q (l:=r) h).1,Bool.or_true]
  ·rw[ztu q]at h;rw[h];decide
section
variable {prog:yA}{w:yI}{A:yK}{E:Value->yd->Prop}{s:yd}{K:Frag}{x C:yc}{ox:YT}{name:yt}{v:Value}{cd:ClassData}
def ziy{R:Result->yd->Prop}{od:Option YT}{tk:Tok}(X:K.In s.heap)(I:InstAt s.heap x ox C od)(hc:clsIn K C=some cd)(ho:Tq cd.mro=bmV)(ha:findIn K (.ref C) name=some none)
 (h:yn (yv prog w) A.in1 (storeInOwnDict (.ref x) (.ref C) (.str name tk) name v false)
  (λfin s'=>match fin with | .done f=>R (.ok f) s' | .again c'=>c'.quiet=true/\xN (yv prog w) A c' R s') (λe s'=>R (.error e) s') s) :
 xN (yv prog w) A (.call (.builtin "object.__setattr__") ⟨[.ref x,.str name tk,v],[]⟩) R s:=by
 have SF:=PySem.F.store_object;obtain⟨h1,h2⟩:=z6q ho;have sub:Looks (yv prog w) s.heap (isInstance (.ref x) (.type "object")) true:=I.type.andThen (looks_mroIn X (by unfold mroIn;rw[hc,ym,if_neg (by rw[h2];decide),h1]));refine xk SF.slot.plain SF.entry (@check_slot (yv prog w) _ _ s "object.__setattr__" "object" "__setattr__" (.ref x) [.str name tk,v] [] _ SF.kind SF.split sub (SF.args (.ref x) (.str name tk) v) ?_);have hm:Looks (yv prog w) s.heap (mroOf (.ref C)) cd.mro:=(looks_clsIn X hc).andThen .now;rw[osa_eq,refuse_eq];refine ya (ya (I.type.here (ya (hm.here ?_))));rw[z8m _ ho];refine yf (ya (I.type.here (ya ((looks_findIn X ha).here (ya (yf (a:=none) ?_))))));exact h
def set_exc{Q:Unit->yd->Prop}{vs:Array Value}(X:K.In s.heap)(I:InstAt s.heap x ox C none)(hdt:ox.data=.fields vs)
 (hs:findIn K (.ref C) "__setattr__"=some (some (.builtin "object.__setattr__"))) (hc:clsIn K C=some cd) (ho:Tq cd.mro=bmV) (hd:cd.hasDict=true) (ha:findIn K (.ref C) name=some none)
 (h:∀(h':yT)(p:yc)(tk:Nat),h'.get? x=some {ox with dict:=some p }->h'.Ns1 p (λy=>if y=name then some v else none)->s.heap.objs.size<=p->(∀b o,b≠x->s.heap.get? b=some o->h'.get? b=some o)->Q () {s with heap:=h',toks:=tk }) :
 yn (yv prog w) A (setAttr (.ref x) name v) Q E s:=by
 obtain⟨hx,hcl,hno,hdd⟩:=id I;obtain⟨oc,odi,oda,osl⟩:=ox;dsimp only at hcl hdt;subst hcl hdt
 cases odi with
 |some dx=>exact hdd.elim
 |none=>
  refine set_plain X I hs (ziy (s:={s with toks:=s.toks+1 }) X I hc ho ha ?_);refine ya (yf (ya (ya (wpAny_loadPart hx (ya (Looks.here (s:={s with toks:=s.toks+1 }) (looks_clsIn X hc) ?_))))));rw[hd];have hx₁:(s.heap.push {cls:=.type "dict",data:=.dict #[]}).get? x=some ⟨.ref C,none,.fields vs,osl⟩:=yb _ hx;have hxs:x≠s.heap.objs.size:=yu (yk hx);refine ya (wpAny_alloc' ?_);refine ya (wpAny_update' hx₁ ?_);refine yf (a:=some s.heap.objs.size) ?_
  have hgd:((s.heap.push {cls:=.type "dict",data:=.dict #[]}).update x λo=>{cls:=o.cls,dict:=some s.heap.objs.size,data:=o.data,slots:=o.slots }).get? s.heap.objs.size
   = some {cls:=.type "dict",data:=.dict #[]} :=
   (Heap.get?_update_ne _ _ _ _ hxs.symm).trans (Heap.get?_push_at rfl rfl)
  have hnd:((s.heap.push {cls:=.type "dict",data:=.dict #[]}).update x λo=>{cls:=o.cls,dict:=some s.heap.objs.size,data:=o.data,slots:=o.slots }).Ns s.heap.objs.size (λ_=>none) :=
   ⟨_,#[],_,hgd,rfl,λe he=>absurd he (by simp),λ_=>rfl⟩
  show yn _ _ (storeInDict s.heap.objs.size (.str name _) name v) _ _ _;unfold storeInDict newKeyGuard;refine ya (yf (ya (wpAny_nsSet1 (Heap.Ns1.of_empty hnd) λh' hn' hs'=>?_)));obtain⟨oD,esD,epD,hoD,hdD,hcD⟩:=hn'.count (Within.cons name v Within.nil);refine ya (wpAny_lookBehind hoD (by rw[hdD];exact pastItsLine_dict (yF hcD (by rw[length_cons,List.length_nil,Yr];omega))) ?_);refine yf ?_;refine h h' s.heap.objs.size _ ?_ hn' (yi _) (λb o hb q=>?_)
  ·exact(hs'.2 x hxs).trans (yN _ hx₁ rfl)
  ·exact(hs'.2 b (yu (yk q))).trans ((Heap.get?_update_ne _ _ _ _ hb).trans (yb _ q))
variable {D:yc}{odo:Option YT}
def z7r{tk:Tok}{Q:Fin->yd->Prop}(X:K.In s.heap)(I:InstAt s.heap x ox D odo)(e:findObj K D odo name=some (.value v))(hq:Q (.done (.ret v)) s):yn (yv prog w) A (xh.«object.__getattribute__» ⟨[.ref x,.str name tk],[]⟩) Q E s:=by
 have L0:=I.type (M:=yv prog w);have L1:=looks_find (M:=yv prog w) X I e;obtain⟨hh,g,d,t,os⟩:=s
 repeat (any_goals (first|assumption|with_reducible refine L0.at ?_|with_reducible refine L1.at ?_|wp_step))
def SO{expr:Bool}{Q:Value->yd->Prop}(X:K.In s.heap)(I:InstAt s.heap x ox D odo)(c:AskC K D)(e:findObj K D odo name=some (.value v))(hv:handedIn v=true)(h:Q v {s with toks:=s.toks+1 }):yn (yv prog w) A (getAttr (.ref x) name expr) Q E s:=by
 have L0:=I.type (M:=yv prog w);have L1:=looks_findIn (M:=yv prog w) X c.ga;have L2:=looks_findIn (M:=yv prog w) X c.gk;have f3:=F.excAttr_ValueError.ga.bind (.ref x);have hx2:(xv "BaseException.__getattribute__" == xv "object.__getattribute__")=false:=by decide +kernel
 have hx1:(onTheHeap (yG D)&&xv "BaseException.__getattribute__" == xv "object.__getattribute__")=false:=by rw[hx2];rfl
 obtain⟨hh,g,d,t,os⟩:=s;unfold getAttr getAttrBy
 repeat (any_goals (first|assumption|with_reducible refine L0.at ?_|with_reducible refine L1.at ?_|with_reducible refine L2.at ?_|wp_step))
 rw[show(expr&&onTheHeap (xv "BaseException.__getattribute__"))=false from Bool.and_false _,if_neg (by decide)];unfold boundAndCalled
 repeat (any_goals (first|assumption|with_reducible refine L0.at ?_|with_reducible refine L1.at ?_|with_reducible refine L2.at ?_|wp_step))
 refine xk F.excAttr_ValueError.ga.plain F.entry_bexc_ga (zTt (s:=⟨hh,g,d,t+1,os⟩) X I c (z7r (s:=⟨hh,g,d,t+1,os⟩) X I e ?_))
 repeat (any_goals (first|assumption|wp_step))
 show yn _ _ (handedOut v) _ _ _;rw[handedOut_of hv];exact yf h
end
end PySem.W
namespace L2
open PySem PySem.Spec PyProof.Rows
def zKA{H:Hp}{a:yc}{o:HO}(h:H a=some o):upd H a o=H:=by
 funext b
 unfold upd
 split
 ·rename_i e
  rw[e,h]
 ·rfl
def era(H:Hp)(e:yc):Hp:=λb=>if b=e then none else H b
def zlj{H:Hp}{e b:yc}(h:b≠e):era H e b=H b:=by unfold era;rw[if_neg h]
def zxk{H:Hp}{e:yc}:era H e e=none:=by unfold era;rw[if_pos rfl]
section
variable {P:yA}{w:yI}{fs ex:List yc}{H H':Hp}{h h':yT}{e:yc}{G:yT->Prop}
def Un.era(u:Un fs ex H H' h h')(he:H e=none):Un fs ex H (era H' e) h h' where
 keep:=u.keep
 slot:=u.slot
 free:=λb o q n hx=>by
  by_cases z:b=e
  ·rw[z];exact zxk
  ·rw[zlj z];exact u.free b o q n hx
 there:=u.there
 tups:=λb xs q=>by rw[zlj (zI q he)];exact u.tups b xs q
 TK:=λb o v q=>by rw[zlj (zI q he)];exact u.TK b o v q
 TU:=λb ps q=>by rw[zlj (zI q he)];exact u.TU b ps q
def HOk.era(k:HOk P w H h)(he:H e=some (.ext G)):HOk P w (era H e) h:=λb o q=>by
 by_cases z:b=e
 ·rw[z,zxk]at q;cases q
 ·rw[zlj z]at q;refine(k b o q).stay (λ_ _ _ r=>r) (λc r=>?_) λc xs r=>?_
  ·rw[zlj λy=>by rw[y,he]at r;cases r];exact r
  ·rw[zlj λy=>by rw[y,he]at r;cases r];exact r
end
end L2
namespace M
open PySem PySem.Spec PyProof.Rows L2
def zAp(a C:yc)(dx:Option yc):yT->Prop:=λh=>∃te,h.get? a=some {cls:=.ref C,dict:=dx,data:=.fields #[.ref te,.none,.none,.none,.bool false,.none]}
def zzq{P:yA}{w:yI}{H:Hp}{h:yT}{a C:yc}{dx:Option yc}(x:zAp a C dx h):tG P w H h a (.ext (zAp a C dx)):=by
 obtain⟨te,e⟩:=x;exact⟨⟨te,e⟩,⟨_,e⟩,λh1 h2 ⟨t,q⟩ k=>⟨t,k _ q⟩⟩
structure SE(K:yx)(C NE fI:yc)(f:yt):Prop where
 ob:∃nm q N bs sn sub ab col dd k0 k1 k2 k3 k5,K.lookup C=some (xl nm q C N bs (.ref NE::W.bmV) true sn sub ab col dd k0 k1 k2 k3 k5 "ValueError.__new__")
 ini:Yl K (.ref C) "__init__"=some (some (.ref fI))
 fn:W.typeIn K (.ref fI)=some (.type "function")
 ne:W.excIn K NE W.bmV "ValueError.__new__"=true
 sa:Yl K (.ref C) "__setattr__"=some (some (.builtin "object.__setattr__"))
 at_:Yl K (.ref C) f=some none
 gt:W.specialIn K (.ref NE) "__getattribute__"=some (some (.builtin "type.__getattribute__"))
 rd:W.readsIn K NE (.type "type")=true
 fc:W.findCls K (.ref NE) (.type "type") "__init__"=some (.val (.builtin "ValueError.__init__"))
def SE.tail{K:yx}{C NE fI:yc}{f:yt}(ρ:SE K C NE fI f){h:yT}(X:K.In h):OwnTail h W.bmV (.ref NE::W.bmV):=by
 obtain⟨bm,N,nm,qn,bs,hdct,sn,sub,ab,col,dd,k0,k1,k2,k3,k5,mN,hC,hN,hni,T⟩:=zxp X ρ.ne;exact .own hC hN hni .base
section
variable {X:Cx}{v o value:yE}{e:yE}{es:List yE}{tv ta:TE}{t:TA}{C NE fI:yc}{f:yt}{np apos pos pos' p1 p2 p3 p4:xp}{x1 x2:yt}{j1 j2:Nat}
def zzx(ρ:SE X.K C NE fI f)(hm:X.mg "NestError"=some (.ref NE))(ha:PA X (e::es) t){pl:Sem Bool}(hg:Gl X "NestError":=by rfl)
 (hst:yj (e::es) X.env=(false,Ye e X.env)::yj es X.env:=by rfl) (hpl:(Ym pos (yj es X.env)).any (·.1)=false:=by rfl)
 (ht:Ye (.Call (.Attribute (.Name "NestError" np) "__init__" apos) (e::es) [] pos) X.env=(do
  let ov <-Ye (.Name "NestError" np) X.env
  standAt apos.atName
  let (f,first) <-xt [ov] (getMethod ov "__init__" pl)
  callWith pos f first (Ym pos (yj (e::es) X.env)) (xR pos (YQ [] X.env))):=by rfl) :
 PE X (.Call (.Attribute (.Name "NestError" np) "__init__" apos) (e::es) [] pos) (λY H Q=>t Y H λvs H1=>∃a x,vs=[.ref a,x]/\H1 a=some (.ext (zAp a C none))/\Q .non H1):=by
 intro U s Y H Q I h;refine W.methodCall_KW (pl:=pl) (zpg I hg hm ?_ (by decide)) ht;refine W.method_cls I.kIn ρ.gt (W.cls_value I.kIn ρ.rd ρ.fc (by decide +kernel) ?_);refine PyProof.Rows.callWith_builtin1 (thn (ha pos U _ Y H _ (I.tok _) h) λus s1 ⟨vs,H1,I1,r1,a,x,ev,ea,q⟩=>?_) hst hpl;subst ev;obtain⟨u1,u2,rfl,ra,rx⟩:=vals2 r1;obtain rfl:u1=yG a:=ra;obtain⟨⟨te,ho⟩,_,_⟩:=(show tG X.prog X.w H1 s1.heap a (.ext (zAp a C none)) from I1.hok a _ ea)
 obtain⟨nm,qn,N,bs,sn,sub,ab,col,dd,k0,k1,k2,k3,k5,lk⟩:=ρ.ob;have T:=ρ.tail I1.kIn;have hC:=I1.kIn _ _ lk;obtain⟨hp,g,d,tk,os⟩:=s1;refine zWt Xw T hC ho (λh' keep he hsz=>?_) (show 1<=yD by rw[Yr];decide);refine⟨.non,H1,?_,rfl,q⟩;have δ:=I1.write (x:=a) (e:=a) (o:=.ext (zAp a C none)) (h':=h') (t':=tk) (by rw[ea];trivial) (.inl rfl) keep ⟨_,he⟩ (zzq ⟨_,he⟩)
 rwa [zKA ea]at δ
def zMt(ρ:SE X.K C NE fI f)(ho:PE X o ta)(hv:PE X value tv)(hs:xQ value (some (.Attribute o f pos')) pos.line X.env=pure false:=by rfl) :
 PS X (.Assign [.Attribute o f pos'] value pos) (λD Y H=>tv Y H λy H1=>ta Y H1 λx H2=>∃a,x=.ref a/\H2 a=some (.ext (zAp a C none))/\∀p,H2 p=none->p≠a->D.nx Y (upd (upd H2 p (.xd [(f,y)])) a (.ext (zAp a C (some p))))):=by
 intro U s Y H D I h;refine plainObj_wpAny_Assign_Attribute (thn (hv U s Y H _ I h) λu s1 ⟨y,H1,I1,ry,q⟩=>thn (ho U s1 Y H1 _ I1 q) λov s2 ⟨x,H2,I2,rx,a,ex,ea,q2⟩=>?_) hs;subst ex;obtain rfl:ov=yG a:=rx;obtain⟨⟨te,hob⟩,_,_⟩:=(show tG X.prog X.w H2 s2.heap a (.ext (zAp a C none)) from I2.hok a _ ea)
 obtain⟨nm,qn,N,bs,sn,sub,ab,col,dd,k0,k1,k2,k3,k5,lk⟩:=ρ.ob
 obtain⟨cd,hc,hmro,hhd⟩:∃cd,W.clsIn X.K C=some cd/\W.Tq cd.mro=W.bmV/\cd.hasDict=true:=by
  unfold W.clsIn;rw[lk];exact⟨_,rfl,rfl,rfl⟩
 refine W.set_exc I2.kIn ⟨hob,rfl,rfl,trivial⟩ rfl ρ.sa hc hmro hhd ρ.at_ λh' p tk he hn hp keep=>⟨Y,_,?_,q2 p (I2.hok.fresh hp) ?_⟩
 ·have hpn:H2 p=none:=I2.hok.fresh hp;have hpa:p≠a:=λz=>absurd (yz (yk hob) (z▸hp)) (yU _);have hpg:∀b ob,s2.heap.get? b=some ob->b≠p:=λb ob r z=>absurd (yz (yk r) (z▸hp)) (yU _);have hup:∀b,b≠a->b≠p->upd (upd H2 p (.xd [(f,y)])) a (.ext (zAp a C (some p))) b=H2 b:=λb n1 n2=>by rw[zL n1,zL n2]
  have ne_a:∀b ob,H2 b=some ob->(∀G,ob≠.ext G)->b≠a:=λb ob r n z=>by rw[z,ea]at r;cases r;exact n _ rfl
  have ne_p:∀b ob,H2 b=some ob->b≠p:=λb ob r=>zI r hpn;refine I2.un (t':=tk) ⟨?_,?_,?_,?_,?_,?_,?_⟩ ?_
  ·exact λb ob r n _ _=>keep b ob (λz=>by rw[z,ea]at n;cases n) r
  ·exact λb ob r n _ _=>⟨ob.slots,keep b ob (λz=>by rw[z,ea]at n;cases n) r⟩
  ·exact λb ob r n _=>by rw[hup b (λz=>by rw[z,ea]at n;cases n) (hpg b ob r)];exact n
  ·exact λb ob r _=>by
    by_cases z:b=a
    ·exact⟨_,by rw[z];exact he⟩
    ·exact⟨_,keep b ob z r⟩
  ·exact λb xs r=>by rw[hup b (ne_a b _ r λ_ z=>by cases z) (ne_p b _ r)];exact r
  ·exact λb ob w r=>by rw[hup b (ne_a b _ r λ_ z=>by cases z) (ne_p b _ r)];exact r
  ·exact λb ps r=>⟨#[],by rw[hup b (ne_a b _ r λ_ z=>by cases z) (ne_p b _ r),Array.append_empty];exact r⟩
  ·intro b ob r
   by_cases z:b=a
   ·subst z;rw[zF]at r;cases r;exact zzq ⟨te,he⟩
   ·by_cases z2:b=p
    ·subst z2;rw[zL z,zF]at r;cases r;refine⟨_,hn,λg=>?_⟩
     by_cases zg:g=f
     ·have hb:(g==f)=true:=beq_iff_eq.mpr zg;simp only[YL,hb,if_pos zg];exact ry
     ·have hb:(g==f)=false:=beq_eq_false_iff_ne.mpr zg;simp only[YL,hb,if_neg zg];trivial
    ·rw[hup b z z2]at r;refine(I2.hok b ob r).stay (λc w hc r'=>keep c w (λz3=>?_) r') (λc r'=>?_) λc xs r'=>?_
     ·subst z3;rcases hc with hc|hc
      ·exact z hc.symm
      ·rw[ea]at hc;cases hc
     ·rw[hup c (ne_a c _ r' λ_ z=>by cases z) (ne_p c _ r')];exact r'
     ·rw[hup c (ne_a c _ r' λ_ z=>by cases z) (ne_p c _ r')];exact r'
 ·exact λz=>absurd (yz (yk hob) (z▸hp)) (yU _)
variable {x:yt}{cpos:xp}{k:Nat}{fd:yh}{ps:List yt}{G:FA}
def flyI{U:List (yc×YT)}{Y:L2.St}{H H2:Hp}{s s':yd}{a p te:yc}(I:Inv X U Y H s)(I3:Inv X U Y H2 s')(hos:s'.os=s.os)(un:Un (frs X.stack) [] H H2 s.heap s'.heap)(ha:s.heap.objs.size<=a)(h2:∃G,H2 a=some (.ext G))
 (he:s'.heap.get? a=some {cls:=.ref C,dict:=some p,data:=.fields #[.ref te,.none,.none,.none,.bool false,.none]}):sW X.prog X.w X.stack H s (.ref C) (some p) (era H2 a) (.ref a) s':=by
 have hn:H a=none:=I.hok.fresh ha;obtain⟨G,h2⟩:=h2;have hin:∀env∈X.stack,∀b,env.frame=some b->b∈a::frs X.stack:=λenv he b hb=>mem_cons_of_mem _ (List.mem_filterMap.mpr ⟨env,he,hb⟩);refine⟨hos,I3.bare,un.era hn,I3.hok.era h2,a,W.hideAll s'.heap (a::frs X.stack),rfl,⟨λb o q=>W.of_hideAll _ q,W.hideAll_none _ mem_cons_self,W.funFrames_hide I3.stack hin,⟨_,_,_,he,rfl,rfl,rfl,rfl,.inl rfl⟩⟩,?_⟩;refine⟨λb o q=>?_,λb o q hb=>?_⟩
 ·by_cases z:b=a
  ·rw[z,zxk]at q;cases q
  ·rw[zlj z]at q;obtain⟨u,hu⟩:=(I3.hok b o q).there;refine⟨u,W.hideAll_get _ hu λhm=>?_⟩;rcases List.mem_cons.mp hm with hm|hm
   ·exact z hm
   ·rw[I3.TL b hm]at q;cases q
 ·obtain⟨u,hu⟩:=un.there b o q (by simp);refine⟨u,W.hideAll_get _ hu λhm=>?_⟩;rcases List.mem_cons.mp hm with hm|hm
  ·exact absurd (yz (yk q) (hm▸ha)) (yU _)
  ·exact hb hm
end
structure AtC(K:yx)(c f:yt):Prop where
 ok:∀C,Yk K yo c=some (some (.ref C))->W.AskC K C/\Yl K (.ref C) f=some none/\W.hasDictIn K C=true
@[simp] def fAt(c f:yt)(G:FE):FE:=λJ O=>(G J O).bind λp=>match p.1 with
 |.loc n=>match p.2[n]? with
  |some (.exc c' fs)=>if c'=c then(fs.lookup f).bind λd=>some (d,p.2) else none
  |_=>none
 |_=>none
def zTm{K:yx}{Z:List yc}{H:Hp}{f:yt}{d:D}:∀{fs:List (yt×D)} {vs:List (yt×V)},vs.map (·.1)=fs.map (·.1)->tf K Z H (fs.map (·.2)) (vs.map (·.2))->fs.lookup f=some d->∃v,vs.lookup f=some v/\tx K Z H d v
 |[],_,_,_,h=>by cases h
 |(g,d0)::fs,[],e,_,_=>by cases e
 |(g,d0)::fs,(g',v0)::vs,e,r,h=>by
  simp only[map_cons,xF]at e;obtain⟨rfl,e⟩:=e;obtain⟨v,rr,e2,q1,q2⟩:=r.cons_inv;simp only[map_cons,xF]at e2;obtain⟨rfl,rfl⟩:=e2;unfold YL at h ⊢
  split at h
  ·cases h;exact⟨_,rfl,q1⟩
  ·exact zTm e q2 h
def zdy{c f:yt}{G:FE}{J:Loc}{O O':Mem}{d:D}(h:fAt c f G J O=some (d,O')):∃n fs,G J O=some (.loc n,O')/\O'[n]?=some (.exc c fs)/\fs.lookup f=some d:=by
 obtain⟨⟨d1,O1⟩,e1,h2⟩:=zi h;clear h
 cases d1 with
 |loc n=>
  replace h2:(match O1[n]? with
   |some (.exc c' fs)=>if c'=c then(fs.lookup f).bind λd=>some (d,O1) else none
   |_=>none)=some (d,O'):=h2
  cases hm:O1[n]? with
  |none=>rw[hm]at h2;cases h2
  |some o=>
   rw[hm]at h2
   cases o with
   |exc c' fs=>
    by_cases hc:c'=c
    ·subst hc;simp only[if_true]at h2;obtain⟨d2,e2,h3⟩:=zi h2;cases h3;exact⟨n,fs,e1,hm,e2⟩
    ·simp only[if_neg hc]at h2;cases h2
   |lst _=>cases h2
   |dct _=>cases h2
   |dcf _=>cases h2
   |ins _ _=>cases h2
 |_=>cases h2
def zwB{X:Cx}{o:yE}{pos:xp}{c f:yt}{G:FE}(ρ:AtC X.K c f)(ho:ME X o G)(hb:YA o f X.env (Ye o X.env)=Ye o X.env:=by rfl):ME X (.Attribute o f pos) (fAt c f G):=by
 intro U s Y H Q I ⟨Z,J,O,d,O1,A,eo,kk⟩;obtain⟨n,fs,e1,hm,e2⟩:=zdy eo
 refine zQu hb (thn (ho U s Y H (λv H1=>∃a Z1,v=.ref a/\Z1[n]?=some a/\Ext Z H Z1 H1/\tI X.K Z1 H1 O1) I ⟨Z,J,O,.loc n,O1,A,e1,λZ1 H1 v x1 R1 r1=>by
  obtain⟨a,rfl,e3⟩:=r1.tz;exact⟨a,Z1,rfl,e3,x1,R1⟩⟩) λu s1 ⟨v,H1,I1,r1,a,Z1,ev,e3,x1,R1⟩=>?_)
 subst ev;obtain rfl:u=yG a:=r1;obtain⟨C,dx,hn,hH,hX⟩:=R1.at_ _ _ _ e3 hm;obtain⟨⟨ob,vs,h1,h2,h3,h4⟩,_,_⟩:=(show tG X.prog X.w H1 s1.heap a (.ext (zYr a C dx)) from I1.hok a _ hH)
 obtain⟨Zc,Zf,Zd⟩:=ρ.ok C hn;rcases hX with ⟨hfs,_⟩|⟨p,ws,rfl,hp,hk,hr⟩
 ·rw[hfs]at e2;cases e2
 ·obtain⟨w1,l1,rw1⟩:=zTm hk hr e2;obtain⟨mA,hns,hro⟩:=(show tG X.prog X.w H1 s1.heap p (.xd ws) from I1.hok p _ hp)
  obtain⟨u1,hu1,ru1⟩:=TW.some_of (v:=w1) (o:=mA f) (by rw[<-l1];exact hro f);obtain⟨od,hod,hl⟩:=zHp hns;have δ:W.InstAt s1.heap a ob C (some od):=⟨h1,h2,by unfold W.notCls;rw[h4],by rw[h3];exact hod⟩
  exact W.SO I1.kIn δ Zc (W.findObj_own Zd Zf rfl (by rw[hl,hu1])) (zNp ru1) ⟨w1,H1,I1.tok _,ru1,kk Z1 H1 w1 x1 R1 rw1⟩
def zsy(s:Yb):Yb:=match s with
 |.ClassDef _ _ _ b _ _ _ _ _ _ _=>b.getD 0 (.Pass ⟨0,0,0,0⟩)
 |_ =>.Pass ⟨0,0,0,0⟩
structure SA(K:yx)(mg:yt->Option Value)(c f qual:yt)(st:Yb)(ps:List yt)(C NE fI:yc)(fd:yh):Prop where
 nm:Yk K yo c=some (some (.ref C))
 ne:mg "NestError"=some (.ref NE)
 ex:SE K C NE fI f
 fn:Fun K "__init__" qual st fI fd
 bd:Binds K fd ps []
def zDh(ns:List Int):Prop:=ns.length<=100/\∀n∈ns,n.natAbs<1606938044258990275541962092341162602522202993782792835301376
def zLm:∀ns:List Int,(∀n∈ns,n.natAbs<1606938044258990275541962092341162602522202993782792835301376)->PyData.showableAll (ns.map xL)=true/\PyData.hasDictAll (ns.map xL)=false/\PyData.depthAll (ns.map xL)=0/\PyData.leavesShortAll 230 (ns.map xL)=true/\PyData.bulkAll (ns.map xL)=ns.length
 |[],_=>⟨rfl,rfl,rfl,rfl,rfl⟩
 |n::ns,h=>by
  obtain⟨h1,h2,h3,h4,h5⟩:=zLm ns λm hm=>h m (mem_cons_of_mem _ hm)
  have hl2:n.natAbs.log2<200:=by
   by_cases z:n.natAbs=0
   ·rw[z];decide
   ·exact(Nat.log2_lt z).mpr (yz (h n mem_cons_self) (by decide))
  have hl:n.natAbs.log2<1920:=Xa hl2 (by decide);have ht:=int_text_length_le (k:=200) (by decide) hl2
  have hs:(PyData.shown (.int n)).length<=230:=by
   simp only[PyData.shown];rw[PySem.ofString_length];omega
  refine⟨?_,?_,?_,?_,?_⟩
  ·simp only[map_cons,PyData.showableAll,PyData.showable,decide_eq_true hl,h1,Xg]
  ·simp only[map_cons,PyData.hasDictAll,PyData.hasDict,h2,Bool.or_self]
  ·simp only[map_cons,PyData.depthAll,PyData.depth,h3,Nat.max_self]
  ·simp only[map_cons,PyData.leavesShortAll,PyData.leavesShort,decide_eq_true hs,h4,Xg]
  ·simp only[map_cons,PyData.bulkAll,PyData.bulk,h5,length_cons];omega
def zQm{h:yT}:∀{ns:List Int} {its:List Value},Vals (ns.map V.int) its->ReadsAll h its (ns.map xL) []
 |[],_,r=>by cases r;exact .nil
 |n::ns,_,r=>by
  cases r with
  |cons r1 r2=>
   obtain⟨t,rfl⟩:=(show ∃t,_=Value.int n t from r1)
   exact .cons (as:=[]) (bs:=[]) (.int n t) (zQm r2)
section
variable {X:Cx}{v:yE}{tv:TE}{p1 p2 p4:xp}{x1:yt}{j1:Nat}
def znv(hv:PE X v tv)(hg:X.A.guards=some [])(hu:X.A.units+64<cLine)(h1:x1.length<=1000:=by decide) :
 PE X (.JoinedStr [.Constant (.str x1) j1 p1,.FormattedValue v 114 none p2] p4) (λY H Q=>tv Y H λx H1=>∃a ns,x=.ref a/\H1 a=some (.lst (ns.map V.int))/\zDh ns/\∀y,Q (.str y) H1):=by
 intro U s Y H Q I h;have z0:(Str.empty:yt).length=0:=rfl;refine wpAny_JoinedStr ?_;show Joins _ _ _ [Ye (.Constant (.str x1) j1 p1) X.env,Ye (.FormattedValue v 114 none p2) X.env] _ _ _;refine Calls.Constant_str ⟨x1,_,rfl,by rw[strLen_append,z0,Yr];omega,?_⟩;refine wpAny_FormattedValue_repr (thn (hv U _ Y H _ (I.tok _) h) λu s1 ⟨x,H1,I1,r1,a,ns,ex,ea,hs,q⟩=>?_);subst ex;obtain rfl:u=yG a:=r1;obtain⟨_,its,n,rv,ho⟩:=(show tG X.prog X.w H1 s1.heap a (.lst (ns.map V.int)) from I1.hok a _ ea)
 obtain⟨s1',s2',s3',s4',s5'⟩:=zLm ns hs.2;have rd:Reads s1.heap (.ref a) (.list (ns.map xL)) [a] :=.list (as:=[]) ho rfl rfl (by rw[List.toList_toArray];exact zQm rv)
 have hz:(PyData.shown (.list (ns.map xL))).length<=33000:=by
  have:=PyData.shown_le_bulk 230 (by decide) (.list (ns.map xL)) (by simp only[PyData.leavesShort];exact s4');simp only[PyData.bulk,s5']at this;have:=hs.1;omega
 refine pyReprObj_of_reads rd (by simp only[PyData.showable];exact s1') (PyData.noDict_hsm (by simp only[PyData.hasDict];exact s2')) hg (by simp only[PyData.depth,s3'];omega) (λ_ _ e=>e) (λh' u tk keep=>?_) (by rw[Yr];omega);have I2:Inv X U Y H1 {s1 with heap:=h',toks:=tk }:=I1.kept keep
 have last:∀t s2,Inv X U Y H1 s2->∃y t',Value.str (PyData.shown (.list (ns.map xL))) t=.str y t'/\((Str.empty++x1)++y).length<=yD /\
  Joins (yv X.prog X.w) X.A X.xe [] ((Str.empty++x1)++y) (λout s₁=>out.length<=yD/\EP X U Y Q (.str out s₁.toks) {s₁ with toks:=s₁.toks+1 }) s2:=λt s2 δ=>by
  have hl:((Str.empty++x1)++PyData.shown (.list (ns.map xL))).length<=yD:=by rw[strLen_append,strLen_append,z0,Yr];omega
  exact⟨_,t,rfl,hl,hl,⟨.str _,H1,δ.tok _,⟨_,rfl⟩,q _⟩⟩
 exact wpAny_formatField_str (last _ _ I2) (last _ _ (I2.tok _)) (by rw[Yr];omega)
end
def spL(C:yc)(f:yt):Sp:=λvs H Q _=>∃e a ns,vs=[.ref e,.ref a]/\zDh ns/\H a=some (.lst (ns.map V.int))/\H e=some (.ext (zAp e C none)) /\
 ∀l p,H l=none->l≠e->H p=none->p≠e->p≠l->Q .non (upd (upd (upd H l (.lst (ns.map V.int))) p (.xd [(f,.ref l)])) e (.ext (zAp e C (some p))))
instance smallDec(ns:List Int):Decidable (zDh ns):=by unfold zDh;exact inferInstance
@[simp] def z9e(c f:yt)(G:FA):FS:=λJ O=>(G J O).bind λp=>match p.1 with
 |[.loc n]=>match p.2[n]? with
  |some (.lst ds)=>(zPj ds).bind λns=>bif decide (zDh ns) then some (.exc c [(f,.loc p.2.length)] (p.2++[.lst ds])) else none
  |_=>none
 |_=>none
def zIq{c f:yt}{G:FA}{J:Loc}{O:Mem}{o:Out}(h:z9e c f G J O=some o):∃n ns O1,G J O=some ([.loc n],O1)/\O1[n]?=some (.lst (ns.map D.int))/\zDh ns/\o=.exc c [(f,.loc O1.length)] (O1++[.lst (ns.map D.int)]):=by
 obtain⟨⟨ds,O1⟩,e1,h2⟩:=zi h;clear h;rcases ds with _|⟨d,ds⟩
 ·cases h2
 ·rcases ds with _|⟨d2,ds⟩
  ·cases d with
   |loc n=>
    replace h2:(match O1[n]? with
     |some (.lst ds)=>(zPj ds).bind λns=>bif decide (zDh ns) then some (.exc c [(f,.loc O1.length)] (O1++[.lst ds])) else none
     |_=>none)=some o:=h2
    cases hm:O1[n]? with
    |none=>rw[hm]at h2;cases h2
    |some ob=>
     rw[hm]at h2
     cases ob with
     |lst ds=>
      replace h2:((zPj ds).bind λns=>bif decide (zDh ns) then some (.exc c [(f,.loc O1.length)] (O1++[.lst ds])) else none)=some o:=h2;obtain⟨ns,e2,h3⟩:=zi h2;have e3:=zqf e2;subst e3
      by_cases hs:zDh ns
      ·rw[decide_eq_true hs]at h3;cases h3;exact⟨n,ns,O1,e1,hm,hs,rfl⟩
      ·rw[decide_eq_false hs]at h3;cases h3
     |dct _=>cases h2
     |dcf _=>cases h2
     |exc _ _=>cases h2
     |ins _ _=>cases h2
   |_=>cases h2
  ·cases d<;>cases h2
def zQo{K:yx}{Z:List yc}{H:Hp}:∀{ns:List Int} {vs:List V},tf K Z H (ns.map D.int) vs->vs=ns.map V.int
 |[],_,r=>r.nil_inv
 |n::ns,_,r=>by
  obtain⟨v,rr,rfl,q1,q2⟩:=r.cons_inv;rw[q1.int_inv,zQo q2];rfl
def zbu{H:Hp}{a l p:yc}{o o' u1 u2:HO}(ha:H a=none)(hl:l≠a)(hp:p≠a):era (upd (upd (upd (upd H a o) l u1) p u2) a o') a=upd (upd H l u1) p u2:=by
 funext b
 by_cases z:b=a
 ·rw[z,zxk,zL (yV hp),zL (yV hl),ha]
 ·rw[zlj z,zL z]
  by_cases z2:b=p
  ·rw[z2,zF,zF]
  ·rw[zL z2,zL z2]
   by_cases z3:b=l
   ·rw[z3,zF,zF]
   ·rw[zL z3,zL z,zL z3]
section
variable {X:Cx}{x:yt}{e:yE}{np cpos pos:xp}{C NE fI:yc}{f:yt}{k:Nat}{fd:yh}{ps:List yt}{G:FA}
set_option maxHeartbeats 800000 in
def zol(hn:Yk X.K yo x=some (some (.ref C)))(ρ:SE X.K C NE fI f)(φ:tq X.prog X.w X.K X.mg X.base CX0 1 fI fd ps (spL C f))(hb:Binds X.K fd ps [])(hr:tS k X.A)(ha:MAn X [e] G)(hk:2<=k:=by decide)(hh:X.calm=true:=by rfl)(hg:Gl X x:=by rfl)
 (he:yj [e] X.env=(false,Ye e X.env)::yj [] X.env:=by exact z2c rfl) (hdb:(x==("__debug__":yt))=false:=by decide) :
 MS X (.Raise (some (.Call (.Name x np) [e] [] cpos)) none pos) (z9e x f G):=by
 intro U s Y H Dn I ⟨Z,J,O,o,A,eo,kk⟩;obtain⟨n,ns,O1,e1,hm,hsm,rfl⟩:=zIq eo;clear eo;obtain⟨nm,qn,N,bs,sn,sub,ab,col,dd,k0,k1,k2,k3,k5,lk⟩:=ρ.ob
 have hpl':(Ym cpos (yj [e] X.env)).any (·.1)=false:=by
  rw[he];rfl
 refine z0l (C:=C) (fI:=fI) (nm:=nm) (q:=qn) (N:=N) (bs:=bs) (bm:=.ref NE::W.bmV) (hdct:=true) (sn:=sn) (sub:=sub) (ab:=ab) (col:=col) (dd:=dd) (k0:=k0) (k1:=k1) (k2:=k2) (k3:=k3) (k5:=k5) (newId:="ValueError.__new__")
  Xw ((ρ.tail I.kIn).hasType PySem.F.excBase_ValueError.hasBase) (I.ok.hd hh) hpl' (zpg I hg (xI I.mod.kin I.mod.glob hn) ⟨rfl,?_⟩ hdb)
 have h:=ha.ma cpos U s Y H (λvs H'=>∃a Z',vs=[.ref a]/\Z'[n]?=some a/\Ext Z H Z' H'/\tI X.K Z' H' O1) I ⟨Z,J,O,[.loc n],O1,A,e1,λZ' H' vs x' R r=>by
  obtain⟨v,rr,rfl,q1,q2⟩:=r.cons_inv;obtain⟨a,rfl,e3⟩:=q1.tz;exact⟨a,Z',by rw[q2.nil_inv],e3,x',R⟩⟩
 rw[he]at h ⊢;refine Calls.evalArgs_plain (yS h (λus s2 h2=>?_) λ_ _ y=>y);obtain⟨vs,H',I',r,a,Z',rfl,e3,x',R⟩:=h2;obtain⟨u,rfl,ru⟩:=vals1 r;obtain rfl:u=yG a:=ru;obtain⟨ws,hHa,rws⟩:=R.at_ _ _ _ e3 hm;obtain rfl:=zQo rws;have hz:(zLh s2.heap C [.ref a]).get? (s2.heap.objs.size+1)=some {cls:=.ref C,dict:=none,data:=.fields #[.ref s2.heap.objs.size,.none,.none,.none,.bool false,.none]}:=by heap_get
 have kp:∀b o,s2.heap.get? b=some o->(zLh s2.heap C [.ref a]).get? b=some o:=λb o q=>yb _ (yb _ q);have hsz:s2.heap.objs.size<=s2.heap.objs.size+1:=xV _;have hfr:H' (s2.heap.objs.size+1)=none:=I'.hok.fresh hsz
 have I2:Inv X U Y (upd H' (s2.heap.objs.size+1) (.ext (zAp (s2.heap.objs.size+1) C none))) {s2 with heap:=zLh s2.heap C [.ref a]} :=
  I'.laid (a:=s2.heap.objs.size+1) (t':=s2.toks) kp hsz (zzq ⟨_,hz⟩)
 have sp:spL C f [.ref (s2.heap.objs.size+1),.ref a] (upd H' (s2.heap.objs.size+1) (.ext (zAp (s2.heap.objs.size+1) C none))) (λv H2=>v=.non/\∃l p,H' l=none/\l≠s2.heap.objs.size+1/\H' p=none/\p≠s2.heap.objs.size+1/\p≠l /\
  H2=upd (upd (upd (upd H' (s2.heap.objs.size+1) (.ext (zAp (s2.heap.objs.size+1) C none))) l (.lst (ns.map V.int))) p (.xd [(f,.ref l)])) (s2.heap.objs.size+1) (.ext (zAp (s2.heap.objs.size+1) C (some p)))) E0 :=
  ⟨_,a,ns,rfl,hsm,by rw[zL (zI hHa hfr)];exact hHa,zF,λl p hl hle hp hpe hpl=>⟨rfl,l,p,by rwa [zL hle]at hl,hle,by rwa [zL hpe]at hp,hpe,hpl,rfl⟩⟩
 have hl:([yG (s2.heap.objs.size+1),.ref a]++[]).length=ps.length:=φ.len _ _ _ _ sp;refine⟨rfl,(show 1<=yD by rw[Yr];decide),I'.kIn _ _ lk,W.looks_findIn I'.kIn ρ.ini,ρ.tail I'.kIn,λself=>W.bind_fn I'.kIn self ρ.fn,?_⟩;have hroom:tS 1 (X.A.under (.builtin "type.__call__" ⟨.ref C::[.ref a],[]⟩)):=tS.make (k:=1) (hr.mono hk) C [.ref a] [];have henv:=I2.env0.make C [.ref a] [];have hbind:=hb {s2 with heap:=zLh s2.heap C [.ref a]} [.ref (s2.heap.objs.size+1),.ref a] I2.kIn hl;have hvals:Vals [V.ref (s2.heap.objs.size+1),.ref a] ([yG (s2.heap.objs.size+1),.ref a]++[]) :=.cons rfl (.cons rfl .nil);have run:=φ.run _ X.stack _ _ _ _ _ _ E0 hroom henv hbind hvals sp;show yn (yv X.prog X.w) (X.A.under (.builtin "type.__call__" ⟨.ref C::[.ref a],[]⟩)) (call (.ref fI) [.ref (s2.heap.objs.size+1),.ref a]) _ _ {s2 with heap:=zLh s2.heap C [.ref a]};refine Xq (YG run λrr s' hq=>?_)
 cases rr with
 |error ex=>exact YC hq
 |ok fl=>
  cases fl with
  |next=>exact YC hq
  |brk=>exact YC hq
  |cont=>exact YC hq
  |ret uu=>
   obtain⟨v,H2,hos,hbare,un,hok,rv,ev,l,p,hl0,hle,hp0,hpe,hpl,e2⟩:=hq;subst ev;obtain rfl:uu=Yn:=rv;obtain⟨_,H3,I3,_,_,e4⟩:=I2.after (Q:=λv' H''=>v'=V.non/\H''=H2) ⟨V.non,H2,hos,hbare,un,hok,rfl,rfl,rfl⟩;rw[e4]at I3;have h3:H2 (s2.heap.objs.size+1)=some (.ext (zAp (s2.heap.objs.size+1) C (some p))):=by rw[e2];exact zF
   obtain⟨⟨te,he3⟩,_,_⟩:=(show tG X.prog X.w H2 s'.heap (s2.heap.objs.size+1) (.ext (zAp (s2.heap.objs.size+1) C (some p))) from I3.hok _ _ h3)
   refine⟨rfl,I3.kIn _ _ lk,⟨_,te,he3⟩,?_⟩;have F:=flyI (C:=C) (te:=te) I' I3 hos ((Un.laid kp hsz hfr).trans un) hsz ⟨_,h3⟩ he3;rw[e2,zbu hfr hle hpe]at F;have R1:tI X.K (Z'++[l]) (upd H' l (.lst (ns.map V.int))) (O1++[.lst (ns.map D.int)]):=R.push hl0 ⟨_,zF,rws.ext (Ext.push hl0)⟩;have hp1:upd H' l (.lst (ns.map V.int)) p=none:=by rw[zL hpl];exact hp0
   refine kk (Z'++[l]) (upd (upd H' l (.lst (ns.map V.int))) p (.xd [(f,.ref l)])) C (some p) hn ((x'.trans (Ext.push hl0)).trans (Ext.new hp1)) (R1.Tx hp1) (.inr ⟨p,[(f,.ref l)],rfl,zF,rfl,?_⟩) U Y H' s2 (.ref (s2.heap.objs.size+1)) s' I' F;have hpg:=zzb (p:=l) R;simp[tf,tx,hpg]
variable {a b c:yE}{es:List yE}{G ψ χ:FE}{pos2 p1 p2:xp}
def zMw(p:yc)(j:Int):HO:=.ext λh=>∃t u v,IsRange h p 0 j 1 t u v
def zBq:zfm X (.type "range") (λxs H Q=>∃j:Int,xs=[.int j]/\∀p,H p=none->Q (.ref p) (upd H p (zMw p j))):=by
 intro U s Y H xs us Q I r ⟨j,e,k⟩;subst e;obtain⟨u,rfl,ru⟩:=vals1 r;obtain⟨t,rfl⟩:=ru;refine call_range_1 ?_;refine⟨.ref s.heap.objs.size,_,I.laid (t':=s.toks+1+1) (λb o e=>yb _ e) (yi _) (show tG X.prog X.w _ _ _ (zMw _ j) from⟨⟨_,_,_,IsRange.new _ _ _ _ _ _ _⟩,⟨_,yp _ rfl⟩,λh1 h2 ⟨t,u,v,x⟩ y=>⟨t,u,v,y _ x⟩⟩),rfl,k _ I.fresh⟩
def z0r{its:Array Value}{n:Nat}(h:ItemsOf (λi v=>∃t,v=.int (0+i*1) t) its n):Vals ((yw n).map λ(k:Nat)=>V.int k) its.toList:=by
 obtain⟨h1,h2⟩:=h
 have key:∀(l:List Value)(m:Nat),(∀i (hi:i<l.length),∃t,l[i]=.int ((m+i:Nat):Int) t)->Vals ((List.range' m l.length).map λ(k:Nat)=>V.int k) l:=by
  intro l
  induction l with
  |nil=>intro m _;exact .nil
  |cons x xs ih=>
   intro m h;obtain⟨t,e⟩:=h 0 (by simp);refine .cons ⟨t,by simpa using e⟩ (ih (m+1) λi hi=>?_);obtain⟨t,e⟩:=h (i+1) (by simpa using hi);exact⟨t,by rw[show m+1+i=m+(i+1) by omega];simpa using e⟩
 have:=key its.toList 0 λi hi=>?_
 ·rw[List.range_eq_range',<-h1];simpa using this
 ·have hi':i<its.size:=by simpa using hi
  obtain⟨t,e⟩:=h2 i its[i] (by simp[hi']);exact⟨t,by simpa using e⟩
def z7n(G:FE):FE:=λJ O=>(G J O).bind λp=>match p.1 with
 |.int j=>bif decide (-(2^62)<=j/\j<=1000000) then some (.loc p.2.length,p.2++[.lst ((yw j.toNat).map λ(k:Nat) =>.int k)]) else none
 |_=>none
def zIs(hc:X.calm=true):zfm X (.type "list") (λxs H Q=>∃p j,xs=[.ref p]/\H p=some (zMw p j)/\-(2^62)<=j/\j<=1000000/\∀l,H l=none->Q (.ref l) (upd H l (.lst ((yw j.toNat).map λ(k:Nat)=>V.int k)))):=by
 intro U s Y H xs us Q I r ⟨p,j,e,hq,h1,h2,k⟩;subst e;obtain⟨u,rfl,ru⟩:=vals1 r;cases ru;obtain⟨⟨t,u,v,hr⟩,_,_⟩:=I.hok p _ hq;have hn:Builtin.Range.rangeSize 0 j 1=(j.toNat:Nat):=by rw[rangeSize_one];split<;>omega
 refine call_list_range (n:=j.toNat) (I.ok.hd hc) hr (small_one (by decide) (by decide) h1 (by omega)) hn (by omega) λh' tk acc' c' kp e hi=>?_;have hm:=Tv;have hv:=z0r hi;refine⟨.ref s.heap.objs.size,_,I.laid (t':=tk) kp (yi _) (show tG X.prog X.w _ h' _ (.lst _) from⟨by simp;omega,acc'.toList,c',hv,by simpa using e⟩),rfl,k _ I.fresh⟩
def z8t(hm1:X.mg "list"=none)(hv1:yJ "list"=some (.type "list"))(hm2:X.mg "range"=none)(h:ME X e G)(hc:X.calm=true:=by rfl)(hg1:Gl X "list":=by rfl)(hg2:Gl X "range":=by rfl)
 (he:yj [e] X.env=(false,Ye e X.env)::yj [] X.env:=by rfl) (he2:yj [.Call (.Name "range" p2) [e] [] pos2] X.env=(false,Ye (.Call (.Name "range" p2) [e] [] pos2) X.env)::yj [] X.env:=by rfl) :
 ME X (.Call (.Name "list" p1) [.Call (.Name "range" p2) [e] [] pos2] [] pos) (z7n G) :=
 zfe (zGg (zIs hc) hg1 hm1 hv1 (z4e (zGg zBq hg2 hm2 boot_range (z4e h zdi he) (by decide) (by decide) he rfl) zdi he2) (by decide) (by decide) he2 rfl) λZ J O Y H d O' Q A e k=>by
  obtain⟨⟨x,O1⟩,e1,e⟩:=zi e;refine⟨Z,J,O,x,O1,A,e1,λZ1 H1 v x1 R1 r1=>?_⟩;dsimp only at e
  split at e
  ·rename_i j
   obtain⟨hb,e⟩:=zW e;have hb:=of_decide_eq_true hb;cases e;refine⟨j,by rw[r1.int_inv],λp1 hp1=>⟨p1,j,rfl,zF,hb.1,hb.2,λl hl=>?_⟩⟩;have R2:=R1.Tx (o:=zMw p1 j) hp1;refine k _ _ _ (x1.trans ((Ext.new hp1).trans (Ext.push hl))) (R2.push hl ⟨_,zF,?_⟩) (.loc (zzb R2));have hr:=λZ H=>@zAf X.K Z H ((yw j.toNat).map λ(k:Nat)=>(k:Int));simp only[map_map]at hr;exact hr _ _
  ·cases e
@[simp] def zaC:GL:=λds O=>match ds with
 |[.int i]=>some (.int i,O)
 |[.bl b]=>some (.int (if b then 1 else 0),O)
 |_=>none
@[simp] def zCB:GL:=λds O=>match ds with
 |[.int i,.int j]=>some (.int (if j<i then j else i),O)
 |_=>none
@[simp] def z9A:GL:=λds O=>match ds with
 |[.int i,.int j]=>some (.int (if j>i then j else i),O)
 |_=>none
@[simp] def fIf(c:FT)(G ψ:FE):FE:=λJ O=>(c J O).bind λp=>bif p.1 then G J p.2 else ψ J p.2
variable {prog:yA}{w:yI}{A:yK}{E:Value->yd->Prop}{s:yd}
def nextT{it t:yc}{i:Nat}{items:Array Value}{x:Value}{Q:Value->yd->Prop}(hit:s.heap.IsTupleIter it t i)(ht:s.heap.IsTuple t items)(hx:items[i]?=some x)
 (hQ:∀h',h'.IsTupleIter it t (i+1)->Yp it s.heap h'->Q x {s with heap:=h' }):yn (yv prog w) A (YK (.ref it)) Q E s:=by
 obtain⟨ob,hob,hcl,hfs⟩:=id hit;obtain⟨ot,hot,_,m,hits⟩:=ht;unfold YK;refine ya (Yi (name:=YW "__next__") hit.typeIs xA (Yc xA hit.typeIs F.entry_tuple_iterator_next ?_ (F.args_tuple_iterator_next_1 _)));show yn _ _ (field (.ref it) 0 >>= _) _ _ s;refine ya (YI hob hfs (x:=.ref t) rfl ?_);show yn _ _ (if(yG t==Yn)=true then _ else field (.ref it) 1 >>= _) _ _ s;rw[if_neg (show ¬(yG t==Yn)=true from yB)];refine ya (YI hob hfs (x:=.int i 0) rfl ?_);show yn _ _ (seqItems? (.ref t) >>= _) _ _ s;refine ya (wpAny_seqItems hot hits ?_);simp only[yX,hx];refine ya (YX hob hfs (by simp) (yf ⟨x,rfl,yf (hQ _ ?_ (YE ..))⟩));refine⟨_,yN _ hob (YF (yZ hfs _)),(Xn ..).trans hcl,?_⟩;rw[yZ hfs];simp[YH]
def ztt{it t:yc}{i:Nat}{items:Array Value}{Q:Value->yd->Prop}(hh:A.handled=none)(hit:s.heap.IsTupleIter it t i)(ht:s.heap.IsTuple t items)(hx:items[i]?=none)
 (hE:∀h' e,Xv it s.heap h'->(∃o,h'.get? e=some o/\o.cls=.type "StopIteration")->E (.ref e) {s with heap:=h' }):yn (yv prog w) A (YK (.ref it)) Q E s:=by
 obtain⟨ob,hob,hcl,hfs⟩:=id hit;obtain⟨ot,hot,_,m,hits⟩:=ht;unfold YK;refine ya (Yi (name:=YW "__next__") hit.typeIs xA (Yc xA hit.typeIs F.entry_tuple_iterator_next ?_ (F.args_tuple_iterator_next_1 _)));show yn _ _ (field (.ref it) 0 >>= _) _ _ s;refine ya (YI hob hfs (x:=.ref t) rfl ?_);show yn _ _ (if(yG t==Yn)=true then _ else field (.ref it) 1 >>= _) _ _ s;rw[if_neg (show ¬(yG t==Yn)=true from yB)];refine ya (YI hob hfs (x:=.int i 0) rfl ?_);show yn _ _ (seqItems? (.ref t) >>= _) _ _ s;refine ya (wpAny_seqItems hot hits ?_);simp only[yX,hx];refine ya (wpAny_rule (ya (YX hob hfs (by simp) ?_)));show yn _ _ (newExc (.type "StopIteration") [] >>= _) _ _ _;refine ya ?_;simp only[newExc,newTuple];refine ya (yY ?_ (by size_fits));refine ya (m:=firstArgMember _ _) (wpAny_of_eq (a:=Yn) (by first|rfl|(simp only[firstArgMember];rfl)) ?_);refine yY ?_ (by size_fits);simp only[raiseNew];refine ya (wpAny_handled ?_)
 first|rw[show A.in1.handled=none from hh]|rw[hh]
 exact ya (yf (wpAny_throw (hE _ _ (((YE ..).extBut.push _).push _) ⟨_,yp _ rfl,rfl⟩)))
def zup{e it:yc}{i:Int}{x old:Value}{N:yT->Prop}{Q:Option Value->yd->Prop}(he:IsEnum s.heap e it i old)(hne:e≠it)
 (nx:∀(A':yK)(Q':Value->yd->Prop)(E':Value->yd->Prop),(∀h1,N h1->Yp it s.heap h1->Q' x {s with heap:=h1 })->yn (yv prog w) A' (YK (.ref it)) Q' E' s)
 (hN:∀h h',N h->(∀o,h.get? it=some o->h'.get? it=some o)->N h')
 (hQ:∀h',IsEnumOut h' e it (i+1) x s.heap.objs.size->N h'->h'.get? s.heap.objs.size=some {cls:=.type "tuple",data:=.seq #[.int i s.toks,x]}->h'.objs.size=s.heap.objs.size+1 ->
  (∀b o,b≠e->b≠it->s.heap.get? b=some o->h'.get? b=some o)->Q (some (.ref s.heap.objs.size)) {s with heap:=h',toks:=s.toks+1 }):yn (yv prog w) A (xW (.ref e)) Q E s:=by
 obtain⟨hp,g,d,tk,os⟩:=s;have hT:Shared.TypeIs ⟨hp,g,d,tk,os⟩ (.ref e) "enumerate":=⟨_,he,rfl⟩
 unfold xW;refine ya (wpAny_attempt (Yi (name:=YW "__next__") hT Xk (Yc Xk hT F.entry_enumerate_next ?_ (F.args_enumerate_next_1 _))));show yn _ _ (field (.ref e) 2 >>= _) _ _ _;refine ya (YI he rfl (x:=.ref it) rfl (ya (nx _ _ _ λh1 n1 sb1=>?_)));replace sb1:Yp it hp h1:=sb1;have e1:IsEnum h1 e it i old:=(sb1.2 e hne).trans he;show yn _ _ (field (.ref e) 3 >>= _) _ _ ⟨h1,g,d,tk,os⟩;refine ya (YI e1 rfl (x:=YH i) rfl ?_);show yn _ _ (field (.ref e) 4 >>= _) _ _ ⟨h1,g,d,tk,os⟩;refine ya (YI e1 rfl (x:=.none) rfl ?_);show yn _ _ (mkInt i >>= _) _ _ ⟨h1,g,d,tk,os⟩;refine ya (wpAny_mkInt ?_);show yn _ _ (setField (.ref e) 3 (YH (i+1)) >>= _) _ _ ⟨h1,g,d,tk+1,os⟩;refine ya (Xb e1 (by simp) λh2 e2 sb2=>?_);replace sb2:Yp e h1 h2:=sb2;replace e2:IsEnum h2 e it (i+1) old:=e2;show yn _ _ (setField (.ref e) 4 .none >>= _) _ _ ⟨h2,g,d,tk+1,os⟩;refine ya (Xb e2 (by simp) λh3 e3 sb3=>?_);replace sb3:Yp e h2 h3:=sb3;replace e3:IsEnum h3 e it (i+1) old:=e3;show yn _ _ (newTuple [.int i tk,x] >>= _) _ _ ⟨h3,g,d,tk+1,os⟩;refine ya (wpAny_newTuple ?_);have z3:h3.objs.size=hp.objs.size:=by rw[sb3.1,sb2.1,sb1.1]
 have el:e<hp.objs.size:=yk he;have ne4:hp.objs.size≠e:=yW el;obtain⟨h4,hh4⟩:∃h4,h4=h3.push {cls:=.type "tuple",data:=.seq #[.int i tk,x]}:=⟨_,rfl⟩
 have e4:IsEnum h4 e it (i+1) old:=by rw[hh4];exact yb _ e3
 have t4:h4.get? hp.objs.size=some {cls:=.type "tuple",data:=.seq #[.int i tk,x]}:=by rw[hh4,<-z3];exact yp _ rfl
 have z4:h4.objs.size=hp.objs.size+1:=by rw[hh4,Ys,z3]
 have up:∀b o,b≠e->h1.get? b=some o->h4.get? b=some o:=λb o hb q=>by
  rw[hh4];exact yb _ ((sb3.2 b hb).trans ((sb2.2 b hb).trans q))
 show yn _ _ (Builtin.SmallTypes.ownedTupleIsFree (.ref e) >>= _) _ _ ⟨h3.push {cls:=.type "tuple",data:=.seq #[.int i tk,x]},g,d,tk+1,os⟩;rw[<-hh4,z3];refine ya ?_;unfold Builtin.SmallTypes.ownedTupleIsFree;refine ya (YI e4 rfl (x:=.none) rfl (yf ?_));simp only[if_true];refine ya (wpAny_rule (ya (YI e4 rfl (x:=old) rfl (ya (Xb e4 (by simp) λh5 e5 sb5=>?_)))));replace sb5:Yp e h4 h5:=sb5;replace e5:IsEnum h5 e it (i+1) x:=e5;show yn _ _ (Builtin.SmallTypes.ownedTupleHandOut (.ref e) (.ref hp.objs.size) >>= _) _ _ ⟨h5,g,d,tk+1,os⟩;refine ya ?_;unfold Builtin.SmallTypes.ownedTupleHandOut;refine ya (Xb e5 (by simp) λh6 e6 sb6=>?_);replace sb6:Yp e h5 h6:=sb6;replace e6:IsEnumOut h6 e it (i+1) x hp.objs.size:=e6;refine Xb e6 (by simp) λh7 e7 sb7=>?_;replace sb7:Yp e h6 h7:=sb7;replace e7:IsEnumOut h7 e it (i+1) x hp.objs.size:=e7;have up7:∀b o,b≠e->h4.get? b=some o->h7.get? b=some o:=λb o hb q=>(sb7.2 b hb).trans ((sb6.2 b hb).trans ((sb5.2 b hb).trans q));refine ya (wpAny_letGo (yf ⟨_,rfl,yf (hQ h7 e7 (hN _ _ n1 λo q=>up7 _ _ (yV hne) (up _ _ (yV hne) q)) (up7 _ _ ne4 t4) ?_ λb o h1 h2 q=>up7 _ _ h1 (up _ _ h1 ((sb1.2 b h2).trans q)))⟩));show h7.objs.size=hp.objs.size+1;rw[sb7.1,sb6.1,sb5.1,z4]
def zFr{e it:yc}{i:Int}{old:Value}{Q:Option Value->yd->Prop}(he:IsEnum s.heap e it i old)
 (nx:∀(A':yK)(Q':Value->yd->Prop)(E':Value->yd->Prop),A'.handled=A.handled->(∀h' x,Xv it s.heap h'->(∃o,h'.get? x=some o/\o.cls=.type "StopIteration")->E' (.ref x) {s with heap:=h' })->yn (yv prog w) A' (YK (.ref it)) Q' E' s)
 (hQ:∀h',Xv it s.heap h'->Q none {s with heap:=h' }):yn (yv prog w) A (xW (.ref e)) Q E s:=by
 have hT:s.TypeIs (.ref e) "enumerate":=⟨_,he,rfl⟩
 unfold xW;refine ya (wpAny_attempt (Yi (name:=YW "__next__") hT Xk (Yc Xk hT F.entry_enumerate_next ?_ (F.args_enumerate_next_1 _))));show yn _ _ (field (.ref e) 2 >>= _) _ _ _;refine ya (YI he rfl (x:=.ref it) rfl (ya (nx _ _ _ rfl λh' x eb ⟨o,ho,hc⟩=>?_)));exact ya (Xz (T:="StopIteration") (b:=true) ⟨o,ho,hc⟩ isSubtype_stop (yf (hQ _ eb)))
variable {U:List (yc×YT)}{Y:L2.St}{H:Hp}
def z3n{fp:List yc}(hf:∀b∈fp,zkr X U H b){b:yc}{u:HO}(e:H b=some u):b∉fp:=λz=>by rw[(hf b z).1]at e;cases e
def z2z{fp:List yc}(hf:∀b∈fp,zkr X U H b):∀b∈fp,(b∈X.ex\/X.s₀.heap.objs.size<=b)/\b≠X.env.locals/\(∀x c,X.env.cells.lookup x=some c->c≠b)/\∀p∈X.pn++U,p.1≠b:=λb hb=>by
 obtain⟨_,f1,_,f3,f4,f5⟩:=hf b hb;exact⟨f3,f1,f4,f5⟩
def zEm{fp:List yc}{h':yT}{t':Nat}(I:Inv X U Y H s)(hf:∀b∈fp,zkr X U H b)(k:∀b o,b∉fp->s.heap.get? b=some o->h'.get? b=some o):Inv X U Y H {s with heap:=h',toks:=t' }:=by
 refine I.call (g':=s.gens) (t':=t') (d':=s.drawn) (ch:=fp) ⟨λb o e _ _ hx=>k b o hx e,λb o e _ _ hx=>⟨o.slots,k b o hx e⟩,λ_ _ _ n _=>n,λb o e hx=>⟨o,k b o hx e⟩,λ_ _ e=>e,λ_ _ _ e=>e,λ_ ps e=>⟨#[],by rw[e];simp⟩⟩ (λa o e=>?_) I.bare (z2z hf);refine(I.hok a o e).stay (λb u hb q=>k b u ?_ q) (λ_ q=>q) λ_ _ q=>q;rcases hb with rfl|hb
 ·exact z3n hf e
 ·exact z3n hf hb
def z1e{fp:List yc}{h':yT}{t':Nat}{p:yc}{o:HO}(I:Inv X U Y H s)(hf:∀b∈fp,zkr X U H b)(k:∀b o,b∉fp->s.heap.get? b=some o->h'.get? b=some o)(hp:s.heap.objs.size<=p)
 (new:tG X.prog X.w (upd H p o) h' p o):Inv X U Y (upd H p o) {s with heap:=h',toks:=t' }:=by
 have hn:=I.hok.fresh hp;have hlt:∀b ob,s.heap.get? b=some ob->b≠p:=λb ob e=>yu (yz (yk e) hp)
 refine I.call (g':=s.gens) (t':=t') (d':=s.drawn) (ch:=fp) ⟨λb o e _ _ hx=>k b o hx e,λb o e _ _ hx=>⟨o.slots,k b o hx e⟩,λb ob e n _=>by rw[zL (hlt b ob e)];exact n,λb o e hx=>⟨o,k b o hx e⟩,
  λ_ _ e=>by rw[zL (zI e hn)];exact e,λ_ _ _ e=>by rw[zL (zI e hn)];exact e,λ_ ps e=>⟨#[],by rw[zL (zI e hn),e];simp⟩⟩ (λa u e=>?_) I.bare (z2z hf)
 by_cases ha:a=p
 ·subst ha;rw[zF]at e;cases e;exact new
 ·rw[zL ha]at e;refine(I.hok a u e).stay (λb u hb q=>k b u ?_ q) (λb q=>by rw[zL (zI q hn)];exact q) λb xs q=>by rw[zL (zI q hn)];exact q
  rcases hb with rfl|hb
  ·exact z3n hf e
  ·exact z3n hf hb
def Ien(δ:It):It:=⟨δ.go,λi H x H'=>∃p y,x=.ref p/\H p=none/\H'=upd H p (.tup [.int i,y])/\δ.yld i H y H,δ.stop⟩
def z0s{P:yA}{w:yI}{H:Hp}{h:yT}{p:yc}{x y:V}{u v:Value}(e:h.get? p=some {cls:=.type "tuple",data:=.seq #[u,v]})(rx:RelV x u)(ry:RelV y v):tG P w H h p (.tup [x,y]) :=
 ⟨by rw[Yr];simp,[u,v],.cons rx (.cons ry .nil),⟨_,e,rfl,_,rfl⟩⟩
def zbs{P:yA}{w:yI}{K:yx}{elts:List yE}{x1}{pos:xp}(a e it:yc)(hne:e≠it):Turn P w K (.Tuple elts x1 pos) (Ien (Itl K a)) [e,it] e (λi h=>(∃old,IsEnum h e it i old)/\h.IsListIter it a i) where
 mem:=by simp
 obj:=λi h ⟨⟨old,he⟩,st⟩ b hb=>by
  have hb:b=e\/b=it:=by simpa using hb
  rcases hb with rfl|rfl
  ·exact⟨_,he,λv z=>by have z':Data.fields _=Data.cell v:=z;cases z'⟩
  ·obtain⟨o,q,c,d⟩:=st;exact⟨o,q,λv z=>by rw[d]at z;cases z⟩
 keep:=λi h h' ⟨⟨old,he⟩,st⟩ k=>⟨⟨old,k e (by simp) _ he⟩,st.at λo q=>k it (by simp) o q⟩
 item:=by
  intro X hP hw hK hc i U s Y H E I hf ⟨⟨old,he⟩,st⟩ hg;subst hP hw hK;obtain⟨xs,x,hq,hx⟩:=hg;obtain⟨its,rv,p,hz⟩:=I.list hq;obtain⟨u,hu,ru⟩:=rv.get hx;refine zup (N:=λh=>h.IsListIter it a (i+1)) he hne (λA' Q' E' hQ=>wpAny_nextOf_list_item st p.isList (x:=u) (by simpa using hu) λh' st' sb=>hQ h' st' sb) (λh h' n k=>n.at λo q=>k o q) λh' eo n' t' z' kk=>?_;refine⟨_,rfl,wpAny_letOwnedTupleGo_enum eo λh2 e2 sb2=>?_⟩;replace sb2:Yp e h' h2:=sb2;have hlt:e<s.heap.objs.size:=yk he;have t2:=(sb2.2 s.heap.objs.size (yW hlt)).trans t';have hfr:=I.hok.fresh (yi s.heap.objs.size)
  have I2:Inv X U Y (upd H s.heap.objs.size (.tup [.int i,x])) {s with heap:=h2,toks:=s.toks+1 }:=by
   refine z1e I hf (λb o hb q=>?_) (yi _) (z0s t2 ⟨_,rfl⟩ ru);simp only[mem_cons,not_mem_nil,or_false,not_or]at hb;exact(sb2.2 b hb.1).trans (kk b o hb.1 hb.2 q)
  refine⟨.ref s.heap.objs.size,_,I2,rfl,⟨_,x,rfl,hfr,rfl,rfl,λys hy=>by rw[I.Se hy hq];exact hx⟩,⟨⟨u,by simpa using e2⟩,n'.at λo q=>(sb2.2 it (yV hne)).trans q⟩,λb hb=>?_⟩
  ·rw[zL]
   ·exact(hf b hb).1
   ·rintro rfl;have hb:s.heap.objs.size=e\/s.heap.objs.size=it:=by simpa using hb
    rcases hb with q|q
    ·exact absurd hlt (by rw[q];exact yU _)
    ·obtain⟨o,qo,_⟩:=st;exact absurd (yk qo) (by rw[q];exact yU _)
 done:=by
  intro X hP hw hK hc i U s Y H E I hf ⟨⟨old,he⟩,st⟩ hg;subst hP hw hK;obtain⟨xs,hq,hx⟩:=hg;obtain⟨its,rv,p,hz⟩:=I.list hq;have hl:=rv.length;refine zFr he (λA' Q' E' hA hE=>wpAny_nextOf_list_end (hA.trans (I.ok.hd hc)) st p.isList (by simp;omega) hE) λh' eb=>⟨rfl,zEm (t':=s.toks) I hf λb o hb q=>eb b o (λz=>hb (by simp[z])) q⟩
 self:=λ_ _ _ _ _ ⟨⟨old,he⟩,_⟩ h=>wpAny_pyIter_enum he h
def zts{P:yA}{w:yI}{K:yx}{elts:List yE}{x1}{pos:xp}(a e it:yc)(hne:e≠it):Turn P w K (.Tuple elts x1 pos) (Ien (Itt K a)) [e,it] e (λi h=>(∃old,IsEnum h e it i old)/\h.IsTupleIter it a i) where
 mem:=by simp
 obj:=λi h ⟨⟨old,he⟩,st⟩ b hb=>by
  have hb:b=e\/b=it:=by simpa using hb
  rcases hb with rfl|rfl
  ·exact⟨_,he,λv z=>by have z':Data.fields _=Data.cell v:=z;cases z'⟩
  ·obtain⟨o,q,c,d⟩:=st;exact⟨o,q,λv z=>by rw[d]at z;cases z⟩
 keep:=λi h h' ⟨⟨old,he⟩,st⟩ k=>⟨⟨old,k e (by simp) _ he⟩,st.at λo q=>k it (by simp) o q⟩
 item:=by
  intro X hP hw hK hc i U s Y H E I hf ⟨⟨old,he⟩,st⟩ hg;subst hP hw hK;obtain⟨xs,x,hq,hx⟩:=hg;obtain⟨its,rv,p,hz⟩:=I.tuple hq;obtain⟨u,hu,ru⟩:=rv.get hx;refine zup (N:=λh=>h.IsTupleIter it a (i+1)) he hne (λA' Q' E' hQ=>nextT st (show s.heap.IsTuple a its.toArray from p) (x:=u) (by simpa using hu) λh' st' sb=>hQ h' st' sb) (λh h' n k=>n.at λo q=>k o q) λh' eo n' t' z' kk=>?_;refine⟨_,rfl,wpAny_letOwnedTupleGo_enum eo λh2 e2 sb2=>?_⟩;replace sb2:Yp e h' h2:=sb2;have hlt:e<s.heap.objs.size:=yk he;have t2:=(sb2.2 s.heap.objs.size (yW hlt)).trans t';have hfr:=I.hok.fresh (yi s.heap.objs.size)
  have I2:Inv X U Y (upd H s.heap.objs.size (.tup [.int i,x])) {s with heap:=h2,toks:=s.toks+1 }:=by
   refine z1e I hf (λb o hb q=>?_) (yi _) (z0s t2 ⟨_,rfl⟩ ru);simp only[mem_cons,not_mem_nil,or_false,not_or]at hb;exact(sb2.2 b hb.1).trans (kk b o hb.1 hb.2 q)
  refine⟨.ref s.heap.objs.size,_,I2,rfl,⟨_,x,rfl,hfr,rfl,rfl,λys hy=>by rw[I.sQ hy hq];exact hx⟩,⟨⟨u,by simpa using e2⟩,n'.at λo q=>(sb2.2 it (yV hne)).trans q⟩,λb hb=>?_⟩
  ·rw[zL]
   ·exact(hf b hb).1
   ·rintro rfl;have hb:s.heap.objs.size=e\/s.heap.objs.size=it:=by simpa using hb
    rcases hb with q|q
    ·exact absurd hlt (by rw[q];exact yU _)
    ·obtain⟨o,qo,_⟩:=st;exact absurd (yk qo) (by rw[q];exact yU _)
 done:=by
  intro X hP hw hK hc i U s Y H E I hf ⟨⟨old,he⟩,st⟩ hg;subst hP hw hK;obtain⟨xs,hq,hx⟩:=hg;obtain⟨its,rv,p,hz⟩:=I.tuple hq;have hl:=rv.length;refine zFr he (λA' Q' E' hA hE=>ztt (hA.trans (I.ok.hd hc)) st (show s.heap.IsTuple a its.toArray from p) (by simp;omega) hE) λh' eb=>⟨rfl,zEm (t':=s.toks) I hf λb o hb q=>eb b o (λz=>hb (by simp[z])) q⟩
 self:=λ_ _ _ _ _ ⟨⟨old,he⟩,_⟩ h=>wpAny_pyIter_enum he h
def zGu(l:yc)(items:Array Value)(n:Nat)(dct:Option yc)(sl:Array (Option Value)) :
 Meets (xh.«enumerate.__new__» ⟨[.type "enumerate",.ref l],[]⟩) (λ_ R s=>s.heap.get? l=some {cls:=.type "tuple",dict:=dct,data:=.seq items n,slots:=sl } /\
  R (.ok (.ret (.ref (s.heap.push {cls:=.type "tuple_iterator",data:=.fields #[.ref l,.int 0 0]}).objs.size)))
   {s with heap:=(s.heap.push {cls:=.type "tuple_iterator",data:=.fields #[.ref l,.int 0 0]}).push {cls:=.type "enumerate",data:=.fields #[.none,.bool false,.ref s.heap.objs.size,YH 0,.none,.none]}}) :=
 .of_wp λprog w A R s h=>by
  obtain⟨hp,g,d,tk,os⟩:=s;obtain⟨hl,h⟩:=h;have hsub:=sub_enumerate;have hL:Heap.IsTuple (Shared.heap ⟨hp,g,d,tk,os⟩) l items:=⟨_,hl,rfl,n,rfl⟩
  wp_walk using xM hl
  refine wpAny_stack_any λst=>yf ?_
  split
  ·rename_i c _ _ _ _ _
   cases (c==Yv "enumerate")
   ·wp_walk using xM hl,wpAny_pyIter_tuple hL
    exact⟨_,rfl,h⟩
   ·wp_walk using xM hl,wpAny_pyIter_tuple hL
    exact⟨_,rfl,h⟩
  ·wp_walk using xM hl,wpAny_pyIter_tuple hL
   exact⟨_,rfl,h⟩
def z4r{prog:yA}{w:yI}{A:yK}{E:Value->yd->Prop}{l:yc}{items:Array Value}{Q:Value->yd->Prop}(hL:s.heap.IsTuple l items)
 (h:∀h',IsEnum h' (s.heap.objs.size+1) s.heap.objs.size 0 .none->h'.IsTupleIter s.heap.objs.size l 0->h'.objs.size=s.heap.objs.size+2 ->
  (∀b o,s.heap.get? b=some o->h'.get? b=some o)->Q (.ref (s.heap.objs.size+1)) {s with heap:=h' }):yn (yv prog w) A (call (.type "enumerate") [.ref l]) Q E s:=by
 obtain⟨⟨c,dct,dt,sl⟩,hl,hc,n,hd⟩:=hL;replace hc:c=.type "tuple":=hc;replace hd:dt=.seq items n:=hd;subst hc hd;refine callType_new F.called_enumerate (by decide) (F.typeCall_enumerate_1 _) (F.newCall_enumerate_1 _) (λobj=>F.args_object_init_2 obj _) F.entry_enumerate_new (zGu l items n dct sl) ⟨hl,?_⟩;have hz:(s.heap.push {cls:=.type "tuple_iterator",data:=.fields #[.ref l,.int 0 0]}).objs.size=s.heap.objs.size+1:=Ys ..
 have he:IsEnum ((s.heap.push {cls:=.type "tuple_iterator",data:=.fields #[.ref l,.int 0 0]}).push {cls:=.type "enumerate",data:=.fields #[.none,.bool false,.ref s.heap.objs.size,YH 0,.none,.none]}) (s.heap.objs.size+1) s.heap.objs.size 0 .none:=by
  have:=yp (s.heap.push {cls:=.type "tuple_iterator",data:=.fields #[.ref l,.int 0 0]}) (o:={cls:=.type "enumerate",data:=.fields #[.none,.bool false,.ref s.heap.objs.size,YH 0,.none,.none]}) rfl;rw[hz]at this;exact this
 show _/\_;rw[hz];exact⟨⟨_,he,rfl⟩,h _ he ⟨_,yb _ (yp _ rfl),rfl,rfl⟩ (by rw[Ys,hz]) λb o x=>yb _ (yb _ x)⟩
def zlC(K:yx)(tl:TE):TI:=λY H R=>tl Y H λx H1=>∃a,x=.ref a/\((∃xs,SqL K H1 a xs)/\R (Ien (Itl K a)) H1\/(∃xs,SqT K H1 a xs)/\R (Ien (Itt K a)) H1)
def zYy{l:yE}{tl:TE}{elts:List yE}{x1}{tp p pos:xp}(hg:Gl X "enumerate")(hm:X.mg "enumerate"=none)(hv:yJ "enumerate"=some (.type "enumerate"))(hl:PE X l tl)(hs:yj [l] X.env=[(false,Ye l X.env)]:=by rfl) :
 PI X (.Tuple elts x1 tp) (.Call (.Name "enumerate" p) [l] [] pos) (zlC X.K tl):=by
 intro U s Y H R I h
 refine Call_ (zal I hg hm hv (YS (thn (z4e hl zdi hs pos U s Y H (λvs H1=>match vs with
  |[x]=>∃a,x=.ref a/\((∃xs,SqL X.K H1 a xs)/\R (Ien (Itl X.K a)) H1\/(∃xs,SqT X.K H1 a xs)/\R (Ien (Itt X.K a)) H1)
  |_=>False) I h) λus s1 ⟨vs,H1,I1,r1,q1⟩=>?_) hs rfl))
 dsimp only at q1
 split at q1
 case h_2=>exact q1.elim
 obtain⟨a,e,q⟩:=q1;subst e
 cases r1 with
 |cons r rr=>
  cases rr;cases r
  have fin:∀h':yT,(∀b o,s1.heap.get? b=some o->h'.get? b=some o)->∀b∈[s1.heap.objs.size+1,s1.heap.objs.size],zkr X U H1 b:=λh' kp b hb=>by
   have hb:b=s1.heap.objs.size+1\/b=s1.heap.objs.size:=by simpa using hb
   rcases hb with rfl|rfl
   ·exact I1.Sm (xV _) (I1.hok.fresh (xV _))
   ·exact I1.Sm (yi _) (I1.hok.fresh (yi _))
  have hne:s1.heap.objs.size+1≠s1.heap.objs.size:=Nat.succ_ne_self _;rcases q with ⟨⟨xs,hq⟩,q⟩|⟨⟨xs,hq⟩,q⟩
  ·obtain⟨its,rv,pl,hz⟩:=I1.list hq;refine call_enumerate_list pl.isList λh' e1 i1 z1 kp=>?_;refine wpAny_pyIter_enum (s:={s1 with heap:=h' }) e1 ?_;exact⟨_,[s1.heap.objs.size+1,s1.heap.objs.size],_,_,H1,rfl,I1.kept (t':=s1.toks) kp,zbs a _ _ hne,⟨⟨_,e1⟩,i1⟩,fin h' kp,q⟩
  ·obtain⟨its,rv,pl,hz⟩:=I1.tuple hq;refine z4r (show s1.heap.IsTuple a its.toArray from pl) λh' e1 i1 z1 kp=>?_;refine wpAny_pyIter_enum (s:={s1 with heap:=h' }) e1 ?_;exact⟨_,[s1.heap.objs.size+1,s1.heap.objs.size],_,_,H1,rfl,I1.kept (t':=s1.toks) kp,zts a _ _ hne,⟨⟨_,e1⟩,i1⟩,fin h' kp,q⟩
def zuh(ds:List D):List D:=ds.zipIdx.map λp =>.tup [.int (p.2:Nat),p.1]
def zOd(ds:List D):(zuh ds).length=ds.length:=by simp[zuh]
def zYn{ds:List D}{i:Nat}{d:D}(h:(zuh ds)[i]?=some d):∃y,ds[i]?=some y/\d=.tup [.int i,y]:=by
 unfold zuh at h;rw[yg,Xx]at h
 cases e:ds[i]? with
 |none=>rw[e]at h;cases h
 |some y=>
  rw[e]at h;refine⟨y,rfl,?_⟩;have:=Yj h;rw[<-this];simp
@[simp] def zQn(G:FE):FI:=λJ O=>(G J O).bind λp=>match p.1 with
 |.tup ds=>some (zuh ds,yes,p.2)
 |.fz ds=>some (zuh ds,yes,p.2)
 |.loc n=>match p.2[n]? with
  |some (.lst ds)=>some (zuh ds,zTo n ds,p.2)
  |_=>none
 |_=>none
def ztq{K:yx}{δ:It}{Z:List yc}{H:Hp}{ds:List D}{ok:Mem->Bool}(h:Su K δ Z H ds ok):Su K (Ien δ) Z H (zuh ds) ok:=by
 refine⟨λZ' H' O' i x R o hi=>h.go Z' H' O' i x R o (by rw[zOd]at hi;exact hi),λZ' H' O' i x H'' d x' R o e ⟨p,y,e1,hp,e2,yl⟩=>?_,λZ' H' O' x R o=>by rw[zOd];exact h.stop Z' H' O' x R o⟩;obtain⟨z,ez,rfl⟩:=zYn e;obtain⟨_,_,rz⟩:=h.yld Z' H' O' i y H' z x' R o ez yl;subst e1 e2;exact⟨Ext.new hp,R.Tx hp,.tup zF (.cons .int (.cons (rz.ext (Ext.new hp)) .nil))⟩
def z7h{a:yE}{G:FE}{elts:List yE}{x1}{tp p pos:xp}(hm:X.mg "enumerate"=none)(hv:yJ "enumerate"=some (.type "enumerate"))(h:ME X a G)(hg:Gl X "enumerate":=by rfl)(hs:yj [a] X.env=[(false,Ye a X.env)]:=by rfl) :
 MI X (.Tuple elts x1 tp) (.Call (.Name "enumerate" p) [a] [] pos) (zQn G) :=
 zBt (zYy hg hm hv h hs) λZ J O Y H ds ok O' R A e k=>by
  obtain⟨⟨x,O1⟩,e1,e⟩:=zi e;refine⟨Z,J,O,x,O1,A,e1,λZ1 H1 v1 x1 R1 r1=>?_⟩;dsimp only at e
  split at e
  ·cases e;obtain⟨a,vs,rfl,e2,q2⟩:=r1.tT;exact⟨a,rfl,.inr ⟨⟨vs,SqT.of e2⟩,k Z1 H1 _ x1 R1 (ztq (z1w e2 q2))⟩⟩
  ·cases e;obtain⟨a,vs,rfl,e2,q2⟩:=r1.sL;exact⟨a,rfl,.inl ⟨⟨vs,e2.sq⟩,k Z1 H1 _ x1 R1 (ztq (zZq λZ' H' O' x _ _=>⟨vs,(x.fz e2).sq,q2.ext x⟩))⟩⟩
  ·split at e
   ·rename_i hm
    cases e;obtain⟨a,rfl,e2⟩:=r1.tz;obtain⟨vs,e3,q3⟩:=R1.at_ _ _ _ e2 hm;refine⟨a,rfl,.inl ⟨⟨vs,SqL.of e3⟩,k Z1 H1 _ x1 R1 (ztq (zZq λZ' H' O'' x R' o=>?_))⟩⟩;obtain⟨vs',e4,q4⟩:=R'.at_ _ _ _ (x.get e2) (Th.mp o);exact⟨vs',SqL.of e4,q4⟩
   ·cases e
  ·cases e
@[simp] def zar(g:GM)(G:FE):FE:=λJ O=>(G J O).bind λp=>match p.1 with
 |.loc n=>match p.2[n]? with
  |some (.lst _)=>g (.loc n) [] p.2
  |_=>none
 |_=>none
def zDv{o:yE}{name:yt}{id:String}{g:GM}{apos:xp}(slot:Slot "list" name id)(hty:typeOf (.builtin id)=pure (.type "method_descriptor"))(hm:MtG X id g)(ho:ME X o G)
 (hbase:YA o name X.env (Ye o X.env)=Ye o X.env:=by rfl) (hline:(apos.endLine==pos.line)=true:=by rfl):ME X (.Call (.Attribute o name apos) [] [] pos) (zar g G) :=
 zfe (zyz PySem.F.plainAttrs_list slot hty hm ho hbase hline) λZ J O Y H d O' Q A e k=>by
  obtain⟨⟨x,O1⟩,e1,e⟩:=zi e;refine⟨Z,J,O,x,O1,A,e1,λZ1 H1 v x1 R1 r1=>?_⟩;dsimp only at e
  split at e
  ·split at e
   ·rename_i hm'
    obtain⟨a,rfl,ea⟩:=r1.tz;obtain⟨vs,e3,q3⟩:=R1.at_ _ _ _ ea hm';exact⟨.inl ⟨rfl,vs,SqL.of e3⟩,Z1,_,[],O1,d,O',r1,.nil,R1,e,λZ3 H3 v3 x3 R3 r3=>k Z3 H3 v3 (x1.trans x3) R3 r3⟩
   ·cases e
  ·cases e
@[simp] def zqo:GM:=λx ds O=>match x,ds with
 |.loc n,[]=>match O[n]? with
  |some (.lst _)=>some (.non,O.set n (.lst []))
  |_=>none
 |_,_=>none
def zLu:MtG X "list.clear" zqo:=by
 refine MtG.of λU s Y H x xs v us Q I rx rs Z dx ds O d O' r1 r2 R e k=>?_;unfold zqo at e
 split at e
 ·split at e
  ·rename_i hm
   cases e;obtain⟨a,rfl,ea⟩:=r1.tz;obtain⟨vs,e3,q3⟩:=R.at_ _ _ _ ea hm;have hmu:Mut (H a):=by rw[e3];trivial
   exact ztv U s Y H _ _ v us Q I rx rs ⟨a,vs,rfl,r2.nil_inv,e3,k Z _ _ (Ext.wr hmu) (R.wr hmu ea ⟨_,zF,.nil⟩) .non⟩
  ·cases e
 ·cases e
def zPv{o:yE}{apos:xp}(ho:ME X o G)(hbase:YA o "clear" X.env (Ye o X.env)=Ye o X.env:=by rfl)(hline:(apos.endLine==pos.line)=true:=by rfl):ME X (.Call (.Attribute o "clear" apos) [] [] pos) (zar zqo G) :=
 zDv PySem.F.slot_list_clear PySem.F.type_list_clear zLu ho hbase hline
@[simp] def zNk:GM:=λx ds O=>match x,ds with
 |.loc n,[d]=>match O[n]? with
  |some (.lst xs)=>bif zed d&&xs.all zed then some (.int (xs.countP λy=>eqF y d:Nat),O) else none
  |_=>none
 |_,_=>none
def z6o{x:V}:∀{xs:List V} {us:List Value},Vals xs us->xs.all zrl=true->us.countP (eqU x)=xs.countP λy=>eqV y x
 |_,_,.nil,_=>rfl
 |y::xs,u::us,.cons r t,f=>by
  rw[all_cons,yH]at f;rw[countP_cons,countP_cons,znu r f.1,z6o t f.2]
def zso{K:yx}{Z:List yc}{H:Hp}{x:D}{v:V}(rx:tx K Z H x v)(fx:zed x=true):∀{ds:List D} {vs:List V},tf K Z H ds vs->ds.all zed=true->(vs.countP λy=>eqV y v)=ds.countP λd=>eqF d x
 |[],_,r,_=>by rw[r.nil_inv];rfl
 |d::ds,_,r,f=>by
  obtain⟨w,ws,rfl,r1,r2⟩:=r.cons_inv;rw[all_cons,yH]at f;rw[countP_cons,countP_cons,zso rx fx r2 f.2,zut r1 rx f.1 fx]
def zWu:MtG X "list.count" zNk:=by
 refine MtG.of λU s Y H x xs v us Q I rx rs Z dx ds O d O' r1 r2 R e k=>?_;unfold zNk at e
 split at e
 ·split at e
  ·rename_i hm
   obtain⟨h1,e⟩:=zW e;rw[yH]at h1;cases e;obtain⟨a,rfl,ea⟩:=r1.tz;obtain⟨vs,e3,q3⟩:=R.at_ _ _ _ ea hm;obtain⟨w,r,rfl,q1,q2⟩:=r2.cons_inv;rw[q2.nil_inv]at rs;obtain⟨u,rfl,ru⟩:=vals1 rs;cases rx;obtain⟨z,its,n,rv,hl,el⟩:=I.sO e3;obtain⟨fv,_⟩:=z0q q1 h1.1 q3 h1.2;refine Xs PySem.F.slot_list_count ⟨_,el,rfl⟩ PySem.F.entry_list_count (PySem.F.args_list_count_2 _ _) (SeqAt.list_countAt a its.toArray n _ _ u (eqU w)) ⟨el,λy hy=>zmh ru (zKk q1 h1.1) rv fv y (by simpa using hy),?_⟩;refine⟨.int _,H,I.tok _,⟨_,rfl⟩,?_⟩;rw[show its.toArray.toList=its by simp,z6o rv fv,zso q1 h1.1 q3 h1.2];exact k Z H _ Ext.refl R .int
  ·cases e
 ·cases e
def ztw{o:yE}{ψ:FA}{apos:xp}(ho:ME X o G)(ha:MAn X (e::es) ψ)
 (hbase:YA o "count" X.env (Ye o X.env)=Ye o X.env:=by rfl)
 (hfew:((Ym pos (yj (e::es) X.env)).all (λx=>!x.1)&&(xR pos (YQ [] X.env)).all (λx=>x.1.isSome)
  && decide ((e::es).length+([]:List xO).length+(if([]:List xO).isEmpty then 0 else 1)<30))=true:=by rfl)
 (hline:(apos.endLine==pos.line)=true:=by rfl) (hs:yj (e::es) X.env=(false,Ye e X.env)::yj es X.env:=by rfl) (hplain:(Ym pos (yj es X.env)).any (·.1)=false:=by rfl) :
 ME X (.Call (.Attribute o "count" apos) (e::es) [] pos) (z4h zNk G ψ):=zlo PySem.F.slot_list_count PySem.F.type_list_count zWu ho ha hbase hfew hline hs hplain
@[simp] def zzj:GM:=λx ds O=>match x,ds with
 |.loc n,[.int i]=>match O[n]? with
  |some (.lst xs)=>(zPj xs).bind λns=>bif ns.contains i then some (.non,O.set n (.lst ((ns.erase i).map .int))) else none
  |_=>none
 |_,_=>none
def zRq{i:Int}:∀{ns:List Int},i∈ns->∃j,∃hj:j<ns.length,ns[j]=i/\(∀m (hm:m<ns.length),m<j->ns[m]≠i)/\ns.erase i=ns.eraseIdx j
 |[],h=>by cases h
 |n::ns,h=>by
  by_cases hn:n=i
  ·exact⟨0,by simp,hn,λm _ hm=>absurd hm (Nat.not_lt_zero _),by simp[hn]⟩
  ·have h':i∈ns:=by
    rcases List.mem_cons.mp h with h|h
    ·exact absurd h.symm hn
    ·exact h
   obtain⟨j,hj,e1,e2,e3⟩:=zRq h';refine⟨j+1,by simpa using hj,by simpa using e1,λm hm hmj=>?_,?_⟩
   ·cases m with
    |zero=>simpa using hn
    |succ m=>simpa using e2 m (by simpa using hm) (by omega)
   ·rw[List.erase_cons_tail (by simpa using hn),e3,List.eraseIdx_cons_succ]
def zbp{α β:Type}(f:α->β):∀(l:List α)(j:Nat),(l.eraseIdx j).map f=(l.map f).eraseIdx j
 |[],j=>by simp
 |x::l,0=>by simp
 |x::l,j+1=>by simp[zbp f l j]
def zfn:∀{vs:List V} {us:List Value} (j:Nat),Vals vs us->Vals (vs.eraseIdx j) (us.eraseIdx j)
 |_,_,_,.nil=>by simp;exact .nil
 |_,_,0,.cons r t=>by simpa using t
 |_,_,j+1,.cons r t=>by rw[List.eraseIdx_cons_succ,List.eraseIdx_cons_succ];exact .cons r (zfn j t)
def zZr:MtG X "list.remove" zzj:=by
 refine MtG.of λU s Y H x xs v us Q I rx rs Z dx ds O d O' r1 r2 R e k=>?_;unfold zzj at e
 split at e
 ·rename_i l i
  split at e
  ·rename_i hm
   obtain⟨ns,e2,e⟩:=zi e;obtain⟨h1,e⟩:=zW e;cases e;rw[zqf e2]at hm;obtain⟨a,rfl,ea⟩:=r1.tz;obtain⟨vs,e3,q3⟩:=R.at_ _ _ _ ea hm;rw[zmi q3]at e3;obtain⟨w,r,rfl,q1,q2⟩:=r2.cons_inv;rw[q2.nil_inv,q1.int_inv]at rs;obtain⟨u,rfl,ru⟩:=vals1 rs;obtain⟨t,rfl⟩:=ru;cases rx;obtain⟨z,its,n,rv,hl,el⟩:=I.sO e3;obtain⟨j,hj,hit,hno,her⟩:=zRq (show i∈ns by simpa using h1);have hlen:its.length=ns.length:=by rw[<-rv.length];simp
   have at_:∀m (hm:m<its.length),∃t,its[m]=.int (ns[m]'(by omega)) t:=λm hm=>by
    have hg:(ns.map V.int)[m]?=some (.int (ns[m]'(by omega))):=by simp[show m<ns.length by omega]
    obtain⟨u,hu,t,ru⟩:=rv.get hg;exact⟨t,by rw[<-ru];exact(List.getElem?_eq_some_iff.mp hu).2⟩
   let f:Value->Bool:=λy=>match y with | .int z _=>z==i|_=>false
   have hz':its.length<=yD:=by rw[<-rv.length];exact z
   refine Xs PySem.F.slot_list_remove ⟨_,el,rfl⟩ PySem.F.entry_list_remove (PySem.F.args_list_remove_2 _ _)
    (MeetsSeq.list_remove a its.toArray n (.int i t) f (λy hy=>?_) j (by simp;omega) ?_ (λm hm hmj=>?_) (by simpa using hz')) ⟨el,?_⟩
   ·obtain⟨m,hm,rfl⟩:=List.mem_iff_getElem.mp (show y∈its by simpa using hy);obtain⟨t',e'⟩:=at_ m hm;rw[e'];exact MeetsSeq.EqGives.int _ _ _ _
   ·obtain⟨t',e'⟩:=at_ j (by omega);show f its[j]=true;rw[e'];simp[f,hit]
   ·have hm':m<its.length:=by simpa using hm
    obtain⟨t',e'⟩:=at_ m hm';show f its[m]=false;rw[e'];simpa[f] using hno m (by omega) hmj
   ·have hmu:Mut (H a):=by rw[e3];trivial
    refine⟨.non,_,I.SK (t':=s.toks) (ys:=(ns.erase i).map V.int) (its':=its.eraseIdx j) e3 el ?_ ?_ ?_,rfl,k Z _ _ (Ext.wr hmu) (R.wr hmu ea ⟨_,zF,zAf⟩) .non⟩
    ·simp[Array.eraseIdxIfInBounds,show j<its.length by omega]
    ·rw[her,zbp];exact zfn j rv
    ·have:(ns.erase i).length<=ns.length:=by rw[her];exact List.length_eraseIdx_le _ _
     rw[length_map]at z ⊢;omega
  ·cases e
 ·cases e
def zlt{o:yE}{ψ:FA}{apos:xp}(ho:ME X o G)(ha:MAn X (e::es) ψ)
 (hbase:YA o "remove" X.env (Ye o X.env)=Ye o X.env:=by rfl)
 (hfew:((Ym pos (yj (e::es) X.env)).all (λx=>!x.1)&&(xR pos (YQ [] X.env)).all (λx=>x.1.isSome)
  && decide ((e::es).length+([]:List xO).length+(if([]:List xO).isEmpty then 0 else 1)<30))=true:=by rfl)
 (hline:(apos.endLine==pos.line)=true:=by rfl) (hs:yj (e::es) X.env=(false,Ye e X.env)::yj es X.env:=by rfl) (hplain:(Ym pos (yj es X.env)).any (·.1)=false:=by rfl) :
 ME X (.Call (.Attribute o "remove" apos) (e::es) [] pos) (z4h zzj G ψ):=zlo PySem.F.slot_list_remove PySem.F.type_list_remove zZr ho ha hbase hfew hline hs hplain
@[simp] def zeA(i:Nat)(g:φ2)(G:FE):FS:=λJ O=>match J[i]? with
 |some (some x)=>(G J O).bind λp=>(g x p.1 p.2).bind λq=>some (.next (J.set i (some q.1)) q.2)
 |_=>none
def zZv:φ2:=λx y O=>match x,y with
 |.int i,.int j=>some (.int (i+j),O)
 |_,_=>none
def zXx:OpM X (inplaceOp .Add) zZv:=by
 refine OpM.of λU s Y H x y v u Q I rx ry Z dx dy O d O' r1 r2 R e k=>?_;unfold zZv at e
 split at e
 ·cases e;exact zpx U s Y H x y v u Q I rx ry ⟨_,_,r1.int_inv,r2.int_inv,k Z H _ Ext.refl R .int⟩
 ·cases e
def zEz{x:yt}{op:Operator}{g:φ2}{pos':xp}(i:Nat)(ho:OpM X (inplaceOp op) g)(he:ME X e G)(hN:X.N.Nodup:=by assumption)(hi:X.N[i]?=some x:=by rfl)(hx:L2.Loc X.env.scope x:=by first|exact Or.inl rfl|exact Or.inr rfl)
 (hf:X.fn x=true\/X.env.scope.names.lookup x=some .local:=by first|exact .inl rfl|exact .inr rfl|assumption):MS X (.AugAssign (.Name x pos') op e pos) (zeA i g G) :=
 zQk (znz (ti:=rM X.K g) hN hi hx he (λU s Y H x y v u Q I rx ry q=>ho U s Y H x y v u Q I rx ry q) hf) λZ J O Y H o E A e k=>by
  unfold zeA at e
  split at e
  ·rename_i d hd
   obtain⟨v,hv,rv⟩:=A.st i _ hd;obtain⟨⟨y,O1⟩,e1,e⟩:=zi e;obtain⟨⟨z,O2⟩,e2,e⟩:=zi e;cases e;refine⟨v,hv,Z,J,O,y,O1,A,e1,λZ1 H1 w x1 R1 r1=>?_⟩;refine⟨Z1,d,y,O1,z,O2,rv.ext x1,r1,R1,e2,λZ2 H2 w2 x2 R2 r2=>?_⟩;exact k Z2 _ H2 (x1.trans x2) ((A.ext (x1.trans x2) R2).set r2 i)
  ·cases e
def zoc(c:FT)(body:FS):Nat->FS
 |0,_,_=>none
 |n+1,J,O=>(c J O).bind λp=>bif p.1 then(match body J p.2 with
  |some (.next J' O')=>zoc c body n J' O'
  |some (.cont J' O')=>zoc c body n J' O'
  |some (.brk J' O')=>some (.next J' O')
  |some (.ret d O')=>some (.ret d O')
  |some (.exc C fs O')=>some (.exc C fs O')
  |none=>none) else some (.next J p.2)
def zBo(n:Nat)(c:FT)(body:FS):FS:=zoc c body n
def zKn{body:List Yb}{t:FT}{p:FS}(n:Nat)(hc:MT X c t)(hb:MSs X body p)(hx:PassesOwn (yv X.prog X.w) X.A X.env X.xe:=by first|exact PassesOwn.never|exact PassesOwn.leaving):MS X (.While c body [] pos) (zBo n t p) :=
 zQk (z8v hx hc hb) λZ J O Y H o E A e k=>by
  refine⟨λm Y' H'=>∃Z' J' O',Ext Z H Z' H'/\At X.K Z' H' Y' J' O'/\zoc t p m J' O'=some o,⟨n,Z,J,O,Ext.refl,A,e⟩,?_⟩;rintro m Y' H' ⟨Z',J',O',x',A',ew⟩
  cases m with
  |zero=>cases ew
  |succ m=>
   unfold zoc at ew;obtain⟨⟨b,O1⟩,e1,ew⟩:=zi ew;refine⟨Z',J',O',b,O1,A',e1,λZ1 H1 x1 R1=>?_⟩;have xx:=x'.trans x1
   cases b with
   |false=>
    cases ew;exact Sq (k Z1 Y' H1 xx (A'.ext x1 R1))
   |true=>
    refine Sr ⟨λY3 H3=>∃Z3 J3 O3,Ext Z H Z3 H3/\At X.K Z3 H3 Y3 J3 O3/\zoc t p m J3 O3=some o,λY3 H3 q=>⟨m,Yz _,q⟩,?_⟩;dsimp only[cond_true]at ew
    cases eb:p J' O1 with
    |none=>rw[eb]at ew;cases ew
    |some ob=>
     rw[eb]at ew;refine⟨Z1,J',O1,ob,A'.ext x1 R1,eb,?_⟩
     cases ob with
     |next J6 O6=>exact λZ6 Y6 H6 x6 A6=>⟨Z6,J6,O6,xx.trans x6,A6,ew⟩
     |cont J6 O6=>exact λZ6 Y6 H6 x6 A6=>⟨Z6,J6,O6,xx.trans x6,A6,ew⟩
     |brk J6 O6=>cases ew;exact k.ext xx
     |ret d O6=>cases ew;exact k.ext xx
     |exc C fs O6=>cases ew;exact k.ext xx
end
end M
namespace L2
open PySem PySem.Spec PyProof.Rows
section
variable {κ:Type}[DecidableEq κ]
def zqr(kvs:List (κ×V))(k:κ):Option V:=(kvs.find? λkv=>decide (kv.1=k)).map (·.2)
def zJe(kvs:List (κ×V))(k:κ)(v:V):List (κ×V) :=
 if(kvs.any λkv=>decide (kv.1=k))=true then kvs.map (λkv=>if kv.1=k then(kv.1,v) else kv) else kvs++[(k,v)]
def z3q{p:κ×V}{r:List (κ×V)}{k:κ}(e:p.1=k):zqr (p::r) k=some p.2:=by simp[zqr,Xe,e]
def zwr{p:κ×V}{r:List (κ×V)}{k:κ}(e:¬p.1=k):zqr (p::r) k=zqr r k:=by simp[zqr,Xe,e]
def zul(kvs:List (κ×V))(k:κ)(v:V):(zJe kvs k v).length<=kvs.length+1:=by
 unfold zJe
 split
 ·rw[length_map];omega
 ·rw[length_append,length_cons,List.length_nil];omega
def TW.sR{o:Option V}{u:Option Value}(r:TW o u):o.isSome=u.isSome:=by
 cases o with
 |none=>cases u with
  |none=>rfl
  |some _=>exact(show False from r).elim
 |some _=>cases u with
  |none=>exact(show False from r).elim
  |some _=>rfl
def KV.val{kvs:List (κ×V)}{vs:List (κ×Value)}(r:KV kvs vs)(k:κ):TW (zqr kvs k) (valueAt vs k):=by
 unfold KV at r
 induction r with
 |nil=>exact xX
 |@cons p q ps qs h t ih=>
  obtain⟨h1,h2⟩:=h
  by_cases e:p.1=k
  ·have e':q.1=k:=h1.symm.trans e;have b:valueAt (q::qs) k=some q.2:=by simp[valueAt,Xe,e']
   rw[z3q e,b];exact h2
  ·have e':¬q.1=k:=λz=>e (h1.trans z);have b:valueAt (q::qs) k=valueAt qs k:=by simp[valueAt,Xe,e']
   rw[zwr e,b];exact ih
def KV.any{kvs:List (κ×V)}{vs:List (κ×Value)}(r:KV kvs vs)(k:κ):(kvs.any λkv=>decide (kv.1=k))=vs.any λkv=>decide (kv.1=k):=by
 unfold KV at r
 induction r with
 |nil=>rfl
 |cons h t ih=>rw[any_cons,any_cons,ih,h.1]
def KV.repl{kvs:List (κ×V)}{vs:List (κ×Value)}(r:KV kvs vs)(k:κ){y:V}{u:Value}(ry:RelV y u) :
 KV (kvs.map λkv=>if kv.1=k then(kv.1,y) else kv) (vs.map λkv=>if kv.1=k then(kv.1,u) else kv):=by
 unfold KV at r ⊢
 induction r with
 |nil=>exact .nil
 |@cons p q ps qs h t ih=>
  rw[map_cons,map_cons];refine .cons ?_ ih;obtain⟨h1,h2⟩:=h
  by_cases e:p.1=k
  ·rw[if_pos e,if_pos (h1.symm.trans e)];exact⟨h1,ry⟩
  ·rw[if_neg e,if_neg (λz=>e (h1.trans z))];exact⟨h1,h2⟩
def KV.put{kvs:List (κ×V)}{vs:List (κ×Value)}(r:KV kvs vs)(k:κ){y:V}{u:Value}(ry:RelV y u):KV (zJe kvs k y) (stored vs k u):=by
 unfold zJe stored;rw[r.any k]
 by_cases e:(vs.any λkv=>decide (kv.1=k))=true
 ·rw[if_pos e,if_pos e];exact r.repl k ry
 ·rw[if_neg e,if_neg e];exact Paired.snoc r ⟨rfl,ry⟩
def KV.keys{kvs:List (κ×V)}{vs:List (κ×Value)}(r:KV kvs vs):kvs.map (·.1)=vs.map (·.1):=by
 unfold KV at r
 induction r with
 |nil=>rfl
 |cons h t ih=>rw[map_cons,map_cons,ih,h.1]
def KV.length{kvs:List (κ×V)}{vs:List (κ×Value)}(r:KV kvs vs):kvs.length=vs.length:=Paired.length r
end
def zAs{P:yA}{w:yI}{k:Key}{u:Value}(r:RelV (kV k) u):(zkb P w).is k u=true:=by
 cases k with
 |inl i=>obtain⟨t,e⟩:=(show ∃t,u=Value.int i t from r);subst e;exact z5p P w i t
 |inr x=>obtain⟨t,e⟩:=(show ∃t,u=Value.str x t from r);subst e;exact z1p P w x t
def z4z{P:yA}{w:yI}{H:Hp}{h:yT}{a:yc}{kvs:List (Key×V)}(ok:HOk P w H h)(e:H a=some (.dK kvs)):kvs.length<=yD/\(a==sysModules)=false/\∃vs,KV kvs vs/\h.DictOf (zkb P w) a vs :=
 show tG P w H h a (.dK kvs) from ok a _ e
end L2
namespace M
open PySem PySem.Spec PyProof.Rows L2
def zgd(kvs:List (Int×D))(i:Int):Option D:=(kvs.find? λp=>decide (p.1=i)).map (·.2)
def z5l(kvs:List (Int×D))(i:Int)(d:D):List (Int×D):=if(kvs.any λp=>decide (p.1=i))=true then kvs.map (λp=>if p.1=i then(p.1,d) else p) else kvs++[(i,d)]
@[simp] def zyb(O:Mem):D->Option (List (Int×D))
 |.loc n=>match O[n]? with
  |some (.dct kvs)=>some kvs
  |some (.dcf kvs)=>some kvs
  |_=>none
 |_=>none
def RdK(H:Hp)(a:yc)(vs:List (Key×V)):Prop:=H a=some (.dK vs)\/∃o,H a=some (.frz o (.dK vs))
def zNi{P:yA}{w:yI}{H:Hp}{h:yT}{a:yc}{kvs:List (Key×V)}(ok:HOk P w H h)(e:RdK H a kvs):kvs.length<=yD/\(a==sysModules)=false/\∃vs,KV kvs vs/\h.DictOf (zkb P w) a vs:=by
 rcases e with e|⟨o,e⟩
 ·exact z4z ok e
 ·exact(show tG P w H h a (.frz o (.dK kvs)) from ok a _ e).2
section
variable {K:yx}{Z:List yc}{H:Hp}{O:Mem}
def z3f{d:D}{v:V}{kvs:List (Int×D)}(R:tI K Z H O)(r:tx K Z H d v)(e:zyb O d=some kvs):∃p vs,v=.ref p/\RdK H p vs/\vs.map (·.1)=kvs.map (λp=>yP p.1)/\tf K Z H (kvs.map (·.2)) (vs.map (·.2)):=by
 unfold zyb at e
 split at e
 ·split at e
  ·rename_i hm
   cases e;obtain⟨a,e1,e2⟩:=r.tz;obtain⟨vs,e3,q1,q2⟩:=R.at_ _ _ _ e2 hm;exact⟨a,vs,e1,.inl e3,q1,q2⟩
  ·rename_i hm
   cases e;obtain⟨a,e1,e2⟩:=r.tz;obtain⟨o,vs,e3,q1,q2⟩:=R.at_ _ _ _ e2 hm;exact⟨a,vs,e1,.inr ⟨o,e3⟩,q1,q2⟩
  ·cases e
 ·cases e
def zhi:∀{kvs:List (Int×D)} {vs:List (Key×V)} (i:Int),vs.map (·.1)=kvs.map (λp=>yP p.1)->tf K Z H (kvs.map (·.2)) (vs.map (·.2)) ->
 (∀d,zgd kvs i=some d->∃v,zqr vs (yP i)=some v/\tx K Z H d v)/\(zgd kvs i=none->zqr vs (yP i)=none)
 |[],vs,i,h1,h2=>by
  have:vs=[]:=by simpa using h1
  subst this;exact⟨λd h=>(by cases h),λ_=>rfl⟩
 |(j,d)::kvs,vs,i,h1,h2=>by
  cases vs with
  |nil=>simp at h1
  |cons q vs=>
   obtain⟨k,v⟩:=q;rw[map_cons,map_cons,xF]at h1;obtain⟨hk,h1⟩:=h1;have hk:k=yP j:=hk;subst hk;obtain⟨v',r,e,q1,q2⟩:=h2.cons_inv;rw[map_cons,xF]at e;obtain⟨e1,e2⟩:=e;subst e2;have e1:v=v':=e1;subst e1;obtain⟨ih1,ih2⟩:=zhi i h1 q2
   by_cases hj:j=i
   ·subst hj;have a1:zgd ((j,d)::kvs) j=some d:=by simp[zgd]
    have a2:zqr ((yP j,v)::vs) (yP j)=some v:=z3q rfl;rw[a1,a2];exact⟨λd' h=>(by cases h;exact⟨v,rfl,q1⟩),λh=>(by cases h)⟩
   ·have a1:zgd ((j,d)::kvs) i=zgd kvs i:=by simp[zgd,hj]
    have a2:zqr ((yP j,v)::vs) (yP i)=zqr vs (yP i):=zwr (λz=>hj (by simpa using z));rw[a1,a2];exact⟨ih1,ih2⟩
def zki(kvs:List (Int×D))(vs:List (Key×V))(i:Int)(d:D)(v:V)(h:vs.map (·.1)=kvs.map (λp=>yP p.1)):(zJe vs (yP i) v).map (·.1)=(z5l kvs i d).map (λp=>yP p.1):=by
 have hany:(vs.any λkv=>decide (kv.1=yP i))=kvs.any λp=>decide (p.1=i):=by
  have e1:(vs.any λkv=>decide (kv.1=yP i))=(vs.map (·.1)).any λk=>decide (k=yP i):=by rw[any_map];rfl
  rw[e1,h,any_map]
  congr 1
  funext p
  simp
 unfold zJe z5l;rw[hany]
 split
 ·rw[map_map,map_map]
  have e1:(λx:Key×V=>x.1)∘(λkv=>if kv.1=yP i then(kv.1,v) else kv)=λx=>x.1:=by
   funext x;simp only[Function.comp];split<;>rfl
  have e2:(λp:Int×D=>(yP p.1:Key))∘(λp=>if p.1=i then(p.1,d) else p)=λp=>yP p.1:=by
   funext x;simp only[Function.comp];split<;>rfl
  rw[e1,e2];exact h
 ·simp[h]
def zOq:∀(kvs:List (Int×D)) (vs:List (Key×V)) (i:Int) {d:D} {v:V},tx K Z H d v->vs.map (·.1)=kvs.map (λp=>yP p.1)->tf K Z H (kvs.map (·.2)) (vs.map (·.2)) ->
 tf K Z H ((kvs.map λp=>if p.1=i then(p.1,d) else p).map (·.2)) ((vs.map λkv=>if kv.1=yP i then(kv.1,v) else kv).map (·.2))
 |[],vs,i,d,v,r,h1,h2=>by
  have:vs=[]:=by simpa using h1
  subst this;exact .nil
 |(j,e)::kvs,vs,i,d,v,r,h1,h2=>by
  cases vs with
  |nil=>simp at h1
  |cons q vs=>
   obtain⟨k,u⟩:=q;rw[map_cons,map_cons,xF]at h1;obtain⟨hk,h1⟩:=h1;have hk:k=yP j:=hk;subst hk;obtain⟨v',r',e',q1,q2⟩:=h2.cons_inv;rw[map_cons,xF]at e';obtain⟨e1,e2⟩:=e';subst e2;have e1:u=v':=e1;subst e1;have ih:=zOq kvs vs i r h1 q2;simp only[map_cons]
   by_cases hj:j=i
   ·subst hj;rw[if_pos rfl,if_pos rfl];exact .cons r ih
   ·rw[if_neg hj,if_neg (λz=>hj (by simpa using z))];exact .cons q1 ih
def z8u{kvs:List (Int×D)}{vs:List (Key×V)}{i:Int}{d:D}{v:V}(r:tx K Z H d v)(h1:vs.map (·.1)=kvs.map (λp=>yP p.1))(h2:tf K Z H (kvs.map (·.2)) (vs.map (·.2))) :
 tf K Z H ((z5l kvs i d).map (·.2)) ((zJe vs (yP i) v).map (·.2)):=by
 have hany:(vs.any λkv=>decide (kv.1=yP i))=kvs.any λp=>decide (p.1=i):=by
  have e1:(vs.any λkv=>decide (kv.1=yP i))=(vs.map (·.1)).any λk=>decide (k=yP i):=by rw[any_map];rfl
  rw[e1,h1,any_map]
  congr 1
  funext p
  simp
 unfold zJe z5l;rw[hany]
 split
 ·exact zOq kvs vs i r h1 h2
 ·simp only[map_append,map_cons,map_nil];exact h2.append (.cons r .nil)
variable {X:Cx}{a b c e:yE}{es:List yE}{G ψ χ:FE}{pos:xp}
@[simp] def zft:φ2:=λx y O=>match y with
 |.int i=>(zyb O x).bind λkvs=>(zgd kvs i).bind λd=>some (d,O)
 |_=>none
def z2x{U:List (yc×YT)}{s:yd}{Y:L2.St}{H:Hp}{p:yc}{vs:List (Key×V)}{k:Key}{v:V}{u:Value}{A:yK}{E:Value->yd->Prop}{Q:Value->yd->Prop}(I:Inv X U Y H s)(e:RdK H p vs)(l:zqr vs k=some v)(ry:RelV (kV k) u)
 (h:∀w' s',Inv X U Y H s'->RelV v w'->Q w' s'):yn (yv X.prog X.w) A (getItem (.ref p) u) Q E s:=by
 obtain⟨z,hd,us,rel,dd⟩:=zNi I.hok e;obtain⟨w',hw,rw'⟩:=TW.some_of (v:=v) (o:=valueAt us k) (by rw[<-l];exact rel.val k);exact wpAny_getItem_of (zAs ry) dd.mapOf hw (h w' _ (I.tok _) rw')
def ixD:IxR X (rM X.K zft):=by
 intro value slice U s Y H x y v u Q I rx ry ⟨Z,dx,dy,O,d,O',r1,r2,R,e,k⟩ hs;unfold zft at e
 split at e
 ·rename_i i
  obtain⟨kvs,e1,e⟩:=zi e;obtain⟨d',e2,e⟩:=zi e;cases e;obtain⟨p,vs,rfl,hq,q1,q2⟩:=z3f R r1 e1;obtain⟨w',e3,rw'⟩:=(zhi i q1 q2).1 _ e2;cases rx;rw[r2.int_inv]at ry
  have hT:s.TypeIs (.ref p) "dict":=by
   obtain⟨_,_,us,_,dd⟩:=zNi I.hok hq;exact dd.typeIs
  unfold subscriptTail;refine ya ?_;rw[getitemInPython_of_ne hT.not_modules];refine ya (xo hT PySem.F.slot_dict_getitem.lookup ?_)
  have fin:yn (yv X.prog X.w) X.A (subscripted slice false (.ref p) u) (λr s₃=>yn (yv X.prog X.w) X.A (letTemporaryGo value (.ref p) r >>= λ_=>pure r) (EP X U Y Q) X.xe s₃) X.xe s:=by
   rw[hs];exact wpAny_operating (z2x I hq e3 ry λw2 s2 I2 r2=>ya (wpAny_letTemporaryGo (yf ⟨_,H,I2,r2,k Z H _ Ext.refl R rw'⟩)))
  first
   |exact yf (ya fin)
   |exact ya (yf (ya fin))
   |exact ya fin
 ·cases e
def z0m(ha:ME X a G)(hb:ME X b ψ)(hs:zJq b:=by intro _ _;rfl):ME X (.Subscript a b pos) (zH zft G ψ) :=
 zfe (zQz ixD ha hb hs) λ_ _ _ _ _ _ _ _ A e k=>z1u A e k
@[simp] def zcC:φ2:=λx y O=>match x with
 |.int i=>(zyb O y).bind λkvs=>some (.bl (zgd kvs i).isSome,O)
 |_=>none
@[simp] def zRl:φ2:=λx y O=>match x with
 |.int i=>(zyb O y).bind λkvs=>some (.bl (!(zgd kvs i).isSome),O)
 |_=>none
def zUz{U:List (yc×YT)}{s:yd}{Y:L2.St}{H:Hp}{p:yc}{vs:List (Key×V)}{k:Key}{u:Value}{A:yK}{E:Value->yd->Prop}{Q:Value->yd->Prop}(I:Inv X U Y H s)(e:RdK H p vs)(ry:RelV (kV k) u)
 (h:∀s',Inv X U Y H s'->Q (.bool (zqr vs k).isSome) s'):yn (yv X.prog X.w) A (Yx .In u (.ref p)) Q E s:=by
 obtain⟨z,hd,us,rel,dd⟩:=zNi I.hok e;refine wpAny_in_of (zAs ry) hd dd.mapOf ?_;rw[<-(rel.val k).sR];exact h _ (I.tok _)
def zHr{K:yx}{Z:List yc}{H:Hp}{kvs:List (Int×D)}{vs:List (Key×V)}(i:Int)(q1:vs.map (·.1)=kvs.map (λp=>yP p.1))(q2:tf K Z H (kvs.map (·.2)) (vs.map (·.2))):(zqr vs (yP i)).isSome=(zgd kvs i).isSome:=by
 obtain⟨h1,h2⟩:=zhi i q1 q2
 cases e:zgd kvs i with
 |none=>rw[h2 e];rfl
 |some d=>
  obtain⟨v,ev,_⟩:=h1 d e;rw[ev];rfl
def zmx:OpM X (Yx .In) zcC:=by
 refine OpM.of λU s Y H x y v u Q I rx ry Z dx dy O d O' r1 r2 R e k=>?_;unfold zcC at e
 split at e
 ·rename_i i
  obtain⟨kvs,e1,e⟩:=zi e;cases e;obtain⟨p,vs,rfl,hq,q1,q2⟩:=z3f R r2 e1;cases ry;rw[r1.int_inv]at rx;refine zUz (k:=yP i) I hq rx λs' I'=>⟨.bl _,H,I',rfl,?_⟩
  rw[zHr i q1 q2];exact k Z H _ Ext.refl R .bl
 ·cases e
def zSr:OpM X (Yx .NotIn) zRl:=by
 refine OpM.of λU s Y H x y v u Q I rx ry Z dx dy O d O' r1 r2 R e k=>?_;unfold zRl at e
 split at e
 ·rename_i i
  obtain⟨kvs,e1,e⟩:=zi e;cases e;obtain⟨p,vs,rfl,hq,q1,q2⟩:=z3f R r2 e1;cases ry;rw[r1.int_inv]at rx;obtain⟨z,hd,us,rel,dd⟩:=zNi I.hok hq;refine wpAny_notIn_of (zAs (k:=yP i) rx) hd dd.mapOf ⟨.bl _,H,I.tok _,rfl,?_⟩;rw[<-(rel.val (yP i)).sR,zHr i q1 q2];exact k Z H _ Ext.refl R .bl
 ·cases e
@[simp] def zaz(G ψ:FE):FG:=λd J O=>(G J O).bind λp=>(ψ J p.2).bind λq=>match p.1,q.1 with
 |.loc n,.int i=>match q.2[n]? with
  |some (.dct kvs)=>bif decide (kvs.length<=1000000) then some (J,q.2.set n (.dct (z5l kvs i d))) else none
  |_=>none
 |_,_=>none
def z1v:zEB X (λo i v H Q=>∃p vs k,o=.ref p/\i=kV k/\H p=some (.dK vs)/\vs.length<yD/\Q (upd H p (.dK (zJe vs k v)))):=by
 intro U s Y H o i v ov iv u Q I ro ri rv ⟨p,vs,k,e1,e2,e3,hl,q⟩;subst e1 e2;cases ro;obtain⟨z,hd,us,rel,dd⟩:=z4z I.hok e3;have hz:us.length<=yD:=by rw[<-rel.length];exact z
 have hl':(zJe vs k v).length<=yD:=by have:=zul vs k v;omega
 refine wpAny_setItem_pairs (hsz:=hz) (zAs ri) dd λh' dd' hs=>⟨_,I.write (x:=p) (e:=p) (by rw[e3];exact xX) (.inl rfl) (λb q hb z=>(hs.2 b hb).trans z) ?_ (show tG X.prog X.w _ h' p (.dK (zJe vs k v)) from⟨hl',hd,_,rel.put k rv,dd'⟩),q⟩
 obtain⟨q,_,_,hq,_⟩:=dd';exact⟨q,hq⟩
def zPq{o i:yE}(ho:ME X o G)(hi:ME X i ψ)(ha:∀v,assign (.Subscript o i pos) X.env v=(do
 let ov <-xt [v] (Ye o X.env)
 let iv <-xt [v,ov] (Ye i X.env)
 standAt pos
 xt [v,ov,iv] (setItem ov iv v)
 release [v,ov,iv] []):=by intro _;rfl):MG X (.Subscript o i pos) (zaz G ψ) :=
 mg_of (zVw ho hi z1v ha) λZ J O d J' O' v Y H Q A q e k=>by
  obtain⟨⟨x,O1⟩,e1,e⟩:=zi e;obtain⟨⟨y,O2⟩,e2,e⟩:=zi e;refine⟨Z,J,O,x,O1,A,e1,λZ1 H1 v1 x1 R1 r1=>?_⟩;refine⟨Z1,J,O1,y,O2,A.ext x1 R1,e2,λZ2 H2 v2 x2 R2 r2=>?_⟩;dsimp only at e
  split at e
  ·rename_i n j _
   split at e
   ·rename_i kvs hm
    obtain⟨h1,e⟩:=zW e;have h1:=of_decide_eq_true h1;cases e;obtain⟨ad,rfl,hr⟩:=(r1.ext x2).tz;obtain⟨vs,hv,q1,q2⟩:=R2.at_ _ _ _ hr hm;have hmu:Mut (H2 ad):=by rw[hv];trivial
    have hlen:vs.length=kvs.length:=by
     have:=congrArg List.length q1;simpa using this
    have hmi:=Tv;refine⟨ad,vs,yP j,rfl,r2.int_inv,hv,by omega,?_⟩;have xx:=x1.trans x2;have R3:=R2.wr (o:=.dK (zJe vs (yP j) v)) (lo:=.dct (z5l kvs j d)) hmu hr ⟨_,zF,zki kvs vs j d v q1,tf.ext (Ext.wr hmu) (z8u (q.ext xx) q1 q2)⟩;exact k Z2 Y _ (xx.trans (Ext.wr hmu)) (A.ext (xx.trans (Ext.wr hmu)) R3)
   ·cases e
  ·cases e
def zsh(kvs:List (Int×D)):List D:=kvs.map λp =>.int p.1
@[simp] def zpp:GL:=λds O=>match ds with
 |[x]=>(zyb O x).bind λkvs=>some (.loc O.length,O++[.lst (zsh kvs)])
 |_=>none
def zUt{P:yA}{w:yI}{H:Hp}{h:yT}{p:yc}{vs:List (Key×V)}(ok:HOk P w H h)(e:RdK H p vs):∃us ep,KV vs us/\h.DictAt (zkb P w) p us ep:=by
 obtain⟨_,_,us,rel,o,es,ep,h1,h2,h3,h4⟩:=zNi ok e;exact⟨us,ep,rel,o,es,h1,h2,h3,h4⟩
def zPl{P:yA}{w:yI}:∀{vs:List (Key×V)} {us:List (Key×Value)} {its:List Value},KV vs us->its.length=us.length->(∀(j:Nat)(v:Value),its[j]?=some v->∃(k:Key)(x:Value),us[j]?=some (k,x)/\(zkb P w).is k v=true)->Vals (vs.map λp=>kV p.1) its
 |[],us,its,r,hl,h=>by
  cases r;have:its=[]:=List.length_eq_zero_iff.mp (by simpa using hl);subst this;exact .nil
 |p::vs,us,its,r,hl,h=>by
  cases r with
  |@cons _ q _ qs hq t=>
   cases its with
   |nil=>simp at hl
   |cons i its=>
    refine .cons ?_ (zPl t (by simpa using hl) λj v e=>by
     obtain⟨k,x,h1,h2⟩:=h (j+1) v (by simpa using e);exact⟨k,x,by simpa using h1,h2⟩)
    obtain⟨k,x,h1,h2⟩:=h 0 i rfl;have e:q=(k,x):=by simpa using h1
    have ek:p.1=k:=by rw[hq.1,e]
    show RelV (kV p.1) i;rw[ek]
    cases k with
    |inl n=>
     rcases znb ((zyj P w _ _).symm.trans h2) with ⟨j,t,e1,e2⟩|⟨j,t,e1,e2⟩
     ·cases e1;exact⟨t,e2⟩
     ·cases e1
    |inr n=>
     rcases znb ((zyj P w _ _).symm.trans h2) with ⟨j,t,e1,e2⟩|⟨j,t,e1,e2⟩
     ·cases e1
     ·cases e1;exact⟨t,e2⟩
def zcq(hc:X.calm=true):tX X (.type "list") zpp:=by
 refine tX.of λU s Y H xs us Q I r Z ds O d O' r1 R e k=>?_;unfold zpp at e
 split at e
 ·obtain⟨kvs,e1,e⟩:=zi e;cases e;obtain⟨v,rr,rfl,q1,q2⟩:=r1.cons_inv;rw[q2.nil_inv]at r;obtain⟨p,vs,rfl,hq,w1,w2⟩:=z3f R q1 e1;obtain⟨u,rfl,ru⟩:=vals1 r;cases ru;obtain⟨hz,hd,_⟩:=zNi I.hok hq;obtain⟨us',ep,rel,da⟩:=zUt I.hok hq;have hl:=rel.length;refine W.kdl_call (W.kdl_dict hd) (I.ok.hd hc) da (by omega) λh' tk acc' c' kp e2 hi=>?_;obtain⟨hi1,hi2⟩:=hi;have hv:=zPl (P:=X.prog) (w:=X.w) (its:=acc'.toList) rel (by simpa using hi1) λj v e=>hi2 j v (by simpa using e)
  have hkv:(vs.map λp=>kV p.1)=(kvs.map λp=>V.int p.1):=by
   have:(vs.map (·.1)).map kV=(kvs.map λp=>(yP p.1:Key)).map kV:=by rw[w1]
   rw[map_map,map_map]at this;exact this
  rw[hkv]at hv
  have hlk:kvs.length=vs.length:=by
   have:=congrArg List.length w1;simpa using this.symm
  have hf:=I.fresh;refine⟨.ref s.heap.objs.size,_,I.laid (t':=tk) kp (yi _) (show tG X.prog X.w _ h' _ (.lst _) from⟨by simp;omega,acc'.toList,c',hv,by simpa using e2⟩),rfl,k _ _ _ (Ext.push hf) (R.push hf ⟨_,zF,?_⟩) (.loc (zzb R))⟩;have hr:=λZ H=>@zAf X.K Z H (kvs.map (·.1));simp only[map_map]at hr;exact hr _ _
 ·cases e
end
def Itd(a:yc)(o:YT)(vs:List (Key×V)):It:=⟨λi H=>H a=some (.frz o (.dK vs))/\i<vs.length,λi H x H'=>H'=H/\∃p,vs[i]?=some p/\x=kV p.1,λi H=>H a=some (.frz o (.dK vs))/\vs.length<=i⟩
def z4q{P:yA}{w:yI}{H:Hp}{h:yT}{a:yc}{o:YT}{vs:List (Key×V)}{es:Array DictEntry}{ep:Nat}(ok:HOk P w H h)(e:H a=some (.frz o (.dK vs)))(hd:o.data=.dict es ep):∃us,KV vs us/\h.DictAt (zkb P w) a us ep:=by
 obtain⟨h0,_,_,us,rel,o',es',ep',h1,h2,h3,h4⟩:=(show tG P w H h a (.frz o (.dK vs)) from ok a _ e)
 rw[h0]at h1;cases h1;rw[hd]at h3;cases h3;exact⟨us,rel,o,es,h0,h2,hd,h4⟩
def z6t{P:yA}{w:yI}{K:yx}{tg:yE}(a it:yc)(o:YT)(vs:List (Key×V))(es:Array DictEntry)(ep:Nat)(hd:o.data=.dict es ep):Turn P w K tg (Itd a o vs) [it] it (λi h=>h.IsKeyIter it a i vs.length ep) where
 mem:=by simp
 obj:=λi h st b hb=>by
  have e:b=it:=by simpa using hb
  subst e;obtain⟨o,e,c,d⟩:=st;exact⟨o,e,λv z=>by rw[d]at z;cases z⟩
 keep:=λi h h' st k=>st.at λo e=>k it (by simp) o e
 item:=by
  intro X hP hw hK hc i U s Y H E I hf st hg;subst hP hw hK;obtain⟨hq,hi⟩:=hg;obtain⟨us,rel,da⟩:=z4q I.hok hq hd;have hl:=rel.length;obtain⟨f0,f1,f2,f3,f4,f5⟩:=hf it (by simp);have hx:us[i]?=some ((us[i]'(by omega)).1,(us[i]'(by omega)).2):=by simp[show i<us.length by omega]
  rw[hl]at st ⊢;refine wpAny_pyNext_dict_item st da hx λkey h' hkey st' sb=>?_;have I1:Inv X U Y H {s with heap:=h' }:=I.turned (t':=s.toks) (λb o hb e=>(sb.2 b hb).trans e) f0 f1 f3 f4 f5;obtain⟨o',e',c',d'⟩:=id st';have hk:vs[i]?=some vs[i]:=by simp[hi]
  have hkk:(vs[i]).1=(us[i]'(by omega)).1:=by
   have h1:(vs.map (·.1))[i]?=(us.map (·.1))[i]?:=by rw[rel.keys]
   simp only[yg,hk,yq (show i<us.length by omega),xE,xm]at h1;exact h1
  have rk:RelV (kV (vs[i]).1) key:=by
   rw[hkk];rcases znb ((zyj X.prog X.w _ _).symm.trans hkey) with ⟨j,t,e1,e2⟩|⟨j,t,e1,e2⟩
   ·rw[e1];exact⟨t,e2⟩
   ·rw[e1];exact⟨t,e2⟩
  exact⟨key,rfl,zrv (s:={s with heap:=h' }) e' c' d' (by decide) ⟨kV (vs[i]).1,H,I1,rk,⟨rfl,_,hk,rfl⟩,st',λb hb=>(hf b hb).1⟩⟩
 done:=by
  intro X hP hw hK hc i U s Y H E I hf st hg;subst hP hw hK;obtain⟨hq,hi⟩:=hg;obtain⟨us,rel,da⟩:=z4q I.hok hq hd;have hl:=rel.length;obtain⟨f0,f1,f2,f3,f4,f5⟩:=hf it (by simp);rw[hl]at st;exact wpAny_pyNext_dict_end (I.ok.hd hc) st da (by simp;omega) λh' eb=>⟨rfl,I.turned (t':=s.toks) (λb o hb e=>eb b o hb e) f0 f1 f3 f4 f5⟩
 self:=λ_ _ _ _ _ st h=>wpAny_pyIter_keyiter st h
section
variable {X:Cx}{a b c e:yE}{es:List yE}{G ψ χ:FE}{pos:xp}{tg:yE}
def znC(tl:TE):TI:=λY H R=>tl Y H λx H1=>∃p vs,x=.ref p/\((H1 p=some (.dK vs)/\∀o,R (Itd p o vs) (upd H1 p (.frz o (.dK vs))))\/∃o,H1 p=some (.frz o (.dK vs))/\R (Itd p o vs) H1)
def zDx{l:yE}{tl:TE}(hl:PE X l tl):PI X tg l (znC tl):=by
 intro U s Y H R I h;refine thn (hl U s Y H _ I h) λv s1 ⟨x,H1,I1,r1,q1⟩=>?_;obtain⟨p,vs,e,q⟩:=q1;subst e;cases r1
 have fin:∀(H2:Hp)(o:YT),Inv X U Y H2 s1->H2 p=some (.frz o (.dK vs))->R (Itd p o vs) H2->yn (yv X.prog X.w) X.A (pyIter (.ref p)) (PIE X U Y tg R) X.xe s1:=λH2 o I2 e2 q2=>by
  obtain⟨h0,hz,hd,us,rel,o',es,ep,h1,h2,h3,h4⟩:=(show tG X.prog X.w H2 s1.heap p (.frz o (.dK vs)) from I2.hok p _ e2)
  rw[h0]at h1;cases h1;have da:s1.heap.DictAt (zkb X.prog X.w) p us ep:=⟨o,es,h0,h2,h3,h4⟩
  refine wpAny_pyIter_dict hd da ?_;refine⟨s1.heap.objs.size,[s1.heap.objs.size],_,_,H2,rfl,I2.kept (t':=s1.toks) λb o e=>yb _ e,z6t p _ o vs es ep h3,⟨_,yp _ rfl,rfl,by rw[rel.length];rfl⟩,λb hb=>?_,q2⟩;have e:b=s1.heap.objs.size:=by simpa using hb
  subst e;exact I2.Sm (yi _) (I2.hok.fresh (yi _))
 rcases q with ⟨e1,q⟩|⟨o,e1,q⟩
 ·have hok:=I1.hok p _ e1;obtain⟨hz,hd,us,rel,o,es,ep,h1,h2⟩:=(show tG X.prog X.w H1 s1.heap p (.dK vs) from hok)
  have I2:Inv X U Y (upd H1 p (.frz o (.dK vs))) {s1 with heap:=s1.heap,toks:=s1.toks }:=by
   refine I1.write (x:=p) (e:=p) (by rw[e1];exact xX) (.inl rfl) (λb u _ e=>e) ⟨o,h1⟩ ?_;exact⟨h1,hz,hd,us,rel,o,es,ep,h1,h2⟩
  exact fin _ o I2 zF (q o)
 ·exact fin H1 o I1 e1 q
@[simp] def z6l(G:FE):FI:=λJ O=>(G J O).bind λp=>match p.1 with
 |.loc n=>match p.2[n]? with
  |some (.dct kvs)=>some (zsh kvs,yes,p.2.set n (.dcf kvs))
  |some (.dcf kvs)=>some (zsh kvs,yes,p.2)
  |_=>none
 |_=>none
def z3w{K:yx}{Z:List yc}{H:Hp}{p:yc}{o:YT}{vs:List (Key×V)}{kvs:List (Int×D)}(h:H p=some (.frz o (.dK vs)))(q1:vs.map (·.1)=kvs.map (λp=>yP p.1)):Su K (Itd p o vs) Z H (zsh kvs) yes:=by
 have hlen:vs.length=kvs.length:=by
  have:=congrArg List.length q1;simpa using this
 have hkl:(zsh kvs).length=kvs.length:=by simp[zsh]
 refine⟨λZ' H' O' i x R _ hi=>⟨x.frz _ _ _ h,by rw[hkl]at hi;omega⟩,λZ' H' O' i x H'' d x' R _ e ⟨y1,q,y2,y3⟩=>⟨y1▸Ext.refl,y1▸R,y1▸?_⟩,λZ' H' O' x R _=>⟨x.frz _ _ _ h,by rw[hkl];omega⟩⟩;have h1:(vs.map (·.1))[i]?=(kvs.map (λp=>(yP p.1:Key)))[i]?:=by rw[q1]
 rw[yg,yg,y2]at h1;unfold zsh at e;rw[yg]at e
 cases hk:kvs[i]? with
 |none=>rw[hk]at e;cases e
 |some z=>
  rw[hk]at e h1;cases e;have h1:q.1=yP z.1:=by simpa using h1
  rw[y3,h1];exact .int
def zSp(h:ME X a G):MI X tg a (z6l G) :=
 zBt (zDx h) λZ J O Y H ds ok O' R A e k=>by
  obtain⟨⟨x,O1⟩,e1,e⟩:=zi e;refine⟨Z,J,O,x,O1,A,e1,λZ1 H1 v1 x1 R1 r1=>?_⟩;dsimp only at e
  split at e
  ·split at e
   ·rename_i hm
    cases e;obtain⟨p,rfl,ep⟩:=r1.tz;obtain⟨vs,e3,q1,q2⟩:=R1.at_ _ _ _ ep hm;have hmu:Mut (H1 p):=by rw[e3];trivial
    refine⟨p,vs,rfl,.inl ⟨e3,λo=>?_⟩⟩;exact k Z1 _ _ (x1.trans (Ext.wr hmu)) (R1.wr hmu ep ⟨o,vs,zF,q1,tf.ext (Ext.wr hmu) q2⟩) (z3w zF q1)
   ·rename_i hm
    cases e;obtain⟨p,rfl,ep⟩:=r1.tz;obtain⟨o,vs,e3,q1,q2⟩:=R1.at_ _ _ _ ep hm;exact⟨p,vs,rfl,.inr ⟨o,e3,k Z1 _ _ x1 R1 (z3w e3 q1)⟩⟩
   ·cases e
  ·cases e
def zbv{prog:yA}{w:yI}{A:yK}{E:Value->yd->Prop}{s:yd}{Q:Int->yd->Prop}(h:Q 0xFCA86420 {s with toks:=s.toks+1 }):yn (yv prog w) A (pyHash .none) Q E s:=by
 unfold pyHash;have hv:[Yn].any Value.onHeap=false:=rfl;refine ya ?_;rw[cRoomFor,if_neg (by rw[hv];exact yB)];refine yf ?_;refine ya (xo (typeIs_none s) PySem.F.slot_NoneType_hash.lookup ?_);show yn _ _ (if(some (xv "NoneType.__hash__")==some Yn)=true then _ else _) Q E s;rw[if_neg (by rw[beq_builtin_none];exact yB)];refine ya (xo (typeIs_none s) PySem.F.slot_NoneType_hash.lookup ?_);show yn _ _ (callSpecialIfBoundUnlessNone? .none "__hash__" _ >>= _) Q E s;refine ya (wpAny_callSpecialIfBoundUnlessNone?_slot (typeIs_none s) PySem.F.slot_NoneType_hash (Yc PySem.F.slot_NoneType_hash (typeIs_none s) PySem.F.entry_NoneType_hash ?_ (PySem.F.args_NoneType_hash_1 _)));show yn _ _ (do ret (<-mkInt 0xFCA86420)) _ _ s;refine wpAny_ret_mkInt ?_;show yn _ _ (if(decide (-(2:Int)^63<=0xFCA86420)&&decide ((0xFCA86420:Int)<2^63))=true then _ else _) Q E _;rw[if_pos (by decide)];exact yf h
def zps{i:Int}(h0:0<=i)(h1:i<1000):hashInt i=i:=by
 have e:(i.natAbs%(2^61-1):Nat)=i.natAbs:=Nat.mod_eq_of_lt (by omega)
 have hr:rawHash i=i:=by
  unfold rawHash;dsimp only;rw[if_neg (by omega:¬i<0)];have:((i.natAbs%(2^61-1:Nat):Nat):Int)=i:=by rw[e];omega
  rw[show((i.natAbs:Int)%((2^61-1:Nat):Int))=i by rw[<-Int.natCast_emod];exact this];rw[if_neg (by simp;omega)]
 unfold hashInt;rw[hr,if_neg (by simp;omega)]
def z7o:Key->Bool
 |.inl i=>decide (0<=i/\i<1000)
 |.inr _=>false
def zel{P:yA}{w:yI}:∀{es:List DictEntry} {us:List (Key×Value)},Pairs (zkb P w) es us->(∀e∈es,∃k,(zkb P w).is k e.key=true/\e.hash=(zkb P w).hash k)->(us.all λq=>z7o q.1)=true->∀e∈es,(e.hash==0xFCA86420)=false
 |_,_,.nil,_,_=>λe he=>by cases he
 |_,_,.cons (kv:=kv) hk hv t,hh,hs=>λe he=>by
  rw[all_cons,yH]at hs;rcases List.mem_cons.mp he with rfl|he
  ·obtain⟨k',h1,h2⟩:=hh e mem_cons_self;have ek:=(zkb P w).inj _ _ _ hk h1;rw[h2,<-ek];have hsm:z7o kv.1=true:=hs.1
   cases hkv:kv.1 with
   |inl i=>
    rw[hkv]at hsm;have hi:=of_decide_eq_true (show decide (0<=i/\i<1000)=true from hsm);show(hashInt i==0xFCA86420)=false;rw[zps hi.1 hi.2];simp;omega
   |inr x=>rw[hkv]at hsm;cases hsm
  ·exact zel t (λe he=>hh e (mem_cons_of_mem _ he)) hs.2 e he
def zfy{prog:yA}{w:yI}{A:yK}{E:Value->yd->Prop}{s:yd}{p:yc}{us:List (Key×Value)}{Q:Value->yd->Prop}(hd:(p==sysModules)=false)(dd:s.heap.DictOf (zkb prog w) p us)(hs:(us.all λq=>z7o q.1)=true)
 (h:Q (.bool false) {s with toks:=s.toks+1 }):yn (yv prog w) A (Yx .In .none (.ref p)) Q E s:=by
 obtain⟨o,es,ep,ho,hx,hdat,hk,hp,hn⟩:=id dd;have hno:=zel hp (λe he=>hk e (by simpa using he)) hs
 have hpl:placesWithHash es.size (λi=>es[i]?.map (·.hash)) 0xFCA86420=[]:=by
  unfold placesWithHash;rw[List.filter_eq_nil_iff];intro i hi;have hi:i<es.size:=by simpa using hi
  dsimp only;rw[Array.getElem?_eq_getElem hi];have:=hno es[i] (by simp);simpa using this
 show yn _ _ (do return .bool (<-contains (.ref p) .none)) Q E s;refine ya ?_;unfold contains
 try with_reducible refine yQ ?_
 refine ya (xo dd.typeIs slot_dict_contains.lookup ?_);show yn _ _ (if(some (xv "dict.__contains__")==some Yn)=true then _ else _) _ E s;rw[if_neg (by rw[beq_builtin_none];exact yB)];refine ya (wpAny_callSpecialUnlessNone?_slot (name:=YW "__contains__") dd.typeIs slot_dict_contains (Yc slot_dict_contains dd.typeIs entry_dict_contains ?_ (args_dict_contains _ _)));show yn _ _ (dictGet p .none >>= _) _ _ s;refine ya ?_;unfold dictGet
 try with_reducible refine yQ ?_
 refine ya (zbv (ya ?_));unfold dictFind
 try with_reducible refine yQ ?_
 refine ya (wpAny_dictEntries (s:={s with toks:=s.toks+1 }) ho hdat ?_);dsimp only;rw[hpl];rw[if_pos (by rfl)];unfold dictWalkPlain;refine ya ?_;rw[List.forIn_nil];refine yf ?_;refine yf (yf ?_);show yn _ _ (Builtin.Dict.pendingKey? p .none >>= _) _ _ _;exact ya (wpAny_pendingKey_other hd (yf ⟨_,rfl,xG (yf h)⟩))
@[simp] def zRo:φ2:=λx y O=>match x with
 |.int i=>(zyb O y).bind λkvs=>some (.bl (zgd kvs i).isSome,O)
 |.non=>(zyb O y).bind λkvs=>bif kvs.all (λp=>decide (0<=p.1/\p.1<1000)) then some (.bl false,O) else none
 |_=>none
def zBr:OpM X (Yx .In) zRo:=by
 refine OpM.of λU s Y H x y v u Q I rx ry Z dx dy O d O' r1 r2 R e k=>?_;unfold zRo at e
 split at e
 ·rename_i i
  exact zmx U s Y H x y v u Q I rx ry ⟨Z,.int i,dy,O,d,O',r1,r2,R,e,k⟩
 ·obtain⟨kvs,e1,e⟩:=zi e;obtain⟨hsm,e⟩:=zW e;cases e;obtain⟨p,vs,rfl,hq,q1,q2⟩:=z3f R r2 e1;cases ry;rw[r1.tK]at rx;cases rx;obtain⟨z,hd,us,rel,dd⟩:=zNi I.hok hq;refine zfy hd dd ?_ ⟨.bl false,H,I.tok _,rfl,k Z H _ Ext.refl R .bl⟩;have e1:(us.all λq=>z7o q.1)=(us.map (·.1)).all z7o:=by rw[List.all_map];rfl
  rw[e1,<-rel.keys,q1,List.all_map];exact hsm
 ·cases e
variable {prog:yA}{w:yI}{A:yK}{E:Value->yd->Prop}{s:yd}
def zqs:Xr (.type "list_reverseiterator") "__len__"=pure none:=by rw[typeLookup_type,Xj];kernel_rfl
def zHv:Xr (.type "list_reverseiterator") "__length_hint__"=pure (some (.builtin "list_reverseiterator.__length_hint__")):=by rw[typeLookup_type,Xj];kernel_rfl
def zcw{r:yc}{Q:Bool->yd->Prop}(hT:s.TypeIs (.ref r) "list_reverseiterator")(h:Q false s):yn (yv prog w) A (xu (.ref r)) Q E s:=by
 unfold xu;refine ya (xo hT zqs ?_);show yn _ _ (specialOf (yG r) (YW "__length_hint__") >>= _) _ _ _;refine ya (xo hT zHv ?_);generalize hid:("list_reverseiterator.__length_hint__":String)=id0
 wp_delta
 rw[show splitId id0=some ("list_reverseiterator","__length_hint__") from by subst hid;decide +kernel];subst hid;refine ya (Xz (T:="list_reverseiterator") (b:=true) hT (by rw[isSubtype_type];kernel_rfl) ?_);refine xa (λhab=>absurd hab (by decide)) (λ_=>?_);refine xa (λ_=>?_) (λhab=>absurd (by decide +kernel) hab);refine xa (λhab=>absurd hab (by decide +kernel)) (λ_=>?_);exact yf h
def zEw{I l:yc}{items:Array Value}{Q:Value->yd->Prop}(hh:A.handled=none)(hne:l≠I)(hI:s.heap.IsRevIter I l ((items.size:Int)-1))(hl:s.heap.IsList l items)(hn:items.size<=yD)
 (hQ:∀h' tk acc' c',(∀b o,b≠I->s.heap.get? b=some o->h'.get? b=some o)->h'.get? s.heap.objs.size=some {cls:=.type "list",dict:=none,data:=.seq acc' c',slots:=#[]}->ItemsOf (λi v=>items[items.size-1-i]?=some v) acc' items.size->Q (.ref s.heap.objs.size) {s with heap:=h',toks:=tk }) :
 yn (yv prog w) A (call (.type "list") [.ref I]) Q E s:=by
 have hIlt:I<s.heap.objs.size:=by obtain⟨o,ho,_⟩:=hI;exact yk ho
 have hllt:l<s.heap.objs.size:=by obtain⟨o,ho,_⟩:=hl;exact yk ho
 refine callType_codes (Q₁:=λobj s₁=>obj=.ref s.heap.objs.size/\s₁ = {s with heap:=s.heap.push {cls:=.type "list",data:=.seq #[]}}) PySem.F.called_list (PySem.F.typeCall_list_1 _) PySem.F.entry_list_init (code_list_new _ ⟨rfl,rfl⟩) λobj s₁ h₁=>?_;obtain⟨rfl,rfl⟩:=h₁;generalize hS0:s.heap.objs.size=S;have hSI:S≠I:=by rw[<-hS0];exact yW hIlt
 have hSl:S≠l:=by rw[<-hS0];exact yW hllt
 have hS:(s.heap.push {cls:=.type "list",data:=.seq #[]}).get? S=some {cls:=.type "list",data:=.seq #[]}:=by rw[<-hS0];exact yp _ rfl
 refine⟨⟨_,hS,rfl⟩,PySem.F.args_list_init_2 _ _,?_⟩;have oldS:∀b o,s.heap.get? b=some o->b≠S:=λb o e=>by rw[<-hS0];exact yu (yk e)
 have W:=(Walks.listRev (prog:=prog) (w:=w) (A:=A.in1.in1) hh I l hne items).toS;show yn _ _ (do let old <-Builtin.List.listItems (.ref S);Builtin.List.listUpdate (.ref S) (λ_=>#[]);letGo old.toList.reverse;Yy (.ref S) (.ref I) .none) _ _ _;refine ya ?_;unfold Builtin.List.listItems;refine ya (wpAny_seqItems hS rfl (yf ?_));show yn _ _ (updateSeq S (λ_=>#[]) >>= λ_=>letGo (#[]:Array Value).toList.reverse >>= λ_=>Yy (.ref S) (.ref I) .none) _ _ _;refine ya (wpAny_updateSeq hS rfl ?_);have hS2:=yN (xY (λ_=>(#[]:Array Value))) hS rfl;generalize hh2:(s.heap.push {cls:=.type "list",data:=.seq #[]}).update S (xY (λ_=>(#[]:Array Value)))=h2 at hS2 ⊢
 have k2:∀b o,s.heap.get? b=some o->h2.get? b=some o:=λb o e=>by
  rw[<-hh2];exact(Yh _ _ (yV (oldS b o e))).trans (yb _ e)
 refine ya (wpAny_letGo ?_);have hI2:h2.IsRevIter I l ((items.size:Int)-1):=hI.at λo e=>k2 _ _ e;have hl2:h2.IsList l items:=hl.at λo e=>k2 _ _ e;unfold Yy;refine ya (Xy (T:="list_reverseiterator") (Heap.IsRevIter.typeIs (s:={s with heap:=h2 }) hI2) ?_);have h1:xK (.ref S) (.ref I)=false:=by simp[xK,hSI]
 have h2':(Yv "list_reverseiterator" == Yv "list")=false:=by decide
 have h3':(Yv "list_reverseiterator" == Yv "tuple")=false:=by decide
 simp only[h1,h2',h3',Bool.or_false,xZ,if_false];refine ya (wpAny_pyIter_revIter (s:={s with heap:=h2 }) hI2 ?_);refine ya (yQ (zcw (Heap.IsRevIter.typeIs (s:={s with heap:=h2 }) hI2) ?_));refine xa (λhab=>absurd hab (by decide)) (λ_=>?_)
 have hSf:S∉[I,l]:=by
  simp only[mem_cons,not_mem_nil,or_false,not_or];exact⟨hSI,hSl⟩
 refine yf ⟨xi PySem.F.plain_extend_loop _,codeAny_extend_loopS W hn S hSf _ items.size 0 _ #[] _ rfl (Yt _) ⟨Yt _,by simpa using hI2,hl2⟩ hS2 (ItemsOf.nil _) λs' acc' c' hm hS' hacc=>?_⟩;rw[Moved.eq_with hm];refine⟨rfl,?_⟩;rw[<-hS0]at hS' ⊢;refine hQ s'.heap s'.toks acc' c' (λb o hb e=>hm.heap b o (λhmem=>?_) (k2 b o e)) hS' hacc;rcases List.mem_cons.mp hmem with e'|hmem
 ·exact oldS b o e e'
 ·exact hb (List.mem_singleton.mp hmem)
variable {pos2 p1 p2:xp}
def zEv(G:FE):FE:=λJ O=>(G J O).bind λp=>match p.1 with
 |.loc n=>match p.2[n]? with
  |some (.lst ds)=>some (.loc p.2.length,p.2++[.lst ds.reverse])
  |_=>none
 |_=>none
def zCw{items:List Value}{vs:List V}{its:List Value}(rv:Vals vs items)(hl:its.length=items.length)(h:∀(j:Nat)(v:Value),its[j]?=some v->items[items.length-1-j]?=some v):Vals vs.reverse its:=by
 have e:its=items.reverse:=by
  refine ext_getElem? λj=>?_
  by_cases hj:j<its.length
  ·have h1:its[j]?=some its[j]:=by simp[hj]
   rw[List.getElem?_reverse (by omega),h j _ h1,h1]
  ·rw[Yd (by omega),Yd (by simp;omega)]
 rw[e];exact rv.reverse
def zOu{K:yx}{Z:List yc}{H:Hp}:∀{ds:List D} {vs:List V},tf K Z H ds vs->tf K Z H ds.reverse vs.reverse
 |[],vs,r=>by rw[r.nil_inv];exact .nil
 |d::ds,vs,r=>by
  obtain⟨v,q,rfl,h1,h2⟩:=r.cons_inv;rw[List.reverse_cons,List.reverse_cons];exact(zOu h2).append (.cons h1 .nil)
def zDB(X:Cx)(tl:TE):TE:=λY H Q=>tl Y H λx H1=>∃a ys,x=.ref a/\SqL X.K H1 a ys/\∀q,H1 q=none->Q (.ref q) (upd H1 q (.lst ys.reverse))
def zAx{l:yE}{tl:TE}(hm1:X.mg "list"=none)(hv1:yJ "list"=some (.type "list"))(hm2:X.mg "reversed"=none)(hv2:yJ "reversed"=some (.type "reversed"))(hl:PE X l tl)(hc:X.calm=true)(hg1:Gl X "list")(hg2:Gl X "reversed")
 (he:yj [l] X.env=(false,Ye l X.env)::yj [] X.env) (he2:yj [.Call (.Name "reversed" p2) [l] [] pos2] X.env=(false,Ye (.Call (.Name "reversed" p2) [l] [] pos2) X.env)::yj [] X.env) :
 PE X (.Call (.Name "list" p1) [.Call (.Name "reversed" p2) [l] [] pos2] [] pos) (zDB X tl):=by
 intro U s Y H Q I h;refine xy (zal I hg1 hm1 hv1 ?_ (by decide) (by decide));refine YS ?_ he2 rfl;rw[he2];show yn _ _ (spliced ((false,Ye (.Call (.Name "reversed" p2) [l] [] pos2) X.env)::Ym pos (yj [] X.env))) _ _ s;refine Calls.spliced_cons ?_;refine xy (zal I hg2 hm2 hv2 ?_ (by decide) (by decide))
 refine YS (thn (z4e hl zdi he pos2 U s Y H (λvs H1=>match vs with
  |[x]=>∃a ys,x=.ref a/\SqL X.K H1 a ys/\∀q,H1 q=none->Q (.ref q) (upd H1 q (.lst ys.reverse))
  |_=>False) I h) λus s1 ⟨vs,H1,I1,r1,q1⟩=>?_) he rfl
 dsimp only at q1
 split at q1
 case h_2=>exact q1.elim
 obtain⟨a,ys,e,hq,q⟩:=q1;subst e
 cases r1 with
 |cons r rr=>
  cases rr;cases r;obtain⟨its,rv,pl,hz⟩:=I1.list hq;have hlen:=rv.length;refine call_reversed_list pl.isList ?_;refine Calls.spliced_nil ?_;have I2:Inv X U Y H1 {s1 with heap:=s1.heap.push (revObj a ((its.toArray.size:Int)-1))}:=I1.kept (t':=s1.toks) λb o e=>yb _ e;have halt:a<s1.heap.objs.size:=by obtain⟨_,_,e,_⟩:=pl;exact yk e
  have hf:∀b∈[s1.heap.objs.size],zkr X U H1 b:=λb hb=>by
   have e:b=s1.heap.objs.size:=by simpa using hb
   subst e;exact I1.Sm (yi _) (I1.hok.fresh (yi _))
  refine zEw (s:={s1 with heap:=s1.heap.push (revObj a ((its.toArray.size:Int)-1))}) (I.ok.hd hc) (yu halt) ⟨_,yp _ rfl,rfl,rfl⟩ (pl.isList.push _) (by simp;omega) λh' tk acc' c' kp e hi=>?_;obtain⟨hi1,hi2⟩:=hi;have hv:=zCw (its:=acc'.toList) rv (by simpa using hi1) λj v e=>by simpa using hi2 j v (by simpa using e)
  refine⟨.ref _,_,z1e (t':=tk) I2 hf (λb o hb e=>kp b o (by simpa using hb) e) (yi _) (show tG X.prog X.w _ h' _ (.lst ys.reverse) from⟨by simp;omega,acc'.toList,c',hv,by simpa using e⟩),rfl,q _ (I2.hok.fresh (yi _))⟩
def zFy(hm1:X.mg "list"=none)(hv1:yJ "list"=some (.type "list"))(hm2:X.mg "reversed"=none)(hv2:yJ "reversed"=some (.type "reversed"))(h:ME X e G)(hc:X.calm=true:=by rfl)(hg1:Gl X "list":=by rfl)(hg2:Gl X "reversed":=by rfl)
 (he:yj [e] X.env=(false,Ye e X.env)::yj [] X.env:=by rfl) (he2:yj [.Call (.Name "reversed" p2) [e] [] pos2] X.env=(false,Ye (.Call (.Name "reversed" p2) [e] [] pos2) X.env)::yj [] X.env:=by rfl) :
 ME X (.Call (.Name "list" p1) [.Call (.Name "reversed" p2) [e] [] pos2] [] pos) (zEv G) :=
 zfe (zAx hm1 hv1 hm2 hv2 h hc hg1 hg2 he he2) λZ J O Y H d O' Q A e k=>by
  obtain⟨⟨x,O1⟩,e1,e⟩:=zi e;refine⟨Z,J,O,x,O1,A,e1,λZ1 H1 v x1 R1 r1=>?_⟩;dsimp only at e
  split at e
  ·split at e
   ·rename_i hm
    cases e;obtain⟨p,rfl,ep⟩:=r1.tz;obtain⟨vs,e3,q⟩:=R1.at_ _ _ _ ep hm;exact⟨p,vs,rfl,SqL.of e3,λq' hq'=>k _ _ _ (x1.trans (Ext.push hq')) (R1.push hq' ⟨_,zF,(zOu q).ext (Ext.push hq')⟩) (.loc (zzb R1))⟩
   ·cases e
  ·cases e
variable {te:TE}{stp:yE}{ts:TO}
def zEl(ns:List Int):List Int:=ns.mergeSort λa b=>decide (a<=b)
def zli:GL:=λds O=>match ds with
 |[.loc n]=>match O[n]? with
  |some (.lst xs)=>(zPj xs).bind λns=>bif decide (ns.length<64) then some (.loc O.length,O++[.lst ((zEl ns).map .int)]) else none
  |_=>none
 |_=>none
def z6h(hc:X.calm=true):tX X (.builtin "sorted") zli:=by
 refine tX.of λU s Y H xs us Q I r Z ds O d O' r1 R e k=>?_;unfold zli at e
 split at e
 ·split at e
  ·rename_i hm
   obtain⟨ns,e2,e⟩:=zi e;obtain⟨hp,e⟩:=zW e;have hp:=of_decide_eq_true hp;cases e;rw[zqf e2]at hm;obtain⟨v,rr,rfl,q1,q2⟩:=r1.cons_inv;obtain⟨a,rfl,ea⟩:=q1.tz;obtain⟨vs,e3,q3⟩:=R.at_ _ _ _ ea hm;rw[zmi q3]at e3;rw[q2.nil_inv]at r;obtain⟨u,rfl,ru⟩:=vals1 r;cases ru;obtain⟨its,rv,pl,hz⟩:=I.list (SqL.of (K:=X.K) e3);have hl:its.length=ns.length:=by rw[<-rv.length];simp
   refine sorted_ints pl.isList (z6g rv) (by omega) λout ns' a1 a2 a3=>?_;have hms:ns'=zEl ns:=zOc (a2.trans (mergeSort_perm _ _).symm) a3 (zXh _);subst hms;obtain⟨e0,he⟩:=sortedAll_at s.heap its out;have hf:=I.hok.fresh (xV s.heap.objs.size);have hlen:(zEl ns).length=ns.length:=a2.length_eq;refine⟨.ref (s.heap.objs.size+1),_,I.laid (t':=s.toks) (o:=.lst ((zEl ns).map V.int)) (λ_ _=>sortedAll_old) (xV _) ?_,rfl,k _ _ _ (Ext.push hf) (R.push hf ⟨_,zF,zAf⟩) (.loc (zzb R))⟩;exact⟨by simp;rw[Yr];omega,out.toList,e0,zMe a1,by simpa using he⟩
  ·cases e
 ·cases e
def zYm{it t:yc}{items:Array Value}(hne:t≠it):∀(n i:Nat)(s:yd)(Q:List Value->yd->Prop),s.heap.IsListIter it t i->s.heap.IsList t items->i+n<=items.size ->
 (∀h',h'.IsListIter it t (i+n)->Yp it s.heap h'->Q ((items.toList.drop i).take n) {s with heap:=h' })->yn (yv prog w) A (draw (.ref it) n) Q E s
 |0,i,s,Q,hit,_,_,hQ=>by
  show yn _ _ (pure []) Q E s;exact yf (by simpa using hQ s.heap hit (Heap.SameBut.refl ..))
 |n+1,i,s,Q,hit,ht,hle,hQ=>by
  have hlt:i<items.size:=by omega
  show yn _ _ (xW (.ref it) >>= _) Q E s;refine ya (wpAny_pyNext_list_item hit ht (x:=items[i]) (by simp[hlt]) λh₁ hit₁ hs₁=>?_);refine ya (yQ (zYm hne n (i+1) _ _ hit₁ (ht.extBut hs₁.extBut hne) (by omega) λh₂ hit₂ hs₂=>yf ?_));have hd:items.toList.drop i=items[i]::items.toList.drop (i+1):=by simp[drop_eq_getElem_cons,hlt]
  have:=hQ h₂ (by rw[show i+(n+1)=i+1+n by omega];exact hit₂) (hs₁.trans hs₂);rw[hd,List.take_succ_cons]at this;exact this
def zHj{t:yc}{items:Array Value}{Q:List Value->yd->Prop}(hh:A.handled=none)(ht:s.heap.IsList t items)
 (hQ:∀h',Xv s.heap.objs.size s.heap h'->Q items.toList {s with heap:=h' }):yn (yv prog w) A (unpackItems (.ref t) items.size none) Q E s:=by
 have hlt:t≠s.heap.objs.size:=by obtain⟨o,ho,_⟩:=ht;exact yu (yk ho)
 unfold unpackItems;refine ya ?_
 ·unfold notIterableAtAll;refine ya (xo ht.typeIs PySem.slot_list_iter.lookup ?_);refine yf ?_;simp only[xZ,if_false];refine ya (yQ (xH ht ?_));refine ya (yQ (zYm hlt items.size 0 _ _ ⟨_,yp _ rfl,rfl,rfl⟩ (ht.push _) (by omega) λh₁ hit₁ hs₁=>?_))
  have hall:List.take items.size (List.drop 0 items.toList)=items.toList:=by
   rw[List.drop_zero];exact List.take_of_length_le (by simp)
  rw[hall];rw[if_neg (by simp)];have ht₁:h₁.IsList t items:=(ht.push _).extBut hs₁.extBut hlt;refine ya (yQ (wpAny_pyNext_list_end hh hit₁ ht₁ (by simp) λh₂ he₂=>?_));simp only[Option.isSome_none,xZ,if_false];refine yf (hQ h₂ λb o hb e=>he₂ b o hb (hs₁.extBut b o hb (yb _ e)))
def zGj{env:Env}{elts:List yE}{x1}{pos:xp}{t:yc}{items:Array Value}{Q:Unit->yd->Prop}(hh:A.handled=none)(ht:s.heap.IsList t items)
 (hn:(Yw elts env).length=items.size) (hstar:(Yw elts env).findIdx? (·.1)=none)
 (h:∀h',Xv s.heap.objs.size s.heap h'->yn (yv prog w) A (assignInOrder ((Yw elts env).map (·.2)) items.toList) Q E {s with heap:=h' }) :
 yn (yv prog w) A (assign (.Tuple elts x1 pos) env (.ref t)) Q E s:=by
 rw[assign_Tuple];refine ya (YU ?_);unfold unpack;rw[hn,hstar];exact ya (yQ (zHj hh ht h))
def zmB(K:yx)(n:Nat)(t:TGs):TG:=λv Y H Q=>∃a xs,v=.ref a/\SqL K H a xs/\xs.length=n/\t xs Y H Q
def zrx{es:List yE}{k:Nat}{t:TGs}{n:Nat}(hc:X.calm=true)(h:PGs X es t)
 (hn:(Yw es X.env).length=n:=by rfl) (hst:(Yw es X.env).findIdx? (·.1)=none:=by rfl):PG X (.Tuple es k pos) (zmB X.K n t):=by
 intro U s Y H v u Q I r hw;obtain⟨a,xs,e1,hq,hl,hw⟩:=hw;subst e1;cases r;obtain⟨its,rv,pl,hz⟩:=I.list hq;refine zGj (I.ok.hd hc) pl.isList (by simp[hn,<-hl,rv.length]) hst λh' hx=>?_;have I1:Inv X U Y H {s with heap:=h' }:=I.kept (t':=s.toks) λb o e=>hx b o (yu (yk e)) e;exact h U _ Y H xs _ Q I1 (by simpa using rv) hw
def gTL(n:Nat)(gs:FGs):FG:=λd J O=>match d with
 |.loc l=>match O[l]? with
  |some (.lst ds)=>bif ds.length==n then gs ds J O else none
  |_=>none
 |_=>none
def zyy{es:List yE}{k n:Nat}{gs:FGs}(h:MGs X es gs)(hc:X.calm=true:=by rfl)(hn:(Yw es X.env).length=n:=by rfl)(hst:(Yw es X.env).findIdx? (·.1)=none:=by rfl):MG X (.Tuple es k pos) (gTL n gs) :=
 mg_of (zrx hc h hn hst) λZ J O d J' O' v Y H Q A q e k=>by
  unfold gTL at e
  split at e
  ·split at e
   ·rename_i hm
    obtain⟨h1,e⟩:=zW e;obtain⟨a,rfl,ea⟩:=q.tz;obtain⟨vs,e3,q2⟩:=A.hp.at_ _ _ _ ea hm;exact⟨a,vs,rfl,SqL.of e3,by rw[<-q2.length];exact beq_iff_eq.mp h1,Z,J,O,_,J',O',A,q2,e,k⟩
   ·cases e
  ·cases e
end
end M
namespace M
open PySem PyProof.Rows
section
variable {prog:yA}{w:yI}{A:yK}{E:Value->yd->Prop}{s:yd}
end
end M
namespace M
open PySem PySem.Spec PyProof.Rows L2
section
variable {X:Cx}{U:List (yc×YT)}{Y:L2.St}{H:Hp}{s s':yd}
variable {a b c e:yE}{es:List yE}{G ψ χ:FE}{pos pos2 p1 p2:xp}
variable {prog:yA}{w:yI}{A:yK}{E:Value->yd->Prop}{T:String}{r d:yc}{n:Nat}{P:Nat->Value->Prop}{OK:yT->Prop}
def z3B(s:yd)(P:Nat->Value->Prop)(n:Nat):Result->yd->Prop:=λrr s'=>∃h' tk acc' c',rr=.ok (.ret (.ref s.heap.objs.size))/\s' = {s with heap:=h',toks:=tk }/\(∀b o,s.heap.get? b=some o->h'.get? b=some o)/\h'.get? s.heap.objs.size=some {cls:=.type "list",dict:=none,data:=.seq acc' c',slots:=#[]}/\ItemsOf P acc' n
def ziq{Q:List Value->yd->Prop}(K:W.KdlSrc prog w T r d n P OK)(hh:A.handled=none)(hok:OK s.heap)(hn:n<=yD)
 (h:∀h' tk acc',(∀b o,s.heap.get? b=some o->h'.get? b=some o)->s.heap.objs.size<=h'.objs.size->ItemsOf P acc' n->Q acc'.toList {s with heap:=h',toks:=tk }) :
 yn (yv prog w) A (collect (.ref r)) Q E s:=by
 have hlt:=K.there _ hok;unfold collect;refine ya (wpAny_runValue (YD F.entry_proto_collect ?_));rw[Yu F.plain_proto_collect _];show yn _ A.in1 (newList [] >>= λl=>again (.builtin "list.__iadd__" ⟨[l,.ref r],[]⟩)) _ _ s;refine ya (yY ?_);have hS:(s.heap.push {cls:=.type "list",data:=.seq ([]:List Value).toArray }).get? s.heap.objs.size=some {cls:=.type "list",data:=.seq #[]}:=yp _ rfl;refine yf ⟨xi F.plain_list_iadd _,YG (YD (R:=z3B s P n) F.entry_list_iadd ?_) λrr s' ⟨h',tk,acc',c',e1,e2,hk,hS',hacc⟩=>?_⟩
 ·rw[Yu F.plain_list_iadd _];show yn _ A.in1 (Yy (.ref s.heap.objs.size) (.ref r) (.ref s.heap.objs.size)) _ _ _;exact W.kdl_extend (R:=z3B s P n) (A:=A) (s:={s with heap:=s.heap.push {cls:=.type "list",data:=.seq ([]:List Value).toArray }}) K hh (K.keep _ _ hok λb _ o e=>yb _ e) _ (yW hlt.1) (yW hlt.2) _ _ hS (λh' tk acc' c' hk hS' hacc=>⟨h',tk,acc',c',rfl,rfl,λb o e=>hk b o (yu (yk e)) (yb _ e),hS',hacc⟩) hn
 ·subst e1 e2;dsimp only;refine ya (wpAny_load hS' ?_);exact yf (h h' tk acc' hk (YO (yk hS')) hacc)
def z5r{ks:List Int}{Q:Value->yd->Prop}(K:W.KdlSrc prog w T r d n P OK)(hh:A.handled=none)(hok:OK s.heap)(h64:n<64)(hint:∀acc:Array Value,ItemsOf P acc n->IntsAre acc.toList ks)(h:∀p s',zcx s ks p s'->Q (.ref p) s') :
 yn (yv prog w) A (call (.builtin "sorted") [.ref r]) Q E s:=by
 refine Calls.call_function_entry kind_sorted plain_sorted entry_sorted (args_sorted1 _) ?_;unfold xh.«sorted»;refine ya (m:=checkCount "sorted" 1 1 _) (yf ?_);refine ya (ziq (A:=A.in1) K hh hok (yF (YO h64) (by rw[Yr];decide)) λh1 tk acc hk hsz hacc=>?_);have hI:=hint acc hacc
 have hl:acc.toList.length<64:=by
  have:=hacc.1;simp only[Array.length_toList];omega
 refine ya (wpAny_newList ?_ (by rw[Yr];omega));have hnew:(h1.push (seqObj "list" acc.toList.toArray 0)).get? h1.objs.size=some (seqObj "list" acc.toList.toArray 0):=yp _ rfl;refine ya (yQ (Yc slot_list_sort ⟨_,hnew,rfl⟩ entry_list_sort (list_sort_tree hnew hI (by simp at hl ⊢;omega) λout ns q1 q2 q3=>⟨_,rfl,?_⟩) (args_list_sort _)));obtain⟨e,he⟩:=sortedHeap_at (out:=out) hnew;refine yf ⟨_,rfl,h _ _ ⟨out,ns,e,he,q1,q2,q3,hsz,λb ob eb=>?_,rfl,rfl⟩⟩;have hb1:=hk _ _ eb;have hlt1:b<h1.objs.size:=yk hb1;show(sortedHeap (h1.push (seqObj "list" acc.toList.toArray 0)) h1.objs.size acc.toList out).get? b=some ob;rw[sortedHeap_old (yu hlt1) (by rw[size_push'];exact YB hlt1)];exact yb _ hb1
def zWk:GL:=λds O=>match ds with
 |[x]=>(zyb O x).bind λkvs=>bif decide (kvs.length<64) then some (.loc O.length,O++[.lst ((zEl (kvs.map (·.1))).map .int)]) else none
 |_=>none
def z0k(hc:X.calm=true):tX X (.builtin "sorted") zWk:=by
 refine tX.of λU s Y H xs us Q I r Z ds O d O' r1 R e k=>?_;unfold zWk at e
 split at e
 ·obtain⟨kvs,e1,e⟩:=zi e;obtain⟨h64,e⟩:=zW e;have h64:=of_decide_eq_true h64;cases e;obtain⟨v,rr,rfl,q1,q2⟩:=r1.cons_inv;rw[q2.nil_inv]at r;obtain⟨p,vs,rfl,hq,w1,w2⟩:=z3f R q1 e1;obtain⟨u,rfl,ru⟩:=vals1 r;cases ru;obtain⟨hz,hd,_⟩:=zNi I.hok hq;obtain⟨us',ep,rel,da⟩:=zUt I.hok hq;have hl:=rel.length
  have hkv:(vs.map λp=>kV p.1)=((kvs.map (·.1)).map V.int):=by
   have:(vs.map (·.1)).map kV=(kvs.map λp=>(yP p.1:Key)).map kV:=by rw[w1]
   rw[map_map,map_map]at this;rw[map_map];exact this
  have hlk:kvs.length=vs.length:=by
   have:=congrArg List.length w1;simpa using this.symm
  refine z5r (ks:=kvs.map (·.1)) (W.kdl_dict hd) (I.ok.hd hc) da (by omega) (λacc hi=>?_) λq s' ⟨out,ns,e',h1,h2,h3,h4,h5,h6,h7,h8⟩=>?_
  ·obtain⟨hi1,hi2⟩:=hi;have hv:=zPl (P:=X.prog) (w:=X.w) (its:=acc.toList) rel (by simpa using hi1) λj v e=>hi2 j v (by simpa using e);rw[hkv]at hv;exact z6g hv
  ·have hms:ns=zEl (kvs.map (·.1)):=zOc (h3.trans (mergeSort_perm _ _).symm) h4 (zXh _);subst hms;have hlen:(zEl (kvs.map (·.1))).length=(kvs.map (·.1)).length:=h3.length_eq;rw[length_map]at hlen;have hf:=I.hok.fresh h5;refine⟨.ref q,_,zPr I h7 h8 h6 h5 (show tG X.prog X.w _ s'.heap _ (.lst ((zEl (kvs.map (·.1))).map V.int)) from⟨by simp;rw[Yr];omega,out.toList,e',zMe h2,by simpa using h1⟩),rfl,k _ _ _ (Ext.push hf) (R.push hf ⟨_,zF,zAf⟩) (.loc (zzb R))⟩
 ·cases e
end
def z9r(K:yx)(c f:yt):Prop:=∀C,Yk K yo c=some (some (.ref C))->Cls K C/\si K C f
def zur{K:yx}{Z:List yc}{H:Hp}{f:yt}{d:D}:∀{fs:List (yt×D)} {vs:List (yt×V)},vs.map (·.1)=fs.map (·.1)->tf K Z H (fs.map (·.2)) (vs.map (·.2))->fs.lookup f=some d->∃v,vs.lookup f=some v/\tx K Z H d v
 |[],_,_,_,e=>by cases e
 |(g,x)::fs,[],h,_,_=>by cases h
 |(g,x)::fs,(g',y)::vs,h,r,e=>by
  obtain⟨h1,h2⟩:=ye h;have h1:g'=g:=h1;subst h1;obtain⟨v,q,e1,r1,r2⟩:=r.cons_inv;obtain⟨e2,e3⟩:=ye e1;subst e2 e3;rw[lookup_cons]at e ⊢
  cases hb:f==g' with
  |true=>rw[hb]at e;cases e;exact⟨_,rfl,r1⟩
  |false=>rw[hb]at e;exact zur h2 r2 e
def zdr{f:yt}:∀{fs:List (yt×D)} {vs:List (yt×V)},vs.map (·.1)=fs.map (·.1)->fs.lookup f=none->vs.lookup f=none
 |[],[],_,_=>rfl
 |[],_::_,h,_=>by cases h
 |_::_,[],h,_=>by cases h
 |(g,x)::fs,(g',y)::vs,h,e=>by
  obtain⟨h1,h2⟩:=ye h;have h1:g'=g:=h1;subst h1;rw[lookup_cons]at e ⊢
  cases hb:f==g' with
  |true=>rw[hb]at e;cases e
  |false=>rw[hb]at e;exact zdr h2 e
def zvj(f:yt)(d:D):List (yt×D)->List (yt×D)
 |[]=>[(f,d)]
 |(g,x)::r=>if g=f then(g,d)::r else(g,x)::zvj f d r
def z7s{K:yx}{Z:List yc}{H:Hp}{f:yt}{d:D}{v:V}(rd:tx K Z H d v):∀{fs:List (yt×D)} {vs:List (yt×V)},vs.map (·.1)=fs.map (·.1)->tf K Z H (fs.map (·.2)) (vs.map (·.2)) ->
 (z4l f v vs).map (·.1)=(zvj f d fs).map (·.1)/\tf K Z H ((zvj f d fs).map (·.2)) ((z4l f v vs).map (·.2))
 |[],[],_,_=>⟨rfl,.cons rd .nil⟩
 |[],_::_,h,_=>by cases h
 |_::_,[],h,_=>by cases h
 |(g,x)::fs,(g',y)::vs,h,r=>by
  obtain⟨h1,h2⟩:=ye h;have h1:g'=g:=h1;subst h1;obtain⟨v',q,e1,r1,r2⟩:=r.cons_inv;obtain⟨e2,e3⟩:=ye e1;subst e2 e3;unfold z4l zvj
  by_cases hg:g'=f
  ·rw[if_pos hg,if_pos hg];exact⟨h,.cons rd r2⟩
  ·rw[if_neg hg,if_neg hg];obtain⟨k1,k2⟩:=z7s rd h2 r2;exact⟨by show g'::_=g'::_;rw[k1],.cons r1 k2⟩
section
variable {X:Cx}{a o e:yE}{es:List yE}{G:FE}{ψ:FA}{pos apos:xp}{c f m:yt}
@[simp] def zVq(c f:yt)(G:FE):FE:=λJ O=>(G J O).bind λp=>match p.1 with
 |.loc n=>match p.2[n]? with
  |some (.ins c' fs)=>bif c'==c then(fs.lookup f).bind λd=>some (d,p.2) else none
  |_=>none
 |_=>none
def zzh(T:z9r X.K c f)(h:ME X a G)(hb:YA a f X.env (Ye a X.env)=Ye a X.env:=by rfl):ME X (.Attribute a f pos) (zVq c f G) :=
 zfe (zXz h hb) λZ J O Y H d O' Q A e k=>by
  obtain⟨⟨x,O1⟩,e1,e⟩:=zi e;refine⟨Z,J,O,x,O1,A,e1,λZ1 H1 v x1 R1 r1=>?_⟩;dsimp only at e
  split at e
  ·split at e
   ·rename_i hm
    obtain⟨hc,e3⟩:=zW e;clear e;have hc:=eq_of_beq hc;subst hc;obtain⟨d',e2,e4⟩:=zi e3;cases e4;obtain⟨a,rfl,ea⟩:=r1.tz;obtain⟨C,dx,vs,hn,hH,hk,hv⟩:=R1.at_ _ _ _ ea hm;obtain⟨cl,na⟩:=T C hn;obtain⟨v,hl,rv⟩:=zur hk hv e2;exact⟨a,C,dx,vs,v,rfl,hH,cl,na,hl,k Z1 H1 v x1 R1 rv⟩
   ·cases e
  ·cases e
@[simp] def zXr(c f:yt)(G ψ:FE):FS:=λJ O=>(ψ J O).bind λy=>(G J y.2).bind λp=>match p.1 with
 |.loc n=>match p.2[n]? with
  |some (.ins c' fs)=>bif (c'==c)&&decide (fs.length<1000) then some (.next J (p.2.set n (.ins c (zvj f y.1 fs)))) else none
  |_=>none
 |_=>none
def zuu{value:yE}{χ:FE}{pos':xp}(T:z9r X.K c f)(ha:ME X o G)(hv:ME X value χ)(hs:xQ value (some (.Attribute o f pos')) pos.line X.env=pure false:=by rfl):MS X (.Assign [.Attribute o f pos'] value pos) (zXr c f G χ) :=
 zQk (zqA ha hv hs) λZ J O Y H o E A e k=>by
  obtain⟨⟨y,O1⟩,e1,e⟩:=zi e;refine⟨Z,J,O,y,O1,A,e1,λZ1 H1 vy x1 R1 r1=>?_⟩;obtain⟨⟨x,O2⟩,e2,e⟩:=zi e;refine⟨Z1,J,O1,x,O2,A.ext x1 R1,e2,λZ2 H2 v x2 R2 r2=>?_⟩;dsimp only at e
  split at e
  ·split at e
   ·rename_i n c' fs hm
    obtain⟨hc,e3⟩:=zW e;clear e;rw[yH]at hc;have hl:=of_decide_eq_true hc.2;have hc:=eq_of_beq hc.1;subst hc;cases e3;obtain⟨a,rfl,ea⟩:=r2.tz;obtain⟨C,dx,vs,hn,hH,hk,hvs⟩:=R2.at_ _ _ _ ea hm;obtain⟨cl,na⟩:=T C hn
    have hlen:vs.length<1000:=by
     have:=congrArg List.length hk;rw[length_map,length_map]at this;omega
    refine⟨a,C,dx,vs,rfl,hH,cl,na,hlen,?_⟩;have hmu:Mut (H2 a):=by rw[hH];trivial
    obtain⟨k1,k2⟩:=z7s (f:=f) (r1.ext (x2.trans (Ext.wr (o:=.ins C dx (z4l f vy vs)) hmu))) hk (hvs.ext (Ext.wr (o:=.ins C dx (z4l f vy vs)) hmu));have R3:=R2.wr (lo:=.ins c' (zvj f y fs)) hmu ea ⟨C,dx,z4l f vy vs,hn,zF,k1,k2⟩;exact k Z2 Y _ (x1.trans (x2.trans (Ext.wr hmu))) ((A.ext x1 R1).ext (x2.trans (Ext.wr hmu)) R3)
   ·cases e
  ·cases e
@[simp] def znc(c m:yt)(G:FE)(ψ:FA):FA:=λJ O=>(G J O).bind λp=>match p.1 with
 |.loc n=>match p.2[n]? with
  |some (.ins c' fs)=>bif (c'==c)&&(fs.lookup m).isNone then(ψ J p.2).bind λq=>some (.loc n::q.1,q.2) else none
  |_=>none
 |_=>none
def zfr{J:Loc}{O O':Mem}{ds:List D}(h:znc c m G ψ J O=some (ds,O')):∃n fs O1 as,G J O=some (.loc n,O1)/\O1[n]?=some (.ins c fs)/\fs.lookup m=none/\ψ J O1=some (as,O')/\ds=.loc n::as:=by
 obtain⟨⟨x,O1⟩,e1,h⟩:=zi h;dsimp only at h
 split at h
 ·split at h
  ·rename_i n c' fs hm
   obtain⟨hc,h3⟩:=zW h;clear h;rw[yH]at hc;have h1:=eq_of_beq hc.1;have h2:=Option.isNone_iff_eq_none.mp hc.2;subst h1;obtain⟨⟨as,O2⟩,e2,h4⟩:=zi h3;cases h4;exact⟨_,fs,O1,as,e1,hm,h2,e2,rfl⟩
  ·cases h
 ·cases h
structure MethAt(K:yx)(c m qual:yt)(st:Yb)(ps:List yt)(C f:yc)(fd:yh):Prop where
 nm:Yk K yo c=some (some (.ref C))
 cl:Cls K C
 me:Meth K C m f
 fn:Fun K m qual st f fd
 bd:Binds K fd ps []
variable {C g:yc}{fd:yh}{ps:List yt}{qual:yt}{st:Yb}{CX:CXT}{sp:Sp}{E:XK}{j k n:Nat}{F:FF}{FXm:FX}
def z9u{t:TA}{Z:List yc}{J:Loc}{O:Mem}{Y:L2.St}{H:Hp}{Q:VK}{ds:List D}{O1:Mem}(B:MethAt X.K c m qual st ps C g fd)(A:At X.K Z H Y J O)(e1:znc c m G ψ J O=some (ds,O1))(ht:∀Y H R,tMA X.K ψ Y H R->t Y H R)
 (kk:∀Z' H' vs,Ext Z H Z' H'->tI X.K Z' H' O1->tf X.K Z' H' ds vs->sp (vs++[]) H' Q E):zKx C m sp [] E (tM X.K G) t Y H Q:=by
 obtain⟨n,fs,μo,as,ea,hm,hlk,eψ,rfl⟩:=zfr e1;refine⟨Z,J,O,.loc n,μo,A,ea,λZ1 H1 v x1 R1 r1=>?_⟩;obtain⟨a,rfl,ea'⟩:=r1.tz;obtain⟨C',dx,vs,hn',hH,hk,hv⟩:=R1.at_ _ _ _ ea' hm;have hC:=B.nm;rw[hn']at hC;cases hC;refine⟨a,dx,vs,rfl,hH,zdr hk hlk,ht _ _ _ ⟨Z1,J,μo,as,O1,A.ext x1 R1,eψ,λZ2 H2 vs2 x2 R2 r2=>?_⟩⟩;exact kk Z2 H2 (.ref a::vs2) (x1.trans x2) R2 (.cons (r1.ext x2) r2)
def zSx{pl:Sem Bool}(B:MethAt X.K c m qual st ps C g fd)(φ:tq X.prog X.w X.K X.mg X.base CX j g fd ps sp)(hr:tS k X.A)(hx:zaj CX X E)(ho:ME X o G)(ha:MAn X (e::es) ψ)(hj:j<=k)
 (hst:yj (e::es) X.env=(false,Ye e X.env)::yj es X.env:=by exact z2c rfl) (hpl:(Ym pos (yj es X.env)).any (·.1)=false:=by rfl)
 (ht:Ye (.Call (.Attribute o m apos) (e::es) [] pos) X.env=(do
  let ov <-Ye o X.env
  standAt apos.atName
  let (f,first) <-xt [ov] (getMethod ov m pl)
  callWith pos f first (Ym pos (yj (e::es) X.env)) (xR pos (YQ [] X.env))):=by rfl) :
 PE X (.Call (.Attribute o m apos) (e::es) [] pos) (zdv sp [] E (tMA X.K (znc c m G ψ))):=by
 intro U s Y H Q I h;obtain⟨Z,J,O,ds,O1,A,e1,kk⟩:=h;exact ztx ho B.cl B.me φ (hr.mono hj) B.bd .nil hx ha.ma hst hpl ht U s Y H Q I (z9u B A e1 (λ_ _ _ h=>h) kk)
def zSv{pl:Sem Bool}(B:MethAt X.K c m qual st ps C g fd)(φ:tq X.prog X.w X.K X.mg X.base CX j g fd ps sp)(hr:tS k X.A)(hx:zaj CX X E)(ho:ME X o G)(hj:j<=k)
 (ht:Ye (.Call (.Attribute o m apos) [] [] pos) X.env=(do
  let ov <-Ye o X.env
  standAt apos.atName
  let (f,first) <-xt [ov] (getMethod ov m pl)
  callWith pos f first (Ym pos (yj [] X.env)) (xR pos (YQ [] X.env))):=by rfl) :
 PE X (.Call (.Attribute o m apos) [] [] pos) (zdv sp [] E (tMA X.K (znc c m G zK))):=by
 intro U s Y H Q I h;obtain⟨Z,J,O,ds,O1,A,e1,kk⟩:=h
 exact zRv ho B.cl B.me φ (hr.mono hj) B.bd .nil hx ht U s Y H Q I (z9u B A e1 (λY H R h=>by
  obtain⟨Z,J,O,ds,O',A,e,k⟩:=h;cases e;exact k Z H [] Ext.refl A.hp .nil) kk)
def zIk{J:Loc}{O O':Mem}{ds:List D}(ha:∀J O ds O',ψ J O=some (ds,O')->ds.length+1=n)(h:znc c m G ψ J O=some (ds,O')):ds.length=n:=by
 obtain⟨_,_,_,as,_,_,_,e,rfl⟩:=zfr h;exact ha _ _ _ _ e
def zjx(h:PE X a (zdv (spM X.K n F) [] E0 (tMA X.K ψ)))(hl:∀J O ds O',ψ J O=some (ds,O')->ds.length=n):ME X a (zB F ψ) :=
 zfe h λZ J O Y H d O' Q A eo kk=>by
  obtain⟨⟨ds,O1⟩,e1,eo⟩:=zi eo;refine⟨Z,J,O,ds,O1,A,e1,λZ1 H1 vs x1 R1 r1=>?_⟩;show spM X.K n F (vs++[]) H1 Q E0;rw[append_nil];exact⟨by rw[<-r1.length];exact hl _ _ _ _ e1,Z1,ds,O1,d,O',r1,R1,eo,λZ2 H2 v x2 R2 r2=>kk Z2 H2 v (x1.trans x2) R2 r2⟩
abbrev zvo(X:Cx)(o:yE)(m:yt)(es:List yE)(apos pos:xp)(pl:Sem Bool):Prop:=Ye (.Call (.Attribute o m apos) es [] pos) X.env=(do
 let ov <-Ye o X.env
 standAt apos.atName
 let (f,first) <-xt [ov] (getMethod ov m pl)
 callWith pos f first (Ym pos (yj es X.env)) (xR pos (YQ [] X.env)))
def sS{pl:Sem Bool}(B:MethAt X.K c m qual st ps C g fd)(φ:tq X.prog X.w X.K X.mg X.base CX0 j g fd ps (spM X.K n F))(hr:tS k X.A)(ho:ME X o G)(ha:MAn X (e::es) ψ)(hj:j<=k:=by decide)(hn:(e::es).length+1=n:=by rfl)
 (hst:yj (e::es) X.env=(false,Ye e X.env)::yj es X.env:=by exact z2c rfl) (hpl:(Ym pos (yj es X.env)).any (·.1)=false:=by rfl) (ht:zvo X o m (e::es) apos pos pl:=by rfl) :
 ME X (.Call (.Attribute o m apos) (e::es) [] pos) (zB F (znc c m G ψ)) :=
 zjx (zSx B φ hr Sy ho ha hj hst hpl ht) λ_ _ _ _ h=>zIk (λ_ _ _ _ h=>by rw[ha.len _ _ _ _ h];exact hn) h
def Tn{pl:Sem Bool}(B:MethAt X.K c m qual st ps C g fd)(φ:tq X.prog X.w X.K X.mg X.base CX0 j g fd ps (spM X.K 1 F))(hr:tS k X.A)(ho:ME X o G)(hj:j<=k:=by decide)(ht:zvo X o m [] apos pos pl:=by rfl) :
 ME X (.Call (.Attribute o m apos) [] [] pos) (zB F (znc c m G zK)) :=
 zjx (zSv B φ hr Sy ho hj ht) λ_ _ _ _ h=>zIk (λ_ _ _ _ h=>by cases h;rfl) h
def zDA{pl:Sem Bool}(B:MethAt X.K c m qual st ps C g fd)(φ:tq X.prog X.w X.K X.mg X.base (CXq X.prog X.w) j g fd ps (spX X.K n FXm))(hr:tS k X.A)(ho:ME X.nox o G)(ha:MAn X.nox (e::es) ψ)(hj:j<=k)
 (hst:yj (e::es) X.env=(false,Ye e X.env)::yj es X.env) (hpl:(Ym pos (yj es X.env)).any (·.1)=false) (ht:zvo X o m (e::es) apos pos pl)
 {U:List (yc×YT)} {s:yd} {Y:L2.St} {H:Hp} {Q:VK} {W:XK} (I:Inv X U Y H s) (h:tCX X.K W n FXm (znc c m G ψ) Y H Q):yn (yv X.prog X.w) X.A (Ye (.Call (.Attribute o m apos) (e::es) [] pos) X.env) (EP X U Y Q) (XP X U Y W) s:=by
 obtain⟨Z,J,O,ds,O1,A,e1,kk⟩:=h;refine PySem.W.methodCall_KW (pl:=pl) (yS (ho U s Y H _ (I.sG _) (z9u (sp:=spX X.K n FXm) (E:=W) (Q:=Q) (t:=tMA X.K ψ) B A e1 (λ_ _ _ h=>h) kk)) (λu s1 h1=>?_) λ_ _ z=>z.elim) ht;obtain⟨x,H1,I1,rx,a,dx,fs,ex,ea,l,q⟩:=h1;have I1:=I1.TD;subst ex;obtain rfl:u=yG a:=rx;refine zLj I1 ea B.cl B.me l ?_;refine PySem.W.callWith_K (first:=[.ref a]) (h₀:=X.base) I.ok.mod.kin B.me.kp (yS (ha.ma pos U s1 Y H1 _ (I1.sG _) q) (λus s2 h2=>?_) λ_ _ z=>z.elim) hst hpl;obtain⟨vs,H2,I2,r,q2⟩:=h2;have I2:=I2.TD;refine⟨I2.kIn,?_⟩;have r2:Vals (.ref a::(vs++[])) (yG a::us++[]) :=.cons rfl (r.append .nil);have hl:(yG a::us++[]).length=ps.length:=by rw[<-r2.length];exact φ.len _ _ _ _ q2
 refine Xq (YG (φ.run X.A X.stack s2 H2 ⟨.ref a::us,[]⟩ (.ref a::us++[]) (.ref a::(vs++[])) Q W (hr.mono hj) I2.env0 (B.bd s2 (.ref a::us) I2.kIn hl) r2 q2) λrr s' hq=>?_)
 cases rr with
 |error ex=>
  obtain⟨C,dx,H',Fl,hw⟩:=hq;exact⟨H2,s2,C,dx,H',I2,Fl,hw⟩
 |ok fl=>
  cases fl with
  |ret u=>exact I2.after hq
  |next=>exact YC hq
  |brk=>exact YC hq
  |cont=>exact YC hq
def zOv{pl:Sem Bool}{spos:xp}(B:MethAt X.K c m qual st ps C g fd)(φ:tq X.prog X.w X.K X.mg X.base (CXq X.prog X.w) j g fd ps (spX X.K n FXm))(hr:tS k X.A)(ho:ME X.nox o G)(ha:MAn X.nox (e::es) ψ)(hj:j<=k:=by decide)(hn:(e::es).length+1=n:=by rfl)
 (hst:yj (e::es) X.env=(false,Ye e X.env)::yj es X.env:=by exact z2c rfl) (hpl:(Ym pos (yj es X.env)).any (·.1)=false:=by rfl) (ht:zvo X o m (e::es) apos pos pl:=by rfl)
 (hs:xQ (.Call (.Attribute o m apos) (e::es) [] pos) none spos.line X.env=pure false:=by rfl):PX1 X (.Expr (.Call (.Attribute o m apos) (e::es) [] pos) spos) (zRt FXm (znc c m G ψ)):=by
 intro U s Y H D W I ⟨Z,J,O,o,A,eo,kk⟩;obtain⟨ds,O1,r,e1,e2,rfl⟩:=zMq eo;refine wpAny_Expr_any (thn (zDA B φ hr ho ha hj hst hpl ht I (Q:=λ_ H'=>D.nx Y H') (zfx A e1 (zIk (λ_ _ _ _ h=>by rw[ha.len _ _ _ _ h];exact hn) e1) e2 ?_)) λv s1 ⟨y,H1,I1,r1,q1⟩=>⟨Y,H1,I1,q1⟩) I.quiet hs
 cases r with
 |ok d O'=>exact λZ' H' v x' R r=>kk Z' Y H' x' (A.ext x' R)
 |exc c fs O'=>exact kk
def zIx{pl:Sem Bool}{spos py:xp}{y:yt}(i:Nat)(B:MethAt X.K c m qual st ps C g fd)(φ:tq X.prog X.w X.K X.mg X.base (CXq X.prog X.w) j g fd ps (spX X.K n FXm))(hr:tS k X.A)(ho:ME X.nox o G)(ha:MAn X.nox (e::es) ψ)(hj:j<=k:=by decide)(hn:(e::es).length+1=n:=by rfl)
 (hN:X.N.Nodup:=by first|assumption|decide) (hi:X.N[i]?=some y:=by rfl) (hy:L2.Loc X.env.scope y:=by first|exact Or.inl rfl|exact Or.inr rfl)
 (hst:yj (e::es) X.env=(false,Ye e X.env)::yj es X.env:=by exact z2c rfl) (hpl:(Ym pos (yj es X.env)).any (·.1)=false:=by rfl) (ht:zvo X o m (e::es) apos pos pl:=by rfl)
 (hs:xQ (.Call (.Attribute o m apos) (e::es) [] pos) (some (.Name y py)) spos.line X.env=pure false:=by rfl) (hf:X.fn y=true\/X.env.scope.names.lookup y=some .local:=by first|exact .inl rfl|exact .inr rfl|assumption) :
 PX1 X (.Assign [.Name y py] (.Call (.Attribute o m apos) (e::es) [] pos) spos) (z1x i FXm (znc c m G ψ)):=by
 intro U s Y H D W I ⟨Z,J,O,o,A,eo,kk⟩;obtain⟨ds,O1,r,e1,e2,rfl⟩:=zMq eo;refine wpAny_Assign_Name (thn (zDA B φ hr ho ha hj hst hpl ht I (Q:=λv H'=>D.nx (Y.set i (some v)) H') (zfx A e1 (zIk (λ_ _ _ _ h=>by rw[ha.len _ _ _ _ h];exact hn) e1) e2 ?_)) λv s1 ⟨y,H1,I1,r1,q1⟩=>?_) hs
 ·cases r with
  |ok d O'=>exact λZ' H' v x' R r=>kk Z' _ H' x' ((A.ext x' R).set r i)
  |exc c fs O'=>exact kk
 ·exact zDi I1 hN hi hy r1 (λs2 I2=>⟨_,H1,I2,q1⟩) hf
@[simp] def zvs(c:yt)(F:FF)(ψ:FA):FE:=λJ O=>(ψ J O).bind λq=>(F (.loc q.2.length::q.1) (q.2++[.ins c []])).bind λr=>match r.1 with
 |.non=>some (.loc q.2.length,r.2)
 |_=>none
def mmake{p:xp}(mk:Mk X.K C g)(hc:Yk X.K yo c=some (some (.ref C)))(hm:X.mg c=some (.ref C))(bd:Binds X.K fd ps [])(φ:tq X.prog X.w X.K X.mg X.base CX0 j g fd ps (spM X.K n F))(hr:tS k X.A)(ha:MAn X (e::es) ψ)
 (hj:j+1<=k:=by decide) (hn:(e::es).length+1=n:=by rfl) (hg:Gl X c:=by rfl) (hdb:(c==("__debug__":yt))=false:=by decide) (he:yj (e::es) X.env=(false,Ye e X.env)::yj es X.env:=by exact z2c rfl) (hpl:(Ym pos (yj es X.env)).any (·.1)=false:=by rfl) :
 ME X (.Call (.Name c p) (e::es) [] pos) (zvs c F ψ) :=
 zfe (z8y mk φ (hr.mono hj) hg hm bd .nil Sy ha.ma hdb he hpl) λZ J O Y H d O' Q A eo kk=>by
  obtain⟨⟨ds,O1⟩,e1,eo⟩:=zi eo;refine⟨Z,J,O,ds,O1,A,e1,λZ1 H1 vs x1 R1 r1 x dx nx ndx nex=>?_⟩;obtain⟨⟨r,O2⟩,e2,eo⟩:=zi eo;dsimp only at eo
  split at eo
  ·cases eo;have nx2:(upd H1 dx (.own x)) x=none:=by rw[zL (yV nex)];exact nx
   have R2:tI X.K Z1 (upd H1 dx (.own x)) O1:=R1.Tx ndx;have R3:=R2.push (lo:=.ins c []) nx2 ⟨C,dx,[],hc,zF,rfl,.nil⟩;have X3:=(Ext.new (Z:=Z1) (o:=.own x) ndx).trans (Ext.push (o:=.ins C dx []) nx2);rw[append_nil];refine⟨by rw[length_cons,<-r1.length,ha.len _ _ _ _ e1];exact hn,Z1++[x],.loc O1.length::ds,O1++[.ins c []],.non,_,.cons (.loc (zzb R2)) (r1.ext X3),R3,e2,λZ4 H4 v x4 R4 r4=>⟨r4.tK,kk Z4 H4 (.ref x) (x1.trans (X3.trans x4)) R4 (.loc (x4.get (zzb R2)))⟩⟩
  ·cases eo
def Sv{x x0:yt}{p:xp}{f:yc}(hm:X.mg x=some (.ref f))(B:FnAt X.K X.mg x0 st ps f fd)(φ:tq X.prog X.w X.K X.mg X.base CX0 j f fd ps (spM X.K n F))(hr:tS k X.A)
 (ha:MAn X (e::es) ψ) (hj:j<=k:=by decide) (hn:(e::es).length=n:=by rfl) (hg:Gl X x:=by rfl) (hdb:(x==("__debug__":yt))=false:=by decide) (he:yj (e::es) X.env=(false,Ye e X.env)::yj es X.env:=by exact z2c rfl) (hpl:(Ym pos (yj es X.env)).any (·.1)=false:=by rfl) :
 ME X (.Call (.Name x p) (e::es) [] pos) (zB F ψ):=zdt φ (hr.mono hj) hm B.fn.kp B.bd ha hn hg hdb he hpl
@[simp] def zmo(g:GM)(G:FE)(ψ:FA):FE:=λJ O=>(G J O).bind λp=>match p.1 with
 |.loc n=>match p.2[n]? with
  |some (.dct _)=>(ψ J p.2).bind λq=>g (.loc n) q.1 q.2
  |_=>none
 |_=>none
def zow{o:yE}{ψ:FA}{name:yt}{id:String}{g:GM}{apos:xp}(slot:Slot "dict" name id)(hty:typeOf (.builtin id)=pure (.type "method_descriptor"))(hm:MtG X id g)(ho:ME X o G)(ha:MAn X (e::es) ψ)
 (hbase:YA o name X.env (Ye o X.env)=Ye o X.env:=by rfl)
 (hfew:((Ym pos (yj (e::es) X.env)).all (λx=>!x.1)&&(xR pos (YQ [] X.env)).all (λx=>x.1.isSome)
  && decide ((e::es).length+([]:List xO).length+(if([]:List xO).isEmpty then 0 else 1)<30))=true:=by rfl)
 (hline:(apos.endLine==pos.line)=true:=by rfl) (hs:yj (e::es) X.env=(false,Ye e X.env)::yj es X.env:=by rfl) (hplain:(Ym pos (yj es X.env)).any (·.1)=false:=by rfl) :
 ME X (.Call (.Attribute o name apos) (e::es) [] pos) (zmo g G ψ) :=
 zfe (zoz PySem.F.plainAttrs_dict slot hty hm ho ha.ma hbase hfew hline hs hplain) λZ J O Y H d O' Q A e k=>by
  obtain⟨⟨x,O1⟩,e1,e⟩:=zi e;refine⟨Z,J,O,x,O1,A,e1,λZ1 H1 v x1 R1 r1=>?_⟩;dsimp only at e
  split at e
  ·split at e
   ·rename_i hm'
    obtain⟨⟨ds,O2⟩,e2,e⟩:=zi e;obtain⟨a,rfl,ea⟩:=r1.tz;obtain⟨vs,e3,q3⟩:=R1.at_ _ _ _ ea hm';refine⟨.inr (.inr (.inl ⟨rfl,.inl ⟨vs,e3⟩⟩)),Z1,J,O1,ds,O2,A.ext x1 R1,e2,λZ2 H2 vs2 x2 R2 r2=>?_⟩;exact⟨Z2,_,ds,O2,d,O',r1.ext x2,r2,R2,e,λZ3 H3 v3 x3 R3 r3=>k Z3 H3 v3 (x1.trans (x2.trans x3)) R3 r3⟩
   ·cases e
  ·cases e
@[simp] def zks:GM:=λx ds O=>match ds with
 |[.int i]=>(zyb O x).bind λkvs=>some ((zgd kvs i).getD .non,O)
 |_=>none
def zdw:MtG X "dict.get" zks:=by
 refine MtG.of λU s Y H x xs v us Q I rx rs Z dx ds O d O' r1 r2 R e k=>?_;unfold zks at e
 split at e
 ·rename_i i
  obtain⟨kvs,e1,e⟩:=zi e;cases e;obtain⟨p,vs,rfl,hq,q1,q2⟩:=z3f R r1 e1;obtain⟨w,r,rfl,q3,q4⟩:=r2.cons_inv;rw[q4.nil_inv,q3.int_inv]at rs;obtain⟨u,rfl,ru⟩:=vals1 rs;cases rx;obtain⟨z,hd,us,rel,dd⟩:=zNi I.hok hq;refine call_meetsIn PySem.F.slot_dict_get dd.typeIs PySem.F.entry_dict_get (PySem.F.args_dict_get_2 _ _) (meets_dict_get (zkb X.prog X.w) p (zAs (k:=yP i) ru) hd) ⟨_,dd.mapOf,?_⟩;have rv:=rel.val (yP i)
  cases e3:zgd kvs i with
  |none=>
   rw[(zhi i q1 q2).2 e3]at rv;rw[TW.none_of rv];exact⟨.non,H,I.tok _,rfl,by have:=k Z H .non Ext.refl R;rw[e3]at this;exact this .non⟩
  |some d'=>
   obtain⟨v',ev,r'⟩:=(zhi i q1 q2).1 d' e3;rw[ev]at rv;obtain⟨u',eu,ru'⟩:=TW.some_of rv;rw[eu];exact⟨v',H,I.tok _,ru',by have:=k Z H v' Ext.refl R;rw[e3]at this;exact this r'⟩
 ·cases e
def zoy{o:yE}{ψ:FA}{apos:xp}(ho:ME X o G)(ha:MAn X (e::es) ψ)
 (hbase:YA o "get" X.env (Ye o X.env)=Ye o X.env:=by rfl)
 (hfew:((Ym pos (yj (e::es) X.env)).all (λx=>!x.1)&&(xR pos (YQ [] X.env)).all (λx=>x.1.isSome)
  && decide ((e::es).length+([]:List xO).length+(if([]:List xO).isEmpty then 0 else 1)<30))=true:=by rfl)
 (hline:(apos.endLine==pos.line)=true:=by rfl) (hs:yj (e::es) X.env=(false,Ye e X.env)::yj es X.env:=by rfl) (hplain:(Ym pos (yj es X.env)).any (·.1)=false:=by rfl) :
 ME X (.Call (.Attribute o "get" apos) (e::es) [] pos) (zmo zks G ψ):=zow PySem.F.slot_dict_get PySem.F.type_dict_get zdw ho ha hbase hfew hline hs hplain
end
structure sY(K:yx)(mg:yt->Option Value)(c:yt)(st:Yb)(ps:List yt)(C f:yc)(fd:yh):Prop where
 nm:Yk K yo c=some (some (.ref C))
 mgc:mg c=some (.ref C)
 mkc:Mk K C f
 fn:Fun K "__init__" (c ++ ".__init__") st f fd
 bd:Binds K fd ps []
section
variable {X:Cx}{e:yE}{es:List yE}{ψ:FA}{pos p:xp}{c:yt}{C g:yc}{fd:yh}{ps:List yt}{st:Yb}{j k n:Nat}{F:FF}
def mmakeA(B:sY X.K X.mg c st ps C g fd)(φ:tq X.prog X.w X.K X.mg X.base CX0 j g fd ps (spM X.K n F))(hr:tS k X.A)(ha:MAn X (e::es) ψ)
 (hj:j+1<=k:=by decide) (hn:(e::es).length+1=n:=by rfl) (hg:Gl X c:=by rfl) (hdb:(c==("__debug__":yt))=false:=by decide) (he:yj (e::es) X.env=(false,Ye e X.env)::yj es X.env:=by exact z2c rfl) (hpl:(Ym pos (yj es X.env)).any (·.1)=false:=by rfl) :
 ME X (.Call (.Name c p) (e::es) [] pos) (zvs c F ψ):=mmake B.mkc B.nm B.mgc B.bd φ hr ha hj hn hg hdb he hpl
def FnAt.al{K:yx}{mg:yt->Option Value}{x y:yt}{f:yc}(B:FnAt K mg x st ps f fd)(h:mg y=mg x):mg y=some (.ref f):=h.trans B.at_
end
def zPx:Xr (.type "list") "__getattribute__"=pure (some (.builtin "list.__getattribute__")):=by rfl
def zty:Xr (.type "list") "keys"=pure none:=by first|rfl|decide +kernel
def zFo{prog:yA}{w:yI}{A:yK}{E:Value->yd->Prop}{s:yd}{l:yc}{its:Array Value}{Q:Option Value->yd->Prop}(hh:A.handled=none){ol:YT}{nl:Nat}(hol:s.heap.get? l=some ol)(hcl:ol.cls=.type "list")(hdl:ol.data=.seq its nl)(hdn:ol.dict=none)
 (q:∀h' tk,(∀b o,s.heap.get? b=some o->h'.get? b=some o)->Q none {s with heap:=h',toks:=tk }):yn (yv prog w) A (getAttr? (.ref l) "keys") Q E s:=by
 unfold getAttr? getAttrBy? getAttrBy
 wp_walk
 rw[hcl];refine wpAny_of_eq zPx ?_;dsimp only;have e1:(onTheHeap (Yv "list")&&(xv "list.__getattribute__" == xv "object.__getattribute__"))=false:=by rfl
 rw[if_neg (by rw[e1];decide)];unfold getAttrByItsOwn hookBefore callGetattribute
 wp_walk
 refine wpAny_of_eq (PySem.F.slot_list_getattribute.bind (.ref l)) ?_;dsimp only[List.append,List.cons_append,nil_append];obtain⟨ocls,odict,odata,oslots⟩:=ol;simp only at hcl hdl hdn;subst hcl;subst hdl;subst hdn;refine Xq (YG (xk (R:=λr s'=>∃h' tk e,s.heap.NewAttrErr h' e (.ref l) "keys"/\r=.error (.ref e)/\s' = {heap:=h',gens:=s.gens,drawn:=s.drawn,toks:=tk,os:=s.os }) PySem.F.slot_list_getattribute.plain am_entry_list_getattribute (PySem.F.slot_list_getattribute.check _ _ _ _ _ _ _ _ ⟨_,hol,rfl⟩ (PySem.F.args_list_getattribute_2 _ _) ?_)) ?_)
 ·exact meets_getattribute_miss_list l its nl oslots "keys" s.toks zty (by decide +kernel) (by decide +kernel) prog w A (λr s'=>∃h' tk e,s.heap.NewAttrErr h' e (.ref l) "keys"/\r=.error (.ref e)/\s' = {heap:=h',gens:=s.gens,drawn:=s.drawn,toks:=tk,os:=s.os }) {heap:=s.heap,gens:=s.gens,drawn:=s.drawn,toks:=s.toks+1,os:=s.os } ⟨hol,hh,λh' tk e ne=>⟨h',tk,e,ne,rfl,rfl⟩⟩
 rintro r s' ⟨h',tk,e,ne,rfl,rfl⟩;dsimp only;obtain⟨t,u,he⟩:=ne.there;have sub:isSubtype (.type "AttributeError") (.type "AttributeError")=pure true:=by rfl
 unfold getattributeRaised hookBehind hookOrError attributeErrorLeaves;refine ya (Xz (T:="AttributeError") ⟨_,he,rfl⟩ sub ?_);rw[if_pos rfl];refine ya ?_;rw[if_neg (by decide)];refine wpAny_of_eq am_list_getattr_none ?_;dsimp only
 wp_walk
 exact q _ _ ne.keeps
def zKo:entryFor table "dict.update.loop"=some xh.«dict.update.loop»:=by first|rfl|kernel_rfl
def z3i:plainId "dict.update.loop"=true:=by decide +kernel
section
variable {prog:yA}{w:yI}{A:yK}{R:Result->yd->Prop}{I:yc}{fp wr:List yc}{n:Nat}{P:Nat->Value->Prop}{St:Nat->yT->Prop}
def zGo(kk:Nat->Int)(vv:Nat->Value):Nat->List (Key×Value)
 |0=>[]
 |i+1=>PySem.stored (zGo kk vv i) (yP (kk i)) (vv i)
def zSo(kk:Nat->Int)(vv:Nat->Value):∀i,(zGo kk vv i).length<=i
 |0=>yi _
 |i+1=>yF (stored_length_le _ _ _) (Nat.succ_le_succ (zSo kk vv i))
def zAu(W:Walks prog w A.in1 I fp wr n P St)(d:yc)(hdf:d∉fp)(kk:Nat->Int)(vv:Nat->Value)(tt:Nat->yc)(hP:∀i v,P i v->v=.ref (tt i))(hb:n+1<scanBound)(ht:∀i<n,tt i≠d/\tt i∉wr):∀(k i:Nat)(s:yd),n-i=k->i<=n->St i s.heap->s.heap.DictOf (zkb prog w) d (zGo kk vv i)->(∀j<n,∃tk,s.heap.IsTuple (tt j) #[.int (kk j) tk,vv j]) ->
 (∀h' tk,(∀b o,b∉d::wr->s.heap.get? b=some o->h'.get? b=some o)->h'.DictOf (zkb prog w) d (zGo kk vv n)->R (.ok (.ret .none)) {s with heap:=h',toks:=tk })->∀t0:Tok,xN (yv prog w) A (.builtin "dict.update.loop" ⟨[.ref d,.ref I,.int (i:Nat) t0,.none],[]⟩) R s:=by
 have hdw:d∉wr:=λq=>hdf (W.sub _ q);intro k
 induction k with
 |zero=>
  intro i s hk hi st hD hT hR t0;have e:i=n:=by omega
  subst e;refine YD zKo ?_;rw[Yu z3i _];show yn _ A.in1 (xW (.ref I) >>= _) _ _ s;refine ya (W.done s _ _ st λh' tk hk'=>?_);dsimp only;unfold Builtin.Dict.addKeywords
  wp_walk
  refine hR h' tk (λb o hb e=>hk' b o (λq=>hb (mem_cons_of_mem _ q)) e) ?_;obtain⟨o,es,ep,g,r⟩:=hD;exact⟨o,es,ep,hk' _ _ hdw g,r⟩
 |succ k ih=>
  intro i s hk hi st hD hT hR t0;have hlt:i<n:=by omega
  refine YD zKo ?_;rw[Yu z3i _];show yn _ A.in1 (xW (.ref I) >>= _) _ _ s;refine ya (W.item i s _ _ hlt st λv h1 tk hp st1 hk1=>?_);obtain rfl:=hP i v hp;obtain⟨tki,ot,hot,hct,nt,hdt⟩:=hT i hlt;have hot1:h1.get? (tt i)=some ot:=hk1 _ _ (ht i hlt).2 hot;show yn _ A.in1 (xt [yG (tt i)] _ >>= _) _ _ _;refine ya (yQ (ya (wpAny_tryCatch ?_)))
  have hD1:Heap.DictOf (zkb prog w) h1 d (zGo kk vv i):=by
   obtain⟨o,es,ep,g,r⟩:=hD;exact⟨o,es,ep,hk1 _ _ hdw g,r⟩
  obtain⟨ocls,odict,odata,oslots⟩:=ot;simp only at hct hdt;subst hct;subst hdt;unfold Builtin.Dict.pairItems seqItems?;refine ya (wpAny_typeOf_ref hot1 ?_);rw[if_pos (show(Yv "tuple" == Yv "list" || Yv "tuple" == Yv "tuple")=true by decide)];refine ya (ya (wpAny_load hot1 (yf (yf ?_))));show yn _ A.in1 (xt [Value.int (kk i) tki,vv i] (dictSet d (Value.int (kk i) tki) (vv i))) _ _ _;refine yQ (wpAny_dictSet_pairs (knd:=zkb prog w) (k:=yP (kk i)) (zAs (k:=.inl (kk i)) ⟨tki,rfl⟩) hD1 (λh2 hD2 sb=>?_) ?_)
  ·refine yf ⟨xi z3i _,?_⟩;refine ih (i+1) _ (by omega) hlt (W.frame _ _ _ st1 λc hc o e=>sb.extBut c o (λq=>hdf (q▸hc)) e) hD2 (λj hj=>?_) (λh3 tk3 hk3 hD3=>?_) _
   ·obtain⟨tj,oj,hoj,rj⟩:=hT j hj;exact⟨tj,oj,sb.extBut _ _ (ht j hj).1 (hk1 _ _ (ht j hj).2 hoj),rj⟩
   ·exact hR h3 tk3 (λc o hc e=>hk3 c o hc (sb.extBut c o (λq=>hc (by rw[q];exact mem_cons_self)) (hk1 c o (λq=>hc (mem_cons_of_mem _ q)) e))) hD3
  ·have:=zSo kk vv i;have:scanBound<=yD:=by decide
   omega
variable {E:Value->yd->Prop}{s:yd}
abbrev zRf:YT:={cls:=.type "dict",data:=.dict #[]}
def zHw(a:Value){Q:Value->yd->Prop}(h:Q (.ref s.heap.objs.size) {s with heap:=s.heap.push zRf }) :
 xN (yv prog w) A (.call (.builtin "dict.__new__") ⟨[.type "dict",a],[]⟩) (wants Q E) s:=by
 refine codeAny_of_tree ?_;show yn _ A.in1 (do checkBuiltinCall "dict.__new__" ⟨[.type "dict",a],[]⟩;again (.builtin "dict.__new__" ⟨[.type "dict",a],[]⟩)) _ _ s;refine ya (wpAny_of_eq (PySem.F.kt_newCall_dict_1 a) (yf ⟨xi PySem.F.kt_plain_dict_new _,YD PySem.F.kt_entry_dict_new ?_⟩));rw[Yu PySem.F.kt_plain_dict_new _];unfold xh.«dict.__new__»;have hsub:=PySem.F.kt_called_dict.sub;have hmro:=PySem.F.kt_mro_dict;obtain⟨hp,g,d,tk,os⟩:=s;dsimp only
 wp_walk
 exact h
def zSq(prog:yA)(w:yI)(s:yd)(kvs:List (Key×Value))(s':yd):Prop :=
 s'.heap.DictOf (zkb prog w) s.heap.objs.size kvs/\(∀b o,s.heap.get? b=some o->s'.heap.get? b=some o)/\∃h' tk,s' = {s with heap:=h',toks:=tk }
set_option maxHeartbeats 3200000 in
def zwp{l:yc}{ol:YT}{nl:Nat}{its:Array Value}{kk:Nat->Int}{vv:Nat->Value}{tt:Nat->yc}{Q:Value->yd->Prop}(hh:A.handled=none)(hol:s.heap.get? l=some ol)(hcl:ol.cls=.type "list")(hdl:ol.data=.seq its nl)(hdn:ol.dict=none)(hits:∀(i:Nat)(v:Value),its[i]?=some v->v=yG (tt i))(hT:∀j<its.size,∃tk,s.heap.IsTuple (tt j) #[.int (kk j) tk,vv j])(hb:its.size+1<scanBound)
 (h:∀s',zSq prog w s (zGo kk vv its.size) s'->Q (.ref s.heap.objs.size) s'):yn (yv prog w) A (call (.type "dict") [.ref l]) Q E s:=by
 obtain⟨c,tl,hmro⟩:=PySem.F.kt_called_dict.mro;have hmade:=PySem.F.kt_called_dict.made;have hsub:=PySem.F.kt_called_dict.sub;refine Xq (codeAny_of_tree ?_);show yn _ _ (callAny (.type "dict") _) _ _ _;refine yf ⟨Code.quiet_builtin _ (by decide +kernel),YD PySem.F.entry_type_call ?_⟩;rw[Around.under_plain (weight_type_call_type "dict" [.ref l] []) rfl];have t1:=PySem.F.kt_called_dict.notType;have t2:=PySem.F.kt_called_dict.canCreate;have t3:=PySem.F.kt_typeCall_dict_1 (.ref l)
 repeat (any_goals (first|assumption|wp_step))
 refine YG (zHw (w:=w) (.ref l) (E:=E) (Q:=λob s1=>ob=.ref s.heap.objs.size/\s1 = {s with heap:=s.heap.push zRf }) ⟨rfl,rfl⟩) λr s1 hr=>?_
 cases r with
 |error e=>exact hr
 |ok fl=>
  cases fl with
  |ret ob=>
   obtain⟨rfl,rfl⟩:=hr;have hS:(s.heap.push zRf).get? s.heap.objs.size=some zRf:=yp _ rfl;have hTy:Shared.TypeIs {s with heap:=s.heap.push zRf } (.ref s.heap.objs.size) "dict":=⟨_,hS,rfl⟩
   have i1:=PySem.F.kt_called_dict.init.lookup;have i2:=PySem.F.kt_called_dict.init.bind (.ref s.heap.objs.size)
   repeat (any_goals (first|assumption|wp_step))
   refine YG (xk (R:=wants (λr s2=>r=.none/\zSq prog w s (zGo kk vv its.size) s2) E) PySem.F.kt_called_dict.init.plain PySem.F.entry_dict_init (PySem.F.kt_called_dict.init.check _ _ _ _ _ _ _ _ hTy (PySem.F.args_dict_init_2 _ _) ?_)) λr2 s2 hr2=>?_
   ·obtain⟨ocls,odict,odata,oslots⟩:=ol;simp only at hcl hdl hdn;subst hcl;subst hdl;subst hdn;have hlS:l<s.heap.objs.size:=yk hol;have hol1:(s.heap.push zRf).get? l=some {cls:=.type "list",dict:=none,data:=.seq its nl,slots:=oslots }:=yb _ hol;unfold xh.«dict.__init__» Builtin.Dict.selfAndRest Builtin.Dict.updateCommon Builtin.Dict.updateFrom;generalize hGA:getAttr?=GA
    wp_walk
    subst hGA;refine zFo (by simp[hh]) hol1 rfl rfl rfl λh1 tk1 kp1=>?_;dsimp only;rw[if_pos (show(none:Option Value).isNone=true from rfl)];have hS1:=kp1 _ _ hS;have hl1:h1.IsList l its:=⟨_,kp1 _ _ hol1,rfl,nl,rfl⟩
    have hlt1:s.heap.objs.size<h1.objs.size:=yk hS1;have hne:l≠h1.objs.size:=yu (Xa hlS hlt1)
    have hSf:s.heap.objs.size∉[h1.objs.size,l]:=by
     simp only[mem_cons,not_mem_nil,or_false,not_or];exact⟨yu hlt1,yW hlS⟩
    generalize hPI:pyIter=PI
    wp_walk
    subst hPI;refine xH hl1 ?_;refine yf ⟨xi z3i _,?_⟩
    have hD0:Heap.DictOf (zkb prog w) h1 s.heap.objs.size []:=by
     obtain⟨o,es,ep,g,r⟩:=(Heap.DictOf.new (knd:=zkb prog w) s.heap:Heap.DictOf (zkb prog w) (s.heap.push zRf) s.heap.objs.size [])
     exact⟨o,es,ep,kp1 _ _ g,r⟩
    refine zAu (Walks.list (by simp[hh]) _ l hne its) s.heap.objs.size hSf kk vv tt hits hb (λj hj=>?_) (its.size-0) 0 _ (by omega) (Yt _) ⟨⟨_,yp _ rfl,rfl,rfl⟩,hl1.push _⟩ ?_ (λj hj=>?_) (λh2 tk2 hk2 hD2=>?_) _
    ·obtain⟨tk,o,ho, -⟩:=hT j hj;have:=yk ho;simp only[mem_cons,not_mem_nil,or_false];exact⟨yu this,yu (Xa this hlt1)⟩
    ·obtain⟨o,es,ep,g,r⟩:=hD0;exact⟨o,es,ep,yb _ g,r⟩
    ·obtain⟨tk,o,ho,r⟩:=hT j hj;exact⟨tk,o,yb _ (kp1 _ _ (yb _ ho)),r⟩
    ·refine⟨rfl,hD2,λb o e=>?_,h2,tk2,rfl⟩;have hlt:b<s.heap.objs.size:=yk e;refine hk2 b o ?_ (yb _ (kp1 _ _ (yb _ e)));simp only[mem_cons,not_mem_nil,or_false,not_or];exact⟨yu hlt,yu (Xa hlt hlt1)⟩
   ·cases r2 with
    |error e=>exact hr2
    |ok fl2=>
     cases fl2 with
     |ret r=>
      obtain⟨rfl,hm⟩:=hr2
      repeat (any_goals (first|assumption|wp_step))
      exact h _ hm
     |_=>exact hr2.elim
  |_=>exact hr.elim
variable {P:yA}{K:yx}{mg:yt->Option Value}{base:yT}{x qual:yt}{st:Yb}{f:yc}{fd:yh}{N ps:List yt}{k:Nat}
def fnQ(φ:Fun K x qual st f fd)(S:tu N ps (zo st))(p:FS)(h:∀(cdv:Value)(A:yK)(outer:List Env)(s:yd)(H:Hp)(E:XK)(hr:tS k (A.deeper (envOfC qual (zo st) s.heap.objs.size f cdv))),(A.deeper (envOfC qual (zo st) s.heap.objs.size f cdv)).units+64<cLine ->
 MSs (zRs CX0 P w K mg base N qual (zo st) f cdv A outer s H E).nox (zqc st) p) (hn:ps.length=n:=by rfl):tq P w K mg base CX0 (k+1) f fd ps (spM K n λds O=>zxb (p (zP N ds) O)) :=
 fnM φ S hn λcdv A outer s H E hr=>⟨p,h cdv A outer s H E hr hr.units,λ_ _ _ _ _ e=>e⟩
def fnY(φ:Fun K x qual st f fd)(S:tu N ps (zo st))(p:FS)(h:∀(cdv:Value)(A:yK)(outer:List Env)(s:yd)(H:Hp)(E:XK)(hr:tS k (A.deeper (envOfC qual (zo st) s.heap.objs.size f cdv))),(A.deeper (envOfC qual (zo st) s.heap.objs.size f cdv)).units+64<cLine ->
 MSs (zRs (CXq P w) P w K mg base N qual (zo st) f cdv A outer s H E) (zqc st) p) (hn:ps.length=n:=by rfl):tq P w K mg base (CXq P w) (k+1) f fd ps (spX K n λds O=>zzz (p (zP N ds) O)) :=
 fnX φ S hn λcdv A outer s H E hr=>⟨p,h cdv A outer s H E hr hr.units,λ_ _ _ _ e=>e⟩
variable {X:Cx}{e:yE}{es:List yE}{G ψ:FE}{pos:xp}
def zZs:D->Option (Int×D)
 |.tup [.int i,d]=>some (i,d)
 |_=>none
def zGw(kk:Nat->Int)(xx:Nat->V):Nat->List (Key×V)
 |0=>[]
 |i+1=>zJe (zGw kk xx i) (yP (kk i)) (xx i)
def z7t(kk:Nat->Int)(dd:Nat->D):Nat->List (Int×D)
 |0=>[]
 |i+1=>z5l (z7t kk dd i) (kk i) (dd i)
def zau{kk:Nat->Int}{xx:Nat->V}{vv:Nat->Value}{n:Nat}(h:∀j<n,RelV (xx j) (vv j)):∀i≤n,KV (zGw kk xx i) (zGo kk vv i)
 |0,_ =>.nil
 |i+1,hi=>(zau h i (by omega)).put _ (h i (by omega))
def zvt{K:yx}{Z:List yc}{H:Hp}{kk:Nat->Int}{xx:Nat->V}{dd:Nat->D}{n:Nat}(h:∀j<n,tx K Z H (dd j) (xx j)):∀i≤n,(zGw kk xx i).map (·.1)=(z7t kk dd i).map (λp=>yP p.1)/\tf K Z H ((z7t kk dd i).map (·.2)) ((zGw kk xx i).map (·.2))
 |0,_=>⟨rfl,.nil⟩
 |i+1,hi=>by
  obtain⟨h1,h2⟩:=zvt h i (by omega);exact⟨zki _ _ _ _ _ h1,z8u (h i (by omega)) h1 h2⟩
def pkF(ps:List (Int×D)):Nat->Int:=λi=>(ps.getD i (0,.non)).1
def pdF(ps:List (Int×D)):Nat->D:=λi=>(ps.getD i (0,.non)).2
def zQl:GL:=λds O=>match ds with
 |[.loc n]=>match O[n]? with
  |some (.lst xs)=>(xs.mapM zZs).bind λps=>bif decide (ps.length<=4000) then some (.loc O.length,O++[.dct (z7t (pkF ps) (pdF ps) ps.length)]) else none
  |_=>none
 |_=>none
def zdp:∀{xs:List D} {ps:List (Int×D)},xs.mapM zZs=some ps->xs.length=ps.length/\∀j<ps.length,xs[j]?=some (.tup [.int (pkF ps j),pdF ps j])
 |[],ps,h=>by
  cases (show some []=some ps from h);exact⟨rfl,λj hj=>absurd hj (by simp)⟩
 |x::xs,ps,h=>by
  rw[mapM_cons]at h;obtain⟨p,e1,h⟩:=zi h;obtain⟨r,e2,h⟩:=zi h;cases h;obtain⟨h1,h2⟩:=zdp (show xs.mapM zZs=some r from e2);refine⟨by simp[h1],λj hj=>?_⟩
  cases j with
  |zero=>
   unfold zZs at e1
   split at e1
   ·cases e1;rfl
   ·cases e1
  |succ j=>exact h2 j (by simpa using hj)
def zQr(kk:Nat->Int)(xx:Nat->V):∀i,(zGw kk xx i).length<=i
 |0=>yi _
 |i+1=>by
  have h1:=zQr kk xx i;have h2:=zul (zGw kk xx i) (yP (kk i)) (xx i);unfold zGw;omega
def zMk(hc:X.calm=true):tX X (.type "dict") zQl:=by
 refine tX.of λU s Y H xs us Q I r Z ds O d O' r1 R e k=>?_;unfold zQl at e
 split at e
 ·rename_i n
  split at e
  ·rename_i ys hm
   obtain⟨ps,e1,e⟩:=zi e;obtain⟨hb,e⟩:=zW e;have hb:=of_decide_eq_true hb;cases e;obtain⟨v,rr,rfl,q1,q2⟩:=r1.cons_inv;rw[q2.nil_inv]at r;obtain⟨a,rfl,ea⟩:=q1.tz;obtain⟨u,rfl,ru⟩:=vals1 r;cases ru;obtain⟨vs,hH,rep⟩:=R.at_ _ _ _ ea hm;obtain⟨its,rv,⟨o,nn,ho,hcl,hdn,hda⟩,hz⟩:=I.list (SqL.of hH);obtain⟨hl,hg⟩:=zdp e1;have hlv:ys.length=vs.length:=rep.length;have hli:vs.length=its.length:=rv.length
   have pick:∀j,∃t:yc×Value×V,j<ps.length->its[j]?=some (.ref t.1)/\(∃tk,s.heap.IsTuple t.1 #[.int (pkF ps j) tk,t.2.1])/\RelV t.2.2 t.2.1/\tx X.K Z H (pdF ps j) t.2.2:=by
    intro j
    by_cases hj:j<ps.length
    ·obtain⟨w,ew,rw⟩:=rep.get (hg j hj);obtain⟨t,zs,rfl,ht,rz⟩:=rw.tT;obtain⟨z1,rz1,rfl,r1',rz⟩:=rz.cons_inv;obtain⟨z2,rz2,rfl,r2',rz⟩:=rz.cons_inv;rw[rz.nil_inv,r1'.int_inv]at ht;obtain⟨_,jts,rj,hj'⟩:=(show tG X.prog X.w H s.heap t (.tup [.int (pkF ps j),z2]) from I.hok t _ ht)
     cases rj with
     |cons b1 rj=>
      cases rj with
      |cons b2 rj=>
       cases rj;obtain⟨tk,rfl⟩:=b1
       rename_i b2v
       obtain⟨w',ew',hr⟩:=rv.get ew;cases hr;exact⟨(t,b2v,z2),λ_=>⟨ew',⟨tk,hj'⟩,b2,r2'⟩⟩
    ·exact⟨(0,.none,.non),λh=>absurd h hj⟩
   obtain⟨f,hf⟩:=Classical.axiomOfChoice pick
   have hsz:its.toArray.size=ps.length:=by
    have:its.toArray.size=its.length:=by simp
    omega
   refine zwp (I.ok.hd hc) ho hcl hda hdn (kk:=pkF ps) (vv:=λj=>(f j).2.1) (tt:=λj=>(f j).1) (λi v ev=>?_) (λj hj=>(hf j (by omega)).2.1) (by rw[hsz];unfold scanBound;omega) λs' ⟨hD,hk,h',tk,es⟩=>?_
   ·have hlt:i<ps.length:=by
     have:=(Array.getElem?_eq_some_iff.mp ev).1;omega
    have ev:its[i]?=some v:=by simpa using ev
    rw[(hf i hlt).1]at ev;cases ev;rfl
   ·subst es;rw[hsz]at hD;have hF:=I.hok.fresh (yi s.heap.objs.size);have hl1:=zQr (pkF ps) (λj=>(f j).2.2) ps.length;have x1:Ext Z H (Z++[s.heap.objs.size]) (upd H s.heap.objs.size (.dK (zGw (pkF ps) (λj=>(f j).2.2) ps.length))):=Ext.push hF;have hrep:=zvt (K:=X.K) (kk:=pkF ps) (xx:=λj=>(f j).2.2) (dd:=pdF ps) (n:=ps.length) (λj hj=>((hf j hj).2.2.2).ext x1) ps.length (yi _);have hmi:=Yr;refine⟨.ref s.heap.objs.size,_,I.laid (a:=s.heap.objs.size) (o:=.dK (zGw (pkF ps) (λj=>(f j).2.2) ps.length)) (t':=tk) hk (yi _) ⟨by omega,beq_eq_false_iff_ne.mpr (yV (yu (big I))),_,zau (λj hj=>(hf j hj).2.2.1) ps.length (yi _),hD⟩,rfl,k _ _ _ x1 (R.push hF ⟨_,zF,hrep.1,hrep.2⟩) (.loc (zzb R))⟩
  ·cases e
 ·cases e
def zJo(kvs:List (Int×D)):List D:=kvs.map λp =>.tup [.int p.1,p.2]
section
variable {K:yx}{Z:List yc}{H H':Hp}
end
end
@[simp] theorem zBB{i j:Int}(h1:-18446744073709551616<j)(h2:j<18446744073709551616):zZh i j=true:=by
 unfold zZh;rw[decide_eq_true (p:=-(2^64)<j/\j<2^64) ⟨by omega,by omega⟩];simp
@[simp] theorem zgv{i j:Int}(h1:-18446744073709551616<i)(h2:i<18446744073709551616):zZh i j=true:=by
 unfold zZh;rw[decide_eq_true (p:=-(2^64)<i/\i<2^64) ⟨by omega,by omega⟩];simp
@[simp] theorem z8B{α:Type}(l:List α):(l.all λ_=>true)=true:=by simp
def zpy{O g:Mem}{n:Nat}(h:n<O.length):(O++g)[n]?=O[n]?:=yr h
def zPb{O g:Mem}{n:Nat}{o:tE}(h:O[n]?=some o):(O++g)[n]?=some o:=by
 rw[zpy (List.getElem?_eq_some_iff.mp h).1];exact h
mutual
def z7q:∀p:xS,p.canLay0=true->Yo p p=true
 |.none,_=>rfl
 |.bool b,_=>by simp[Yo]
 |.int b,_=>by simp[Yo]
 |.str b,_=>by simp[Yo]
 |.list xs,h=>by
  unfold Yo;exact eqvAll_refl xs (by simpa[PyData.canLay0] using h)
 |.tuple xs,h=>by
  unfold Yo;exact eqvAll_refl xs (by simpa[PyData.canLay0] using h)
 |.dict _,h=>by simp[PyData.canLay0]at h
def eqvAll_refl:∀ps:List xS,Xo ps=true->Xh ps ps=true
 |[],_=>rfl
 |p::ps,h=>by
  simp only[Xo,yH]at h;unfold Xh;rw[z7q p h.1,eqvAll_refl ps h.2];rfl
end
def zuv{x y:D}{O:Mem}{p:xS}(h1:toP O 8 x=some p)(h2:toP O 8 y=some p):gNe x y O=some (.bl false,O):=by
 unfold gNe;rw[h1,h2];simp[z7q p (zVk 8 x p h1).1]
def zhA{K:yx}{F:FF}{H:Hp}{a:yc}{ns:List Int}(hF:∃O',F [.fz (ns.map D.int)] []=some (.bl true,O'))(hO:zYA H)(hS:SqL K H a (ns.map V.int)):spM K 1 F [.ref a] H (λv _=>v=.bl true) λ_ _ _=>False:=by
 obtain⟨O',e⟩:=hF
 have fz:FzL K H a (ns.map V.int):=by
  rcases hS with (h|⟨o,h⟩)|h
  ·rcases hO a with z|⟨o,xs,z⟩
   ·rw[h]at z;cases z
   ·rw[h]at z;cases z
  ·exact .inl ⟨o,h⟩
  ·exact .inr h
 have hints:∀ns:List Int,tf K [] H (ns.map D.int) (ns.map V.int):=λns=>by
  induction ns with
  |nil=>exact .nil
  |cons i r ih=>exact .cons .int ih
 exact⟨rfl,[],[.fz (ns.map D.int)],[],.bl true,O',.cons (.fz fz (hints ns)) .nil,⟨nodup_nil,rfl,λn a o h1 _=>by simp at h1⟩,e,λZ' H' v _ _ r=>r.tN⟩
structure WE(G:FE)(J:Loc)(O:Mem)(Q:D->Mem->Prop):Prop where
 ex:∃d O',G J O=some (d,O')/\Q d O'
structure WT(G:FT)(J:Loc)(O:Mem)(Q:Bool->Mem->Prop):Prop where
 ex:∃d O',G J O=some (d,O')/\Q d O'
structure WA(G:FA)(J:Loc)(O:Mem)(Q:List D->Mem->Prop):Prop where
 ex:∃d O',G J O=some (d,O')/\Q d O'
structure WO(G:FO)(J:Loc)(O:Mem)(Q:Option Int->Mem->Prop):Prop where
 ex:∃d O',G J O=some (d,O')/\Q d O'
structure W2(g:φ2)(x y:D)(O:Mem)(Q:D->Mem->Prop):Prop where
 ex:∃d O',g x y O=some (d,O')/\Q d O'
structure WF(F:FF)(ds:List D)(O:Mem)(Q:D->Mem->Prop):Prop where
 ex:∃d O',F ds O=some (d,O')/\Q d O'
structure WM(g:GM)(x:D)(ds:List D)(O:Mem)(Q:D->Mem->Prop):Prop where
 ex:∃d O',g x ds O=some (d,O')/\Q d O'
structure WI(i:FI)(J:Loc)(O:Mem)(Q:List D->(Mem->Bool)->Mem->Prop):Prop where
 ex:∃ds ok O',i J O=some (ds,ok,O')/\Q ds ok O'
structure WG(g:FG)(d:D)(J:Loc)(O:Mem)(Q:Loc->Mem->Prop):Prop where
 ex:∃J' O',g d J O=some (J',O')/\Q J' O'
structure WGs(g:FGs)(ds:List D)(J:Loc)(O:Mem)(Q:Loc->Mem->Prop):Prop where
 ex:∃J' O',g ds J O=some (J',O')/\Q J' O'
structure WL(g:FG)(c:FT)(G:FE)(ok:Mem->Bool)(J:Loc)(xs ys:List D)(O:Mem)(Q:D->Mem->Prop):Prop where
 ex:∃d O',zkv g c G ok J xs ys O=some (d,O')/\Q d O'
def Ek(nx:Loc->Mem->Prop)(rt:D->Mem->Prop)(bk ct:Loc->Mem->Prop):Out->Prop
 |.next J O=>nx J O
 |.ret d O=>rt d O
 |.brk J O=>bk J O
 |.cont J O=>ct J O
 |.exc _ _ _=>False
structure WS(ψ:FS)(J:Loc)(O:Mem)(nx:Loc->Mem->Prop)(rt:D->Mem->Prop)(bk ct:Loc->Mem->Prop):Prop where
 ex:∃o,ψ J O=some o/\Ek nx rt bk ct o
structure WFor(g:FG)(body:FS)(ok:Mem->Bool)(xs:List D)(J:Loc)(O:Mem)(nx:Loc->Mem->Prop)(rt:D->Mem->Prop):Prop where
 ex:∃o,zsj g body ok xs J O=some o/\Ek nx rt (λ_ _=>False) (λ_ _=>False) o
def tm(O O':Mem):Prop:=∀(n:Nat)(o:tE),O[n]?=some o->O'[n]?=some o
def tm.refl{O:Mem}:tm O O:=λ_ _ h=>h
def tm.trans{O O1 O2:Mem}(a:tm O O1)(b:tm O1 O2):tm O O2:=λn o h=>b n o (a n o h)
def tm.app{O g:Mem}:tm O (O++g):=λ_ _ h=>zPb h
def tm.to{O O1 g:Mem}(a:tm O O1):tm O (O1++g):=a.trans .app
def tm.len{O O':Mem}(a:tm O O'):O.length<=O'.length:=by
 rcases Nat.lt_or_ge O'.length O.length with h|h
 ·have:=a O'.length O[O'.length] (by simp[h]);simp at this
 ·exact h
def zA{O:Mem}{o:tE}:(O++[o])[O.length]?=some o:=by simp
def zC{O:Mem}{n:Nat}{o:tE}(h:O[n]?=some o):n<O.length:=(List.getElem?_eq_some_iff.mp h).1
def zhb{O:Mem}{n m:Nat}{o o':tE}(h:O[n]?=some o)(hne:m≠n):(O.set m o')[n]?=some o:=by
 rw[yL hne];exact h
def zY{O:Mem}{n:Nat}{o o':tE}(h:O[n]?=some o):(O.set n o')[n]?=some o':=by
 rw[yO (zC h)]
def zD{O:Mem}{n:Nat}{ds:List D}(h:O[n]?=some (.lst ds)):items O (.loc n)=some ds:=by simp[h]
section
variable {G ψ χ:FE}{g g2:φ2}{J:Loc}{O:Mem}{Q:D->Mem->Prop}{i j:Int}{d x y:D}{ds xs:List D}
def WE.mono{Q':D->Mem->Prop}(h:WE G J O Q)(k:∀d O',Q d O'->Q' d O'):WE G J O Q':=let ⟨d,O',e,q⟩:=h;⟨d,O',e,k d O' q⟩
def zd{n:Nat}(h:J[n]?=some (some d))(q:Q d O):WE (zm n) J O Q:=⟨d,O,by simp[h],q⟩
def w_c(q:Q d O):WE (fC d) J O Q:=⟨d,O,rfl,q⟩
def zq(h:WE G J O λx O1=>WE ψ J O1 λy O2=>W2 g x y O2 Q):WE (zH g G ψ) J O Q:=by
 obtain⟨x,O1,e1,y,O2,e2,d,O3,e3,q⟩:=h;exact⟨d,O3,by simp[e1,e2,e3],q⟩
def zTx(h:WE G J O λx O1=>∃b,x=.bl b/\(b=true->WE ψ J O1 Q)/\(b=false->Q (.bl false) O1)):WE (z0A G ψ) J O Q:=by
 obtain⟨x,O1,e1,b,rfl,h1,h2⟩:=h
 cases b with
 |true=>obtain⟨d,O2,e2,q⟩:=h1 rfl;exact⟨d,O2,by simp[e1,e2],q⟩
 |false=>exact⟨_,O1,by simp[e1],h2 rfl⟩
def z5B(h:WE G J O λx O1=>∃b,x=.bl b/\(b=false->WE ψ J O1 Q)/\(b=true->Q (.bl true) O1)):WE (fOr G ψ) J O Q:=by
 obtain⟨x,O1,e1,b,rfl,h1,h2⟩:=h
 cases b with
 |false=>obtain⟨d,O2,e2,q⟩:=h1 rfl;exact⟨d,O2,by simp[e1,e2],q⟩
 |true=>exact⟨_,O1,by simp[e1],h2 rfl⟩
def w_not(h:WE G J O λx O1=>∃b,x=.bl b/\Q (.bl (!b)) O1):WE (zzC G) J O Q:=by
 obtain⟨x,O1,e1,b,rfl,q⟩:=h;exact⟨_,O1,by simp[e1],q⟩
def zUB(h:WE G J O λx O1=>∃i,x=.int i/\Q (.int (-i)) O1):WE (ztC G) J O Q:=by
 obtain⟨x,O1,e1,b,rfl,q⟩:=h;exact⟨_,O1,by simp[e1],q⟩
def zvh{α:FA}(h:WA α J O λds O1=>Q (.tup ds) O1):WE (z5k α) J O Q:=by
 obtain⟨x,O1,e1,q⟩:=h;exact⟨_,O1,by simp[e1],q⟩
def zni{α:FA}(h:WA α J O λds O1=>Q (.loc O1.length) (O1++[.lst ds])):WE (zRn α) J O Q:=by
 obtain⟨x,O1,e1,q⟩:=h;exact⟨_,_,by simp[e1]<;>rfl,q⟩
def zaA(h:Q (.loc O.length) (O++[.dct []])):WE zXA J O Q:=⟨_,_,rfl,h⟩
def zNz{R:Option Int->Mem->Prop}(q:R none O):WO pNo J O R:=⟨_,_,rfl,q⟩
def zNw{R:Option Int->Mem->Prop}(h:WE G J O λx O1=>∃i,x=.int i/\R (some i) O1):WO (zeB G) J O R:=by
 obtain⟨x,O1,e1,i,rfl,q⟩:=h;exact⟨_,_,by simp[e1]<;>rfl,q⟩
def zw{F:FF}{α:FA}(h:WA α J O λds O1=>WF F ds O1 Q):WE (zB F α) J O Q:=by
 obtain⟨ds,O1,e1,d,O2,e2,q⟩:=h;exact⟨d,O2,by simp[e1,e2],q⟩
def z9j{m:GM}{α:FA}(h:WE G J O λx O1=>∃n xs,x=.loc n/\O1[n]?=some (.lst xs)/\WA α J O1 λds O2=>WM m (.loc n) ds O2 Q):WE (z4h m G α) J O Q:=by
 obtain⟨x,O1,e1,n,xs,rfl,e2,ds,O2,e3,d,O3,e4,q⟩:=h;exact⟨d,O3,by simp[e1,e2,e3,e4],q⟩
def zBl{n:Nat}{fr:List Nat}{it:FI}{tg:FG}{c:FT}(h:WI it J O λds ok O1=>few ds=true/\WL tg c G ok (δC n fr J) ds [] O1 Q):WE (fLC n fr it tg c G) J O Q:=by
 obtain⟨ds,ok,O1,e1,hf,d,O2,e2,q⟩:=h;exact⟨d,O2,by unfold fLC;simp only[e1,ym,hf,cond_true];exact e2,q⟩
def zDt(h:WE G J O λx O1=>∃n ns,x=.loc n/\O1[n]?=some (.lst (ns.map .int))/\ns.length<=4000/\(uqL ns).length<64/\Q (.loc O1.length) (O1++[.lst ((zhw ns).map .int)])):WE (z8p G) J O Q:=by
 obtain⟨x,O1,e1,n,ns,rfl,e2,h1,h2,q⟩:=h;exact⟨_,_,by simp[z8p,e1,e2,h1,h2]<;>rfl,q⟩
def zO{R:Bool->Mem->Prop}(h:WE G J O λx O1=>∃b,x=.bl b/\R b O1):WT (z8 G) J O R:=by
 obtain⟨x,O1,e1,b,rfl,q⟩:=h;exact⟨_,_,by simp[e1]<;>rfl,q⟩
def z1t{c e:FT}{R:Bool->Mem->Prop}(h:WT c J O λb O1=>(b=true->WT e J O1 R)/\(b=false->R false O1)):WT (zNt c e) J O R:=by
 obtain⟨b,O1,e1,h1,h2⟩:=h
 cases b with
 |true=>obtain⟨d,O2,e2,q⟩:=h1 rfl;exact⟨d,O2,by simp[e1,e2],q⟩
 |false=>exact⟨_,O1,by simp[e1],h2 rfl⟩
def zWi{c e:FT}{R:Bool->Mem->Prop}(h:WT c J O λb O1=>(b=false->WT e J O1 R)/\(b=true->R true O1)):WT (zlq c e) J O R:=by
 obtain⟨b,O1,e1,h1,h2⟩:=h
 cases b with
 |false=>obtain⟨d,O2,e2,q⟩:=h1 rfl;exact⟨d,O2,by simp[e1,e2],q⟩
 |true=>exact⟨_,O1,by simp[e1],h2 rfl⟩
def zFh{c:FT}{R:Bool->Mem->Prop}(h:WT c J O λb O1=>R (!b) O1):WT (zHl c) J O R:=by
 obtain⟨b,O1,e1,q⟩:=h;exact⟨_,_,by simp[e1]<;>rfl,q⟩
def z9t{R:Bool->Mem->Prop}(q:R true O):WT zRh J O R:=⟨_,_,rfl,q⟩
def zx{R:List D->Mem->Prop}(q:R [] O):WA zK J O R:=⟨_,_,rfl,q⟩
def ze{α:FA}{R:List D->Mem->Prop}(h:WE G J O λx O1=>WA α J O1 λxs O2=>R (x::xs) O2):WA (zh G α) J O R:=by
 obtain⟨x,O1,e1,xs,O2,e2,q⟩:=h;exact⟨_,_,by simp[e1,e2]<;>rfl,q⟩
def zth(q:Q (.int (i+j)) O):W2 z2h (.int i) (.int j) O Q:=⟨_,_,rfl,q⟩
def zTw{l m:Nat}{as bs:List D}(h1:O[l]?=some (.lst as))(h2:O[m]?=some (.lst bs))(h:as.length+bs.length<=1000000)(q:Q (.loc O.length) (O++[.lst (as++bs)])):W2 z2h (.loc l) (.loc m) O Q:=⟨_,_,by simp[h1,h2,h]<;>rfl,q⟩
def zas(q:Q (.int (i-j)) O):W2 zVs (.int i) (.int j) O Q:=⟨_,_,rfl,q⟩
def zlm(h:zZh i j=true)(q:Q (.int (i*j)) O):W2 zik (.int i) (.int j) O Q:=⟨_,_,by simp[zik,h]<;>rfl,q⟩
def zhk(h:0<j)(q:Q (.int (i%j)) O):W2 zon (.int i) (.int j) O Q:=⟨_,_,by simp[h]<;>rfl,q⟩
def zIv(h:0<j)(h':j<1606938044258990275541962092341162602522202993782792835301376)(q:Q (.int (i / j)) O):W2 z2y (.int i) (.int j) O Q:=⟨_,_,by simp[h,h']<;>rfl,q⟩
def zSz(h:0<=j)(h1:j<=100000)(h2:i.natAbs<1606938044258990275541962092341162602522202993782792835301376)(q:Q (.int (i^j.toNat)) O):W2 zhz (.int i) (.int j) O Q:=⟨_,_,by simp only[zhz];rw[decide_eq_true ⟨h,h1,h2⟩];rfl,q⟩
def zCj{r:Int->Int->Bool}(q:Q (.bl (r i j)) O):W2 (zFm r) (.int i) (.int j) O Q:=⟨_,_,rfl,q⟩
def zic(h:items O x=some xs)(h2:atI xs i=some d)(q:Q d O):W2 gIx x (.int i) O Q:=⟨_,_,by show((items O x).bind λds=>(atI ds i).bind λd=>some (d,O))=_;rw[h,ym,h2,ym],q⟩
def zuj(q:Q (.bl (i==j)) O):W2 gEq (.int i) (.int j) O Q:=⟨_,_,by simp[gEq,toP,Yo]<;>rfl,q⟩
def zry(q:Q (.bl (!(i==j))) O):W2 gNe (.int i) (.int j) O Q:=⟨_,_,by simp[gNe,toP,Yo]<;>rfl,q⟩
def zJz{p:xS}(h1:toP O 8 x=some p)(h2:toP O 8 y=some p)(q:Q (.bl false) O):W2 gNe x y O Q:=⟨_,_,zuv h1 h2,q⟩
def zhB{p p':xS}(h1:toP O 8 x=some p)(h2:toP O 8 y=some p')(q:Q (.bl (Yo p p')) O):W2 gEq x y O Q:=⟨_,_,by simp[gEq,h1,h2]<;>rfl,q⟩
def zvC{p p':xS}(h1:toP O 8 x=some p)(h2:toP O 8 y=some p')(q:Q (.bl (!PyData.eqv p p')) O):W2 gNe x y O Q:=⟨_,_,by simp[gNe,h1,h2]<;>rfl,q⟩
def zKB{a b:Bool}(q:Q (.bl (a==b)) O):W2 gIs (.bl a) (.bl b) O Q:=⟨_,_,rfl,q⟩
def zsr{a b:Bool}(q:Q (.bl (a != b)) O):W2 z5i (.bl a) (.bl b) O Q:=⟨_,_,rfl,q⟩
def ziC(h:items O y=some xs)(h1:zed x=true)(h2:xs.all zed=true)(q:Q (.bl (xs.any λd=>eqF d x)) O):W2 gIn x y O Q:=⟨_,_,by simp only[gIn,h,ym,h1,h2,Xg,cond_true],q⟩
def zyu(h:items O y=some xs)(h1:zed x=true)(h2:xs.all zed=true)(q:Q (.bl (!xs.any λd=>eqF d x)) O):W2 zEh x y O Q:=⟨_,_,by simp only[zEh,h,ym,h1,h2,Xg,cond_true],q⟩
def z7e(h:items O x=some xs)(q:Q (.int xs.length) O):WF znk [x] O Q:=⟨_,_,by show((items O x).bind λxs=>some (D.int xs.length,O))=_;rw[h,ym],q⟩
def zbr(h:items O x=some xs)(q:Q (.loc O.length) (O++[.lst xs])):WF zss [x] O Q:=⟨_,_,by show((items O x).bind λxs=>some (D.loc O.length,O++[tE.lst xs]))=_;rw[h,ym],q⟩
def znl(h:items O x=some xs)(q:Q (.tup xs) O):WF zAh [x] O Q:=by
 refine⟨_,_,?_,q⟩;cases x<;>first|(cases h;rfl)|(simp only[zAh,h];rfl)
def zFx{c t:Ty}(h:zZA O x=some t)(q:Q (.bl (znB t c)) O):WF (z3u c) [x,.ty c.name] O Q:=⟨_,_,by simp only[z3u,beq_self_eq_true,cond_true,h,ym],q⟩
def z2A{n:Nat}{ns:List Int}(h:O[n]?=some (.lst (ns.map .int)))(q:Q (.int ns.sum) O):WF zfz [.loc n] O Q:=⟨_,_,by simp[h]<;>rfl,q⟩
def zay{n:Nat}{bs:List Bool}(h:O[n]?=some (.lst (bs.map .bl)))(q:Q (.bl (bs.all λb=>b)) O):WF zbz [.loc n] O Q:=⟨_,_,by simp[h,List.all_map,Function.comp_def],q⟩
def zfi{n:Nat}(h:O[n]?=some (.lst xs))(hl:xs.length<=1000000)(q:Q .non (O.set n (.lst (xs++[d])))):WM zxf (.loc n) [d] O Q:=⟨_,_,by simp[h,hl]<;>rfl,q⟩
def z5z{n:Nat}(h:O[n]?=some (.lst xs))(hl:xs.length+ds.length<=1000000)(q:Q .non (O.set n (.lst (xs++ds)))):WM zOy (.loc n) [.tup ds] O Q:=⟨_,_,by simp[h,hl]<;>rfl,q⟩
def zFb{F:FF}{N:List yt}{p:FS}(hF:F=λds O=>zxb (p (zP N ds) O))(h:WS p (zP N ds) O (λ_ O'=>Q .non O') Q (λ_ _=>False) λ_ _=>False):WF F ds O Q:=by
 subst hF;obtain⟨o,e,k⟩:=h
 cases o with
 |next J' O'=>exact⟨_,_,by rw[e];rfl,k⟩
 |ret d O'=>exact⟨_,_,by rw[e];rfl,k⟩
 |brk _ _=>exact k.elim
 |cont _ _=>exact k.elim
 |exc _ _ _=>exact k.elim
def zIg{α:FA}{R:List D->(Mem->Bool)->Mem->Prop}(h:WA α J O λds O1=>∃j:Int,ds=[.int j]/\-(2^62)<=j/\j<2^62/\R ((yw j.toNat).map λ(k:Nat) =>.int k) yes O1):WI (zlg α) J O R:=by
 obtain⟨ds,O1,e1,j,rfl,h1,h2,q⟩:=h;refine⟨_,_,_,?_,q⟩;unfold zlg;simp only[e1,ym];rw[decide_eq_true ⟨h1,h2⟩];rfl
def zQc{R:List D->(Mem->Bool)->Mem->Prop}(h:WE G J O λx O1=>(∃ds,x=.tup ds/\R ds yes O1)\/(∃ds,x=.fz ds/\R ds yes O1)\/∃n ds,x=.loc n/\O1[n]?=some (.lst ds)/\R ds (zTo n ds) O1):WI (zse G) J O R:=by
 obtain⟨x,O1,e1,⟨ds,rfl,q⟩|⟨ds,rfl,q⟩|⟨n,ds,rfl,e2,q⟩⟩:=h
 ·exact⟨_,_,_,by simp[e1]<;>rfl,q⟩
 ·exact⟨_,_,_,by simp[e1]<;>rfl,q⟩
 ·exact⟨_,_,_,by simp[e1,e2]<;>rfl,q⟩
def zud{n:Nat}{R:Loc->Mem->Prop}(q:R (J.set n (some d)) O):WG (gN n) d J O R:=⟨_,_,rfl,q⟩
def zdC{n:Nat}{gs:FGs}{R:Loc->Mem->Prop}(hl:ds.length=n)(h:WGs gs ds J O R):WG (gT n gs) (.tup ds) J O R:=by
 obtain⟨J',O',e,q⟩:=h;exact⟨J',O',by simp[hl,e],q⟩
def zkq{gs:FGs}{R:Loc->Mem->Prop}{a b:D}(h:WGs gs [a,b] J O R):WG (gT 2 gs) (.tup [a,b]) J O R:=zdC rfl h
def zMB{gs:FGs}{R:Loc->Mem->Prop}{a b c:D}(h:WGs gs [a,b,c] J O R):WG (gT 3 gs) (.tup [a,b,c]) J O R:=zdC rfl h
def zxo{R:Loc->Mem->Prop}(q:R J O):WGs zTh [] J O R:=⟨_,_,rfl,q⟩
def zsg{t:FG}{gs:FGs}{R:Loc->Mem->Prop}(h:WG t d J O λJ1 O1=>WGs gs ds J1 O1 R):WGs (zTb t gs) (d::ds) J O R:=by
 obtain⟨J1,O1,e1,J2,O2,e2,q⟩:=h;exact⟨J2,O2,by simp[e1,e2],q⟩
variable {nx:Loc->Mem->Prop}{rt:D->Mem->Prop}{bk ct:Loc->Mem->Prop}{p q:FS}
def zlb(h:nx J O):WS zVb J O nx rt bk ct:=⟨.next J O,rfl,h⟩
def zE(h:WS p J O (λJ' O'=>WS q J' O' nx rt bk ct) rt bk ct):WS (zcb p q) J O nx rt bk ct:=by
 obtain⟨o,e,k⟩:=h
 cases o with
 |next J' O'=>obtain⟨o2,e2,k2⟩:=k;exact⟨o2,by simp[e,e2],k2⟩
 |ret d O'=>exact⟨.ret d O',by simp only[zcb,e],k⟩
 |brk d O'=>exact⟨.brk d O',by simp only[zcb,e],k⟩
 |cont d O'=>exact⟨.cont d O',by simp only[zcb,e],k⟩
 |exc _ _ _=>exact k.elim
def zob{n:Nat}(h:WE G J O λd O'=>nx (J.set n (some d)) O'):WS (zKc n G) J O nx rt bk ct:=by
 obtain⟨d,O',e,k⟩:=h;exact⟨.next _ _,by simp only[zKc,e,ym],k⟩
def zNj{g:FG}(h:WE G J O λd O1=>WG g d J O1 nx):WS (zPp G g) J O nx rt bk ct:=by
 obtain⟨d,O1,e,J',O2,e2,k⟩:=h;exact⟨.next _ _,by simp only[zPp,e,ym,e2],k⟩
def zJi(h:WE G J O λ_ O'=>nx J O'):WS (zgk G) J O nx rt bk ct:=by
 obtain⟨d,O',e,k⟩:=h;exact⟨.next _ _,by simp only[zgk,e,ym],k⟩
def zwb(h:WE G J O rt):WS (zgc G) J O nx rt bk ct:=by
 obtain⟨d,O',e,k⟩:=h;exact⟨.ret _ _,by simp only[zgc,e,ym],k⟩
def zwh{c:FT}(h:WT c J O λb O1=>(b=true->WS p J O1 nx rt bk ct)/\(b=false->WS q J O1 nx rt bk ct)):WS (sIf c p q) J O nx rt bk ct:=by
 obtain⟨b,O1,e,h1,h2⟩:=h
 cases b with
 |true=>obtain⟨o,e2,k⟩:=h1 rfl;exact⟨o,by simp[e,e2],k⟩
 |false=>obtain⟨o,e2,k⟩:=h2 rfl;exact⟨o,by simp[e,e2],k⟩
def zbf{it:FI}{g:FG}{body:FS}(h:WI it J O λds ok O1=>WFor g body ok ds J O1 nx rt):WS (zak it g body) J O nx rt bk ct:=by
 obtain⟨ds,ok,O1,e,o,e2,k⟩:=h;refine⟨o,by simp only[zak,e,ym];exact e2,?_⟩
 cases o with
 |next _ _=>exact k
 |ret _ _=>exact k
 |brk _ _=>exact k.elim
 |cont _ _=>exact k.elim
 |exc _ _ _=>exact k.elim
def zev{g:FG}{body:FS}{ok:Mem->Bool}{nx:Loc->Mem->Prop}{rt:D->Mem->Prop}(I:Nat->Loc->Mem->Prop):∀{xs:List D} {n:Nat} {J:Loc} {O:Mem},I n J O->(∀m J O,I m J O->ok O=true) ->
 (∀(m:Nat)(x:D)(J:Loc)(O:Mem),xs[m]?=some x->I (n+m) J O->WG g x J O λJ1 O1=>WS body J1 O1 (I (n+m+1)) rt nx (I (n+m+1)))->(∀J O,I (n+xs.length) J O->nx J O)->WFor g body ok xs J O nx rt
 |[],n,J,O,h0,hok,_,hend=>⟨.next J O,by simp only[zsj,hok _ _ _ h0,cond_true],hend J O h0⟩
 |x::xs,n,J,O,h0,hok,hs,hend=>by
  obtain⟨J1,O1,e1,o,e2,k⟩:=hs 0 x J O rfl h0
  cases o with
  |next J2 O2=>
   obtain⟨o3,e3,k3⟩:=zev I (xs:=xs) (n:=n+1) (J:=J2) (O:=O2) k hok (λm y J O hy hI=>by
    have:=hs (m+1) y J O (by simpa using hy) (by rw[show n+(m+1)=n+1+m by omega];exact hI);rw[show n+(m+1)=n+1+m by omega]at this;exact this) (λJ O hI=>hend J O (by rw[length_cons,show n+(xs.length+1)=n+1+xs.length by omega];exact hI))
   exact⟨o3,by simp only[zsj,hok _ _ _ h0,cond_true,e1,ym,e2];exact e3,k3⟩
  |cont J2 O2=>
   obtain⟨o3,e3,k3⟩:=zev I (xs:=xs) (n:=n+1) (J:=J2) (O:=O2) k hok (λm y J O hy hI=>by
    have:=hs (m+1) y J O (by simpa using hy) (by rw[show n+(m+1)=n+1+m by omega];exact hI);rw[show n+(m+1)=n+1+m by omega]at this;exact this) (λJ O hI=>hend J O (by rw[length_cons,show n+(xs.length+1)=n+1+xs.length by omega];exact hI))
   exact⟨o3,by simp only[zsj,hok _ _ _ h0,cond_true,e1,ym,e2];exact e3,k3⟩
  |brk J2 O2=>exact⟨.next J2 O2,by simp only[zsj,hok _ _ _ h0,cond_true,e1,ym,e2],k⟩
  |ret d O2=>exact⟨.ret d O2,by simp only[zsj,hok _ _ _ h0,cond_true,e1,ym,e2],k⟩
  |exc _ _ _=>exact k.elim
end
def zix{g:FG}{c:FT}{G:FE}{ok:Mem->Bool}{J:Loc}{Q:D->Mem->Prop}(I:Nat->List D->Mem->Prop):∀{xs ys:List D} {n:Nat} {O:Mem},I n ys O->(∀m ys O,I m ys O->ok O=true) ->
 (∀(m:Nat)(x:D)(ys:List D)(O:Mem),xs[m]?=some x->I (n+m) ys O->WG g x J O λJ1 O1=>WT c J1 O1 λb O2=>(b=true->WE G J1 O2 λd O3=>I (n+m+1) (ys++[d]) O3)/\(b=false->I (n+m+1) ys O2)) ->
 (∀ys O,I (n+xs.length) ys O->Q (.loc O.length) (O++[.lst ys]))->WL g c G ok J xs ys O Q
 |[],ys,n,O,h0,hok,_,hend=>⟨_,_,by simp only[zkv,hok _ _ _ h0,cond_true],hend ys O h0⟩
 |x::xs,ys,n,O,h0,hok,hs,hend=>by
  obtain⟨J1,O1,e1,b,O2,e2,ht,hf⟩:=hs 0 x ys O rfl h0
  have step:∀ys2 O3,I (n+1) ys2 O3->WL g c G ok J xs ys2 O3 Q:=λys2 O3 h=>zix I (n:=n+1) h hok (λm y ys O hy hI=>by
   have:=hs (m+1) y ys O (by simpa using hy) (by rw[show n+(m+1)=n+1+m by omega];exact hI);rw[show n+(m+1)=n+1+m by omega]at this;exact this) (λys O hI=>hend ys O (by rw[length_cons,show n+(xs.length+1)=n+1+xs.length by omega];exact hI))
  cases b with
  |true=>
   obtain⟨d,O3,e3,h3⟩:=ht rfl;obtain⟨d',O4,e4,q⟩:=step _ _ h3;exact⟨d',O4,by simp only[zkv,hok _ _ _ h0,cond_true,e1,ym,e2,e3];exact e4,q⟩
  |false=>
   obtain⟨d',O4,e4,q⟩:=step _ _ (hf rfl);exact⟨d',O4,by simp only[zkv,hok _ _ _ h0,cond_true,e1,ym,e2,cond_false];exact e4,q⟩
def zJb{g:FG}{body:FS}{ok:Mem->Bool}{nx:Loc->Mem->Prop}{rt:D->Mem->Prop}{xs:List D}{J:Loc}{O:Mem}(I:Nat->Loc->Mem->Prop)(h0:I 0 J O)(hok:∀m J O,I m J O->ok O=true)
 (hs:∀(m:Nat)(x:D)(J:Loc)(O:Mem),xs[m]?=some x->I m J O->WG g x J O λJ1 O1=>WS body J1 O1 (I (m+1)) rt nx (I (m+1))) (hend:∀J O,I xs.length J O->nx J O):WFor g body ok xs J O nx rt :=
 zev I (n:=0) h0 hok (λm x J O hx h=>by
  rw[Nat.zero_add]at h ⊢;exact hs m x J O hx h) (λJ O h=>hend J O (by rw[Nat.zero_add]at h;exact h))
def zLl{g:FG}{c:FT}{G:FE}{ok:Mem->Bool}{J:Loc}{Q:D->Mem->Prop}{xs:List D}{O:Mem}(I:Nat->List D->Mem->Prop)(h0:I 0 [] O)(hok:∀m ys O,I m ys O->ok O=true)
 (hs:∀(m:Nat)(x:D)(ys:List D)(O:Mem),xs[m]?=some x->I m ys O->WG g x J O λJ1 O1=>WT c J1 O1 λb O2=>(b=true->WE G J1 O2 λd O3=>I (m+1) (ys++[d]) O3)/\(b=false->I (m+1) ys O2))
 (hend:∀ys O,I xs.length ys O->Q (.loc O.length) (O++[.lst ys])):WL g c G ok J xs [] O Q :=
 zix I (n:=0) h0 hok (λm x ys O hx h=>by
  rw[Nat.zero_add]at h ⊢;exact hs m x ys O hx h) (λys O h=>hend ys O (by rw[Nat.zero_add]at h;exact h))
def zah{j m:Nat}{x:D}(h:((yw j).map λ(k:Nat)=>D.int k)[m]?=some x):m<j/\x=.int m:=by
 have h1:=(List.getElem?_eq_some_iff.mp h).1;simp at h1;refine⟨h1,?_⟩;simp[h1]at h;exact h.symm
def z8e{α:Type}{g:FG}{c:FT}{G:FE}{ok:Mem->Bool}{J:Loc}{Q:D->Mem->Prop}{O:Mem}(e:α->D)(l:List α)(f:α->D)(p:α->Bool)(hok:∀O',tm O O'->ok O'=true)
 (hs:∀x∈l,∀O',tm O O'->WG g (e x) J O' λJ1 O1=>WT c J1 O1 λb O2=>b=p x/\tm O O2/\(b=true->WE G J1 O2 λd O3=>d=f x/\tm O O3))
 (hq:∀O',tm O O'->Q (.loc O'.length) (O'++[.lst ((l.filter p).map f)])):WL g c G ok J (l.map e) [] O Q:=by
 refine zLl (λm ys O'=>tm O O'/\ys=((l.take m).filter p).map f) ⟨.refl,by simp⟩ (λm ys O' h=>hok O' h.1) (λm x ys O' hx h=>?_) (λys O' h=>?_)
 ·rw[yg]at hx
  cases hy:l[m]? with
  |none=>rw[hy]at hx;cases hx
  |some y=>
   rw[hy]at hx;cases hx;obtain⟨J1,O1,e1,b,O2,e2,hb,k2,h3⟩:=hs y (mem_of_getElem? hy) O' h.1
   have ht:l.take (m+1)=l.take m++[y]:=by
    rw[take_succ,hy];rfl
   refine⟨J1,O1,e1,b,O2,e2,λhb1=>?_,λhb1=>⟨k2,?_⟩⟩
   ·obtain⟨d,O3,e3,rfl,k3⟩:=h3 hb1;refine⟨_,_,e3,k3,?_⟩;rw[ht,List.filter_append,map_append,<-h.2,List.filter_cons_of_pos (by rw[<-hb,hb1])];rfl
   ·rw[ht,List.filter_append,map_append,<-h.2,List.filter_cons_of_neg (by rw[<-hb,hb1];exact yB)];simp
 ·rw[length_map,take_length]at h;rw[h.2];exact hq O' h.1
def zye{α:Type}{g:FG}{G:FE}{ok:Mem->Bool}{J:Loc}{Q:D->Mem->Prop}{O:Mem}(e:α->D)(l:List α)(f:α->D)(hok:∀O',tm O O'->ok O'=true)
 (hs:∀x∈l,∀O',tm O O'->WG g (e x) J O' λJ1 O1=>WE G J1 O1 λd O3=>d=f x/\tm O O3/\tm O O1)
 (hq:∀O',tm O O'->Q (.loc O'.length) (O'++[.lst (l.map f)])):WL g zRh G ok J (l.map e) [] O Q :=
 z8e e l f (λ_=>true) hok (λx hx O' k=>by
  obtain⟨J1,O1,e1,d,O3,e3,h1,h2,h3⟩:=hs x hx O' k;exact⟨J1,O1,e1,true,O1,rfl,rfl,h3,λ_=>⟨d,O3,e3,h1,h2⟩⟩) (λO' k=>by rw[List.filter_eq_self.mpr (λ_ _=>rfl)];exact hq O' k)
def zOb{ds:List D}(h:ds.length<=1000000):few ds=true:=decide_eq_true h
def z5{n:Nat}{ds:List D}{O O':Mem}(h:O[n]?=some (.lst ds))(k:tm O O'):zTo n ds O'=true:=Th.mpr (k n _ h)
def zMy{ns:List Int}{k:Int}:k∈uqL ns↔k∈ns:=by
 unfold uqL;rw[zbt,List.mem_iff_getElem];constructor
 ·rintro⟨j,hj,h⟩;exact⟨j,hj,by simpa[hj] using h⟩
 ·rintro⟨j,hj,h⟩;exact⟨j,hj,by simpa[hj] using h⟩
def zAk{ns l:List Int}(h1:∀k,k∈l↔k∈ns)(h2:l.Pairwise (· < ·)):(uqL ns).Perm l:=by
 refine(xB (zno _ _) (h2.imp λh=>Int.ne_of_lt h)).mpr λk=>?_;rw[h1];exact zMy
def zqn{ns l:List Int}(h1:∀k,k∈l↔k∈ns)(h2:l.Pairwise (· < ·)):zhw ns=l :=
 zOc ((mergeSort_perm _ _).trans (zAk h1 h2)) (zXh _) (h2.imp λh=>Int.le_of_lt h)
end M
namespace M
open PySem PySem.Spec PyProof.Rows L2
structure KB(L:List Nat)(O O':Mem):Prop where
 len:O.length<=O'.length
 at_:∀(n:Nat)(o:tE),n∉L->O[n]?=some o->O'[n]?=some o
section
variable {L:List Nat}{O O1 O2 O':Mem}{n:Nat}{o:tE}
def KB.refl:KB L O O:=⟨yi _,λ_ _ _ h=>h⟩
def KB.trans(a:KB L O O1)(b:KB L O1 O2):KB L O O2:=⟨yF a.len b.len,λn o h e=>b.at_ n o h (a.at_ n o h e)⟩
def KB.app{g:Mem}(a:KB L O O1):KB L O (O1++g):=⟨by simp;have:=a.len;omega,λn o h e=>zPb (a.at_ n o h e)⟩
def KB.set{m:Nat}(a:KB L O O1)(h:m∈L\/O.length<=m):KB L O (O1.set m o):=⟨by simp;exact a.len,λn o' hn e=>by
 rw[yL]
 ·exact a.at_ n o' hn e
 ·rintro rfl;rcases h with h|h
  ·exact hn h
  ·exact absurd (zC e) (by omega)⟩
def KB.keep(a:KB [] O O'):tm O O':=λn o e=>a.at_ n o (by simp) e
def KB.of_keep(a:tm O O'):KB L O O':=⟨a.len,λn o _ e=>a n o e⟩
def KB.step{L':List Nat}(a:KB L O O1)(b:KB L' O1 O2)(h:∀n∈L',n∈L\/O.length<=n):KB L O O2:=⟨yF a.len b.len,λn o hn e=>b.at_ n o (λq=>by
 rcases h n q with h|h
 ·exact hn h
 ·exact absurd (zC e) (by omega)) (a.at_ n o hn e)⟩
variable {G ψ χ:FE}{g g2:φ2}{J:Loc}{Q:D->Mem->Prop}{i j:Int}{d x y:D}{ds xs:List D}
def zvr(h:WE G J O λx O1=>∃j:Int,x=.int j/\(-(2^62)<=j/\j<=1000000)/\Q (.loc O1.length) (O1++[.lst ((yw j.toNat).map λ(k:Nat) =>.int k)])):WE (z7n G) J O Q:=by
 obtain⟨x,O1,e1,j,rfl,h1,q⟩:=h;exact⟨_,_,by simp only[z7n,e1,ym];rw[decide_eq_true h1];rfl,q⟩
def zuz(q:Q (.int i) O):WF zaC [.int i] O Q:=⟨_,_,rfl,q⟩
def ziA{b:Bool}(q:Q (.int (if b then 1 else 0)) O):WF zaC [.bl b] O Q:=⟨_,_,rfl,q⟩
def zCz(q:Q (.int (if j<i then j else i)) O):WF zCB [.int i,.int j] O Q:=⟨_,_,rfl,q⟩
def zjz(q:Q (.int (if j>i then j else i)) O):WF z9A [.int i,.int j] O Q:=⟨_,_,rfl,q⟩
def zqB{c:FT}(h:WT c J O λb O1=>(b=true->WE G J O1 Q)/\(b=false->WE ψ J O1 Q)):WE (fIf c G ψ) J O Q:=by
 obtain⟨b,O1,e,h1,h2⟩:=h
 cases b with
 |true=>obtain⟨d,O2,e2,k⟩:=h1 rfl;exact⟨d,O2,by simp[e,e2],k⟩
 |false=>obtain⟨d,O2,e2,k⟩:=h2 rfl;exact⟨d,O2,by simp[e,e2],k⟩
def zUA{l:Nat}{n:Int}(h:O[l]?=some (.lst xs))(h1:n<=1000)(h2:-(2^62)<=n)(h3:xs.length<=1000)(q:Q (.loc O.length) (O++[.lst (yC n.toNat xs).flatten])):W2 zik (.loc l) (.int n) O Q :=
 ⟨_,_,by simp only[zik,h];rw[decide_eq_true ⟨h1,h2,h3⟩];rfl,q⟩
def zpB{lo hi:FO}(h:WE G J O λx O1=>WO lo J O1 λl O2=>WO hi J O2 λu O3=>∃n ds,x=.loc n/\O3[n]?=some (.lst ds)/\Q (.loc O3.length) (O3++[.lst (cutD ds l u)])):WE (fSl G lo hi) J O Q:=by
 obtain⟨x,O1,e1,l,O2,e2,u,O3,e3,n,ds,rfl,e4,q⟩:=h;exact⟨_,_,by simp[e1,e2,e3,e4]<;>rfl,q⟩
def zus{R:Loc->Mem->Prop}(h:WE G J O λx O1=>WE ψ J O1 λy O2=>∃(n:Nat)(i:Int)(zs:List D),x=.loc n/\y=.int i/\O2[n]?=some (.lst zs)/\(0<=i/\i<zs.length)/\R J (O2.set n (.lst (zs.set i.toNat d)))):WG (gAt G ψ) d J O R:=by
 obtain⟨x,O1,e1,y,O2,e2,n,i,zs,rfl,rfl,e3,hi,q⟩:=h;have e4:ixN zs.length i=some i.toNat:=by unfold ixN;rw[if_pos hi.1,if_pos hi.2]
 exact⟨_,_,by simp[e1,e2,e3,e4]<;>rfl,q⟩
end
abbrev nat(S:List Nat):List D:=S.map λ(k:Nat)=>D.int k
def zhd(a b:List Nat):nat (a++b)=nat a++nat b:=map_append
def zRg{α:Type}(f:α->Nat)(l:List α):nat (l.map f)=l.map λa=>D.int (f a:Nat):=map_map
class Enc(α:Type) where
 d:α->D
 p:α->xS
 dep:Nat
 rd:∀(O:Mem)(n:Nat)(a:α),toP O (n+dep) (d a)=some (p a)
 eq:∀a b:α,Yo (p a) (p b)=true↔a=b
instance:Enc Int:=⟨.int,.int,1,λ_ _ _=>rfl,λa b=>by simp[Yo]⟩
instance:Enc Nat:=⟨λ(k:Nat) =>.int k,λ(k:Nat) =>.int k,1,λ_ _ _=>rfl,λa b=>by simp[Yo];omega⟩
instance:Enc Bool:=⟨.bl,.bool,1,λ_ _ _=>rfl,λa b=>by simp[Yo]⟩
abbrev onD:Option Nat->D
 |none =>.non
 |some k =>.int k
instance:Enc (Option Nat):=⟨onD,fun|none =>.none|some k =>.int k,1,λ_ _ a=>by cases a<;>rfl,λa b=>by cases a<;>cases b<;>simp[Yo];omega⟩
def zYg{α:Type}[Enc α]:∀xs ys:List α,Xh (xs.map Enc.p) (ys.map Enc.p)=true↔xs=ys
 |[],[]=>by simp[Xh]
 |[],y::ys=>by simp[Xh]
 |x::xs,[]=>by simp[Xh]
 |x::xs,y::ys=>by
  rw[map_cons,map_cons,Xh,yH,Enc.eq,zYg xs ys,xF]
def SQ{α:Type}[Enc α](O:Mem)(n:Nat):∀xs:List α,(xs.map Enc.d).mapM (toP O (n+Enc.dep α))=some (xs.map Enc.p)
 |[]=>rfl
 |x::xs=>by rw[map_cons,mapM_cons,SQ O n xs,Enc.rd];rfl
instance instEncList{α:Type}[Enc α]:Enc (List α):=⟨λxs =>.tup (xs.map Enc.d),λxs =>.tuple (xs.map Enc.p),Enc.dep α+1,λO n xs=>by
 show((xs.map Enc.d).mapM (toP O (n+Enc.dep α))).bind (λps=>some (PyData.tuple ps))=_;rw[SQ];rfl,λa b=>by rw[Yo];exact zYg a b⟩
def z2q{O:Mem}{α:Type}[Enc α](a:α)(h:Enc.dep α<=8):toP O 8 (Enc.d a)=some (Enc.p a):=by
 have:=Enc.rd O (8-Enc.dep α) a;rw[Nat.sub_add_cancel h]at this;exact this
def zFi{b:Bool}{p:Prop}[Decidable p](h:b=true↔p):b=decide p:=by
 cases b<;>simp_all
section
variable {G ψ χ:FE}{g g2:φ2}{J:Loc}{O:Mem}{Q:D->Mem->Prop}{i j:Int}{d x y:D}{ds xs:List D}{α:Type}[Enc α][DecidableEq α]
def zct(a b:α)(q:Q (.bl (decide (a=b))) O)(hx:x=Enc.d a:=by rfl)(hy:y=Enc.d b:=by rfl)(h:Enc.dep α<=8:=by decide):W2 gEq x y O Q:=by
 subst hx hy;exact zhB (z2q a h) (z2q b h) (by rw[zFi (Enc.eq a b)];exact q)
def zwk{n:Nat}(as:List α)(e:O[n]?=some (.lst (as.map Enc.d)))(h:Enc.dep α<=7):toP O 8 (.loc n)=some (.list (as.map Enc.p)):=by
 show(match O[n]? with
  |some (.lst ds)=>(ds.mapM (toP O 7)).bind λps=>some (PyData.list ps)
  |_=>none)=_
 rw[e];show((as.map Enc.d).mapM (toP O 7)).bind (λps=>some (PyData.list ps))=_;have:=SQ O (7-Enc.dep α) as;rw[Nat.sub_add_cancel h]at this;rw[this];rfl
def zQB(as bs:List α){m n:Nat}(e1:O[m]?=some (.lst (as.map Enc.d)))(e2:O[n]?=some (.lst (bs.map Enc.d)))(q:Q (.bl (decide (as=bs))) O)(h:Enc.dep α<=7:=by decide):W2 gEq (.loc m) (.loc n) O Q :=
 zhB (zwk as e1 h) (zwk bs e2 h) (by rw[Yo,zFi (zYg as bs)];exact q)
def zQy(as bs:List α){m n:Nat}(e1:O[m]?=some (.lst (as.map Enc.d)))(e2:O[n]?=some (.lst (bs.map Enc.d)))(q:Q (.bl (!decide (as=bs))) O)(h:Enc.dep α<=7:=by decide):W2 gNe (.loc m) (.loc n) O Q :=
 zvC (zwk as e1 h) (zwk bs e2 h) (by rw[Yo,zFi (zYg as bs)];exact q)
def zio(S:List Nat):(nat S).all zed=true:=List.all_eq_true.mpr λx hx=>by
 obtain⟨k,_,rfl⟩:=List.mem_map.mp hx;rfl
def zWp(k:Nat):∀S:List Nat,((nat S).any λd=>eqF d (.int k))=decide (k∈S):=λS=>by
 refine zFi ?_;rw[any_eq_true];constructor
 ·rintro⟨x,hx,e⟩;obtain⟨j,hj,rfl⟩:=List.mem_map.mp hx;have h1:(j:Int)=k:=beq_iff_eq.mp (show((j:Int)==(k:Int))=true from e);have h2:j=k:=by omega
  exact h2▸hj
 ·intro h;exact⟨.int k,List.mem_map.mpr ⟨k,h,rfl⟩,(show((k:Int)==(k:Int))=true from beq_self_eq_true _)⟩
def zzB{k:Nat}{S:List Nat}(h:items O y=some (nat S))(q:Q (.bl (decide (k∈S))) O):W2 gIn (.int k) y O Q:=ziC h rfl (zio S) (by rw[zWp];exact q)
def zri{k:Nat}{S:List Nat}(h:items O y=some (nat S))(q:Q (.bl (!decide (k∈S))) O):W2 zEh (.int k) y O Q:=zyu h rfl (zio S) (by rw[zWp];exact q)
def z9s(S:List (Option Nat)):(S.map onD).all zed=true:=List.all_eq_true.mpr λx hx=>by
 obtain⟨k,_,rfl⟩:=List.mem_map.mp hx;cases k<;>rfl
def zLA(a b:Option Nat):eqF (onD a) (onD b)=decide (a=b):=by
 cases a<;>cases b<;>try rfl
 rename_i a b
 show(((a:Nat):Int)==(b:Nat))=decide (some a=some b);rw[Bool.eq_iff_iff,beq_iff_eq,decide_eq_true_iff,xm,Int.natCast_inj]
def zkx{n:Nat}{S:List Nat}(h:O[n]?=some (.lst (nat S)))(q:Q (.int (S.sum:Nat)) O):WF zfz [.loc n] O Q:=by
 refine z2A (ns:=S.map λ(k:Nat)=>(k:Int)) (by rw[h];simp) ?_
 have:(S.map λ(k:Nat)=>(k:Int)).sum=((S.sum:Nat):Int):=by
  clear h q
  induction S with
  |nil=>rfl
  |cons a S ih=>rw[map_cons,sum_cons,sum_cons,ih];omega
 rw[this];exact q
def zyi{S:List Nat}{i:Nat}(h:i<S.length):atI (nat S) (i:Int)=some (.int (S.getD i 0:Nat)):=z4b (by simp[h])
end
section
variable {G ψ χ:FE}{g g2:φ2}{J:Loc}{O:Mem}{Q:D->Mem->Prop}{i j:Int}{d x y:D}{ds xs:List D}
def zVj{R:List D->(Mem->Bool)->Mem->Prop}(h:WE G J O λx O1=>(∃ds,x=.tup ds/\R (zuh ds) yes O1)\/(∃ds,x=.fz ds/\R (zuh ds) yes O1)\/∃n ds,x=.loc n/\O1[n]?=some (.lst ds)/\R (zuh ds) (zTo n ds) O1):WI (zQn G) J O R:=by
 obtain⟨x,O1,e1,⟨ds,rfl,q⟩|⟨ds,rfl,q⟩|⟨n,ds,rfl,e2,q⟩⟩:=h
 ·exact⟨_,_,_,by simp[e1]<;>rfl,q⟩
 ·exact⟨_,_,_,by simp[e1]<;>rfl,q⟩
 ·exact⟨_,_,_,by simp[e1,e2]<;>rfl,q⟩
def zIt{α:Type}(f:α->D)(xs:List α):zuh (xs.map f)=xs.zipIdx.map λp =>.tup [.int (p.2:Nat),f p.1]:=by
 refine ext_getElem? λi=>?_;unfold zuh;simp only[yg,Xx];cases xs[i]?<;>rfl
def zTs{α:Type}{f:α->D}{xs:List α}{m:Nat}{x:D}(h:(zuh (xs.map f))[m]?=some x):∃y,xs[m]?=some y/\x=.tup [.int m,f y]:=by
 obtain⟨z,hz,rfl⟩:=zYn h;rw[yg]at hz
 cases e:xs[m]? with
 |none=>rw[e]at hz;cases hz
 |some y=>rw[e]at hz;cases hz;exact⟨y,rfl,rfl⟩
def z8x{m:GM}(h:WE G J O λx O1=>∃n xs,x=.loc n/\O1[n]?=some (.lst xs)/\WM m (.loc n) [] O1 Q):WE (zar m G) J O Q:=by
 obtain⟨x,O1,e1,n,xs,rfl,e2,d,O3,e4,q⟩:=h;exact⟨d,O3,by simp[e1,e2,e4],q⟩
def zSy{n:Nat}(h:O[n]?=some (.lst xs))(q:Q .non (O.set n (.lst []))):WM zqo (.loc n) [] O Q:=⟨_,_,by simp[h]<;>rfl,q⟩
def zJu{n:Nat}(h:O[n]?=some (.lst xs))(h1:zed d=true)(h2:xs.all zed=true)(q:Q (.int (xs.countP λy=>eqF y d:Nat)) O):WM zNk (.loc n) [d] O Q:=⟨_,_,by simp only[zNk,h,h1,h2,Xg,cond_true],q⟩
def zGt{n k:Nat}{S:List Nat}(h:O[n]?=some (.lst (nat S)))(hk:k∈S)(q:Q .non (O.set n (.lst (nat (S.erase k))))):WM zzj (.loc n) [.int k] O Q:=by
 have e1:nat S=(S.map λ(k:Nat)=>(k:Int)).map D.int:=by simp
 have e2:∀T:List Nat,(T.map λ(k:Nat)=>(k:Int)).erase (k:Int)=(T.erase k).map λ(k:Nat)=>(k:Int):=λT=>by
  induction T with
  |nil=>rfl
  |cons t T ih=>
   rw[map_cons]
   by_cases ht:t=k
   ·subst ht;simp
   ·rw[List.erase_cons_tail (by simp;omega),List.erase_cons_tail (by simpa using ht),ih];rfl
 have e3:(S.map λ(k:Nat)=>(k:Int)).contains (k:Int)=true:=by
  rw[List.contains_iff_mem];exact List.mem_map.mpr ⟨k,hk,rfl⟩
 refine⟨.non,_,?_,q⟩;simp only[zzj,h];rw[e1,zvi];simp only[ym,e3,cond_true,e2];rw[map_map];rfl
variable {nx:Loc->Mem->Prop}{rt:D->Mem->Prop}{bk ct:Loc->Mem->Prop}{p q:FS}
def zHB{i:Nat}{g:φ2}{x:D}(hx:J[i]?=some (some x))(h:WE G J O λy O1=>W2 g x y O1 λd O2=>nx (J.set i (some d)) O2):WS (zeA i g G) J O nx rt bk ct:=by
 obtain⟨y,O1,e1,d,O2,e2,k⟩:=h;exact⟨.next _ _,by simp only[zeA,hx,e1,ym,e2],k⟩
def zYz{i j:Int}{Q:D->Mem->Prop}(q:Q (.int (i+j)) O):W2 zZv (.int i) (.int j) O Q:=⟨_,_,rfl,q⟩
def zwn{c:FT}{body:FS}(I:Nat->Loc->Mem->Prop):∀{n m:Nat} {J:Loc} {O:Mem},m<n->I m J O ->
 (∀m J O,I m J O->WT c J O λb O1=>(b=true->WS body J O1 (λJ' O'=>∃m',m'<m/\I m' J' O') rt nx (λJ' O'=>∃m',m'<m/\I m' J' O'))/\(b=false->nx J O1))->WS (zBo n c body) J O nx rt bk ct
 |0,m,J,O,h,_,_=>absurd h (Nat.not_lt_zero _)
 |n+1,m,J,O,h,h0,hs=>by
  obtain⟨b,O1,e1,ht,hf⟩:=hs m J O h0
  cases b with
  |false=>exact⟨.next J O1,by show zoc c body (n+1) J O=_;simp only[zoc,e1,ym,cond_false],hf rfl⟩
  |true=>
   obtain⟨o,e2,k⟩:=ht rfl
   have step:∀J' O',(∃m',m'<m/\I m' J' O')->∃o,zoc c body n J' O'=some o/\Ek nx rt bk ct o:=λJ' O' ⟨m',hm',hI⟩=>by
    obtain⟨o,e,k⟩:=zwn I (n:=n) (m:=m') (by omega) hI hs;exact⟨o,e,k⟩
   cases o with
   |next J' O'=>obtain⟨o,e3,k3⟩:=step J' O' k;exact⟨o,by show zoc c body (n+1) J O=_;simp only[zoc,e1,ym,cond_true,e2];exact e3,k3⟩
   |cont J' O'=>obtain⟨o,e3,k3⟩:=step J' O' k;exact⟨o,by show zoc c body (n+1) J O=_;simp only[zoc,e1,ym,cond_true,e2];exact e3,k3⟩
   |brk J' O'=>exact⟨.next J' O',by show zoc c body (n+1) J O=_;simp only[zoc,e1,ym,cond_true,e2],k⟩
   |ret d O'=>exact⟨.ret d O',by show zoc c body (n+1) J O=_;simp only[zoc,e1,ym,cond_true,e2],k⟩
   |exc _ _ _=>exact k.elim
end
def zpe{α:Type}(f:α->D)(xs:List α)(d:α):zuh (xs.map f)=(yw xs.length).map λ(k:Nat) =>.tup [.int k,f (xs.getD k d)]:=by
 refine ext_getElem? λi=>?_;unfold zuh;simp only[yg,Xx]
 by_cases h:i<xs.length
 ·simp[h]
 ·simp[h]
def z2w{n:Nat}{xs:List D}{O:Mem}{Q:D->Mem->Prop}(h:O[n]?=some (.lst xs))(q:Q (.bl true) O):WF (z3u .lst) [.loc n,.ty "list"] O Q:=zFx (c:=.lst) (t:=.lst) (by simp[h]) q
def z9z{i:Int}{O:Mem}{Q:D->Mem->Prop}(q:Q (.bl true) O):WF (z3u .int) [.int i,.ty "int"] O Q:=zFx (c:=.int) (t:=.int) rfl q
def zOx{i:Int}{O:Mem}{Q:D->Mem->Prop}(q:Q (.bl false) O):WF (z3u .bl) [.int i,.ty "bool"] O Q:=zFx (c:=.bl) (t:=.int) rfl q
abbrev oiD:Option Int->D
 |none =>.non
 |some k =>.int k
instance:Enc (Option Int):=⟨oiD,fun|none =>.none|some k =>.int k,1,λ_ _ a=>by cases a<;>rfl,λa b=>by cases a<;>cases b<;>simp[Yo]⟩
def z3x:D->Bool
 |.non=>true
 |_=>false
def zNA{d:D}{O:Mem}{Q:D->Mem->Prop}(h:zed d=true)(q:Q (.bl (z3x d)) O):W2 gIs d .non O Q:=by
 cases d<;>first|exact⟨_,_,rfl,q⟩|cases h
def zJk{d:D}{O:Mem}{Q:D->Mem->Prop}(h:zed d=true)(q:Q (.bl (!z3x d)) O):W2 z5i d .non O Q:=by
 cases d<;>first|exact⟨_,_,rfl,q⟩|cases h
def ztr(a:Option Nat):zed (onD a)=true:=by cases a<;>rfl
def zZx(ds:List D)(h:Nat):Nat:=ds.countP λy=>eqF y (.int h)
def zgt(lay:List (Option Nat))(h:Nat):zZx (lay.map onD) h=lay.count (some h):=by
 unfold zZx List.count;rw[List.countP_map]
 congr 1
 funext a
 have:=zLA a (some h);show eqF (onD a) (onD (some h))=_;rw[this];exact(Bool.beq_eq_decide_eq a (some h)).symm
def zHu{n:Nat}{lay:List (Option Nat)}{h:Nat}{O:Mem}{Q:D->Mem->Prop}(e:O[n]?=some (.lst (lay.map onD)))(q:Q (.int (lay.count (some h):Nat)) O):WM zNk (.loc n) [.int h] O Q :=
 zJu e rfl (z9s lay) (by rw[show(lay.map onD).countP (λy=>eqF y (.int h))=lay.count (some h) from zgt lay h];exact q)
def zvm{n m:Nat}{p:Nat->Bool}(h:p m=true)(hlt:m<n)(hb:∀j<m,p j=false):(yw n).find? p=some m:=by
 rw[List.find?_eq_some_iff_append];refine⟨h,yw m,(List.range' (m+1) (n-m-1)),?_,λa ha=>by simp[hb a (by simpa using ha)]⟩
 have:yw n=yw m++List.range' m (n-m):=by
  have e:n=m+(n-m):=by omega
  have:=List.range'_append_1 (s:=0) (m:=m) (n:=n-m);rw[<-e]at this;rw[List.range_eq_range',List.range_eq_range',<-this];simp
 rw[this,show n-m=(n-m-1)+1 by omega,List.range'_succ];simp
def zDg{n:Nat}{p:Nat->Bool}(h:∀j<n,p j=false):(yw n).find? p=none:=by
 rw[List.find?_eq_none];intro x hx;rw[h x (by simpa using hx)];exact yB
section
variable {G ψ χ:FE}{g g2:φ2}{J:Loc}{O:Mem}{Q:D->Mem->Prop}{i j:Int}{d x y:D}{ds xs:List D}{kvs:List (Int×D)}{n:Nat}
def zac(h:O[n]?=some (.dct kvs)):zyb O (.loc n)=some kvs:=by simp[h]
def zhe(h:O[n]?=some (.dcf kvs)):zyb O (.loc n)=some kvs:=by simp[h]
def zKs(h:zyb O x=some kvs)(h2:zgd kvs i=some d)(q:Q d O):W2 zft x (.int i) O Q:=⟨_,_,by simp only[zft,h,ym,h2],q⟩
def zYw(h:zyb O y=some kvs)(q:Q (.bl (zgd kvs i).isSome) O):W2 zRo (.int i) y O Q:=⟨_,_,by simp only[zRo,h,ym],q⟩
def ziz(h:zyb O y=some kvs)(h2:kvs.all (λp=>decide (0<=p.1/\p.1<1000))=true)(q:Q (.bl false) O):W2 zRo .non y O Q:=⟨_,_,by simp only[zRo,h,ym,h2,cond_true],q⟩
def zsv(h:zyb O y=some kvs)(q:Q (.bl (!(zgd kvs i).isSome)) O):W2 zRl (.int i) y O Q:=⟨_,_,by simp only[zRl,h,ym],q⟩
def zLr{R:Loc->Mem->Prop}(h:WE G J O λx O1=>WE ψ J O1 λy O2=>∃(n:Nat)(i:Int)(kvs:List (Int×D)),x=.loc n/\y=.int i/\O2[n]?=some (.dct kvs)/\kvs.length<=1000000/\R J (O2.set n (.dct (z5l kvs i d)))):WG (zaz G ψ) d J O R:=by
 obtain⟨x,O1,e1,y,O2,e2,n,i,kvs,rfl,rfl,e3,hi,q⟩:=h;exact⟨_,_,by simp[e1,e2,e3,hi]<;>rfl,q⟩
def z3y(h:zyb O x=some kvs)(q:Q (.loc O.length) (O++[.lst (zsh kvs)])):WF zpp [x] O Q:=⟨_,_,by simp only[zpp,h,ym],q⟩
def zYx{R:List D->(Mem->Bool)->Mem->Prop}(h:WE G J O λx O1=>∃n kvs,x=.loc n/\O1[n]?=some (.dct kvs)/\R (zsh kvs) yes (O1.set n (.dcf kvs))):WI (z6l G) J O R:=by
 obtain⟨x,O1,e1,n,kvs,rfl,e2,q⟩:=h;exact⟨_,_,_,by simp[e1,e2]<;>rfl,q⟩
def zjA(h:WE G J O λx O1=>∃n ds,x=.loc n/\O1[n]?=some (.lst ds)/\Q (.loc O1.length) (O1++[.lst ds.reverse])):WE (zEv G) J O Q:=by
 obtain⟨x,O1,e1,n,ds,rfl,e2,q⟩:=h;exact⟨_,_,by simp[zEv,e1,e2]<;>rfl,q⟩
variable {ψ:FA}{c f m:yt}
def z7l(h:WE G J O λx O1=>∃n fs d,x=.loc n/\O1[n]?=some (.ins c fs)/\fs.lookup f=some d/\Q d O1):WE (zVq c f G) J O Q:=by
 obtain⟨x,O1,e,n,fs,d,rfl,h1,h2,q⟩:=h;exact⟨d,O1,by simp only[zVq,e,ym,h1,beq_self_eq_true,cond_true,h2],q⟩
def zxt{nx:Loc->Mem->Prop}{rt:D->Mem->Prop}{bk ct:Loc->Mem->Prop}(h:WE χ J O λy O1=>WE G J O1 λx O2=>∃n fs,x=.loc n/\O2[n]?=some (.ins c fs)/\fs.length<1000/\nx J (O2.set n (.ins c (zvj f y fs)))):WS (zXr c f G χ) J O nx rt bk ct:=by
 obtain⟨y,O1,e1,x,O2,e2,n,fs,rfl,h1,h2,q⟩:=h;exact⟨.next J _,by simp only[zXr,e1,e2,ym,h1,beq_self_eq_true,decide_eq_true h2,Xg,cond_true],q⟩
def zTc{R:List D->Mem->Prop}(h:WE G J O λx O1=>∃n fs,x=.loc n/\O1[n]?=some (.ins c fs)/\fs.lookup m=none/\WA ψ J O1 λds O2=>R (.loc n::ds) O2):WA (znc c m G ψ) J O R:=by
 obtain⟨x,O1,e,n,fs,rfl,h1,h2,ds,O2,e2,q⟩:=h;exact⟨_,O2,by simp only[znc,e,ym,h1,h2,beq_self_eq_true,Option.isNone_none,Xg,cond_true,e2],q⟩
def zqz{F:FF}(h:WA ψ J O λds O1=>WF F (.loc O1.length::ds) (O1++[.ins c []]) λd O2=>d=.non/\Q (.loc O1.length) O2):WE (zvs c F ψ) J O Q:=by
 obtain⟨ds,O1,e,d,O2,e2,rfl,q⟩:=h;exact⟨_,O2,by simp only[zvs,e,ym,e2],q⟩
def z5y{g:GM}(h:WE G J O λx O1=>∃n kvs,x=.loc n/\O1[n]?=some (.dct kvs)/\WA ψ J O1 λds O2=>WM g (.loc n) ds O2 Q):WE (zmo g G ψ) J O Q:=by
 obtain⟨x,O1,e,n,kvs,rfl,h1,ds,O2,e2,d,O3,e3,q⟩:=h;exact⟨d,O3,by simp only[zmo,e,ym,h1,e2,e3],q⟩
def zEA{x:D}{i:Int}{kvs:List (Int×D)}(h:zyb O x=some kvs)(q:Q ((zgd kvs i).getD .non) O):WM zks x [.int i] O Q:=⟨_,_,by simp only[zks,h,ym],q⟩
def z4B(ps:List (Int×D)):List (Int×D):=ps.foldl (λkv p=>z5l kv p.1 p.2) []
def zCr(ps:List (Int×D)):∀i≤ps.length,z7t (pkF ps) (pdF ps) i=(ps.take i).foldl (λkv p=>z5l kv p.1 p.2) []
 |0,_=>rfl
 |i+1,h=>by
  have hi:i<ps.length:=by omega
  rw[take_add_one,List.foldl_append,<-zCr ps i (by omega),yq hi];show z5l _ _ _=z5l _ _ _;unfold pkF pdF;rw[getD_eq_getElem?_getD,yq hi];rfl
def zZm:∀ps:List (Int×D),(zJo ps).mapM zZs=some ps
 |[]=>rfl
 |(i,d)::ps=>by
  have:=zZm ps;unfold zJo at this ⊢;rw[map_cons,mapM_cons,this];rfl
def zCx{n:Nat}(ps:List (Int×D))(h:O[n]?=some (.lst (zJo ps)))(hl:ps.length<=4000)(q:Q (.loc O.length) (O++[.dct (z4B ps)])):WF zQl [.loc n] O Q:=by
 refine⟨_,_,?_,q⟩;simp only[zQl,h,zZm,ym,decide_eq_true hl,cond_true];rw[zCr ps ps.length (yi _),take_length];rfl
def zlw{R:List D->(Mem->Bool)->Mem->Prop}(h:WE G J O λx O1=>∃n kvs,x=.loc n/\zyb O1 x=some kvs/\∀O2,KB [n] O1 O2->O2[n]?=some (.dcf kvs)->R (zsh kvs) yes O2):WI (z6l G) J O R:=by
 obtain⟨d,O1,e,n,kvs,rfl,h1,q⟩:=h;unfold zyb at h1;dsimp only at h1
 split at h1
 ·rename_i hm
  cases h1;exact⟨_,_,_,by simp only[z6l,e,hm,ym],q _ (KB.refl.set (.inl (by simp))) (zY hm)⟩
 ·rename_i hm
  cases h1;exact⟨_,_,_,by simp only[z6l,e,hm,ym],q _ KB.refl hm⟩
 ·cases h1
def zTv{R:List D->(Mem->Bool)->Mem->Prop}(h:WE G J O λx O1=>∃n kvs,x=.loc n/\O1[n]?=some (.dcf kvs)/\R (zsh kvs) yes O1):WI (z6l G) J O R:=by
 obtain⟨d,O1,e,n,kvs,rfl,h1,q⟩:=h;exact⟨_,_,_,by simp only[z6l,e,h1,ym],q⟩
end
end M
namespace M
open PySem PySem.W PyProof.Rows L2
def zuq{h:yT}:∀{as:List yc} {a:yc} {o:YT},(kOf as h).lookup a=some o->h.get? a=some o
 |[],a,o,e=>by cases e
 |b::as,a,o,e=>by
  unfold kOf at e;rw[filterMap_cons]at e
  cases hb:h.get? b with
  |none=>rw[hb]at e;exact zuq (as:=as) e
  |some u=>
   rw[hb]at e
   change YL a ((b,u)::kOf as h)=some o at e
   rw[lookup_cons]at e
   by_cases q:a==b
   ·rw[q]at e;cases e;rw[eq_of_beq q];exact hb
   ·rw[Bool.not_eq_true]at q;rw[q]at e;exact zuq (as:=as) e
def zBx{h:yT}:(zzA h).In h:=λ_ _ e=>zuq e
def zBw(s:Yb):zqy s=zUd s:=by cases s<;>rfl
def zXv(s:Yb):zEx s=zqc s:=by cases s<;>rfl
def zEu(s:Yb):zUu s=zo s:=by cases s<;>rfl
def zJc{K:Frag}{a:yc}{nm qual:yt}{st:Yb}(e:zAe K a qual=zUe nm qual st):∃(oc:Value)(od:Option yc)(sl:Array (Option Value)) (kV dc pm:Value) (an:Option yc) (cd ct:Value),
 K.lookup a=some ⟨oc,od,.func (fnOf nm qual (zUd st) (zqc st) (zo st) .none kV dc pm an cd ct),sl⟩/\codeIn K cd qual=true/\keepIn K (.ref a)=true:=by
 rw[<-zBw,<-zXv,<-zEu];unfold zAe at e
 split at e
 ·rename_i oc od fd sl hl
  obtain⟨x1,x2,x3,x4,x5,x6,x7,x8,x9,x10,x11,x12,x13,x14,x15⟩:=fd;have e:=Yj e;simp only[ss.mk.injEq]at e;obtain⟨rfl,rfl,rfl,rfl,rfl,rfl,rfl,rfl,rfl,h1,h2⟩:=e;exact⟨_,_,_,_,_,_,_,_,_,hl,h1,h2⟩
 ·cases e
def fnl{K:Frag}{nm:yt}{st:Yb}{l l':List (Option ss)}(e:zeb K nm::l=zfb nm st::l'):(∃(f:yc)(oc:Value)(od:Option yc)(sl:Array (Option Value)) (kV dc pm:Value) (an:Option yc) (cd ct:Value),
 nsIn K yo nm=some (some (.ref f))/\K.lookup f=some ⟨oc,od,.func (fnOf nm nm (zUd st) (zqc st) (zo st) .none kV dc pm an cd ct),sl⟩/\codeIn K cd nm=true/\keepIn K (.ref f)=true)/\l=l':=by
 obtain⟨h1,h2⟩:=ye e;refine⟨?_,h2⟩;unfold zeb at h1
 split at h1
 ·rename_i a ha
  obtain⟨oc,od,sl,kV,dc,pm,an,cd,ct,q⟩:=zJc (show zAe K a nm=zUe nm nm st from h1);exact⟨a,oc,od,sl,kV,dc,pm,an,cd,ct,ha,q⟩
 ·cases h1
def fnc{K:Frag}{nm:yt}{st:Yb}{l l':List (Option ss)}(e:zeb K nm::l=zfb nm st::l'):(∃(f:yc)(fd:yh),nsIn K yo nm=some (some (.ref f))/\Fun K nm nm st f fd)/\l=l':=by
 obtain⟨⟨f,oc,od,sl,kV,dc,pm,an,cd,ct,a,l,c,k⟩,e⟩:=fnl e;exact⟨⟨f,_,a,zHe l c k⟩,e⟩
def zEo{K:Frag}{nm:yt}{i:Int}(e:z4n K nm=some i):∃t,nsIn K yo nm=some (some (.int i t)):=by
 unfold z4n at e
 split at e
 ·rename_i h
  cases e;exact⟨_,h⟩
 ·cases e
def SR{l:OpenLaw}{q:yA}{loose:List yt}{d:DefRec}{α:Type}{obs:Frag->α}{good:α}{N:Nat}(said:l.wellSaid=true)
 (left:LeftO l.prog q loose (λ_=>true) (λs=>obs (zzA s.heap)) (λ_=>good) N) (hdef:defOf q l.name=some (d,[])) (hp:l.prog.theDef l.name=some (d.params,d.body,d.scope))
 (hk:kwWritten? d.params.kwonlyargs d.params.kw_defaults=some []) (ok:(chainsOk q&&opensWell l.prog&&(frees l.row.toRowW&&l.row.within.isEmpty))=true) (hb:l.prog.bare) (hw:l.row.toRowW.promised)
 (walk:∀K:Frag,obs K=good->WalkO q loose (λ_ _=>True) (λ_ h=>K.In h) l.row.toRowW d [] λf vs=>PySem.call f vs):l.Holds:=by
 refine holds_law said λsaid=>?_
 refine holds_open (r:=l.row) (q:=q) (loose:=loose) (Xt:=λ_=>true) (XP:=λ_ _=>True) (Yf:=λs=>obs (zzA s.heap)) (Ya:=λ_=>good) (YP:=λ_ h=>∃K:Frag,obs K=good/\K.In h) (N:=N) left
  (λw s e=>⟨_,e,zBx⟩) (λw h h' ⟨K,e,k⟩ x=>⟨K,e,k.keeps x⟩) (λ_ _=>trivial) (λ_ _ _ _ _=>trivial) hdef hp hk (λs _=>?_) ?_ said ok hb hw (λw s₀ s₁ mg mb φ σ=>?_)
 ·exact(show RecFacts [] s.heap from⟨λx h=>(nomatch h),λx h=>(nomatch h),λc c' a hc=>(nomatch hc),λc fs hf=>(nomatch hf)⟩)
 ·show(!l.row.writes||true)=true;exact Bool.or_true _
 ·obtain⟨K,e,k⟩:=σ;exact walk K e w s₀ s₁ mg mb φ k
end M
namespace M
open PySem PySem.W PyProof.Rows L2
def zaw{K:Frag}{C:yc}{n:String}{bm:List Value}(e:zFu K C=some (.type "type",n,.ref C::bm,true,false)) :
 ∃(nm q:yt)(N:yc)(bs:List Value)(sn:List yt)(sub:List Value)(ab:Bool)(col:Option Bool)(dd:Option yc)(k0 k1 k2 k3 k5:Option Value),K.lookup C=some (xl nm q C N bs bm true sn sub ab col dd k0 k1 k2 k3 k5 n):=by
 unfold zFu at e
 split at e
 ·rename_i c dd cd sl hl
  split at e
  ·rename_i k0 k1 k2 k3 m k5 hs
   obtain⟨x1,x2,x3,x4,x5,x6,x7,x8,x9,x10,x11⟩:=cd;have e:=Yj e;simp only[Prod.mk.injEq]at e;obtain⟨rfl,rfl,rfl,rfl,rfl⟩:=e;have:sl = #[k0,k1,k2,k3,some (.builtin m),k5]:=Array.toList_inj.mp hs;subst this;exact⟨_,_,_,_,_,_,_,_,_,_,_,_,_,_,hl⟩
  ·cases e
 ·cases e
def zhv{K:Frag}{C:yc}(e:(clsIn K C).isSome=true):∃cd,clsIn K C=some cd:=Option.isSome_iff_exists.mp e
end M
namespace P
local macro_rules | `(tactic| walk_at "s") => `(tactic| exact ⟨rfl, rfl, rfl, by decide +kernel, rfl, by decide +kernel, by decide +kernel⟩)
open PySem PySem.Spec PyProof.Rows L2 M
def top(i:Nat):Yb:=PySem.Challenge.pw_keynests_k53_shelves_renewed.main.body.getD i (.Pass ⟨0,0,0,0⟩)
def zzm:List yt:=["_law_script"]
def zlh:FS:=(zgc (zRn (zh (zm 0) (zh (fOr (zH gEq (zB znk (zh (zm 0) zK)) (fC (.int 0))) (zH gEq (zH zon (zH gIx (zm 0) (fC (.int 0))) (fC (.int 2))) (fC (.int 0)))) (zh (fC (.int 0)) (zh (fC (.int 0)) zK))))))
def z8g:FF:=λds O=>zxb (zlh (zP zzm ds) O)
def zkg:List yt:=["self","rule"]
def zNc:FS:=(zcb (zXr "Shelf" "kept_rule" (zm 0) (zm 1)) (zXr "Shelf" "nest_of" (zm 0) zXA))
def z8b:FF:=λds O=>zxb (zNc (zP zkg ds) O)
def zfk:List yt:=["_law_script","_law_k","_law_cell","_law_one_here","_law_two"]
def zIe:FS:=(zcb (zKc 2 (fC (.int 29))) (zcb (sIf (z8 (zH (zFm λi j=>decide (j<i)) (zB znk (zh (zm 0) zK)) (fC (.int 0)))) (zKc 2 (zH gIx (zm 0) (zH zon (zm 1) (zB znk (zh (zm 0) zK))))) zVb) (zcb (zKc 3 (zH zon (zH z2h (zH zik (zH z2h (zH z2h (zm 2) (zH zik (fC (.int 40503)) (zm 1))) (fC (.int 1))) (fC (.int 48271))) (zH zik (zm 1) (zm 1))) (fC (.int 2147483647)))) (zcb (zKc 4 (zH zon (zH z2h (zH z2h (zH zik (zm 3) (zm 3)) (zH zik (fC (.int 69621)) (zm 3))) (zH zik (fC (.int 31)) (zm 1))) (fC (.int 2147483629)))) (zgc (zH zon (zH z2h (zH z2h (zH zik (zm 4) (zm 4)) (zH zik (fC (.int 16807)) (zm 4))) (zm 1)) (fC (.int 1073741789))))))))
def zTe:FF:=λds O=>zxb (zIe (zP zfk ds) O)
def zTk:List yt:=["_law_pen_here","_law_many","_law_script","_law_is_mixed","_law_k","_law_rest"]
def zZf:FS:=(zcb (zPp (zm 0) (gTL 4 (zTb (gN 2) (zTb (gN 3) (zTb (gN 4) (zTb (gN 5) zTh)))))) (zcb (zPp (zH z2h (zm 4) (fC (.int 1))) (gAt (zm 0) (fC (.int 2)))) (zcb (sIf (z8 (zm 3)) (zgc (zH zon (zB zTe (zh (zm 2) (zh (zm 4) zK))) (zm 1))) zVb) (zcb (sIf (z8 (zH gEq (zH zon (zm 4) (fC (.int 60))) (fC (.int 0)))) (zcb (zKc 5 (fC (.int 0))) (sIf (z8 (zH (zFm λi j=>decide (i<j)) (zH z2h (zH z2y (zm 4) (fC (.int 60))) (fC (.int 1))) (zB znk (zh (zm 2) zK)))) (zKc 5 (zH gIx (zm 2) (zH z2h (zH z2y (zm 4) (fC (.int 60))) (fC (.int 1))))) zVb)) zVb) (zcb (zPp (zH z2y (zm 5) (zm 1)) (gAt (zm 0) (fC (.int 3)))) (zgc (zH zon (zm 5) (zm 1))))))))
def zJ:FF:=λds O=>zxb (zZf (zP zTk ds) O)
def zNf:FE:=(z5k (zh (zB zJ (zh (zm 1) (zh (zm 2) zK))) (zh (zB zJ (zh (zm 1) (zh (zm 2) zK))) zK)))
def zzf:FE:=(zB zJ (zh (zm 1) (zh (zm 2) zK)))
def z1k:List yt:=["_law_pen_here","_law_nests","_law_wide","_law_rooms","_law_far"]
def zSf:FS:=(zcb (zKc 1 (zH z2h (fC (.int 1)) (zB zJ (zh (zm 0) (zh (fC (.int 6)) zK))))) (zcb (sIf (z8 (zH gEq (zB zJ (zh (zm 0) (zh (fC (.int 8)) zK))) (fC (.int 5)))) (zKc 1 (zH z2h (fC (.int 5)) (zB zJ (zh (zm 0) (zh (fC (.int 6)) zK))))) zVb) (zcb (zKc 2 (zH gIx (zRn (zh (fC (.int 2)) (zh (fC (.int 3)) (zh (fC (.int 3)) (zh (fC (.int 10)) zK))))) (zB zJ (zh (zm 0) (zh (fC (.int 4)) zK))))) (zcb (zKc 3 (zB zAh (zh (fLC 1 [0,2] (zlg (zh (zm 1) zK)) (gN 0) zRh zzf) zK))) (zcb (zKc 4 (zH gIx (zRn (zh (fC (.int 10007)) (zh (fC (.int 10007)) (zh (fC (.int 12)) zK)))) (zB zJ (zh (zm 0) (zh (fC (.int 3)) zK))))) (zgc (z5k (zh (zm 3) (zh (zB zAh (zh (fLC 1 [0,4] (zlg (zh (zH z2h (fC (.int 2)) (zB zJ (zh (zm 0) (zh (fC (.int 2)) zK)))) zK)) (gN 0) zRh zNf) zK)) zK)))))))))
def zue:FF:=λds O=>zxb (zSf (zP z1k ds) O)
def zhl:List yt:=["self","key"]
def zuf:FS:=(zgc (zH zRo (zm 1) (zVq "Shelf" "nest_of" (zm 0))))
def zjd:FF:=λds O=>zxb (zuf (zP zhl ds) O)
def znp:FE:=(zm 0)
def zru:FT:=(z8 (zH gEq (zm 1) (zm 2)))
def zMu:List yt:=["laying","nest"]
def zsn:FS:=(zgc (fLC 2 [1] (zQn (zm 0)) (gT 2 (zTb (gN 0) (zTb (gN 1) zTh))) zru znp))
def zjn:FF:=λds O=>zxb (zsn (zP zMu ds) O)
def zwi:FS:=(sIf (z8 (zH zRl (zm 4) (zm 3))) (zcb (zPp (z5k (zh (zm 7) (zh (zH gIx (zm 5) (zm 6)) zK))) (zaz (zm 3) (zm 4))) (zgk (z4h zxf (zm 5) (zh (zm 4) zK)))) zVb)
def zWf:FS:=(zak (zse (zH gIx (zH gIx (zm 0) (fC (.int 1))) (zm 7))) (gN 4) zwi)
def zqj:FS:=(zcb (zak (zse (zB zjn (zh (zm 1) (zh (zH gIx (zm 5) (zm 6)) zK)))) (gN 7) zWf) (zeA 6 zZv (fC (.int 1))))
def zji:FS:=(zPp (z5k (zh (zm 2) (zh (fC .non) zK))) (zaz (zm 3) (zm 4)))
def zWl:List yt:=["web","laying","key","pushes","nest","nests","at","other"]
def zCf:FS:=(zcb (zKc 3 zXA) (zcb (zak (zse (zH gIx (zH gIx (zm 0) (fC (.int 1))) (zm 2))) (gN 4) zji) (zcb (zKc 5 (zB zpp (zh (zm 3) zK))) (zcb (zKc 6 (fC (.int 0))) (zcb (zBo 100000 (z8 (zH (zFm λi j=>decide (i<j)) (zm 6) (zB znk (zh (zm 5) zK)))) zqj) (zgc (zm 3)))))))
def zYf:FF:=λds O=>zxb (zCf (zP zWl ds) O)
def zAw:FE:=(zH zVs (zm 1) (z4h zNk (zm 2) (zh (zm 0) zK)))
def z7w:List yt:=["web","laying"]
def z1m:FS:=(zgc (fLC 2 [1] (zQn (zH gIx (zm 0) (fC (.int 0)))) (gT 2 (zTb (gN 0) (zTb (gN 1) zTh))) zRh zAw))
def z4i:FF:=λds O=>zxb (z1m (zP z7w ds) O)
def zqm:FS:=(zcb (zgk (z4h zxf (zm 2) (zh (z5k (zh (zH gIx (zH zft (zm 0) (zm 1)) (fC (.int 0))) (zh (zm 1) zK))) zK))) (zKc 1 (zH gIx (zH zft (zm 0) (zm 1)) (fC (.int 1)))))
def znr:List yt:=["pushes","nest","row"]
def zCk:FS:=(zcb (zKc 2 (zRn zK)) (zcb (zBo 100000 (z8 (zH z5i (zm 1) (fC .non))) zqm) (zgc (zEv (zm 2)))))
def zLk:FF:=λds O=>zxb (zCk (zP znr ds) O)
def ztm:FE:=(zm 0)
def zum:FT:=(zlq (z8 (zH gEq (zm 0) (zm 2))) (z8 (zH zRo (zm 1) (zm 3))))
def zom:FS:=(sIf (z8 (zH (zFm λi j=>decide (j<i)) (zH gIx (zm 4) (zm 5)) (fC (.int 0)))) (zgc (z5k (zh (fC (.str "put")) (zh (zB zLk (zh (zm 3) (zh (zm 5) zK))) zK)))) zVb)
def zxr:List yt:=["web","laying","key","pushes","room","nest"]
def zzk:FS:=(zcb (zKc 3 (zB zYf (zh (zm 0) (zh (zm 1) (zh (zm 2) zK))))) (zcb (zKc 4 (zB z4i (zh (zm 0) (zh (zm 1) zK)))) (zcb (zak (z6l (zm 3)) (gN 5) zom) (zgc (z5k (zh (fC (.str "full")) (zh (fLC 2 [2,3] (zQn (zm 1)) (gT 2 (zTb (gN 0) (zTb (gN 1) zTh))) zum ztm) zK)))))))
def zTf:FF:=λds O=>zxb (zzk (zP zxr ds) O)
def zof:List yt:=["self"]
def zwc:FS:=(zgc (zB zWk (zh (zVq "Shelf" "nest_of" (zm 0)) zK)))
def zG:FF:=λds O=>zxb (zwc (zP zof ds) O)
def zIo:FE:=(zH zon (zH zon (zH z2h (zH zik (zH gIx (zm 0) (fC (.int 0))) (zm 1)) (zH gIx (zm 0) (fC (.int 1)))) (fC (.int (10007)))) (zm 2))
def z3s:List yt:=["rule","key","nests"]
def zxn:FS:=(zcb (zKc 2 (zB znk (zh (zH gIx (zm 0) (fC (.int 0))) zK))) (zgc (zB zAh (zh (fLC 1 [1,2] (zse (zH gIx (zm 0) (fC (.int 1)))) (gN 0) zRh zIo) zK))))
def zVn:FF:=λds O=>zxb (zxn (zP z3s ds) O)
def zen:FE:=(zB zVn (zh (zm 1) (zh (zm 0) zK)))
def zNq:List yt:=["rule","keys"]
def zrk:FS:=(zgc (z5k (zh (zH gIx (zm 0) (fC (.int 0))) (zh (zB zAh (zh (fLC 1 [0] (zse (zm 1)) (gN 0) zRh zen) zK)) zK))))
def z1d:FF:=λds O=>zxb (zrk (zP zNq ds) O)
def zfg:FE:=(zH zft (zVq "Shelf" "nest_of" (zm 1)) (zm 0))
def zIh:List yt:=["self"]
def zBd:FS:=(zgc (fLC 1 [0] (zse (zB zG (znc "Shelf" "all_there" (zm 0) zK))) (gN 0) zRh zfg))
def zLb:FF:=λds O=>zxb (zBd (zP zIh ds) O)
def zXd:FS:=(zPp (zH gIx (zm 5) (fC (.int 1))) (zaz (zVq "Shelf" "nest_of" (zm 0)) (zH gIx (zm 5) (fC (.int 0)))))
def zbe:FE:=(z5k (zh (zH gIx (zm 1) (zH gIx (zm 0) (fC (.int 0)))) (zh (zH gIx (zm 0) (fC (.int 1))) zK)))
def z3d:FE:=(zH gIx (zm 1) (zm 0))
def zCl:List yt:=["self","key","keys","told","row","push"]
def ztf:FS:=(zcb (sIf (z8 (zB zjd (znc "Shelf" "has" (zm 0) (zh (zm 1) zK)))) (zKr "Twice" (zh (fC (.str "the key is there already")) zK)) zVb) (zcb (zKc 2 (zH z2h (zB zG (znc "Shelf" "all_there" (zm 0) zK)) (zRn (zh (zm 1) zK)))) (zcb (sIf (z8 (zH (zFm λi j=>decide (j<i)) (zB znk (zh (zm 2) zK)) (fC (.int (30))))) (z9e "Full" "some" (zh (zB zli (zh (zm 2) zK)) zK)) zVb) (zcb (zKc 3 (zB zTf (zh (zB z1d (zh (zVq "Shelf" "kept_rule" (zm 0)) (zh (zm 2) zK))) (zh (zH z2h (zB zLb (znc "Shelf" "laying" (zm 0) zK)) (zRn (zh (fC .non) zK))) (zh (zH zVs (zB znk (zh (zm 2) zK)) (fC (.int 1))) zK))))) (zcb (sIf (z8 (zH gEq (zH gIx (zm 3) (fC (.int 0))) (fC (.str "full")))) (z9e "Full" "some" (zh (zB zli (zh (fLC 1 [2] (zse (zH gIx (zm 3) (fC (.int 1)))) (gN 0) zRh z3d) zK)) zK)) zVb) (zcb (zKc 4 (fLC 1 [2] (zse (zH gIx (zm 3) (fC (.int 1)))) (gN 0) zRh zbe)) (zcb (zak (zse (zm 4)) (gN 5) zXd) (zgc (zm 4)))))))))
def zme:FX:=λds O=>zzz (ztf (zP zCl ds) O)
def zzu:FS:=(sIf (z8 (zH (zFm λi j=>decide (i<j)) (zm 4) (fC (.int 0)))) (zgc (z5k (zh (fC (.str "room")) (zh (zm 3) zK)))) zVb)
def z2u:FS:=(sIf (zNt (z8 (zH z5i (zm 3) (fC .non))) (z8 (zH zEh (zm 3) (zH gIx (zH gIx (zm 0) (fC (.int 1))) (zm 2))))) (zgc (z5k (zh (fC (.str "home")) (zh (zm 2) zK)))) zVb)
def zPt:List yt:=["web","laying","key","nest","room"]
def zTn:FS:=(zcb (zak (zQn (zm 1)) (gT 2 (zTb (gN 2) (zTb (gN 3) zTh))) z2u) (zcb (zak (zQn (zB z4i (zh (zm 0) (zh (zm 1) zK)))) (gT 2 (zTb (gN 3) (zTb (gN 4) zTh))) zzu) (zgc (fC .non))))
def zvn:FF:=λds O=>zxb (zTn (zP zPt ds) O)
def zGl:FE:=(zH gIx (zm 0) (fC (.int 0)))
def zZo:List yt:=["web","laying","row","at","key"]
def zVi:FS:=(zcb (zKc 4 (zH gIx (zH gIx (zm 2) (zm 3)) (fC (.int 0)))) (zcb (sIf (zlq (z8 (zH (zFm λi j=>decide (i<j)) (zm 4) (fC (.int 0)))) (z8 (zH (zFm λi j=>decide (j<=i)) (zm 4) (zB znk (zh (zm 1) zK))))) (zgc (fC (.bl false))) zVb) (zcb (sIf (zlq (z8 (zH zEh (zH gIx (zH gIx (zm 2) (zm 3)) (fC (.int 1))) (zH gIx (zH gIx (zm 0) (fC (.int 1))) (zm 4)))) (z8 (zH gEq (zH gIx (zH gIx (zm 2) (zm 3)) (fC (.int 1))) (zH gIx (zm 1) (zm 4))))) (zgc (fC (.bl false))) zVb) (zgc (zH zEh (zm 4) (fLC 1 [] (zse (fSl (zm 2) pNo (zeB (zm 3)))) (gN 0) zRh zGl))))))
def zti:FF:=λds O=>zxb (zVi (zP zZo ds) O)
def zUo:List yt:=["laying","key","row","at"]
def z9i:FS:=(zcb (sIf (z8 (zH gEq (zm 3) (fC (.int 0)))) (zgc (zH gEq (zH gIx (zH gIx (zm 2) (fC (.int 0))) (fC (.int 0))) (zm 1))) zVb) (zgc (zH gEq (zH gIx (zm 0) (zH gIx (zH gIx (zm 2) (zm 3)) (fC (.int 0)))) (zH gIx (zH gIx (zm 2) (zH zVs (zm 3) (fC (.int 1)))) (fC (.int 1))))))
def zHi:FF:=λds O=>zxb (z9i (zP zUo ds) O)
def zpm:FS:=(zcb (sIf (zHl (zNt (z8 (zB zti (zh (zm 0) (zh (zm 1) (zh (zm 3) (zh (zm 5) zK)))))) (z8 (zB zHi (zh (zm 1) (zh (zm 2) (zh (zm 3) (zh (zm 5) zK)))))))) zEt zVb) (zPp (zH gIx (zm 6) (fC (.int 1))) (gAt (zm 4) (zH gIx (zm 6) (fC (.int 0))))))
def zer:List yt:=["web","laying","key","row","behind","at","push"]
def zBk:FS:=(zcb (zKc 4 (zB zss (zh (zm 1) zK))) (zcb (zak (zQn (zm 3)) (gT 2 (zTb (gN 5) (zTb (gN 6) zTh))) zpm) (zcb (sIf (zlq (z8 (zH gEq (zB znk (zh (zm 3) zK)) (fC (.int 0)))) (z8 (zH z5i (zB zvn (zh (zm 0) (zh (zm 4) zK))) (fC .non)))) zEt zVb) (zgc (zm 4)))))
def zFk:FF:=λds O=>zxb (zBk (zP zer ds) O)
def zEi:FS:=(zcb (zKc 5 (zB zTf (zh (zm 0) (zh (zm 1) (zh (zm 4) zK))))) (sIf (z8 (zH gEq (zH gIx (zm 5) (fC (.int 0))) (fC (.str "put")))) (zKc 1 (zB zFk (zh (zm 0) (zh (zm 1) (zh (zm 4) (zh (zH gIx (zm 5) (fC (.int 1))) zK)))))) (zgk (z4h zOy (zm 3) (zh (zH gIx (zm 5) (fC (.int 1))) zK)))))
def zxl:List yt:=["web","laying","keys","crowded","key","told"]
def zPf:FS:=(zcb (zKc 3 (zRn zK)) (zcb (zak (zse (zm 2)) (gN 4) zEi) (zgc (z5k (zh (zm 1) (zh (z8p (zm 3)) zK))))))
def zBf:FF:=λds O=>zxb (zPf (zP zxl ds) O)
def z7i:List yt:=["web"]
def zee:FS:=(zgc (zB zBf (zh (zm 0) (zh (zH zik (zRn (zh (fC .non) zK)) (zB znk (zh (zH gIx (zm 0) (fC (.int 1))) zK))) (zh (z7n (zB znk (zh (zH gIx (zm 0) (fC (.int 1))) zK))) zK)))))
def z7d:FF:=λds O=>zxb (zee (zP z7i ds) O)
def zkl:FE:=(zH gIx (zH gIx (zm 1) (fC (.int 0))) (zm 0))
def zWo:List yt:=["web","nests"]
def zpi:FS:=(zgc (zB zfz (zh (fLC 1 [0] (zse (zm 1)) (gN 0) zRh zkl) zK)))
def zzi:FF:=λds O=>zxb (zpi (zP zWo ds) O)
def z6j:FS:=(zgk (z4h zOy (zm 2) (zh (zH gIx (zH gIx (zm 0) (fC (.int 1))) (zm 3)) zK)))
def zWm:List yt:=["web","some","found","key"]
def z4g:FS:=(zcb (zKc 2 (zRn zK)) (zcb (zak (zse (zm 1)) (gN 3) z6j) (zgc (z8p (zm 2)))))
def zrh:FF:=λds O=>zxb (z4g (zP zWm ds) O)
def zCm:List yt:=["web","some"]
def z1g:FS:=(zgc (zH (zFm λi j=>decide (i<j)) (zB zzi (zh (zm 0) (zh (zB zrh (zh (zm 0) (zh (zm 1) zK))) zK))) (zB znk (zh (zm 1) zK))))
def zfh:FF:=λds O=>zxb (z1g (zP zCm ds) O)
def zdj:FE:=(zm 0)
def zhn:FT:=(z8 (zH gNe (zm 0) (zm 1)))
def zhj:FS:=(sIf (z8 (zB zfh (zh (zm 0) (zh (fLC 1 [2] (zse (zm 1)) (gN 0) zhn zdj) zK)))) (zgc (zm 2)) zVb)
def zPk:List yt:=["web","some","key"]
def zvf:FS:=(zcb (zak (zse (zm 1)) (gN 2) zhj) (zgc (fC .non)))
def zze:FF:=λds O=>zxb (zvf (zP zPk ds) O)
def zil:FS:=(zcb (zgk (z4h zzj (zm 2) (zh (zm 3) zK))) (zKc 3 (zB zze (zh (zm 0) (zh (zm 2) zK)))))
def ztp:List yt:=["web","some","rest","spare"]
def zTi:FS:=(zcb (zKc 2 (zB zss (zh (zm 1) zK))) (zcb (zKc 3 (zB zze (zh (zm 0) (zh (zm 2) zK)))) (zcb (zBo 100000 (z8 (zH z5i (zm 3) (fC .non))) zil) (zgc (zm 2)))))
def zXi:FF:=λds O=>zxb (zTi (zP ztp ds) O)
def zWq:List yt:=["web","told"]
def zvk:FS:=(zcb (zKc 1 (zB z7d (zh (zm 0) zK))) (zcb (sIf (z8 (zH gEq (zH gIx (zm 1) (fC (.int 1))) (zRn zK))) (zgc (z5k (zh (fC (.str "fits")) (zh (zH gIx (zm 1) (fC (.int 0))) zK)))) zVb) (zgc (z5k (zh (fC (.str "crowd")) (zh (zB zXi (zh (zm 0) (zh (zH gIx (zm 1) (fC (.int 1))) zK))) zK))))))
def zsk:FF:=λds O=>zxb (zvk (zP zWq ds) O)
def zwg:FS:=(zPp (zH gIx (zH gIx (zm 3) (fC (.int 1))) (zm 4)) (zaz (zVq "Shelf" "nest_of" (zm 0)) (zm 5)))
def zFg:FE:=(zH gIx (zm 1) (zm 0))
def zKi:List yt:=["self","rule","keys","told","place","key"]
def z5d:FS:=(zcb (zKc 2 (zB zG (znc "Shelf" "all_there" (zm 0) zK))) (zcb (zKc 3 (zB zsk (zh (zB z1d (zh (zm 1) (zh (zm 2) zK))) zK))) (zcb (sIf (z8 (zH gEq (zH gIx (zm 3) (fC (.int 0))) (fC (.str "crowd")))) (z9e "Full" "some" (zh (fLC 1 [2] (zse (zH gIx (zm 3) (fC (.int 1)))) (gN 0) zRh zFg) zK)) zVb) (zcb (zXr "Shelf" "kept_rule" (zm 0) (zm 1)) (zak (zQn (zm 2)) (gT 2 (zTb (gN 4) (zTb (gN 5) zTh))) zwg)))))
def z6d:FX:=λds O=>zzz (z5d (zP zKi ds) O)
def zKh:List yt:=["_law_shelf","_law_rule_here","_law_told_back","_law_some","e"]
def zyd:FS:=(zcb (zKc 2 (fC (.str "nothing"))) (zcb (zKc 3 (fC .non)) (zcb (zQt (z1x 2 z6d (znc "Shelf" "renew" (zm 0) (zh (zm 1) zK))) (hAs 4 [("Twice",false),("Full",true)] (zKc 3 (fAt "Full" "some" (zm 4))) zZy)) (zgc (z5k (zh (zm 2) (zh (zm 3) zK)))))))
def zvd:FF:=λds O=>zxb (zyd (zP zKh ds) O)
def zAi:FE:=(zm 0)
def zsi:FT:=(z8 (zH gEq (zm 0) (zm 1)))
def zNl:List yt:=["_law_web","_law_laying","_law_nest"]
def zLf:FS:=(zgc (zH zVs (zH gIx (zH gIx (zm 0) (fC (.int 0))) (zm 2)) (zB znk (zh (fLC 1 [2] (zse (zm 1)) (gN 0) zsi zAi) zK))))
def zmd:FF:=λds O=>zxb (zLf (zP zNl ds) O)
def zag(φ:FF):FE:=(zm 0)
def zjg(φ:FF):FT:=(z8 (zH gEq (zH gIx (zm 1) (zm 0)) (zm 2)))
def zeg(φ:FF):FS:=(sIf (z8 (zB φ (zh (zm 0) (zh (zm 1) (zh (zm 5) (zh (zm 3) zK)))))) (zcb (zPp (zm 4) (gAt (zm 1) (zm 2))) (zgc (fC (.bl true)))) zVb)
def zhg(φ:FF):FS:=(sIf (z8 (zH zEh (zm 4) (zm 3))) (zcb (zgk (z4h zxf (zm 3) (zh (zm 4) zK))) (zcb (sIf (z8 (zH (zFm λi j=>decide (j<i)) (zB zmd (zh (zm 0) (zh (zm 1) (zh (zm 4) zK)))) (fC (.int 0)))) (zcb (zPp (zm 4) (gAt (zm 1) (zm 2))) (zgc (fC (.bl true)))) zVb) (zak (zse (fLC 1 [1,4] (zlg (zh (zB znk (zh (zm 1) zK)) zK)) (gN 0) (zjg φ) (zag φ))) (gN 5) (zeg φ)))) zVb)
def z0e:List yt:=["_law_web","_law_laying","_law_key_here","_law_met","_law_nest","_law_other"]
def zIc(φ:FF):FS:=(zcb (zak (zse (zH gIx (zH gIx (zm 0) (fC (.int 1))) (zm 2))) (gN 4) (zhg φ)) (zgc (fC (.bl false))))
def zHb:Nat->FF
 |0=>λ_ _=>none
 |n+1=>λds O=>zxb (zIc (zHb n) (zP z0e ds) O)
def z2e:FF:=zHb 12
def z4j:FE:=(zB z2e (zh (zm 1) (zh (zm 2) (zh (zm 0) (zh (zRn zK) zK)))))
def zbk:FE:=(fC .non)
def zUm:List yt:=["_law_web","_law_laying"]
def zVg:FS:=(zcb (zKc 1 (fLC 1 [] (zse (zH gIx (zm 0) (fC (.int 1)))) (gN 0) zRh zbk)) (zgc (zB zbz (zh (fLC 1 [0,1] (zlg (zh (zB znk (zh (zm 1) zK)) zK)) (gN 0) zRh z4j) zK))))
def zWg:FF:=λds O=>zxb (zVg (zP zUm ds) O)
def zQg:FE:=(zm 0)
def zMg:FT:=(zlq (zHl (z8 (zB (z3u .int) (zh (zm 0) (zh (fC (.ty "int")) zK))))) (z8 (zB (z3u .bl) (zh (zm 0) (zh (fC (.ty "bool")) zK)))))
def zZi:List yt:=["_law_found","_law_due"]
def z8d:FS:=(zcb (sIf (zlq (zHl (z8 (zB (z3u .lst) (zh (zm 0) (zh (fC (.ty "list")) zK))))) (z8 (zH gNe (zm 0) (zm 1)))) (zgc (fC (.bl false))) zVb) (zgc (zH gEq (zB znk (zh (fLC 1 [] (zse (zm 0)) (gN 0) zMg zQg) zK)) (fC (.int 0)))))
def z2b:FF:=λds O=>zxb (z8d (zP zZi ds) O)
def zYj:List yt:=["self"]
def zLe:FS:=(zgc (zB z4i (zh (zB z1d (zh (zVq "Shelf" "kept_rule" (zm 0)) (zh (zB zG (znc "Shelf" "all_there" (zm 0) zK)) zK))) (zh (zB zLb (znc "Shelf" "laying" (zm 0) zK)) zK))))
def zEe:FF:=λds O=>zxb (zLe (zP zYj ds) O)
def z7j:List yt:=["self"]
def zQe:FS:=(zgc (zVq "Shelf" "kept_rule" (zm 0)))
def zWc:FF:=λds O=>zxb (zQe (zP z7j ds) O)
def z2i:List yt:=["self","key"]
def zde:FS:=(zgc (zmo zks (zVq "Shelf" "nest_of" (zm 0)) (zh (zm 1) zK)))
def zCb:FF:=λds O=>zxb (zde (zP z2i ds) O)
def zPh:FS:=(zgk (z4h zxf (zm 2) (zh (zH zon (zH zon (zH z2h (zH zik (zm 3) (zm 1)) (zm 4)) (fC (.int 10007))) (zB znk (zh (zH gIx (zm 0) (fC (.int 0))) zK))) zK)))
def zRj:List yt:=["_law_rule_here","_law_key_here","_law_found","_law_factor","_law_shift"]
def zFe:FS:=(zcb (zKc 2 (zRn zK)) (zcb (zak (zse (zH gIx (zm 0) (fC (.int 1)))) (gT 2 (zTb (gN 3) (zTb (gN 4) zTh))) zPh) (zgc (zm 2))))
def zYb:FF:=λds O=>zxb (zFe (zP zRj ds) O)
def zJh:FE:=(zm 0)
def zyh:FT:=(z8 (zH gEq (zH zft (zVq "Shelf" "nest_of" (zm 1)) (zm 0)) (zm 2)))
def z5j:List yt:=["self","h"]
def zWe:FS:=(zgc (fLC 1 [0,1] (zse (zB zG (znc "Shelf" "all_there" (zm 0) zK))) (gN 0) zyh zJh))
def zCe:FF:=λds O=>zxb (zWe (zP z5j ds) O)
def zig:FE:=(zm 0)
def zbg:FT:=(z8 (zH gEq (zH zft (zm 1) (zm 0)) (zm 2)))
def zTd:FS:=(zcb (zKc 6 (zB zli (zh (fLC 1 [2,5] (z6l (zm 2)) (gN 0) zbg zig) zK))) (sIf (zlq (z8 (zH (zFm λi j=>decide (i<j)) (zH gIx (zm 3) (zm 5)) (fC (.int 0)))) (zHl (z8 (zB z2b (zh (zB zCe (znc "Shelf" "nest" (zm 0) (zh (zm 5) zK))) (zh (zm 6) zK)))))) (zgc (fC (.bl false))) zVb))
def zRd:FS:=(zcb (zKc 5 (zH zft (zm 2) (zm 4))) (zcb (sIf (zlq (z8 (zH z5i (zB zjd (znc "Shelf" "has" (zm 0) (zh (zm 4) zK))) (fC (.bl true)))) (zlq (z8 (zH gNe (zB zCb (znc "Shelf" "where" (zm 0) (zh (zm 4) zK))) (zm 5))) (z8 (zH zEh (zm 5) (zB zYb (zh (zm 1) (zh (zm 4) zK))))))) (zgc (fC (.bl false))) zVb) (zPp (zH zVs (zH gIx (zm 3) (zm 5)) (fC (.int 1))) (gAt (zm 3) (zm 5)))))
def zOh:List yt:=["_law_shelf","_law_rule_here","_law_lying_there","_law_room_here","_law_key_here","_law_nest","_law_due"]
def zDd:FS:=(zcb (sIf (zlq (zHl (z8 (zB z2b (zh (zB zG (znc "Shelf" "all_there" (zm 0) zK)) (zh (zB zWk (zh (zm 2) zK)) zK))))) (z8 (zH gNe (zB zWc (znc "Shelf" "rule" (zm 0) zK)) (zm 1)))) (zgc (fC (.bl false))) zVb) (zcb (zKc 3 (zB zss (zh (zH gIx (zm 1) (fC (.int 0))) zK))) (zcb (zak (z6l (zm 2)) (gN 4) zRd) (zcb (zak (zlg (zh (zB znk (zh (zm 3) zK)) zK)) (gN 5) zTd) (zgc (zB z2b (zh (zB zEe (znc "Shelf" "left" (zm 0) zK)) (zh (zm 3) zK))))))))
def zBc:FF:=λds O=>zxb (zDd (zP zOh ds) O)
def zog:FE:=(zH gIx (zH gIx (zm 1) (fC (.int 0))) (zm 0))
def zNg:FS:=(sIf (z8 (zH zEh (zm 4) (zm 2))) (zgk (z4h zxf (zm 2) (zh (zm 4) zK))) zVb)
def zEg:FS:=(zak (zse (zB zYb (zh (zm 0) (zh (zm 3) zK)))) (gN 4) zNg)
def zoi:List yt:=["_law_rule_here","_law_some","_law_nests","_law_key_here","_law_nest"]
def z0d:FS:=(zcb (zKc 2 (zRn zK)) (zcb (zak (zse (zm 1)) (gN 3) zEg) (zgc (zH zVs (zB znk (zh (zm 1) zK)) (zB zfz (zh (fLC 1 [0] (zse (zm 2)) (gN 0) zRh zog) zK))))))
def z8c:FF:=λds O=>zxb (z0d (zP zoi ds) O)
def zsf:FE:=(zm 0)
def zcf:FT:=(z8 (zH gNe (zm 0) (zm 1)))
def zif:FE:=(zH (zFm λi j=>decide (i<j)) (zB z8c (zh (zm 1) (zh (fLC 1 [0] (zse (zm 2)) (gN 0) zcf zsf) zK))) (fC (.int 1)))
def zdf:FE:=(zH gIn (zm 0) (zm 1))
def zLg:List yt:=["_law_rule_here","_law_keys","_law_some"]
def z4c:FS:=(zcb (sIf (zlq (zHl (z8 (zB (z3u .lst) (zh (zm 2) (zh (fC (.ty "list")) zK))))) (zlq (z8 (zH gNe (zm 2) (z8p (zm 2)))) (zHl (z8 (zB zbz (zh (fLC 1 [1] (zse (zm 2)) (gN 0) zRh zdf) zK)))))) (zgc (fC (.bl false))) zVb) (zcb (sIf (z8 (zH (zFm λi j=>decide (i<j)) (zB z8c (zh (zm 0) (zh (zm 2) zK))) (fC (.int 1)))) (zgc (fC (.bl false))) zVb) (zgc (zB zbz (zh (fLC 1 [0,2] (zse (zm 2)) (gN 0) zRh zif) zK)))))
def zad:FF:=λds O=>zxb (z4c (zP zLg ds) O)
def zJg:FE:=(zB zYb (zh (zm 1) (zh (zm 0) zK)))
def z0o:FE:=(z5k (zh (zm 0) (zh (zB zCb (znc "Shelf" "where" (zm 1) (zh (zm 0) zK))) zK)))
def zJp:FE:=(z5k (zh (zm 0) (zh (zB zCb (znc "Shelf" "where" (zm 1) (zh (zm 0) zK))) zK)))
def zXm:List yt:=["_law_shelf","_law_rule_here","_law_other","_law_keys","_law_there","_law_answer","_law_some","_law_fresh"]
def zbh:FS:=(zcb (zKc 3 (zB zG (znc "Shelf" "all_there" (zm 0) zK))) (zcb (zKc 4 (zB zQl (zh (fLC 1 [0] (zse (zm 3)) (gN 0) zRh zJp) zK))) (zcb (zPp (zB zvd (zh (zm 0) (zh (zm 2) zK))) (gT 2 (zTb (gN 5) (zTb (gN 6) zTh)))) (zcb (sIf (z8 (zB zWg (zh (z5k (zh (zH gIx (zm 2) (fC (.int 0))) (zh (fLC 1 [2] (zse (zm 3)) (gN 0) zRh zJg) zK))) zK))) (zcb (zKc 7 (zB zQl (zh (fLC 1 [0] (zse (zm 3)) (gN 0) zRh z0o) zK))) (zgc (z0A (zH gIs (zm 5) (fC .non)) (z0A (zH gIs (zm 6) (fC .non)) (zB zBc (zh (zm 0) (zh (zm 2) (zh (zm 7) zK)))))))) zVb) (zcb (sIf (zlq (z8 (zH gNe (zm 5) (fC (.str "nothing")))) (zHl (z8 (zB zad (zh (zm 2) (zh (zm 3) (zh (zm 6) zK))))))) (zgc (fC (.bl false))) zVb) (zcb (zgk (zar zqo (zm 6))) (zgc (zB zBc (zh (zm 0) (zh (zm 1) (zh (zm 4) zK)))))))))))
def zUg:FF:=λds O=>zxb (zbh (zP zXm ds) O)
def z3m:List yt:=["_law_pen_here","_law_keys","_law_way"]
def z5g:FS:=(zcb (zKc 2 (zB zJ (zh (zm 0) (zh (fC (.int 8)) zK)))) (zcb (sIf (zNt (z8 (zH (zFm λi j=>decide (i<j)) (zm 2) (fC (.int 3)))) (z8 (zH gNe (zm 1) (zRn zK)))) (zgc (zH gIx (zm 1) (zB zJ (zh (zm 0) (zh (zB znk (zh (zm 1) zK)) zK))))) zVb) (zcb (sIf (z8 (zH gEq (zm 2) (fC (.int 3)))) (zgc (zB zJ (zh (zm 0) (zh (zH zhz (fC (.int 10)) (fC (.int 59))) zK)))) zVb) (zgc (zB zJ (zh (zm 0) (zh (fC (.int 40)) zK)))))))
def zkh:FF:=λds O=>zxb (z5g (zP z3m ds) O)
def zju:FS:=(sIf (zHl (z8 (zB zUg (zh (zm 2) (zh (zB zWc (znc "Shelf" "rule" (zm 2) zK)) (zh (zB zue (zh (zm 1) zK)) zK)))))) (zgc (fC (.bl false))) zVb)
def zXp:FS:=(zQt (zRt zme (znc "Shelf" "put" (zm 2) (zh (zB zkh (zh (zm 1) (zh (zB zG (znc "Shelf" "all_there" (zm 2) zK)) zK))) zK))) (zSk [("Twice",false),("Full",true)] (zKc 3 (zm 3)) (zSk [("Twice",true),("Full",false)] (zKc 3 (zm 3)) zZy)))
def zTA:List yt:=["_law_script","_law_pen_here","_law_shelf","_law_k","_law_turn"]
def z5v:FS:=(zcb (zKc 1 (zB z8g (zh (zm 0) zK))) (zcb (zKc 2 (zvs "Shelf" z8b (zh (zB zue (zh (zm 1) zK)) zK))) (zcb (zak (zlg (zh (zB zJ (zh (zm 1) (zh (fC (.int 16)) zK))) zK)) (gN 3) zXp) (zcb (zak (zlg (zh (zH z2h (fC (.int 1)) (zB zJ (zh (zm 1) (zh (fC (.int 3)) zK)))) zK)) (gN 4) zju) (zgc (fC (.bl true)))))))
def zLs:FF:=λds O=>zxb (z5v (zP zTA ds) O)
structure Txt(K:yx)(mg:yt->Option Value):Prop where
 SS:∃C,Yk K yo "Full"=some (some (.ref C))/\mg "Full"=some (.ref C)/\W.ktsIn K C "BaseException"=true
 x_NestError:∃C,Yk K yo "NestError"=some (some (.ref C))/\mg "NestError"=some (.ref C)/\W.ktsIn K C "BaseException"=true
 SB:∃C,Yk K yo "Twice"=some (some (.ref C))/\mg "Twice"=some (.ref C)/\W.ktsIn K C "BaseException"=true
 e_Twice:∀C,Yk K yo "Twice"=some (some (.ref C))->W.excIn K C [.type "ValueError",.type "Exception",.type "BaseException",.type "object"] "ValueError.__new__"=true
 ST:∀C,Yk K yo "Full"=some (some (.ref C))->sj K C [("Twice",false),("Full",true)]
 s_Twice:∀C,Yk K yo "Twice"=some (some (.ref C))->sj K C [("Twice",true),("Full",false)]
 tF:z9r K "Shelf" "nest_of"
 tJ:z9r K "Shelf" "kept_rule"
 tW:mg "left_layings"=mg "left"
 a_Full:AtC K "Full" "some"
 SU:mg "all"=none
 n_bool:mg "bool"=none
 SV:mg "dict"=none
 tY:mg "enumerate"=none
 n_int:mg "int"=none
 Tw:mg "isinstance"=none
 Te:mg "len"=none
 TM:mg "list"=none
 TC:mg "range"=none
 Sw:mg "reversed"=none
 SW:mg "set"=none
 Tr:mg "sorted"=none
 n_sum:mg "sum"=none
 sI:mg "tuple"=none
 SG:∃t,mg "DIVISOR"=some (.int 10007 t)
 Sj:∃t,mg "MOST_KEYS"=some (.int 30 t)
def zZu:yJ "all"=some (.builtin "all"):=by decide +kernel
def zqx:yJ "bool"=some (.type "bool"):=by decide +kernel
def zfv:yJ "dict"=some (.type "dict"):=by decide +kernel
def zpc:yJ "enumerate"=some (.type "enumerate"):=by decide +kernel
def zvz:yJ "int"=some (.type "int"):=by decide +kernel
def z4d:yJ "isinstance"=some (.builtin "isinstance"):=by decide +kernel
def zEc:yJ "len"=some (.builtin "len"):=by decide +kernel
def zQf:yJ "list"=some (.type "list"):=by decide +kernel
def zdq:yJ "reversed"=some (.type "reversed"):=by decide +kernel
def zKu:yJ "set"=some (.type "set"):=by decide +kernel
def zJd:yJ "sorted"=some (.builtin "sorted"):=by decide +kernel
def zXw:yJ "sum"=some (.builtin "sum"):=by decide +kernel
def zuk:yJ "tuple"=some (.type "tuple"):=by decide +kernel
section
variable {P:yA}{w:yI}{K:yx}{mg:yt->Option Value}{base:yT}
set_option maxHeartbeats 4000000
abbrev zPc:Yb:=zsy (top 4)
abbrev zrb:List yt:=["self","some"]
def zOo:tu zrb zrb (zo zPc):=by walk_at "s"
def zln(T:Txt K mg){C NE fI:yc}{fd:yh}(B:SA K mg "Full" "some" "Full.__init__" zPc zrb C NE fI fd):tq P w K mg base CX0 1 fI fd zrb (spL C "some"):=by
 refine B.fn.ok (k:=0) zOo (λvs H Q E ⟨e,a,ns,h,_⟩=>by rw[h];rfl) (λcdv A outer s H vs Q E hr ⟨e,a,ns,hv,hsm,ha,he,hq⟩=>⟨_,zUq (zFt (zzx B.ex B.ne (z4e (pv 0) (z4e (znv (pv 1) hr.gd hr.units) zdi)))) (zYs (zMt B.ex (pv 0) (zGg zSj rfl T.TM zQf (z4e (pv 1) zdi)))),?_⟩);subst hv
 exact⟨_,rfl,_,rfl,a,ns,rfl,ha,hsm,λy=>⟨e,_,rfl,he,_,rfl,a,_,rfl,.inl (SqL.of ha),λl hl=>⟨_,rfl,e,rfl,by rw[zL (zI he hl)];exact he,λp hp hpe=>by
  have hpl:p≠l:=λz=>by rw[z,zF]at hp;cases hp
  exact hq l p hl (yV (zI he hl)) (by rwa [zL hpl]at hp) hpe hpl⟩⟩⟩
abbrev zih:Yb:=top 36
abbrev ztd:List yt:=["_law_script"]
def z3p:tu zzm ztd (zo zih):=by walk_at "s"
def zzo(T:Txt K mg){f:yc}{fd:yh}(B:FnAt K mg "_law_pen" zih ztd f fd):tq P w K mg base CX0 1 f fd ztd (spM K 1 z8g):=by
 exact fnQ B.fn z3p zlh λ_ _ _ _ _ _ hr hu=>(zn (zM (zPe (zb (mv 0) (zb (zGB (z8f (zFc hu) (zS zab T.Te zEc (zb (mv 0) zf)) zu) (zOw (z8f (zFc hu) (zmb zSd (zT (mv 0) zu) zu) zu))) (zb zu (zb zu zf)))))))
abbrev z6b:Yb:=zZe (top 34) 0
abbrev zgb:List yt:=["self","rule"]
def zMj:tu zkg zgb (zo z6b):=by walk_at "s"
def zxi(T:Txt K mg){C:yc}{f:yc}{fd:yh}(B:sY K mg "Shelf" z6b zgb C f fd):tq P w K mg base CX0 1 f fd zgb (spM K 2 z8b):=by
 exact fnQ B.fn zMj zNc λ_ _ _ _ _ _ hr hu=>(zj (zuu T.tJ (mv 0) (mv 1)) (zn (zuu T.tF (mv 0) zbx)))
abbrev zDe:Yb:=top 37
abbrev zuc:List yt:=["_law_script","_law_k"]
def Tf:tu zfk zuc (zo zDe):=by walk_at "s"
def zgm(T:Txt K mg){f:yc}{fd:yh}(B:FnAt K mg "_law_mixed" zDe zuc f fd):tq P w K mg base CX0 1 f fd zuc (spM K 2 zTe):=by
 exact fnQ B.fn Tf zIe λ_ _ _ _ _ _ hr hu=>(zj (zX 2 zu (hN:=Tf.nd)) (zj (zhc (zZ z5q (zS zab T.Te zEc (zb (mv 0) zf)) zu) (zn (zX 2 (zT (mv 0) (zmb zSd (mv 1) (zS zab T.Te zEc (zb (mv 0) zf)))) (hN:=Tf.nd))) z7) (zj (zX 3 (zmb zSd (zmb zfc (zmb zBe (zmb zfc (zmb zfc (mv 2) (zmb zBe zu (mv 1))) zu) zu) (zmb zBe (mv 1) (mv 1))) zu) (hN:=Tf.nd)) (zj (zX 4 (zmb zSd (zmb zfc (zmb zfc (zmb zBe (mv 3) (mv 3)) (zmb zBe zu (mv 3))) (zmb zBe zu (mv 1))) zu) (hN:=Tf.nd)) (zn (zM (zmb zSd (zmb zfc (zmb zfc (zmb zBe (mv 4) (mv 4)) (zmb zBe zu (mv 4))) (mv 1)) zu)))))))
abbrev zsd:Yb:=top 38
abbrev zub:List yt:=["_law_pen_here","_law_many"]
def tU:tu zTk zub (zo zsd):=by walk_at "s"
def zZn(T:Txt K mg){z8j:yc}{z0i:yh}(zSe:FnAt K mg "_law_mixed" zDe zuc z8j z0i)(zOf:tq P w K mg base CX0 1 z8j z0i zuc (spM K 2 zTe)){f:yc}{fd:yh}(B:FnAt K mg "_law_take" zsd zub f fd):tq P w K mg base CX0 2 f fd zub (spM K 2 zJ):=by
 exact fnQ B.fn tU zZf λ_ _ _ _ _ _ hr hu=>(zj (z9f (mv 0) (zyy (zQb (zbb 2 (hN:=tU.nd)) (zQb (zbb 3 (hN:=tU.nd)) (zQb (zbb 4 (hN:=tU.nd)) (zQb (zbb 5 (hN:=tU.nd)) z1h)))))) (zj (z9f (zmb zfc (mv 4) zu) (zws (mv 0) zu)) (zj (zhc (zVd (mv 3)) (zn (zM (zmb zSd (tD zSe zOf hr (zb (mv 2) (zb (mv 4) zf))) (mv 1)))) z7) (zj (zhc (zZ (zFc hu) (zmb zSd (mv 4) zu) zu) (zj (zX 5 zu (hN:=tU.nd)) (zn (zhc (zZ zSi (zmb zfc (zmb zjq (mv 4) zu) zu) (zS zab T.Te zEc (zb (mv 2) zf))) (zn (zX 5 (zT (mv 2) (zmb zfc (zmb zjq (mv 4) zu) zu)) (hN:=tU.nd))) z7))) z7) (zj (z9f (zmb zjq (mv 5) (mv 1)) (zws (mv 0) zu)) (zn (zM (zmb zSd (mv 5) (mv 1)))))))))
abbrev zJf:Yb:=top 39
abbrev zYc:List yt:=["_law_pen_here"]
def Ta:tu z1k zYc (zo zJf):=by walk_at "s"
def zun(T:Txt K mg){zrc:yc}{z0b:yh}(zQ:FnAt K mg "_law_take" zsd zub zrc z0b)(zN:tq P w K mg base CX0 2 zrc z0b zub (spM K 2 zJ)){f:yc}{fd:yh}(B:FnAt K mg "_law_rule" zJf zYc f fd):tq P w K mg base CX0 3 f fd zYc (spM K 1 zue):=by
 exact fnQ B.fn Ta zSf λ_ _ _ _ _ _ hr hu=>(zj (zX 1 (zmb zfc zu (tD zQ zN hr (zb (mv 0) (zb zu zf)))) (hN:=Ta.nd)) (zj (zhc (zZ (zFc hu) (tD zQ zN hr (zb (mv 0) (zb zu zf))) zu) (zn (zX 1 (zmb zfc zu (tD zQ zN hr (zb (mv 0) (zb zu zf)))) (hN:=Ta.nd))) z7) (zj (zX 2 (zT (zPe (zb zu (zb zu (zb zu (zb zu zf))))) (tD zQ zN hr (zb (mv 0) (zb zu zf)))) (hN:=Ta.nd)) (zj (zX 3 (zFd zKf T.sI zuk (zb (mlc ["_law_nest"] [0,2] (zHf T.TC (zb (mv 1) zf)) (λ_ _ _ _ _=>(zU 0 (hN:=zV (by rfl)))) (λ_ _ _ _ _=>zcd) (λ_ _ _ _ _=>(tD zQ zN hr (zb (mv 1) (zb (mv 2) zf)))) (z9 ⟨_,rfl,rfl⟩ (z9 ⟨_,rfl,rfl⟩ zNb))) zf)) (hN:=Ta.nd)) (zj (zX 4 (zT (zPe (zb zu (zb zu (zb zu zf)))) (tD zQ zN hr (zb (mv 0) (zb zu zf)))) (hN:=Ta.nd)) (zn (zM (zfd (zb (mv 3) (zb (zFd zKf T.sI zuk (zb (mlc ["_law_k"] [0,4] (zHf T.TC (zb (zmb zfc zu (tD zQ zN hr (zb (mv 0) (zb zu zf)))) zf)) (λ_ _ _ _ _=>(zU 0 (hN:=zV (by rfl)))) (λ_ _ _ _ _=>zcd) (λ_ _ _ _ _=>(zfd (zb (tD zQ zN hr (zb (mv 1) (zb (mv 2) zf))) (zb (tD zQ zN hr (zb (mv 1) (zb (mv 2) zf))) zf)))) (z9 ⟨_,rfl,rfl⟩ (z9 ⟨_,rfl,rfl⟩ zNb))) zf)) zf))))))))))
abbrev zrd:Yb:=zZe (top 34) 3
abbrev zGb:List yt:=["self","key"]
def zuo:tu zhl zGb (zo zrd):=by walk_at "s"
def zPn(T:Txt K mg){C:yc}{f:yc}{fd:yh}(B:MethAt K "Shelf" "has" "Shelf.has" zrd zGb C f fd):tq P w K mg base CX0 1 f fd zGb (spM K 2 zjd):=by
 exact fnQ B.fn zuo zuf λ_ _ _ _ _ _ hr hu=>(zn (zM (z8f zBr (mv 1) (zzh T.tF (mv 0)))))
abbrev zfo:Yb:=top 10
abbrev zgh:List yt:=["laying","nest"]
def zov:tu zMu zgh (zo zfo):=by walk_at "s"
def zgu(T:Txt K mg){f:yc}{fd:yh}(B:FnAt K mg "lying" zfo zgh f fd):tq P w K mg base CX0 1 f fd zgh (spM K 2 zjn):=by
 exact fnQ B.fn zov zsn λ_ _ _ _ _ _ hr hu=>(zn (zM (mlc ["key","place"] [1] (z7h T.tY zpc (mv 0)) (λ_ _ _ _ _=>(zbq (zpf (zU 0 (hN:=zV (by rfl))) (zpf (zU 1 (hN:=zV (by rfl))) z1n)))) (λ_ _ _ _ _=>(zcj (zZ (zFc hu) (mv 1) (mv 2)))) (λ_ _ _ _ _=>(mv 0)) (z9 ⟨_,rfl,rfl⟩ zNb))))
abbrev z4f:Yb:=top 15
abbrev zZc:List yt:=["web","laying","key"]
def tR:tu zWl zZc (zo z4f):=by walk_at "s"
def zmn(T:Txt K mg){zIu:yc}{zLq:yh}(z9n:FnAt K mg "lying" zfo zgh zIu zLq)(zdo:tq P w K mg base CX0 1 zIu zLq zgh (spM K 2 zjn)){f:yc}{fd:yh}(B:FnAt K mg "pushes_to" z4f zZc f fd):tq P w K mg base CX0 2 f fd zZc (spM K 3 zYf):=by
 exact fnQ B.fn tR zCf λ_ _ _ _ _ _ hr hu=>(zj (zX 3 zbx (hN:=tR.nd)) (zj (zAc (zsb (zT (zT (mv 0) zu) (mv 2))) (zbb 4 (hN:=tR.nd)) (zn (z9f (zfd (zb (mv 2) (zb zlf zf))) (zPq (mv 3) (mv 4))))) (zj (zX 5 (zFd (zcq rfl) T.TM zQf (zb (mv 3) zf)) (hN:=tR.nd)) (zj (zX 6 zu (hN:=tR.nd)) (zj (zKn 100000 (zZ zSi (mv 6) (zS zab T.Te zEc (zb (mv 5) zf))) (zj (zAc (zsb (tD z9n zdo hr (zb (mv 1) (zb (zT (mv 5) (mv 6)) zf)))) (zbb 7 (hN:=tR.nd)) (zn (zAc (zsb (zT (zT (mv 0) zu) (mv 7))) (zbb 4 (hN:=tR.nd)) (zn (zhc (zZ zSr (mv 4) (mv 3)) (zj (z9f (zfd (zb (mv 7) (zb (zT (mv 5) (mv 6)) zf))) (zPq (mv 3) (mv 4))) (zn (zMf (zOg (mv 5) (zb (mv 4) zf))))) z7))))) (zn (zEz 6 zXx zu (hN:=tR.nd))))) (zn (zM (mv 3))))))))
abbrev zxm:Yb:=top 7
abbrev zaf:List yt:=["web","laying"]
def zVy:tu z7w zaf (zo zxm):=by walk_at "s"
def zLv(T:Txt K mg){f:yc}{fd:yh}(B:FnAt K mg "left" zxm zaf f fd):tq P w K mg base CX0 1 f fd zaf (spM K 2 z4i):=by
 exact fnQ B.fn zVy z1m λ_ _ _ _ _ _ hr hu=>(zn (zM (mlc ["nest","room"] [1] (z7h T.tY zpc (zT (mv 0) zu)) (λ_ _ _ _ _=>(zbq (zpf (zU 0 (hN:=zV (by rfl))) (zpf (zU 1 (hN:=zV (by rfl))) z1n)))) (λ_ _ _ _ _=>zcd) (λ_ _ _ _ _=>(zmb zJj (mv 1) (ztw (mv 2) (zb (mv 0) zf)))) (z9 ⟨_,rfl,rfl⟩ zNb))))
abbrev zEk:Yb:=top 16
abbrev zff:List yt:=["pushes","nest"]
def sB:tu znr zff (zo zEk):=by walk_at "s"
def zHs(T:Txt K mg){f:yc}{fd:yh}(B:FnAt K mg "row_to" zEk zff f fd):tq P w K mg base CX0 1 f fd zff (spM K 2 zLk):=by
 exact fnQ B.fn sB zCk λ_ _ _ _ _ _ hr hu=>(zj (zX 2 (zPe zf) (hN:=sB.nd)) (zj (zKn 100000 (zZ zAg (mv 1) zlf) (zj (zMf (zOg (mv 2) (zb (zfd (zb (zT (z0m (mv 0) (mv 1)) zu) (zb (mv 1) zf))) zf))) (zn (zX 1 (zT (z0m (mv 0) (mv 1)) zu) (hN:=sB.nd))))) (zn (zM (zFy T.TM zQf T.Sw zdq (mv 2))))))
abbrev zgi:Yb:=top 17
abbrev zMd:List yt:=["web","laying","key"]
def se:tu zxr zMd (zo zgi):=by walk_at "s"
def zhs(T:Txt K mg){zTl:yc}{z3j:yh}(z5f:FnAt K mg "pushes_to" z4f zZc zTl z3j)(zKg:tq P w K mg base CX0 2 zTl z3j zZc (spM K 3 zYf)){zWj:yc}{ztg:yh}(To:FnAt K mg "left" zxm zaf zWj ztg)(z1f:tq P w K mg base CX0 1 zWj ztg zaf (spM K 2 z4i)){zOr:yc}{zLp:yh}(zHk:FnAt K mg "row_to" zEk zff zOr zLp)(z2k:tq P w K mg base CX0 1 zOr zLp zff (spM K 2 zLk)){f:yc}{fd:yh}(B:FnAt K mg "put_in" zgi zMd f fd):tq P w K mg base CX0 3 f fd zMd (spM K 3 zTf):=by
 exact fnQ B.fn se zzk λ_ _ _ _ _ _ hr hu=>(zj (zX 3 (tD z5f zKg hr (zb (mv 0) (zb (mv 1) (zb (mv 2) zf)))) (hN:=se.nd)) (zj (zX 4 (Sv (To.al T.tW) To z1f hr (zb (mv 0) (zb (mv 1) zf))) (hN:=se.nd)) (zj (zAc (zSp (mv 3)) (zbb 5 (hN:=se.nd)) (zn (zhc (zZ z5q (zT (mv 4) (mv 5)) zu) (zn (zM (zfd (zb zdg (zb (tD zHk z2k hr (zb (mv 3) (zb (mv 5) zf))) zf))))) z7))) (zn (zM (zfd (zb zdg (zb (mlc ["other","nest"] [2,3] (z7h T.tY zpc (mv 1)) (λ_ _ _ _ _=>(zbq (zpf (zU 0 (hN:=zV (by rfl))) (zpf (zU 1 (hN:=zV (by rfl))) z1n)))) (λ_ _ _ _ _=>(zcj (MW.mt (zxj (zZ (zFc hu) (mv 0) (mv 2)) (zPg (zZ zBr (mv 1) (mv 3))))))) (λ_ _ _ _ _=>(mv 0)) (z9 ⟨_,rfl,rfl⟩ (z9 ⟨_,rfl,rfl⟩ zNb))) zf))))))))
abbrev zR:Yb:=zZe (top 34) 5
abbrev zz:List yt:=["self"]
def zQi:tu zof zz (zo zR):=by walk_at "s"
def z3h(T:Txt K mg){C:yc}{f:yc}{fd:yh}(B:MethAt K "Shelf" "all_there" "Shelf.all_there" zR zz C f fd):tq P w K mg base CX0 1 f fd zz (spM K 1 zG):=by
 exact fnQ B.fn zQi zwc λ_ _ _ _ _ _ hr hu=>(zn (zM (zS (z0k rfl) T.Tr zJd (zb (zzh T.tF (mv 0)) zf))))
abbrev zkn:Yb:=top 22
abbrev z3g:List yt:=["rule","key"]
def Sk:tu z3s z3g (zo zkn):=by walk_at "s"
def zcv(T:Txt K mg){f:yc}{fd:yh}(B:FnAt K mg "homes" zkn z3g f fd):tq P w K mg base CX0 1 f fd z3g (spM K 2 zVn):=by
 exact fnQ B.fn Sk zxn λ_ _ _ _ _ _ hr hu=>(zj (zX 2 (zS zab T.Te zEc (zb (zT (mv 0) zu) zf)) (hN:=Sk.nd)) (zn (zM (zFd zKf T.sI zuk (zb (mlc ["way"] [1,2] (zsb (zT (mv 0) zu)) (λ_ _ _ _ _=>(zU 0 (hN:=zV (by rfl)))) (λ_ _ _ _ _=>zcd) (λ_ _ _ _ _=>(zmb zSd (zmb zSd (zmb zfc (zmb zBe (zT (mv 0) zu) (mv 1)) (zT (mv 0) zu)) (zVt T.SG)) (mv 2))) (z9 ⟨_,rfl,rfl⟩ (z9 ⟨_,rfl,rfl⟩ zNb))) zf)))))
abbrev zhh:Yb:=top 25
abbrev zDc:List yt:=["rule","keys"]
def zmu:tu zNq zDc (zo zhh):=by walk_at "s"
def zMs(T:Txt K mg){zku:yc}{zAr:yh}(zzn:FnAt K mg "homes" zkn z3g zku zAr)(zeo:tq P w K mg base CX0 1 zku zAr z3g (spM K 2 zVn)){f:yc}{fd:yh}(B:FnAt K mg "web_of" zhh zDc f fd):tq P w K mg base CX0 2 f fd zDc (spM K 2 z1d):=by
 exact fnQ B.fn zmu zrk λ_ _ _ _ _ _ hr hu=>(zn (zM (zfd (zb (zT (mv 0) zu) (zb (zFd zKf T.sI zuk (zb (mlc ["key"] [0] (zsb (mv 1)) (λ_ _ _ _ _=>(zU 0 (hN:=zV (by rfl)))) (λ_ _ _ _ _=>zcd) (λ_ _ _ _ _=>(tD zzn zeo hr (zb (mv 1) (zb (mv 0) zf)))) (z9 ⟨_,rfl,rfl⟩ zNb)) zf)) zf)))))
abbrev zbc:Yb:=zZe (top 34) 7
abbrev zdb:List yt:=["self"]
def zll:tu zIh zdb (zo zbc):=by walk_at "s"
def zpk(T:Txt K mg){tw:yc}{zy:yc}{zt:yh}(zr:MethAt K "Shelf" "all_there" "Shelf.all_there" zR zz tw zy zt)(zp:tq P w K mg base CX0 1 zy zt zz (spM K 1 zG)){C:yc}{f:yc}{fd:yh}(B:MethAt K "Shelf" "laying" "Shelf.laying" zbc zdb C f fd):tq P w K mg base CX0 2 f fd zdb (spM K 1 zLb):=by
 exact fnQ B.fn zll zBd λ_ _ _ _ _ _ hr hu=>(zn (zM (mlc ["key"] [0] (zsb (Tn zr zp hr (mv 0))) (λ_ _ _ _ _=>(zU 0 (hN:=zV (by rfl)))) (λ_ _ _ _ _=>zcd) (λ_ _ _ _ _=>(z0m (zzh T.tF (mv 1)) (mv 0))) (z9 ⟨_,rfl,rfl⟩ zNb))))
abbrev zte:Yb:=zZe (top 34) 1
abbrev ztc:List yt:=["self","key"]
def Tj:tu zCl ztc (zo zte):=by walk_at "s"
def z5n(T:Txt K mg){TY:yc}{zle:yc}{zNd:yh}(zRc:MethAt K "Shelf" "has" "Shelf.has" zrd zGb TY zle zNd)(zUc:tq P w K mg base CX0 1 zle zNd zGb (spM K 2 zjd)){zUi:yc}{zrg:yh}(zEf:FnAt K mg "put_in" zgi zMd zUi zrg)(zgf:tq P w K mg base CX0 3 zUi zrg zMd (spM K 3 zTf)){tw:yc}{zy:yc}{zt:yh}(zr:MethAt K "Shelf" "all_there" "Shelf.all_there" zR zz tw zy zt)(zp:tq P w K mg base CX0 1 zy zt zz (spM K 1 zG)){zNe:yc}{zId:yh}(zzd:FnAt K mg "web_of" zhh zDc zNe zId)(z5c:tq P w K mg base CX0 2 zNe zId zDc (spM K 2 z1d)){Tz:yc}{zzc:yc}{zkc:yh}(zIb:MethAt K "Shelf" "laying" "Shelf.laying" zbc zdb Tz zzc zkc)(zSb:tq P w K mg base CX0 2 zzc zkc zdb (spM K 1 zLb)){z1i zeq zZl:yc}{Tk:yh}(tH:SA K mg "Full" "some" "Full.__init__" zPc zrb z1i zeq zZl Tk)(tV:tq P w K mg base CX0 1 zZl Tk zrb (spL z1i "some")){C:yc}{f:yc}{fd:yh}(B:MethAt K "Shelf" "put" "Shelf.put" zte ztc C f fd):tq P w K mg base (CXq P w) 4 f fd ztc (spX K 2 zme):=by
 obtain⟨z9p,n_Twice,m_Twice,k_Twice⟩:=T.SB;exact fnY B.fn Tj ztf λ_ _ _ _ _ _ hr hu=>(zj (zhc (zVd (sS zRc zUc hr (mv 0) (zb (mv 1) zf))) (zn (zvv n_Twice (T.e_Twice z9p n_Twice) Xw (zb zdg zf))) z7) (zj (zX 2 (zmb zfc (Tn zr zp hr (mv 0)) (zPe (zb (mv 1) zf))) (hN:=Tj.nd)) (zj (zhc (zZ z5q (zS zab T.Te zEc (zb (mv 2) zf)) (zVt T.Sj)) (zn (zol tH.nm tH.ex tV tH.bd hr (zb (zS (z6h rfl) T.Tr zJd (zb (mv 2) zf)) zf))) z7) (zj (zX 3 (tD zEf zgf hr (zb (tD zzd z5c hr (zb (zzh T.tJ (mv 0)) (zb (mv 2) zf))) (zb (zmb zfc (Tn zIb zSb hr (mv 0)) (zPe (zb zlf zf))) (zb (zmb zJj (zS zab T.Te zEc (zb (mv 2) zf)) zu) zf)))) (hN:=Tj.nd)) (zj (zhc (zZ (zFc hu) (zT (mv 3) zu) zdg) (zn (zol tH.nm tH.ex tV tH.bd hr (zb (zS (z6h rfl) T.Tr zJd (zb (mlc ["place"] [2] (zsb (zT (mv 3) zu)) (λ_ _ _ _ _=>(zU 0 (hN:=zV (by rfl)))) (λ_ _ _ _ _=>zcd) (λ_ _ _ _ _=>(zT (mv 1) (mv 0))) (z9 ⟨_,rfl,rfl⟩ zNb)) zf)) zf))) z7) (zj (mslc 4 ["push"] [2] (zsb (zT (mv 3) zu)) (λ_ _ _ _ _=>(zU 0 (hN:=zV (by rfl)))) (λ_ _ _ _ _=>zcd) (λ_ _ _ _ _=>(zfd (zb (zT (mv 1) (zT (mv 0) zu)) (zb (zT (mv 0) zu) zf)))) (z9 ⟨_,rfl,rfl⟩ zNb) Tj.nd) (zj (zAc (zsb (mv 4)) (zbb 5 (hN:=Tj.nd)) (zn (z9f (zT (mv 5) zu) (zPq (zzh T.tF (mv 0)) (zT (mv 5) zu))))) (zn (zM (mv 4))))))))))
abbrev zAn:Yb:=top 9
abbrev z2g:List yt:=["web","laying"]
def TZ:tu zPt z2g (zo zAn):=by walk_at "s"
def zjv(T:Txt K mg){zWj:yc}{ztg:yh}(To:FnAt K mg "left" zxm zaf zWj ztg)(z1f:tq P w K mg base CX0 1 zWj ztg zaf (spM K 2 z4i)){f:yc}{fd:yh}(B:FnAt K mg "fault" zAn z2g f fd):tq P w K mg base CX0 2 f fd z2g (spM K 2 zvn):=by
 exact fnQ B.fn TZ zTn λ_ _ _ _ _ _ hr hu=>(zj (zAc (z7h T.tY zpc (mv 1)) (z7m (zQb (zbb 2 (hN:=TZ.nd)) (zQb (zbb 3 (hN:=TZ.nd)) z1h))) (zn (zhc (MW.mt (z0u (zZ zAg (mv 3) zlf) (zEq (zZ zef (mv 3) (zT (zT (mv 0) zu) (mv 2)))))) (zn (zM (zfd (zb zdg (zb (mv 2) zf))))) z7))) (zj (zAc (z7h T.tY zpc (Sv (To.al T.tW) To z1f hr (zb (mv 0) (zb (mv 1) zf)))) (z7m (zQb (zbb 3 (hN:=TZ.nd)) (zQb (zbb 4 (hN:=TZ.nd)) z1h))) (zn (zhc (zZ zSi (mv 4) zu) (zn (zM (zfd (zb zdg (zb (mv 3) zf))))) z7))) (zn (zM zlf))))
abbrev zij:Yb:=top 12
abbrev zje:List yt:=["web","laying","row","at"]
def sN:tu zZo zje (zo zij):=by walk_at "s"
def zvq(T:Txt K mg){f:yc}{fd:yh}(B:FnAt K mg "is_push" zij zje f fd):tq P w K mg base CX0 1 f fd zje (spM K 4 zti):=by
 exact fnQ B.fn sN zVi λ_ _ _ _ _ _ hr hu=>(zj (zX 4 (zT (zT (mv 2) (mv 3)) zu) (hN:=sN.nd)) (zj (zhc (MW.mt (zxj (zZ zSi (mv 4) zu) (zPg (zZ zkA (mv 4) (zS zab T.Te zEc (zb (mv 1) zf)))))) (zn (zM zYh)) z7) (zj (zhc (MW.mt (zxj (zZ zef (zT (zT (mv 2) (mv 3)) zu) (zT (zT (mv 0) zu) (mv 4))) (zPg (zZ (zFc hu) (zT (zT (mv 2) (mv 3)) zu) (zT (mv 1) (mv 4)))))) (zn (zM zYh)) z7) (zn (zM (z8f zef (mv 4) (mlc ["push"] [] (zsb (zOB (mv 2) zkB (znA (mv 3)))) (λ_ _ _ _ _=>(zU 0 (hN:=zV (by rfl)))) (λ_ _ _ _ _=>zcd) (λ_ _ _ _ _=>(zT (mv 0) zu)) zNb)))))))
abbrev zpj:Yb:=top 13
abbrev zge:List yt:=["laying","key","row","at"]
def zjs:tu zUo zge (zo zpj):=by walk_at "s"
def z4p(T:Txt K mg){f:yc}{fd:yh}(B:FnAt K mg "follows" zpj zge f fd):tq P w K mg base CX0 1 f fd zge (spM K 4 zHi):=by
 exact fnQ B.fn zjs z9i λ_ _ _ _ _ _ hr hu=>(zj (zhc (zZ (zFc hu) (mv 3) zu) (zn (zM (z8f (zFc hu) (zT (zT (mv 2) zu) zu) (mv 1)))) z7) (zn (zM (z8f (zFc hu) (zT (mv 0) (zT (zT (mv 2) (mv 3)) zu)) (zT (zT (mv 2) (zmb zJj (mv 3) zu)) zu)))))
abbrev zyk:Yb:=top 14
abbrev znf:List yt:=["web","laying","key","row"]
def sf:tu zer znf (zo zyk):=by walk_at "s"
def zls(T:Txt K mg){z5u:yc}{zTq:yh}(zco:FnAt K mg "fault" zAn z2g z5u zTq)(zEn:tq P w K mg base CX0 2 z5u zTq z2g (spM K 2 zvn)){zcp:yc}{zNm:yh}(znj:FnAt K mg "is_push" zij zje zcp zNm)(zKj:tq P w K mg base CX0 1 zcp zNm zje (spM K 4 zti)){z8o:yc}{zRm:yh}(zLi:FnAt K mg "follows" zpj zge z8o zRm)(zOj:tq P w K mg base CX0 1 z8o zRm zge (spM K 4 zHi)){f:yc}{fd:yh}(B:FnAt K mg "pushed" zyk znf f fd):tq P w K mg base CX0 3 f fd znf (spM K 4 zFk):=by
 exact fnQ B.fn sf zBk λ_ _ _ _ _ _ hr hu=>(zj (zX 4 (zFd zBj T.TM zQf (zb (mv 1) zf)) (hN:=sf.nd)) (zj (zAc (z7h T.tY zpc (mv 3)) (z7m (zQb (zbb 5 (hN:=sf.nd)) (zQb (zbb 6 (hN:=sf.nd)) z1h))) (zj (zhc (zmj (MW.mt (z0u (zVd (tD znj zKj hr (zb (mv 0) (zb (mv 1) (zb (mv 3) (zb (mv 5) zf)))))) (zEq (zVd (tD zLi zOj hr (zb (mv 1) (zb (mv 2) (zb (mv 3) (zb (mv 5) zf)))))))))) (zn zDr) z7) (zn (z9f (zT (mv 6) zu) (zws (mv 4) (zT (mv 6) zu)))))) (zj (zhc (MW.mt (zxj (zZ (zFc hu) (zS zab T.Te zEc (zb (mv 3) zf)) zu) (zPg (zZ zAg (tD zco zEn hr (zb (mv 0) (zb (mv 4) zf))) zlf)))) (zn zDr) z7) (zn (zM (mv 4))))))
abbrev z0f:Yb:=top 18
abbrev zSc:List yt:=["web","laying","keys"]
def Tl:tu zxl zSc (zo z0f):=by walk_at "s"
def ztn(T:Txt K mg){zUi:yc}{zrg:yh}(zEf:FnAt K mg "put_in" zgi zMd zUi zrg)(zgf:tq P w K mg base CX0 3 zUi zrg zMd (spM K 3 zTf)){zKq:yc}{zCo:yh}(ztk:FnAt K mg "pushed" zyk znf zKq zCo)(zXl:tq P w K mg base CX0 3 zKq zCo znf (spM K 4 zFk)){f:yc}{fd:yh}(B:FnAt K mg "laid_more" z0f zSc f fd):tq P w K mg base CX0 4 f fd zSc (spM K 3 zBf):=by
 exact fnQ B.fn Tl zPf λ_ _ _ _ _ _ hr hu=>(zj (zX 3 (zPe zf) (hN:=Tl.nd)) (zj (zAc (zsb (mv 2)) (zbb 4 (hN:=Tl.nd)) (zj (zX 5 (tD zEf zgf hr (zb (mv 0) (zb (mv 1) (zb (mv 4) zf)))) (hN:=Tl.nd)) (zn (zhc (zZ (zFc hu) (zT (mv 5) zu) zdg) (zn (zX 1 (tD ztk zXl hr (zb (mv 0) (zb (mv 1) (zb (mv 4) (zb (zT (mv 5) zu) zf))))) (hN:=Tl.nd))) (zn (zMf (z9o (mv 3) (zb (zT (mv 5) zu) zf)))))))) (zn (zM (zfd (zb (mv 1) (zb (zHq T.Tr zJd T.SW zKu (mv 3)) zf)))))))
abbrev zYd:Yb:=top 19
abbrev zec:List yt:=["web"]
def znm:tu z7i zec (zo zYd):=by walk_at "s"
def zpl(T:Txt K mg){zgl:yc}{z1j:yh}(z6f:FnAt K mg "laid_more" z0f zSc zgl z1j)(zSg:tq P w K mg base CX0 4 zgl z1j zSc (spM K 3 zBf)){f:yc}{fd:yh}(B:FnAt K mg "laid_at_all" zYd zec f fd):tq P w K mg base CX0 5 f fd zec (spM K 1 z7d):=by
 exact fnQ B.fn znm zee λ_ _ _ _ _ _ hr hu=>(zn (zM (tD z6f zSg hr (zb (mv 0) (zb (zmb zBe (zPe (zb zlf zf)) (zS zab T.Te zEc (zb (zT (mv 0) zu) zf))) (zb (z8t T.TM zQf T.TC (zS zab T.Te zEc (zb (zT (mv 0) zu) zf))) zf))))))
abbrev zgj:Yb:=top 27
abbrev zke:List yt:=["web","nests"]
def zPs:tu zWo zke (zo zgj):=by walk_at "s"
def zyq(T:Txt K mg){f:yc}{fd:yh}(B:FnAt K mg "room_of" zgj zke f fd):tq P w K mg base CX0 1 f fd zke (spM K 2 zzi):=by
 exact fnQ B.fn zPs zpi λ_ _ _ _ _ _ hr hu=>(zn (zM (zS (zop rfl) T.n_sum zXw (zb (mlc ["nest"] [0] (zsb (mv 1)) (λ_ _ _ _ _=>(zU 0 (hN:=zV (by rfl)))) (λ_ _ _ _ _=>zcd) (λ_ _ _ _ _=>(zT (zT (mv 1) zu) (mv 0))) (z9 ⟨_,rfl,rfl⟩ zNb)) zf))))
abbrev zdh:Yb:=top 26
abbrev zkd:List yt:=["web","some"]
def sd:tu zWm zkd (zo zdh):=by walk_at "s"
def zXo(T:Txt K mg){f:yc}{fd:yh}(B:FnAt K mg "homes_of" zdh zkd f fd):tq P w K mg base CX0 1 f fd zkd (spM K 2 zrh):=by
 exact fnQ B.fn sd z4g λ_ _ _ _ _ _ hr hu=>(zj (zX 2 (zPe zf) (hN:=sd.nd)) (zj (zAc (zsb (mv 1)) (zbb 3 (hN:=sd.nd)) (zn (zMf (z9o (mv 2) (zb (zT (zT (mv 0) zu) (mv 3)) zf))))) (zn (zM (zHq T.Tr zJd T.SW zKu (mv 2))))))
abbrev z9g:Yb:=top 29
abbrev zpd:List yt:=["web","some"]
def zQp:tu zCm zpd (zo z9g):=by walk_at "s"
def zYo(T:Txt K mg){z1o:yc}{z2m:yh}(zqi:FnAt K mg "room_of" zgj zke z1o z2m)(zAj:tq P w K mg base CX0 1 z1o z2m zke (spM K 2 zzi)){zGm:yc}{z4k:yh}(zoh:FnAt K mg "homes_of" zdh zkd zGm z4k)(z0h:tq P w K mg base CX0 1 zGm z4k zkd (spM K 2 zrh)){f:yc}{fd:yh}(B:FnAt K mg "is_crowd" z9g zpd f fd):tq P w K mg base CX0 2 f fd zpd (spM K 2 zfh):=by
 exact fnQ B.fn zQp z1g λ_ _ _ _ _ _ hr hu=>(zn (zM (z8f zSi (tD zqi zAj hr (zb (mv 0) (zb (tD zoh z0h hr (zb (mv 0) (zb (mv 1) zf))) zf))) (zS zab T.Te zEc (zb (mv 1) zf)))))
abbrev zUf:Yb:=top 30
abbrev zXc:List yt:=["web","some"]
def sv:tu zPk zXc (zo zUf):=by walk_at "s"
def zGn(T:Txt K mg){zan:yc}{zvl:yh}(zjh:FnAt K mg "is_crowd" z9g zpd zan zvl)(z5h:tq P w K mg base CX0 2 zan zvl zpd (spM K 2 zfh)){f:yc}{fd:yh}(B:FnAt K mg "spare_key" zUf zXc f fd):tq P w K mg base CX0 3 f fd zXc (spM K 2 zze):=by
 exact fnQ B.fn sv zvf λ_ _ _ _ _ _ hr hu=>(zj (zAc (zsb (mv 1)) (zbb 2 (hN:=sv.nd)) (zn (zhc (zVd (tD zjh z5h hr (zb (mv 0) (zb (mlc ["other"] [2] (zsb (mv 1)) (λ_ _ _ _ _=>(zU 0 (hN:=zV (by rfl)))) (λ_ _ _ _ _=>(zcj (zZ (zXj hu) (mv 0) (mv 1)))) (λ_ _ _ _ _=>(mv 0)) (z9 ⟨_,rfl,rfl⟩ zNb)) zf)))) (zn (zM (mv 2))) z7))) (zn (zM zlf)))
abbrev zOi:Yb:=top 31
abbrev zie:List yt:=["web","some"]
def TN:tu ztp zie (zo zOi):=by walk_at "s"
def zGq(T:Txt K mg){zKl:yc}{zUj:yh}(zwe:FnAt K mg "spare_key" zUf zXc zKl zUj)(zGe:tq P w K mg base CX0 3 zKl zUj zXc (spM K 2 zze)){f:yc}{fd:yh}(B:FnAt K mg "trimmed" zOi zie f fd):tq P w K mg base CX0 4 f fd zie (spM K 2 zXi):=by
 exact fnQ B.fn TN zTi λ_ _ _ _ _ _ hr hu=>(zj (zX 2 (zFd zBj T.TM zQf (zb (mv 1) zf)) (hN:=TN.nd)) (zj (zX 3 (tD zwe zGe hr (zb (mv 0) (zb (mv 2) zf))) (hN:=TN.nd)) (zj (zKn 100000 (zZ zAg (mv 3) zlf) (zj (zMf (zlt (mv 2) (zb (mv 3) zf))) (zn (zX 3 (tD zwe zGe hr (zb (mv 0) (zb (mv 2) zf))) (hN:=TN.nd))))) (zn (zM (mv 2))))))
abbrev zqk:Yb:=top 32
abbrev zrf:List yt:=["web"]
def sT:tu zWq zrf (zo zqk):=by walk_at "s"
def zrs(T:Txt K mg){zej:yc}{zMh:yh}(z2d:FnAt K mg "laid_at_all" zYd zec zej zMh)(z3e:tq P w K mg base CX0 5 zej zMh zec (spM K 1 z7d)){zkp:yc}{z4m:yh}(zui:FnAt K mg "trimmed" zOi zie zkp z4m)(zIj:tq P w K mg base CX0 4 zkp z4m zie (spM K 2 zXi)){f:yc}{fd:yh}(B:FnAt K mg "fitted" zqk zrf f fd):tq P w K mg base CX0 6 f fd zrf (spM K 1 zsk):=by
 exact fnQ B.fn sT zvk λ_ _ _ _ _ _ hr hu=>(zj (zX 1 (tD z2d z3e hr (zb (mv 0) zf)) (hN:=sT.nd)) (zj (zhc (zZ (zFc hu) (zT (mv 1) zu) (zPe zf)) (zn (zM (zfd (zb zdg (zb (zT (mv 1) zu) zf))))) z7) (zn (zM (zfd (zb zdg (zb (tD zui zIj hr (zb (mv 0) (zb (zT (mv 1) zu) zf))) zf)))))))
abbrev z7c:Yb:=zZe (top 34) 9
abbrev zMb:List yt:=["self","rule"]
def tZ:tu zKi zMb (zo z7c):=by walk_at "s"
def zjl(T:Txt K mg){tw:yc}{zy:yc}{zt:yh}(zr:MethAt K "Shelf" "all_there" "Shelf.all_there" zR zz tw zy zt)(zp:tq P w K mg base CX0 1 zy zt zz (spM K 1 zG)){zgr:yc}{zVo:yh}(zDk:FnAt K mg "fitted" zqk zrf zgr zVo)(z3l:tq P w K mg base CX0 6 zgr zVo zrf (spM K 1 zsk)){zNe:yc}{zId:yh}(zzd:FnAt K mg "web_of" zhh zDc zNe zId)(z5c:tq P w K mg base CX0 2 zNe zId zDc (spM K 2 z1d)){z1i zeq zZl:yc}{Tk:yh}(tH:SA K mg "Full" "some" "Full.__init__" zPc zrb z1i zeq zZl Tk)(tV:tq P w K mg base CX0 1 zZl Tk zrb (spL z1i "some")){C:yc}{f:yc}{fd:yh}(B:MethAt K "Shelf" "renew" "Shelf.renew" z7c zMb C f fd):tq P w K mg base (CXq P w) 7 f fd zMb (spX K 2 z6d):=by
 exact fnY B.fn tZ z5d λ_ _ _ _ _ _ hr hu=>(zj (zX 2 (Tn zr zp hr (mv 0)) (hN:=tZ.nd)) (zj (zX 3 (tD zDk z3l hr (zb (tD zzd z5c hr (zb (mv 1) (zb (mv 2) zf))) zf)) (hN:=tZ.nd)) (zj (zhc (zZ (zFc hu) (zT (mv 3) zu) zdg) (zn (zol tH.nm tH.ex tV tH.bd hr (zb (mlc ["place"] [2] (zsb (zT (mv 3) zu)) (λ_ _ _ _ _=>(zU 0 (hN:=zV (by rfl)))) (λ_ _ _ _ _=>zcd) (λ_ _ _ _ _=>(zT (mv 1) (mv 0))) (z9 ⟨_,rfl,rfl⟩ zNb)) zf))) z7) (zj (zuu T.tJ (mv 0) (mv 1)) (zn (zAc (z7h T.tY zpc (mv 2)) (z7m (zQb (zbb 4 (hN:=tZ.nd)) (zQb (zbb 5 (hN:=tZ.nd)) z1h))) (zn (z9f (zT (zT (mv 3) zu) (mv 4)) (zPq (zzh T.tF (mv 0)) (mv 5))))))))))
abbrev zEd:Yb:=top 48
abbrev zUb:List yt:=["_law_shelf","_law_rule_here"]
def tO:tu zKh zUb (zo zEd):=by walk_at "s"
def zok(T:Txt K mg){sP:yc}{zoj:yc}{zCh:yh}(zae:MethAt K "Shelf" "renew" "Shelf.renew" z7c zMb sP zoj zCh)(z5e:tq P w K mg base (CXq P w) 7 zoj zCh zMb (spX K 2 z6d)){f:yc}{fd:yh}(B:FnAt K mg "_law_renewed" zEd zUb f fd):tq P w K mg base CX0 8 f fd zUb (spM K 2 zvd):=by
 obtain⟨z1i,n_Full,m_Full,k_Full⟩:=T.SS;exact fnQ B.fn tO zyd λ_ _ _ _ _ _ hr hu=>(zj (zX 2 zdg (hN:=tO.nd)) (zj (zX 3 zlf (hN:=tO.nd)) (zj (z4w (zRw (zIx 2 zae z5e hr (mv 0) (zb (mv 1) zf) (hN:=tO.nd))) (zXB 4 [("Twice",false),("Full",true)] n_Full k_Full (T.ST z1i n_Full) (λ_=>(zn (zX 3 (zwB T.a_Full (mv 4)) (hN:=tO.nd)))) z5t (hN:=tO.nd))) (zn (zM (zfd (zb (mv 2) (zb (mv 3) zf))))))))
abbrev zid:Yb:=top 44
abbrev zvb:List yt:=["_law_web","_law_laying","_law_nest"]
def zOp:tu zNl zvb (zo zid):=by walk_at "s"
def zJn(T:Txt K mg){f:yc}{fd:yh}(B:FnAt K mg "_law_room" zid zvb f fd):tq P w K mg base CX0 1 f fd zvb (spM K 3 zmd):=by
 exact fnQ B.fn zOp zLf λ_ _ _ _ _ _ hr hu=>(zn (zM (zmb zJj (zT (zT (mv 0) zu) (mv 2)) (zS zab T.Te zEc (zb (mlc ["_law_other"] [2] (zsb (mv 1)) (λ_ _ _ _ _=>(zU 0 (hN:=zV (by rfl)))) (λ_ _ _ _ _=>(zcj (zZ (zFc hu) (mv 0) (mv 1)))) (λ_ _ _ _ _=>(mv 0)) (z9 ⟨_,rfl,rfl⟩ zNb)) zf)))))
abbrev zdc:Yb:=top 45
abbrev z6:List yt:=["_law_web","_law_laying","_law_key_here","_law_met"]
def Tu:tu z0e z6 (zo zdc):=by walk_at "s"
def zkk(T:Txt K mg){zlc:yc}{zZb:yh}(z3b:FnAt K mg "_law_room" zid zvb zlc zZb)(zWb:tq P w K mg base CX0 1 zlc zZb zvb (spM K 3 zmd)){f:yc}{fd:yh}(B:FnAt K mg "_law_laid_by" zdc z6 f fd){n:Nat}{φ:FF}(hn:1<=n)(ok:tq P w K mg base CX0 n f fd z6 (spM K 4 φ)):tq P w K mg base CX0 (n+1) f fd z6 (spM K 4 λds O=>zxb (zIc φ (zP z0e ds) O)):=by
 exact fnQ B.fn Tu (zIc φ) λ_ _ _ _ _ _ hr hu=>(zj (zAc (zsb (zT (zT (mv 0) zu) (mv 2))) (zbb 4 (hN:=Tu.nd)) (zn (zhc (zZ zef (mv 4) (mv 3)) (zj (zMf (zOg (mv 3) (zb (mv 4) zf))) (zj (zhc (zZ z5q (tD z3b zWb hr (zb (mv 0) (zb (mv 1) (zb (mv 4) zf))) (hj:=hn)) zu) (zj (z9f (mv 4) (zws (mv 1) (mv 2))) (zn (zM zYh))) z7) (zn (zAc (zsb (mlc ["_law_other"] [1,4] (zHf T.TC (zb (zS zab T.Te zEc (zb (mv 1) zf)) zf)) (λ_ _ _ _ _=>(zU 0 (hN:=zV (by rfl)))) (λ_ _ _ _ _=>(zcj (zZ (zFc hu) (zT (mv 1) (mv 0)) (mv 2)))) (λ_ _ _ _ _=>(mv 0)) (z9 ⟨_,rfl,rfl⟩ (z9 ⟨_,rfl,rfl⟩ zNb)))) (zbb 5 (hN:=Tu.nd)) (zn (zhc (zVd (tD B ok hr (zb (mv 0) (zb (mv 1) (zb (mv 5) (zb (mv 3) zf)))) (hj:=yi _))) (zj (z9f (mv 4) (zws (mv 1) (mv 2))) (zn (zM zYh))) z7)))))) z7))) (zn (zM zYh)))
def zgg(T:Txt K mg){zlc:yc}{zZb:yh}(z3b:FnAt K mg "_law_room" zid zvb zlc zZb)(zWb:tq P w K mg base CX0 1 zlc zZb zvb (spM K 3 zmd)){f:yc}{fd:yh}(B:FnAt K mg "_law_laid_by" zdc z6 f fd):∀n,tq P w K mg base CX0 (n+1) f fd z6 (spM K 4 (zHb n))
 |0=>⟨λvs H Q E h=>h.1,λA outer s H args us vs Q E _ _ _ _ h=>(by obtain⟨_,_,_,_,_,_,_,_,e,_⟩:=h;cases e)⟩
 |n+1=>zkk T z3b zWb B (Nat.le_add_left _ _) (zgg T z3b zWb B n)
def zlk(T:Txt K mg){zlc:yc}{zZb:yh}(z3b:FnAt K mg "_law_room" zid zvb zlc zZb)(zWb:tq P w K mg base CX0 1 zlc zZb zvb (spM K 3 zmd)){f:yc}{fd:yh}(B:FnAt K mg "_law_laid_by" zdc z6 f fd):tq P w K mg base CX0 13 f fd z6 (spM K 4 z2e):=zgg T z3b zWb B 12
abbrev zqh:Yb:=top 46
abbrev znd:List yt:=["_law_web"]
def sE:tu zUm znd (zo zqh):=by walk_at "s"
def z4o(T:Txt K mg){zQh:yc}{zxg:yh}(zxd:FnAt K mg "_law_laid_by" zdc z6 zQh zxg)(zne:tq P w K mg base CX0 13 zQh zxg z6 (spM K 4 z2e)){f:yc}{fd:yh}(B:FnAt K mg "_law_fit" zqh znd f fd):tq P w K mg base CX0 14 f fd znd (spM K 1 zWg):=by
 exact fnQ B.fn sE zVg λ_ _ _ _ _ _ hr hu=>(zj (zX 1 (mlc ["_law_key_here"] [] (zsb (zT (mv 0) zu)) (λ_ _ _ _ _=>(zU 0 (hN:=zV (by rfl)))) (λ_ _ _ _ _=>zcd) (λ_ _ _ _ _=>zlf) zNb) (hN:=sE.nd)) (zn (zM (zS (zOl rfl) T.SU zZu (zb (mlc ["_law_key_here"] [0,1] (zHf T.TC (zb (zS zab T.Te zEc (zb (mv 1) zf)) zf)) (λ_ _ _ _ _=>(zU 0 (hN:=zV (by rfl)))) (λ_ _ _ _ _=>zcd) (λ_ _ _ _ _=>(tD zxd zne hr (zb (mv 1) (zb (mv 2) (zb (mv 0) (zb (zPe zf) zf)))))) (z9 ⟨_,rfl,rfl⟩ (z9 ⟨_,rfl,rfl⟩ zNb))) zf)))))
abbrev z9d:Yb:=top 42
abbrev z9b:List yt:=["_law_found","_law_due"]
def zim:tu zZi z9b (zo z9d):=by walk_at "s"
def zyl(T:Txt K mg){f:yc}{fd:yh}(B:FnAt K mg "_law_wholes" z9d z9b f fd):tq P w K mg base CX0 1 f fd z9b (spM K 2 z2b):=by
 exact fnQ B.fn zim z8d λ_ _ _ _ _ _ hr hu=>(zj (zhc (MW.mt (zxj (zmj (zVd (zS (zRi .lst) T.Tw z4d (zb (mv 0) (zb (zzr T.TM zQf) zf))))) (zPg (zZ (zXj hu) (mv 0) (mv 1))))) (zn (zM zYh)) z7) (zn (zM (z8f (zFc hu) (zS zab T.Te zEc (zb (mlc ["_law_one_here"] [] (zsb (mv 0)) (λ_ _ _ _ _=>(zU 0 (hN:=zV (by rfl)))) (λ_ _ _ _ _=>(zcj (MW.mt (zxj (zmj (zVd (zS (zRi .int) T.Tw z4d (zb (mv 0) (zb (zzr T.n_int zvz) zf))))) (zPg (zVd (zS (zRi .bl) T.Tw z4d (zb (mv 0) (zb (zzr T.n_bool zqx) zf))))))))) (λ_ _ _ _ _=>(mv 0)) zNb) zf)) zu))))
abbrev zHd:Yb:=zZe (top 34) 8
abbrev z1b:List yt:=["self"]
def zHn:tu zYj z1b (zo zHd):=by walk_at "s"
def z8l(T:Txt K mg){zWj:yc}{ztg:yh}(To:FnAt K mg "left" zxm zaf zWj ztg)(z1f:tq P w K mg base CX0 1 zWj ztg zaf (spM K 2 z4i)){zNe:yc}{zId:yh}(zzd:FnAt K mg "web_of" zhh zDc zNe zId)(z5c:tq P w K mg base CX0 2 zNe zId zDc (spM K 2 z1d)){Tz:yc}{zzc:yc}{zkc:yh}(zIb:MethAt K "Shelf" "laying" "Shelf.laying" zbc zdb Tz zzc zkc)(zSb:tq P w K mg base CX0 2 zzc zkc zdb (spM K 1 zLb)){tw:yc}{zy:yc}{zt:yh}(zr:MethAt K "Shelf" "all_there" "Shelf.all_there" zR zz tw zy zt)(zp:tq P w K mg base CX0 1 zy zt zz (spM K 1 zG)){C:yc}{f:yc}{fd:yh}(B:MethAt K "Shelf" "left" "Shelf.left" zHd z1b C f fd):tq P w K mg base CX0 3 f fd z1b (spM K 1 zEe):=by
 exact fnQ B.fn zHn zLe λ_ _ _ _ _ _ hr hu=>(zn (zM (Sv (To.al T.tW) To z1f hr (zb (tD zzd z5c hr (zb (zzh T.tJ (mv 0)) (zb (Tn zr zp hr (mv 0)) zf))) (zb (Tn zIb zSb hr (mv 0)) zf)))))
abbrev zVc:Yb:=zZe (top 34) 10
abbrev zqb:List yt:=["self"]
def zWn:tu z7j zqb (zo zVc):=by walk_at "s"
def zdm(T:Txt K mg){C:yc}{f:yc}{fd:yh}(B:MethAt K "Shelf" "rule" "Shelf.rule" zVc zqb C f fd):tq P w K mg base CX0 1 f fd zqb (spM K 1 zWc):=by
 exact fnQ B.fn zWn zQe λ_ _ _ _ _ _ hr hu=>(zn (zM (zzh T.tJ (mv 0))))
abbrev zyc:Yb:=zZe (top 34) 4
abbrev zib:List yt:=["self","key"]
def zam:tu z2i zib (zo zyc):=by walk_at "s"
def zYk(T:Txt K mg){C:yc}{f:yc}{fd:yh}(B:MethAt K "Shelf" "where" "Shelf.where" zyc zib C f fd):tq P w K mg base CX0 1 f fd zib (spM K 2 zCb):=by
 exact fnQ B.fn zam zde λ_ _ _ _ _ _ hr hu=>(zn (zM (zoy (zzh T.tF (mv 0)) (zb (mv 1) zf))))
abbrev z0c:Yb:=top 40
abbrev zjb:List yt:=["_law_rule_here","_law_key_here"]
def Tp:tu zRj zjb (zo z0c):=by walk_at "s"
def zkm(T:Txt K mg){f:yc}{fd:yh}(B:FnAt K mg "_law_homes" z0c zjb f fd):tq P w K mg base CX0 1 f fd zjb (spM K 2 zYb):=by
 exact fnQ B.fn Tp zFe λ_ _ _ _ _ _ hr hu=>(zj (zX 2 (zPe zf) (hN:=Tp.nd)) (zj (zAc (zsb (zT (mv 0) zu)) (z7m (zQb (zbb 3 (hN:=Tp.nd)) (zQb (zbb 4 (hN:=Tp.nd)) z1h))) (zn (zMf (zOg (mv 2) (zb (zmb zSd (zmb zSd (zmb zfc (zmb zBe (mv 3) (mv 1)) (mv 4)) zu) (zS zab T.Te zEc (zb (zT (mv 0) zu) zf))) zf))))) (zn (zM (mv 2)))))
abbrev zKd:Yb:=zZe (top 34) 6
abbrev z5b:List yt:=["self","h"]
def zin:tu z5j z5b (zo zKd):=by walk_at "s"
def zjm(T:Txt K mg){tw:yc}{zy:yc}{zt:yh}(zr:MethAt K "Shelf" "all_there" "Shelf.all_there" zR zz tw zy zt)(zp:tq P w K mg base CX0 1 zy zt zz (spM K 1 zG)){C:yc}{f:yc}{fd:yh}(B:MethAt K "Shelf" "nest" "Shelf.nest" zKd z5b C f fd):tq P w K mg base CX0 2 f fd z5b (spM K 2 zCe):=by
 exact fnQ B.fn zin zWe λ_ _ _ _ _ _ hr hu=>(zn (zM (mlc ["key"] [0,1] (zsb (Tn zr zp hr (mv 0))) (λ_ _ _ _ _=>(zU 0 (hN:=zV (by rfl)))) (λ_ _ _ _ _=>(zcj (zZ (zFc hu) (z0m (zzh T.tF (mv 1)) (mv 0)) (mv 2)))) (λ_ _ _ _ _=>(mv 0)) (z9 ⟨_,rfl,rfl⟩ (z9 ⟨_,rfl,rfl⟩ zNb)))))
abbrev zCd:Yb:=top 43
abbrev zRb:List yt:=["_law_shelf","_law_rule_here","_law_lying_there"]
def tQ:tu zOh zRb (zo zCd):=by walk_at "s"
def zjk(T:Txt K mg){z6i:yc}{zNh:yh}(zvc:FnAt K mg "_law_wholes" z9d z9b z6i zNh)(zCc:tq P w K mg base CX0 1 z6i zNh z9b (spM K 2 z2b)){sZ:yc}{zQj:yc}{zBi:yh}(zVe:MethAt K "Shelf" "left" "Shelf.left" zHd z1b sZ zQj zBi)(z2f:tq P w K mg base CX0 3 zQj zBi z1b (spM K 1 zEe)){TQ:yc}{zLd:yc}{z1c:yh}(zmc:MethAt K "Shelf" "rule" "Shelf.rule" zVc zqb TQ zLd z1c)(zxc:tq P w K mg base CX0 1 zLd z1c zqb (spM K 1 zWc)){tw:yc}{zy:yc}{zt:yh}(zr:MethAt K "Shelf" "all_there" "Shelf.all_there" zR zz tw zy zt)(zp:tq P w K mg base CX0 1 zy zt zz (spM K 1 zG)){TY:yc}{zle:yc}{zNd:yh}(zRc:MethAt K "Shelf" "has" "Shelf.has" zrd zGb TY zle zNd)(zUc:tq P w K mg base CX0 1 zle zNd zGb (spM K 2 zjd)){TF:yc}{zdd:yc}{zGc:yh}(zEb:MethAt K "Shelf" "where" "Shelf.where" zyc zib TF zdd zGc)(zKb:tq P w K mg base CX0 1 zdd zGc zib (spM K 2 zCb)){zXb:yc}{zDb:yh}(ztb:FnAt K mg "_law_homes" z0c zjb zXb zDb)(zpb:tq P w K mg base CX0 1 zXb zDb zjb (spM K 2 zYb)){Sa:yc}{z2j:yc}{zMi:yh}(zRe:MethAt K "Shelf" "nest" "Shelf.nest" zKd z5b Sa z2j zMi)(zXf:tq P w K mg base CX0 2 z2j zMi z5b (spM K 2 zCe)){f:yc}{fd:yh}(B:FnAt K mg "_law_is_kept" zCd zRb f fd):tq P w K mg base CX0 4 f fd zRb (spM K 3 zBc):=by
 exact fnQ B.fn tQ zDd λ_ _ _ _ _ _ hr hu=>(zj (zhc (MW.mt (zxj (zmj (zVd (tD zvc zCc hr (zb (Tn zr zp hr (mv 0)) (zb (zS (z0k rfl) T.Tr zJd (zb (mv 2) zf)) zf))))) (zPg (zZ (zXj hu) (Tn zmc zxc hr (mv 0)) (mv 1))))) (zn (zM zYh)) z7) (zj (zX 3 (zFd zBj T.TM zQf (zb (zT (mv 1) zu) zf)) (hN:=tQ.nd)) (zj (zAc (zSp (mv 2)) (zbb 4 (hN:=tQ.nd)) (zj (zX 5 (z0m (mv 2) (mv 4)) (hN:=tQ.nd)) (zj (zhc (MW.mt (zxj (zZ zAg (sS zRc zUc hr (mv 0) (zb (mv 4) zf)) zYh) (zxj (zZ (zXj hu) (sS zEb zKb hr (mv 0) (zb (mv 4) zf)) (mv 5)) (zPg (zZ zef (mv 5) (tD ztb zpb hr (zb (mv 1) (zb (mv 4) zf)))))))) (zn (zM zYh)) z7) (zn (z9f (zmb zJj (zT (mv 3) (mv 5)) zu) (zws (mv 3) (mv 5))))))) (zj (zAc (zHf T.TC (zb (zS zab T.Te zEc (zb (mv 3) zf)) zf)) (zbb 5 (hN:=tQ.nd)) (zj (zX 6 (zS (z6h rfl) T.Tr zJd (zb (mlc ["_law_key_here"] [2,5] (zSp (mv 2)) (λ_ _ _ _ _=>(zU 0 (hN:=zV (by rfl)))) (λ_ _ _ _ _=>(zcj (zZ (zFc hu) (z0m (mv 1) (mv 0)) (mv 2)))) (λ_ _ _ _ _=>(mv 0)) (z9 ⟨_,rfl,rfl⟩ (z9 ⟨_,rfl,rfl⟩ zNb))) zf)) (hN:=tQ.nd)) (zn (zhc (MW.mt (zxj (zZ zSi (zT (mv 3) (mv 5)) zu) (zPg (zmj (zVd (tD zvc zCc hr (zb (sS zRe zXf hr (mv 0) (zb (mv 5) zf)) (zb (mv 6) zf)))))))) (zn (zM zYh)) z7)))) (zn (zM (tD zvc zCc hr (zb (Tn zVe z2f hr (mv 0)) (zb (mv 3) zf)))))))))
abbrev zce:Yb:=top 47
abbrev zcc:List yt:=["_law_rule_here","_law_some"]
def Tm:tu zoi zcc (zo zce):=by walk_at "s"
def z3k(T:Txt K mg){zXb:yc}{zDb:yh}(ztb:FnAt K mg "_law_homes" z0c zjb zXb zDb)(zpb:tq P w K mg base CX0 1 zXb zDb zjb (spM K 2 zYb)){f:yc}{fd:yh}(B:FnAt K mg "_law_excess" zce zcc f fd):tq P w K mg base CX0 2 f fd zcc (spM K 2 z8c):=by
 exact fnQ B.fn Tm z0d λ_ _ _ _ _ _ hr hu=>(zj (zX 2 (zPe zf) (hN:=Tm.nd)) (zj (zAc (zsb (mv 1)) (zbb 3 (hN:=Tm.nd)) (zn (zAc (zsb (tD ztb zpb hr (zb (mv 0) (zb (mv 3) zf)))) (zbb 4 (hN:=Tm.nd)) (zn (zhc (zZ zef (mv 4) (mv 2)) (zn (zMf (zOg (mv 2) (zb (mv 4) zf)))) z7))))) (zn (zM (zmb zJj (zS zab T.Te zEc (zb (mv 1) zf)) (zS (zop rfl) T.n_sum zXw (zb (mlc ["_law_nest"] [0] (zsb (mv 2)) (λ_ _ _ _ _=>(zU 0 (hN:=zV (by rfl)))) (λ_ _ _ _ _=>zcd) (λ_ _ _ _ _=>(zT (zT (mv 1) zu) (mv 0))) (z9 ⟨_,rfl,rfl⟩ zNb)) zf)))))))
abbrev z6c:Yb:=top 49
abbrev zBb:List yt:=["_law_rule_here","_law_keys","_law_some"]
def zmk:tu zLg zBb (zo z6c):=by walk_at "s"
def ztj(T:Txt K mg){zjj:yc}{zBh:yh}(z3c:FnAt K mg "_law_excess" zce zcc zjj zBh)(zwd:tq P w K mg base CX0 2 zjj zBh zcc (spM K 2 z8c)){f:yc}{fd:yh}(B:FnAt K mg "_law_is_crowd" z6c zBb f fd):tq P w K mg base CX0 3 f fd zBb (spM K 3 zad):=by
 exact fnQ B.fn zmk z4c λ_ _ _ _ _ _ hr hu=>(zj (zhc (MW.mt (zxj (zmj (zVd (zS (zRi .lst) T.Tw z4d (zb (mv 2) (zb (zzr T.TM zQf) zf))))) (zxj (zZ (zXj hu) (mv 2) (zHq T.Tr zJd T.SW zKu (mv 2))) (zPg (zmj (zVd (zS (zOl rfl) T.SU zZu (zb (mlc ["_law_key_here"] [1] (zsb (mv 2)) (λ_ _ _ _ _=>(zU 0 (hN:=zV (by rfl)))) (λ_ _ _ _ _=>zcd) (λ_ _ _ _ _=>(z8f zcA (mv 0) (mv 1))) (z9 ⟨_,rfl,rfl⟩ zNb)) zf)))))))) (zn (zM zYh)) z7) (zj (zhc (zZ zSi (tD z3c zwd hr (zb (mv 0) (zb (mv 2) zf))) zu) (zn (zM zYh)) z7) (zn (zM (zS (zOl rfl) T.SU zZu (zb (mlc ["_law_key_here"] [0,2] (zsb (mv 2)) (λ_ _ _ _ _=>(zU 0 (hN:=zV (by rfl)))) (λ_ _ _ _ _=>zcd) (λ_ _ _ _ _=>(z8f zSi (tD z3c zwd hr (zb (mv 1) (zb (mlc ["_law_one_here"] [0] (zsb (mv 2)) (λ_ _ _ _ _=>(zU 0 (hN:=zV (by rfl)))) (λ_ _ _ _ _=>(zcj (zZ (zXj hu) (mv 0) (mv 1)))) (λ_ _ _ _ _=>(mv 0)) (z9 ⟨_,rfl,rfl⟩ zNb)) zf))) zu)) (z9 ⟨_,rfl,rfl⟩ (z9 ⟨_,rfl,rfl⟩ zNb))) zf))))))
abbrev zph:Yb:=top 50
abbrev zqd:List yt:=["_law_shelf","_law_rule_here","_law_other"]
def Ti:tu zXm zqd (zo zph):=by walk_at "s"
def z2o(T:Txt K mg){tw:yc}{zy:yc}{zt:yh}(zr:MethAt K "Shelf" "all_there" "Shelf.all_there" zR zz tw zy zt)(zp:tq P w K mg base CX0 1 zy zt zz (spM K 1 zG)){zxh:yc}{zCg:yh}(zAd:FnAt K mg "_law_renewed" zEd zUb zxh zCg)(zqe:tq P w K mg base CX0 8 zxh zCg zUb (spM K 2 zvd)){zym:yc}{zcl:yh}(zch:FnAt K mg "_law_fit" zqh znd zym zcl)(z9h:tq P w K mg base CX0 14 zym zcl znd (spM K 1 zWg)){zHh:yc}{zTg:yh}(zHc:FnAt K mg "_law_is_kept" zCd zRb zHh zTg)(z9c:tq P w K mg base CX0 4 zHh zTg zRb (spM K 3 zBc)){zyg:yc}{zmg:yh}(zbd:FnAt K mg "_law_is_crowd" z6c zBb zyg zmg)(zQd:tq P w K mg base CX0 3 zyg zmg zBb (spM K 3 zad)){TF:yc}{zdd:yc}{zGc:yh}(zEb:MethAt K "Shelf" "where" "Shelf.where" zyc zib TF zdd zGc)(zKb:tq P w K mg base CX0 1 zdd zGc zib (spM K 2 zCb)){zXb:yc}{zDb:yh}(ztb:FnAt K mg "_law_homes" z0c zjb zXb zDb)(zpb:tq P w K mg base CX0 1 zXb zDb zjb (spM K 2 zYb)){f:yc}{fd:yh}(B:FnAt K mg "_law_one" zph zqd f fd):tq P w K mg base CX0 15 f fd zqd (spM K 3 zUg):=by
 exact fnQ B.fn Ti zbh λ_ _ _ _ _ _ hr hu=>(zj (zX 3 (Tn zr zp hr (mv 0)) (hN:=Ti.nd)) (zj (zX 4 (zFd (zMk rfl) T.SV zfv (zb (mlc ["_law_key_here"] [0] (zsb (mv 3)) (λ_ _ _ _ _=>(zU 0 (hN:=zV (by rfl)))) (λ_ _ _ _ _=>zcd) (λ_ _ _ _ _=>(zfd (zb (mv 0) (zb (sS zEb zKb hr (mv 1) (zb (mv 0) zf)) zf)))) (z9 ⟨_,rfl,rfl⟩ zNb)) zf)) (hN:=Ti.nd)) (zj (z9f (tD zAd zqe hr (zb (mv 0) (zb (mv 2) zf))) (z7m (zQb (zbb 5 (hN:=Ti.nd)) (zQb (zbb 6 (hN:=Ti.nd)) z1h)))) (zj (zhc (zVd (tD zch z9h hr (zb (zfd (zb (zT (mv 2) zu) (zb (mlc ["_law_key_here"] [2] (zsb (mv 3)) (λ_ _ _ _ _=>(zU 0 (hN:=zV (by rfl)))) (λ_ _ _ _ _=>zcd) (λ_ _ _ _ _=>(tD ztb zpb hr (zb (mv 1) (zb (mv 0) zf)))) (z9 ⟨_,rfl,rfl⟩ zNb)) zf))) zf))) (zj (zX 7 (zFd (zMk rfl) T.SV zfv (zb (mlc ["_law_key_here"] [0] (zsb (mv 3)) (λ_ _ _ _ _=>(zU 0 (hN:=zV (by rfl)))) (λ_ _ _ _ _=>zcd) (λ_ _ _ _ _=>(zfd (zb (mv 0) (zb (sS zEb zKb hr (mv 1) (zb (mv 0) zf)) zf)))) (z9 ⟨_,rfl,rfl⟩ zNb)) zf)) (hN:=Ti.nd)) (zn (zM (z8w (z8f z0w (mv 5) zlf) (z8w (z8f z0w (mv 6) zlf) (zOw (tD zHc z9c hr (zb (mv 0) (zb (mv 2) (zb (mv 7) zf)))))))))) z7) (zj (zhc (MW.mt (zxj (zZ (zXj hu) (mv 5) zdg) (zPg (zmj (zVd (tD zbd zQd hr (zb (mv 2) (zb (mv 3) (zb (mv 6) zf))))))))) (zn (zM zYh)) z7) (zj (zMf (zPv (mv 6))) (zn (zM (tD zHc z9c hr (zb (mv 0) (zb (mv 1) (zb (mv 4) zf))))))))))))
abbrev zXg:Yb:=top 41
abbrev zod:List yt:=["_law_pen_here","_law_keys"]
def sF:tu z3m zod (zo zXg):=by walk_at "s"
def zLo(T:Txt K mg){zrc:yc}{z0b:yh}(zQ:FnAt K mg "_law_take" zsd zub zrc z0b)(zN:tq P w K mg base CX0 2 zrc z0b zub (spM K 2 zJ)){f:yc}{fd:yh}(B:FnAt K mg "_law_key" zXg zod f fd):tq P w K mg base CX0 3 f fd zod (spM K 2 zkh):=by
 exact fnQ B.fn sF z5g λ_ _ _ _ _ _ hr hu=>(zj (zX 2 (tD zQ zN hr (zb (mv 0) (zb zu zf))) (hN:=sF.nd)) (zj (zhc (MW.mt (z0u (zZ zSi (mv 2) zu) (zEq (zZ (zXj hu) (mv 1) (zPe zf))))) (zn (zM (zT (mv 1) (tD zQ zN hr (zb (mv 0) (zb (zS zab T.Te zEc (zb (mv 1) zf)) zf)))))) z7) (zj (zhc (zZ (zFc hu) (mv 2) zu) (zn (zM (tD zQ zN hr (zb (mv 0) (zb (zmb zWy zu zu) zf))))) z7) (zn (zM (tD zQ zN hr (zb (mv 0) (zb zu zf))))))))
abbrev zTp:Yb:=top 51
abbrev zYq:List yt:=["_law_script"]
def so:tu zTA zYq (zo zTp):=by walk_at "s"
def z1y(T:Txt K mg){zbn:yc}{zdl:yh}(zZg:FnAt K mg "_law_pen" zih ztd zbn zdl)(zWh:tq P w K mg base CX0 1 zbn zdl ztd (spM K 1 z8g)){sC:yc}{zcg:yc}{zmf:yh}(zLc:sY K mg "Shelf" z6b zgb sC zcg zmf)(zld:tq P w K mg base CX0 1 zcg zmf zgb (spM K 2 z8b)){zDl:yc}{zck:yh}(zve:FnAt K mg "_law_rule" zJf zYc zDl zck)(zYe:tq P w K mg base CX0 3 zDl zck zYc (spM K 1 zue)){zrc:yc}{z0b:yh}(zQ:FnAt K mg "_law_take" zsd zub zrc z0b)(zN:tq P w K mg base CX0 2 zrc z0b zub (spM K 2 zJ)){Sl:yc}{zXk:yc}{zZj:yh}(zGf:MethAt K "Shelf" "put" "Shelf.put" zte ztc Sl zXk zZj)(zvg:tq P w K mg base (CXq P w) 4 zXk zZj ztc (spX K 2 zme)){z5m:yc}{zsl:yh}(znh:FnAt K mg "_law_one" zph zqd z5m zsl)(zUh:tq P w K mg base CX0 15 z5m zsl zqd (spM K 3 zUg)){z6m:yc}{zYl:yh}(z0g:FnAt K mg "_law_key" zXg zod z6m zYl)(z8h:tq P w K mg base CX0 3 z6m zYl zod (spM K 2 zkh)){TQ:yc}{zLd:yc}{z1c:yh}(zmc:MethAt K "Shelf" "rule" "Shelf.rule" zVc zqb TQ zLd z1c)(zxc:tq P w K mg base CX0 1 zLd z1c zqb (spM K 1 zWc)){tw:yc}{zy:yc}{zt:yh}(zr:MethAt K "Shelf" "all_there" "Shelf.all_there" zR zz tw zy zt)(zp:tq P w K mg base CX0 1 zy zt zz (spM K 1 zG)){f:yc}{fd:yh}(B:FnAt K mg "law" zTp zYq f fd):tq P w K mg base CX0 16 f fd zYq (spM K 1 zLs):=by
 obtain⟨z1i,n_Full,m_Full,k_Full⟩:=T.SS;obtain⟨z9p,n_Twice,m_Twice,k_Twice⟩:=T.SB;exact fnQ B.fn so z5v λ_ _ _ _ _ _ hr hu=>(zj (zX 1 (tD zZg zWh hr (zb (mv 0) zf)) (hN:=so.nd)) (zj (zX 2 (mmakeA zLc zld hr (zb (tD zve zYe hr (zb (mv 1) zf)) zf)) (hN:=so.nd)) (zj (zAc (zHf T.TC (zb (tD zQ zN hr (zb (mv 1) (zb zu zf))) zf)) (zbb 3 (hN:=so.nd)) (zn (z4w (zRw (zOv zGf zvg hr (mv 2) (zb (tD z0g z8h hr (zb (mv 1) (zb (Tn zr zp hr (mv 2)) zf))) zf))) (zZt [("Twice",false),("Full",true)] n_Full k_Full (T.ST z1i n_Full) (λ_=>(zn (zX 3 (mv 3) (hN:=so.nd)))) (zZt [("Twice",true),("Full",false)] n_Twice k_Twice (T.s_Twice z9p n_Twice) (λ_=>(zn (zX 3 (mv 3) (hN:=so.nd)))) z5t))))) (zj (zAc (zHf T.TC (zb (zmb zfc zu (tD zQ zN hr (zb (mv 1) (zb zu zf)))) zf)) (zbb 4 (hN:=so.nd)) (zn (zhc (zmj (zVd (tD znh zUh hr (zb (mv 2) (zb (Tn zmc zxc hr (mv 2)) (zb (tD zve zYe hr (zb (mv 1) zf)) zf)))))) (zn (zM zYh)) z7))) (zn (zM zYh))))))
end
end P
namespace P
open PySem PySem.Spec PyProof.Rows L2 M
set_option maxHeartbeats 4000000
variable {R:List Nat}{K:List (List Nat)}{O:Mem}{Q:D->Mem->Prop}{l i L B k a m n h x nest:Nat}{ds:List D}{O':Mem}{J:M.Loc}{G:FA}{S T C A met:List Nat}{row kvs ts:List (Nat×Nat)}{nx:M.Loc->Mem->Prop}{rt:D->Mem->Prop}{r:D}{lay0:List (Option Nat)}{rows:List (List Nat)}
def z0y{o o':tE}(h:O[l]?=some o):(O.set l o')[l]?=some o':=by
 rw[yO (List.getElem?_eq_some_iff.mp h).1]
def zBu{xs:List D}:M.cutD xs none (some (i:Int))=xs.take i:=by
 unfold M.cutD;rw[HT.SJ,HT.sIx_nat,List.drop_zero,Nat.sub_zero];rcases Nat.le_total i xs.length with h|h
 ·rw[Nat.min_eq_left h]
 ·rw[Nat.min_eq_right h,take_length,List.take_of_length_le h]
local macro_rules | `(tactic| walk_at "w") => `(tactic| first
  | refine zE ?_ | refine zob ?_ | refine zNj ?_ | refine zwb ?_ | refine zJi ?_ | refine zwh ?_ | refine zlb ?_ | refine zbf ?_
  | refine zd rfl ?_ | refine w_c ?_ | refine zq ?_ | refine zw ?_ | refine ze ?_ | refine zx ?_ | refine zvh ?_ | refine zni ?_ | refine zaA ?_ | refine zNz ?_ | refine zNw ?_ | refine zTx ?_ | refine z5B ?_ | refine w_not ?_ | refine zUB ?_ | refine z9j ?_ | refine zBl ?_ | refine zvr ?_ | refine zqB ?_
  | refine zO ?_ | refine z1t ?_ | refine zWi ?_ | refine zFh ?_ | refine z9t ?_ | refine zIg ?_ | refine zud ?_ | refine zkq ?_ | refine zMB ?_ | refine zsg ?_ | refine zxo ?_
  | refine zth ?_ | refine zas ?_ | refine zhk (by first | decide | omega) ?_ | refine zIv (by first | decide | omega) (by first | decide | omega) ?_ | refine zCj ?_ | refine zuj ?_ | refine zry ?_ | refine zKB ?_ | refine zsr ?_ | refine zSz (by decide) (by decide) (by decide) ?_ | refine zuz ?_ | refine ziA ?_ | refine zCz ?_ | refine zjz ?_
  | refine z7e rfl ?_ | refine zbr rfl ?_ | refine znl rfl ?_ | with_reducible refine ⟨_,rfl,?_⟩)
local macro_rules | `(tactic| walk_at "om") => `(tactic| first | omega | (simp only [length_map, length_range, Int.toNat_natCast, length_append, length_cons, List.length_nil] at *; omega) | (simp <;> omega))
structure WebA(L:Int)(rooms:List Int)(ks:List (List Int)):Prop where
 rl:1<=rooms.length/\rooms.length<=10
 rn:∀r∈rooms,0<=r
 kl:ks.length<=L
 kn:∀k∈ks,(2<=k.length/\k.length<=3)/\∀i∈k,0<=i/\i<rooms.length
def zdx{i:Int}(h0:0<=i)(h1:i<ds.length):∃d,d∈ds/\ds[i.toNat]?=some d/\atI ds i=some d:=by
 have hi:i.toNat<ds.length:=by omega
 refine⟨ds[i.toNat],getElem_mem hi,by simp[hi],?_⟩;have:=z4b (xs:=ds) (j:=i.toNat) (v:=ds[i.toNat]) (by simp[hi]);rw[Int.toNat_of_nonneg h0]at this;exact this
def Tb(ns:List Int)(O:Mem)(l B:Nat):Prop:=∃(b:Bool)(k:Nat)(r:Int),k<=B/\O[l]?=some (.lst [.fz (ns.map .int),.bl b,.int (k:Nat),.int r])
section
variable {ns:List Int}
def Tb.kb{O:Mem}{L:List Nat}(h:Tb ns O l B)(k:KB L O O')(hl:l∉L):Tb ns O' l B:=by
 obtain⟨b,j,r,hj,e⟩:=h;exact⟨b,j,r,hj,k.at_ _ _ hl e⟩
def Tb.app{O g:Mem}(h:Tb ns O l B):Tb ns (O++g) l B:=h.kb (L:=[]) (KB.refl.app) (by simp)
def Tb.keep{O:Mem}(h:Tb ns O l B)(k:tm O O'):Tb ns O' l B:=h.kb (L:=[]) (KB.of_keep k) (by simp)
def Tb.lt(h:Tb ns O l B):l<O.length:=by
 obtain⟨b,j,r,hj,e⟩:=h;exact zC e
def Tb.up{B':Nat}(h:Tb ns O l B)(hb:B<=B'):Tb ns O l B':=by
 obtain⟨b,j,r,hj,e⟩:=h;exact⟨b,j,r,by omega,e⟩
def zNy(q:∀O',tm O O'->Tb ns O' O.length 0->O'.length=O.length+1->Q (.loc O.length) O'):WF z8g [.fz (ns.map .int)] O Q:=by
 refine zFb rfl ?_;show WS zlh [some (.fz (ns.map .int))] O _ _ _ _;unfold zlh;refine zwb (zni (ze (zd rfl (ze (z5B (zq (zw (ze (zd rfl (zx (z7e rfl (w_c (zuj ⟨_,rfl,λh=>?_,λh=>?_⟩)))))))))))))
 ·have h0:ns≠[]:=by
   rintro rfl;simp at h
  obtain⟨n,ns',rfl⟩:=List.exists_cons_of_ne_nil h0;refine zq (zq (zq (zd rfl (w_c (zic rfl (z4b (j:=0) (v:=D.int n) rfl) (w_c (zhk (by omega) (w_c (zuj ?_)))))))));exact ze (w_c (ze (w_c (zx (q _ .app ⟨_,0,0,yi _,zA⟩ (by simp))))))
 ·exact ze (w_c (ze (w_c (zx (q _ .app ⟨_,0,0,yi _,zA⟩ (by simp))))))
def zHt(hk:k<=1000000)(q:∀v:Int,Q (.int v) O):WF zTe [.fz (ns.map .int),.int (k:Nat)] O Q:=by
 refine zFb rfl ?_;show WS zIe [some (.fz (ns.map .int)),some (.int (k:Nat)),none,none,none] O _ _ _ _;unfold zIe
 have mk:∀{i:Int},zZh i (k:Nat)=true:=λ{i}=>by
  unfold zZh;rw[decide_eq_true (show -(2^64)<((k:Nat):Int)/\((k:Nat):Int)<2^64 by omega)];simp
 have rest:∀c:Int,WS (zcb (zKc 3 (zH zon (zH z2h (zH zik (zH z2h (zH z2h (zm 2) (zH zik (fC (.int 40503)) (zm 1))) (fC (.int 1))) (fC (.int 48271))) (zH zik (zm 1) (zm 1))) (fC (.int 2147483647)))) (zcb (zKc 4 (zH zon (zH z2h (zH z2h (zH zik (zm 3) (zm 3)) (zH zik (fC (.int 69621)) (zm 3))) (zH zik (fC (.int 31)) (zm 1))) (fC (.int 2147483629)))) (zgc (zH zon (zH z2h (zH z2h (zH zik (zm 4) (zm 4)) (zH zik (fC (.int 16807)) (zm 4))) (zm 1)) (fC (.int 1073741789)))))) [some (.fz (ns.map .int)),some (.int (k:Nat)),some (.int c),none,none] O (λ_ O'=>Q .non O') Q (λ_ _=>False) (λ_ _=>False):=λc=>by
  refine zE (zob (zq (zq (zq (zq (zq (zd rfl (zq (w_c (zd rfl (zlm mk (zth (w_c (zth (w_c (zlm (by unfold zZh;simp) (zq (zd rfl (zd rfl (zlm mk (zth (w_c (zhk (by omega) ?_)))))))))))))))))))))));have h1:∀x:Int,0<=x%2147483647/\x%2147483647<2147483647:=λx=>⟨Int.emod_nonneg _ (by omega),Xc _ (by omega)⟩
  obtain⟨a1,b1⟩:=h1 ((c+40503*(k:Nat)+1)*48271+(k:Nat)*(k:Nat));generalize ((c+40503*((k:Nat):Int)+1)*48271+((k:Nat):Int)*((k:Nat):Int))%2147483647=x at a1 b1
  have mx:∀{i:Int},zZh i x=true:=λ{i}=>by
   unfold zZh;rw[decide_eq_true (show -(2^64)<x/\x<2^64 by omega)];simp
  refine zE (zob (zq (zq (zq (zq (zd rfl (zd rfl (zlm mx (zq (w_c (zd rfl (zlm mx (zth (zq (w_c (zd rfl (zlm mk (zth (w_c (zhk (by omega) ?_))))))))))))))))))));have h2:∀y:Int,0<=y%2147483629/\y%2147483629<2147483629:=λy=>⟨Int.emod_nonneg _ (by omega),Xc _ (by omega)⟩
  obtain⟨a2,b2⟩:=h2 (x*x+69621*x+31*(k:Nat));generalize (x*x+69621*x+31*((k:Nat):Int))%2147483629=y at a2 b2
  have my:∀{i:Int},zZh i y=true:=λ{i}=>by
   unfold zZh;rw[decide_eq_true (show -(2^64)<y/\y<2^64 by omega)];simp
  exact zwb (zq (zq (zq (zq (zd rfl (zd rfl (zlm my (zq (w_c (zd rfl (zlm my (zth (zd rfl (zth (w_c (zhk (by omega) (q _)))))))))))))))))
 refine zE (zob (w_c ?_));refine zE (zwh (zO (zq (zw (ze (zd rfl (zx (z7e rfl (w_c (zCj ⟨_,rfl,λh2=>?_,λh2=>zlb (rest _)⟩))))))))));have h2:=of_decide_eq_true h2;obtain⟨d,hm,_,ha⟩:=zdx (ds:=ns.map .int) (i:=(k:Nat)%((ns.map D.int).length:Int)) (Int.emod_nonneg _ (by omega)) (Xc _ h2);obtain⟨v,_,rfl⟩:=List.mem_map.mp hm;exact zob (zq (zd rfl (zq (zd rfl (zw (ze (zd rfl (zx (z7e rfl (zhk h2 (zic rfl ha (rest _))))))))))))
def zVA{gs:FGs}{P:M.Loc->Mem->Prop}{a b c d:D}(e:O[l]?=some (.lst [a,b,c,d]))(h:WGs gs [a,b,c,d] J O P):WG (gTL 4 gs) (.loc l) J O P:=by
 obtain⟨J1,O1,e1,q⟩:=h;refine⟨J1,O1,?_,q⟩;unfold gTL;dsimp only;rw[e];exact e1
def zGk{s:Int}(h:Tb ns O l B)(hB:B<=1000000)(h0:0<s)(h1:s<1606938044258990275541962092341162602522202993782792835301376)
 (q:∀v O',0<=v->v<s->KB [l] O O'->O'.length=O.length->Tb ns O' l (B+1)->Q (.int v) O'):WF zJ [.loc l,.int s] O Q:=by
 obtain⟨b,k,r,hk,e⟩:=h;have hlt:=zC e;refine zFb rfl ?_;show WS zZf [some (.loc l),some (.int s),none,none,none,none] O _ _ _ _;unfold zZf;refine zE (zNj (zd rfl (zVA e (zsg (zud (zsg (zud (zsg (zud (zsg (zud (zxo ?_))))))))))));refine zE (zNj (zq (zd rfl (w_c (zth ?_)))));refine zus (zd rfl (w_c ⟨_,_,_,rfl,rfl,e,⟨by omega,by simp⟩,?_⟩));show WS _ _ (O.set l (.lst [.fz (ns.map .int),.bl b,.int (((k:Nat):Int)+1),.int r])) _ _ _ _;have e2:(O.set l (tE.lst [.fz (ns.map .int),.bl b,.int (((k:Nat):Int)+1),.int r]))[l]?=some (.lst [.fz (ns.map .int),.bl b,.int ((k+1:Nat):Int),.int r]):=zY e;have k2:KB [l] O (O.set l (tE.lst [.fz (ns.map .int),.bl b,.int (((k:Nat):Int)+1),.int r])):=KB.refl.set (.inl (by simp));have l2:(O.set l (tE.lst [.fz (ns.map .int),.bl b,.int (((k:Nat):Int)+1),.int r])).length=O.length:=by simp
 generalize O.set l (tE.lst [.fz (ns.map .int),.bl b,.int (((k:Nat):Int)+1),.int r])=O2 at e2 k2 l2;refine zE (zwh (zO (zd rfl ⟨_,rfl,λhb=>?_,λhb=>zlb ?_⟩)))
 ·refine zwb (zq (zw (ze (zd rfl (ze (zd rfl (zx ?_))))))) ;refine zHt (by omega) λv=>zd rfl (zhk h0 ?_);exact q _ _ (Int.emod_nonneg _ (by omega)) (Xc _ h0) k2 l2 ⟨b,k+1,r,by omega,e2⟩
 ·have last:∀r':Int,WS (zcb (zPp (zH z2y (zm 5) (zm 1)) (gAt (zm 0) (fC (.int 3)))) (zgc (zH zon (zm 5) (zm 1)))) [some (.loc l),some (.int s),some (.fz (ns.map .int)),some (.bl b),some (.int (k:Nat)),some (.int r')] O2 (λ_ O'=>Q .non O') Q (λ_ _=>False) (λ_ _=>False):=λr'=>by
   refine zE (zNj (zq (zd rfl (zd rfl (zIv h0 h1 ?_)))));refine zus (zd rfl (w_c ⟨_,_,_,rfl,rfl,e2,⟨by omega,by simp⟩,?_⟩));show WS _ _ (O2.set l (.lst [.fz (ns.map .int),.bl b,.int ((k+1:Nat):Int),.int (r' / s)])) _ _ _ _;refine zwb (zq (zd rfl (zd rfl (zhk h0 ?_))));exact q _ _ (Int.emod_nonneg _ (by omega)) (Xc _ h0) (k2.trans (KB.refl.set (.inl (by simp)))) (by simp[l2]) ⟨b,k+1,r' / s,by omega,zY e2⟩
  refine zE (zwh (zO (zq (zq (zd rfl (w_c (zhk (by omega) (w_c (zuj ⟨_,rfl,λhz=>?_,λhz=>zlb (last r)⟩)))))))));refine zE (zob (w_c ?_));refine zwh (zO (zq (zq (zq (zd rfl (w_c (zIv (by omega) (by omega) (w_c (zth (zw (ze (zd rfl (zx (z7e rfl (zCj ⟨_,rfl,λh2=>?_,λh2=>zlb (last 0)⟩)))))))))))))));have h2:=of_decide_eq_true h2;obtain⟨d,hm,_,ha⟩:=zdx (ds:=ns.map .int) (i:=((k:Nat):Int) / 60+1) (by omega) h2;obtain⟨v,_,rfl⟩:=List.mem_map.mp hm;exact zob (zq (zd rfl (zq (zq (zd rfl (w_c (zIv (by omega) (by omega) (w_c (zth (zic rfl ha (last v)))))))))))
def zww{s:Nat}{G:FE}(hp:Tb ns O l B)
 (he:∀(k:Nat)(O':Mem)(Q':D->Mem->Prop),k<m->Tb ns O' l (B+k)->KB [l] O O'->(∀v O'',0<=v->v<(s:Int)->KB [l] O' O''->Tb ns O'' l (B+k+1)->Q' (.int v) O'')->WE G (J.set 0 (some (.int k))) O' Q')
 (q:∀(S:List Nat)(O':Mem),S.length=m->(∀h∈S,h<s)->KB [l] O O'->Tb ns O' l (B+m)->Q (.loc O'.length) (O'++[.lst (nat S)])) :
 WL (gN 0) zRh G yes J ((yw m).map λ(k:Nat) =>.int k) [] O Q:=by
 refine zLl (λi ys O'=>∃S:List Nat,ys=nat S/\S.length=i/\(∀h∈S,h<s)/\KB [l] O O'/\Tb ns O' l (B+i)) ⟨[],rfl,rfl,by simp,.refl,hp⟩ (λ_ _ _ _=>rfl) ?_ ?_
 ·rintro i x ys O' hx ⟨S,rfl,hl,hS,k,p⟩;obtain⟨hi,rfl⟩:=zah hx;refine zud (z9t ⟨λ_=>?_,λhf=>(by cases hf)⟩);refine he i O' _ hi p k λv O'' a b k' p'=>?_;obtain⟨v,rfl⟩:=xn a;refine⟨S++[v],by rw[zhd];rfl,by simp[hl],λh hh=>?_,k.trans k',p'⟩;rcases List.mem_append.mp hh with hh|hh
  ·exact hS h hh
  ·rw[List.mem_singleton.mp hh];omega
 ·rintro ys O' ⟨S,rfl,hl,hS,k,p⟩;simp only[length_map,length_range]at hl p;exact q S O' hl hS k p
end
def zMc{ns:List Int}{s:Nat}(h:Tb ns O l B)(hB:B<=1000000)(h0:0<s)(h1:s<=1000)(q:∀(v:Nat)(O':Mem),v<s->KB [l] O O'->Tb ns O' l (B+1)->Q (.int (v:Nat)) O'):WF zJ [.loc l,.int (s:Nat)] O Q :=
 zGk h hB (by omega) (by omega) λv O' a b k _ p=>by
  obtain⟨v,rfl⟩:=xn a;exact q v O' (by omega) k p
def SH(h:l≠a):a∉[l]:=λhm=>h (List.mem_singleton.mp hm).symm
abbrev tn(ns:List Nat):D:=.tup (nat ns)
abbrev wn(R:List Nat)(K:List (List Nat)):D:=.tup [tn R,.tup (K.map tn)]
structure Wb(L:Nat)(R:List Nat)(K:List (List Nat)):Prop where
 rl:1<=R.length/\R.length<=10
 kl:K.length<=L
 kn:∀k∈K,(2<=k.length/\k.length<=3)/\∀h∈k,h<R.length
def Wb.key(w:Wb L R K){k:Nat}(h:k<K.length):(2<=(K.getD k []).length/\(K.getD k []).length<=3)/\∀x∈K.getD k [],x<R.length:=by
 have:K.getD k []=K[k]:=by simp[h]
 rw[this];exact w.kn _ (getElem_mem h)
def zFq(q:Q (tn R) O):W2 gIx (wn R K) (.int 0) O Q:=zic rfl (show atI [tn R,.tup (K.map tn)] 0=some (tn R) from rfl) q
def zRk(q:Q (.tup (K.map tn)) O):W2 gIx (wn R K) (.int 1) O Q:=zic rfl (show atI [tn R,.tup (K.map tn)] 1=some (.tup (K.map tn)) from rfl) q
def z6s(h:k<K.length)(q:Q (tn (K.getD k [])) O):W2 gIx (.tup (K.map tn)) (.int k) O Q :=
 zic rfl (z4b (v:=tn (K.getD k [])) (by simp[h])) q
def z1s(h:k<R.length)(q:Q (.int (R.getD k 0:Nat)) O):W2 gIx (tn R) (.int k) O Q:=zic rfl (zyi h) q
structure Tc(R:List Nat)(K:List (List Nat))(lay:List (Option Nat)):Prop where
 len:lay.length=K.length
 home:∀k h,lay[k]?=some (some h)->h∈K.getD k []
 room:∀h,lay.count (some h)<=R.getD h 0
def zhm(K:List (List Nat))(S:List Nat):List Nat:=S.flatMap λk=>K.getD k []
def zGd(n:Nat)(K:List (List Nat))(S:List Nat):List Nat:=(yw n).filter λh=>decide (∃k∈S,h∈K.getD k [])
def z9l(R:List Nat)(N:List Nat):Nat:=(N.map λh=>R.getD h 0).sum
def zug(w:Wb L R K)(h:Nat):h∈zGd R.length K S↔∃k∈S,h∈K.getD k []:=by
 unfold zGd;rw[mem_filter,mem_range,decide_eq_true_iff];constructor
 ·exact λq=>q.2
 ·rintro⟨k,hk,hh⟩;refine⟨?_,k,hk,hh⟩;rw[getD_eq_getElem?_getD]at hh
  cases e:K[k]? with
  |none=>rw[e]at hh;simp at hh
  |some x=>rw[e]at hh;exact(w.kn x (mem_of_getElem? e)).2 h hh
def zsw :∀h∈zGd n K S,h<n:=λh hh=>by
 have:=(List.mem_filter.mp hh).1;simpa using this
def zJv(n:Nat)(K:List (List Nat))(S:List Nat):(zGd n K S).Pairwise (· < ·):=List.pairwise_lt_range.filter _
def zMp(n:Nat)(K:List (List Nat))(S:List Nat):(zGd n K S).length<=n:=by
 unfold zGd;refine yF (Xl _ _) ?_;simp
def zSl{L:Nat}{R:List Nat}{K:List (List Nat)}(w:Wb L R K):∀S:List Nat,(zhm K S).length<=3*S.length
 |[]=>by simp[zhm]
 |k::S=>by
  have ih:=zSl w S
  have h1:(K.getD k []).length<=3:=by
   rw[getD_eq_getElem?_getD]
   cases e:K[k]? with
   |none=>simp
   |some x=>exact(w.kn x (mem_of_getElem? e)).1.2
  unfold zhm at ih ⊢;rw[List.flatMap_cons,length_append,length_cons];omega
def zWd(R:List Nat)(K:List (List Nat))(S:List Nat):Bool:=decide (z9l R (zGd R.length K S)<S.length)
def z6r(w:Wb L R K)(hn:O[n]?=some (.lst (nat S)))(hS:∀k∈S,k<K.length)(hl:S.length<=1000)
 (q:∀(l:Nat)(O':Mem),tm O O'->O.length<=l->O'[l]?=some (.lst (nat (zGd R.length K S)))->Q (.loc l) O'):WF zrh [wn R K,.loc n] O Q:=by
 refine zFb rfl ?_;show WS z4g [some (wn R K),some (.loc n),none,none] O _ _ _ _;unfold z4g
 repeat walk_at "w"
 have hnl:=zC hn;refine zQc (zd rfl (.inr (.inr ⟨n,_,rfl,zPb hn,?_⟩)));refine zJb (λm J O'=>∃a:Option D,J=[some (wn R K),some (.loc n),some (.loc O.length),a]/\tm O O'/\O'[O.length]?=some (.lst (nat (zhm K (S.take m))))) ⟨none,rfl,.app,by simp[zhm]⟩ (λm J O' ⟨a,_,k,_⟩=>z5 hn k) ?_ ?_
 ·rintro m x J O1 hx ⟨a,rfl,k,hg⟩;rw[yg]at hx
  cases hy:S[m]? with
  |none=>rw[hy]at hx;cases hx
  |some kk=>
   rw[hy]at hx;cases hx;have hkk:=hS kk (mem_of_getElem? hy)
   walk_at "w"
   unfold z6j
   repeat walk_at "w"
   refine⟨O.length,_,rfl,hg,?_⟩
   repeat walk_at "w"
   refine zRk ?_
   repeat walk_at "w"
   refine z6s hkk ?_
   repeat walk_at "w"
   have hfl:=zSl w (S.take m);have hks:=(w.key hkk).1;have htl:(S.take m).length<=1000:=yF (by simp;omega) hl;refine z5z hg (by simp only[length_map];omega) ?_;refine⟨_,rfl,λi o e=>zhb (k i o e) (yW (zC e)),?_⟩;rw[zY hg];have ht:S.take (m+1)=S.take m++[kk]:=by rw[take_succ,hy];rfl
   have e2:zhm K (S.take (m+1))=zhm K (S.take m)++K.getD kk []:=by
    unfold zhm;rw[ht,List.flatMap_append];simp
   rw[e2,zhd]
 ·rintro J O1 ⟨a,rfl,k,hg⟩;rw[length_map,take_length]at hg
  have hmem:∀i:Int,i∈(zGd R.length K S).map (λ(k:Nat)=>(k:Int))↔i∈(zhm K S).map (λ(k:Nat)=>(k:Int)):=λi=>by
   simp only[mem_map];constructor
   ·rintro⟨h,hh,rfl⟩;obtain⟨k,hk,hh⟩:=(zug w h).mp hh;exact⟨h,List.mem_flatMap.mpr ⟨k,hk,hh⟩,rfl⟩
   ·rintro⟨h,hh,rfl⟩;obtain⟨k,hk,hh⟩:=List.mem_flatMap.mp hh;exact⟨h,(zug w h).mpr ⟨k,hk,hh⟩,rfl⟩
  have hpw:((zGd R.length K S).map (λ(k:Nat)=>(k:Int))).Pairwise (· < ·):=by
   rw[pairwise_map];exact(zJv R.length K S).imp λh=>by omega
  have hp:=zAk hmem hpw;have hsort:=zqn hmem hpw;have hfl:=zSl w S;have hrl:=w.rl;have hnl2:=zMp R.length K S;refine zwb (zDt (zd rfl ⟨_,(zhm K S).map (λ(k:Nat)=>(k:Int)),rfl,by rw[hg,map_map];rfl,by rw[length_map];omega,by rw[hp.length_eq,length_map];omega,?_⟩));rw[hsort,map_map];exact q _ _ k.to k.len zA
def zwu(hn:O[n]?=some (.lst (nat S)))(hS:∀k∈S,k<R.length)(hl:S.length<=1000)
 (q:∀(O':Mem),tm O O'->Q (.int (z9l R S:Nat)) O'):WF zzi [wn R K,.loc n] O Q:=by
 refine zFb rfl ?_;show WS zpi [some (wn R K),some (.loc n)] O _ _ _ _;unfold zpi
 repeat walk_at "w"
 refine zQc (zd rfl (.inr (.inr ⟨n,_,rfl,hn,zOb (by simp;omega),?_⟩)));refine zye (λ(k:Nat)=>D.int k) S (λk =>.int (R.getD k 0:Nat)) (λO' k=>z5 hn k) (λk hk O' kp=>?_) (λO' kp=>?_)
 ·have hkk:=hS k hk
  walk_at "w"
  unfold zkl
  repeat walk_at "w"
  refine zFq ?_
  repeat walk_at "w"
  exact z1s hkk ⟨rfl,kp,kp⟩
 ·repeat walk_at "w"
  refine zkx (S:=S.map λk=>R.getD k 0) (by rw[zA,zRg]) ?_;exact q _ kp.to
def zes(w:Wb L R K)(hn:O[n]?=some (.lst (nat S)))(hS:∀k∈S,k<K.length)(hl:S.length<=1000)
 (q:∀O',tm O O'->Q (.bl (zWd R K S)) O'):WF zfh [wn R K,.loc n] O Q:=by
 refine zFb rfl ?_;show WS z1g [some (wn R K),some (.loc n)] O _ _ _ _;unfold z1g
 repeat walk_at "w"
 refine z6r w hn hS hl λl O1 k1 hl1 g1=>?_
 repeat walk_at "w"
 have hnl:=zMp R.length K S;have hrl:=w.rl;refine zwu g1 zsw (by omega) λO2 k2=>?_
 repeat walk_at "w"
 refine z7e (zD (k2 _ _ (k1 _ _ hn))) ?_
 repeat walk_at "w"
 have:=q O2 (k1.trans k2);unfold zWd at this;simp only[length_map,Int.ofNat_lt];exact this
def z7p(lay:List (Option Nat))(a:Option Nat):lay.count a=((yw lay.length).filter λk=>decide (lay.getD k none=a)).length:=by
 have e:lay=(yw lay.length).map λk=>lay.getD k none:=by
  refine ext_getElem? λi=>?_
  by_cases h:i<lay.length
  ·simp[h]
  ·simp[h]
 conv=>lhs;rw[e]
 rw[List.count,List.countP_map,List.countP_eq_length_filter]
 congr 1
 refine filter_congr λk _=>?_;simp only[Function.comp];exact Bool.beq_eq_decide_eq _ _
def lyN(lay:List (Option Nat))(N:List Nat):List Nat:=(yw lay.length).filter λk=>decide (∃h∈N,lay.getD k none=some h)
def Sb{lay:List (Option Nat)}{N:List Nat}:k∈lyN lay N↔∃h∈N,lay.getD k none=some h:=by
 unfold lyN;rw[mem_filter,mem_range,decide_eq_true_iff];constructor
 ·exact λq=>q.2
 ·rintro⟨h,hh,e⟩;refine⟨?_,h,hh,e⟩;refine Nat.lt_of_not_le λhle=>?_;rw[getD_eq_getElem?_getD,Yd hle]at e;cases e
def zKz(lay:List (Option Nat))(N:List Nat):(lyN lay N).Nodup:=List.nodup_range.sublist filter_sublist
def zei{α:Type}(p q:α->Bool)(h:∀x,p x=true->q x=false):∀l:List α,(l.filter λx=>p x||q x).length=(l.filter p).length+(l.filter q).length
 |[]=>rfl
 |x::l=>by
  have ih:=zei p q h l
  cases hp:p x with
  |true=>simp[List.filter_cons,hp,h x hp,ih];omega
  |false=>
   cases hq:q x with
   |true=>simp[List.filter_cons,hp,hq,ih];omega
   |false=>simp[List.filter_cons,hp,hq,ih]
def zsq{lay:List (Option Nat)}:∀{N:List Nat},N.Nodup->(lyN lay N).length=(N.map λh=>lay.count (some h)).sum
 |[],_=>by simp[lyN]
 |h::N,nd=>by
  obtain⟨h1,h2⟩:=List.nodup_cons.mp nd;rw[map_cons,sum_cons,<-zsq h2,z7p]
  have:=zei (λk=>decide (lay.getD k none=some h)) (λk=>decide (∃g∈N,lay.getD k none=some g)) (λk hk=>by
   have hk:=of_decide_eq_true hk;refine decide_eq_false ?_;rintro⟨g,hg,e⟩;rw[hk]at e;cases e;exact h1 hg) (yw lay.length)
  rw[show lyN lay N=(yw lay.length).filter λk=>decide (∃g∈N,lay.getD k none=some g) from rfl,<-this];unfold lyN
  congr 1
  refine filter_congr λk _=>?_;rw[<-Bool.decide_or];refine decide_eq_decide.mpr ?_;simp only[mem_cons];constructor
  ·rintro⟨g,rfl|hg,e⟩
   ·exact .inl e
   ·exact .inr ⟨g,hg,e⟩
  ·rintro(e|⟨g,hg,e⟩)
   ·exact⟨h,.inl rfl,e⟩
   ·exact⟨g,.inr hg,e⟩
def z7u{α:Type}{f g:α->Nat}:∀{l:List α},(∀x∈l,f x<=g x)->(l.map f).sum<=(l.map g).sum
 |[],_=>yi _
 |x::l,h=>by
  rw[map_cons,map_cons,sum_cons,sum_cons];have h1:=h x mem_cons_self;have h2:=z7u (l:=l) λy hy=>h y (mem_cons_of_mem _ hy);omega
def zAb{α:Type}[DecidableEq α]:∀{l m:List α},l.Nodup->(∀x∈l,x∈m)->l.length<=m.length
 |[],_,_,_=>Yt _
 |x::l,m,nd,h=>by
  obtain⟨h1,h2⟩:=List.nodup_cons.mp nd;have hx:=h x mem_cons_self;have ih:=zAb (l:=l) (m:=m.erase x) h2 λy hy=>(List.mem_erase_of_ne (by rintro rfl;exact h1 hy)).mpr (h y (mem_cons_of_mem _ hy));rw[List.length_erase_of_mem hx]at ih;have:=List.length_pos_of_mem hx;rw[length_cons];omega
def zeu{lay:List (Option Nat)}(w:Wb L R K)(r:Tc R K lay)(hd:T.Nodup)(hT:∀k∈T,k<K.length)(hall:∀k∈T,(lay.getD k none).isSome=true):zWd R K T=false:=by
 refine decide_eq_false ?_;have hN:(zGd R.length K T).Nodup:=List.nodup_range.sublist filter_sublist
 have h1:T.length<=(lyN lay (zGd R.length K T)).length:=zAb hd λk hk=>by
  rw[Sb];have hs:=hall k hk
  cases e:lay.getD k none with
  |none=>rw[e]at hs;cases hs
  |some h=>
   refine⟨h,?_,rfl⟩;rw[zug w];refine⟨k,hk,r.home k h ?_⟩;have hkl:k<lay.length:=by rw[r.len];exact hT k hk
   simp[hkl]at e;simp[hkl,e]
 rw[zsq hN]at h1;have h2:((zGd R.length K T).map λh=>lay.count (some h)).sum<=z9l R (zGd R.length K T):=z7u λh _=>r.room h;omega
structure TJ(R:List Nat)(K:List (List Nat))(lay:List (Option Nat))(C:List Nat):Prop where
 keys:∀k∈C,k<K.length
 full:∀k∈C,∀h∈K.getD k [],R.getD h 0<=lay.count (some h)
 lies:∀k∈C,∀h∈K.getD k [],∀o,lay.getD o none=some h->o∈C
def TJ.nil{lay:List (Option Nat)}:TJ R K lay []:=⟨by simp,by simp,by simp⟩
def TJ.app{lay:List (Option Nat)}{E:List Nat}(a:TJ R K lay C)(b:TJ R K lay E):TJ R K lay (C++E):=by
 refine⟨λk hk=>?_,λk hk=>?_,λk hk h hh o e=>?_⟩
 ·rcases List.mem_append.mp hk with hk|hk
  ·exact a.keys k hk
  ·exact b.keys k hk
 ·rcases List.mem_append.mp hk with hk|hk
  ·exact a.full k hk
  ·exact b.full k hk
 ·rcases List.mem_append.mp hk with hk|hk
  ·exact mem_append_left _ (a.lies k hk h hh o e)
  ·exact mem_append_right _ (b.lies k hk h hh o e)
def TJ.congr{lay:List (Option Nat)}{E:List Nat}(a:TJ R K lay C)(h:∀k,k∈E↔k∈C):TJ R K lay E :=
 ⟨λk hk=>a.keys k ((h k).mp hk),λk hk=>a.full k ((h k).mp hk),λk hk g hg o e=>(h o).mpr (a.lies k ((h k).mp hk) g hg o e)⟩
def z9m{lay:List (Option Nat)}(w:Wb L R K)(s:TJ R K lay C)(hl:lay.length=K.length){k0:Nat}(hk0:k0∈C)(hn:lay.getD k0 none=none):zWd R K C=true:=by
 refine decide_eq_true ?_;have hN:(zGd R.length K C).Nodup:=List.nodup_range.sublist filter_sublist
 have h1:z9l R (zGd R.length K C)<=((zGd R.length K C).map λh=>lay.count (some h)).sum:=z7u λh hh=>by
  obtain⟨k,hk,hm⟩:=(zug w h).mp hh;exact s.full k hk h hm
 rw[<-zsq hN]at h1
 have h2:(k0::lyN lay (zGd R.length K C)).length<=C.length:=zAb (List.nodup_cons.mpr ⟨λhm=>(by
  obtain⟨h,_,e⟩:=Sb.mp hm;rw[hn]at e;cases e),zKz _ _⟩) λx hx=>by
  rcases List.mem_cons.mp hx with rfl|hx
  ·exact hk0
  ·obtain⟨h,hh,e⟩:=Sb.mp hx;obtain⟨k,hk,hm⟩:=(zug w h).mp hh;exact s.lies k hk h hm x e
 rw[length_cons]at h2;omega
structure Ts(K:List (List Nat))(lay:List (Option Nat))(key:Nat)(row:List (Nat×Nat)):Prop where
 first:∃h r,row=(key,h)::r
 mem:∀p∈row,p.1<K.length/\p.2∈K.getD p.1 []/\lay.getD p.1 none≠some p.2
 link:∀i p q,row[i]?=some p->row[i+1]?=some q->lay.getD q.1 none=some p.2
 nd:(row.map (·.1)).Nodup
def zre(lay:List (Option Nat))(row:List (Nat×Nat)):List (Option Nat):=row.foldl (λl p=>l.set p.1 (some p.2)) lay
def zCi(row:List (Nat×Nat)):∀lay:List (Option Nat),(zre lay row).length=lay.length:=by
 induction row with
 |nil=>intro lay;rfl
 |cons p row ih=>intro lay;show(zre (lay.set p.1 (some p.2)) row).length=_;rw[ih];simp
def zcn(lay:List (Option Nat))(row:List (Nat×Nat))(p:Nat×Nat):zre lay (row++[p])=(zre lay row).set p.1 (some p.2):=by
 unfold zre;rw[List.foldl_append];rfl
def zjf :∀{lay:List (Option Nat)} {k:Nat},k∉row.map (·.1)->(zre lay row).getD k none=lay.getD k none:=by
 induction row with
 |nil=>intro lay k _;rfl
 |cons p row ih=>
  intro lay k hk;rw[map_cons,mem_cons,not_or]at hk;show(zre (lay.set p.1 (some p.2)) row).getD k none=_;rw[ih hk.2];simp only[getD_eq_getElem?_getD];rw[yL (yV hk.1)]
def znn(nd:(row.map (·.1)).Nodup):∀{lay:List (Option Nat)} {p:Nat×Nat},p∈row->p.1<lay.length->(zre lay row).getD p.1 none=some p.2:=by
 induction row with
 |nil=>intro lay p hp;cases hp
 |cons q row ih=>
  intro lay p hp hl;rw[map_cons,nodup_cons]at nd;show(zre (lay.set q.1 (some q.2)) row).getD p.1 none=_;rcases List.mem_cons.mp hp with rfl|hp
  ·rw[zjf nd.1];simp[hl]
  ·exact ih nd.2 hp (by simpa using hl)
def zkj{lay:List (Option Nat)}{a b:Option Nat}(hk:k<lay.length)(ha:lay.getD k none=a)(x:Option Nat):(lay.set k b).count x+(if a=x then 1 else 0)=lay.count x+(if b=x then 1 else 0):=by
 have e1:lay=lay.take k++a::lay.drop (k+1):=by
  have:lay[k]=a:=by simpa[hk] using ha
  rw[<-this,List.getElem_cons_drop,take_append_drop]
 have e2:lay.set k b=lay.take k++b::lay.drop (k+1):=by rw[List.set_eq_take_append_cons_drop,if_pos hk]
 rw[e2]
 conv=>rhs;rw[e1]
 rw[count_append,count_append,List.count_cons,List.count_cons];simp only[beq_iff_eq]
 split<;>split<;>omega
def z2l{lay:List (Option Nat)}{key:Nat}(r:Ts K lay key row)(hl:lay.length=K.length)(hkey:lay.getD key none=none):∀i,i<row.length->∀h:Nat,(zre lay (row.take (i+1))).count (some h)=lay.count (some h)+(if(row.getD i (0,0)).2=h then 1 else 0):=by
 intro i
 induction i with
 |zero=>
  intro hi h;obtain⟨h0,r0,e⟩:=r.first
  have hm:=r.mem (key,h0) (by rw[e];simp);subst e;have:=zkj (lay:=lay) (k:=key) (b:=some h0) (by rw[hl];exact hm.1) hkey (some h);show(lay.set key (some h0)).count (some h)=_;simpa using this
 |succ i ih=>
  intro hi h;have ih:=ih (by omega) h;have hp:row[i]?=some row[i]:=by simp[show i<row.length by omega]
  have hq:row[i+1]?=some row[i+1]:=by simp[hi]
  have hlink:=r.link i _ _ hp hq;have hm:=r.mem row[i+1] (getElem_mem hi);have et:row.take (i+1+1)=row.take (i+1)++[row[i+1]]:=by simp
  have hnot:(row[i+1]).1∉(row.take (i+1)).map (·.1):=by
   intro hmem;have nd:=r.nd;rw[<-take_append_drop (i+1) row,map_append,nodup_append]at nd;refine nd.2.2 _ hmem _ ?_ rfl;refine List.mem_map.mpr ⟨row[i+1],?_,rfl⟩;rw[drop_eq_getElem_cons hi];exact mem_cons_self
  have hcur:(zre lay (row.take (i+1))).getD (row[i+1]).1 none=some (row[i]).2:=by rw[zjf hnot];exact hlink
  rw[et,zcn];have:=zkj (lay:=zre lay (row.take (i+1))) (k:=(row[i+1]).1) (b:=some (row[i+1]).2) (by rw[zCi,hl];exact hm.1) hcur (some h);have e1:row.getD i (0,0)=row[i]:=by simp[show i<row.length by omega]
  have e2:row.getD (i+1) (0,0)=row[i+1]:=by simp[hi]
  rw[e1]at ih;rw[e2];simp only[xm]at this;omega
def zSh{lay:List (Option Nat)}{key:Nat}(rt:Tc R K lay)(r:Ts K lay key row)(hkey:lay.getD key none=none)(hroom:lay.count (some (row.getD (row.length-1) (0,0)).2)<R.getD (row.getD (row.length-1) (0,0)).2 0):Tc R K (zre lay row):=by
 have hpos:0<row.length:=by
  obtain⟨h,q,e⟩:=r.first
  rw[e];simp
 refine⟨by rw[zCi];exact rt.len,λk h e=>?_,λh=>?_⟩
 ·have e':(zre lay row).getD k none=some h:=by rw[getD_eq_getElem?_getD,e];rfl
  by_cases hk:k∈row.map (·.1)
  ·obtain⟨p,hp,rfl⟩:=List.mem_map.mp hk;have hm:=r.mem p hp;rw[znn r.nd hp (by rw[rt.len];exact hm.1)]at e';cases e';exact hm.2.1
  ·rw[zjf hk]at e';refine rt.home k h ?_;rw[getD_eq_getElem?_getD]at e'
   cases q:lay[k]? with
   |none=>rw[q]at e';cases e'
   |some z=>rw[q]at e';exact congrArg some e'
 ·have:=z2l r rt.len hkey (row.length-1) (by omega) h;rw[show row.length-1+1=row.length by omega,take_length]at this;rw[this];have hr:=rt.room h
  split
  ·rename_i e
   rw[e]at hroom;omega
  ·omega
def zLy{lay:List (Option Nat)}{key:Nat}(s:TJ R K lay C)(r:Ts K lay key row)(hroom:lay.count (some (row.getD (row.length-1) (0,0)).2)<R.getD (row.getD (row.length-1) (0,0)).2 0) :
 ∀p∈row,∀k∈C,p.2∉K.getD k []:=by
 have key1:∀(j i:Nat),i+j+1=row.length->∀k∈C,(row.getD i (0,0)).2∉K.getD k []:=by
  intro j
  induction j with
  |zero=>
   intro i hi k hk hm;have:=s.full k hk _ hm;rw[show row.length-1=i by omega]at hroom;omega
  |succ j ih=>
   intro i hi k hk hm;have hp:row[i]?=some row[i]:=by simp[show i<row.length by omega]
   have hq:row[i+1]?=some row[i+1]:=by simp[show i+1<row.length by omega]
   have e1:row.getD i (0,0)=row[i]:=by simp[show i<row.length by omega]
   have e2:row.getD (i+1) (0,0)=row[i+1]:=by simp[show i+1<row.length by omega]
   rw[e1]at hm;have hin:=s.lies k hk _ hm _ (r.link i _ _ hp hq);refine ih (i+1) (by omega) _ hin ?_;rw[e2];exact(r.mem _ (getElem_mem _)).2.1
 intro p hp k hk;obtain⟨i,hi,rfl⟩:=List.mem_iff_getElem.mp hp;have:=key1 (row.length-1-i) i (by omega) k hk
 rwa [show row.getD i (0,0)=row[i] by simp[hi]]at this
def TJ.push{lay:List (Option Nat)}{key:Nat}(s:TJ R K lay C)(rt:Tc R K lay)(r:Ts K lay key row)(hkey:lay.getD key none=none)
 (hroom:lay.count (some (row.getD (row.length-1) (0,0)).2)<R.getD (row.getD (row.length-1) (0,0)).2 0):TJ R K (zre lay row) C:=by
 have hpos:0<row.length:=by
  obtain⟨h,q,e⟩:=r.first
  rw[e];simp
 have hout:=zLy s r hroom;refine⟨s.keys,λk hk h hh=>?_,λk hk h hh o e=>?_⟩
 ·have:=z2l r rt.len hkey (row.length-1) (by omega) h;rw[show row.length-1+1=row.length by omega,take_length]at this;have h1:=s.full k hk h hh;omega
 ·by_cases ho:o∈row.map (·.1)
  ·obtain⟨p,hp,rfl⟩:=List.mem_map.mp ho;rw[znn r.nd hp (by rw[rt.len];exact(r.mem p hp).1)]at e;cases e;exact absurd hh (hout p hp k hk)
  ·rw[zjf ho]at e;exact s.lies k hk h hh o e
def zJm(lay:List (Option Nat))(h:Nat):List Nat:=(yw lay.length).filter λk=>decide (lay.getD k none=some h)
def zPd(R:List Nat)(lay:List (Option Nat)):List Int:=(yw R.length).map λh=>(R.getD h 0:Int)-(lay.count (some h):Nat)
def zWv{lay:List (Option Nat)}(hn:O[n]?=some (.lst (lay.map onD)))(hl:lay.length<=1000)(q:∀(l:Nat)(O':Mem),tm O O'->O.length<=l->O'[l]?=some (.lst (nat (zJm lay h)))->Q (.loc l) O'):WF zjn [.loc n,.int h] O Q:=by
 refine zFb rfl ?_;show WS zsn [some (.loc n),some (.int h)] O _ _ _ _;unfold zsn
 repeat walk_at "w"
 refine zVj (zd rfl (.inr (.inr ⟨n,_,rfl,hn,zOb (by rw[zOd,length_map];omega),?_⟩)));rw[zpe onD lay none];refine z8e (λ(k:Nat) =>.tup [.int k,onD (lay.getD k none)]) (yw lay.length) (λ(k:Nat)=>D.int k) (λk=>decide (lay.getD k none=some h)) (λO' k=>z5 hn k) (λk hk O' kp=>?_) (λO' kp=>?_)
 ·repeat walk_at "w"
  refine zct (α:=Option Nat) (lay.getD k none) (some h) ?_
  repeat walk_at "w"
  refine⟨rfl,kp,λ_=>?_⟩;unfold znp;exact zd rfl ⟨rfl,kp⟩
 ·exact q _ _ kp.to kp.len zA
def zJt{lay:List (Option Nat)}(w:Wb L R K)(hn:O[n]?=some (.lst (lay.map onD)))(q:∀(l:Nat)(O':Mem),tm O O'->O.length<=l->O'[l]?=some (.lst ((zPd R lay).map .int))->Q (.loc l) O'):WF z4i [wn R K,.loc n] O Q:=by
 have hrl:=w.rl;refine zFb rfl ?_;show WS z1m [some (wn R K),some (.loc n)] O _ _ _ _;unfold z1m
 repeat walk_at "w"
 refine zVj ?_
 repeat walk_at "w"
 refine zFq (.inl ⟨_,rfl,zOb (by rw[zOd,length_map];omega),?_⟩);rw[zpe (λ(k:Nat)=>D.int k) R 0];refine zye (λ(k:Nat) =>.tup [.int k,.int (R.getD k 0:Nat)]) (yw R.length) (λ(k:Nat)=>D.int ((R.getD k 0:Int)-(lay.count (some k):Nat))) (λ_ _=>rfl) (λk hk O' kp=>?_) (λO' kp=>?_)
 ·repeat walk_at "w"
  refine⟨_,_,rfl,kp _ _ hn,?_⟩
  repeat walk_at "w"
  refine zHu (kp _ _ hn) ?_
  repeat walk_at "w"
  exact⟨rfl,kp,kp⟩
 ·refine q _ _ kp.to kp.len ?_;rw[zA];unfold zPd;rw[map_map];rfl
def zbo(K:List (List Nat))(ds:List D)(k:Nat):Bool:=!z3x (ds.getD k .non) && !((nat (K.getD k [])).any λy=>eqF y (ds.getD k .non))
def zCu(R:List Nat)(ds:List D)(h:Nat):Bool:=decide ((R.getD h 0:Nat)<(zZx ds h:Int))
def zKm(R:List Nat)(K:List (List Nat))(ds:List D):D:=match(yw K.length).find? (zbo K ds) with
 |some k =>.tup [.str "home",.int k]
 |none=>match(yw R.length).find? (zCu R ds) with
  |some h =>.tup [.str "room",.int h]
  |none =>.non
def z3v(w:Wb L R K)(hf:ds.all zed=true)(hn:O[n]?=some (.lst ds))(q:∀(l:Nat)(O':Mem),tm O O'->O.length<=l->O'[l]?=some (.lst (((yw R.length).map λh=>(R.getD h 0:Int)-(zZx ds h:Nat)).map .int))->Q (.loc l) O'):WF z4i [wn R K,.loc n] O Q:=by
 have hrl:=w.rl;refine zFb rfl ?_;show WS z1m [some (wn R K),some (.loc n)] O _ _ _ _;unfold z1m
 repeat walk_at "w"
 refine zVj ?_
 repeat walk_at "w"
 refine zFq (.inl ⟨_,rfl,zOb (by rw[zOd,length_map];omega),?_⟩);rw[zpe (λ(k:Nat)=>D.int k) R 0];refine zye (λ(k:Nat) =>.tup [.int k,.int (R.getD k 0:Nat)]) (yw R.length) (λ(k:Nat)=>D.int ((R.getD k 0:Int)-(zZx ds k:Nat))) (λ_ _=>rfl) (λk hk O' kp=>?_) (λO' kp=>?_)
 ·repeat walk_at "w"
  refine⟨_,_,rfl,kp _ _ hn,?_⟩
  repeat walk_at "w"
  refine zJu (kp _ _ hn) rfl hf ?_
  repeat walk_at "w"
  exact⟨rfl,kp,kp⟩
 ·refine q _ _ kp.to kp.len ?_;rw[zA,map_map];rfl
def zFw(hf:ds.all zed=true){k:Nat}{d:D}(h:ds[k]?=some d):zed d=true:=List.all_eq_true.mp hf d (mem_of_getElem? h)
def z6v(w:Wb L R K)(hf:ds.all zed=true)(hl:ds.length=K.length)(hn:O[n]?=some (.lst ds))(q:∀(O':Mem),tm O O'->Q (zKm R K ds) O'):WF zvn [wn R K,.loc n] O Q:=by
 have hrl:=w.rl;refine zFb rfl ?_;show WS zTn [some (wn R K),some (.loc n),none,none,none] O _ _ _ _;unfold zTn;refine zE (zbf (zVj (zd rfl (.inr (.inr ⟨n,_,rfl,hn,?_⟩)))));refine zJb (λm J O'=>∃a b:Option D,J=[some (wn R K),some (.loc n),a,b,none]/\O'=O/\∀j<m,zbo K ds j=false) ⟨_,_,rfl,rfl,by simp⟩ (λm J O' h=>by obtain⟨_,_,_,rfl,_⟩:=h;exact z5 hn .refl) ?_ ?_
 ·rintro m x J O' hx ⟨a,b,rfl,rfl,hb⟩;obtain⟨y,hy,rfl⟩:=zYn hx;have hm:m<ds.length:=(List.getElem?_eq_some_iff.mp hy).1;have hfy:=zFw hf hy;have hgy:ds.getD m .non=y:=by rw[getD_eq_getElem?_getD,hy];rfl
  have hgo:zbo K ds m=false->∀j<m+1,zbo K ds j=false:=λh j hj=>by
   by_cases e:j=m
   ·subst e;exact h
   ·exact hb j (by omega)
  repeat walk_at "w"
  refine zJk hfy ?_
  repeat walk_at "w"
  refine⟨λh1=>?_,λh1=>⟨λhc=>(by cases hc),λ_=>?_⟩⟩
  ·repeat walk_at "w"
   refine zRk ?_
   repeat walk_at "w"
   refine z6s (by omega) ?_;refine zyu rfl hfy (zio _) ?_
   repeat walk_at "w"
   refine⟨λh2=>?_,λh2=>?_⟩
   ·repeat walk_at "w"
    have hh:zbo K ds m=true:=by
     unfold zbo;rw[hgy,h1,h2];rfl
    have:=q O' .refl;unfold zKm at this;rw[zvm hh (by omega) hb]at this;exact this
   ·repeat walk_at "w"
    refine⟨_,_,rfl,rfl,hgo ?_⟩;unfold zbo;rw[hgy,h2,Bool.and_false]
  ·repeat walk_at "w"
   refine⟨_,_,rfl,rfl,hgo ?_⟩;unfold zbo;rw[hgy,h1,Bool.false_and]
 ·rintro J O' ⟨a,b,rfl,rfl,hb⟩;rw[zOd,hl]at hb;refine zE (zbf (zVj (zw (ze (zd rfl (ze (zd rfl (zx ?_))))))));refine z3v w hf hn λl O1 k1 hl1 g1 =>.inr (.inr ⟨l,_,rfl,g1,?_⟩);rw[zpe D.int _ 0];refine zJb (λm J O'=>∃a b c:Option D,J=[some (wn R K),some (.loc n),a,b,c]/\O'=O1/\∀j<m,zCu R ds j=false) ⟨_,_,_,rfl,rfl,by simp⟩ (λm J O' h=>by obtain⟨_,_,_,_,rfl,_⟩:=h;exact z5 g1 .refl) ?_ ?_
  ·rintro m x J O2 hx ⟨a,b,c,rfl,rfl,hr⟩
   have hm:m<R.length:=by
    have:=(List.getElem?_eq_some_iff.mp hx).1;simpa using this
   have ex:x=.tup [.int m,.int ((R.getD m 0:Int)-(zZx ds m:Nat))]:=by
    rw[yg]at hx;simp[hm]at hx;rw[<-hx];simp[hm]
   subst ex
   repeat walk_at "w"
   have hdec:decide ((R.getD m 0:Int)-(zZx ds m:Nat)<0)=zCu R ds m:=by
    unfold zCu;exact decide_eq_decide.mpr (by omega)
   rw[hdec];refine⟨λh1=>?_,λh1=>?_⟩
   ·repeat walk_at "w"
    have:=q O2 k1;unfold zKm at this;rw[zDg hb,zvm h1 hm hr]at this;exact this
   ·repeat walk_at "w"
    refine⟨_,_,_,rfl,rfl,λj hj=>?_⟩
    by_cases e:j=m
    ·subst e;exact h1
    ·exact hr j (by omega)
  ·rintro J O2 ⟨a,b,c,rfl,rfl,hr⟩;simp only[length_map,length_range]at hr
   repeat walk_at "w"
   have:=q O2 k1;unfold zKm at this;rw[zDg hb,zDg hr]at this;exact this
def zMr{lay:List (Option Nat)}(hh:h<R.length):atI ((zPd R lay).map D.int) (h:Int)=some (.int ((R.getD h 0:Int)-(lay.count (some h):Nat))):=z4b (by unfold zPd;simp[hh])
def zmy(R:List Nat):nat R=(zPd R []).map D.int:=by
 refine ext_getElem? λi=>?_;unfold zPd
 by_cases hi:i<R.length
 ·simp[hi]
 ·rw[Yd (by simp;omega),Yd (by simp;omega)]
def zxs{lay:List (Option Nat)}(hh:h<R.length):((zPd R lay).map D.int).set h (.int ((R.getD h 0:Int)-(lay.count (some h):Nat)-1))=(zPd R (lay++[some h])).map D.int:=by
 refine ext_getElem? λi=>?_;unfold zPd
 by_cases hi:i<R.length
 ·by_cases e:h=i
  ·subst e;rw[yO (by simpa using hh)];simp only[yg,List.getElem?_range hi,xE,count_append,List.count_singleton_self]
   congr 2
   omega
  ·rw[yL e];simp only[yg,List.getElem?_range hi,xE,count_append];rw[List.count_cons_of_ne (by simpa using e)];simp
 ·rw[Yd (by simp;omega),Yd (by simp;omega)]
abbrev PT:=List (Nat×Nat×Option Nat)
def dkP(P:PT):List (Int×D):=P.map λp=>((p.1:Int),.tup [.int (p.2.1:Nat),onD p.2.2])
def zpr(P:PT):zsh (dkP P)=nat (P.map (·.1)):=by
 unfold zsh dkP;rw[map_map,zRg];rfl
def zxq(P:PT)(h:Nat):((dkP P).any λp=>decide (p.1=(h:Int)))=decide (h∈P.map (·.1)):=by
 refine zFi ?_;unfold dkP;rw[any_map,any_eq_true];simp only[Function.comp,decide_eq_true_iff,mem_map];constructor
 ·rintro⟨p,hp,e⟩;exact⟨p,hp,by omega⟩
 ·rintro⟨p,hp,e⟩;exact⟨p,hp,by omega⟩
def zOk{P:PT}:(zgd (dkP P) (h:Int)).isSome=decide (h∈P.map (·.1)):=by
 rw[<-zxq,Bool.eq_iff_iff];unfold zgd;rw[Option.isSome_map,List.find?_isSome,any_eq_true]
def znx{P:PT}(nd:(P.map (·.1)).Nodup){p:Nat×Nat×Option Nat}(hp:p∈P):zgd (dkP P) (p.1:Int)=some (.tup [.int (p.2.1:Nat),onD p.2.2]):=by
 induction P with
 |nil=>cases hp
 |cons q P ih=>
  rw[map_cons,nodup_cons]at nd
  have e:zgd (dkP (q::P)) (p.1:Int)=if(q.1:Int)=p.1 then some (.tup [.int (q.2.1:Nat),onD q.2.2]) else zgd (dkP P) (p.1:Int):=by
   unfold zgd dkP;rw[map_cons,Xe]
   by_cases h:(q.1:Int)=p.1
   ·simp[h]
   ·simp[h]
  rw[e];rcases List.mem_cons.mp hp with rfl|hp
  ·rw[if_pos rfl]
  ·rw[if_neg,ih nd.2 hp];intro h;refine nd.1 (List.mem_map.mpr ⟨p,hp,by omega⟩)
def zst{P:PT}{f:Option Nat}(hn:h∉P.map (·.1)):z5l (dkP P) (h:Int) (.tup [.int k,onD f])=dkP (P++[(h,k,f)]):=by
 unfold z5l;rw[zxq,decide_eq_false hn,if_neg yB];simp[dkP]
def zRy{P:PT}{f:Option Nat}(hn:h∈P.map (·.1))(ha:∀p∈P,p.2=(k,f)):z5l (dkP P) (h:Int) (.tup [.int k,onD f])=dkP P:=by
 unfold z5l;rw[zxq,decide_eq_true hn,if_pos rfl];unfold dkP;rw[map_map];refine map_congr_left λp hp=>?_;simp only[Function.comp]
 split
 ·rw[ha p hp]
 ·rfl
structure Tree(R:List Nat)(K:List (List Nat))(lay:List (Option Nat))(key:Nat)(P:PT):Prop where
 nd:(P.map (·.1)).Nodup
 lt:∀p∈P,p.1<R.length
 ok:∀(i:Nat) p,P[i]?=some p->p.2.1<K.length/\p.1∈K.getD p.2.1 []/\((p.2.2=none/\p.2.1=key)\/∃(j:Nat)(q:Nat×Nat×Option Nat),j<i/\P[j]?=some q/\p.2.2=some q.1/\lay.getD p.2.1 none=some q.1)
def Tree.len{lay:List (Option Nat)}{key:Nat}{P:PT}(t:Tree R K lay key P):P.length<=R.length:=by
 have:=zAb t.nd (m:=yw R.length) λx hx=>by
  obtain⟨p,hp,rfl⟩:=List.mem_map.mp hx;simpa using t.lt p hp
 simpa using this
def Tree.add{lay:List (Option Nat)}{key:Nat}{P:PT}(t:Tree R K lay key P){h k:Nat}{f:Option Nat}(hn:h∉P.map (·.1))(hr:h<R.length)(hk:k<K.length)(hm:h∈K.getD k [])
 (hf:(f=none/\k=key)\/∃(j:Nat)(q:Nat×Nat×Option Nat),P[j]?=some q/\f=some q.1/\lay.getD k none=some q.1):Tree R K lay key (P++[(h,k,f)]):=by
 refine⟨?_,λp hp=>?_,λi p e=>?_⟩
 ·rw[map_append,nodup_append];refine⟨t.nd,by simp,λa ha b hb=>?_⟩;simp at hb;subst hb;exact λe=>hn (e▸ha)
 ·rcases List.mem_append.mp hp with hp|hp
  ·exact t.lt p hp
  ·rw[List.mem_singleton.mp hp];exact hr
 ·by_cases hi:i<P.length
  ·rw[yr hi]at e;obtain⟨h1,h2,h3⟩:=t.ok i p e;refine⟨h1,h2,?_⟩;rcases h3 with h3|⟨j,q,hj,eq,h4⟩
   ·exact .inl h3
   ·exact .inr ⟨j,q,hj,by rw[yr (by omega)];exact eq,h4⟩
  ·rw[yM (by omega)]at e
   have hi0:i-P.length=0:=by
    have:=(List.getElem?_eq_some_iff.mp e).1;simp at this;omega
   rw[hi0]at e;have e:(h,k,f)=p:=by simpa using e
   subst e;refine⟨hk,hm,?_⟩;rcases hf with hf|⟨j,q,eq,h4⟩
   ·exact .inl hf
   ·have hj:=(List.getElem?_eq_some_iff.mp eq).1;exact .inr ⟨j,q,by omega,by rw[yr hj];exact eq,h4⟩
def zet(d l:Nat)(O ν:Mem):Prop:=∀i o,i≠d->i≠l->O[i]?=some o->ν[i]?=some o
abbrev JPa(R:List Nat)(K:List (List Nat))(lay:List (Option Nat))(key n d l2 at_ o:Nat)(P0:PT)(ν:Mem):Nat->M.Loc->Mem->Prop:=λm J ν'=>∃(P:PT)(x:Option D),J=[some (wn R K),some (.loc n),some (.int key),some (.loc d),x,some (.loc l2),some (.int at_),some (.int o)]/\(∃E,P=P0++E)/\Tree R K lay key P/\(∀h∈(K.getD o []).take m,h∈P.map (·.1))/\zet d l2 ν ν'/\ν'[d]?=some (.dct (dkP P))/\ν'[l2]?=some (.lst (nat (P.map (·.1))))
def zzw{lay:List (Option Nat)}{key d l2 at_ o:Nat}{P0:PT}{q:Nat×Nat×Option Nat}{x4:Option D}{ν:Mem}{bk ct:M.Loc->Mem->Prop}(w:Wb L R K)(t:Tree R K lay key P0)(ho:o<K.length)(hq:P0[at_]?=some q)(hlo:lay.getD o none=some q.1)
 (hl2:d<l2) (gd:ν[d]?=some (.dct (dkP P0))) (gl:ν[l2]?=some (.lst (nat (P0.map (·.1)))))
 (k:∀(P:PT)(x:Option D)(ν':Mem),(∃E,P=P0++E)->Tree R K lay key P->(∀h∈K.getD o [],h∈P.map (·.1))->zet d l2 ν ν'->ν'[d]?=some (.dct (dkP P))->ν'[l2]?=some (.lst (nat (P.map (·.1))))->nx [some (wn R K),some (.loc n),some (.int key),some (.loc d),x,some (.loc l2),some (.int at_),some (.int o)] ν') :
 WS zWf [some (wn R K),some (.loc n),some (.int key),some (.loc d),x4,some (.loc l2),some (.int at_),some (.int o)] ν nx rt bk ct:=by
 unfold zWf;refine zbf (zQc (zq (zq (zd rfl (w_c (zRk (zd rfl (z6s ho (.inl ⟨_,rfl,?_⟩)))))))));refine zJb (JPa R K lay key n d l2 at_ o P0 ν) ⟨P0,_,rfl,⟨[],by simp⟩,t,by simp,λ_ _ _ _ e=>e,gd,gl⟩ (λ_ _ _ _=>rfl) ?_ ?_
 ·rintro m x J ν1 hx ⟨P,y,rfl,⟨E,hE⟩,tP,hm,k1,g1,g2⟩;rw[yg]at hx
  cases hy:(K.getD o [])[m]? with
  |none=>rw[hy]at hx;cases hx
  |some h=>
   rw[hy]at hx;cases hx;have hmem:=mem_of_getElem? hy;have htk:(K.getD o []).take (m+1)=(K.getD o []).take m++[h]:=by rw[take_succ,hy];rfl
   have hpl:=tP.len;have hrl:=w.rl
   have hat:(P.map (·.1))[at_]?=some q.1:=by
    have hlt:=(List.getElem?_eq_some_iff.mp hq).1;rw[hE,map_append,yr (by simpa using hlt),yg,hq];rfl
   refine zud ?_;unfold zwi;refine zwh (zO (zq (zd rfl (zd rfl (zsv (zac g1) ⟨_,rfl,λhb=>?_,λhb=>zlb ?_⟩)))))
   ·have hnew:h∉P.map (·.1):=by
     rw[zOk]at hb;simpa using hb
    refine zE (zNj (zvh (ze (zd rfl (ze (zq (zd rfl (zd rfl (zic (zD g2) (z4b (v:=.int (q.1:Nat)) (by rw[yg,hat];rfl)) (zx ?_))))))))));refine zLr (zd rfl (zd rfl ⟨_,_,_,rfl,rfl,g1,by simp[dkP];omega,?_⟩));rw[show(D.tup [.int (o:Nat),.int (q.1:Nat)])=.tup [.int (o:Nat),onD (some q.1)] from rfl,zst hnew];have g1':=zY (o':=tE.dct (dkP (P++[(h,o,some q.1)]))) g1;have g2':=zhb (o':=tE.dct (dkP (P++[(h,o,some q.1)]))) g2 (by omega:d≠l2);refine zJi (z9j (zd rfl ⟨_,_,rfl,g2',?_⟩));refine ze (zd rfl (zx ?_));refine zfi g2' (by rw[length_map,length_map];omega) ?_
    have hatP:P[at_]?=some q:=by
     have hlt:=(List.getElem?_eq_some_iff.mp hq).1;rw[hE,yr hlt];exact hq
    refine⟨P++[(h,o,some q.1)],_,rfl,⟨E++[(h,o,some q.1)],by rw[hE];simp⟩,tP.add hnew ((w.key ho).2 h hmem) ho hmem (.inr ⟨at_,q,hatP,rfl,hlo⟩),λg hg=>?_,λi o' hi1 hi2 e'=>zhb (zhb (k1 i o' hi1 hi2 e') (yV hi1)) (yV hi2),zhb g1' (by omega),?_⟩
    ·rw[htk]at hg;rw[map_append,mem_append];rcases List.mem_append.mp hg with hg|hg
     ·exact .inl (hm g hg)
     ·rw[List.mem_singleton.mp hg];exact .inr (by simp)
    ·rw[zY g2',map_append,zhd];rfl
   ·have hold:h∈P.map (·.1):=by
     rw[zOk]at hb;simpa using hb
    refine⟨P,_,rfl,⟨E,hE⟩,tP,λg hg=>?_,k1,g1,g2⟩;rw[htk]at hg;rcases List.mem_append.mp hg with hg|hg
    ·exact hm g hg
    ·rw[List.mem_singleton.mp hg];exact hold
 ·rintro J ν1 ⟨P,y,rfl,hE,tP,hm,k1,g1,g2⟩;rw[length_map,take_length]at hm;exact k P y ν1 hE tP hm k1 g1 g2
abbrev JPb(R:List Nat)(K:List (List Nat))(lay:List (Option Nat))(key n:Nat)(O:Mem):Nat->M.Loc->Mem->Prop:=λm J ν=>∃(P:PT)(x:Option D),J=[some (wn R K),some (.loc n),some (.int key),some (.loc O.length),x,none,none,none]/\Tree R K lay key P/\(∀p∈P,p.2=(key,none))/\(∀h∈(K.getD key []).take m,h∈P.map (·.1))/\tm O ν/\ν[O.length]?=some (.dct (dkP P))
abbrev JPc(R:List Nat)(K:List (List Nat))(lay:List (Option Nat))(key n:Nat)(O ν1:Mem):Nat->M.Loc->Mem->Prop:=λm J ν=>∃(P:PT)(at_:Nat)(x y:Option D),m=R.length-at_/\at_<=P.length/\J=[some (wn R K),some (.loc n),some (.int key),some (.loc O.length),x,some (.loc ν1.length),some (.int at_),y]/\Tree R K lay key P/\(∀h∈K.getD key [],h∈P.map (·.1))/\(∀(i:Nat) p,i<at_->P[i]?=some p->∀o,lay.getD o none=some p.1->∀h∈K.getD o [],h∈P.map (·.1))/\tm O ν/\ν[O.length]?=some (.dct (dkP P))/\ν[ν1.length]?=some (.lst (nat (P.map (·.1))))
abbrev JPd(R:List Nat)(K:List (List Nat))(lay:List (Option Nat))(key n:Nat)(O ν1:Mem)(at_:Nat)(P:PT)(q0:Nat×Nat×Option Nat)(l4:Nat):Nat->M.Loc->Mem->Prop:=λj J ν=>∃(P':PT)(x y:Option D),J=[some (wn R K),some (.loc n),some (.int key),some (.loc O.length),x,some (.loc ν1.length),some (.int at_),y]/\(∃E,P'=P++E)/\Tree R K lay key P'/\(∀o∈(zJm lay q0.1).take j,∀h∈K.getD o [],h∈P'.map (·.1))/\tm O ν/\ν[O.length]?=some (.dct (dkP P'))/\ν[ν1.length]?=some (.lst (nat (P'.map (·.1))))/\ν[l4]?=some (.lst (nat (zJm lay q0.1)))
def zUp{lay:List (Option Nat)}{key:Nat}(w:Wb L R K)(hlen:lay.length=K.length)(hL:L<=1000)(hn:O[n]?=some (.lst (lay.map onD)))(hk:key<K.length)
 (q:∀(P:PT)(d:Nat)(O':Mem),Tree R K lay key P->(∀h∈K.getD key [],h∈P.map (·.1))->(∀p∈P,∀o,lay.getD o none=some p.1->∀h∈K.getD o [],h∈P.map (·.1))->tm O O'->O.length<=d->O'[d]?=some (.dct (dkP P))->Q (.loc d) O'):WF zYf [wn R K,.loc n,.int key] O Q:=by
 have hrl:=w.rl;have hkl:=w.kl;refine zFb rfl ?_;show WS zCf [some (wn R K),some (.loc n),some (.int key),none,none,none,none,none] O _ _ _ _;unfold zCf;refine zE (zob (zaA (zE (zbf (zQc (zq (zq (zd rfl (w_c (zRk (zd rfl (z6s hk (.inl ⟨_,rfl,?_⟩))))))))))))) ;refine zJb (JPb R K lay key n O) ⟨[],_,rfl,⟨by simp,by simp,λi p e=>by simp at e⟩,by simp,by simp,.app,zA⟩ (λ_ _ _ _=>rfl) ?_ ?_
 ·rintro m x J ν1 hx ⟨P,y,rfl,tP,ha,hm,k1,g1⟩;rw[yg]at hx
  cases hy:(K.getD key [])[m]? with
  |none=>rw[hy]at hx;cases hx
  |some h=>
   rw[hy]at hx;cases hx;have hmem:=mem_of_getElem? hy;have htk:(K.getD key []).take (m+1)=(K.getD key []).take m++[h]:=by rw[take_succ,hy];rfl
   have hpl:=tP.len;refine zud ?_;unfold zji;refine zNj (zvh (ze (zd rfl (ze (w_c (zx ?_))))));refine zLr (zd rfl (zd rfl ⟨_,_,_,rfl,rfl,g1,by simp[dkP];omega,?_⟩));rw[show(D.tup [.int (key:Nat),.non])=.tup [.int (key:Nat),onD none] from rfl];have kk:∀o':tE,tm O (ν1.set O.length o'):=λo' i o e=>zhb (k1 i o e) (yW (zC e))
   by_cases hin:h∈P.map (·.1)
   ·rw[zRy hin ha];refine⟨P,_,rfl,tP,ha,λg hg=>?_,kk _,zY g1⟩;rw[htk]at hg;rcases List.mem_append.mp hg with hg|hg
    ·exact hm g hg
    ·rw[List.mem_singleton.mp hg];exact hin
   ·rw[zst hin];refine⟨P++[(h,key,none)],_,rfl,tP.add hin ((w.key hk).2 h hmem) hk hmem (.inl ⟨rfl,rfl⟩),λp hp=>?_,λg hg=>?_,kk _,zY g1⟩
    ·rcases List.mem_append.mp hp with hp|hp
     ·exact ha p hp
     ·rw[List.mem_singleton.mp hp]
    ·rw[htk]at hg;rw[map_append,mem_append];rcases List.mem_append.mp hg with hg|hg
     ·exact .inl (hm g hg)
     ·rw[List.mem_singleton.mp hg];exact .inr (by simp)
 ·rintro J ν1 ⟨P0,y,rfl,tP0,_,hm0,k1,g1⟩;rw[length_map,take_length]at hm0;refine zE (zob (zw (ze (zd rfl (zx (z3y (zac g1) ?_))))));rw[zpr];have hl2:O.length<ν1.length:=zC g1;refine zE (zob (w_c (zE ?_)));refine zwn (JPc R K lay key n O ν1) (m:=R.length) (by omega) ⟨P0,0,_,_,by simp,by simp,rfl,tP0,hm0,by simp,k1.to,zPb g1,zA⟩ ?_;rintro m J ν2 ⟨P,at_,x,y,rfl,hat,rfl,tP,hkey,hcl,k2,g2,g3⟩;have hpl:=tP.len
  repeat walk_at "w"
  refine z7e (zD g3) ?_;refine zCj ⟨_,rfl,λh1=>?_,λh1=>?_⟩
  ·have h1:at_<P.length:=by
    have:=of_decide_eq_true h1;simp only[length_map]at this;omega
   have hq:P[at_]?=some P[at_]:=by simp[h1]
   generalize P[at_]=q0 at hq;have hat':(P.map (·.1))[at_]?=some q0.1:=by rw[yg,hq];rfl
   unfold zqj;refine zE (zbf (zQc (zw (ze (zd rfl (ze (zq (zd rfl (zd rfl (zic (zD g3) (z4b (v:=.int (q0.1:Nat)) (by rw[yg,hat'];rfl)) (zx ?_)))))))))));refine zWv (h:=q0.1) (k2 _ _ hn) (by omega) λl4 ν4 k4 hl4 g4 =>.inr (.inr ⟨l4,_,rfl,g4,?_⟩);have hν2:=zC g3;refine zJb (JPd R K lay key n O ν1 at_ P q0 l4) ⟨P,_,_,rfl,⟨[],by simp⟩,tP,by simp,k2.trans k4,k4 _ _ g2,k4 _ _ g3,g4⟩ (λj J ν ⟨_,_,_,_,_,_,_,_,_,_,h⟩=>z5 h .refl) ?_ ?_
   ·rintro j z J ν5 hz ⟨P',x',y',rfl,⟨E,hE⟩,tP',hdone,k5,g5,g6,g7⟩;rw[yg]at hz
    cases ho:(zJm lay q0.1)[j]? with
    |none=>rw[ho]at hz;cases hz
    |some o=>
     rw[ho]at hz;cases hz;have hom:=mem_of_getElem? ho;have hom':=List.mem_filter.mp hom;have hol:o<K.length:=by rw[<-hlen];simpa using hom'.1
     have hlo:=of_decide_eq_true hom'.2;have htk:(zJm lay q0.1).take (j+1)=(zJm lay q0.1).take j++[o]:=by rw[take_succ,ho];rfl
     have hq':P'[at_]?=some q0:=by rw[hE,yr h1];exact hq
     refine zud ?_;have hl5:=zC g6;refine zzw w tP' hol hq' hlo hl2 g5 g6 λP'' x'' ν6 ⟨E',hE'⟩ tP'' hall k6 g8 g9=>⟨P'',_,_,rfl,⟨E++E',by rw[hE',hE,append_assoc]⟩,tP'',λo' ho' h hh=>?_,λi o' e'=>k6 i o' (yu (zC e')) (by have:=zC e';omega) (k5 i o' e'),g8,g9,k6 l4 _ (by omega) (by omega) g7⟩
     rw[htk]at ho';rcases List.mem_append.mp ho' with ho'|ho'
     ·rw[hE',map_append,mem_append];exact .inl (hdone o' ho' h hh)
     ·rw[List.mem_singleton.mp ho']at hh;exact hall h hh
   ·rintro J ν5 ⟨P',x',y',rfl,⟨E,hE⟩,tP',hdone,k5,g5,g6,g7⟩;rw[nat,length_map,take_length]at hdone;have hpl':=tP'.len;refine zHB rfl (w_c (zYz ?_));refine⟨R.length-(at_+1),by omega,P',at_+1,_,_,rfl,by rw[hE];simp;omega,rfl,tP',λh hh=>?_,λi p hi e o ho h hh=>?_,k5,g5,g6⟩
    ·rw[hE,map_append,mem_append];exact .inl (hkey h hh)
    ·by_cases hia:i<at_
     ·rw[hE,yr (by omega)]at e;rw[hE,map_append,mem_append];exact .inl (hcl i p hia e o ho h hh)
     ·have:i=at_:=by omega
      subst this;rw[hE,yr h1,hq]at e;cases e;refine hdone o ?_ h hh;refine List.mem_filter.mpr ⟨?_,decide_eq_true ho⟩;rw[mem_range];refine Nat.lt_of_not_le λhle=>?_;rw[getD_eq_getElem?_getD,Yd hle]at ho;cases ho
  ·refine zwb (zd rfl ?_)
   have h1:at_=P.length:=by
    have:=of_decide_eq_false h1;simp only[length_map]at this;omega
   refine q P _ ν2 tP hkey (λp hp o e h hh=>?_) k2 (yi _) g2;obtain⟨i,hi,rfl⟩:=List.mem_iff_getElem.mp hp;exact hcl i P[i] (by omega) (by simp[hi]) o e h hh
abbrev pD(p:Nat×Nat):D:=.tup [.int (p.1:Nat),.int (p.2:Nat)]
inductive Path(P:PT)(lay:List (Option Nat)):Nat->List (Nat×Nat)->Prop
 |one {i:Nat} {p:Nat×Nat×Option Nat} (e:P[i]?=some p):Path P lay i [(p.2.1,p.1)]
 |up {i j:Nat} {p q:Nat×Nat×Option Nat} {row:List (Nat×Nat)} (h:Path P lay i row) (e:P[i]?=some p) (eq:P[j]?=some q) (hj:j<i) (hf:p.2.2=some q.1) (hl:lay.getD p.2.1 none=some q.1):Path P lay j ((q.2.1,q.1)::row)
def Path.head{P:PT}{lay:List (Option Nat)}(h:Path P lay i row):∃p r,P[i]?=some p/\row=(p.2.1,p.1)::r:=by
 cases h with
 |one e=>exact⟨_,_,e,rfl⟩
 |up h e eq hj hf hl=>exact⟨_,_,eq,rfl⟩
def Path.idx{P:PT}{lay:List (Option Nat)}(h:Path P lay i row):∀x∈row,∃j p,i<=j/\P[j]?=some p/\x=(p.2.1,p.1):=by
 induction h with
 |one e=>intro x hx;rw[List.mem_singleton.mp hx];exact⟨_,_,yi _,e,rfl⟩
 |up h e eq hj hf hl ih=>
  intro x hx;rcases List.mem_cons.mp hx with rfl|hx
  ·exact⟨_,_,yi _,eq,rfl⟩
  ·obtain⟨m,p,hm,e',r⟩:=ih x hx;exact⟨m,p,by omega,e',r⟩
def Path.tail{P:PT}{lay:List (Option Nat)}(h:Path P lay i row):∀x∈row.tail,∃j p,i<=j/\P[j]?=some p/\lay.getD x.1 none=some p.1:=by
 induction h with
 |one e=>intro x hx;cases hx
 |up h e eq hj hf hl ih=>
  intro x hx;obtain⟨p',r,e',er⟩:=h.head;rw[e]at e';cases e';rw[List.tail_cons,er]at hx;rcases List.mem_cons.mp hx with rfl|hx
  ·exact⟨_,_,yi _,eq,hl⟩
  ·obtain⟨m,p,hm,e',r⟩:=ih x (by rw[er];exact hx);exact⟨m,p,by omega,e',r⟩
def Path.link{P:PT}{lay:List (Option Nat)}(h:Path P lay i row):∀n p q,row[n]?=some p->row[n+1]?=some q->lay.getD q.1 none=some p.2:=by
 induction h with
 |one e=>intro n p q _ e2;simp at e2
 |up h e eq hj hf hl ih=>
  intro n p q e1 e2
  cases n with
  |zero=>
   obtain⟨p',r,e',er⟩:=h.head;rw[e]at e';cases e';rw[er]at e2;simp at e1 e2;subst e1 e2;exact hl
  |succ n=>exact ih n p q (by simpa using e1) (by simpa using e2)
def zJA{P:PT}(nd:(P.map (·.1)).Nodup){i j:Nat}{p q:Nat×Nat×Option Nat}(e1:P[i]?=some p)(e2:P[j]?=some q)(h:p.1=q.1):i=j:=by
 have h1:(P.map (·.1))[i]?=some p.1:=by rw[yg,e1];rfl
 have h2:(P.map (·.1))[j]?=some p.1:=by rw[yg,e2,h];rfl
 obtain⟨a,h1⟩:=List.getElem?_eq_some_iff.mp h1;obtain⟨b,h2⟩:=List.getElem?_eq_some_iff.mp h2;have pw:=List.pairwise_iff_getElem.mp nd;rcases Nat.lt_trichotomy i j with h|h|h
 ·exact absurd (h1.trans h2.symm) (pw i j a b h)
 ·exact h
 ·exact absurd (h2.trans h1.symm) (pw j i b a h)
def Path.ndk{P:PT}{lay:List (Option Nat)}{key:Nat}(t:Tree R K lay key P)(hkey:lay.getD key none=none)(h:Path P lay i row):(row.map (·.1)).Nodup:=by
 induction h with
 |one e=>simp
 |@up i j p q row h e eq hj hf hl ih=>
  rw[map_cons,nodup_cons];refine⟨λhm=>?_,ih⟩;obtain⟨x,hx,ex⟩:=List.mem_map.mp hm;have ht:=(Path.up h e eq hj hf hl).tail x hx;obtain⟨m,p',hm',e',el⟩:=ht;rw[ex]at el;obtain⟨_,_,h3⟩:=t.ok j q eq;rcases h3 with ⟨_,h3⟩|⟨j',q',hj',eq',_,h4⟩
  ·simp only at el;rw[h3,hkey]at el;cases el
  ·simp only at el;rw[h4]at el;have:=zJA t.nd eq' e' (by injection el);omega
def Path.ok{P:PT}{lay:List (Option Nat)}{key:Nat}{p:Nat×Nat×Option Nat}(t:Tree R K lay key P)(hkey:lay.getD key none=none)(h:Path P lay i row)(e:P[i]?=some p)(hp:p.2.2=none):Ts K lay key row:=by
 refine⟨?_,λx hx=>?_,h.link,h.ndk t hkey⟩
 ·obtain⟨p',r,e',er⟩:=h.head;rw[e]at e';cases e';rcases(t.ok i p e).2.2 with ⟨_,h3⟩|⟨_,_,_,_,h3,_⟩
  ·exact⟨p.1,r,by rw[er,h3]⟩
  ·rw[hp]at h3;cases h3
 ·obtain⟨j,q,_,eq,rfl⟩:=h.idx x hx;obtain⟨h1,h2,h3⟩:=t.ok j q eq;refine⟨h1,h2,?_⟩;rcases h3 with ⟨_,h3⟩|⟨j',q',hj',eq',_,h4⟩
  ·simp only;rw[h3,hkey];exact λh=>by cases h
  ·simp only;rw[h4];intro h;have:=zJA t.nd eq' eq (by injection h);omega
abbrev JRo(P:PT)(lay:List (Option Nat))(p0:Nat×Nat×Option Nat)(d:Nat)(O:Mem):Nat->M.Loc->Mem->Prop:=λm J ν=>∃(acc:List (Nat×Nat)) (f:Option Nat),J=[some (.loc d),some (onD f),some (.loc O.length)]/\tm O ν/\ν[O.length]?=some (.lst (acc.map pD))/\acc.length+m<=P.length /\
 ((f=none∧(∃ k,acc[0]?=some (k,p0.1))∧∃ i p,Path P lay i acc.reverse∧P[i]?=some p∧p.2.2=none) ∨
  (∃i p,m=i+1/\P[i]?=some p/\f=some p.1/\((acc=[]/\p=p0)\/((∃k,acc[0]?=some (k,p0.1))/\∃i' p',i<i'/\Path P lay i' acc.reverse/\P[i']?=some p'/\p'.2.2=some p.1/\lay.getD p'.2.1 none=some p.1))))
def zMv{lay:List (Option Nat)}{key d i0:Nat}{p0:Nat×Nat×Option Nat}{P:PT}(t:Tree R K lay key P)(hR:R.length<=10)(hkey:lay.getD key none=none)(hd:zyb O (.loc d)=some (dkP P))(hp0:P[i0]?=some p0)
 (q:∀(row:List (Nat×Nat)) (l:Nat) (O':Mem),Ts K lay key row->(row.getD (row.length-1) (0,0)).2=p0.1->row.length<=P.length->tm O O'->O.length<=l->O'[l]?=some (.lst (row.map pD))->Q (.loc l) O'):WF zLk [.loc d,.int p0.1] O Q:=by
 have hpl:=t.len;refine zFb rfl ?_;show WS zCk [some (.loc d),some (.int p0.1),none] O _ _ _ _;unfold zCk;refine zE (zob (zni (zx (zE ?_))));have hi0:=(List.getElem?_eq_some_iff.mp hp0).1
 have hdk:∀{O':Mem},tm O O'->zyb O' (.loc d)=some (dkP P):=λ{O'} kp=>by
  cases e:O[d]? with
  |none=>simp[e]at hd
  |some o=>
   have e':=kp _ _ e;simp only[zyb,e]at hd;simp only[zyb,e'];exact hd
 refine zwn (JRo P lay p0 d O) (m:=i0+1) (by omega)
  ⟨[],some p0.1,rfl,.app,zA,by simp;omega,.inr ⟨i0,p0,rfl,hp0,rfl,.inl ⟨rfl,rfl⟩⟩⟩ ?_
 rintro m J ν ⟨acc,f,rfl,kp,g,hlen,h⟩;refine zO (zq (zd rfl (w_c (zJk (ztr _) ⟨_,rfl,λh1=>?_,λh1=>?_⟩))))
 ·rcases h with ⟨rfl,_⟩|⟨i,p,rfl,ep,rfl,h⟩
  ·cases h1
  ·have hlook:=znx t.nd (mem_of_getElem? ep)
   have hnew:Path P lay i ((p.2.1,p.1)::acc.reverse):=by
    rcases h with ⟨rfl,rfl⟩|⟨_,i',p',hi',hpa,ep',hf,hl⟩
    ·exact .one ep
    ·exact .up hpa ep' ep hi' hf hl
   have hac:∃k,(acc++[(p.2.1,p.1)])[0]?=some (k,p0.1):=by
    rcases h with ⟨rfl,rfl⟩|⟨⟨k,hk⟩,_⟩
    ·exact⟨p.2.1,rfl⟩
    ·refine⟨k,?_⟩;rw[yr (List.getElem?_eq_some_iff.mp hk).1];exact hk
   unfold zqm;refine zE (zJi (z9j (zd rfl ⟨_,_,rfl,g,?_⟩)));refine ze (zvh (ze (zq (zq (zd rfl (zd rfl (zKs (hdk kp) hlook (w_c (zic rfl rfl (ze (zd rfl (zx (zx ?_)))))))))))));refine zfi g (by rw[length_map];omega) ?_;have kp2:tm O (ν.set O.length (.lst (acc.map pD++[pD (p.2.1,p.1)]))):=λa o e=>zhb (kp a o e) (yW (zC e));refine zob (zq (zq (zd rfl (zd rfl (zKs (hdk kp2) hlook (w_c (zic rfl rfl ?_)))))));obtain⟨_,_,h3⟩:=t.ok i p ep;rcases h3 with ⟨h3,_⟩|⟨j,q',hj,eq',h3,h4⟩
   ·refine⟨0,by omega,acc++[(p.2.1,p.1)],none,?_,kp2,?_,by rw[length_append];simp;omega,.inl ⟨rfl,hac,i,p,?_,ep,h3⟩⟩
    ·rw[h3];rfl
    ·rw[zY g,map_append];rfl
    ·rw[List.reverse_append];exact hnew
   ·refine⟨j+1,by omega,acc++[(p.2.1,p.1)],some q'.1,?_,kp2,?_,by rw[length_append];simp;omega,.inr ⟨j,q',rfl,eq',rfl,.inr ⟨hac,i,p,hj,?_,ep,h3,h4⟩⟩⟩
    ·rw[h3];rfl
    ·rw[zY g,map_append];rfl
    ·rw[List.reverse_append];exact hnew
 ·rcases h with ⟨rfl,⟨k,hk⟩,i,p,hpa,ep,hn⟩|⟨i,p,rfl,ep,rfl,h⟩
  ·refine zwb (zjA (zd rfl ⟨_,_,rfl,g,?_⟩));refine q acc.reverse _ _ (hpa.ok t hkey ep hn) ?_ (by rw[List.length_reverse];omega) kp.to kp.len ?_
   ·have h0:=(List.getElem?_eq_some_iff.mp hk).1
    have:acc.reverse[acc.reverse.length-1]?=some (k,p0.1):=by
     rw[List.length_reverse,List.getElem?_reverse (by omega),show acc.length-1-(acc.length-1)=0 by omega];exact hk
    rw[getD_eq_getElem?_getD,this];rfl
   ·rw[zA,List.map_reverse]
  ·cases h1
def zPz(P:PT)(lay:List (Option Nat))(key:Nat):List Nat:=(yw lay.length).filter λo=>decide (o=key)||decide (∃p∈P,lay.getD o none=some p.1)
def zQq{lay:List (Option Nat)}{key:Nat}(w:Wb L R K)(hlen:lay.length=K.length)(hL:L<=1000)(hn:O[n]?=some (.lst (lay.map onD)))(hk:key<K.length)(hkey:lay.getD key none=none)
 (q1:∀(row:List (Nat×Nat)) (l:Nat) (O':Mem),Ts K lay key row->lay.count (some (row.getD (row.length-1) (0,0)).2)<R.getD (row.getD (row.length-1) (0,0)).2 0->row.length<=10->tm O O'->O.length<=l->O'[l]?=some (.lst (row.map pD))->Q (.tup [.str "put",.loc l]) O')
 (q2:∀(S:List Nat)(l:Nat)(O':Mem),S.Sublist (yw K.length)->key∈S->TJ R K lay S->tm O O'->O.length<=l->O'[l]?=some (.lst (nat S))->Q (.tup [.str "full",.loc l]) O'):WF zTf [wn R K,.loc n,.int key] O Q:=by
 have hrl:=w.rl;have hkl:=w.kl;refine zFb rfl ?_;show WS zzk [some (wn R K),some (.loc n),some (.int key),none,none,none] O _ _ _ _;unfold zzk;refine zE (zob (zw (ze (zd rfl (ze (zd rfl (ze (zd rfl (zx ?_)))))))));refine zUp w hlen hL hn hk λP d O1 t hhome hcl k1 hd g1=>?_;refine zE (zob (zw (ze (zd rfl (ze (zd rfl (zx ?_)))))));refine zJt w (k1 _ _ hn) λl2 O2 k2 hl2 g2=>?_;have g1':=k2 _ _ g1;have hpl:=t.len;refine zE (zbf (zYx (zd rfl ⟨_,_,rfl,g1',?_⟩)));have hd1:d<O1.length:=zC g1;have kf:tm O (O2.set d (.dcf (dkP P))):=λi o e=>zhb ((k1.trans k2) i o e) (by have:=zC e;omega);have gd:=zY (o':=tE.dcf (dkP P)) g1';have gl:=zhb (o':=tE.dcf (dkP P)) g2 (by omega:d≠l2);generalize O2.set d (.dcf (dkP P))=O3 at kf gd gl;rw[zpr];refine zJb (λm J ν=>∃x:Option D,J=[some (wn R K),some (.loc n),some (.int key),some (.loc d),some (.loc l2),x]/\ν=O3/\∀(i:Nat) p,i<m->P[i]?=some p->R.getD p.1 0<=lay.count (some p.1)) ⟨_,rfl,rfl,by simp⟩ (λ_ _ _ _=>rfl) ?_ ?_
 ·rintro m x J ν hx ⟨y,rfl,rfl,hb⟩;rw[yg,yg]at hx
  cases ep:P[m]? with
  |none=>rw[ep]at hx;cases hx
  |some p=>
   rw[ep]at hx;cases hx;have hlt:=t.lt p (mem_of_getElem? ep);refine zud ?_;unfold zom;refine zwh (zO (zq (zq (zd rfl (zd rfl (zic (zD gl) (z4b (v:=.int ((R.getD p.1 0:Int)-(lay.count (some p.1):Nat))) (by unfold zPd;simp[hlt])) (w_c (zCj ⟨_,rfl,λh1=>?_,λh1=>?_⟩))))))))
   ·have h1:=of_decide_eq_true h1;refine zwb (zvh (ze (w_c (ze (zw (ze (zd rfl (ze (zd rfl (zx ?_))))))))));refine zMv t hrl.2 hkey (zhe gd) ep λrow l O4 hrow hlast hrl4 k4 hl4 g4=>zx ?_;refine q1 row l O4 hrow ?_ (by omega) (kf.trans k4) (by have:=kf.len;omega) g4;rw[hlast];omega
   ·have h1:=of_decide_eq_false h1;refine zlb ⟨_,rfl,rfl,λi p' hi e'=>?_⟩
    by_cases hm:i=m
    ·subst hm;rw[ep]at e';cases e';omega
    ·exact hb i p' (by omega) e'
 ·rintro J ν ⟨y,rfl,rfl,hb⟩;rw[nat,length_map,length_map]at hb
  have hfull:∀p∈P,R.getD p.1 0<=lay.count (some p.1):=λp hp=>by
   obtain⟨i,hi,rfl⟩:=List.mem_iff_getElem.mp hp;exact hb i P[i] hi (by simp[hi])
  refine zwb (zvh (ze (w_c (ze (zBl ?_)))));refine zVj (zd rfl (.inr (.inr ⟨n,_,rfl,kf _ _ hn,zOb (by rw[zOd,length_map];omega),?_⟩)));rw[zpe onD lay none];refine z8e (λ(k:Nat) =>.tup [.int k,onD (lay.getD k none)]) (yw lay.length) (λ(k:Nat)=>D.int k) (λo=>decide (o=key)||decide (∃p∈P,lay.getD o none=some p.1)) (λO' k'=>z5 (kf _ _ hn) k') (λk hk' O' kp=>?_) (λO' kp=>?_)
  ·have gd':=kp _ _ gd;refine zkq (zsg (zud (zsg (zud (zxo ?_)))));unfold zum ztm;refine zWi (zO (zq (zd rfl (zd rfl (zuj ⟨_,rfl,λh1=>?_,λh1=>?_⟩)))))
   ·have h1:k≠key:=by
     intro e;rw[e]at h1;simp at h1
    rw[decide_eq_false h1,Bool.false_or]
    cases e:lay.getD k none with
    |none=>
     refine zO (zq (zd rfl (zd rfl (ziz (zhe gd') ?_ ⟨_,rfl,?_,kp,λhb=>(by cases hb)⟩))))
     ·rw[List.all_eq_true];intro x hx;obtain⟨p,hp,rfl⟩:=List.mem_map.mp hx;have:=t.lt p hp;exact decide_eq_true (by simp only;omega)
     ·symm
      refine decide_eq_false ?_;rintro⟨p,_,e⟩;cases e
    |some h=>
     refine zO (zq (zd rfl (zd rfl (zYw (zhe gd') ⟨_,rfl,?_,kp,λhb=>zd rfl ⟨rfl,kp⟩⟩))));rw[zOk];refine decide_eq_decide.mpr ?_;rw[mem_map];constructor
     ·rintro⟨p,hp,rfl⟩;exact⟨p,hp,rfl⟩
     ·rintro⟨p,hp,e⟩;cases e;exact⟨p,hp,rfl⟩
   ·have h1:k=key:=by
     have:=beq_iff_eq.mp h1;omega
    rw[decide_eq_true h1,Bool.true_or];exact⟨rfl,kp,λ_=>zd rfl ⟨rfl,kp⟩⟩
  ·refine zx (q2 (zPz P lay key) _ _ ?_ ?_ ?_ (kf.trans kp.to) (kf.trans kp).len zA)
   ·rw[<-hlen];exact filter_sublist
   ·exact List.mem_filter.mpr ⟨by simpa[hlen] using hk,by simp⟩
   ·have hin:∀k∈zPz P lay key,∀h∈K.getD k [],∃p∈P,p.1=h:=λk hkm h hh=>by
     have hm:=(List.mem_filter.mp hkm).2;rw[Bool.or_eq_true,decide_eq_true_iff,decide_eq_true_iff]at hm;rcases hm with rfl|⟨p,hp,e⟩
     ·obtain⟨p,hp,e⟩:=List.mem_map.mp (hhome h hh);exact⟨p,hp,e⟩
     ·obtain⟨p',hp',e'⟩:=List.mem_map.mp (hcl p hp k e h hh);exact⟨p',hp',e'⟩
    refine⟨λk hkm=>?_,λk hkm h hh=>?_,λk hkm h hh o e=>?_⟩
    ·have:=(List.mem_filter.mp hkm).1;rw[<-hlen];simpa using this
    ·obtain⟨p,hp,rfl⟩:=hin k hkm h hh;exact hfull p hp
    ·obtain⟨p,hp,rfl⟩:=hin k hkm h hh;refine List.mem_filter.mpr ⟨?_,?_⟩
     ·rw[mem_range];refine Nat.lt_of_not_le λhle=>?_;rw[getD_eq_getElem?_getD,Yd hle]at e;cases e
     ·rw[Bool.or_eq_true];exact .inr (decide_eq_true ⟨p,hp,e⟩)
def zIA{xs ys:List D}(h:O[n]?=some (.lst xs))(h2:O[m]?=some (.lst ys))(hl:xs.length+ys.length<=1000000)(q:Q .non (O.set n (.lst (xs++ys)))):WM zOy (.loc n) [.loc m] O Q:=⟨_,_,by simp[h,h2,hl]<;>rfl,q⟩
def zzy{lay:List (Option Nat)}(h:k<lay.length):atI (lay.map onD) (k:Int)=some (onD (lay.getD k none)):=z4b (by simp[h])
def zWr{p:Nat×Nat}(e:row[i]?=some p):atI (row.map pD) (i:Int)=some (pD p):=z4b (by rw[yg,e];rfl)
def zht{lay:List (Option Nat)}{key r:Nat}{p:Nat×Nat}(w:Wb L R K)(hlen:lay.length=K.length)(hn:O[n]?=some (.lst (lay.map onD)))(hr:O[r]?=some (.lst (row.map pD)))(hrl:row.length<=1000)(ok:Ts K lay key row)(e:row[i]?=some p)
 (q:∀O',tm O O'->Q (.bl true) O'):WF zti [wn R K,.loc n,.loc r,.int i] O Q:=by
 have hm:=ok.mem p (mem_of_getElem? e);have hi:=(List.getElem?_eq_some_iff.mp e).1;refine zFb rfl ?_;show WS zVi [some (wn R K),some (.loc n),some (.loc r),some (.int i),none] O _ _ _ _;unfold zVi;refine zE (zob (zq (zq (zd rfl (zd rfl (zic (zD hr) (zWr e) (w_c (zic rfl rfl ?_))))))));refine zE (zwh (zWi (zO (zq (zd rfl (w_c (zCj ⟨_,rfl,λh1=>?_,λh1=>?_⟩)))))))
 case refine_2=>have:=of_decide_eq_true h1;omega
 refine zO (zq (zd rfl (zw (ze (zd rfl (zx (z7e (zD hn) (zCj ⟨_,rfl,λh2=>?_,λh2=>zlb ?_⟩))))))))
 ·have:=of_decide_eq_true h2;rw[length_map]at this;omega
 refine zE (zwh (zWi (zO (zq (zq (zq (zd rfl (zd rfl (zic (zD hr) (zWr e) (w_c (zic rfl rfl (zq (zq (zd rfl (w_c (zRk (zd rfl (z6s hm.1 (zri rfl ⟨_,rfl,λh3=>?_,λh3=>?_⟩)))))))))))))))))))
 case refine_2=>rw[decide_eq_true hm.2.1]at h3;cases h3
 refine zO (zq (zq (zq (zd rfl (zd rfl (zic (zD hr) (zWr e) (w_c (zic rfl rfl (zq (zd rfl (zd rfl (zic (zD hn) (zzy (by omega)) (zct (α:=Option Nat) (some p.2) (lay.getD p.1 none) ⟨_,rfl,λh4=>?_,λh4=>zlb ?_⟩)))))))))))))
 ·exact absurd (of_decide_eq_true h4).symm hm.2.2
 refine zwb (zq (zd rfl (zBl (zQc (zpB (zd rfl (zNz (zNw (zd rfl ⟨_,rfl,_,_,rfl,hr,.inr (.inr ⟨_,_,rfl,zA,?_,?_⟩)⟩)))))))))
 ·rw[zBu];exact zOb (by rw[length_take,length_map];omega)
 rw[zBu,<-List.map_take];refine zye pD (row.take i) (λx =>.int (x.1:Nat)) (λO' k=>z5 zA k) (λx hx O' kp=>?_) (λO' kp=>?_)
 ·unfold zGl;exact zud (zq (zd rfl (w_c (zic rfl rfl ⟨rfl,kp,kp⟩))))
 ·have e2:((row.take i).map λx=>D.int (x.1:Nat))=nat ((row.take i).map (·.1)):=(zRg _ _).symm;rw[e2];refine zri (zD zA) ?_
  have hnot:p.1∉(row.take i).map (·.1):=by
   intro hmem;have nd:=ok.nd;rw[<-take_append_drop i row,map_append,nodup_append]at nd;refine nd.2.2 _ hmem _ ?_ rfl;refine List.mem_map.mpr ⟨p,?_,rfl⟩;rw[drop_eq_getElem_cons hi,(List.getElem?_eq_some_iff.mp e).2];exact mem_cons_self
  rw[decide_eq_false hnot];exact q _ (tm.app.trans (kp.to))
def zns{lay:List (Option Nat)}{key r:Nat}{p:Nat×Nat}(hlen:lay.length=K.length)(hn:O[n]?=some (.lst (lay.map onD)))(hr:O[r]?=some (.lst (row.map pD)))(ok:Ts K lay key row)(e:row[i]?=some p)
 (q:Q (.bl true) O):WF zHi [.loc n,.int key,.loc r,.int i] O Q:=by
 refine zFb rfl ?_;show WS z9i [some (.loc n),some (.int key),some (.loc r),some (.int i)] O _ _ _ _;unfold z9i;refine zE (zwh (zO (zq (zd rfl (w_c (zuj ⟨_,rfl,λh1=>?_,λh1=>zlb ?_⟩))))))
 ·obtain⟨h,r0,e0⟩:=ok.first
  refine zwb (zq (zq (zq (zd rfl (w_c (zic (zD hr) (zWr (i:=0) (p:=(key,h)) (by rw[e0];rfl)) (w_c (zic rfl rfl (zd rfl (zuj ?_))))))))));rw[beq_self_eq_true];exact q
 ·cases i with
  |zero=>exact absurd h1 (by decide)
  |succ j=>
   have hj:j<row.length:=by
    have:=(List.getElem?_eq_some_iff.mp e).1;omega
   have ej:row[j]?=some row[j]:=by simp[hj]
   have hl:=ok.link j _ _ ej e;have hm:=ok.mem p (mem_of_getElem? e);refine zwb (zq (zq (zd rfl (zq (zq (zd rfl (zd rfl (zic (zD hr) (zWr e) (w_c (zic rfl rfl (zic (zD hn) (zzy (by omega)) (zq (zq (zd rfl (zq (zd rfl (w_c (zas ?_))))))))))))))))));rw[show((j+1:Nat):Int)-1=(j:Int) by omega];refine zic (zD hr) (zWr ej) (w_c (zic rfl rfl (zct (α:=Option Nat) (lay.getD p.1 none) (some (row[j]).2) ?_)));rw[decide_eq_true hl];exact q
def zZp{lay:List (Option Nat)}(r:Tc R K lay):zKm R K (lay.map onD)=.non:=by
 unfold zKm;rw[zDg λk hk=>?_,zDg λh hh=>?_]
 ·unfold zCu;rw[zgt];have:=r.room h;exact decide_eq_false (by omega)
 ·unfold zbo
  have e:(lay.map onD).getD k .non=onD (lay.getD k none):=by
   have hk':k<lay.length:=by rw[r.len];exact hk
   simp[hk']
  rw[e]
  cases e2:lay.getD k none with
  |none=>rfl
  |some h=>
   have hm:h∈K.getD k []:=r.home k h (by
    have hk':k<lay.length:=by rw[r.len];exact hk
    simp[hk']at e2;simp[hk',e2])
   show(_ && !((nat (K.getD k [])).any λy=>eqF y (.int h)))=false;rw[zWp,decide_eq_true hm,Bool.not_true,Bool.and_false]
def zOz(lay:List (Option Nat))(k h:Nat):(lay.set k (some h)).map onD=(lay.map onD).set k (.int h):=List.map_set
def zTu{lay:List (Option Nat)}{key r:Nat}(w:Wb L R K)(hL:L<=1000)(rt:Tc R K lay)(hn:O[n]?=some (.lst (lay.map onD)))(hr:O[r]?=some (.lst (row.map pD)))(hrl:row.length<=1000)(ok:Ts K lay key row)(hkey:lay.getD key none=none)(hroom:lay.count (some (row.getD (row.length-1) (0,0)).2)<R.getD (row.getD (row.length-1) (0,0)).2 0)
 (q:∀(l:Nat)(O':Mem),tm O O'->O.length<=l->O'[l]?=some (.lst ((zre lay row).map onD))->Q (.loc l) O'):WF zFk [wn R K,.loc n,.int key,.loc r] O Q:=by
 have hkl:=w.kl;have hlen:=rt.len;refine zFb rfl ?_;show WS zBk [some (wn R K),some (.loc n),some (.int key),some (.loc r),none,none,none] O _ _ _ _;unfold zBk;refine zE (zob (zw (ze (zd rfl (zx (zbr (zD hn) ?_))))));refine zE (zbf (zVj (zd rfl (.inr (.inr ⟨r,_,rfl,zPb hr,?_⟩)))));refine zJb (λm J ν=>∃x y:Option D,J=[some (wn R K),some (.loc n),some (.int key),some (.loc r),some (.loc O.length),x,y]/\tm O ν/\ν[O.length]?=some (.lst ((zre lay (row.take m)).map onD))) ⟨_,_,rfl,.app,zA⟩ (λm J ν ⟨_,_,_,k,_⟩=>z5 hr k) ?_ ?_
 ·rintro m x J ν hx ⟨a,b,rfl,kp,g⟩;obtain⟨p,ep,rfl⟩:=zTs hx;have hm:=ok.mem p (mem_of_getElem? ep);have htk:row.take (m+1)=row.take m++[p]:=by rw[take_succ,ep];rfl
  refine zkq (zsg (zud (zsg (zud (zxo ?_)))));unfold zpm;refine zE (zwh (zFh (z1t (zO (zw (ze (zd rfl (ze (zd rfl (ze (zd rfl (ze (zd rfl (zx ?_))))))))))))));refine zht w hlen (kp _ _ hn) (kp _ _ hr) hrl ok ep λO1 k1=>⟨_,rfl,λ_=>?_,λh=>(by cases h)⟩
  refine zO (zw (ze (zd rfl (ze (zd rfl (ze (zd rfl (ze (zd rfl (zx ?_))))))))));refine zns hlen ((kp.trans k1) _ _ hn) ((kp.trans k1) _ _ hr) ok ep ⟨_,rfl,λh=>(by cases h),λ_=>zlb ?_⟩;refine zNj (zq (zd rfl (w_c (zic rfl rfl ?_))));have g1:=k1 _ _ g;refine zus (zd rfl (zq (zd rfl (w_c (zic rfl rfl ⟨_,_,_,rfl,rfl,g1,?_,?_⟩)))))
  ·rw[length_map,zCi];omega
  ·refine⟨_,_,rfl,λi o e=>zhb (k1 _ _ (kp i o e)) (yW (zC e)),?_⟩;rw[zY g1,htk,zcn,zOz];rfl
 ·rintro J ν ⟨a,b,rfl,kp,g⟩;rw[zOd,length_map,take_length]at g
  have hpos:0<row.length:=by
   obtain⟨h,q,e⟩:=ok.first
   rw[e];simp
  refine zE (zwh (zWi (zO (zq (zw (ze (zd rfl (zx (z7e (zD (kp _ _ hr)) (w_c (zuj ⟨_,rfl,λh1=>?_,λh1=>?_⟩)))))))))))
  case refine_2=>
   have:=beq_iff_eq.mp h1;rw[length_map]at this;omega
  have hr2:=zSh rt ok hkey hroom;refine zO (zq (zw (ze (zd rfl (ze (zd rfl (zx ?_)))))));refine z6v w (z9s _) (by rw[length_map,zCi];exact hlen) g λO1 k1=>?_;rw[zZp hr2];refine w_c (zJk rfl ⟨_,rfl,λh=>(by cases h),λ_=>zlb (zwb (zd rfl ?_))⟩);exact q _ _ (kp.trans k1) (yi _) (k1 _ _ g)
def zFf(S:List Nat)(k:Nat):List Nat:=S.filter λo=>!decide (o=k)
def zsc(R:List Nat)(K:List (List Nat))(S:List Nat):Option Nat:=S.find? λk=>zWd R K (zFf S k)
def zwj(h:zsc R K S=some k):k∈S:=List.mem_of_find?_eq_some h
def zto(h:zsc R K S=some k):zWd R K (zFf S k)=true:=List.find?_some (p:=λk=>zWd R K (zFf S k)) h
def zCq(h:zsc R K S=none):∀k∈S,zWd R K (zFf S k)=false:=λk hk=>by
 have:=List.find?_eq_none.mp h k hk;simpa using this
def zkf(S:List Nat)(k:Nat):(zFf S k).Sublist S:=filter_sublist
def ztl(h:S.Nodup)(k:Nat):S.erase k=zFf S k:=by
 rw[h.erase_eq_filter];unfold zFf;refine filter_congr λx _=>?_
 by_cases e:x=k<;>simp[e]
def zwl(h:S.Nodup){k:Nat}(hk:k∈S):(zFf S k).length+1=S.length:=by
 rw[<-ztl h,List.length_erase_of_mem hk];have:=List.length_pos_of_mem hk;omega
def zcm(R:List Nat)(K:List (List Nat)):Nat->List Nat->List Nat
 |0,S=>S
 |n+1,S=>match zsc R K S with
  |none=>S
  |some k=>zcm R K n (zFf S k)
def zap(R:List Nat)(K:List (List Nat))(S:List Nat):List Nat:=zcm R K S.length S
def zys(h:zsc R K S=none):zap R K S=S:=by
 unfold zap
 cases S with
 |nil=>rfl
 |cons a S=>rw[length_cons,zcm,h]
def zEs(hd:S.Nodup)(h:zsc R K S=some k):zap R K S=zap R K (zFf S k):=by
 have h1:=zwl hd (zwj h);unfold zap
 conv=>lhs;rw[<-h1,zcm,h]
def zvp{R:List Nat}{K:List (List Nat)}:∀(n:Nat)(S:List Nat),(zcm R K n S).Sublist S
 |0,S=>List.Sublist.refl _
 |n+1,S=>by
  unfold zcm
  cases zsc R K S with
  |none=>exact List.Sublist.refl _
  |some k=>exact(zvp n _).trans (zkf S k)
def zyo{R:List Nat}{K:List (List Nat)}:∀(n:Nat)(S:List Nat),S.Nodup->S.length<=n->zsc R K (zcm R K n S)=none
 |0,S,_,h=>by
  have:S=[]:=List.length_eq_zero_iff.mp (by omega);subst this;rfl
 |n+1,S,hd,h=>by
  unfold zcm
  cases e:zsc R K S with
  |none=>exact e
  |some k=>
   have:=zwl hd (zwj e);exact zyo n _ (hd.sublist (zkf S k)) (by omega)
def zIl{R:List Nat}{K:List (List Nat)}:∀(n:Nat)(S:List Nat),zWd R K S=true->zWd R K (zcm R K n S)=true
 |0,S,h=>h
 |n+1,S,h=>by
  unfold zcm
  cases e:zsc R K S with
  |none=>exact h
  |some k=>exact zIl n _ (zto e)
def zfl(w:Wb L R K)(hn:O[n]?=some (.lst (nat S)))(hS:∀k∈S,k<K.length)(hl:S.length<=1000)
 (q:∀O',tm O O'->Q (onD (zsc R K S)) O'):WF zze [wn R K,.loc n] O Q:=by
 refine zFb rfl ?_;show WS zvf [some (wn R K),some (.loc n),none] O _ _ _ _;unfold zvf;refine zE (zbf (zQc (zd rfl (.inr (.inr ⟨n,_,rfl,hn,?_⟩)))));refine zJb (λm J O'=>∃a:Option D,J=[some (wn R K),some (.loc n),a]/\tm O O'/\∀k∈S.take m,zWd R K (zFf S k)=false) ⟨_,rfl,.refl,by simp⟩ (λm J O' ⟨a,_,k,_⟩=>z5 hn k) ?_ ?_
 ·rintro m x J O1 hx ⟨a,rfl,k1,hb⟩;rw[yg]at hx
  cases hy:S[m]? with
  |none=>rw[hy]at hx;cases hx
  |some kk=>
   rw[hy]at hx;cases hx;have ht:S.take (m+1)=S.take m++[kk]:=by rw[take_succ,hy];rfl
   refine zud ?_;unfold zhj;refine zwh (zO (zw (ze (zd rfl (ze (zBl ?_))))));refine zQc (zd rfl (.inr (.inr ⟨n,_,rfl,k1 _ _ hn,zOb (by rw[length_map];omega),?_⟩)));refine z8e (λ(k:Nat)=>D.int k) S (λ(k:Nat)=>D.int k) (λo=>!decide (o=kk)) (λO' k'=>z5 (k1 _ _ hn) k') (λj hj O' kp=>?_) (λO2 k2=>?_)
   ·repeat walk_at "w"
    refine⟨?_,kp,λ_=>?_⟩
    ·congr 1
     by_cases e:j=kk
     ·subst e;simp
     ·simp[e];omega
    ·unfold zdj;exact zd rfl ⟨rfl,kp⟩
   ·refine zx ?_;have hls:(zFf S kk).length<=S.length:=(zkf S kk).length_le;refine zes w (S:=zFf S kk) zA (λk hk=>hS k ((zkf S kk).subset hk)) (by omega) λO3 k3=>⟨_,rfl,λh1=>?_,λh1=>?_⟩
    ·refine zwb (zd rfl ?_);have:=q O3 (k1.trans (k2.to.trans k3))
     have e:zsc R K S=some kk:=by
      unfold zsc;rw[List.find?_eq_some_iff_append];refine⟨h1,S.take m,S.drop (m+1),?_,λa ha=>by rw[hb a ha];rfl⟩;have hlt:=(List.getElem?_eq_some_iff.mp hy).1
      have e1:S.drop m=kk::S.drop (m+1):=by
       rw[drop_eq_getElem_cons hlt,(List.getElem?_eq_some_iff.mp hy).2]
      rw[<-e1,take_append_drop]
     rw[e]at this;exact this
    ·refine zlb ⟨_,rfl,k1.trans (k2.to.trans k3),λk hk=>?_⟩;rw[ht]at hk;rcases List.mem_append.mp hk with hk|hk
     ·exact hb k hk
     ·rw[List.mem_singleton.mp hk];exact h1
 ·rintro J O1 ⟨a,rfl,k1,hb⟩;rw[length_map,take_length]at hb;refine zwb (w_c ?_);have:=q O1 k1
  have e:zsc R K S=none:=by
   unfold zsc;rw[List.find?_eq_none];intro k hk;rw[hb k hk];exact yB
  rw[e]at this;exact this
def zos(w:Wb L R K)(hn:O[n]?=some (.lst (nat S)))(hS:∀k∈S,k<K.length)(hl:S.length<=1000)(hd:S.Nodup)
 (q:∀(l:Nat)(O':Mem),tm O O'->O.length<=l->O'[l]?=some (.lst (nat (zap R K S)))->Q (.loc l) O'):WF zXi [wn R K,.loc n] O Q:=by
 refine zFb rfl ?_;show WS zTi [some (wn R K),some (.loc n),none,none] O _ _ _ _;unfold zTi;refine zE (zob (zw (ze (zd rfl (zx (zbr (zD hn) ?_))))));refine zE (zob (zw (ze (zd rfl (ze (zd rfl (zx ?_)))))));refine zfl w zA hS hl λO1 k1=>?_;refine zE ?_;refine zwn (λm J O'=>∃T:List Nat,m=T.length/\J=[some (wn R K),some (.loc n),some (.loc O.length),some (onD (zsc R K T))]/\tm O O'/\O'[O.length]?=some (.lst (nat T))/\T.Sublist S/\zap R K S=zap R K T) (m:=S.length) (by omega) ⟨S,rfl,rfl,tm.app.trans k1,k1 _ _ zA,List.Sublist.refl _,rfl⟩ ?_;rintro m J O' ⟨T,rfl,rfl,k2,g2,hT,ht⟩;have hTd:=hd.sublist hT;have hTl:=hT.length_le
 repeat walk_at "w"
 refine zJk (ztr _) ⟨_,rfl,λh1=>?_,λh1=>?_⟩
 ·cases e:zsc R K T with
  |none=>rw[e]at h1;cases h1
  |some k=>
   have hk:=zwj e;have hle:=zwl hTd hk;unfold zil;refine zE (zJi (z9j (zd rfl ⟨_,_,rfl,g2,?_⟩)));refine ze (zd rfl (zx ?_));refine zGt g2 hk ?_;rw[ztl hTd];refine zob (zw (ze (zd rfl (ze (zd rfl (zx ?_))))));have g3:=zY (o':=tE.lst (nat (zFf T k))) g2;refine zfl w g3 (λx hx=>hS x (hT.subset ((zkf T k).subset hx))) (by omega) λO3 k3=>?_;exact⟨(zFf T k).length,by omega,zFf T k,rfl,rfl,λi o e'=>k3 _ _ (zhb (k2 _ _ e') (yW (zC e'))),k3 _ _ g3,(zkf T k).trans hT,by rw[ht,zEs hTd e]⟩
 ·refine zwb (zd rfl ?_)
  have e:zsc R K T=none:=by
   cases e:zsc R K T with
   |none=>rfl
   |some k=>rw[e]at h1;cases h1
  refine q _ _ k2 (yi _) ?_;rw[ht,zys e];exact g2
def zUv{lay:List (Option Nat)}{key:Nat}(ok:Ts K lay key row){k:Nat}(h:k∈row.map (·.1)):k=key\/(lay.getD k none).isSome=true:=by
 obtain⟨p,hp,rfl⟩:=List.mem_map.mp h;obtain⟨i,hi,rfl⟩:=List.mem_iff_getElem.mp hp
 cases i with
 |zero=>
  obtain⟨h,r,e⟩:=ok.first
  subst e;exact .inl rfl
 |succ j=>
  have:=ok.link j row[j] row[j+1] (by simp[show j<row.length by omega]) (by simp[hi]);exact .inr (by rw[this];rfl)
def zZk{lay:List (Option Nat)}{key:Nat}(hlen:lay.length=K.length)(ok:Ts K lay key row){k:Nat}(h:k=key\/(lay.getD k none).isSome=true):((zre lay row).getD k none).isSome=true:=by
 by_cases hm:k∈row.map (·.1)
 ·obtain⟨p,hp,rfl⟩:=List.mem_map.mp hm;rw[znn ok.nd hp (by rw[hlen];exact(ok.mem p hp).1)];rfl
 ·rcases h with rfl|h
  ·obtain⟨h,r,e⟩:=ok.first
   subst e;exact absurd (by simp) hm
  ·rw[zjf hm];exact h
def zUl{lay:List (Option Nat)}{key:Nat}(ok:Ts K lay key row){k:Nat}(h:lay.getD k none=none)(hk:k≠key):(zre lay row).getD k none=none:=by
 rw[zjf λhm=>?_]
 ·exact h
 ·rcases zUv ok hm with e|e
  ·exact hk e
  ·rw[h]at e;cases e
def zpn{s:yt}(h:PyData.strOk s=true):toP O 8 (.str s)=some (.str s):=by
 show(bif PyData.strOk s then some (PyData.str s) else none)=_;rw[h];rfl
def zDj{a b:yt}(q:Q (.bl (Yo (.str a) (.str b))) O)(ha:PyData.strOk a=true:=by decide +kernel)(hb:PyData.strOk b=true:=by decide +kernel):W2 gEq (.str a) (.str b) O Q:=zhB (zpn ha) (zpn hb) q
structure Done(R:List Nat)(K:List (List Nat))(lay0 lay:List (Option Nat))(ks C:List Nat):Prop where
 right:Tc R K lay
 sD:TJ R K lay C
 old:∀k,(lay0.getD k none).isSome=true->(lay.getD k none).isSome=true
 non:∀k,k∉ks->lay0.getD k none=none->lay.getD k none=none
 all:∀k∈ks,(lay.getD k none).isSome=true\/(k∈C/\lay.getD k none=none)
 out:C≠[]->∃k∈C,k∈ks/\lay.getD k none=none
def Done.put{lay:List (Option Nat)}{ks:List Nat}{key:Nat}(d:Done R K lay0 lay ks C)(hk:key∉ks)(hkey:lay.getD key none=none)(ok:Ts K lay key row)
 (hroom:lay.count (some (row.getD (row.length-1) (0,0)).2)<R.getD (row.getD (row.length-1) (0,0)).2 0):Done R K lay0 (zre lay row) (ks++[key]) C:=by
 have hlen:=d.right.len;refine⟨zSh d.right ok hkey hroom,d.sD.push d.right ok hkey hroom,λk h=>zZk hlen ok (.inr (d.old k h)),λk h h0=>?_,λk h=>?_,λhC=>?_⟩
 ·rw[mem_append,not_or]at h;exact zUl ok (d.non k h.1 h0) (by simpa using h.2)
 ·rcases List.mem_append.mp h with h'|h
  ·rcases d.all k h' with h1|⟨h1,h2⟩
   ·exact .inl (zZk hlen ok (.inr h1))
   ·exact .inr ⟨h1,zUl ok h2 (by rintro rfl;exact hk h')⟩
  ·rw[List.mem_singleton.mp h];exact .inl (zZk hlen ok (.inl rfl))
 ·obtain⟨k,h1,h2,h3⟩:=d.out hC;exact⟨k,h1,mem_append_left _ h2,zUl ok h3 (by rintro rfl;exact hk h2)⟩
def Done.full{lay:List (Option Nat)}{ks:List Nat}{key:Nat}(d:Done R K lay0 lay ks C)(hkey:lay.getD key none=none)(hS:key∈S)(s:TJ R K lay S):Done R K lay0 lay (ks++[key]) (C++S):=by
 refine⟨d.right,d.sD.app s,d.old,λk h h0=>?_,λk h=>?_,λhC=>⟨key,mem_append_right _ hS,by simp,hkey⟩⟩
 ·rw[mem_append,not_or]at h;exact d.non k h.1 h0
 ·rcases List.mem_append.mp h with h|h
  ·rcases d.all k h with h1|⟨h1,h2⟩
   ·exact .inl h1
   ·exact .inr ⟨mem_append_left _ h1,h2⟩
  ·rw[List.mem_singleton.mp h];exact .inr ⟨mem_append_right _ hS,hkey⟩
def zQs(m:Nat)(C:List Nat):List Nat:=(yw m).filter λk=>decide (k∈C)
def zai(h:∀k∈C,k<m)(k:Nat):k∈zQs m C↔k∈C:=by
 unfold zQs;rw[mem_filter,mem_range,decide_eq_true_iff];exact⟨λq=>q.2,λq=>⟨h k q,q⟩⟩
def z9x{G:FE}(hC:∀k∈C,k<m)(hm:m<64)(hl:C.length<=4000)(h:WE G J O λx O1=>x=.loc n/\O1[n]?=some (.lst (nat C))/\Q (.loc O1.length) (O1++[.lst (nat (zQs m C))])):WE (z8p G) J O Q:=by
 have hmem:∀i:Int,i∈(zQs m C).map (λ(k:Nat)=>(k:Int))↔i∈C.map (λ(k:Nat)=>(k:Int)):=λi=>by
  simp only[mem_map];constructor
  ·rintro⟨k,hk,rfl⟩;exact⟨k,(zai hC k).mp hk,rfl⟩
  ·rintro⟨k,hk,rfl⟩;exact⟨k,(zai hC k).mpr hk,rfl⟩
 have hpw:((zQs m C).map (λ(k:Nat)=>(k:Int))).Pairwise (· < ·):=by
  rw[pairwise_map];exact(List.pairwise_lt_range.filter _).imp λh=>by omega
 have hp:=zAk hmem hpw;have hsort:=zqn hmem hpw;have hsl:(zQs m C).length<=m:=by unfold zQs;simpa using(filter_sublist (l:=yw m) (p:=λk=>decide (k∈C))).length_le
 refine zDt (h.mono ?_);rintro x O1 ⟨rfl,g,q⟩;refine⟨_,C.map (λ(k:Nat)=>(k:Int)),rfl,by rw[g,map_map];rfl,by rw[length_map];omega,by rw[hp.length_eq,length_map];omega,?_⟩;rw[hsort,map_map];exact q
abbrev JLm(R:List Nat)(K:List (List Nat))(lay0:List (Option Nat))(ks:List Nat)(n m:Nat)(O:Mem):Nat->M.Loc->Mem->Prop:=λi J ν=>∃(lay:List (Option Nat)) (C:List Nat) (l:Nat) (x y:Option D),J=[some (wn R K),some (.loc l),some (.loc m),some (.loc O.length),x,y]/\Done R K lay0 lay (ks.take i) C/\C.length<=i*K.length/\tm O ν/\(l=n/\lay=lay0\/O.length<l)/\ν[O.length]?=some (.lst (nat C))/\ν[l]?=some (.lst (lay.map onD))
def zDq{ks:List Nat}(w:Wb L R K)(hL:L<=60)(rt:Tc R K lay0)(hn:O[n]?=some (.lst (lay0.map onD)))(hm:O[m]?=some (.lst (nat ks)))(hks:∀k∈ks,k<K.length)(hnd:ks.Nodup)(Sc:∀k∈ks,lay0.getD k none=none)
 (q:∀(lay:List (Option Nat)) (C:List Nat) (l l2:Nat) (O':Mem),Done R K lay0 lay ks C->tm O O'->(l=n/\lay=lay0\/O.length<=l)->O.length<=l2->l≠l2->O'[l]?=some (.lst (lay.map onD))->O'[l2]?=some (.lst (nat (zQs K.length C)))->Q (.tup [.loc l,.loc l2]) O'):WF zBf [wn R K,.loc n,.loc m] O Q:=by
 have hkl:=w.kl
 have hkn:ks.length<=K.length:=by
  have:=zAb hnd (m:=yw K.length) λx hx=>by simpa using hks x hx
  simpa using this
 refine zFb rfl ?_;show WS zPf [some (wn R K),some (.loc n),some (.loc m),none,none,none] O _ _ _ _;unfold zPf;refine zE (zob (zni (zx (zE (zbf (zQc (zd rfl (.inr (.inr ⟨m,_,rfl,zPb hm,?_⟩)))))))));have hnl:=zC hn
 refine zJb (JLm R K lay0 ks n m O)
  ⟨lay0,[],n,_,_,rfl,⟨rt,.nil,λ_ h=>h,λ_ _ h=>h,by simp,λh=>absurd rfl h⟩,by simp,.app,.inl ⟨rfl,rfl⟩,zA,zPb hn⟩ (λi J ν ⟨_,_,_,_,_,_,_,_,k,_⟩=>z5 hm k) ?_ ?_
 ·rintro i z J ν hz ⟨lay,C,l,x,y,rfl,d,hCl,kp,hl,gC,gl⟩;rw[yg]at hz
  cases ek:ks[i]? with
  |none=>rw[ek]at hz;cases hz
  |some key=>
   rw[ek]at hz;cases hz;have hkm:=mem_of_getElem? ek;have hil:=(List.getElem?_eq_some_iff.mp ek).1;have htk:ks.take (i+1)=ks.take i++[key]:=by rw[take_succ,ek];rfl
   have hkt:key∉ks.take i:=by
    intro hmem;have nd:=hnd;rw[<-take_append_drop i ks,nodup_append]at nd;refine nd.2.2 _ hmem _ ?_ rfl;rw[drop_eq_getElem_cons hil,(List.getElem?_eq_some_iff.mp ek).2];exact mem_cons_self
   have hkey:=d.non key hkt (Sc key hkm);have hCb:i*K.length<=60*60:=Nat.mul_le_mul (by omega) (by omega);refine zud ?_;unfold zEi;refine zE (zob (zw (ze (zd rfl (ze (zd rfl (ze (zd rfl (zx ?_)))))))));refine zQq w d.right.len (by omega) gl (hks key hkm) hkey (λrow r O1 ok hroom hrl k1 hr gr=>?_) (λS r O1 hS hkS s k1 hr gr=>?_)
   ·refine zwh (zO (zq (zq (zd rfl (w_c (zic rfl rfl (w_c (zDj ⟨_,rfl,λ_=>?_,λh=>absurd h (by decide +kernel)⟩))))))));refine zob (zw (ze (zd rfl (ze (zd rfl (ze (zd rfl (ze (zq (zd rfl (w_c (zic rfl rfl (zx ?_)))))))))))));refine zTu w (by omega) d.right (k1 _ _ gl) gr (by omega) ok hkey hroom λl' O2 k2 hl' g2=>?_;refine⟨zre lay row,C,l',_,_,rfl,by rw[htk];exact d.put hkt hkey ok hroom,by rw[Nat.succ_mul];omega,kp.trans (k1.trans k2),.inr ?_,(k1.trans k2) _ _ gC,g2⟩;have:=(kp.trans k1).len;have:=k1.len;have:=zC gC;omega
   ·refine zwh (zO (zq (zq (zd rfl (w_c (zic rfl rfl (w_c (zDj ⟨_,rfl,λh=>?_,λ_=>?_⟩))))))))
    ·exact absurd h (by decide +kernel)
    have hSl:S.length<=K.length:=by simpa using hS.length_le
    refine zJi (z9j (zd rfl ⟨_,_,rfl,k1 _ _ gC,?_⟩));refine ze (zq (zd rfl (w_c (zic rfl rfl (zx ?_)))));refine zIA (k1 _ _ gC) gr (by simp only[length_map];omega) ?_;have hlt:=zC gC;refine⟨lay,C++S,l,_,_,rfl,by rw[htk];exact d.full hkey hkS s,by rw[Nat.succ_mul,length_append];omega,λa o e=>zhb (k1 _ _ (kp a o e)) (yW (zC e)),hl,?_,zhb (k1 _ _ gl) (by rcases hl with ⟨h,_⟩|h<;>omega)⟩;rw[zY (k1 _ _ gC),zhd]
 ·rintro J ν ⟨lay,C,l,x,y,rfl,d,hCl,kp,hl,gC,gl⟩;rw[length_map,take_length]at d;rw[length_map]at hCl;have hCb:ks.length*K.length<=60*60:=Nat.mul_le_mul (by omega) (by omega);refine zwb (zvh (ze (zd rfl (ze ?_))));refine z9x (n:=O.length) (m:=K.length) d.sD.keys (by omega) (by omega) (zd rfl ⟨rfl,gC,zx ?_⟩);have:=zC gl;exact q lay C l _ _ d kp.to (by rcases hl with h|h;exact .inl h;exact .inr (by omega)) kp.len (by omega) (zPb gl) zA
def zsp(w:Wb L R K)(hL:L<=60)
 (q:∀(lay:List (Option Nat)) (C:List Nat) (l l2:Nat) (O':Mem),Done R K (yC K.length none) lay (yw K.length) C->tm O O'->O.length<=l->O.length<=l2->l≠l2->O'[l]?=some (.lst (lay.map onD))->O'[l2]?=some (.lst (nat (zQs K.length C)))->Q (.tup [.loc l,.loc l2]) O'):WF z7d [wn R K] O Q:=by
 have hkl:=w.kl;refine zFb rfl ?_;show WS zee [some (wn R K)] O _ _ _ _;unfold zee;refine zwb (zw (ze (zd rfl (ze (zq (zni (ze (w_c (zx (zw (ze (zq (zd rfl (w_c (zRk (zx (z7e rfl ?_)))))))))))))))));refine zUA zA (by rw[length_map];omega) (by omega) (by simp) ?_;refine ze (zvr (zw (ze (zq (zd rfl (w_c (zRk (zx (z7e rfl ⟨_,rfl,?_,zx ?_⟩)))))))))
 ·rw[length_map];omega
 have e1:(yC (((K.map tn).length:Nat):Int).toNat [D.non]).flatten=(yC K.length (none:Option Nat)).map onD:=by
  rw[yX,length_map,List.map_replicate,List.flatten_replicate_singleton]
 rw[e1,yX,length_map]
 have hrep:∀k,(yC K.length (none:Option Nat)).getD k none=none:=λk=>by
  rw[getD_eq_getElem?_getD,YR]
  split<;>rfl
 refine zDq (ks:=yw K.length) w hL ⟨by simp,λk h e=>?_,λh=>?_⟩ (zPb zA) zA (by simp) List.nodup_range (λk _=>hrep k) λlay C l l2 O' d k hl hl2 hne g g2=>?_
 ·rw[YR]at e
  split at e
  ·cases e
  ·cases e
 ·rw[List.count_replicate];simp
 ·have k':=(tm.to (tm.to (tm.app (O:=O) (g:=[.lst [.non]])))).trans k;refine q lay C l l2 O' d k' ?_ ?_ hne g g2
  ·rcases hl with ⟨rfl,_⟩|hl
   ·simp
   ·simp at hl;omega
  ·simp at hl2;omega
def zsu(w:Wb L R K)(hL:L<=60)
 (q1:∀(lay:List (Option Nat)) (l:Nat) (O':Mem),Tc R K lay->(∀k<K.length,(lay.getD k none).isSome=true)->tm O O'->O.length<=l->O'[l]?=some (.lst (lay.map onD))->Q (.tup [.str "fits",.loc l]) O')
 (q2:∀(T:List Nat)(l:Nat)(O':Mem),T.Sublist (yw K.length)->zWd R K T=true->zsc R K T=none->tm O O'->O.length<=l->O'[l]?=some (.lst (nat T))->Q (.tup [.str "crowd",.loc l]) O'):WF zsk [wn R K] O Q:=by
 have hkl:=w.kl;refine zFb rfl ?_;show WS zvk [some (wn R K),none] O _ _ _ _;unfold zvk;refine zE (zob (zw (ze (zd rfl (zx ?_)))));refine zsp w hL λlay C l l2 O1 d k1 hl hl2 hne g g2=>?_;refine zE (zwh (zO (zq (zq (zd rfl (w_c (zic rfl rfl (zni (zx ?_)))))))));refine zQB (α:=Nat) (zQs K.length C) [] (zPb g2) zA ⟨_,rfl,λh1=>?_,λh1=>zlb ?_⟩
 ·have h1:=of_decide_eq_true h1;refine zwb (zvh (ze (w_c (ze (zq (zd rfl (w_c (zic rfl rfl (zx ?_)))))))));refine q1 lay l _ d.right (λk hk=>?_) k1.to hl (zPb g);rcases d.all k (by simpa using hk) with h|⟨h,_⟩
  ·exact h
  ·have:=(zai d.sD.keys k).mpr h;rw[h1]at this;cases this
 ·have h1:=of_decide_eq_false h1
  have hC:C≠[]:=by
   rintro rfl;exact h1 (by unfold zQs;simp)
  obtain⟨k0,hk0,_,hn0⟩:=d.out hC;have hsub:(zQs K.length C).Sublist (yw K.length):=filter_sublist;have hcr:=z9m w (d.sD.congr (zai d.sD.keys)) d.right.len ((zai d.sD.keys k0).mpr hk0) hn0;have hsl:(zQs K.length C).length<=K.length:=by simpa using hsub.length_le
  have hnd:=List.nodup_range.sublist hsub;refine zwb (zvh (ze (w_c (ze (zw (ze (zd rfl (ze (zq (zd rfl (w_c (zic rfl rfl (zx ?_)))))))))))));refine zos w (zPb g2) (λk hk=>by simpa using hsub.subset hk) (by omega) hnd λl3 O3 k3 hl3 g3=>zx ?_;exact q2 _ l3 O3 ((zvp _ _).trans hsub) (zIl _ _ hcr) (zyo _ _ hnd (yi _)) (k1.to.trans k3) (by have:=k1.len;simp at hl3;omega) g3
def zDp(R:List Nat)(K:List (List Nat)):Prop:=∃lay,Tc R K lay/\∀k<K.length,(lay.getD k none).isSome=true
def zGr(w:Wb L R K)(hT:T.Sublist (yw K.length))(hc:zWd R K T=true):¬zDp R K:=by
 rintro⟨lay,r,h⟩;have hTk:∀k∈T,k<K.length:=λk hk=>by simpa using hT.subset hk
 have:=zeu w r (List.nodup_range.sublist hT) hTk λk hk=>h k (hTk k hk);rw[hc]at this;cases this
def zhq(h:O[n]?=some (.lst (nat S)))(hp:T.Perm S)(hT:T.Pairwise (· < ·))(hl:S.length<64)(q:Q (.loc O.length) (O++[.lst (nat T)])):WF zli [.loc n] O Q:=by
 have e1:nat S=(S.map λ(k:Nat)=>(k:Int)).map D.int:=by rw[map_map];rfl
 have e2:nat T=(T.map λ(k:Nat)=>(k:Int)).map D.int:=by rw[map_map];rfl
 have e3:zEl (S.map λ(k:Nat)=>(k:Int))=T.map λ(k:Nat)=>(k:Int):=by
  refine zOc ((mergeSort_perm _ _).trans (hp.symm.map _)) (zXh _) ?_;rw[pairwise_map];exact hT.imp λh=>by omega
 refine⟨_,_,?_,q⟩;simp only[zli,h];rw[e1,zvi,ym,length_map,decide_eq_true hl,cond_true,e3,<-e2]
def dkN(kvs:List (Nat×Nat)):List (Int×D):=kvs.map λp=>((p.1:Int),D.int (p.2:Nat))
def zVf(k:Nat):∀kvs:List (Nat×Nat),zgd (dkN kvs) (k:Int)=(kvs.lookup k).map λh=>D.int (h:Nat)
 |[]=>rfl
 |(j,h)::kvs=>by
  have ih:=zVf k kvs;unfold zgd dkN at ih ⊢;rw[map_cons,Xe,lookup_cons]
  by_cases hj:j=k
  ·subst hj;simp
  ·have h1:(decide (((j:Nat):Int)=(k:Int)))=false:=decide_eq_false (by omega);have h2:(k==j)=false:=beq_eq_false_iff_ne.mpr (yV hj);simp only[h1,h2];exact ih
abbrev fsD(r:D)(m:Nat):List (yt×D):=[("kept_rule",r),("nest_of",.loc m)]
structure Sh(O:Mem)(n m:Nat)(r:D)(kvs:List (Nat×Nat)):Prop where
 at_:O[n]?=some (.ins "Shelf" (fsD r m))
 dc:O[m]?=some (.dct (dkN kvs))
 nd:(kvs.map (·.1)).Nodup
 few:kvs.length<=30
def Sh.keep{O:Mem}(s:Sh O n m r kvs)(k:tm O O'):Sh O' n m r kvs:=⟨k _ _ s.at_,k _ _ s.dc,s.nd,s.few⟩
section
variable {O:Mem}{n m:Nat}{r:D}{kvs:List (Nat×Nat)}{Q:D->Mem->Prop}
def zrr(s:Sh O n m r kvs)(q:Q r O):WF zWc [.loc n] O Q:=by
 refine zFb rfl ?_;show WS zQe [some (.loc n)] O _ _ _ _;unfold zQe;exact zwb (z7l (zd rfl ⟨n,_,r,rfl,s.at_,rfl,q⟩))
def zoe(r:D)(m:Nat):(fsD r m).lookup ("nest_of":yt)=some (D.loc m):=by
 have h1:(("nest_of":yt) == "kept_rule")=false:=by decide +kernel
 have h2:(("nest_of":yt) == "nest_of")=true:=by decide +kernel
 simp only[fsD,lookup_cons,h1,h2]
def zKe(r:D)(m:Nat):(fsD r m).lookup ("all_there":yt)=none:=by
 have h1:(("all_there":yt) == "kept_rule")=false:=by decide +kernel
 have h2:(("all_there":yt) == "nest_of")=false:=by decide +kernel
 simp only[fsD,lookup_cons,h1,h2,lookup_nil]
def zlx(s:Sh O n m r kvs)(q:Q (.bl (kvs.lookup k).isSome) O):WF zjd [.loc n,.int k] O Q:=by
 refine zFb rfl ?_;show WS zuf [some (.loc n),some (.int k)] O _ _ _ _;unfold zuf;refine zwb (zq (zd rfl (z7l (zd rfl ⟨n,_,.loc m,rfl,s.at_,zoe r m,zYw (zac s.dc) ?_⟩))));rw[zVf,Option.isSome_map];exact q
def zmr(s:Sh O n m r kvs)(q:Q (onD (kvs.lookup k)) O):WF zCb [.loc n,.int k] O Q:=by
 refine zFb rfl ?_;show WS zde [some (.loc n),some (.int k)] O _ _ _ _;unfold zde;refine zwb (z5y (z7l (zd rfl ⟨n,_,.loc m,rfl,s.at_,zoe r m,m,_,rfl,s.dc,ze (zd rfl (zx (zEA (zac s.dc) ?_)))⟩)));rw[zVf]
 cases e:kvs.lookup k with
 |none=>rw[e]at q;exact q
 |some h=>rw[e]at q;exact q
structure Td(kvs:List (Nat×Nat))(S:List Nat):Prop where
 pm:S.Perm (kvs.map (·.1))
 pw:S.Pairwise (· < ·)
def Td.ex(nd:(kvs.map (·.1)).Nodup):∃S,Td kvs S:=by
 refine⟨(kvs.map (·.1)).mergeSort (λa b=>decide (a<=b)),mergeSort_perm _ _,?_⟩;have h1:=List.pairwise_mergeSort (le:=λa b:Nat=>decide (a<=b)) (λa b c h1 h2=>by simp at h1 h2 ⊢;omega) (λa b=>by simp;omega) (kvs.map (·.1));have h2:((kvs.map (·.1)).mergeSort (λa b=>decide (a<=b))).Pairwise (·≠·):=(mergeSort_perm _ _).nodup_iff.mpr nd;refine(h1.and h2).imp λh=>?_;have:=of_decide_eq_true h.1;have:=h.2;omega
def Td.len(k:Td kvs S):S.length=kvs.length:=by rw[k.pm.length_eq,length_map]
def zjc(s:Sh O n m r kvs)(k:Td kvs S)(q:Q (.loc O.length) (O++[.lst (nat S)])):WF zG [.loc n] O Q:=by
 have hf:=s.few;refine zFb rfl ?_;show WS zwc [some (.loc n)] O _ _ _ _;unfold zwc;refine zwb (zw (ze (z7l (zd rfl ⟨n,_,.loc m,rfl,s.at_,zoe r m,zx ?_⟩))));have e0:(dkN kvs).map (·.1)=(kvs.map (·.1)).map λ(k:Nat)=>(k:Int):=by unfold dkN;rw[map_map,map_map];rfl
 have e2:nat S=(S.map λ(k:Nat)=>(k:Int)).map D.int:=by rw[map_map];rfl
 have e3:zEl ((kvs.map (·.1)).map λ(k:Nat)=>(k:Int))=S.map λ(k:Nat)=>(k:Int):=by
  refine zOc ((mergeSort_perm _ _).trans (k.pm.symm.map _)) (zXh _) ?_;rw[pairwise_map];exact k.pw.imp λh=>by omega
 have e4:(dkN kvs).length<64:=by unfold dkN;rw[length_map];omega
 refine⟨_,_,?_,q⟩;simp only[zWk,zac s.dc,ym];rw[decide_eq_true e4,cond_true,e0,e3,<-e2]
def Td.look(k:Td kvs S){x:Nat}(h:x∈S):∃v,kvs.lookup x=some v:=by
 have h1:x∈kvs.map (·.1):=k.pm.mem_iff.mp h;obtain⟨p,hp,rfl⟩:=List.mem_map.mp h1
 cases e:kvs.lookup p.1 with
 |some v=>exact⟨v,rfl⟩
 |none=>
  rw[List.lookup_eq_none_iff]at e;exact absurd (e p hp) (by simp)
def zqp(s:Sh O n m r kvs)(k:Td kvs S)(q:∀l O',tm O O'->O.length<=l->O'[l]?=some (.lst (S.map λx=>onD (kvs.lookup x)))->Q (.loc l) O'):WF zLb [.loc n] O Q:=by
 have hf:=s.few;have hl:=k.len;refine zFb rfl ?_;show WS zBd [some (.loc n)] O _ _ _ _;unfold zBd;refine zwb (zBl (zQc (zw (zTc (zd rfl ⟨n,_,rfl,s.at_,zKe r m,zx (zjc s k (.inr (.inr ⟨_,_,rfl,zA,zOb (by rw[length_map];omega),?_⟩)))⟩)))));refine zye (λ(x:Nat)=>D.int x) S (λx=>onD (kvs.lookup x)) (λO' k=>z5 zA k) (λx hx O' kp=>?_) (λO' kp=>?_)
 ·have s':=s.keep (tm.app.trans kp);obtain⟨v,hv⟩:=k.look hx;refine zud ?_;unfold zfg;exact zq (z7l (zd rfl ⟨n,_,.loc m,rfl,s'.at_,zoe r m,zd rfl (zKs (zac s'.dc) (by rw[zVf,hv];rfl) ⟨by rw[hv],kp,kp⟩)⟩))
 ·exact q _ _ (tm.app.trans kp.to) (yF (by simp) kp.len) zA
end
def hmN(n k:Nat)(t:Nat×Nat):Nat:=(t.1*k+t.2)%10007%n
def pr2(t:Nat×Nat):D:=.tup [.int (t.1:Nat),.int (t.2:Nat)]
abbrev rlN(R:List Nat)(ts:List (Nat×Nat)):D:=.tup [tn R,.tup (ts.map pr2)]
structure Rl(R:List Nat)(ts:List (Nat×Nat)):Prop where
 rl:1<=R.length/\R.length<=10
 tl:2<=ts.length/\ts.length<=3
 tn:∀t∈ts,t.1<=10006/\t.2<=10006
def zxv(h:Rl R ts)(q:∀O',tm O O'->Q (tn (ts.map (hmN R.length k))) O'):WF zVn [rlN R ts,.int k] O Q:=by
 have hrl:=h.rl;have htl:=h.tl;refine zFb rfl ?_;show WS zxn [some (rlN R ts),some (.int k),none] O _ _ _ _;unfold zxn
 repeat walk_at "w"
 refine zic rfl (show atI [tn R,.tup (ts.map pr2)] 0=some (tn R) from rfl) ?_
 repeat walk_at "w"
 refine zQc ?_
 repeat walk_at "w"
 refine zic rfl (show atI [tn R,.tup (ts.map pr2)] 1=some (.tup (ts.map pr2)) from rfl) (.inl ⟨_,rfl,zOb (by rw[length_map];omega),?_⟩);refine zye pr2 ts (λt=>D.int (hmN R.length k t:Nat)) (λ_ _=>rfl) (λt ht O' kp=>?_) (λO' kp=>?_)
 ·have hb:=h.tn t ht;refine zud ?_;unfold zIo
  repeat walk_at "w"
  refine zic (x:=pr2 t) rfl (show atI [D.int (t.1:Nat),D.int (t.2:Nat)] 0=some (D.int (t.1:Nat)) from rfl) ?_
  repeat walk_at "w"
  refine zlm (zgv (by omega) (by omega)) ?_
  repeat walk_at "w"
  refine zic (x:=pr2 t) rfl (show atI [D.int (t.1:Nat),D.int (t.2:Nat)] 1=some (D.int (t.2:Nat)) from rfl) ?_
  repeat walk_at "w"
  have e:((nat R).length:Int)=R.length:=by rw[length_map]
  rw[e];refine zhk (by omega) ⟨?_,kp,kp⟩;unfold hmN
  push_cast
  rfl
 ·refine zx (znl (zD zA) ?_);have e:ts.map (λt=>D.int (hmN R.length k t:Nat))=nat (ts.map (hmN R.length k)):=by rw[zRg]
  rw[e];exact q _ kp.to
abbrev zng(R:List Nat)(ts:List (Nat×Nat))(S:List Nat):List (List Nat):=S.map λk=>ts.map (hmN R.length k)
def Rl.wb(h:Rl R ts){S:List Nat}{L:Nat}(hS:S.length<=L):Wb L R (zng R ts S) where
 rl:=h.rl
 kl:=by rw[length_map];exact hS
 kn:=λk hk=>by
  obtain⟨x, -,rfl⟩:=List.mem_map.mp hk;refine⟨by rw[length_map];exact h.tl,λy hy=>?_⟩;obtain⟨t, -,rfl⟩:=List.mem_map.mp hy;exact Nat.mod_lt _ h.rl.1
def z6n(h:Rl R ts)(hl:O[l]?=some (.lst (nat S)))(hS:S.length<=1000)(q:∀O',tm O O'->Q (wn R (zng R ts S)) O'):WF z1d [rlN R ts,.loc l] O Q:=by
 refine zFb rfl ?_;show WS zrk [some (rlN R ts),some (.loc l)] O _ _ _ _;unfold zrk
 repeat walk_at "w"
 refine zic rfl (show atI [tn R,.tup (ts.map pr2)] 0=some (tn R) from rfl) ?_
 repeat walk_at "w"
 refine zQc ?_
 repeat walk_at "w"
 refine .inr (.inr ⟨_,_,rfl,hl,zOb (by rw[length_map];omega),?_⟩);refine zye (λ(x:Nat)=>D.int x) S (λk=>tn (ts.map (hmN R.length k))) (λO' k=>z5 hl k) (λx hx O' kp=>?_) (λO' kp=>?_)
 ·refine zud ?_;unfold zen
  repeat walk_at "w"
  exact zxv h λO2 k2=>⟨rfl,kp.trans k2,kp⟩
 ·refine zx (znl (zD zA) ?_)
  repeat walk_at "w"
  have e:S.map (λk=>tn (ts.map (hmN R.length k)))=(zng R ts S).map tn:=by rw[map_map];rfl
  rw[e];exact q _ kp.to
section
variable {O:Mem}{n m:Nat}{R:List Nat}{ts:List (Nat×Nat)}{kvs:List (Nat×Nat)}{Q:D->Mem->Prop}
def zNr(r:D)(m:Nat):(fsD r m).lookup ("laying":yt)=none:=by
 have h1:(("laying":yt) == "kept_rule")=false:=by decide +kernel
 have h2:(("laying":yt) == "nest_of")=false:=by decide +kernel
 simp only[fsD,lookup_cons,h1,h2,lookup_nil]
def z4u(h:Rl R ts)(s:Sh O n m (rlN R ts) kvs)(k:Td kvs S)(q:∀l O',tm O O'->O.length<=l->O'[l]?=some (.lst ((zPd R (S.map λx=>kvs.lookup x)).map .int))->Q (.loc l) O'):WF zEe [.loc n] O Q:=by
 have hf:=s.few;have hl:=k.len;refine zFb rfl ?_;show WS zLe [some (.loc n)] O _ _ _ _;unfold zLe;refine zwb (zw (ze (zw (ze (z7l (zd rfl ⟨n,_,rlN R ts,rfl,s.at_,rfl,?_⟩))))));refine ze (zw (zTc (zd rfl ⟨n,_,rfl,s.at_,zKe _ m,zx (zjc s k ?_)⟩)));refine zx (z6n h zA (by omega) λO1 k1=>?_);have s1:=s.keep (tm.app.trans k1);refine ze (zw (zTc (zd rfl ⟨n,_,rfl,s1.at_,zNr _ m,zx (zqp s1 k λl2 O2 k2 g2 e2=>?_)⟩)));have e3:(S.map λx=>onD (kvs.lookup x))=(S.map λx=>kvs.lookup x).map onD:=by rw[map_map];rfl
 rw[e3]at e2;exact zx (zJt (L:=30) (h.wb (by omega)) e2 λl3 O3 k3 g3 e4=>q _ _ ((tm.app.trans k1).trans (k2.trans k3)) (yF (tm.app.trans (k1.trans k2)).len g3) e4)
end
structure WX(F:FX)(ds:List D)(O:Mem)(Q:D->Mem->Prop):Prop where
 ex:∃d O',F ds O=some (.ok d O')/\Q d O'
def z6B(nx:M.Loc->Mem->Prop)(rt:D->Mem->Prop)(ex:yt->List (yt×D)->Mem->Prop):Out->Prop
 |.next J O=>nx J O
 |.ret d O=>rt d O
 |.exc c fs O=>ex c fs O
 |_=>False
structure WXs(p:FS)(J:M.Loc)(O:Mem)(nx:M.Loc->Mem->Prop)(rt:D->Mem->Prop)(ex:yt->List (yt×D)->Mem->Prop):Prop where
 ex:∃o,p J O=some o/\z6B nx rt ex o
section
variable {p q:FS}{J:M.Loc}{O:Mem}{nx:M.Loc->Mem->Prop}{rt:D->Mem->Prop}{ex:yt->List (yt×D)->Mem->Prop}
def zPu(h:WS p J O nx rt (λ_ _=>False) λ_ _=>False):WXs p J O nx rt ex:=by
 obtain⟨o,e,k⟩:=h
 cases o with
 |next _ _=>exact⟨_,e,k⟩
 |ret _ _=>exact⟨_,e,k⟩
 |brk _ _=>exact k.elim
 |cont _ _=>exact k.elim
 |exc _ _ _=>exact k.elim
def zzg(h:WXs p J O (λJ' O'=>WXs q J' O' nx rt ex) rt ex):WXs (zcb p q) J O nx rt ex:=by
 obtain⟨o,e,k⟩:=h
 cases o with
 |next J' O'=>obtain⟨o2,e2,k2⟩:=k;exact⟨o2,by simp[e,e2],k2⟩
 |ret d O'=>exact⟨.ret d O',by simp only[zcb,e],k⟩
 |exc c fs O'=>exact⟨.exc c fs O',by simp only[zcb,e],k⟩
 |brk _ _=>exact k.elim
 |cont _ _=>exact k.elim
def zgz{c:FT}(h:WT c J O λb O1=>(b=true->WXs p J O1 nx rt ex)/\(b=false->WXs q J O1 nx rt ex)):WXs (sIf c p q) J O nx rt ex:=by
 obtain⟨b,O1,e,h1,h2⟩:=h
 cases b with
 |true=>obtain⟨o,e2,k⟩:=h1 rfl;exact⟨o,by simp[e,e2],k⟩
 |false=>obtain⟨o,e2,k⟩:=h2 rfl;exact⟨o,by simp[e,e2],k⟩
end
structure WXr(F:FX)(ds:List D)(O:Mem)(Q:D->Mem->Prop)(ex:yt->List (yt×D)->Mem->Prop):Prop where
 ex:(∃d O',F ds O=some (.ok d O')/\Q d O')\/∃c fs O',F ds O=some (.exc c fs O')/\ex c fs O'
def zFz{F:FX}{N:List yt}{p:FS}{ex:yt->List (yt×D)->Mem->Prop}(hF:F=λds O=>zzz (p (zP N ds) O))(h:WXs p (zP N ds) O (λ_ O'=>Q .non O') Q ex):WXr F ds O Q ex:=by
 subst hF;obtain⟨o,e,k⟩:=h
 cases o with
 |next J' O'=>exact⟨.inl ⟨_,_,by rw[e];rfl,k⟩⟩
 |ret d O'=>exact⟨.inl ⟨_,_,by rw[e];rfl,k⟩⟩
 |exc c fs O'=>exact⟨.inr ⟨_,_,_,by rw[e];rfl,k⟩⟩
 |brk _ _=>exact k.elim
 |cont _ _=>exact k.elim
def zPB{c f:yt}{G:FE}(h:WE G J O λx O1=>∃n fs d,x=.loc n/\O1[n]?=some (.exc c fs)/\fs.lookup f=some d/\Q d O1):WE (fAt c f G) J O Q:=by
 obtain⟨x,O1,e1,n,fs,d,rfl,e2,e3,q⟩:=h;exact⟨d,O1,by simp only[fAt,e1,ym,e2,if_true,e3],q⟩
def Sh.ne(s:Sh O n m r kvs):n≠m:=by
 rintro rfl;have h1:=s.at_;rw[s.dc]at h1;cases h1
def Sh.set{kvs':List (Nat×Nat)}(s:Sh O n m r kvs)(nd:(kvs'.map (·.1)).Nodup)(few:kvs'.length<=30):Sh (O.set m (.dct (dkN kvs'))) n m r kvs' where
 at_:=by rw[yL (yV s.ne)];exact s.at_
 dc:=by
  have hm:m<O.length:=by
   obtain⟨h, -⟩:=List.getElem?_eq_some_iff.mp s.dc;exact h
  rw[yO hm]
 nd:=nd
 few:=few
def zNv{c:yt}{ex:yt->List (yt×D)->Mem->Prop}(h:WA G J O λ_ O1=>ex c [] O1):WXs (zKr c G) J O nx rt ex:=by
 obtain⟨ds,O1,e,k⟩:=h;exact⟨.exc c [] O1,by simp only[zKr,e,ym],k⟩
def z1q(r:D)(m:Nat):(fsD r m).lookup ("has":yt)=none:=by
 have h1:(("has":yt) == "kept_rule")=false:=by decide +kernel
 have h2:(("has":yt) == "nest_of")=false:=by decide +kernel
 simp only[fsD,lookup_cons,h1,h2,lookup_nil]
def zWx(h:O[n]?=some (.ins "Shelf" []))(q:Q .non (O.set n (.ins "Shelf" (fsD r O.length))++[.dct []])):WF z8b [.loc n,r] O Q:=by
 have hn:n<O.length:=(List.getElem?_eq_some_iff.mp h).1;refine zFb rfl ?_;show WS zNc [some (.loc n),some r] O _ _ _ _;unfold zNc;refine zE (zxt (zd rfl (zd rfl ⟨n,_,rfl,h,by decide,?_⟩)));refine zxt ?_
 repeat walk_at "w"
 have g1:∀(X σ:tE),(List.set O n X++[σ])[n]?=some X:=λX σ=>by rw[yr (by rw[length_set];exact hn),yO hn]
 have h2:¬("kept_rule":yt)="nest_of":=by decide +kernel
 have e:∀l:Nat,zvj "nest_of" (.loc l) (zvj "kept_rule" r [])=fsD r l:=λl=>by simp only[zvj,h2,if_false]
 refine⟨n,_,rfl,g1 _ _,by simp[zvj],?_⟩;rw[e,length_set,List.set_append_left _ _ (by rw[length_set];exact hn),List.set_set];exact q
def zsz:Sh ((O++[tE.ins "Shelf" []]).set O.length (.ins "Shelf" (fsD r (O++[tE.ins "Shelf" []]).length))++[.dct []]) O.length (O++[tE.ins "Shelf" []]).length r [] where
 at_:=by rw[yr (by simp),yO (by simp)]
 dc:=by rw[yM (by simp)];simp[dkN]
 nd:=nodup_nil
 few:=Yt _
def z4v{c f:yt}{ex:yt->List (yt×D)->Mem->Prop}(h:WA G J O λds O1=>∃(n:Nat)(ns:List Int),ds=[.loc n]/\O1[n]?=some (.lst (ns.map D.int))/\zDh ns/\ex c [(f,.loc O1.length)] (O1++[.lst (ns.map D.int)])):WXs (z9e c f G) J O nx rt ex:=by
 obtain⟨ds,O1,e,n,ns,rfl,hm,hs,k⟩:=h;exact⟨Out.exc c [(f,D.loc O1.length)] (O1++[tE.lst (ns.map D.int)]),by simp only[z9e,e,ym,hm,zvi,decide_eq_true hs,cond_true],k⟩
def zor(T:List Nat):nat T=(T.map λ(k:Nat)=>(k:Int)).map D.int:=by rw[map_map];rfl
def zSw{xs:List Nat}(nd:xs.Nodup):∃T:List Nat,T.Perm xs/\T.Pairwise (· < ·):=by
 have e:(xs.map λx=>(x,0)).map (·.1)=xs:=by rw[map_map];exact List.map_id' xs
 obtain⟨T,h⟩:=Td.ex (kvs:=xs.map λx=>(x,0)) (by rw[e];exact nd);exact⟨T,by have:=h.pm;rw[e]at this;exact this,h.pw⟩
def Td.not(K:Td kvs S){k:Nat}(h:kvs.lookup k=none):k∉S:=λhm=>by
 obtain⟨v,hv⟩:=K.look hm;rw[h]at hv;cases hv
def Td.nd(K:Td kvs S){k:Nat}(h:kvs.lookup k=none):(S++[k]).Nodup:=by
 rw[nodup_append];refine⟨K.pw.imp λh=>yu h,by simp,λa ha b hb e=>K.not h ?_⟩;rw[mem_singleton]at hb;subst hb e;exact ha
def zrt{ex:yt->List (yt×D)->Mem->Prop}(h:WA G J O λds O1=>∃(l:Nat)(T:List Nat),ds=[.loc l]/\O1[l]?=some (.lst (nat T))/\T.length<=31/\(∀x∈T,x<10^60)/\ex "Full" [("some",.loc O1.length)] (O1++[.lst (nat T)])):WXs (z9e "Full" "some" G) J O nx rt ex:=by
 obtain⟨ds,O1,e,l,T,rfl,hm,hl,hs,k⟩:=h;refine z4v ⟨_,O1,e,l,T.map λ(k:Nat)=>(k:Int),rfl,by rw[<-zor];exact hm,⟨by rw[length_map];omega,λn hn=>?_⟩,by rw[<-zor];exact k⟩;obtain⟨x,hx,rfl⟩:=List.mem_map.mp hn;have:=hs x hx;omega
def zIB:FS:=(zcb (zKc 3 (zB zTf (zh (zB z1d (zh (zVq "Shelf" "kept_rule" (zm 0)) (zh (zm 2) zK))) (zh (zH z2h (zB zLb (znc "Shelf" "laying" (zm 0) zK)) (zRn (zh (fC .non) zK))) (zh (zH zVs (zB znk (zh (zm 2) zK)) (fC (.int 1))) zK))))) (zcb (sIf (z8 (zH gEq (zH gIx (zm 3) (fC (.int 0))) (fC (.str "full")))) (z9e "Full" "some" (zh (zB zli (zh (fLC 1 [2] (zse (zH gIx (zm 3) (fC (.int 1)))) (gN 0) zRh z3d) zK)) zK)) zVb) (zcb (zKc 4 (fLC 1 [2] (zse (zH gIx (zm 3) (fC (.int 1)))) (gN 0) zRh zbe)) (zcb (zak (zse (zm 4)) (gN 5) zXd) (zgc (zm 4))))))
def zXy{ex:yt->List (yt×D)->Mem->Prop}(s:Sh O n m r kvs)(K:Td kvs S)(hS:∀x∈S,x<10^60)(hk:k<10^60)
 (qt:∀h:Nat,kvs.lookup k=some h->ex "Twice" [] O)
 (qf:∀(T:List Nat)(l:Nat)(O':Mem),kvs.lookup k=none->S.length=30->T.Perm (S++[k])->T.Pairwise (· < ·)->tm O O'->O.length<=l->O'[l]?=some (.lst (nat T))->ex "Full" [("some",.loc l)] O')
 (qb:∀(l:Nat)(O':Mem),kvs.lookup k=none->S.length<30->tm O O'->O.length<=l->O'[l]?=some (.lst (nat (S++[k])))->WXs zIB [some (.loc n),some (.int k),some (.loc l),none,none,none] O' (λ_ O''=>Q .non O'') Q ex):WXr zme [.loc n,.int k] O Q ex:=by
 have hf:=s.few;have hl:=K.len;refine zFz rfl ?_;show WXs ztf [some (.loc n),some (.int k),none,none,none,none] O _ _ _;unfold ztf;refine zzg (zgz (zO (zw (zTc (zd rfl ⟨n,_,rfl,s.at_,z1q _ m,ze (zd rfl (zx (zlx s ⟨_,rfl,λhb=>?_,λhb=>?_⟩)))⟩)))))
 ·cases e:kvs.lookup k with
  |none=>rw[e]at hb;cases hb
  |some v=>exact zNv (ze (w_c (zx (qt v e))))
 ·have h0:kvs.lookup k=none:=by
   cases e:kvs.lookup k with
   |none=>rfl
   |some v=>rw[e]at hb;cases hb
  refine zPu (zlb ?_);have g1:((O++[tE.lst (nat S)])++[tE.lst [D.int k]])[O.length]?=some (.lst (nat S)):=by rw[yr (by simp)];exact zA
  refine zzg (zPu (zob (zq (zw (zTc (zd rfl ⟨n,_,rfl,s.at_,zKe _ m,zx (zjc s K (zni (ze (zd rfl (zx (zTw g1 zA ?_ ?_))))))⟩))))))
  ·simp;omega
  ·have e1:nat S++[D.int k]=nat (S++[k]):=by simp[nat]
   have e2:(nat (S++[k])).length=S.length+1:=by rw[length_map,length_append,length_singleton]
   rw[e1];refine zzg (zgz (zO (zq (zw (ze (zd rfl (zx (z7e (zD zA) (w_c (zCj ⟨_,rfl,λhb=>?_,λhb=>?_⟩))))))))))
   ·have hb':=of_decide_eq_true hb;rw[e2]at hb';obtain⟨T,hT,pT⟩:=zSw (K.nd h0);have lT:=hT.length_eq;rw[length_append,length_singleton]at lT;refine zrt (ze (zw (ze (zd rfl (zx (zhq zA hT pT ?_ (zx ⟨_,T,rfl,zA,?_,λx hx=>?_,?_⟩)))))))
    ·rw[length_append,length_singleton];omega
    ·omega
    ·rcases List.mem_append.mp (hT.mem_iff.mp hx) with h|h
     ·exact hS x h
     ·rw[mem_singleton]at h;subst h;exact hk
    ·refine qf T _ _ h0 (by omega) hT pT ?_ ?_ zA
     ·exact(((tm.app.trans tm.app).trans tm.app).trans tm.app).trans tm.app
     ·simp
   ·have hb':=of_decide_eq_false hb;rw[e2]at hb';refine zPu (zlb ?_);exact qb _ _ h0 (by omega) ((tm.app.trans tm.app).trans tm.app) (by simp) zA
def zez:FS:=(zcb (sIf (z8 (zH gEq (zH gIx (zm 3) (fC (.int 0))) (fC (.str "full")))) (z9e "Full" "some" (zh (zB zli (zh (fLC 1 [2] (zse (zH gIx (zm 3) (fC (.int 1)))) (gN 0) zRh z3d) zK)) zK)) zVb) (zcb (zKc 4 (fLC 1 [2] (zse (zH gIx (zm 3) (fC (.int 1)))) (gN 0) zRh zbe)) (zcb (zak (zse (zm 4)) (gN 5) zXd) (zgc (zm 4)))))
def zdA{ex:yt->List (yt×D)->Mem->Prop}(h:Rl R ts)(s:Sh O n m (rlN R ts) kvs)(K:Td kvs S)(h30:S.length<30)(hl:O[l]?=some (.lst (nat (S++[k]))))
 (q1:∀(row:List (Nat×Nat)) (l':Nat) (O':Mem),Ts (zng R ts (S++[k])) ((S.map λx=>kvs.lookup x)++[none]) S.length row->((S.map λx=>kvs.lookup x)++[none]).count (some (row.getD (row.length-1) (0,0)).2)<R.getD (row.getD (row.length-1) (0,0)).2 0->row.length<=10->tm O O'->O'[l']?=some (.lst (row.map pD))->WXs zez [some (.loc n),some (.int k),some (.loc l),some (.tup [.str "put",.loc l']),none,none] O' nx rt ex)
 (q2:∀(T:List Nat)(l':Nat)(O':Mem),T.Sublist (yw (S.length+1))->S.length∈T->TJ R (zng R ts (S++[k])) ((S.map λx=>kvs.lookup x)++[none]) T->tm O O'->O'[l']?=some (.lst (nat T))->WXs zez [some (.loc n),some (.int k),some (.loc l),some (.tup [.str "full",.loc l']),none,none] O' nx rt ex) :
 WXs zIB [some (.loc n),some (.int k),some (.loc l),none,none,none] O nx rt ex:=by
 have hlen:(S++[k]).length=S.length+1:=by simp
 have hK:(zng R ts (S++[k])).length=S.length+1:=by rw[length_map,hlen]
 have hy:((S.map λx=>kvs.lookup x)++[none]).length=S.length+1:=by simp
 unfold zIB;refine zzg (zPu (zob (zw (ze (zw (ze (z7l (zd rfl ⟨n,_,rlN R ts,rfl,s.at_,rfl,ze (zd rfl (zx (z6n h hl (by omega) λO1 k1=>?_)))⟩))))))));have s1:=s.keep k1;refine ze (zq (zw (zTc (zd rfl ⟨n,_,rfl,s1.at_,zNr _ m,zx (zqp s1 K λl2 O2 k2 g2 e2=>zni (ze (w_c (zx (zTw (tm.app _ _ e2) zA ?_ ?_)))))⟩))))
 ·simp;omega
 ·have e3:(S.map λx=>onD (kvs.lookup x))++[D.non]=((S.map λx=>kvs.lookup x)++[none]).map onD:=by rw[map_append,map_map];rfl
  rw[e3];have kk:tm O ((O2++[tE.lst [D.non]])++[tE.lst (((S.map λx=>kvs.lookup x)++[none]).map onD)]):=((k1.trans k2).trans tm.app).trans tm.app;refine ze (zq (zw (ze (zd rfl (zx (z7e (zD (kk _ _ hl)) (w_c (zas (zx ?_)))))))));have e4:(((nat (S++[k])).length:Nat):Int)-1=((S.length:Nat):Int):=by rw[length_map,hlen];omega
  rw[e4];refine zQq (L:=30) (h.wb (by omega)) (by rw[hK,hy]) (by omega) zA (by omega) (by simp) (λrow l' O' ro hr r10 k' _ e'=>?_) (λT l' O' sb hm sh k' _ e'=>?_)
  ·exact q1 row l' O' ro hr r10 (kk.trans k') e'
  ·exact q2 T l' O' (by rw[hK]at sb;exact sb) hm sh (kk.trans k') e'
def z6z{l':Nat}{ex:yt->List (yt×D)->Mem->Prop}(hS:∀x∈S++[k],x<10^60)(nd:(S++[k]).Nodup)(h30:S.length<30)(hl:O[l]?=some (.lst (nat (S++[k]))))(sb:T.Sublist (yw (S.length+1)))(hm:S.length∈T)(hl':O[l']?=some (.lst (nat T)))
 (q:∀(V:List Nat)(l2:Nat)(O':Mem),V.Pairwise (· < ·)->k∈V->V.Perm (T.map λi=>(S++[k]).getD i 0)->tm O O'->O.length<=l2->O'[l2]?=some (.lst (nat V))->ex "Full" [("some",.loc l2)] O') :
 WXs zez [some (.loc n),some (.int k),some (.loc l),some (.tup [.str "full",.loc l']),none,none] O nx rt ex:=by
 have hlen:(S++[k]).length=S.length+1:=by simp
 have lT:T.length<=S.length+1:=by have:=sb.length_le;rw[length_range]at this;exact this
 have hT:∀i∈T,i<(S++[k]).length:=λi hi=>by have:=List.mem_range.mp (sb.subset hi);omega
 have g:∀(i:Nat)(h:i<(S++[k]).length),(S++[k]).getD i 0=(S++[k])[i]:=λi h=>by rw[getD_eq_getElem?_getD,yq h,xT]
 have hc:Yo (.str ("full":yt)) (.str ("full":yt))=true:=by decide +kernel
 unfold zez;refine zzg (zgz (zO (zq (zq (zd rfl (w_c (zic rfl rfl (w_c (zDj ⟨_,rfl,λ_=>?_,λhb=>?_⟩)))))))))
 ·have ndV:(T.map λi=>(S++[k]).getD i 0).Nodup:=by
   rw[List.Nodup,pairwise_map];refine List.Pairwise.imp_of_mem (λ{a b} ha hb hab e=>?_) (List.Nodup.sublist sb List.nodup_range);have h1:=hT a ha;have h2:=hT b hb;rw[g a h1,g b h2]at e;exact hab ((List.getElem?_inj h1 nd).mp (by rw[yq h1,yq h2,e]))
  obtain⟨V,hV,pV⟩:=zSw ndV;have lV:=hV.length_eq;rw[length_map]at lV;refine zrt (ze (zw (ze (zBl (zQc (zq (zd rfl (w_c (zic rfl rfl (.inr (.inr ⟨_,_,rfl,hl',zOb (by rw[length_map];omega),?_⟩)))))))))));refine zye (λ(x:Nat)=>D.int x) T (λi=>D.int ((S++[k]).getD i 0:Nat)) (λO' k=>z5 hl' k) (λi hi O' kp=>?_) (λO' kp=>?_)
  ·refine zud ?_;unfold z3d;exact zq (zd rfl (zd rfl (zic (zD (kp _ _ hl)) (zyi (hT i hi)) ⟨rfl,kp,kp⟩)))
  ·have e:(T.map λi=>D.int ((S++[k]).getD i 0:Nat))=nat (T.map λi=>(S++[k]).getD i 0):=by rw[zRg]
   rw[e];refine zx (zhq zA hV pV (by rw[length_map];omega) (zx ⟨_,V,rfl,zA,by omega,λx hx=>?_,?_⟩))
   ·obtain⟨i,hi,rfl⟩:=List.mem_map.mp (hV.mem_iff.mp hx);have:=hT i hi;rw[g i this];exact hS _ (getElem_mem this)
   ·refine q V _ _ pV ?_ hV ((kp.to.trans tm.app).trans tm.app) ?_ zA
    ·refine hV.mem_iff.mpr (List.mem_map.mpr ⟨S.length,hm,by simp⟩)
    ·have:=kp.len;simp;omega
 ·rw[hc]at hb;cases hb
def zgo(kvs:List (Nat×Nat))(k h:Nat):List (Nat×Nat):=if k∈kvs.map (·.1) then kvs.map (λp=>if p.1=k then(p.1,h) else p) else kvs++[(k,h)]
def zpq(k h:Nat)(kvs:List (Nat×Nat)):z5l (dkN kvs) (k:Int) (.int (h:Nat))=dkN (zgo kvs k h):=by
 have e:((dkN kvs).any λp=>decide (p.1=(k:Int)))=decide (k∈kvs.map (·.1)):=by
  unfold dkN;rw[any_map];apply Bool.eq_iff_iff.mpr;rw[any_eq_true,decide_eq_true_iff,mem_map];constructor
  ·rintro⟨p,hp,h⟩;have h:((p.1:Nat):Int)=k:=of_decide_eq_true h;exact⟨p,hp,by omega⟩
  ·rintro⟨p,hp,h⟩;refine⟨p,hp,decide_eq_true (show((p.1:Nat):Int)=k from ?_)⟩;omega
 unfold z5l zgo;rw[e]
 by_cases hk:k∈kvs.map (·.1)
 ·rw[if_pos (decide_eq_true hk),if_pos hk];unfold dkN;rw[map_map,map_map];refine map_congr_left λp _=>?_;show(if((p.1:Nat):Int)=k then _ else _)=_
  by_cases hp:p.1=k
  ·rw[if_pos (by omega)];show _=((((if p.1=k then(p.1,h) else p).1:Nat):Int),D.int ((if p.1=k then(p.1,h) else p).2:Nat));rw[if_pos hp]
  ·rw[if_neg (by omega)];show _=((((if p.1=k then(p.1,h) else p).1:Nat):Int),D.int ((if p.1=k then(p.1,h) else p).2:Nat));rw[if_neg hp]
 ·rw[if_neg (by rw[decide_eq_true_iff];exact hk),if_neg hk];unfold dkN;rw[map_append];rfl
def zGp(kvs:List (Nat×Nat))(k h:Nat):(zgo kvs k h).map (·.1)=if k∈kvs.map (·.1) then kvs.map (·.1) else kvs.map (·.1)++[k]:=by
 unfold zgo
 by_cases hk:k∈kvs.map (·.1)
 ·rw[if_pos hk,if_pos hk,map_map];refine map_congr_left λp _=>?_;show(if p.1=k then(p.1,h) else p).1=p.1
  by_cases hp:p.1=k
  ·rw[if_pos hp]
  ·rw[if_neg hp]
 ·rw[if_neg hk,if_neg hk,map_append];rfl
def zby(nd:(kvs.map (·.1)).Nodup):((zgo kvs k h).map (·.1)).Nodup:=by
 rw[zGp]
 by_cases hk:k∈kvs.map (·.1)
 ·rw[if_pos hk];exact nd
 ·rw[if_neg hk,nodup_append];refine⟨nd,by simp,λa ha b hb e=>hk ?_⟩;rw[mem_singleton]at hb;subst hb e;exact ha
def zFv:x∈(zgo kvs k h).map (·.1)↔x∈kvs.map (·.1)\/x=k:=by
 rw[zGp]
 by_cases hk:k∈kvs.map (·.1)
 ·rw[if_pos hk];exact⟨.inl,λh=>h.elim id λh=>h▸hk⟩
 ·rw[if_neg hk,mem_append,mem_singleton]
def zii{k h x:Nat}(hx:x≠k):∀kvs:List (Nat×Nat),(kvs.map (λp=>if p.1=k then(p.1,h) else p)).lookup x=kvs.lookup x
 |[]=>rfl
 |(j,v)::kvs=>by
  have ih:=zii (h:=h) hx kvs;rw[map_cons]
  by_cases hj:j=k
  ·have e:(x==j)=false:=beq_eq_false_iff_ne.mpr (by omega);rw[if_pos hj,lookup_cons,lookup_cons,e];exact ih
  ·rw[if_neg hj,lookup_cons,lookup_cons,ih]
def zfj{k h:Nat}:∀kvs:List (Nat×Nat),k∈kvs.map (·.1)->(kvs.map (λp=>if p.1=k then(p.1,h) else p)).lookup k=some h
 |[],hk=>absurd hk (by simp)
 |(j,v)::kvs,hk=>by
  rw[map_cons]
  by_cases hj:j=k
  ·rw[if_pos hj,lookup_cons,hj,beq_self_eq_true]
  ·have e:(k==j)=false:=beq_eq_false_iff_ne.mpr (by omega);rw[if_neg hj,lookup_cons,e];rw[map_cons,mem_cons]at hk;exact zfj kvs (hk.resolve_left (yV hj))
def zPi(kvs:List (Nat×Nat))(k h x:Nat):(zgo kvs k h).lookup x=if x=k then some h else kvs.lookup x:=by
 unfold zgo
 by_cases hk:k∈kvs.map (·.1)
 ·rw[if_pos hk]
  by_cases hx:x=k
  ·subst hx;rw[if_pos rfl];exact zfj kvs hk
  ·rw[if_neg hx];exact zii hx kvs
 ·rw[if_neg hk,List.lookup_append]
  by_cases hx:x=k
  ·subst hx
   have e:kvs.lookup x=none:=List.lookup_eq_none_iff.mpr λp hp=>by
    apply bne_iff_ne.mpr;intro e;exact hk (List.mem_map.mpr ⟨p,hp,e.symm⟩)
   rw[if_pos rfl,e,Option.none_or,lookup_cons,beq_self_eq_true]
  ·have e:(x==k)=false:=beq_eq_false_iff_ne.mpr hx;rw[if_neg hx,lookup_cons,e];exact Option.or_none
def zJe(kvs row:List (Nat×Nat)):List (Nat×Nat):=row.foldl (λkv p=>zgo kv p.1 p.2) kvs
def z5o(kvs row:List (Nat×Nat))(p:Nat×Nat):zJe kvs (row++[p])=zgo (zJe kvs row) p.1 p.2:=by
 unfold zJe;rw[List.foldl_append];rfl
def zBg(row:List (Nat×Nat)):∀kvs:List (Nat×Nat),(kvs.map (·.1)).Nodup->((zJe kvs row).map (·.1)).Nodup:=by
 induction row with
 |nil=>exact λ_ h=>h
 |cons p row ih=>exact λkvs h=>ih _ (zby h)
def zjo(row:List (Nat×Nat)):∀(kvs:List (Nat×Nat)) (x:Nat),x∈(zJe kvs row).map (·.1)↔x∈kvs.map (·.1)\/x∈row.map (·.1):=by
 induction row with
 |nil=>intro kvs x;simp[zJe]
 |cons p row ih=>
  intro kvs x;show x∈(zJe (zgo kvs p.1 p.2) row).map (·.1)↔_;rw[ih,zFv,map_cons,mem_cons,or_assoc]
def z9q(nd:(kvs.map (·.1)).Nodup)(h1:∀x∈kvs.map (·.1),x∈A)(h2:∀x∈row.map (·.1),x∈A):(zJe kvs row).length<=A.length:=by
 have h:((zJe kvs row).map (·.1)).length<=A.length:=by
  refine zAb (zBg row kvs nd) λx hx=>?_;rcases(zjo row kvs x).mp hx with h|h
  ·exact h1 x h
  ·exact h2 x h
 rw[length_map]at h;exact h
abbrev zhr(A:List Nat)(row:List (Nat×Nat)):List (Nat×Nat):=row.map λp=>(A.getD p.1 0,p.2)
def z8q(hm:∀p∈row,p.1<A.length):∀p∈zhr A row,p.1∈A:=λp hp=>by
 obtain⟨q,hq,rfl⟩:=List.mem_map.mp hp;have h:=hm q hq;show A.getD q.1 0∈A;rw[getD_eq_getElem?_getD,yq h,xT];exact getElem_mem h
abbrev JPt(n m k l l' lr:Nat)(r:D)(kvs rw_:List (Nat×Nat))(O:Mem):Nat->M.Loc->Mem->Prop:=λi J O'=>∃x5:Option D,J=[some (.loc n),some (.int k),some (.loc l),some (.tup [.str "put",.loc l']),some (.loc lr),x5]/\KB [m] O O'/\Sh O' n m r (zJe kvs (rw_.take i))
def z8z{l':Nat}{ex:yt->List (yt×D)->Mem->Prop}(s:Sh O n m r kvs)(K:Td kvs S)(h30:S.length<30)(hl:O[l]?=some (.lst (nat (S++[k]))))(hm:∀p∈row,p.1<S.length+1)(r10:row.length<=10)(hl':O[l']?=some (.lst (row.map pD)))
 (q:∀(lr:Nat)(O':Mem),KB [m] O O'->O.length<=lr->O'[lr]?=some (.lst ((zhr (S++[k]) row).map pD))->Sh O' n m r (zJe kvs (zhr (S++[k]) row))->rt (.loc lr) O') :
 WXs zez [some (.loc n),some (.int k),some (.loc l),some (.tup [.str "put",.loc l']),none,none] O nx rt ex:=by
 have hlen:(S++[k]).length=S.length+1:=by simp
 have hm':∀p∈row,p.1<(S++[k]).length:=λp hp=>by have:=hm p hp;omega
 have hc:Yo (.str ("put":yt)) (.str ("full":yt))=false:=by decide +kernel
 have hmm:=zC s.dc;unfold zez;refine zzg (zgz (zO (zq (zq (zd rfl (w_c (zic rfl rfl (w_c (zDj ⟨_,rfl,λhb=>?_,λ_=>?_⟩)))))))))
 ·rw[hc]at hb;cases hb
 refine zPu (zlb ?_);refine zzg (zPu (zob (zBl (zQc (zq (zd rfl (w_c (zic rfl rfl (.inr (.inr ⟨_,_,rfl,hl',zOb (by rw[length_map];omega),?_⟩))))))))));refine zye pD row (λp=>pD ((S++[k]).getD p.1 0,p.2)) (λO' k=>z5 hl' k) (λp hp O' kp=>?_) (λO' kp=>?_)
 ·refine zud ?_;unfold zbe;refine zvh (ze (zq (zd rfl (zq (zd rfl (w_c (zic (x:=pD p) rfl (show atI [D.int (p.1:Nat),D.int (p.2:Nat)] 0=some (D.int (p.1:Nat)) from rfl) (zic (zD (kp _ _ hl)) (zyi (hm' p hp)) ?_))))))));exact ze (zq (zd rfl (w_c (zic (x:=pD p) rfl (show atI [D.int (p.1:Nat),D.int (p.2:Nat)] 1=some (D.int (p.2:Nat)) from rfl) (zx ⟨rfl,kp,kp⟩)))))
 ·have e:(row.map λp=>pD ((S++[k]).getD p.1 0,p.2))=(zhr (S++[k]) row).map pD:=by rw[map_map];rfl
  rw[e];have k2:tm O (O'++[tE.lst ((zhr (S++[k]) row).map pD)]):=kp.to;have gl:(O'++[tE.lst ((zhr (S++[k]) row).map pD)])[O'.length]?=some (.lst ((zhr (S++[k]) row).map pD)):=zA;have hle:=kp.len;have rl:(zhr (S++[k]) row).length<=10:=by rw[length_map];exact r10
  have rm:=z8q hm';generalize zhr (S++[k]) row=rw_ at k2 gl rl rm q;generalize O'++[tE.lst (rw_.map pD)]=O2 at k2 gl;generalize O'.length=lr at gl hle;have hne:lr≠m:=by omega
  refine zPu (zE (zbf (zQc (zd rfl (.inr (.inr ⟨_,_,rfl,gl,?_⟩))))));refine zJb (JPt n m k l l' lr r kvs rw_ O2) ⟨_,rfl,.refl,s.keep k2⟩ ?_ ?_ ?_
  ·rintro i J O3 ⟨x5,rfl,k3,s3⟩;exact Th.mpr (k3.at_ _ _ (by simp;exact hne) gl)
  ·rintro i x J O3 hx ⟨x5,rfl,k3,s3⟩;rw[yg]at hx
   cases hp:rw_[i]? with
   |none=>rw[hp]at hx;cases hx
   |some p=>
    rw[hp]at hx;obtain rfl:pD p=x:=by simpa using hx
    refine zud ?_;unfold zXd;refine zNj (zq (zd rfl (w_c (zic (x:=pD p) rfl (show atI [D.int (p.1:Nat),D.int (p.2:Nat)] 1=some (D.int (p.2:Nat)) from rfl) (zLr (z7l (zd rfl ⟨n,_,.loc m,rfl,s3.at_,zoe r m,?_⟩)))))));have ht:rw_.take (i+1)=rw_.take i++[p]:=by rw[take_add_one,hp];rfl
    have ekv:=z5o kvs (rw_.take i) p;rw[<-ht]at ekv;refine zq (zd rfl (w_c (zic (x:=pD p) rfl (show atI [D.int (p.1:Nat),D.int (p.2:Nat)] 0=some (D.int (p.1:Nat)) from rfl) ⟨m,_,_,rfl,rfl,s3.dc,?_,_,rfl,k3.trans (KB.refl.set (.inl (by simp))),?_⟩)))
    ·have:=s3.few;unfold dkN;rw[length_map];omega
    ·rw[zpq,<-ekv];refine s3.set (zBg _ _ s.nd) ?_;refine yF (z9q (A:=S++[k]) s.nd (λx hx=>mem_append_left _ (K.pm.mem_iff.mpr hx)) λx hx=>?_) (by omega);obtain⟨y,hy,rfl⟩:=List.mem_map.mp hx;exact rm y (List.mem_of_mem_take hy)
  ·rintro J O3 ⟨x5,rfl,k3,s3⟩;rw[length_map,take_length]at s3;have k4:=(KB.of_keep (L:=[m]) k2).trans k3;exact zwb (zd rfl (q lr O3 k4 hle (k3.at_ _ _ (by simp;exact hne) gl) s3))
abbrev Can(R:List Nat)(ts:List (Nat×Nat))(kvs:List (Nat×Nat))(S:List Nat)(k:Nat)(row:List (Nat×Nat)):Prop:=Ts (zng R ts (S++[k])) ((S.map λx=>kvs.lookup x)++[none]) S.length row/\((S.map λx=>kvs.lookup x)++[none]).count (some (row.getD (row.length-1) (0,0)).2)<R.getD (row.getD (row.length-1) (0,0)).2 0
abbrev zcB(R:List Nat)(ts kvs:List (Nat×Nat))(S:List Nat)(k:Nat)(V:List Nat):Prop:=∃T:List Nat,T.Sublist (yw (S.length+1))/\S.length∈T/\TJ R (zng R ts (S++[k])) ((S.map λx=>kvs.lookup x)++[none]) T/\V.Perm (T.map λi=>(S++[k]).getD i 0)
def zIz{ex:yt->List (yt×D)->Mem->Prop}(h:Rl R ts)(s:Sh O n m (rlN R ts) kvs)(K:Td kvs S)(hS:∀x∈S,x<10^60)(hk:k<10^60)
 (qt:∀h:Nat,kvs.lookup k=some h->ex "Twice" [] O)
 (qf:∀(V:List Nat)(l:Nat)(O':Mem),kvs.lookup k=none->V.Pairwise (· < ·)->k∈V->(S.length=30/\V.Perm (S++[k])\/S.length<30/\zcB R ts kvs S k V)->tm O O'->O.length<=l->O'[l]?=some (.lst (nat V))->ex "Full" [("some",.loc l)] O')
 (q:∀(row:List (Nat×Nat)) (lr:Nat) (O':Mem),kvs.lookup k=none->S.length<30->Can R ts kvs S k row->KB [m] O O'->O.length<=lr->O'[lr]?=some (.lst ((zhr (S++[k]) row).map pD))->Sh O' n m (rlN R ts) (zJe kvs (zhr (S++[k]) row))->Q (.loc lr) O'):WXr zme [.loc n,.int k] O Q ex:=by
 refine zXy s K hS hk qt (λT l O' h0 h30 hT pT k' g e=>qf T l O' h0 pT (hT.mem_iff.mpr (by simp)) (.inl ⟨h30,hT⟩) k' g e) λl O1 h0 h30 k1 g1 e1=>?_
 have hSk:∀x∈S++[k],x<10^60:=λx hx=>by
  rcases List.mem_append.mp hx with hx|hx
  ·exact hS x hx
  ·rw[List.mem_singleton.mp hx];exact hk
 refine zdA h (s.keep k1) K h30 e1 (λrow l' O2 ro hr r10 k2 e2=>?_) (λT l' O2 sb hm sh k2 e2=>?_)
 ·refine z8z (s.keep (k1.trans k2)) K h30 (k2 _ _ e1) (λp hp=>?_) r10 e2 λlr O3 k3 g3 e3 s3=>?_
  ·have:=(ro.mem p hp).1;rw[length_map,length_append,length_singleton]at this;exact this
  ·exact q row lr O3 h0 h30 ⟨ro,hr⟩ ((KB.of_keep (k1.trans k2)).trans k3) (yF (k1.trans k2).len g3) e3 s3
 ·exact z6z hSk (K.nd h0) h30 (k2 _ _ e1) sb hm e2 λV l2 O3 pV hV pm k3 g3 e3=>qf V l2 O3 h0 pV hV (.inr ⟨h30,T,sb,hm,sh,pm⟩) ((k1.trans k2).trans k3) (yF (k1.trans k2).len g3) e3
def zki(K:Td kvs S)(ro:Ts (zng R ts (S++[k])) ((S.map λx=>kvs.lookup x)++[none]) S.length row):x∈(zJe kvs (zhr (S++[k]) row)).map (·.1)↔x∈S\/x=k:=by
 have hm:∀p∈row,p.1<(S++[k]).length:=λp hp=>by
  have:=(ro.mem p hp).1;rw[length_map]at this;exact this
 rw[zjo];constructor
 ·rintro(h|h)
  ·exact .inl (K.pm.mem_iff.mpr h)
  ·obtain⟨p,hp,rfl⟩:=List.mem_map.mp h;simpa using z8q hm p hp
 ·rintro(h|rfl)
  ·exact .inl (K.pm.mem_iff.mp h)
  ·obtain⟨h,r,e⟩:=ro.first
   refine .inr ?_;rw[e];simp
def z9y{F:FX}{ex:yt->List (yt×D)->Mem->Prop}(h:WA G J O λds O1=>WXr F ds O1 (λ_ O'=>nx J O') ex):WXs (zRt F G) J O nx rt ex:=by
 obtain⟨ds,O1,e1,⟨d,O',e2,k⟩|⟨c,fs,O',e2,k⟩⟩:=h
 ·exact⟨.next J O',by simp[e1,e2],k⟩
 ·exact⟨.exc c fs O',by simp[e1,e2],k⟩
def pick4:∀v:Nat,v<4->∃s:Nat,atI [D.int 2,.int 3,.int 3,.int 10] (v:Int)=some (.int (s:Nat))/\0<s/\s<=1000
 |0,_=>⟨2,z4b (j:=0) rfl,by decide,by decide⟩
 |1,_=>⟨3,z4b (j:=1) rfl,by decide,by decide⟩
 |2,_=>⟨3,z4b (j:=2) rfl,by decide,by decide⟩
 |3,_=>⟨10,z4b (j:=3) rfl,by decide,by decide⟩
 |v+4,h=>absurd h (by omega)
def pick3:∀v:Nat,v<3->∃s:Nat,atI [D.int 10007,.int 10007,.int 12] (v:Int)=some (.int (s:Nat))/\0<s/\s<=10007
 |0,_=>⟨10007,z4b (j:=0) rfl,by decide,by decide⟩
 |1,_=>⟨10007,z4b (j:=1) rfl,by decide,by decide⟩
 |2,_=>⟨12,z4b (j:=2) rfl,by decide,by decide⟩
 |v+3,h=>absurd h (by omega)
section
variable {ns:List Int}
def z1l(hp:Tb ns O l B)(hB:B<=100000)(q:∀(R:List Nat)(ts:List (Nat×Nat)) (O':Mem),Rl R ts->KB [l] O O'->Tb ns O' l (B+30)->Q (rlN R ts) O'):WF zue [.loc l] O Q:=by
 refine zFb rfl ?_;show WS zSf [some (.loc l),none,none,none,none] O _ _ _ _;unfold zSf;refine zE (zob (zq (w_c (zw (ze (zd rfl (ze (w_c (zx (zMc (s:=6) hp (by omega) (by decide) (by decide) λv1 O1 b1 k1 p1=>zth ?_))))))))))
 have rest:∀(N:Nat)(ν:Mem),1<=N->N<=10->KB [l] O ν->Tb ns ν l (B+3)->WS (zcb (zKc 2 (zH gIx (zRn (zh (fC (.int 2)) (zh (fC (.int 3)) (zh (fC (.int 3)) (zh (fC (.int 10)) zK))))) (zB zJ (zh (zm 0) (zh (fC (.int 4)) zK))))) (zcb (zKc 3 (zB zAh (zh (fLC 1 [0,2] (zlg (zh (zm 1) zK)) (gN 0) zRh zzf) zK))) (zcb (zKc 4 (zH gIx (zRn (zh (fC (.int 10007)) (zh (fC (.int 10007)) (zh (fC (.int 12)) zK)))) (zB zJ (zh (zm 0) (zh (fC (.int 3)) zK))))) (zgc (z5k (zh (zm 3) (zh (zB zAh (zh (fLC 1 [0,4] (zlg (zh (zH z2h (fC (.int 2)) (zB zJ (zh (zm 0) (zh (fC (.int 2)) zK)))) zK)) (gN 0) zRh zNf) zK)) zK))))))) [some (.loc l),some (.int (N:Nat)),none,none,none] ν (λ_ O'=>Q .non O') Q (λ_ _=>False) (λ_ _=>False):=λN ν hN1 hN k0 p0=>by
  have hlc:l≠ν.length:=yu p0.lt;refine zE (zob (zq (zni (ze (w_c (ze (w_c (ze (w_c (ze (w_c (zx ?_))))))))))));refine zw (ze (zd rfl (ze (w_c (zx (zMc (s:=4) p0.app (by omega) (by decide) (by decide) λv2 O2 b2 k2 p2=>?_))))));obtain⟨s,es,hs1,hs2⟩:=pick4 v2 b2;refine zic (zD (k2.at_ _ _ (SH hlc) zA)) es ?_;have k02:KB [l] O O2:=(k0.app).trans k2;refine zE (zob (zw (ze (zBl (zIg (ze (zd rfl (zx ⟨_,rfl,by omega,by omega,zOb (by simp;omega),?_⟩)))))))) ;rw[yX];refine zww (s:=s) p2 (λj O' Q' hj p' k' hq=>?_) λR O3 hl hR k3 p3=>?_
  ·unfold zzf;exact zw (ze (zd rfl (ze (zd rfl (zx (zMc p' (by omega) hs1 hs2 λv O'' b k'' p''=>hq _ _ (by omega) (by omega) k'' p''))))))
  refine zx (znl (zD zA) ?_);have p4:=(p3.up (B':=B+14) (by omega)).app (g:=[tE.lst (nat R)]);have k4:KB [l] O (O3++[tE.lst (nat R)]):=(k02.trans k3).app;generalize O3++[tE.lst (nat R)]=O4 at p4 k4;have hlc4:l≠O4.length:=yu p4.lt;refine zE (zob (zq (zni (ze (w_c (ze (w_c (ze (w_c (zx ?_))))))))));refine zw (ze (zd rfl (ze (w_c (zx (zMc (s:=3) p4.app (by omega) (by decide) (by decide) λv5 O5 b5 k5 p5=>?_))))));obtain⟨f,ef,hf1,hf2⟩:=pick3 v5 b5;refine zic (zD (k5.at_ _ _ (SH hlc4) zA)) ef ?_;have k05:KB [l] O O5:=(k4.app).trans k5;refine zwb (zvh (ze (zd rfl (ze (zw (ze (zBl (zIg (ze (zq (w_c (zw (ze (zd rfl (ze (w_c (zx (zMc (s:=2) p5 (by omega) (by decide) (by decide) λv6 O6 b6 k6 p6=>zth (zx ?_)))))))))))))))))));have e4:(2:Int)+(v6:Nat)=((2+v6:Nat):Int):=by omega
  rw[e4];refine⟨_,rfl,by omega,by omega,zOb (by simp;omega),?_⟩;rw[yX];refine zLl (λi ys O'=>∃ts:List (Nat×Nat),ys=ts.map pr2/\ts.length=i/\(∀t∈ts,t.1<=10006/\t.2<=10006)/\KB [l] O6 O'/\Tb ns O' l (B+16+2*i)) ⟨[],rfl,rfl,by simp,.refl,p6⟩ (λ_ _ _ _=>rfl) ?_ ?_
  ·rintro i x ys O' hx ⟨ts,rfl,hl,hS,k,p⟩;obtain⟨hi,rfl⟩:=zah hx;refine zud (z9t ⟨λ_=>?_,λhf=>(by cases hf)⟩);unfold zNf;refine zvh (ze (zw (ze (zd rfl (ze (zd rfl (zx (zGk p (by omega) (by omega) (by omega) λv7 O7 a7 b7 k7 _ p7=>?_))))))));refine ze (zw (ze (zd rfl (ze (zd rfl (zx (zGk p7 (by omega) (by omega) (by omega) λv8 O8 a8 b8 k8 _ p8=>zx ?_)))))));obtain⟨v7,rfl⟩:=xn a7;obtain⟨v8,rfl⟩:=xn a8;refine⟨ts++[(v7,v8)],by rw[map_append];rfl,by simp[hl],λt ht=>?_,k.trans (k7.trans k8),p8.up (by omega)⟩;rcases List.mem_append.mp ht with ht|ht
   ·exact hS t ht
   ·rw[List.mem_singleton.mp ht];exact⟨by show v7<=10006;omega,by show v8<=10006;omega⟩
  ·rintro ys O' ⟨ts,rfl,ht,hS,k,p⟩;simp only[length_map,length_range]at ht p;refine zx (znl (zD zA) (zx ?_));exact q R ts _ ⟨by omega,by omega,hS⟩ ((k05.trans (k6.trans k)).app) ((p.up (by omega)).app)
 refine zE (zwh (zO (zq (zw (ze (zd rfl (ze (w_c (zx (zMc (s:=8) p1 (by omega) (by decide) (by decide) λv2 O2 b2 k2 p2=>w_c (zuj ⟨_,rfl,λ_=>?_,λ_=>zlb ?_⟩)))))))))))
 ·refine zob (zq (w_c (zw (ze (zd rfl (ze (w_c (zx (zMc (s:=6) p2 (by omega) (by decide) (by decide) λv3 O3 b3 k3 p3=>zth ?_)))))))));have e:(5:Int)+(v3:Nat)=((5+v3:Nat):Int):=by omega
  rw[e];exact rest (5+v3) O3 (by omega) (by omega) (k1.trans (k2.trans k3)) p3
 ·have e:(1:Int)+(v1:Nat)=((1+v1:Nat):Int):=by omega
  rw[e];exact rest (1+v1) O2 (by omega) (by omega) (k1.trans k2) (p2.up (by omega))
variable {O:Mem}{n m:Nat}{r:D}{kvs:List (Nat×Nat)}{S:List Nat}{Q:D->Mem->Prop}
abbrev inN(kvs:List (Nat×Nat))(S:List Nat)(h:Nat):List Nat:=S.filter λx=>decide (kvs.lookup x=some h)
def zjy(s:Sh O n m r kvs)(k:Td kvs S)(q:∀l O',tm O O'->O.length<=l->O'[l]?=some (.lst (nat (inN kvs S h)))->Q (.loc l) O'):WF zCe [.loc n,.int h] O Q:=by
 have hf:=s.few;have hl:=k.len;refine zFb rfl ?_;show WS zWe [some (.loc n),some (.int h)] O _ _ _ _;unfold zWe;refine zwb (zBl (zQc (zw (zTc (zd rfl ⟨n,_,rfl,s.at_,zKe r m,zx (zjc s k (.inr (.inr ⟨_,_,rfl,zA,zOb (by rw[length_map];omega),?_⟩)))⟩)))));refine z8e (λ(x:Nat)=>D.int x) S (λx=>D.int (x:Nat)) (λx=>decide (kvs.lookup x=some h)) (λO' k=>z5 zA k) (λx hx O' kp=>?_) (λO' kp=>?_)
 ·have s':=s.keep (tm.app.trans kp);obtain⟨v,hv⟩:=k.look hx;refine zud ?_;unfold zyh;refine zO (zq (zq (z7l (zd rfl ⟨n,_,.loc m,rfl,s'.at_,zoe r m,zd rfl (zKs (zac s'.dc) (by rw[zVf,hv];rfl) (zd rfl (zuj ⟨_,rfl,?_,kp,λ_=>?_⟩)))⟩))))
  ·rw[hv];apply Bool.eq_iff_iff.mpr;rw[decide_eq_true_iff,beq_iff_eq,xm];omega
  ·unfold zJh;exact zd rfl ⟨rfl,kp⟩
 ·exact q _ _ (tm.app.trans kp.to) (yF (by simp) kp.len) zA
end
def zgA{lay:List (Option Nat)}{hs:List Nat}(e:lay=hs.map some)(hi:hs[i]?=some h):atI (lay.map onD) (i:Int)=some (.int (h:Nat)):=z4b (by rw[e,yg,yg,hi];rfl)
abbrev JRn(n m a l:Nat)(r:D)(S:List Nat)(kvs rw_:List (Nat×Nat))(O:Mem):Nat->M.Loc->Mem->Prop:=λi J O'=>∃x4 x5:Option D,J=[some (.loc n),some r,some (.loc a),some (.tup [.str "fits",.loc l]),x4,x5]/\KB [n,m] O O'/\Sh O' n m r (zJe kvs (rw_.take i))
def zyv{R':List Nat}{ts':List (Nat×Nat)}{ex:yt->List (yt×D)->Mem->Prop}(h:Rl R' ts')(s:Sh O n m r kvs)(K:Td kvs S)(hS:∀x∈S,x<10^60)
 (qf:∀(T:List Nat)(l:Nat)(O':Mem),T.Sublist (yw S.length)->zWd R' (zng R' ts' S) T=true->zsc R' (zng R' ts' S) T=none->tm O O'->O.length<=l->O'[l]?=some (.lst (nat (T.map λi=>S.getD i 0)))->ex "Full" [("some",.loc l)] O')
 (q:∀(hs:List Nat)(O':Mem),hs.length=S.length->Tc R' (zng R' ts' S) (hs.map some)->KB [n,m] O O'->Sh O' n m (rlN R' ts') (zJe kvs (S.zip hs))->Q .non O'):WXr z6d [.loc n,rlN R' ts'] O Q ex:=by
 have hf:=s.few;have hl:=K.len;have hK:(zng R' ts' S).length=S.length:=by rw[length_map]
 have hcc:Yo (.str ("crowd":yt)) (.str ("crowd":yt))=true:=by decide +kernel
 have hfc:Yo (.str ("fits":yt)) (.str ("crowd":yt))=false:=by decide +kernel
 refine zFz rfl ?_;show WXs z5d [some (.loc n),some (rlN R' ts'),none,none,none,none] O _ _ _;unfold z5d;refine zzg (zPu (zob (zw (zTc (zd rfl ⟨n,_,rfl,s.at_,zKe _ m,zx (zjc s K ?_)⟩)))));have e0:(O++[tE.lst (nat S)])[O.length]?=some (.lst (nat S)):=zA;have k0:tm O (O++[tE.lst (nat S)]):=tm.app;generalize O++[tE.lst (nat S)]=O0 at e0 k0;refine zzg (zPu (zob (zw (ze (zw (ze (zd rfl (ze (zd rfl (zx (z6n h e0 (by omega) λO1 k1=>zx ?_)))))))))));have k01:=k0.trans k1;refine zsu (L:=30) (h.wb (by omega)) (by omega) (λlay l O2 rt hsm k2 g2 e2=>?_) (λT l O2 sb hc hsp k2 g2 e2=>?_)
 ·refine zzg (zgz (zO (zq (zq (zd rfl (w_c (zic rfl rfl (w_c (zDj ⟨_,rfl,λhb=>?_,λ_=>zPu (zlb ?_)⟩)))))))))
  ·rw[hfc]at hb;cases hb
  have hlay:lay.length=S.length:=by rw[rt.len,hK]
  have elay:lay=(lay.map λo=>o.getD 0).map some:=by
   rw[map_map];refine ext_getElem? λi=>?_;rw[yg]
   by_cases hi:i<lay.length
   ·have:=hsm i (by omega);rw[getD_eq_getElem?_getD]at this
    cases e:lay[i]? with
    |none=>rfl
    |some o=>
     rw[e]at this
     cases o with
     |none=>cases this
     |some v=>rfl
   ·rw[Yd (by omega)];rfl
  have hhs:(lay.map λo=>o.getD 0).length=S.length:=by rw[length_map,hlay]
  have k02:=k01.trans k2;have s2:=s.keep k02;have ea:=k2 _ _ (k1 _ _ e0);have q':=q (lay.map λo=>o.getD 0);generalize (lay.map λo=>o.getD 0)=hs at hhs elay q';have rt':Tc R' (zng R' ts' S) (hs.map some):=by rw[<-elay];exact rt
  refine zPu (zE (zxt (zd rfl (zd rfl ⟨n,_,rfl,s2.at_,by simp[fsD],?_⟩))));have h2:zvj "kept_rule" (rlN R' ts') (fsD r m)=fsD (rlN R' ts') m:=by simp only[zvj,if_true]
  rw[h2];have hne:=s2.ne;have kn:KB [n,m] O2 (O2.set n (.ins "Shelf" (fsD (rlN R' ts') m))):=KB.refl.set (.inl (by simp));have s3:Sh (O2.set n (.ins "Shelf" (fsD (rlN R' ts') m))) n m (rlN R' ts') kvs:=⟨z0y s2.at_,by rw[yL hne];exact s2.dc,s2.nd,s2.few⟩
  have al:O.length≠n:=yW (zC s.at_);have am:O.length≠m:=yW (zC s.dc);have ln:l≠n:=by have:=zC s.at_;have:=k01.len;omega
  have lm:l≠m:=by have:=zC s.dc;have:=k01.len;omega
  have ea3:=kn.at_ _ _ (by simp;exact⟨al,am⟩) ea;have el3:=kn.at_ _ _ (by simp;exact⟨ln,lm⟩) e2;have k03:KB [n,m] O (O2.set n (.ins "Shelf" (fsD (rlN R' ts') m))):=(KB.of_keep k02).trans kn;generalize O2.set n (.ins "Shelf" (fsD (rlN R' ts') m))=O3 at s3 ea3 el3 k03;have zl:(S.zip hs).length=S.length:=by rw[List.length_zip,hhs,Nat.min_self]
  have zk:∀x∈(S.zip hs).map (·.1),x∈S:=λx hx=>by
   obtain⟨p,hp,rfl⟩:=List.mem_map.mp hx;exact(of_mem_zip hp).1
  refine zbf (zVj (zd rfl (.inr (.inr ⟨_,_,rfl,ea3,?_⟩))));rw[zIt];refine zJb (JRn n m O.length l (rlN R' ts') S kvs (S.zip hs) O3) ⟨_,_,rfl,.refl,s3⟩ ?_ ?_ ?_
  ·rintro i J O4 ⟨x4,x5,rfl,k4,s4⟩;exact Th.mpr (k4.at_ _ _ (by simp;exact⟨al,am⟩) ea3)
  ·rintro i x J O4 hx ⟨x4,x5,rfl,k4,s4⟩;rw[yg,Xx]at hx
   cases hp:S[i]? with
   |none=>rw[hp]at hx;cases hx
   |some key=>
    rw[hp]at hx;have hi:i<hs.length:=by rw[hhs];exact(List.getElem?_eq_some_iff.mp hp).1
    obtain⟨v,hv⟩:∃v,hs[i]?=some v:=⟨_,yq hi⟩
    have hz:(S.zip hs)[i]?=some (key,v):=by rw[List.getElem?_zip_eq_some];exact⟨hp,hv⟩
    simp only[xE,xm,Nat.zero_add]at hx;subst hx;refine zkq (zsg (zud (zsg (zud (zxo ?_)))));unfold zwg;refine zNj (zq (zq (zd rfl (w_c (zic rfl rfl (zd rfl (zic (zD (k4.at_ _ _ (by simp;exact⟨ln,lm⟩) el3)) (zgA elay hv) ?_)))))));refine zLr (z7l (zd rfl ⟨n,_,.loc m,rfl,s4.at_,zoe _ m,?_⟩));have ht:(S.zip hs).take (i+1)=(S.zip hs).take i++[(key,v)]:=by rw[take_add_one,hz];rfl
    have ekv:=z5o kvs ((S.zip hs).take i) (key,v);rw[<-ht]at ekv;refine zd rfl ⟨m,_,_,rfl,rfl,s4.dc,?_,_,_,rfl,k4.trans (KB.refl.set (.inl (by simp))),?_⟩
    ·have:=s4.few;unfold dkN;rw[length_map];omega
    ·rw[zpq];show Sh _ _ _ _ (zJe kvs (List.take (i+1) (S.zip hs)));rw[ekv];refine s4.set (by rw[<-ekv];exact zBg _ _ s.nd) ?_;rw[<-ekv];refine yF (z9q (A:=S) s.nd (λx hx=>K.pm.mem_iff.mpr hx) λx hx=>?_) (by omega);obtain⟨y,hy,rfl⟩:=List.mem_map.mp hx;exact zk _ (List.mem_map.mpr ⟨y,List.mem_of_mem_take hy,rfl⟩)
  ·rintro J O4 ⟨x4,x5,rfl,k4,s4⟩;rw[length_map,List.length_zipIdx,<-zl,take_length]at s4;exact q' O4 hhs rt' (k03.trans k4) s4
 ·refine zzg (zgz (zO (zq (zq (zd rfl (w_c (zic rfl rfl (w_c (zDj ⟨_,rfl,λ_=>?_,λhb=>?_⟩)))))))))
  ·rw[hK]at sb;have lT:T.length<=S.length:=by have:=sb.length_le;rw[length_range]at this;exact this
   have hT:∀i∈T,i<S.length:=λi hi=>List.mem_range.mp (sb.subset hi);refine zrt (ze (zBl (zQc (zq (zd rfl (w_c (zic rfl rfl (.inr (.inr ⟨_,_,rfl,e2,zOb (by rw[length_map];omega),?_⟩)))))))));have ea:=k2 _ _ (k1 _ _ e0);refine zye (λ(x:Nat)=>D.int x) T (λi=>D.int (S.getD i 0:Nat)) (λO' k=>z5 e2 k) (λi hi O' kp=>?_) (λO' kp=>?_)
   ·refine zud ?_;unfold zFg;exact zq (zd rfl (zd rfl (zic (zD (kp _ _ ea)) (zyi (hT i hi)) ⟨rfl,kp,kp⟩)))
   ·have e:(T.map λi=>D.int (S.getD i 0:Nat))=nat (T.map λi=>S.getD i 0):=by rw[zRg]
    rw[e];refine zx ⟨_,_,rfl,zA,by rw[length_map];omega,λx hx=>?_,?_⟩
    ·obtain⟨i,hi,rfl⟩:=List.mem_map.mp hx;have:=hT i hi;rw[getD_eq_getElem?_getD,yq this,xT];exact hS _ (getElem_mem this)
    ·refine qf T _ _ sb hc hsp (((k01.trans k2).trans kp.to).trans tm.app) ?_ zA;have:=(k01.trans (k2.trans kp)).len;simp;omega
  ·rw[hcc]at hb;cases hb
structure WH(η:FH)(c:yt)(fs:List (yt×D))(J:M.Loc)(O:Mem)(nx:M.Loc->Mem->Prop)(rt:D->Mem->Prop):Prop where
 ex:∃o,η c fs J O=some o/\z6B nx rt (λ_ _ _=>False) o
section
variable {p q:FS}{i:Nat}{tb:List (yt×Bool)}{η:FH}{c:yt}{fs:List (yt×D)}{J:M.Loc}{O:Mem}{nx:M.Loc->Mem->Prop}{rt:D->Mem->Prop}{bk ct:M.Loc->Mem->Prop}{ex:yt->List (yt×D)->Mem->Prop}
def zMz(h:WXs p J O nx rt (λc fs O'=>WH η c fs J O' nx rt)):WS (zQt p η) J O nx rt bk ct:=by
 obtain⟨o,e,k⟩:=h
 cases o with
 |next J' O'=>exact⟨.next J' O',by simp only[zQt,e],k⟩
 |ret d O'=>exact⟨.ret d O',by simp only[zQt,e],k⟩
 |brk _ _=>exact k.elim
 |cont _ _=>exact k.elim
 |exc c fs O'=>
  obtain⟨o,e3,k⟩:=k
  cases o with
  |next J' O2=>exact⟨.next J' O2,by simp only[zQt,e,e3],k⟩
  |ret d O2=>exact⟨.ret d O2,by simp only[zQt,e,e3],k⟩
  |brk _ _=>exact k.elim
  |cont _ _=>exact k.elim
  |exc _ _ _=>exact k.elim
def zyC(ht:tb.lookup c=some true)(h:WS q (J.set i (some (.loc O.length))) (O++[.exc c fs]) (λJ' O'=>nx (J'.set i none) O') rt (λ_ _=>False) (λ_ _=>False)):WH (hAs i tb q η) c fs J O nx rt:=by
 obtain⟨o,e,k⟩:=h
 cases o with
 |next J' O2=>exact⟨.next _ O2,by simp only[hAs,ht,e,behind],k⟩
 |ret d O2=>exact⟨.ret d O2,by simp only[hAs,ht,e,behind],k⟩
 |brk _ _=>exact k.elim
 |cont _ _=>exact k.elim
 |exc _ _ _=>exact k.elim
def z6w(ht:tb.lookup c=some true)(h:WS q J O nx rt (λ_ _=>False) (λ_ _=>False)):WH (zSk tb q η) c fs J O nx rt:=by
 obtain⟨o,e,k⟩:=h
 cases o with
 |next J' O2=>exact⟨.next _ O2,by simp only[zSk,ht,e],k⟩
 |ret d O2=>exact⟨.ret d O2,by simp only[zSk,ht,e],k⟩
 |brk _ _=>exact k.elim
 |cont _ _=>exact k.elim
 |exc _ _ _=>exact k.elim
def zLx(ht:tb.lookup c=some false)(h:WH η c fs J O nx rt):WH (zSk tb q η) c fs J O nx rt:=by
 obtain⟨o,e,k⟩:=h;exact⟨o,by simp only[zSk,ht,e],k⟩
def zQA{F:FX}(h:WA G J O λds O1=>WXr F ds O1 (λd O'=>nx (J.set i (some d)) O') ex):WXs (z1x i F G) J O nx rt ex:=by
 obtain⟨ds,O1,e1,⟨d,O',e2,k⟩|⟨c,fs,O',e2,k⟩⟩:=h
 ·exact⟨.next _ O',by simp[e1,e2],k⟩
 ·exact⟨.exc c fs O',by simp[e1,e2],k⟩
end
structure Tg(R:List Nat)(ts kvs:List (Nat×Nat)):Prop where
 home:∀p∈kvs,p.2∈ts.map (hmN R.length p.1)
 room:∀h,(kvs.map λp=>some p.2).count (some h)<=R.getD h 0
def zDf:∀{kvs:List (Nat×Nat)},(kvs.map (·.1)).Nodup->∀p∈kvs,kvs.lookup p.1=some p.2
 |[],_,p,hp=>absurd hp (by simp)
 |(j,v)::kvs,nd,p,hp=>by
  rw[map_cons,nodup_cons]at nd;rw[lookup_cons];rcases List.mem_cons.mp hp with rfl|hp
  ·rw[beq_self_eq_true]
  ·have:p.1≠j:=λe=>nd.1 (e▸List.mem_map.mpr ⟨p,hp,rfl⟩);rw[beq_eq_false_iff_ne.mpr this];exact zDf nd.2 p hp
def z9v:kvs.lookup x=some h->(x,h)∈kvs:=by
 induction kvs with
 |nil=>intro e;cases e
 |cons p kvs ih=>
  intro e;rw[lookup_cons]at e
  by_cases hx:x=p.1
  ·subst hx;rw[beq_self_eq_true]at e;cases e;exact mem_cons_self
  ·rw[beq_eq_false_iff_ne.mpr hx]at e;exact mem_cons_of_mem _ (ih e)
def zNn(nd:(kvs.map (·.1)).Nodup)(h:A.Perm (kvs.map (·.1))):(A.map λx=>kvs.lookup x).Perm (kvs.map λp=>some p.2):=by
 have e:(kvs.map λp=>some p.2)=(kvs.map (·.1)).map λx=>kvs.lookup x:=by
  rw[map_map];exact map_congr_left λp hp=>(zDf nd p hp).symm
 rw[e];exact h.map _
def Tg.lay(r:Tg R ts kvs)(nd:(kvs.map (·.1)).Nodup)(h:A.Perm (kvs.map (·.1))):Tc R (zng R ts A) (A.map λx=>kvs.lookup x) where
 len:=by rw[length_map,length_map]
 home:=λk v e=>by
  rw[yg]at e
  cases ea:A[k]? with
  |none=>rw[ea]at e;cases e
  |some x=>
   rw[ea]at e;have e':kvs.lookup x=some v:=by simpa using e
   rw[getD_eq_getElem?_getD,yg,ea];exact r.home _ (z9v e')
 room:=λv=>by rw[(zNn nd h).count_eq];exact r.room v
def Tg.of(r:Tc R (zng R ts A) (A.map λx=>kvs.lookup x))(nd:(kvs.map (·.1)).Nodup)(h:A.Perm (kvs.map (·.1))):Tg R ts kvs where
 home:=λp hp=>by
  have hm:p.1∈A:=h.mem_iff.mpr (List.mem_map.mpr ⟨p,hp,rfl⟩);obtain⟨i,hi⟩:=List.mem_iff_getElem?.mp hm;have:=r.home i p.2 (by rw[yg,hi];simp[zDf nd p hp]);rw[getD_eq_getElem?_getD,yg,hi]at this;exact this
 room:=λv=>by rw[<-(zNn nd h).count_eq];exact r.room v
def zUy(row:List (Nat×Nat)):∀kvs:List (Nat×Nat),x∉row.map (·.1)->(zJe kvs row).lookup x=kvs.lookup x:=by
 induction row with
 |nil=>intro kvs _;rfl
 |cons p row ih=>
  intro kvs hx;rw[map_cons,mem_cons,not_or]at hx;show(zJe (zgo kvs p.1 p.2) row).lookup x=_;rw[ih _ hx.2,zPi,if_neg hx.1]
def zAv(nd:A.Nodup)(row:List (Nat×Nat)):∀(kvs:List (Nat×Nat)),(∀p∈row,p.1<A.length)->zre (A.map λx=>kvs.lookup x) row=A.map λx=>(zJe kvs (zhr A row)).lookup x:=by
 induction row with
 |nil=>intro kvs _;rfl
 |cons p row ih=>
  intro kvs hm;have hp:=hm p mem_cons_self
  have e:(A.map fun x=>kvs.lookup x).set p.1 (some p.2)=A.map fun x=>(zgo kvs (A.getD p.1 0) p.2).lookup x:=by
   refine ext_getElem? λi=>?_;rw[yg]
   by_cases hi:i=p.1
   ·subst hi;rw[yO (by rw[length_map];exact hp),yq hp];simp[zPi,hp]
   ·rw[yL (yV hi),yg]
    cases ea:A[i]? with
    |none=>rfl
    |some x=>
     have hx:x≠A.getD p.1 0:=by
      intro ex;have h1:A[p.1]?=some x:=by rw[ex,getD_eq_getElem?_getD,yq hp];rfl
      have hi':=(List.getElem?_eq_some_iff.mp ea).1;exact hi ((List.getElem?_inj hi' nd).mp (by rw[ea,h1]))
     simp only[xE];rw[zPi,if_neg hx]
  show zre ((A.map λx=>kvs.lookup x).set p.1 (some p.2)) row=_;rw[e];exact ih _ λq hq=>hm q (mem_cons_of_mem _ hq)
def zYv :∀{hs:List Nat} (kvs:List (Nat×Nat)),A.Nodup->hs.length=A.length->(A.map λx=>(zJe kvs (A.zip hs)).lookup x)=hs.map some:=by
 induction A with
 |nil=>intro hs kvs _ hl;cases hs with
  |nil=>rfl
  |cons _ _=>cases hl
 |cons x A ih=>
  intro hs kvs nd hl
  cases hs with
  |nil=>cases hl
  |cons v hs=>
   rw[nodup_cons]at nd
   have hx:x∉(A.zip hs).map (·.1):=λhm=>by
    obtain⟨p,hp,e⟩:=List.mem_map.mp hm;exact nd.1 (e▸(of_mem_zip hp).1)
   have e2:=ih (hs:=hs) (zgo kvs x v) nd.2 (by simpa using hl);show(zJe (zgo kvs x v) (A.zip hs)).lookup x::(A.map λx_1=>(zJe (zgo kvs x v) (A.zip hs)).lookup x_1)=some v::hs.map some;rw[e2,zUy _ _ hx,zPi,if_pos rfl]
def zipp{hs:List Nat}(hl:hs.length=A.length):(A.zip hs).map (·.1)=A:=by
 rw[List.map_fst_zip (by omega)]
def Tg.fits(r:Tg R ts kvs)(nd:(kvs.map (·.1)).Nodup)(h:A.Perm (kvs.map (·.1))):zDp R (zng R ts A):=by
 refine⟨_,r.lay nd h,λk hk=>?_⟩;rw[length_map]at hk;have hm:A[k]∈kvs.map (·.1):=h.mem_iff.mp (getElem_mem hk);obtain⟨p,hp,e⟩:=List.mem_map.mp hm;rw[getD_eq_getElem?_getD,yg,yq hk];simp only[xE,xT];rw[<-e,zDf nd p hp];rfl
section
variable {R:List Nat}{ts kvs row:List (Nat×Nat)}{S:List Nat}{k:Nat}
def zIi(h0:kvs.lookup k=none):(S.map λx=>kvs.lookup x)++[none]=(S++[k]).map λx=>kvs.lookup x:=by rw[map_append,map_cons,map_nil,h0]
def zAt(r:Tg R ts kvs)(nd:(kvs.map (·.1)).Nodup)(K:Td kvs S)(h0:kvs.lookup k=none)(c:Can R ts kvs S k row):Tg R ts (zJe kvs (zhr (S++[k]) row)):=by
 have hlen:(S++[k]).length=S.length+1:=by simp
 have hm:∀p∈row,p.1<(S++[k]).length:=λp hp=>by
  have:=(c.1.mem p hp).1;rw[length_map]at this;exact this
 have r1:Tc R (zng R ts (S++[k])) ((S++[k]).map λx=>kvs.lookup x):=by
  have r0:=r.lay nd K.pm;rw[<-zIi h0];refine⟨by simp,λi v e=>?_,λv=>?_⟩
  ·by_cases hi:i<S.length
   ·rw[yr (by simpa using hi)]at e;have:=r0.home i v e;rw[getD_eq_getElem?_getD,yg]at this ⊢;rw[yr hi];exact this
   ·rw[yM (by simp;omega)]at e;have:=mem_of_getElem? e;simp at this
  ·rw[count_append];have:=r0.room v;simp;exact this
 have r2:=zSh r1 (by rw[<-zIi h0];exact c.1) (by rw[<-zIi h0];simp) (by rw[<-zIi h0];exact c.2);rw[zAv (K.nd h0) row kvs hm]at r2;refine Tg.of r2 (zBg _ _ nd) ((xB (K.nd h0) (zBg _ _ nd)).mpr λx=>?_);rw[zki K c.1];simp
end
def zZw(f:Nat)(R:List Nat)(ts:List (Nat×Nat)):toP O (f+4) (rlN R ts)=some (.tuple [Enc.p R,Enc.p (ts.map λt=>[t.1,t.2])]):=by
 have h4:toP O (f+3) (tn R)=some (Enc.p R):=Enc.rd O (f+1) R
 have h5:toP O (f+3) (.tup (ts.map pr2))=some (Enc.p (ts.map λt=>[t.1,t.2])):=by
  have e:(D.tup (ts.map pr2))=Enc.d (ts.map λt=>[t.1,t.2]):=by
   show _=D.tup ((ts.map λt=>[t.1,t.2]).map Enc.d);rw[map_map];rfl
  rw[e];exact Enc.rd O f (ts.map λt=>[t.1,t.2])
 show([tn R,D.tup (ts.map pr2)].mapM (toP O (f+3))).bind (λps=>some (PyData.tuple ps))=_;simp only[mapM_cons,List.mapM_nil,h4,h5];rfl
def zAm(r:D)(m:Nat)(x:yt)(h1:(x == "kept_rule")=false)(h2:(x == "nest_of")=false):(fsD r m).lookup x=none:=by
 simp only[fsD,lookup_cons,h1,h2,lookup_nil]
def zxw(r:D)(m:Nat):(fsD r m).lookup ("put":yt)=none:=zAm r m _ (by decide +kernel) (by decide +kernel)
def z2r(r:D)(m:Nat):(fsD r m).lookup ("renew":yt)=none:=zAm r m _ (by decide +kernel) (by decide +kernel)
def zsm(r:D)(m:Nat):(fsD r m).lookup ("where":yt)=none:=zAm r m _ (by decide +kernel) (by decide +kernel)
def zXu(r:D)(m:Nat):(fsD r m).lookup ("left":yt)=none:=zAm r m _ (by decide +kernel) (by decide +kernel)
def zIp(r:D)(m:Nat):(fsD r m).lookup ("rule":yt)=none:=zAm r m _ (by decide +kernel) (by decide +kernel)
def zUs(r:D)(m:Nat):(fsD r m).lookup ("nest":yt)=none:=zAm r m _ (by decide +kernel) (by decide +kernel)
def zwx{ψ:FA}(h:WA ψ J O λds O1=>∃r,ds=[r]/\∀n m O',tm O1 O'->O1.length<=n->O1.length<=m->n<O'.length->m<O'.length->Sh O' n m r []->Q (.loc n) O'):WE (zvs "Shelf" z8b ψ) J O Q:=by
 obtain⟨ds,O1,e,r,rfl,q⟩:=h;refine zqz ⟨_,O1,e,zWx zA ⟨rfl,?_⟩⟩;refine q O1.length (O1++[tE.ins "Shelf" []]).length _ (λi o ei=>?_) (yi _) (by simp) (by simp) (by simp) zsz;exact tm.app _ _ (zhb (tm.app _ _ ei) (yW (zC ei)))
def zBm{S:List Int}{b:Nat}(hS:S.length<=1000)(ga:O[a]?=some (.lst (S.map .int)))(gb:O[b]?=some (.lst (S.map .int)))(q:∀O',tm O O'->Q (.bl true) O'):WF z2b [.loc a,.loc b] O Q:=by
 refine zFb rfl ?_;show WS z8d [some (.loc a),some (.loc b)] O _ _ _ _;unfold z8d;refine zE (zwh (zWi (zFh (zO (zw (ze (zd rfl (ze (w_c (zx (z2w ga ⟨_,rfl,λ_=>?_,λh=>(by cases h)⟩)))))))))));refine zO (zq (zd rfl (zd rfl (zQy S S ga gb ⟨_,rfl,λh=>?_,λ_=>zlb ?_⟩))))
 ·simp at h
 refine zwb (zq (zw (ze (zBl (zQc (zd rfl (.inr (.inr ⟨a,_,rfl,ga,zOb (by rw[length_map];omega),?_⟩))))))));refine z8e D.int S D.int (λ_=>false) (λO' k=>z5 ga k) (λk hk O' kp=>?_) (λO' kp=>?_)
 ·refine zud ?_;unfold zMg zQg;refine zWi (zFh (zO (zw (ze (zd rfl (ze (w_c (zx (z9z ⟨_,rfl,λ_=>?_,λh=>(by cases h)⟩)))))))));exact zO (zw (ze (zd rfl (ze (w_c (zx (zOx ⟨_,rfl,rfl,kp,λh=>(by cases h)⟩)))))))
 ·refine zx (z7e (zD zA) (w_c (zuj ?_)));have e:(S.filter λ_=>false)=[]:=by simp
  rw[e];exact q _ kp.to
def zzl(S:List Nat):nat S=(S.map λ(k:Nat)=>(k:Int)).map D.int:=by rw[map_map];rfl
def zdn{b:Nat}(hS:S.length<=1000)(ga:O[a]?=some (.lst (nat S)))(gb:O[b]?=some (.lst (nat S)))(q:∀O',tm O O'->Q (.bl true) O'):WF z2b [.loc a,.loc b] O Q :=
 zBm (S:=S.map λ(k:Nat)=>(k:Int)) (by simpa using hS) (by rw[<-zzl];exact ga) (by rw[<-zzl];exact gb) q
def zUk(h:Rl R ts)(q:∀l O',tm O O'->O.length<=l->O'[l]?=some (.lst (nat (ts.map (hmN R.length k))))->Q (.loc l) O'):WF zYb [rlN R ts,.int k] O Q:=by
 have hrl:=h.rl;have htl:=h.tl;refine zFb rfl ?_;show WS zFe [some (rlN R ts),some (.int k),none,none,none] O _ _ _ _;unfold zFe;refine zE (zob (zni (zx ?_)));refine zE (zbf (zQc (zq (zd rfl (w_c (zic rfl (show atI [tn R,.tup (ts.map pr2)] 1=some (.tup (ts.map pr2)) from rfl) (.inl ⟨_,rfl,?_⟩)))))));refine zJb (λi J O'=>∃x3 x4:Option D,J=[some (rlN R ts),some (.int k),some (.loc O.length),x3,x4]/\tm O O'/\O'[O.length]?=some (.lst (nat ((ts.take i).map (hmN R.length k))))) ⟨_,_,rfl,tm.app,zA⟩ (λ_ _ _ _=>rfl) ?_ ?_
 ·rintro i x J O' hx ⟨x3,x4,rfl,kp,e⟩;rw[yg]at hx
  cases ht:ts[i]? with
  |none=>rw[ht]at hx;cases hx
  |some t=>
   rw[ht]at hx;cases hx;have hb:=h.tn t (mem_of_getElem? ht);have hi:=(List.getElem?_eq_some_iff.mp ht).1;refine zkq (zsg (zud (zsg (zud (zxo ?_)))));unfold zPh;refine zJi (z9j (zd rfl ⟨_,_,rfl,e,ze (zq (zq (zq (zq (zd rfl (zd rfl (zlm (zgv (by omega) (by omega)) (zd rfl (zth (w_c (zhk (by decide) (zw (ze (zq (zd rfl (w_c (zic rfl (show atI [tn R,.tup (ts.map pr2)] 0=some (tn R) from rfl) (zx (z7e rfl (zhk ?_ (zx (zfi e ?_ ?_))))))))))))))))))))))⟩))
   ·rw[length_map];omega
   ·rw[length_map,length_map,length_take];omega
   ·refine⟨_,_,rfl,?_,?_⟩
    ·refine(KB.keep ((KB.of_keep kp).set (L:=[]) (.inr (yi _))))
    ·rw[zY e,take_add_one,ht,map_append,zhd,length_map];have e1:((t.1:Int)*(k:Int)+(t.2:Int))%10007%((R.length:Nat):Int)=((hmN R.length k t:Nat):Int):=by unfold hmN;push_cast;rfl
     rw[e1];rfl
 ·rintro J O' ⟨x3,x4,rfl,kp,e⟩;rw[length_map,take_length]at e;exact zwb (zd rfl (q _ _ kp (yi _) e))
def zKw{kvl:List (Nat×Nat)}{x:D}(h:zyb O x=some (dkN kvl))(hp:S.Perm (kvl.map (·.1)))(hS:S.Pairwise (· < ·))(hl:kvl.length<64)(q:Q (.loc O.length) (O++[.lst (nat S)])):WF zWk [x] O Q:=by
 have e1:(dkN kvl).map (·.1)=(kvl.map (·.1)).map λ(k:Nat)=>(k:Int):=by unfold dkN;rw[map_map,map_map];rfl
 have e3:zEl ((dkN kvl).map (·.1))=S.map λ(k:Nat)=>(k:Int):=by
  rw[e1];refine zOc ((mergeSort_perm _ _).trans (hp.symm.map _)) (zXh _) ?_;rw[pairwise_map];exact hS.imp λh=>by omega
 have hl':(dkN kvl).length<64:=by unfold dkN;rw[length_map];exact hl
 refine⟨_,_,?_,q⟩;simp only[zWk,h,ym,decide_eq_true hl',cond_true,e3];rw[zzl]
def zJr(kvs:List (Nat×Nat)):zsh (dkN kvs)=kvs.map λp=>D.int (p.1:Nat):=by unfold zsh dkN;rw[map_map];rfl
section
variable {O:Mem}{n m dl:Nat}{R:List Nat}{ts kvs kvl:List (Nat×Nat)}{S:List Nat}{Q:D->Mem->Prop}
def Sh.kb{L:List Nat}(s:Sh O n m r kvs)(k:KB L O O')(h1:n∉L)(h2:m∉L):Sh O' n m r kvs:=⟨k.at_ _ _ h1 s.at_,k.at_ _ _ h2 s.dc,s.nd,s.few⟩
def Sh.nd_of(s:Sh O n m r kvs)(hd:zyb O (.loc dl)=some (dkN kvl)):n≠dl:=by
 rintro rfl;simp[s.at_]at hd
def zNo{kv:List (Int×D)}(hd:zyb O (.loc dl)=some kv)(k:tm O O'):zyb O' (.loc dl)=some kv:=by
 unfold zyb at hd;dsimp only at hd
 split at hd
 ·rename_i h;cases hd;exact zac (k _ _ h)
 ·rename_i h;cases hd;exact zhe (k _ _ h)
 ·cases hd
def zDu{a b:List (Option Nat)}(h:a.Perm b):zPd R a=zPd R b:=by
 unfold zPd;exact map_congr_left λh' _=>by rw[h.count_eq]
def zcy(nd:(kvs.map (·.1)).Nodup)(K:Td kvs S)(hp:kvl.Perm kvs)(h:Nat):(inN kvs S h).Perm ((kvl.filter λp=>decide (p.2=h)).map (·.1)):=by
 have nd':(kvl.map (·.1)).Nodup:=(hp.map _).nodup_iff.mpr nd
 have e:(kvl.filter λp=>decide (p.2=h)).map (·.1)=(kvl.map (·.1)).filter λx=>decide (kvs.lookup x=some h):=by
  rw[List.filter_map]
  congr 1
  refine filter_congr λp hm=>?_;have:=zDf nd _ (hp.mem_iff.mp hm);show decide (p.2=h)=decide (kvs.lookup p.1=some h);rw[this];exact decide_eq_decide.mpr (by simp)
 rw[e];exact(K.pm.trans (hp.map _).symm).filter _
abbrev JK1(n dl rl:Nat)(R:List Nat)(ts kvl:List (Nat×Nat))(O:Mem):Nat->M.Loc->Mem->Prop:=λi J O'=>∃x4 x5:Option D,J=[some (.loc n),some (rlN R ts),some (.loc dl),some (.loc rl),x4,x5,none]/\KB [rl] O O'/\O'[rl]?=some (.lst ((zPd R ((kvl.take i).map λp=>some p.2)).map .int))
def zzv{rl:Nat}{p:Nat×Nat}{x5:Option D}{bk ct:M.Loc->Mem->Prop}(h:Rl R ts)(s:Sh O' n m (rlN R ts) kvs)(r:Tg R ts kvs)(hp:kvl.Perm kvs)(hd:O'[dl]?=some (.dcf (dkN kvl)))(hi:kvl[i]?=some p)
 (e:O'[rl]?=some (.lst ((zPd R ((kvl.take i).map λp=>some p.2)).map .int))) (q:∀O2,KB [rl] O' O2->O2[rl]?=some (.lst ((zPd R ((kvl.take (i+1)).map λp=>some p.2)).map .int))->nx [some (.loc n),some (rlN R ts),some (.loc dl),some (.loc rl),some (.int (p.1:Nat)),some (.int (p.2:Nat)),none] O2) :
 WS zRd [some (.loc n),some (rlN R ts),some (.loc dl),some (.loc rl),some (.int (p.1:Nat)),x5,none] O' nx rt bk ct:=by
 have nd':(kvl.map (·.1)).Nodup:=(hp.map _).nodup_iff.mpr s.nd;have hm:=mem_of_getElem? hi;have hk:=zDf s.nd _ (hp.mem_iff.mp hm);have hhome:=r.home p (hp.mem_iff.mp hm)
 have hlt:p.2<R.length:=by
  obtain⟨t,_,et⟩:=List.mem_map.mp hhome;have:=h.rl;rw[<-et];exact Nat.mod_lt _ (by omega)
 unfold zRd;refine zE (zob (zq (zd rfl (zd rfl (zKs (zhe hd) (by rw[zVf,zDf nd' _ hm];rfl) ?_)))));refine zE (zwh (zWi (zO (zq (zw (zTc (zd rfl ⟨n,_,rfl,s.at_,z1q _ m,ze (zd rfl (zx (zlx s (w_c (zsr ⟨_,rfl,λ_=>?_,λhb=>?_⟩)))))⟩)))))))
 ·refine zWi (zO (zq (zw (zTc (zd rfl ⟨n,_,rfl,s.at_,zsm _ m,ze (zd rfl (zx (zmr s (zd rfl ?_))))⟩)))));rw[hk];refine zry ⟨_,rfl,λ_=>?_,λhb=>?_⟩
  ·refine zO (zq (zd rfl (zw (ze (zd rfl (ze (zd rfl (zx (zUk h λl O2 k2 g2 e2=>zri (zD e2) ⟨_,rfl,λhb=>?_,λ_=>zlb ?_⟩)))))))))
   ·rw[decide_eq_true hhome]at hb;cases hb
   ·have e':=k2 _ _ e;refine zNj (zq (zq (zd rfl (zd rfl (zic (zD e') (zMr hlt) (w_c (zas ?_)))))));refine zus (zd rfl (zd rfl ⟨_,_,_,rfl,rfl,e',⟨by omega,by simp[zPd];omega⟩,?_⟩));refine q _ ((KB.of_keep k2).set (.inl (by simp))) ?_;rw[zY e',yX,zxs hlt,take_add_one,hi];simp
  ·simp at hb
 ·rw[hk]at hb;cases hb
def zpw{rl:Nat}{x4 x6:Option D}{bk ct:M.Loc->Mem->Prop}(h:Rl R ts)(s:Sh O' n m (rlN R ts) kvs)(K:Td kvs S)(r:Tg R ts kvs)(hp:kvl.Perm kvs)(hd:O'[dl]?=some (.dcf (dkN kvl)))(hi:i<R.length)
 (e:O'[rl]?=some (.lst ((zPd R (kvl.map λp=>some p.2)).map .int))) (q:∀(x6:Option D) O2,tm O' O2->nx [some (.loc n),some (rlN R ts),some (.loc dl),some (.loc rl),x4,some (.int (i:Nat)),x6] O2) :
 WS zTd [some (.loc n),some (rlN R ts),some (.loc dl),some (.loc rl),x4,some (.int (i:Nat)),x6] O' nx rt bk ct:=by
 have nd':(kvl.map (·.1)).Nodup:=(hp.map _).nodup_iff.mpr s.nd;have hf:=s.few;have hlk:=hp.length_eq;have hl:=K.len;have pm:=zcy s.nd K hp i;unfold zTd;refine zE (zob (zw (ze (zBl (zTv (zd rfl ⟨dl,_,rfl,hd,zOb (by unfold zsh dkN;simp;omega),?_⟩))))));rw[zJr];refine z8e (λp:Nat×Nat=>D.int (p.1:Nat)) kvl (λp=>D.int (p.1:Nat)) (λp=>decide (p.2=i)) (λ_ _=>rfl) (λp hm O2 kp=>?_) (λO2 kp=>?_)
 ·refine zud ?_;unfold zbg;refine zO (zq (zq (zd rfl (zd rfl (zKs (zhe (kp _ _ hd)) (by rw[zVf,zDf nd' _ hm];rfl) (zd rfl (zuj ⟨_,rfl,?_,kp,λ_=>?_⟩)))))))
  ·apply Bool.eq_iff_iff.mpr;rw[decide_eq_true_iff,beq_iff_eq];omega
  ·unfold zig;exact zd rfl ⟨rfl,kp⟩
 ·have e1:((kvl.filter λp=>decide (p.2=i)).map λp=>D.int (p.1:Nat))=nat ((kvl.filter λp=>decide (p.2=i)).map (·.1)):=by rw[zRg]
  rw[e1]
  have hlen:((kvl.filter λp=>decide (p.2=i)).map (·.1)).length<64:=by
   rw[length_map];have:=Xl (λp:Nat×Nat=>decide (p.2=i)) kvl;omega
  refine zx (zhq zA pm (K.pw.filter _) hlen ?_);have k3:tm O' ((O2++[tE.lst (nat ((kvl.filter λp=>decide (p.2=i)).map (·.1)))])++[tE.lst (nat (inN kvs S i))]):=kp.to.to;have e3:((O2++[tE.lst (nat ((kvl.filter λp=>decide (p.2=i)).map (·.1)))])++[tE.lst (nat (inN kvs S i))])[(O2++[tE.lst (nat ((kvl.filter λp=>decide (p.2=i)).map (·.1)))]).length]?=some (.lst (nat (inN kvs S i))):=zA;generalize (O2++[tE.lst (nat ((kvl.filter λp=>decide (p.2=i)).map (·.1)))]).length=l3 at e3 ⊢;generalize (O2++[tE.lst (nat ((kvl.filter λp=>decide (p.2=i)).map (·.1)))])++[tE.lst (nat (inN kvs S i))]=O3 at k3 e3 ⊢;have s3:=s.keep k3;have hroom:=r.room i;have hcnt:(kvl.map λp=>some p.2).count (some i)=(kvs.map λp=>some p.2).count (some i):=(hp.map _).count_eq _;refine zwh (zWi (zO (zq (zq (zd rfl (zd rfl (zic (zD (k3 _ _ e)) (zMr hi) (w_c (zCj ⟨_,rfl,λ_=>?_,λhb=>?_⟩)))))))))
  ·refine zFh (zO (zw (ze (zw (zTc (zd rfl ⟨n,_,rfl,s3.at_,zUs _ m,ze (zd rfl (zx (zjy s3 K λl4 O4 k4 g4 e4=>ze (zd rfl (zx (zdn ?_ e4 (k4 _ _ e3) λO5 k5=>⟨_,rfl,λhb=>(by cases hb),λ_=>zlb (q _ _ (k3.trans (k4.trans k5)))⟩))))))⟩))))));have:(inN kvs S i).length<=S.length:=Xl _ _;omega
  ·have:=of_decide_eq_true hb;omega
def zoo(h:Rl R ts)(s:Sh O n m (rlN R ts) kvs)(r:Tg R ts kvs)(hp:kvl.Perm kvs)(hd:zyb O (.loc dl)=some (dkN kvl))(hne:dl≠m)(q:∀O',KB [dl] O O'->O'[dl]?=some (.dcf (dkN kvl))->Q (.bl true) O'):WF zBc [.loc n,rlN R ts,.loc dl] O Q:=by
 obtain⟨S,K⟩:=Td.ex s.nd;have hf:=s.few;have hlk:=hp.length_eq;have hl:=K.len;have hrl:=h.rl;have hn:=s.nd_of hd;refine zFb rfl ?_;show WS zDd [some (.loc n),some (rlN R ts),some (.loc dl),none,none,none,none] O _ _ _ _;unfold zDd;refine zE (zwh (zWi (zFh (zO (zw (ze (zw (zTc (zd rfl ⟨n,_,rfl,s.at_,zKe _ m,zx (zjc s K (ze (zw (ze (zd rfl (zx (zKw (zNo hd tm.app) (K.pm.trans (hp.map _).symm) K.pw (by omega) ?_)))))))⟩)))))))));refine zx (zdn (S:=S) (by omega) (tm.app _ _ zA) zA λO1 k1=>⟨_,rfl,λ_=>?_,λhb=>(by cases hb)⟩);have k01:tm O O1:=(tm.app.trans tm.app).trans k1;clear k1;have s1:=s.keep k01;refine zO (zq (zw (zTc (zd rfl ⟨n,_,rfl,s1.at_,zIp _ m,zx (zrr s1 (zd rfl (zJz (zZw 4 R ts) (zZw 4 R ts) ⟨_,rfl,λhb=>(by cases hb),λ_=>zlb ?_⟩)))⟩))));refine zE (zob (zw (ze (zq (zd rfl (w_c (zic rfl (show atI [tn R,.tup (ts.map pr2)] 0=some (tn R) from rfl) (zx (zbr rfl ?_)))))))));have k02:tm O (O1++[tE.lst (nat R)]):=k01.to;have e2:(O1++[tE.lst (nat R)])[O1.length]?=some (.lst (nat R)):=zA;have g2:O.length<=O1.length:=k01.len;generalize O1++[tE.lst (nat R)]=O2 at k02 e2 ⊢;generalize O1.length=rl at g2 e2 ⊢;have hd2:=zNo hd k02;have s2:=s.keep k02
 have hdl:dl<O.length:=by
  unfold zyb at hd;dsimp only at hd
  split at hd
  ·rename_i h;exact zC h
  ·rename_i h;exact zC h
  ·cases hd
 have hnl:n<O.length:=zC s.at_;have hml:m<O.length:=zC s.dc;refine zE (zbf (zlw (zd rfl ⟨dl,_,rfl,hd2,λO3 k3 e3=>?_⟩)));have s3:Sh O3 n m (rlN R ts) kvs:=s2.kb k3 (by simp;exact hn) (by simp;exact yV hne);have r3:O3[rl]?=some (.lst (nat R)):=k3.at_ _ _ (by simp;omega) e2;rw[zJr];refine zJb (JK1 n dl rl R ts kvl O3) ⟨_,_,rfl,.refl,by rw[r3];show _=some (tE.lst ((zPd R []).map .int));rw[<-zmy]⟩ (λ_ _ _ _=>rfl) ?_ ?_
 ·rintro i x J O' hx ⟨x4,x5,rfl,kp,e⟩;rw[yg]at hx
  cases hi:kvl[i]? with
  |none=>rw[hi]at hx;cases hx
  |some p=>
   rw[hi]at hx;cases hx;refine zud ?_;refine zzv (m:=m) (kvs:=kvs) (kvl:=kvl) h (s3.kb kp (by simp;omega) (by simp;omega)) r hp (kp.at_ _ _ (by simp;omega) e3) hi e λO4 k4 e4=>⟨_,_,rfl,kp.trans k4,e4⟩
 ·rintro J O4 ⟨x4,x5,rfl,k4,e4⟩;rw[length_map,take_length]at e4;have s4:Sh O4 n m (rlN R ts) kvs:=s3.kb k4 (by simp;omega) (by simp;omega);have d4:O4[dl]?=some (.dcf (dkN kvl)):=k4.at_ _ _ (by simp;omega) e3;have k04:KB [dl] O O4:=((KB.of_keep k02).trans k3).step k4 λi hi =>.inr (by rw[List.mem_singleton.mp hi];exact g2);refine zE (zbf (zIg (ze (zw (ze (zd rfl (zx (z7e (zD e4) (zx ?_)))))))));have ll:((zPd R (kvl.map λp=>some p.2)).map D.int).length=R.length:=by simp[zPd]
  rw[ll];refine⟨_,rfl,by omega,by omega,?_⟩;rw[yX];refine zJb (λi J O'=>∃x5 x6:Option D,J=[some (.loc n),some (rlN R ts),some (.loc dl),some (.loc rl),x4,x5,x6]/\tm O4 O') ⟨_,_,rfl,.refl⟩ (λ_ _ _ _=>rfl) ?_ ?_
  ·rintro i x J O' hx ⟨x5,x6,rfl,kp⟩;obtain⟨hi,rfl⟩:=zah hx;refine zud ?_;exact zpw (m:=m) (kvs:=kvs) (kvl:=kvl) (S:=S) h (s4.keep kp) K r hp (kp _ _ d4) hi (kp _ _ e4) λx6 O5 k5=>⟨_,_,rfl,kp.trans k5⟩
  ·rintro J O5 ⟨x5,x6,rfl,k5⟩;have s5:=s4.keep k5;refine zwb (zw (ze (zw (zTc (zd rfl ⟨n,_,rfl,s5.at_,zXu _ m,zx (z4u h s5 K λl6 O6 k6 g6 e6=>ze (zd rfl (zx ?_)))⟩)))));have el:zPd R (S.map λx=>kvs.lookup x)=zPd R (kvl.map λp=>some p.2):=zDu ((zNn s.nd K.pm).trans (hp.map _).symm);rw[el]at e6;refine zBm (by simp[zPd];omega) e6 (k6 _ _ (k5 _ _ e4)) λO7 k7=>?_;exact q _ (k04.trans (KB.of_keep (k5.trans (k6.trans k7)))) (k7 _ _ (k6 _ _ (k5 _ _ d4)))
end
structure S55(O:Mem)(n m:Nat)(R:List Nat)(ts kvs:List (Nat×Nat)):Prop where
 rl:Rl R ts
 sh:Sh O n m (rlN R ts) kvs
 rs:Tg R ts kvs
 bd:∀x∈kvs.map (·.1),x<10^60
section
variable {O O':Mem}{n m k a:Nat}{R:List Nat}{ts kvs:List (Nat×Nat)}{S:List Nat}{Q:D->Mem->Prop}
def S55.keep(s:S55 O n m R ts kvs)(k:tm O O'):S55 O' n m R ts kvs:=⟨s.rl,s.sh.keep k,s.rs,s.bd⟩
def S55.key(s:S55 O n m R ts kvs)(K:Td kvs S):∀x∈S,x<10^60:=λx hx=>s.bd x (K.pm.mem_iff.mp hx)
def zjw{ns:List Int}{pl:Nat}(hp:Tb ns O pl B)(hB:B<=100000)(ea:O[a]?=some (.lst (nat S)))(ha:a≠pl)(hS:S.length<=30)(hbd:∀x∈S,x<10^60)
 (q:∀(k:Nat)(O':Mem),k<10^60->KB [pl] O O'->Tb ns O' pl (B+2)->Q (.int (k:Nat)) O'):WF zkh [.loc pl,.loc a] O Q:=by
 refine zFb rfl ?_;show WS z5g [some (.loc pl),some (.loc a),none] O _ _ _ _;unfold z5g;refine zE (zob (zw (ze (zd rfl (ze (w_c (zx (zMc (s:=8) hp (by omega) (by decide) (by decide) λv1 O1 b1 k1 p1=>?_))))))));have e1:=k1.at_ _ _ (SH (yV ha)) ea
 have rest:∀O2,KB [pl] O O2->Tb ns O2 pl (B+1)->WS (zcb (sIf (z8 (zH gEq (zm 2) (fC (.int 3)))) (zgc (zB zJ (zh (zm 0) (zh (zH zhz (fC (.int 10)) (fC (.int 59))) zK)))) zVb) (zgc (zB zJ (zh (zm 0) (zh (fC (.int 40)) zK))))) [some (.loc pl),some (.loc a),some (.int (v1:Nat))] O2 (λ_ O'=>Q .non O') Q (λ_ _=>False) (λ_ _=>False):=λO2 k2 p2=>by
  have p59:((10:Int)^(59:Int).toNat)=100000000000000000000000000000000000000000000000000000000000:=by decide
  refine zE (zwh (zO (zq (zd rfl (w_c (zuj ⟨_,rfl,λ_=>?_,λ_=>zlb ?_⟩))))))
  ·refine zwb (zw (ze (zd rfl (ze (zq (w_c (w_c (zSz (by decide) (by decide) (by decide) (zx ?_)))))))));rw[p59];refine zGk p2 (by omega) (by omega) (by omega) λv O3 a3 b3 k3 _ p3=>?_;obtain⟨v,rfl⟩:=xn a3;exact q v O3 (by omega) (k2.trans k3) (p3.up (by omega))
  ·exact zwb (zw (ze (zd rfl (ze (w_c (zx (zMc (s:=40) p2 (by omega) (by decide) (by decide) λv O3 b3 k3 p3=>q v O3 (by omega) (k2.trans k3) (p3.up (by omega)))))))))
 refine zE (zwh (z1t (zO (zq (zd rfl (w_c (zCj ⟨_,rfl,λ_=>?_,λ_=>⟨λhb=>(by cases hb),λ_=>zlb (rest O1 k1 p1)⟩⟩)))))));refine zO (zq (zd rfl (zni (zx (zQy (α:=Nat) S [] (tm.app _ _ e1) zA ⟨_,rfl,λhb=>?_,λ_=>zlb (rest _ k1.app p1.app)⟩)))))
 have hne:0<S.length:=by
  rcases Nat.eq_zero_or_pos S.length with h0|h0
  ·rw[decide_eq_true (List.length_eq_zero_iff.mp h0)]at hb;cases hb
  ·exact h0
 have e2:(O1++[tE.lst []])[a]?=some (.lst (nat S)):=tm.app _ _ e1;have p2:=p1.app (g:=[tE.lst []]);have k2:KB [pl] O (O1++[tE.lst []]):=k1.app;generalize O1++[tE.lst []]=O2 at e2 p2 k2;have lS:((nat S).length:Int)=((S.length:Nat):Int):=by rw[length_map]
 refine zwb (zq (zd rfl (zw (ze (zd rfl (ze (zw (ze (zd rfl (zx (z7e (zD e2) (zx ?_))))))))))));rw[lS];refine zMc p2 (by omega) hne (by omega) λv O3 b3 k3 p3=>?_;have e3:=k3.at_ _ _ (SH (yV ha)) e2;refine zic (zD e3) (zyi b3) (q _ _ ?_ (k2.trans k3) p3);rw[getD_eq_getElem?_getD,yq b3,xT];exact hbd _ (getElem_mem b3)
def zfq{R':List Nat}{ts':List (Nat×Nat)}{hs:List Nat}(nd:(kvs.map (·.1)).Nodup)(K:Td kvs S)(hl:hs.length=S.length)(rt:Tc R' (zng R' ts' S) (hs.map some)):Tg R' ts' (zJe kvs (S.zip hs))/\S.Perm ((zJe kvs (S.zip hs)).map (·.1)):=by
 have ndS:S.Nodup:=K.pw.imp λh=>yu h
 have pm:S.Perm ((zJe kvs (S.zip hs)).map (·.1)):=by
  refine(xB ndS (zBg _ _ nd)).mpr λx=>?_;rw[zjo,zipp hl];exact⟨λh =>.inr h,λh=>h.elim (λh=>K.pm.mem_iff.mpr h) id⟩
 exact⟨Tg.of (A:=S) (by rw[zYv kvs ndS hl];exact rt) (zBg _ _ nd) pm,pm⟩
end
def zsx(row:List (Nat×Nat)):∀kvs:List (Nat×Nat),(dkN row).foldl (λkv p=>z5l kv p.1 p.2) (dkN kvs)=dkN (zJe kvs row):=by
 induction row with
 |nil=>exact λ_=>rfl
 |cons p row ih=>
  intro kvs;show(dkN row).foldl (λkv p=>z5l kv p.1 p.2) (z5l (dkN kvs) (p.1:Int) (.int (p.2:Nat)))=_;rw[zpq,ih];rfl
def zrw :∀pre:List (Nat×Nat),((pre++kvs).map (·.1)).Nodup->zJe pre kvs=pre++kvs:=by
 induction kvs with
 |nil=>intro pre _;simp[zJe]
 |cons p kvs ih=>
  intro pre nd
  have hn:p.1∉pre.map (·.1):=λhm=>by
   rw[map_append,nodup_append]at nd;exact nd.2.2 _ hm _ (by simp) rfl
  have e:zgo pre p.1 p.2=pre++[p]:=by unfold zgo;rw[if_neg hn]
  show zJe (zgo pre p.1 p.2) kvs=_;rw[e,ih (pre++[p]) (by simpa using nd)];simp
def zHy(nd:(kvs.map (·.1)).Nodup):z4B (dkN kvs)=dkN kvs:=by
 show(dkN kvs).foldl (λkv p=>z5l kv p.1 p.2) (dkN [])=_;rw[zsx,zrw [] (by simpa using nd)];rfl
def zlA(kvs:List (Nat×Nat)):(dkN kvs).length=kvs.length:=by unfold dkN;rw[length_map]
structure sw(O:Mem)(f:Nat)(ls:List Nat)(rows:List (List Nat)):Prop where
 at_:O[f]?=some (.lst (ls.map D.loc))
 len:ls.length=rows.length
 row:∀(j n:Nat)(r:List Nat),ls[j]?=some n->rows[j]?=some r->O[n]?=some (.lst (nat r))
def sw.keep{O:Mem}{f:Nat}{ls:List Nat}(h:sw O f ls rows)(k:tm O O'):sw O' f ls rows:=⟨k _ _ h.at_,h.len,λj n r a b=>k _ _ (h.row j n r a b)⟩
def zXe{lay:List (Option Nat)}{j:Nat}{a:Option Nat}(hk:k<lay.length):(lay.set k a).getD j none=if j=k then a else lay.getD j none:=by
 rw[getD_eq_getElem?_getD,getD_eq_getElem?_getD,List.getElem?_set]
 by_cases z:k=j
 ·subst z;rw[if_pos rfl,if_pos rfl,if_pos hk];rfl
 ·rw[if_neg z,if_neg (yV z)]
structure Moved(R:List Nat)(K:List (List Nat))(lay:List (Option Nat))(key:Nat)(met:List Nat)(TV:List (Option Nat)):Prop where
 len:TV.length=lay.length
 home:∀k h,TV.getD k none=some h->h∈K.getD k []
 last:∃e,e∉met/\lay.count (some e)<R.getD e 0/\∀h,TV.count (some h)+(if lay.getD key none=some h then 1 else 0)=lay.count (some h)+(if e=h then 1 else 0)
 laid:(TV.getD key none).isSome=true
 rest:∀k,k≠key->(TV.getD k none).isSome=(lay.getD k none).isSome
 keep:∀k,k≠key->(∀h,lay.getD k none=some h->h∈met)->TV.getD k none=lay.getD k none
structure SX(R:List Nat)(K:List (List Nat))(lay:List (Option Nat))(S met met':List Nat):Prop where
 sub:∀h∈met,h∈met'
 nd:met'.Nodup
 lt:∀h∈met',h<R.length
 SC:∀h∈S,h∈met'
 sD:∀h∈met',h∉met->R.getD h 0<=lay.count (some h)/\∀k,lay.getD k none=some h->∀x∈K.getD k [],x∈met'
def zwt{lay:List (Option Nat)}{key:Nat}(hk:key<lay.length)(hh:∀k h,lay.getD k none=some h->h∈K.getD k [])(hn:nest∈K.getD key [])(hm:nest∉met)(hr:lay.count (some nest)<R.getD nest 0):Moved R K lay key met (lay.set key (some nest)):=by
 refine⟨length_set ..,λk h e=>?_,⟨nest,hm,hr,λh=>?_⟩,?_,λk z=>?_,λk z _=>?_⟩
 ·rw[zXe hk]at e
  by_cases z:k=key
  ·rw[if_pos z]at e;cases e;rw[z];exact hn
  ·rw[if_neg z]at e;exact hh k h e
 ·have:=zkj (b:=some nest) hk rfl (some h);simp only[xm]at this;exact this
 ·rw[zXe hk,if_pos rfl];rfl
 ·rw[zXe hk,if_neg z]
 ·rw[zXe hk,if_neg z]
def zOs{lay TV:List (Option Nat)}{key other:Nat}{Tt:List Nat}(hk:key<lay.length)(hn:nest∈K.getD key [])(hm:nest∉met)(hs:∀h∈met,h∈Tt)(ho:lay.getD other none=some nest)(hp:∀h,lay.getD key none=some h->h∈met)(mv:Moved R K lay other Tt TV):Moved R K lay key met (TV.set key (some nest)):=by
 have hne:key≠other:=λz=>hm (hp nest (by rw[z];exact ho));have hk':key<TV.length:=by rw[mv.len];exact hk
 have hkeep:=mv.keep key hne λh e=>hs h (hp h e);obtain⟨e,he,hc,hcount⟩:=mv.last;refine⟨by rw[length_set,mv.len],λk h e=>?_,⟨e,λz=>he (hs e z),hc,λh=>?_⟩,?_,λk z=>?_,λk z hz=>?_⟩
 ·rw[zXe hk']at e
  by_cases z:k=key
  ·rw[if_pos z]at e;cases e;rw[z];exact hn
  ·rw[if_neg z]at e;exact mv.home k h e
 ·have h1:=zkj (b:=some nest) hk' hkeep (some h);have h2:=hcount h;rw[ho]at h2;omega
 ·rw[zXe hk',if_pos rfl];rfl
 ·rw[zXe hk',if_neg z]
  by_cases z2:k=other
  ·rw[z2,mv.laid,ho];rfl
  ·exact mv.rest k z2
 ·rw[zXe hk',if_neg z];have z2:k≠other:=λe=>hm (hz nest (by rw[e];exact ho));exact mv.keep k z2 λh e=>hs h (hz h e)
abbrev wL(R:List Nat)(wl:Nat):D:=.tup [tn R,.loc wl]
def sw.kb{O:Mem}{f:Nat}{ls L:List Nat}(h:sw O f ls rows)(k:KB L O O')(ap:∀x∈f::ls,x∉L):sw O' f ls rows:=⟨k.at_ _ _ (ap f (by simp)) h.at_,h.len,λj n r a b=>k.at_ _ _ (ap n (mem_cons_of_mem _ (mem_of_getElem? a))) (h.row j n r a b)⟩
def zmv{wl:Nat}{lay:List (Option Nat)}{ln:Nat}(hh:h<R.length)(hl:lay.length<=1000)(g:O[ln]?=some (.lst (lay.map onD)))(q:∀O',tm O O'->Q (.int ((R.getD h 0:Int)-(lay.count (some h):Nat))) O'):WF zmd [wL R wl,.loc ln,.int h] O Q:=by
 refine zFb rfl ?_;show WS zLf [some (wL R wl),some (.loc ln),some (.int h)] O _ _ _ _;unfold zLf;refine zwb (zq (zq (zq (zd rfl (w_c (zic rfl (show atI [tn R,D.loc wl] 0=some (tn R) from rfl) (zd rfl (z1s hh (zw (ze (zBl (zQc (zd rfl (.inr (.inr ⟨ln,_,rfl,g,zOb (by rw[length_map];omega),?_⟩)))))))))))))));refine z8e onD lay onD (λx=>decide (x=some h)) (λO' k=>z5 g k) (λx hx O' kp=>?_) (λO' kp=>?_)
 ·refine zud ?_;unfold zsi zAi;exact zO (zq (zd rfl (zd rfl (zct (α:=Option Nat) x (some h) ⟨_,rfl,rfl,kp,λ_=>zd rfl ⟨rfl,kp⟩⟩))))
 ·refine zx (z7e (zD zA) (zas ?_))
  have e:((lay.filter λx=>decide (x=some h)).map onD).length=lay.count (some h):=by
   rw[length_map,List.count_eq_length_filter]
   congr 1
   refine filter_congr λx _=>?_;rw[Bool.eq_iff_iff,decide_eq_true_iff,beq_iff_eq]
  rw[e];exact q _ kp.to
abbrev JU(wl:Nat)(R:List Nat)(K:List (List Nat))(lay:List (Option Nat))(key:Nat)(met:List Nat)(ln mn:Nat)(O:Mem):Nat->M.Loc->Mem->Prop:=λm J ν=>∃(Tt:List Nat)(x4 x5:Option D),J=[some (wL R wl),some (.loc ln),some (.int key),some (.loc mn),x4,x5]/\SX R K lay ((K.getD key []).take m) met Tt/\KB [ln,mn] O ν/\ν[ln]?=some (.lst (lay.map onD))/\ν[mn]?=some (.lst (nat Tt))
abbrev JV(wl:Nat)(R:List Nat)(K:List (List Nat))(lay:List (Option Nat))(key:Nat)(met Tt OS:List Nat)(h vl ln mn:Nat)(O:Mem):Nat->M.Loc->Mem->Prop:=λj J ν=>∃(sr:List Nat)(x5:Option D),J=[some (wL R wl),some (.loc ln),some (.int key),some (.loc mn),some (.int h),x5]/\((∀x∈Tt,x∈sr)/\h∈sr/\sr.Nodup/\(∀x∈sr,x<R.length)/\(∀o∈OS.take j,∀x∈K.getD o [],x∈sr)/\(∀x∈sr,x∉met->x≠h->R.getD x 0<=lay.count (some x)/\∀k,lay.getD k none=some x->∀y∈K.getD k [],y∈sr))/\KB [ln,mn] O ν/\ν[ln]?=some (.lst (lay.map onD))/\ν[mn]?=some (.lst (nat sr))/\ν[vl]?=some (.lst (nat OS))
def zwo{L wl:Nat}{ls:List Nat}{R:List Nat}{K:List (List Nat)}(w:Wb L R K)(hL:L<=60):∀(n:Nat) {lay:List (Option Nat)} {met:List Nat} {ln mn key:Nat} {O:Mem} {Q:D->Mem->Prop},sw O wl ls K->(∀x∈wl::ls,x∉[ln,mn])->key<K.length->lay.length=K.length->(∀k h,lay.getD k none=some h->h∈K.getD k [])->(∀h,lay.getD key none=some h->h∈met)->met.Nodup->(∀h∈met,h<R.length)->R.length<n+met.length->ln≠mn->O[ln]?=some (.lst (lay.map onD))->O[mn]?=some (.lst (nat met)) ->
 (∀(TV:List (Option Nat)) (O':Mem),Moved R K lay key met TV->KB [ln,mn] O O'->O'[ln]?=some (.lst (TV.map onD))->Q (.bl true) O')->(∀(met':List Nat)(O':Mem),SX R K lay (K.getD key []) met met'->KB [ln,mn] O O'->O'[ln]?=some (.lst (lay.map onD))->O'[mn]?=some (.lst (nat met'))->Q (.bl false) O')->WF (zHb n) [wL R wl,.loc ln,.int key,.loc mn] O Q
 |0,lay,met,ln,mn,key,O,Q,_,_,_,_,_,_,nd,hlt,hf,_,_,_,_,_=>by
  have:met.length<=(yw R.length).length:=zAb nd λh hh=>List.mem_range.mpr (hlt h hh);rw[length_range]at this;omega
 |n+1,lay,met,ln,mn,key,O,Q,gw,ap,hk,hlen,hh,hp,nd,hlt,hf,hne,gl,gm,q1,q2=>by
  have ih:=@zwo L wl ls R K w hL n;obtain⟨lk,hlk⟩:∃lk,ls[key]?=some lk:=⟨_,yq (by rw[gw.len];exact hk)⟩
  have glk:O[lk]?=some (.lst (nat (K.getD key []))):=gw.row key lk _ hlk (by rw[getD_eq_getElem?_getD,yq hk];rfl);have alk:=ap lk (mem_cons_of_mem _ (mem_of_getElem? hlk));have hkl:=w.kl;have hrl:=w.rl;have hlnl:=zC gl;have hmnl:=zC gm;refine zFb rfl ?_;show WS (zIc (zHb n)) [some (wL R wl),some (.loc ln),some (.int key),some (.loc mn),none,none] O _ _ _ _;unfold zIc;generalize zHb n=φ at ih ⊢;refine zE (zbf (zQc (zq (zq (zd rfl (w_c (zic rfl (show atI [tn R,D.loc wl] 1=some (D.loc wl) from rfl) (zd rfl (zic (zD gw.at_) (z4b (by rw[yg,hlk];rfl)) (.inr (.inr ⟨_,_,rfl,glk,?_⟩)))))))))));refine zJb (JU wl R K lay key met ln mn O) ⟨met,_,_,rfl,⟨λh hh=>hh,nd,hlt,by simp,λh h1 h2=>absurd h1 h2⟩,.refl,gl,gm⟩ (λ_ _ _ ⟨_,_,_,_,_,kν,_,_⟩=>Th.mpr (kν.at_ _ _ alk glk)) ?_ ?_
  ·rintro m z J ν hz ⟨Tt,x4,x5,rfl,st,kν,gν,hν⟩;rw[yg]at hz
   cases ey:(K.getD key [])[m]? with
   |none=>rw[ey]at hz;cases hz
   |some h=>
    rw[ey]at hz;cases hz;have hhk:=mem_of_getElem? ey;have hhR:=(w.key hk).2 h hhk;have ht:(K.getD key []).take (m+1)=(K.getD key []).take m++[h]:=by rw[take_succ,ey];rfl
    have hm1:Tt.length<=R.length:=by
     have:Tt.length<=(yw R.length).length:=zAb st.nd λx hx=>List.mem_range.mpr (st.lt x hx)
     rwa [length_range]at this
    have hmm:met.length<=Tt.length:=zAb nd st.sub;refine zud ?_;unfold zhg;refine zwh (zO (zq (zd rfl (zd rfl (zri (zD hν) ⟨_,rfl,λhin=>?_,λhin=>zlb ?_⟩)))))
    ·have hin:h∉Tt:=by simpa using hin
     have hin0:h∉met:=λz=>hin (st.sub h z);refine zE (zJi (z9j (zd rfl ⟨_,_,rfl,hν,ze (zd rfl (zx (zfi hν (by rw[length_map];omega) ?_)))⟩)));have k1:KB [ln,mn] O (ν.set mn (.lst (nat Tt++[.int h]))):=kν.set (.inl (by simp));have g1:(ν.set mn (.lst (nat Tt++[.int h])))[ln]?=some (.lst (lay.map onD)):=zhb gν (yV hne);have h1:(ν.set mn (.lst (nat Tt++[.int h])))[mn]?=some (.lst (nat (Tt++[h]))):=by rw[zY hν,zhd];rfl
     generalize ν.set mn (.lst (nat Tt++[.int h]))=ν1 at k1 g1 h1 ⊢;refine zE (zwh (zO (zq (zw (ze (zd rfl (ze (zd rfl (ze (zd rfl (zx ?_)))))))))));refine zmv hhR (by omega) g1 λν2 k2=>w_c (zCj ⟨_,rfl,λhgt=>?_,λhle=>zlb ?_⟩)
     ·have hgt:=of_decide_eq_true hgt;have g2:=k2 _ _ g1;refine zE (zNj (zd rfl (zus (zd rfl (zd rfl ⟨ln,key,lay.map onD,rfl,rfl,g2,⟨by omega,by rw[length_map];omega⟩,?_⟩)))));refine zwb (w_c (q1 (lay.set key (some h)) _ (zwt (by omega) hh hhk hin0 (by omega)) ((k1.trans (KB.of_keep k2)).set (.inl (by simp))) ?_));rw[zY g2,yX,List.map_set]
     ·have hle:¬(0:Int)<(R.getD h 0:Int)-(lay.count (some h):Nat):=of_decide_eq_false hle;have g2:=k2 _ _ g1;have h2:=k2 _ _ h1;have k2':=k1.trans (KB.of_keep (L:=[ln,mn]) k2);clear k1 g1 h1 k2;refine zbf (zQc (zBl (zIg (ze (zw (ze (zd rfl (zx (z7e (zD g2) (zx ⟨_,rfl,by omega,by rw[length_map];omega,zOb (by simp;omega),?_⟩))))))))));rw[yX,length_map];refine z8e (λ(k:Nat)=>D.int k) (yw lay.length) (λ(k:Nat)=>D.int k) (λk=>decide (lay.getD k none=some h)) (λ_ _=>rfl) (λk hk' O' kp=>?_) (λν3 k3=>?_)
      ·have hk':=List.mem_range.mp hk';refine zud ?_;unfold zjg zag;exact zO (zq (zq (zd rfl (zd rfl (zic (zD (kp _ _ g2)) (zzy hk') (zd rfl (zct (α:=Option Nat) (lay.getD k none) (some h) ⟨_,rfl,rfl,kp,λ_=>zd rfl ⟨rfl,kp⟩⟩)))))))
      obtain⟨OS,hOS⟩:∃OS,OS=(yw lay.length).filter λk=>decide (lay.getD k none=some h):=⟨_,rfl⟩
      have hOm:∀o,o∈OS↔o<lay.length/\lay.getD o none=some h:=λo=>by rw[hOS,mem_filter,mem_range,decide_eq_true_iff]
      rw[<-hOS];have g4:(ν3++[tE.lst (OS.map λ(k:Nat)=>D.int k)])[ν3.length]?=some (.lst (nat OS)):=zA;have k4:KB [ln,mn] O (ν3++[tE.lst (OS.map λ(k:Nat)=>D.int k)]):=k2'.trans (KB.of_keep k3.to);have gl4:(ν3++[tE.lst (OS.map λ(k:Nat)=>D.int k)])[ln]?=some (.lst (lay.map onD)):=zPb (k3 _ _ g2);have gm4:(ν3++[tE.lst (OS.map λ(k:Nat)=>D.int k)])[mn]?=some (.lst (nat (Tt++[h]))):=zPb (k3 _ _ h2);have hvl:O.length<=ν3.length:=yF k2'.len k3.len;refine .inr (.inr ⟨ν3.length,_,rfl,zA,?_⟩);generalize ν3++[tE.lst (OS.map λ(k:Nat)=>D.int k)]=ν4 at g4 k4 gl4 gm4 ⊢;generalize ν3.length=vl at g4 hvl ⊢;refine zJb (JV wl R K lay key met Tt OS h vl ln mn O) ⟨Tt++[h],_,rfl,⟨λx hx=>mem_append_left _ hx,by simp,?_,λx hx=>?_,by simp,λx hx hxm hxh=>?_⟩,k4,gl4,gm4,g4⟩ (λj J ν ⟨_,_,_,_,_,_,_,g⟩=>Th.mpr g) ?_ ?_
      ·rw[nodup_append];exact⟨st.nd,by simp,λa ha b hb=>by rw[List.mem_singleton.mp hb];rintro rfl;exact hin ha⟩
      ·rcases List.mem_append.mp hx with hx|hx
       ·exact st.lt x hx
       ·rw[List.mem_singleton.mp hx];exact hhR
      ·rcases List.mem_append.mp hx with hx|hx
       ·obtain⟨a,b⟩:=st.sD x hx hxm;exact⟨a,λk e y hy=>mem_append_left _ (b k e y hy)⟩
       ·exact absurd (List.mem_singleton.mp hx) hxh
      ·rintro j z J ν5 hz ⟨sr,y5,rfl,⟨s1,s2,s3,s4,s5,s6⟩,k5,gl5,gm5,gv5⟩;rw[yg]at hz
       cases eo:OS[j]? with
       |none=>rw[eo]at hz;cases hz
       |some o=>
        rw[eo]at hz;cases hz;obtain⟨ho1,ho2⟩:=(hOm o).mp (mem_of_getElem? eo);have hto:OS.take (j+1)=OS.take j++[o]:=by rw[take_succ,eo];rfl
        have hm2:Tt.length+1<=sr.length:=by
         have:(h::Tt).length<=sr.length:=zAb (List.nodup_cons.mpr ⟨hin,st.nd⟩) λx hx=>by
          rcases List.mem_cons.mp hx with rfl|hx
          ·exact s2
          ·exact s1 x hx
         exact this
        have hsub:∀x∈met,x∈sr:=λx hx=>s1 x (st.sub x hx);refine zud ?_;unfold zeg;refine zwh (zO (zw (ze (zd rfl (ze (zd rfl (ze (zd rfl (ze (zd rfl (zx ?_)))))))))));refine ih (gw.kb k5 ap) ap (by omega) hlen hh (λx e=>by rw[ho2]at e;cases e;exact s2) s3 s4 (by omega) hne gl5 gm5 (λTV ν6 mv k6 g6=>⟨_,rfl,λ_=>?_,λh=>(by cases h)⟩) (λmet' ν6 st' k6 g6 h6=>⟨_,rfl,λh=>(by cases h),λ_=>zlb ?_⟩)
        ·refine zE (zNj (zd rfl (zus (zd rfl (zd rfl ⟨ln,key,TV.map onD,rfl,rfl,g6,⟨by omega,by rw[length_map,mv.len];omega⟩,?_⟩)))));refine zwb (w_c (q1 (TV.set key (some h)) _ (zOs (by omega) hhk hin0 hsub ho2 hp mv) ((k5.trans k6).set (.inl (by simp))) ?_));rw[zY g6,yX,List.map_set]
        ·refine⟨met',_,rfl,⟨λx hx=>st'.sub x (s1 x hx),st'.sub h s2,st'.nd,st'.lt,λo' ho' x hx=>?_,λx hx hxm hxh=>?_⟩,k5.trans k6,g6,h6,k6.at_ _ _ (by simp;omega) gv5⟩
         ·rw[hto]at ho';rcases List.mem_append.mp ho' with ho'|ho'
          ·exact st'.sub x (s5 o' ho' x hx)
          ·rw[List.mem_singleton.mp ho']at hx;exact st'.SC x hx
         ·by_cases hx2:x∈sr
          ·obtain⟨a,b⟩:=s6 x hx2 hxm hxh;exact⟨a,λk e y hy=>st'.sub y (b k e y hy)⟩
          ·exact st'.sD x hx hx2
      ·rintro J ν5 ⟨sr,y5,rfl,⟨s1,s2,s3,s4,s5,s6⟩,k5,gl5,gm5,gv5⟩;rw[length_map,take_length]at s5;refine⟨sr,_,_,rfl,⟨λx hx=>s1 x (st.sub x hx),s3,s4,λx hx=>?_,λx hx hxm=>?_⟩,k5,gl5,gm5⟩
       ·rw[ht]at hx;rcases List.mem_append.mp hx with hx|hx
        ·exact s1 x (st.SC x hx)
        ·rw[List.mem_singleton.mp hx];exact s2
       ·by_cases hxh:x=h
        ·subst hxh;refine⟨by omega,λk e=>s5 k ((hOm k).mpr ⟨?_,e⟩)⟩;rcases Nat.lt_or_ge k lay.length with z|z
         ·exact z
         ·rw[getD_eq_getElem?_getD,Yd z]at e;cases e
        ·exact s6 x hx hxm hxh
    ·have hin:h∈Tt:=by simpa using hin
     refine⟨Tt,_,_,rfl,⟨st.sub,st.nd,st.lt,λx hx=>?_,st.sD⟩,kν,gν,hν⟩;rw[ht]at hx;rcases List.mem_append.mp hx with hx|hx
     ·exact st.SC x hx
     ·rw[List.mem_singleton.mp hx];exact hin
  ·rintro J ν ⟨Tt,x4,x5,rfl,st,kν,gν,hν⟩;rw[length_map,take_length]at st;exact zwb (w_c (q2 Tt ν st kν gν hν))
def zpt{lay:List (Option Nat)}{key:Nat}(w:Wb L R K)(hlen:lay.length=K.length)(hk:key<K.length)(hn:lay.getD key none=none)(hh:∀k h,lay.getD k none=some h->h∈K.getD k [])(st:SX R K lay (K.getD key []) [] met):¬zDp R K:=by
 obtain⟨C,hC⟩:∃C,C=(yw K.length).filter λk=>decide (k=key\/∃h∈met,lay.getD k none=some h):=⟨_,rfl⟩
 have hCm:∀k,k∈C↔k<K.length/\(k=key\/∃h∈met,lay.getD k none=some h):=λk=>by rw[hC,mem_filter,mem_range,decide_eq_true_iff]
 have hin:∀k∈C,∀h∈K.getD k [],h∈met:=λk hkC h hhk=>by
  rcases((hCm k).mp hkC).2 with rfl|⟨x,hx,e⟩
  ·exact st.SC h hhk
  ·exact(st.sD x hx (by simp)).2 k e h hhk
 have sh:TJ R K lay C:=by
  refine⟨λk hkC=>((hCm k).mp hkC).1,λk hkC h hhk=>(st.sD h (hin k hkC h hhk) (by simp)).1,λk hkC h hhk o e=>(hCm o).mpr ⟨?_,.inr ⟨h,hin k hkC h hhk,e⟩⟩⟩;rw[<-hlen];rcases Nat.lt_or_ge o lay.length with z|z
  ·exact z
  ·rw[getD_eq_getElem?_getD,Yd z]at e;cases e
 have hc:=z9m w sh hlen ((hCm key).mpr ⟨hk,.inl rfl⟩) hn;exact zGr w (by rw[hC];exact filter_sublist) hc
def zfu{wl:Nat}{ls:List Nat}(w:Wb L R K)(hL:L<=60)(gw:sw O wl ls K)(q:∀(b:Bool)(O':Mem),(b=true↔zDp R K)->tm O O'->Q (.bl b) O'):WF zWg [wL R wl] O Q:=by
 have hkl:=w.kl;have hrl:=w.rl;have hwl:=gw.len;refine zFb rfl ?_;show WS zVg [some (wL R wl),none] O _ _ _ _;unfold zVg;refine zE (zob (zBl (zQc (zq (zd rfl (w_c (zic rfl (show atI [tn R,D.loc wl] 1=some (D.loc wl) from rfl) (.inr (.inr ⟨_,_,rfl,gw.at_,zOb (by rw[length_map];omega),?_⟩)))))))));refine zye D.loc ls (λ_=>D.non) (λ_ k=>z5 gw.at_ k) (λk hk O' kp=>?_) (λO1 k1=>?_)
 ·refine zud ?_;unfold zbk;exact w_c ⟨rfl,kp,kp⟩
 have e0:(ls.map λ_=>D.non)=(K.map λ_=>(none:Option Nat)).map onD:=by
  rw[map_map];show ls.map (λ_=>D.non)=K.map (λ_=>D.non);rw[List.map_const',List.map_const',gw.len]
 rw[e0];have gl:(O1++[tE.lst ((K.map λ_=>(none:Option Nat)).map onD)])[O1.length]?=some (.lst ((K.map λ_=>(none:Option Nat)).map onD)):=zA;have k2:tm O (O1++[tE.lst ((K.map λ_=>(none:Option Nat)).map onD)]):=k1.to;have hln:O.length<=O1.length:=k1.len;generalize O1++[tE.lst ((K.map λ_=>(none:Option Nat)).map onD)]=O2 at gl k2 ⊢;generalize O1.length=ln at gl hln ⊢;refine zwb (zw (ze (zBl (zIg (ze (zw (ze (zd rfl (zx (z7e (zD gl) (zx ⟨_,rfl,by omega,by simp;omega,zOb (by simp;omega),?_⟩)))))))))));rw[yX,length_map,length_map]
 have hno:∀k,(K.map λ_=>(none:Option Nat)).getD k none=none:=λk=>by
  rw[getD_eq_getElem?_getD,yg];cases K[k]?<;>rfl
 refine zLl (λi ys O'=>∃(lay:List (Option Nat)) (bs:List Bool),ys=bs.map .bl/\lay.length=K.length/\(∀k h,lay.getD k none=some h->h∈K.getD k [])/\(∀h,lay.count (some h)<=R.getD h 0)/\(∀k,i<=k->lay.getD k none=none)/\((bs.all λb=>b)=true->∀k<i,(lay.getD k none).isSome=true)/\((bs.all λb=>b)=false->¬zDp R K)/\tm O O'/\O'[ln]?=some (.lst (lay.map onD))) ⟨K.map λ_=>none,[],rfl,by simp,λk h e=>?_,λh=>?_,λk _=>hno k,λ_ k hk=>absurd hk (Nat.not_lt_zero _),λh=>(by cases h),k2,gl⟩ (λ_ _ _ _=>rfl) ?_ ?_
 ·rw[hno k]at e;cases e
 ·have:(K.map λ_=>(none:Option Nat)).count (some h)=0:=List.count_eq_zero.mpr λhm=>by
   obtain⟨_,_,e⟩:=List.mem_map.mp hm;cases e
  omega
 ·rintro i x ys O3 hx ⟨lay,bs,rfl,hlen,hh,hroom,Sc,hall,hnot,k3,g3⟩;obtain⟨hi,rfl⟩:=zah hx;refine zud (z9t ⟨λ_=>?_,λh=>(by cases h)⟩);unfold z4j;refine zw (ze (zd rfl (ze (zd rfl (ze (zd rfl (ze (zni (zx (zx ?_))))))))));have hl3:=zC g3;have h3:=k3.len;show WF (zHb 12) [wL R wl,.loc ln,.int i,.loc O3.length] _ _;have kp:∀{O':Mem},KB [ln,O3.length] (O3++[tE.lst []]) O'->tm O O':=λkb a o e=>kb.at_ a o (by have:=zC e;simp;omega) (zPb (k3 a o e))
  have apx:∀x∈wl::ls,x<O.length:=λx hx=>by
   rcases List.mem_cons.mp hx with rfl|hx
   ·exact zC gw.at_
   ·obtain⟨j,hj,ej⟩:=List.mem_iff_getElem.mp hx;exact zC (gw.row j x _ (by rw[yq hj,ej]) (yq (by rw[<-gw.len];exact hj)))
  refine zwo w hL 12 (met:=[]) (gw.keep k3.to) (λx hx=>by have:=apx x hx;simp;omega) hi hlen hh (λh e=>by rw[Sc i (yi _)]at e;cases e) (by simp) (by simp) (by simp;omega) (by omega) (zPb g3) zA (λTV O4 mv kb g4=>?_) (λmet' O4 st kb g4 h4=>?_)
  ·obtain⟨e,_,he,hc⟩:=mv.last;refine⟨TV,bs++[true],by rw[map_append];rfl,by rw[mv.len,hlen],mv.home,λh=>?_,λk hk=>?_,λhb k hk=>?_,λhb=>hnot ?_,kp kb,g4⟩
   ·have:=hc h;rw[Sc i (yi _),if_neg (by simp)]at this;have hr:=hroom h
    by_cases z:e=h
    ·subst z;rw[if_pos rfl]at this;omega
    ·rw[if_neg z]at this;omega
   ·rw[mv.keep k (by omega) λh e=>by rw[Sc k (by omega)]at e;cases e];exact Sc k (by omega)
   ·rw[List.all_append,yH]at hb
    by_cases z:k=i
    ·rw[z];exact mv.laid
    ·rw[mv.rest k z];exact hall hb.1 k (by omega)
   ·rw[List.all_append]at hb;simpa using hb
  ·have nf:=zpt w hlen hi (Sc i (yi _)) hh st;refine⟨lay,bs++[false],by rw[map_append];rfl,hlen,hh,hroom,λk hk=>Sc k (by omega),λhb=>?_,λ_=>nf,kp kb,g4⟩;rw[List.all_append]at hb;simp at hb
 ·rintro ys O3 ⟨lay,bs,rfl,hlen,hh,hroom,Sc,hall,hnot,k3,g3⟩;simp only[length_map,length_range]at hall;refine zx (zay (bs:=bs) zA (q _ _ ⟨λhb=>⟨lay,⟨hlen,λk h e=>hh k h ?_,hroom⟩,hall hb⟩,λhf=>?_⟩ k3.to))
  ·rw[getD_eq_getElem?_getD,e];rfl
  ·cases e:bs.all λb=>b with
   |true=>rfl
   |false=>exact absurd hf (hnot e)
section
variable {R:List Nat}{ts kvs:List (Nat×Nat)}{S V:List Nat}{k:Nat}
def zzt{V:List Nat}(hT:∀i∈T,i<A.length)(hV:V.Perm (T.map λi=>A.getD i 0)):zGd R.length (zng R ts V) (yw V.length)=zGd R.length (zng R ts A) T:=by
 have hg:∀i∈T,(zng R ts A).getD i []=ts.map (hmN R.length (A.getD i 0)):=λi hi=>by
  have:=hT i hi;rw[getD_eq_getElem?_getD,yg,yq this,getD_eq_getElem?_getD,yq this];rfl
 unfold zGd;refine filter_congr λh _=>decide_eq_decide.mpr ?_;constructor
 ·rintro⟨j,hj,hh⟩;have hj:=List.mem_range.mp hj;rw[getD_eq_getElem?_getD,yg,yq hj]at hh;have hm:=hV.mem_iff.mp (getElem_mem hj);obtain⟨i,hi,e⟩:=List.mem_map.mp hm;refine⟨i,hi,?_⟩;rw[hg i hi,e];exact hh
 ·rintro⟨i,hi,hh⟩;rw[hg i hi]at hh;have hm:A.getD i 0∈V:=hV.mem_iff.mpr (List.mem_map.mpr ⟨i,hi,rfl⟩);obtain⟨j,hj⟩:=List.mem_iff_getElem?.mp hm;refine⟨j,List.mem_range.mpr (List.getElem?_eq_some_iff.mp hj).1,?_⟩;rw[getD_eq_getElem?_getD,yg,hj];exact hh
end
def zFs{R H N:List Nat}(nh:H.Nodup)(nn:N.Nodup)(h:∀x,x∈H↔x∈N):z9l R H=z9l R N:=by
 have p:H.Perm N:=(xB nh nn).mpr h;unfold z9l;exact(p.map _).sum_nat
def exN(R:List Nat)(ts:List (Nat×Nat))(V:List Nat):Int:=(V.length:Int)-(z9l R (zGd R.length (zng R ts V) (yw V.length)):Nat)
section
variable {O:Mem}{R:List Nat}{ts:List (Nat×Nat)}{V S T:List Nat}{a sk:Nat}{Q:D->Mem->Prop}
def zvw(h:Rl R ts):x∈zGd R.length (zng R ts V) (yw V.length)↔∃v∈V,x∈ts.map (hmN R.length v):=by
 have hrl:=h.rl;unfold zGd;rw[mem_filter,mem_range,decide_eq_true_iff];constructor
 ·rintro⟨_,j,hj,hx⟩;have hj:=List.mem_range.mp hj;rw[getD_eq_getElem?_getD,yg,yq hj]at hx;exact⟨_,getElem_mem hj,hx⟩
 ·rintro⟨v,hv,hx⟩;obtain⟨j,hj⟩:=List.mem_iff_getElem?.mp hv;obtain⟨t,_,et⟩:=List.mem_map.mp hx;refine⟨by rw[<-et];exact Nat.mod_lt _ (by omega),j,List.mem_range.mpr (List.getElem?_eq_some_iff.mp hj).1,?_⟩;rw[getD_eq_getElem?_getD,yg,hj];exact hx
abbrev JX0(R:List Nat)(ts:List (Nat×Nat))(a b v:Nat)(N:List Nat)(O:Mem):Nat->M.Loc->Mem->Prop:=λj J O'=>∃(N':List Nat)(x4:Option D),J=[some (rlN R ts),some (.loc a),some (.loc b),some (.int (v:Nat)),x4]/\KB [b] O O'/\O'[b]?=some (.lst (nat N'))/\N'.Nodup/\∀x,x∈N'↔x∈N\/x∈(ts.map (hmN R.length v)).take j
abbrev JX1(R:List Nat)(ts:List (Nat×Nat))(a b:Nat)(V:List Nat)(O:Mem):Nat->M.Loc->Mem->Prop:=λi J O'=>∃(N:List Nat)(x3 x4:Option D),J=[some (rlN R ts),some (.loc a),some (.loc b),x3,x4]/\tm O O'/\O'[b]?=some (.lst (nat N))/\N.Nodup/\∀x,x∈N↔∃v∈V.take i,x∈ts.map (hmN R.length v)
def zml(h:Rl R ts)(hV:V.length<=1000)(ea:O[a]?=some (.lst (nat V)))(q:∀O',tm O O'->Q (.int (exN R ts V)) O'):WF z8c [rlN R ts,.loc a] O Q:=by
 have hrl:=h.rl;have htl:=h.tl
 have hlt:∀{v x:Nat},x∈ts.map (hmN R.length v)->x<R.length:=λ{v x} hx=>by
  obtain⟨t,_,et⟩:=List.mem_map.mp hx;rw[<-et];exact Nat.mod_lt _ (by omega)
 refine zFb rfl ?_;show WS z0d [some (rlN R ts),some (.loc a),none,none,none] O _ _ _ _;unfold z0d;refine zE (zob (zni (zx ?_)));refine zE (zbf (zQc (zd rfl (.inr (.inr ⟨_,_,rfl,tm.app _ _ ea,?_⟩)))));refine zJb (JX1 R ts a O.length V O) ⟨[],_,_,rfl,tm.app,zA,nodup_nil,by simp⟩ (λ_ _ _ ⟨_,_,_,_,kp,_⟩=>z5 ea kp) ?_ ?_
 ·rintro i z J O1 hz ⟨N,x3,x4,rfl,k1,e1,nd,hN⟩;rw[yg]at hz
  cases hv:V[i]? with
  |none=>rw[hv]at hz;cases hz
  |some v=>
   rw[hv]at hz;cases hz;refine zud ?_;unfold zEg;refine zbf (zQc (zw (ze (zd rfl (ze (zd rfl (zx (zUk h λl O2 k2 g2 e2 =>.inr (.inr ⟨_,_,rfl,e2,?_⟩)))))))));have hb1:=zC e1;refine zJb (JX0 R ts a O.length v N O2) ⟨N,_,rfl,.refl,k2 _ _ e1,nd,by simp⟩ (λ_ _ _ ⟨_,_,_,kp,_⟩=>Th.mpr (kp.at_ _ _ (by simp;omega) e2)) ?_ ?_
   ·rintro j z J O3 hz ⟨N',y4,rfl,k3,e3,nd3,hN3⟩;rw[yg]at hz
    cases hx:(ts.map (hmN R.length v))[j]? with
    |none=>rw[hx]at hz;cases hz
    |some x=>
     rw[hx]at hz;cases hz;have htk:(ts.map (hmN R.length v)).take (j+1)=(ts.map (hmN R.length v)).take j++[x]:=by rw[take_add_one,hx];rfl
     refine zud ?_;unfold zNg;refine zwh (zO (zq (zd rfl (zd rfl (zri (zD e3) ⟨_,rfl,λhb=>?_,λhb=>zlb ?_⟩)))))
     ·have hb:x∉N':=by simpa using hb
      refine zJi (z9j (zd rfl ⟨_,_,rfl,e3,ze (zd rfl (zx (zfi e3 ?_ ?_)))⟩))
      ·have:N'.length<=(yw R.length).length:=zAb nd3 λy hy=>by
        rw[mem_range];rcases(hN3 y).mp hy with hy|hy
        ·obtain⟨_,_,hy⟩:=(hN y).mp hy;exact hlt hy
        ·exact hlt ((List.take_sublist _ _).subset hy)
       rw[length_range]at this;rw[length_map];omega
      ·refine⟨N'++[x],_,rfl,k3.set (.inl (by simp)),by rw[zY e3,zhd];rfl,?_,λy=>?_⟩
       ·rw[nodup_append];exact⟨nd3,by simp,λp hp r hr=>by rw[List.mem_singleton.mp hr];rintro rfl;exact hb hp⟩
       ·rw[htk,mem_append,mem_append,hN3 y,or_assoc]
     ·have hb:x∈N':=by simpa using hb
      refine⟨N',_,rfl,k3,e3,nd3,λy=>?_⟩;rw[htk,mem_append,<-or_assoc,<-hN3 y,mem_singleton];exact⟨.inl,λhy=>hy.elim id λe=>e▸hb⟩
   ·rintro J O3 ⟨N',y4,rfl,k3,e3,nd3,hN3⟩;rw[length_map,take_length]at hN3;refine⟨N',_,_,rfl,λn o e=>?_,e3,nd3,λy=>?_⟩
    ·exact k3.at_ n o (by have:=zC e;simp;omega) (k2 n o (k1 n o e))
    ·rw[hN3 y,hN y,take_add_one,hv];constructor
     ·rintro(⟨u,hu,hy⟩|hy)
      ·exact⟨u,mem_append_left _ hu,hy⟩
      ·exact⟨v,by simp,hy⟩
     ·rintro⟨u,hu,hy⟩;rcases List.mem_append.mp hu with hu|hu
      ·exact .inl ⟨u,hu,hy⟩
      ·have:u=v:=by simpa using hu
       subst this;exact .inr hy
 ·rintro J O1 ⟨N,x3,x4,rfl,k1,e1,nd,hN⟩;rw[length_map,take_length]at hN
  have hNl:∀x∈N,x<R.length:=λx hx=>by
   obtain⟨_,_,hy⟩:=(hN x).mp hx;exact hlt hy
  have hN10:N.length<=R.length:=by
   have:N.length<=(yw R.length).length:=zAb nd λy hy=>List.mem_range.mpr (hNl y hy)
   rwa [length_range]at this
  refine zwb (zq (zw (ze (zd rfl (zx (z7e (zD (k1 _ _ ea)) (zw (ze (zBl (zQc (zd rfl (.inr (.inr ⟨_,_,rfl,e1,zOb (by rw[length_map];omega),?_⟩)))))))))))));refine zye (λ(h:Nat)=>D.int h) N (λh =>.int (R.getD h 0:Nat)) (λO' k'=>z5 e1 k') (λx hx O2 k2=>?_) (λO2 k2=>?_)
  ·refine zud ?_;unfold zog;exact zq (zq (zd rfl (w_c (zic rfl (show atI [tn R,.tup (ts.map pr2)] 0=some (tn R) from rfl) (zd rfl (z1s (hNl x hx) ⟨rfl,k2,k2⟩))))))
  ·refine zx (zkx (S:=N.map λh=>R.getD h 0) (by rw[zA,zRg]) (zas ?_));have e:(N.map λh=>R.getD h 0).sum=z9l R (zGd R.length (zng R ts V) (yw V.length)):=zFs nd (List.nodup_range.filter _) λx=>(hN x).trans (zvw h).symm;rw[e,length_map];exact q _ (k1.trans k2.to)
def zFp(h:Rl R ts)(es:O[sk]?=some (.lst (nat S)))(el:O[l]?=some (.lst (nat V)))(hV:V.length<=60)(pw:V.Pairwise (· < ·))(sub:∀x∈V,x∈S)(c1:1<=exN R ts V)(c2:∀x∈V,exN R ts (V.filter λy=>decide (y≠x))<1)(q:∀O',tm O O'->Q (.bl true) O'):WF zad [rlN R ts,.loc sk,.loc l] O Q:=by
 refine zFb rfl ?_;show WS z4c [some (rlN R ts),some (.loc sk),some (.loc l)] O _ _ _ _;unfold z4c;refine zE (zwh (zWi (zFh (zO (zw (ze (zd rfl (ze (w_c (zx (z2w el ⟨_,rfl,λ_=>?_,λhb=>(by cases hb)⟩)))))))))));have hm:∀k:Int,k∈(V.map λ(k:Nat)=>(k:Int))↔k∈(V.map λ(k:Nat)=>(k:Int)):=λ_=>Iff.rfl
 have hp:(V.map λ(k:Nat)=>(k:Int)).Pairwise (· < ·):=by
  rw[pairwise_map];exact pw.imp λh=>by omega
 refine zWi (zO (zq (zd rfl (zDt (zd rfl ⟨l,V.map λ(k:Nat)=>(k:Int),rfl,by rw[<-zzl];exact el,by simp;omega,?_,?_⟩)))))
 ·rw[(zAk hm hp).length_eq,length_map];omega
 ·rw[zqn hm hp,<-zzl];refine zQy (α:=Nat) V V (tm.app _ _ el) zA ⟨_,rfl,λ_=>?_,λhb=>?_⟩
  ·have el':(O ++ [tE.lst (nat V)])[l]?=some (.lst (nat V)):=tm.app _ _ el
   have es':(O++[tE.lst (nat V)])[sk]?=some (.lst (nat S)):=tm.app _ _ es;have k':tm O (O++[tE.lst (nat V)]):=tm.app;generalize O++[tE.lst (nat V)]=O1 at el' es' k';refine zFh (zO (zw (ze (zBl (zQc (zd rfl (.inr (.inr ⟨_,_,rfl,el',zOb (by rw[length_map];omega),?_⟩))))))));refine zye (λ(k:Nat)=>D.int k) V (λ_ =>.bl true) (λO' k'=>z5 el' k') (λx hx O2 k2=>?_) (λO2 k2=>?_)
   ·refine zud ?_;unfold zdf;refine zq (zd rfl (zd rfl (zzB (zD (k2 _ _ es')) ⟨?_,k2,k2⟩)));rw[decide_eq_true (sub x hx)]
   ·have e0:(V.map λ_=>D.bl true)=(V.map λ_=>true).map D.bl:=by rw[map_map];rfl
    rw[e0];refine zx (zay zA ⟨_,rfl,λhb=>?_,λ_=>zlb ?_⟩)
    ·rw[Bool.not_eq_true']at hb;have:((V.map λ_=>true).all λb=>b)=true:=by simp
     rw[this]at hb;cases hb
    ·have el2:=tm.app (g:=[tE.lst ((V.map λ_=>true).map D.bl)]) _ _ (k2 _ _ el');have k3:tm O (O2++[tE.lst ((V.map λ_=>true).map D.bl)]):=(k'.trans k2).to;generalize O2++[tE.lst ((V.map λ_=>true).map D.bl)]=O3 at el2 k3;refine zE (zwh (zO (zq (zw (ze (zd rfl (ze (zd rfl (zx (zml h (by omega) el2 λO4 k4=>w_c (zCj ⟨_,rfl,λhb=>?_,λ_=>zlb ?_⟩)))))))))))
     ·have:=of_decide_eq_true hb;omega
     ·have el4:=k4 _ _ el2;refine zwb (zw (ze (zBl (zQc (zd rfl (.inr (.inr ⟨_,_,rfl,el4,zOb (by rw[length_map];omega),?_⟩)))))));refine zye (λ(k:Nat)=>D.int k) V (λ_ =>.bl true) (λO' k'=>z5 el4 k') (λx hx O5 k5=>?_) (λO5 k5=>?_)
      ·refine zud ?_;unfold zif;refine zq (zw (ze (zd rfl (ze (zBl (zQc (zd rfl (.inr (.inr ⟨_,_,rfl,k5 _ _ el4,zOb (by rw[length_map];omega),?_⟩)))))))));refine z8e (λ(k:Nat)=>D.int k) V (λ(k:Nat)=>D.int k) (λy=>decide (y≠x)) (λO' k'=>z5 (k5 _ _ el4) k') (λy hy O6 k6=>?_) (λO6 k6=>?_)
       ·refine zud ?_;unfold zcf;refine zO (zq (zd rfl (zd rfl (zry ⟨_,rfl,?_,k6,λ_=>?_⟩))))
        ·apply Bool.eq_iff_iff.mpr;rw[decide_eq_true_iff,Bool.not_eq_true',beq_eq_false_iff_ne];omega
        ·unfold zsf;exact zd rfl ⟨rfl,k6⟩
       ·refine zx (zml h ?_ zA λO7 k7=>w_c (zCj ⟨?_,?_,?_⟩))
        ·have:=Xl (λy=>decide (y≠x)) V;omega
        ·rw[decide_eq_true (c2 x hx)]
        ·exact k5.trans (k6.to.trans k7)
        ·exact k5
      ·have e0:(V.map λ_=>D.bl true)=(V.map λ_=>true).map D.bl:=by rw[map_map];rfl
       rw[e0];have et:((V.map λ_=>true).all λb=>b)=true:=by simp
       refine zx (zay zA ?_);rw[et];exact q _ (k3.trans (k4.trans k5.to))
  ·simp at hb
def crowd53(pS:S.Pairwise (· < ·))(hT:T.Sublist (yw S.length))(hc:zWd R (zng R ts S) T=true)(hs:zsc R (zng R ts S) T=none) :
 let V:=T.map λi=>S.getD i 0
 V.Pairwise (· < ·)/\(∀x∈V,x∈S)/\1<=exN R ts V/\∀x∈V,exN R ts (V.filter λy=>decide (y≠x))<1:=by
 have hlt:∀i∈T,i<S.length:=λi hi=>List.mem_range.mp (hT.subset hi);have g:∀(i:Nat)(h:i<S.length),S.getD i 0=S[i]:=λi h=>by rw[getD_eq_getElem?_getD,yq h,xT]
 have pT:T.Pairwise (· < ·):=List.Pairwise.sublist hT List.pairwise_lt_range
 have ex:∀pins:List Nat,(∀i∈pins,i<S.length)->exN R ts (pins.map λi=>S.getD i 0)=(pins.length:Int)-(z9l R (zGd R.length (zng R ts S) pins):Nat):=λpins hU=>by
  unfold exN;rw[zzt hU (List.Perm.refl _),length_map]
 have mono:∀i j,i<S.length->j<S.length->i<j->S.getD i 0<S.getD j 0:=λi j hi hj hij=>by
  rw[g i hi,g j hj];exact List.pairwise_iff_getElem.mp pS i j hi hj hij
 refine⟨?_,λx hx=>?_,?_,λx hx=>?_⟩
 ·rw[pairwise_map];exact pT.imp_of_mem λ{a b} ha hb hab=>mono a b (hlt a ha) (hlt b hb) hab
 ·obtain⟨i,hi,rfl⟩:=List.mem_map.mp hx;rw[g i (hlt i hi)];exact getElem_mem _
 ·rw[ex T hlt];have:=of_decide_eq_true hc;omega
 ·obtain⟨i,hi,rfl⟩:=List.mem_map.mp hx
  have e:((T.map λi=>S.getD i 0).filter λy=>decide (y≠S.getD i 0))=(zFf T i).map λi=>S.getD i 0:=by
   unfold zFf;rw[List.filter_map]
   congr 1
   refine filter_congr λj hj=>?_;have h1:=hlt i hi;have h2:=hlt j hj;show decide (S.getD j 0≠S.getD i 0)=_;apply Bool.eq_iff_iff.mpr;rw[decide_eq_true_iff]
   have:S.getD j 0≠S.getD i 0↔j≠i:=by
    rcases Nat.lt_trichotomy i j with z|z|z
    ·have:=mono i j h1 h2 z;omega
    ·subst z;simp
    ·have:=mono j i h2 h1 z;omega
   rw[this];simp
  rw[e,ex (zFf T i) λj hj=>hlt j (List.mem_filter.mp hj).1];have:=zCq hs i hi;have:=of_decide_eq_false this;omega
variable {n m:Nat}{R':List Nat}{ts' kvs:List (Nat×Nat)}
def zDo(h':Rl R' ts')(s:S55 O n m R ts kvs)(K:Td kvs S)
 (qf:∀(T:List Nat)(l:Nat)(O':Mem),T.Sublist (yw S.length)->zWd R' (zng R' ts' S) T=true->zsc R' (zng R' ts' S) T=none->tm O O'->O.length<=l->O'[l]?=some (.lst (nat (T.map λi=>S.getD i 0)))->Q (.tup [.str "nothing",.loc l]) O')
 (q:∀(kvs':List (Nat×Nat)) (O':Mem),zDp R' (zng R' ts' S)->S55 O' n m R' ts' kvs'->S.Perm (kvs'.map (·.1))->KB [n,m] O O'->Q (.tup [.non,.non]) O'):WF zvd [.loc n,rlN R' ts'] O Q:=by
 refine zFb rfl ?_;show WS zyd [some (.loc n),some (rlN R' ts'),none,none,none] O _ _ _ _;unfold zyd;refine zE (zob (w_c (zE (zob (w_c ?_)))));refine zE (zMz (zQA (zTc (zd rfl ⟨n,_,rfl,s.sh.at_,z2r _ m,ze (zd rfl (zx (zyv h' s.sh K (s.key K) (λT l O3 sb hc hs k3 g3 e3=>?_) λhs O3 hl' rt k3 s3=>?_)))⟩))))
 ·refine zyC (by decide +kernel) (zob (zPB (zd rfl ⟨_,_,D.loc l,rfl,zA,by rw[lookup_cons,beq_self_eq_true],?_⟩)));exact zwb (zvh (ze (zd rfl (ze (zd rfl (zx (qf T l _ sb hc hs k3.to g3 (tm.app _ _ e3))))))))
 ·obtain⟨rs',pm⟩:=zfq s.sh.nd K hl' rt;have ft:zDp R' (zng R' ts' S):=rs'.fits (zBg _ _ s.sh.nd) pm;refine zwb (zvh (ze (zd rfl (ze (zd rfl (zx (q _ O3 ft ⟨h',s3,rs',λx hx=>s.key K x (pm.mem_iff.mpr hx)⟩ pm k3)))))))
def mkN(kvs:List (Nat×Nat))(S:List Nat):List (Nat×Nat):=S.map λx=>(x,(kvs.lookup x).getD 0)
def zKt(nd:(kvs.map (·.1)).Nodup)(K:Td kvs S):(mkN kvs S).Perm kvs:=by
 have e:(kvs.map (·.1)).map (λx=>(x,(kvs.lookup x).getD 0))=kvs:=by
  rw[map_map]
  conv=>rhs;rw[<-List.map_id kvs]
  refine map_congr_left λp hp=>?_;show(p.1,(kvs.lookup p.1).getD 0)=p;rw[zDf nd p hp];rfl
 have:=K.pm.map λx=>(x,(kvs.lookup x).getD 0)
 rw[e]at this;exact this
def zCy:(mkN kvs S).map (·.1)=S:=by unfold mkN;rw[map_map];exact List.map_id S
def zHz{e:FE}{x1 x2:Option D}(he:e=(z5k (zh (zm 0) (zh (zB zCb (znc "Shelf" "where" (zm 1) (zh (zm 0) zK))) zK))))(s:Sh O n m (rlN R ts) kvs)(K:Td kvs S)(ea:O[a]?=some (.lst (nat S)))
 (q:∀l O',tm O O'->O.length<=l->O'[l]?=some (.dct (dkN (mkN kvs S)))->Q (.loc l) O'):WE (zB zQl (zh (fLC 1 [0] (zse (zm 3)) (gN 0) zRh e) zK)) (some (.loc n)::x1::x2::some (.loc a)::J) O Q:=by
 have hf:=s.few;have hl:=K.len;refine zw (ze (zBl (zQc (zd rfl (.inr (.inr ⟨_,_,rfl,ea,zOb (by rw[length_map];omega),?_⟩))))));refine zye (λ(k:Nat)=>D.int k) S (λx=>D.tup [.int (x:Nat),.int ((kvs.lookup x).getD 0:Nat)]) (λO' k'=>z5 ea k') (λx hx O2 k2=>?_) (λO2 k2=>?_)
 ·obtain⟨v,hv⟩:=K.look hx;have s2:=s.keep k2;refine zud ?_;rw[he];refine zvh (ze (zd rfl (ze (zw (zTc (zd rfl ⟨n,_,rfl,s2.at_,zsm _ m,ze (zd rfl (zx (zmr s2 ?_)))⟩))))));rw[hv];exact zx ⟨rfl,k2,k2⟩
 ·have ei:(S.map λx=>D.tup [.int (x:Nat),.int ((kvs.lookup x).getD 0:Nat)])=zJo (dkN (mkN kvs S)):=by
   unfold zJo dkN mkN;rw[map_map,map_map];rfl
  rw[ei];have nd:((mkN kvs S).map (·.1)).Nodup:=by rw[zCy];exact K.pw.imp λh=>yu h
  refine zx (zCx (dkN (mkN kvs S)) zA (by rw[zlA];unfold mkN;rw[length_map];omega) ?_);rw[zHy nd];exact q _ _ k2.to.to k2.to.len zA
def zav{x0 x1:Option D}(h':Rl R' ts')(hS:S.length<=30)(ea:O[a]?=some (.lst (nat S)))(q:∀(wl:Nat)(ls:List Nat)(O':Mem),tm O O'->sw O' wl ls (zng R' ts' S)->Q (wL R' wl) O') :
 WE (z5k (zh (zH gIx (zm 2) (fC (.int 0))) (zh (fLC 1 [2] (zse (zm 3)) (gN 0) zRh zJg) zK))) (x0::x1::some (rlN R' ts')::some (.loc a)::J) O Q:=by
 refine zvh (ze (zq (zd rfl (w_c (zic rfl (show atI [tn R',.tup (ts'.map pr2)] 0=some (tn R') from rfl) (ze (zBl (zQc (zd rfl (.inr (.inr ⟨_,_,rfl,ea,zOb (by rw[length_map];omega),?_⟩)))))))))));refine zLl (λi ys O'=>∃ls:List Nat,ys=ls.map D.loc/\ls.length=i/\(∀(j l:Nat)(r:List Nat),ls[j]?=some l->(zng R' ts' S)[j]?=some r->O'[l]?=some (.lst (nat r)))/\tm O O') ⟨[],rfl,rfl,by simp,tm.refl⟩ (λ_ _ _ ⟨_,_,_,_,kp⟩=>z5 ea kp) ?_ ?_
 ·rintro i x ys O1 hx ⟨ls,rfl,hli,hr,kp⟩;rw[yg]at hx
  cases hk:S[i]? with
  |none=>rw[hk]at hx;cases hx
  |some k=>
   rw[hk]at hx;cases hx;refine zud (z9t ⟨λ_=>?_,λhf=>(by cases hf)⟩);unfold zJg;refine zw (ze (zd rfl (ze (zd rfl (zx (zUk h' λl O2 k2 g2 e2=>?_))))));refine⟨ls++[l],by rw[map_append];rfl,by simp[hli],λj z r hz hjr=>?_,kp.trans k2⟩
   by_cases hj:j<ls.length
   ·rw[yr hj]at hz;exact k2 _ _ (hr j z r hz hjr)
   ·rw[yM (by omega)]at hz
    have hj2:j-ls.length=0:=by
     have:=(List.getElem?_eq_some_iff.mp hz).1;simp at this;omega
    rw[hj2]at hz;obtain rfl:l=z:=by simpa using hz
    have hji:j=i:=by omega
    rw[hji,yg,hk]at hjr;cases hjr;exact e2
 ·rintro ys O1 ⟨ls,rfl,hli,hr,kp⟩;rw[length_map]at hli;refine zx (q _ ls _ kp.to ⟨zA,by rw[length_map];exact hli,λj l r a b=>tm.app _ _ (hr j l r a b)⟩)
def zkw(h':Rl R' ts')(s:S55 O n m R ts kvs)(q:∀(R2:List Nat)(ts2 kvs2:List (Nat×Nat)) (O':Mem),S55 O' n m R2 ts2 kvs2->KB [n,m] O O'->Q (.bl true) O'):WF zUg [.loc n,rlN R ts,rlN R' ts'] O Q:=by
 obtain⟨S,K⟩:=Td.ex s.sh.nd;have hf:=s.sh.few;have hl:=K.len;have w:Wb 30 R' (zng R' ts' S):=h'.wb (by omega);have hn0:=zC s.sh.at_;have hm0:=zC s.sh.dc;refine zFb rfl ?_;show WS zbh [some (.loc n),some (rlN R ts),some (rlN R' ts'),none,none,none,none,none] O _ _ _ _;unfold zbh;refine zE (zob (zw (zTc (zd rfl ⟨n,_,rfl,s.sh.at_,zKe _ m,zx (zjc s.sh K ?_)⟩))));have s1:=s.keep (O':=O++[tE.lst (nat S)]) tm.app;have e1:(O++[tE.lst (nat S)])[O.length]?=some (.lst (nat S)):=zA;have k1:tm O (O++[tE.lst (nat S)]):=tm.app;generalize O++[tE.lst (nat S)]=O1 at s1 e1 k1;have ha:O.length<=O.length:=yi _;generalize hae:O.length=a at e1 ha hn0 hm0;refine zE (zob (zHz rfl s1.sh K e1 λd4 O2 k2 g2 e2=>?_));have s2:=s1.keep k2;have k02:=k1.trans k2;have hd4:=zC e2;refine zE (zNj (zw (ze (zd rfl (ze (zd rfl (zx (zDo h' s2 K (λT l O3 sb hc hs k3 g3 e3=>?_) λkvs' O3 ft s3 pm k3=>?_))))))))
 ·have nf:¬zDp R' (zng R' ts' S):=zGr w (by rw[length_map];exact sb) hc;obtain⟨c1,c2,c3,c4⟩:=crowd53 K.pw sb hc hs;have hTl:T.length<=S.length:=by have:=sb.length_le;rwa [length_range]at this
  refine zkq (zsg (zud (zsg (zud (zxo ?_)))));refine zE (zwh (zO (zw (ze (zav h' (by omega) (k3 _ _ (k2 _ _ e1)) λwl ls O4 k4 rx=>zx (zfu w (by omega) rx λb O5 hb k5=>⟨_,rfl,λhbt=>?_,λ_=>zlb ?_⟩))))))
  ·exact absurd (hb.mp hbt) nf
  ·have k25:=k3.trans (k4.trans k5);have e5:=(k4.trans k5) _ _ e3;refine zE (zwh (zWi (zO (zq (zd rfl (w_c (zJz (p:=.str "nothing") (zpn (by decide +kernel)) (zpn (by decide +kernel)) ⟨_,rfl,λ_=>?_,λhb=>(by cases hb)⟩)))))));refine zFh (zO (zw (ze (zd rfl (ze (zd rfl (ze (zd rfl (zx (zFp h' (k25 _ _ (k2 _ _ e1)) e5 (by rw[length_map];omega) c1 c2 c3 c4 λO6 k6=>⟨_,rfl,λhb=>(by cases hb),λ_=>zlb ?_⟩))))))))));have e6:=k6 _ _ e5;refine zE (zJi (z8x (zd rfl ⟨l,_,rfl,e6,zSy e6 ?_⟩)));have k26:KB [l] O2 (O6.set l (.lst [])):=(KB.of_keep (k25.trans k6)).set (.inl (by simp));have s7:Sh (O6.set l (.lst [])) n m (rlN R ts) kvs:=s2.sh.kb k26 (by have:=zC s2.sh.at_;simp;omega) (by have:=zC s2.sh.dc;simp;omega);have d7:(O6.set l (.lst []))[d4]?=some (.dct (dkN (mkN kvs S))):=k26.at_ _ _ (by simp;omega) e2;generalize O6.set l (.lst [])=O7 at k26 s7 d7;have h02:=k02.len;have h1l:=k1.len;refine zwb (zw (ze (zd rfl (ze (zd rfl (ze (zd rfl (zx (zoo s.rl s7 s.rs (zKt s.sh.nd K) (zac d7) (by omega) λO8 k8 e8=>?_)))))))));refine q R ts kvs O8 ⟨s.rl,s7.kb k8 (by simp;omega) (by simp;omega),s.rs,s.bd⟩ ?_;have a1:KB [n,m] O O7:=(KB.of_keep k02).step k26 λi hi =>.inr (by rw[List.mem_singleton.mp hi];omega);exact a1.step k8 λi hi =>.inr (by rw[List.mem_singleton.mp hi];omega)
 ·refine zkq (zsg (zud (zsg (zud (zxo ?_)))));have h02:=k02.len;have h1l:=k1.len;have e3:O3[a]?=some (.lst (nat S)):=k3.at_ _ _ (by simp;omega) (k2 _ _ e1);refine zE (zwh (zO (zw (ze (zav h' (by omega) e3 λwl ls O4 k4 rx=>zx (zfu w (by omega) rx λb O5 hb k5=>⟨_,rfl,λ_=>?_,λhbf=>?_⟩))))))
  ·have k35:=k4.trans k5;have s5:=s3.keep k35;have K5:Td kvs' S:=⟨pm,K.pw⟩
   have k05:KB [n,m] O O5:=((KB.of_keep k02).trans k3).trans (KB.of_keep k35);refine zE (zob (zHz rfl s5.sh K5 (k35 _ _ e3) λd7 O6 k6 g6 e6=>?_));have s6:=s5.keep k6;have hn5:=zC s5.sh.at_;have hm5:=zC s5.sh.dc;refine zwb (zTx (zq (zd rfl (w_c (zNA rfl ⟨_,rfl,λ_=>?_,λhb=>(by cases hb)⟩)))));refine zTx (zq (zd rfl (w_c (zNA rfl ⟨_,rfl,λ_=>?_,λhb=>(by cases hb)⟩))));refine zw (ze (zd rfl (ze (zd rfl (ze (zd rfl (zx (zoo h' s6.sh s6.rs (zKt s6.sh.nd K5) (zac e6) (by omega) λO8 k8 e8=>?_))))))));refine q R' ts' kvs' O8 ⟨h',s6.sh.kb k8 (by simp;omega) (by simp;omega),s6.rs,s6.bd⟩ ?_;exact(k05.trans (KB.of_keep k6)).step k8 λi hi =>.inr (by rw[List.mem_singleton.mp hi];have:=k05.len;omega)
  ·rw[hb.mpr ft]at hbf;cases hbf
end
structure T53(ns:List Int)(O:Mem)(pl B n m:Nat)(R:List Nat)(ts kvs:List (Nat×Nat)):Prop where
 s:S55 O n m R ts kvs
 p:Tb ns O pl B
section
variable {ns:List Int}{O O':Mem}{pl B B' n m:Nat}{R:List Nat}{ts kvs:List (Nat×Nat)}{x0 x3 x4:Option D}{nx:M.Loc->Mem->Prop}{rt:D->Mem->Prop}{bk ct:M.Loc->Mem->Prop}
def T53.ne(t:T53 ns O pl B n m R ts kvs):pl≠n/\pl≠m:=by
 obtain⟨b,j,r,hj,e⟩:=t.p;exact⟨(by rintro rfl;rw[t.s.sh.at_]at e;cases e),(by rintro rfl;rw[t.s.sh.dc]at e;cases e)⟩
def T53.take(t:T53 ns O pl B n m R ts kvs)(k:KB [pl] O O')(p:Tb ns O' pl B'):T53 ns O' pl B' n m R ts kvs :=
 ⟨⟨t.s.rl,t.s.sh.kb k (SH t.ne.1) (SH t.ne.2),t.s.rs,t.s.bd⟩,p⟩
def T53.keep(t:T53 ns O pl B n m R ts kvs)(k:tm O O'):T53 ns O' pl B n m R ts kvs:=⟨t.s.keep k,t.p.keep k⟩
def T53.up(t:T53 ns O pl B n m R ts kvs)(h:B<=B'):T53 ns O pl B' n m R ts kvs:=⟨t.s,t.p.up h⟩
def zIw(t:T53 ns O pl B n m R ts kvs)(hB:B<=10000){v:D}(q:∀(kvs':List (Nat×Nat)) (O':Mem),T53 ns O' pl (B+2) n m R ts kvs'->nx [x0,some (.loc pl),some (.loc n),some v,x4] O'):WS zXp [x0,some (.loc pl),some (.loc n),some v,x4] O nx rt bk ct:=by
 obtain⟨S,K⟩:=Td.ex t.s.sh.nd;have hf:=t.s.sh.few;have hl:=K.len;unfold zXp;refine zMz (z9y (zTc (zd rfl ⟨n,_,rfl,t.s.sh.at_,zxw _ m,ze (zw (ze (zd rfl (ze (zw (zTc (zd rfl ⟨n,_,rfl,t.s.sh.at_,zKe _ m,zx (zjc t.s.sh K ?_)⟩)))))))⟩)));have t1:=t.keep (O':=O++[tE.lst (nat S)]) tm.app;have e1:(O++[tE.lst (nat S)])[O.length]?=some (.lst (nat S)):=zA;have ha:O.length≠pl:=by have:=t.p.lt;omega
 generalize O++[tE.lst (nat S)]=O1 at t1 e1 ⊢;generalize O.length=a at e1 ha ⊢;refine zx (zjw t1.p (by omega) e1 ha (by omega) (t1.s.key K) λk O2 hk k2 p2=>zx ?_);have t2:=t1.take k2 p2;refine zIz t.s.rl t2.s.sh K (t.s.key K) hk (λh e=>?_) (λV l O3 h0 pV hV hT k3 g3 e3=>?_) λrow lr O3 h0 h30 c k3 g3 e3 s3=>?_
 ·exact zLx (by decide +kernel) (z6w (by decide +kernel) (zob (zd rfl (q kvs O2 t2))))
 ·exact z6w (by decide +kernel) (zob (zd rfl (q kvs O3 (t2.keep k3))))
 ·refine q _ O3 ⟨⟨t.s.rl,s3,zAt t.s.rs t.s.sh.nd K h0 c,λx hx=>?_⟩,p2.kb k3 (by simp;exact t.ne.2)⟩;rcases(zki K c.1).mp hx with hx|rfl
  ·exact t.s.key K x hx
  ·exact hk
end
def z0v(ns:List Int)(_hn:ns.length<=63):∃O',zLs [.fz (ns.map .int)] []=some (.bl true,O'):=by
 have main:WF zLs [.fz (ns.map .int)] [] λd _=>d=.bl true:=by
  refine zFb rfl ?_;show WS z5v [some (.fz (ns.map .int)),none,none,none,none] [] _ _ _ _;unfold z5v;refine zE (zob (zw (ze (zd rfl (zx (zNy λO1 k1 p1 _=>?_))))));generalize ([]:Mem).length=pl at p1;refine zE (zob (zwx (ze (zw (ze (zd rfl (zx (z1l p1 (by omega) λR ts O2 hr k2 p2=>zx ⟨_,rfl,λn m O3 k3 _ _ _ _ s3=>?_⟩))))))));have t3:T53 ns O3 pl (0+30) n m R ts []:=⟨⟨hr,s3,⟨by simp,by simp⟩,by simp⟩,p2.keep k3⟩
  refine zE (zbf (zIg (ze (zw (ze (zd rfl (ze (w_c (zx (zMc (s:=16) t3.p (by omega) (by decide) (by decide) λv O4 hv k4 p4=>zx ⟨_,rfl,by omega,by omega,?_⟩))))))))));rw[yX];have t4:=t3.take k4 p4;refine zJb (λi J O=>∃(x3:Option D)(kvs:List (Nat×Nat)),J=[some (.fz (ns.map .int)),some (.loc pl),some (.loc n),x3,none]/\T53 ns O pl (31+2*i) n m R ts kvs) ⟨_,_,rfl,t4⟩ (λ_ _ _ _=>rfl) ?_ ?_
  ·rintro i x J O hx ⟨x3,kvs,rfl,t⟩;obtain⟨hi,rfl⟩:=zah hx;refine zud ?_;exact zIw t (by omega) λkvs' O' t'=>⟨_,_,rfl,t'⟩
  ·rintro J O5 ⟨x3,kvs,rfl,t5⟩;simp only[length_map,length_range]at t5;refine zE (zbf (zIg (ze (zq (w_c (zw (ze (zd rfl (ze (w_c (zx (zMc (s:=3) t5.p (by omega) (by decide) (by decide) λu O6 hu k6 p6=>zth (zx ⟨_,rfl,by omega,by omega,?_⟩)))))))))))));have eu:((1:Int)+(u:Nat)).toNat=u+1:=by omega
   rw[eu];have t6:=(t5.take k6 p6).up (B':=100) (by omega);refine zJb (λi J O=>∃(x4:Option D)(R:List Nat)(ts kvs:List (Nat×Nat)),J=[some (.fz (ns.map .int)),some (.loc pl),some (.loc n),x3,x4]/\T53 ns O pl (100+30*i) n m R ts kvs) ⟨_,_,_,_,rfl,t6⟩ (λ_ _ _ _=>rfl) ?_ ?_
   ·rintro i x J O hx ⟨x4,R,ts,kvs,rfl,t⟩;obtain⟨hi,rfl⟩:=zah hx;refine zud ?_;unfold zju;refine zwh (zFh (zO (zw (ze (zd rfl (ze (zw (zTc (zd rfl ⟨n,_,rfl,t.s.sh.at_,zIp _ m,zx (zrr t.s.sh (ze (zw (ze (zd rfl (zx (z1l t.p (by omega) λR' ts' O7 hr' k7 p7=>zx ?_)))))))⟩)))))))));have t7:=t.take k7 p7;refine zkw hr' t7.s λR2 ts2 kvs2 O8 s8 k8=>⟨_,rfl,λhb=>(by cases hb),λ_=>zlb ⟨_,R2,ts2,kvs2,rfl,s8,?_⟩⟩
    exact(t7.p.kb k8 (by simp;exact t7.ne)).up (by omega)
   ·rintro J O ⟨x4,R,ts,kvs,rfl,t⟩;exact zwb (w_c rfl)
 obtain⟨d,O',e,rfl⟩:=main;exact⟨O',e⟩
end P
namespace P
open PySem PySem.Spec PyProof.Rows L2 M
set_option maxHeartbeats 4000000
def ln1{α:Type}:∀{us:List α},us.length=1->∃a0,us=[a0]
 |[a0],_=>⟨a0,rfl⟩
def fa1{K:yx}{mg:yt->Option Value}{h:yT}{x p0:yt}{st:Yb}{f:yc}{fd:yh}(X:K.In h)(φ:h.Ns yo mg)(a:Yk K yo x=some (some (.ref f)))(u:Fun K x x st f fd)
 (b:∀(kV doc pm:Value)(an:Option yc)(cdv ct a0:Value),bindArgs (W.fnOf x x (zUd st) (zqc st) (zo st) .none kV doc pm an cdv ct) ⟨[a0],[]⟩=pure [(p0,a0)]):FnAt K mg x st [p0] f fd :=
 ⟨u,xI X φ a,u.binds λkV doc pm an cdv ct us hl=>by obtain⟨a0,rfl⟩:=ln1 hl;exact b kV doc pm an cdv ct a0⟩
def ln2{α:Type}:∀{us:List α},us.length=2->∃a0 a1,us=[a0,a1]
 |[a0,a1],_=>⟨a0,a1,rfl⟩
def fa2{K:yx}{mg:yt->Option Value}{h:yT}{x p0 p1:yt}{st:Yb}{f:yc}{fd:yh}(X:K.In h)(φ:h.Ns yo mg)(a:Yk K yo x=some (some (.ref f)))(u:Fun K x x st f fd)
 (b:∀(kV doc pm:Value)(an:Option yc)(cdv ct a0 a1:Value),bindArgs (W.fnOf x x (zUd st) (zqc st) (zo st) .none kV doc pm an cdv ct) ⟨[a0,a1],[]⟩=pure [(p0,a0),(p1,a1)]):FnAt K mg x st [p0,p1] f fd :=
 ⟨u,xI X φ a,u.binds λkV doc pm an cdv ct us hl=>by obtain⟨a0,a1,rfl⟩:=ln2 hl;exact b kV doc pm an cdv ct a0 a1⟩
def ln3{α:Type}:∀{us:List α},us.length=3->∃a0 a1 a2,us=[a0,a1,a2]
 |[a0,a1,a2],_=>⟨a0,a1,a2,rfl⟩
def fa3{K:yx}{mg:yt->Option Value}{h:yT}{x p0 p1 p2:yt}{st:Yb}{f:yc}{fd:yh}(X:K.In h)(φ:h.Ns yo mg)(a:Yk K yo x=some (some (.ref f)))(u:Fun K x x st f fd)
 (b:∀(kV doc pm:Value)(an:Option yc)(cdv ct a0 a1 a2:Value),bindArgs (W.fnOf x x (zUd st) (zqc st) (zo st) .none kV doc pm an cdv ct) ⟨[a0,a1,a2],[]⟩=pure [(p0,a0),(p1,a1),(p2,a2)]):FnAt K mg x st [p0,p1,p2] f fd :=
 ⟨u,xI X φ a,u.binds λkV doc pm an cdv ct us hl=>by obtain⟨a0,a1,a2,rfl⟩:=ln3 hl;exact b kV doc pm an cdv ct a0 a1 a2⟩
def ln4{α:Type}:∀{us:List α},us.length=4->∃a0 a1 a2 a3,us=[a0,a1,a2,a3]
 |[a0,a1,a2,a3],_=>⟨a0,a1,a2,a3,rfl⟩
def fa4{K:yx}{mg:yt->Option Value}{h:yT}{x p0 p1 p2 p3:yt}{st:Yb}{f:yc}{fd:yh}(X:K.In h)(φ:h.Ns yo mg)(a:Yk K yo x=some (some (.ref f)))(u:Fun K x x st f fd)
 (b:∀(kV doc pm:Value)(an:Option yc)(cdv ct a0 a1 a2 a3:Value),bindArgs (W.fnOf x x (zUd st) (zqc st) (zo st) .none kV doc pm an cdv ct) ⟨[a0,a1,a2,a3],[]⟩=pure [(p0,a0),(p1,a1),(p2,a2),(p3,a3)]):FnAt K mg x st [p0,p1,p2,p3] f fd :=
 ⟨u,xI X φ a,u.binds λkV doc pm an cdv ct us hl=>by obtain⟨a0,a1,a2,a3,rfl⟩:=ln4 hl;exact b kV doc pm an cdv ct a0 a1 a2 a3⟩
def all_of{l:W.OpenLaw}{w:yI}{K:yx}{h:yT}{mg:yt->Option Value}{fa:yc}(X:K.In h)(φ:h.Ns yo mg)(hfa:mg "law"=some (.ref fa))(e:Hd.obs K=Hd.good)
 : ∃fd:yh,(∀(s:yd)(v:Value),BindsTo s fd ⟨[v],[]⟩ [("_law_script",v)])/\∀base:yT,K.In base->base.Ns yo mg->tq l.prog w K mg base CX0 16 fa fd ["_law_script"] (spM K 1 zLs):=by
 have e_fn:=congrArg (·.1) e;have e_vv:=congrArg (·.2.1) e;have e_it:=congrArg (·.2.2.1) e;have e_bb:=congrArg (·.2.2.2.1) e;have e_ob:=congrArg (·.2.2.2.2.1) e;have e_ov:=congrArg (·.2.2.2.2.2.1) e;have e_cf:=congrArg (·.2.2.2.2.2.2.1) e;have e_ex:=congrArg (·.2.2.2.2.2.2.2) e;obtain⟨⟨_,_,a0,u0⟩,e_fn⟩:=fnc e_fn;have zZg:FnAt K mg "_law_pen" zih ztd _ _:=fa1 X φ a0 u0 λ_ _ _ _ _ _ _=>rfl;obtain⟨pn_Shelf,e_vv⟩:=ye e_vv;obtain⟨pg_Shelf,e_bb⟩:=ye e_bb;obtain⟨ph_Shelf,e_bb⟩:=ye e_bb;obtain⟨po_Shelf,e_bb⟩:=ye e_bb;obtain⟨ps0_Shelf,e_vv⟩:=ye e_vv;have cl_Shelf:Cls K 280:=⟨pg_Shelf,ph_Shelf,po_Shelf,ps0_Shelf⟩
 obtain⟨na,e_vv⟩:=ye e_vv;have tF:z9r K "Shelf" "nest_of":=λC h=>by rw[pn_Shelf]at h;cases h;exact⟨cl_Shelf,na⟩
 obtain⟨na,e_vv⟩:=ye e_vv;have tJ:z9r K "Shelf" "kept_rule":=λC h=>by rw[pn_Shelf]at h;cases h;exact⟨cl_Shelf,na⟩
 obtain⟨ma,e_vv⟩:=ye e_vv;obtain⟨mb,e_bb⟩:=ye e_bb;obtain⟨_,_,_,_,_,_,_,_,_,ml,mc,mk⟩:=zJc (ye e_fn).1;replace e_fn:=(ye e_fn).2;have u1:=zHe (st:=z6b) ml mc mk;obtain⟨mm,e_bb⟩:=ye e_bb;obtain⟨mq,e_bb⟩:=ye e_bb;have zLc:sY K mg "Shelf" z6b zgb _ _ _:=⟨pn_Shelf,xI X φ pn_Shelf,⟨mm,ma,mb,mq⟩,u1,(u1.binds (ps:=zgb) λ_ _ _ _ _ _ us hl=>by obtain⟨_,_,rfl⟩:=ln2 hl;rfl)⟩
 obtain⟨⟨_,_,a2,u2⟩,e_fn⟩:=fnc e_fn;have zSe:FnAt K mg "_law_mixed" zDe zuc _ _:=fa2 X φ a2 u2 λ_ _ _ _ _ _ _ _=>rfl;obtain⟨⟨_,_,a3,u3⟩,e_fn⟩:=fnc e_fn;have zQ:FnAt K mg "_law_take" zsd zub _ _:=fa2 X φ a3 u3 λ_ _ _ _ _ _ _ _=>rfl;obtain⟨⟨_,_,a4,u4⟩,e_fn⟩:=fnc e_fn;have zve:FnAt K mg "_law_rule" zJf zYc _ _:=fa1 X φ a4 u4 λ_ _ _ _ _ _ _=>rfl;obtain⟨ma,e_vv⟩:=ye e_vv;obtain⟨mb,e_bb⟩:=ye e_bb;obtain⟨_,_,_,_,_,_,_,_,_,ml,mc,mk⟩:=zJc (ye e_fn).1;replace e_fn:=(ye e_fn).2;have u5:=zHe (st:=zrd) ml mc mk;have zRc:MethAt K "Shelf" "has" "Shelf.has" zrd zGb _ _ _:=⟨pn_Shelf,cl_Shelf,⟨ma,mb,mk⟩,u5,(u5.binds (ps:=zGb) λ_ _ _ _ _ _ us hl=>by obtain⟨_,_,rfl⟩:=ln2 hl;rfl)⟩
 obtain⟨⟨_,_,a6,u6⟩,e_fn⟩:=fnc e_fn;have z9n:FnAt K mg "lying" zfo zgh _ _:=fa2 X φ a6 u6 λ_ _ _ _ _ _ _ _=>rfl;obtain⟨⟨_,_,a7,u7⟩,e_fn⟩:=fnc e_fn;have z5f:FnAt K mg "pushes_to" z4f zZc _ _:=fa3 X φ a7 u7 λ_ _ _ _ _ _ _ _ _=>rfl;obtain⟨⟨_,_,a8,u8⟩,e_fn⟩:=fnc e_fn;have To:FnAt K mg "left" zxm zaf _ _:=fa2 X φ a8 u8 λ_ _ _ _ _ _ _ _=>rfl;obtain⟨⟨_,_,a9,u9⟩,e_fn⟩:=fnc e_fn;have zHk:FnAt K mg "row_to" zEk zff _ _:=fa2 X φ a9 u9 λ_ _ _ _ _ _ _ _=>rfl;obtain⟨⟨_,_,a10,u10⟩,e_fn⟩:=fnc e_fn;have zEf:FnAt K mg "put_in" zgi zMd _ _:=fa3 X φ a10 u10 λ_ _ _ _ _ _ _ _ _=>rfl;obtain⟨ma,e_vv⟩:=ye e_vv;obtain⟨mb,e_bb⟩:=ye e_bb;obtain⟨_,_,_,_,_,_,_,_,_,ml,mc,mk⟩:=zJc (ye e_fn).1;replace e_fn:=(ye e_fn).2;have u11:=zHe (st:=zR) ml mc mk;have zr:MethAt K "Shelf" "all_there" "Shelf.all_there" zR zz _ _ _:=⟨pn_Shelf,cl_Shelf,⟨ma,mb,mk⟩,u11,(u11.binds (ps:=zz) λ_ _ _ _ _ _ us hl=>by obtain⟨_,rfl⟩:=ln1 hl;rfl)⟩
 obtain⟨⟨_,_,a12,u12⟩,e_fn⟩:=fnc e_fn;have zzn:FnAt K mg "homes" zkn z3g _ _:=fa2 X φ a12 u12 λ_ _ _ _ _ _ _ _=>rfl;obtain⟨⟨_,_,a13,u13⟩,e_fn⟩:=fnc e_fn;have zzd:FnAt K mg "web_of" zhh zDc _ _:=fa2 X φ a13 u13 λ_ _ _ _ _ _ _ _=>rfl;obtain⟨ma,e_vv⟩:=ye e_vv;obtain⟨mb,e_bb⟩:=ye e_bb;obtain⟨_,_,_,_,_,_,_,_,_,ml,mc,mk⟩:=zJc (ye e_fn).1;replace e_fn:=(ye e_fn).2;have u14:=zHe (st:=zbc) ml mc mk;have zIb:MethAt K "Shelf" "laying" "Shelf.laying" zbc zdb _ _ _:=⟨pn_Shelf,cl_Shelf,⟨ma,mb,mk⟩,u14,(u14.binds (ps:=zdb) λ_ _ _ _ _ _ us hl=>by obtain⟨_,rfl⟩:=ln1 hl;rfl)⟩
 obtain⟨ma,e_vv⟩:=ye e_vv;obtain⟨mb,e_bb⟩:=ye e_bb;obtain⟨_,_,_,_,_,_,_,_,_,ml,mc,mk⟩:=zJc (ye e_fn).1;replace e_fn:=(ye e_fn).2;have u15:=zHe (st:=zte) ml mc mk;have zGf:MethAt K "Shelf" "put" "Shelf.put" zte ztc _ _ _:=⟨pn_Shelf,cl_Shelf,⟨ma,mb,mk⟩,u15,(u15.binds (ps:=ztc) λ_ _ _ _ _ _ us hl=>by obtain⟨_,_,rfl⟩:=ln2 hl;rfl)⟩
 obtain⟨⟨_,_,a16,u16⟩,e_fn⟩:=fnc e_fn;have zco:FnAt K mg "fault" zAn z2g _ _:=fa2 X φ a16 u16 λ_ _ _ _ _ _ _ _=>rfl;obtain⟨⟨_,_,a17,u17⟩,e_fn⟩:=fnc e_fn;have znj:FnAt K mg "is_push" zij zje _ _:=fa4 X φ a17 u17 λ_ _ _ _ _ _ _ _ _ _=>rfl;obtain⟨⟨_,_,a18,u18⟩,e_fn⟩:=fnc e_fn;have zLi:FnAt K mg "follows" zpj zge _ _:=fa4 X φ a18 u18 λ_ _ _ _ _ _ _ _ _ _=>rfl;obtain⟨⟨_,_,a19,u19⟩,e_fn⟩:=fnc e_fn;have ztk:FnAt K mg "pushed" zyk znf _ _:=fa4 X φ a19 u19 λ_ _ _ _ _ _ _ _ _ _=>rfl;obtain⟨⟨_,_,a20,u20⟩,e_fn⟩:=fnc e_fn;have z6f:FnAt K mg "laid_more" z0f zSc _ _:=fa3 X φ a20 u20 λ_ _ _ _ _ _ _ _ _=>rfl;obtain⟨⟨_,_,a21,u21⟩,e_fn⟩:=fnc e_fn;have z2d:FnAt K mg "laid_at_all" zYd zec _ _:=fa1 X φ a21 u21 λ_ _ _ _ _ _ _=>rfl;obtain⟨⟨_,_,a22,u22⟩,e_fn⟩:=fnc e_fn;have zqi:FnAt K mg "room_of" zgj zke _ _:=fa2 X φ a22 u22 λ_ _ _ _ _ _ _ _=>rfl;obtain⟨⟨_,_,a23,u23⟩,e_fn⟩:=fnc e_fn;have zoh:FnAt K mg "homes_of" zdh zkd _ _:=fa2 X φ a23 u23 λ_ _ _ _ _ _ _ _=>rfl;obtain⟨⟨_,_,a24,u24⟩,e_fn⟩:=fnc e_fn;have zjh:FnAt K mg "is_crowd" z9g zpd _ _:=fa2 X φ a24 u24 λ_ _ _ _ _ _ _ _=>rfl;obtain⟨⟨_,_,a25,u25⟩,e_fn⟩:=fnc e_fn;have zwe:FnAt K mg "spare_key" zUf zXc _ _:=fa2 X φ a25 u25 λ_ _ _ _ _ _ _ _=>rfl;obtain⟨⟨_,_,a26,u26⟩,e_fn⟩:=fnc e_fn;have zui:FnAt K mg "trimmed" zOi zie _ _:=fa2 X φ a26 u26 λ_ _ _ _ _ _ _ _=>rfl;obtain⟨⟨_,_,a27,u27⟩,e_fn⟩:=fnc e_fn;have zDk:FnAt K mg "fitted" zqk zrf _ _:=fa1 X φ a27 u27 λ_ _ _ _ _ _ _=>rfl;obtain⟨ma,e_vv⟩:=ye e_vv;obtain⟨mb,e_bb⟩:=ye e_bb;obtain⟨_,_,_,_,_,_,_,_,_,ml,mc,mk⟩:=zJc (ye e_fn).1;replace e_fn:=(ye e_fn).2;have u28:=zHe (st:=z7c) ml mc mk;have zae:MethAt K "Shelf" "renew" "Shelf.renew" z7c zMb _ _ _:=⟨pn_Shelf,cl_Shelf,⟨ma,mb,mk⟩,u28,(u28.binds (ps:=zMb) λ_ _ _ _ _ _ us hl=>by obtain⟨_,_,rfl⟩:=ln2 hl;rfl)⟩
 obtain⟨⟨_,_,a29,u29⟩,e_fn⟩:=fnc e_fn;have zAd:FnAt K mg "_law_renewed" zEd zUb _ _:=fa2 X φ a29 u29 λ_ _ _ _ _ _ _ _=>rfl;obtain⟨⟨_,_,a30,u30⟩,e_fn⟩:=fnc e_fn;have z3b:FnAt K mg "_law_room" zid zvb _ _:=fa3 X φ a30 u30 λ_ _ _ _ _ _ _ _ _=>rfl;obtain⟨⟨_,_,a31,u31⟩,e_fn⟩:=fnc e_fn;have zxd:FnAt K mg "_law_laid_by" zdc z6 _ _:=fa4 X φ a31 u31 λ_ _ _ _ _ _ _ _ _ _=>rfl;obtain⟨⟨_,_,a32,u32⟩,e_fn⟩:=fnc e_fn;have zch:FnAt K mg "_law_fit" zqh znd _ _:=fa1 X φ a32 u32 λ_ _ _ _ _ _ _=>rfl;obtain⟨⟨_,_,a33,u33⟩,e_fn⟩:=fnc e_fn;have zvc:FnAt K mg "_law_wholes" z9d z9b _ _:=fa2 X φ a33 u33 λ_ _ _ _ _ _ _ _=>rfl;obtain⟨ma,e_vv⟩:=ye e_vv;obtain⟨mb,e_bb⟩:=ye e_bb;obtain⟨_,_,_,_,_,_,_,_,_,ml,mc,mk⟩:=zJc (ye e_fn).1;replace e_fn:=(ye e_fn).2;have u34:=zHe (st:=zHd) ml mc mk;have zVe:MethAt K "Shelf" "left" "Shelf.left" zHd z1b _ _ _:=⟨pn_Shelf,cl_Shelf,⟨ma,mb,mk⟩,u34,(u34.binds (ps:=z1b) λ_ _ _ _ _ _ us hl=>by obtain⟨_,rfl⟩:=ln1 hl;rfl)⟩
 obtain⟨ma,e_vv⟩:=ye e_vv;obtain⟨mb,e_bb⟩:=ye e_bb;obtain⟨_,_,_,_,_,_,_,_,_,ml,mc,mk⟩:=zJc (ye e_fn).1;replace e_fn:=(ye e_fn).2;have u35:=zHe (st:=zVc) ml mc mk;have zmc:MethAt K "Shelf" "rule" "Shelf.rule" zVc zqb _ _ _:=⟨pn_Shelf,cl_Shelf,⟨ma,mb,mk⟩,u35,(u35.binds (ps:=zqb) λ_ _ _ _ _ _ us hl=>by obtain⟨_,rfl⟩:=ln1 hl;rfl)⟩
 obtain⟨ma,e_vv⟩:=ye e_vv;obtain⟨mb,e_bb⟩:=ye e_bb;obtain⟨_,_,_,_,_,_,_,_,_,ml,mc,mk⟩:=zJc (ye e_fn).1;replace e_fn:=(ye e_fn).2;have u36:=zHe (st:=zyc) ml mc mk;have zEb:MethAt K "Shelf" "where" "Shelf.where" zyc zib _ _ _:=⟨pn_Shelf,cl_Shelf,⟨ma,mb,mk⟩,u36,(u36.binds (ps:=zib) λ_ _ _ _ _ _ us hl=>by obtain⟨_,_,rfl⟩:=ln2 hl;rfl)⟩
 obtain⟨⟨_,_,a37,u37⟩,e_fn⟩:=fnc e_fn;have ztb:FnAt K mg "_law_homes" z0c zjb _ _:=fa2 X φ a37 u37 λ_ _ _ _ _ _ _ _=>rfl;obtain⟨ma,e_vv⟩:=ye e_vv;obtain⟨mb,e_bb⟩:=ye e_bb;obtain⟨_,_,_,_,_,_,_,_,_,ml,mc,mk⟩:=zJc (ye e_fn).1;replace e_fn:=(ye e_fn).2;have u38:=zHe (st:=zKd) ml mc mk;have zRe:MethAt K "Shelf" "nest" "Shelf.nest" zKd z5b _ _ _:=⟨pn_Shelf,cl_Shelf,⟨ma,mb,mk⟩,u38,(u38.binds (ps:=z5b) λ_ _ _ _ _ _ us hl=>by obtain⟨_,_,rfl⟩:=ln2 hl;rfl)⟩
 obtain⟨⟨_,_,a39,u39⟩,e_fn⟩:=fnc e_fn;have zHc:FnAt K mg "_law_is_kept" zCd zRb _ _:=fa3 X φ a39 u39 λ_ _ _ _ _ _ _ _ _=>rfl;obtain⟨⟨_,_,a40,u40⟩,e_fn⟩:=fnc e_fn;have z3c:FnAt K mg "_law_excess" zce zcc _ _:=fa2 X φ a40 u40 λ_ _ _ _ _ _ _ _=>rfl;obtain⟨⟨_,_,a41,u41⟩,e_fn⟩:=fnc e_fn;have zbd:FnAt K mg "_law_is_crowd" z6c zBb _ _:=fa3 X φ a41 u41 λ_ _ _ _ _ _ _ _ _=>rfl;obtain⟨⟨_,_,a42,u42⟩,e_fn⟩:=fnc e_fn;have znh:FnAt K mg "_law_one" zph zqd _ _:=fa3 X φ a42 u42 λ_ _ _ _ _ _ _ _ _=>rfl;obtain⟨⟨_,_,a43,u43⟩,e_fn⟩:=fnc e_fn;have z0g:FnAt K mg "_law_key" zXg zod _ _:=fa2 X φ a43 u43 λ_ _ _ _ _ _ _ _=>rfl;obtain⟨⟨f44,oc44,od44,sl44,kV44,dc44,pm44,an44,cd44,ct44,a44,l44,c44,k44⟩,e_fn⟩:=fnl e_fn;have u44:=zHe (st:=zTp) l44 c44 k44;have zlB:FnAt K mg "law" zTp zYq _ _:=fa1 X φ a44 u44 λ_ _ _ _ _ _ _=>rfl;have e:=hfa.symm.trans (xI X φ a44);cases e;obtain⟨za,e_vv⟩:=ye e_vv;obtain⟨zc,e_vv⟩:=ye e_vv;have tW:mg "left_layings"=mg "left":=(xI X φ za).trans (xI X φ zc).symm;obtain⟨zVB,e_vv⟩:=ye e_vv;obtain⟨zoA,e_vv⟩:=ye e_vv;obtain⟨z7z,e_vv⟩:=ye e_vv;obtain⟨zwq,e_vv⟩:=ye e_vv;obtain⟨zoB,e_vv⟩:=ye e_vv;obtain⟨zfp,e_vv⟩:=ye e_vv;obtain⟨z4A,e_vv⟩:=ye e_vv;obtain⟨zGz,e_vv⟩:=ye e_vv;obtain⟨zgy,e_vv⟩:=ye e_vv;obtain⟨zSs,e_vv⟩:=ye e_vv;obtain⟨z7A,e_vv⟩:=ye e_vv;obtain⟨zlv,e_vv⟩:=ye e_vv;obtain⟨zuB,e_vv⟩:=ye e_vv;obtain⟨z7y,e_vv⟩:=ye e_vv;obtain⟨t_DIVISOR,v_DIVISOR⟩:=zEo (ye e_it).1;replace e_it:=(ye e_it).2;obtain⟨t_MOST_KEYS,v_MOST_KEYS⟩:=zEo (ye e_it).1;replace e_it:=(ye e_it).2;obtain⟨zVh,e_vv⟩:=ye e_vv;obtain⟨zgq,e_bb⟩:=ye e_bb;obtain⟨zqg,e_vv⟩:=ye e_vv;obtain⟨zEp,e_bb⟩:=ye e_bb;obtain⟨z7g,e_vv⟩:=ye e_vv;obtain⟨z0n,e_bb⟩:=ye e_bb;obtain⟨xe_Twice,e_bb⟩:=ye e_bb;obtain⟨zrn,e_ob⟩:=ye e_ob;obtain⟨zmm,e_ob⟩:=ye e_ob;obtain⟨zep,e_ob⟩:=ye e_ob;obtain⟨zXn,e_ob⟩:=ye e_ob;obtain⟨i4,e_bb⟩:=ye e_bb;obtain⟨i7,e_vv⟩:=ye e_vv;obtain⟨i8,e_bb⟩:=ye e_bb;obtain⟨i9,e_cf⟩:=ye e_cf;obtain⟨_,_,_,_,_,_,_,_,_,_,_,_,_,_,zRx⟩:=zaw (ye e_ex).1;replace e_ex:=(ye e_ex).2;obtain⟨zvx,e_vv⟩:=ye e_vv;obtain⟨zEy,e_ov⟩:=ye e_ov;obtain⟨z0x,e_vv⟩:=ye e_vv;obtain⟨z4s,e_vv⟩:=ye e_vv;obtain⟨zBy,e_bb⟩:=ye e_bb;obtain⟨_,_,_,_,_,_,_,_,_,zot,zxu,z8s⟩:=zJc (ye e_fn).1;replace e_fn:=(ye e_fn).2;obtain⟨_,zDy⟩:=zhv (ye e_bb).1;replace e_bb:=(ye e_bb).2;obtain⟨zux,e_vv⟩:=ye e_vv;obtain⟨zuy,e_vv⟩:=ye e_vv;obtain⟨zhy,e_ob⟩:=ye e_ob;obtain⟨zvy,e_vv⟩:=ye e_vv;obtain⟨zUx,e_ob⟩:=ye e_ob;obtain⟨q4,e_vv⟩:=ye e_vv;obtain⟨q5,e_ob⟩:=ye e_ob;have T:Txt K mg:=⟨⟨63,zVh,xI X φ zVh,zgq⟩,⟨31,zqg,xI X φ zqg,zEp⟩,⟨44,z7g,xI X φ z7g,z0n⟩,(λC h=>by rw[z7g]at h;cases h;exact xe_Twice),(λC h=>by rw[zVh]at h;cases h;exact(sj.cons z7g z0n zrn (sj.cons zVh zgq zep sj.nil))),(λC h=>by rw[z7g]at h;cases h;exact(sj.cons z7g z0n zmm (sj.cons zVh zgq zXn sj.nil))),tF,tJ,tW,⟨λC h=>by rw[zVh]at h;cases h;exact⟨⟨by rw[zDy];rfl,zux,zuy,zhy,zvy,q4,q5,zUx⟩,z4s,zBy⟩⟩,YJ X φ zVB,YJ X φ zoA,YJ X φ z7z,YJ X φ zwq,YJ X φ zoB,YJ X φ zfp,YJ X φ z4A,YJ X φ zGz,YJ X φ zgy,YJ X φ zSs,YJ X φ z7A,YJ X φ zlv,YJ X φ zuB,YJ X φ z7y,⟨t_DIVISOR,xI X φ v_DIVISOR⟩,⟨t_MOST_KEYS,xI X φ v_MOST_KEYS⟩⟩
 refine⟨W.fnOf "law" "law" (zUd zTp) (zqc zTp) (zo zTp) .none kV44 dc44 pm44 an44 cd44 ct44,λs v =>.of_eq rfl,λbase _ _=>?_⟩;have tH:SA K mg "Full" "some" "Full.__init__" zPc zrb _ _ _ _:=⟨zVh,xI X φ zqg,⟨⟨_,_,_,_,_,_,_,_,_,_,_,_,_,_,zRx⟩,zvx,zEy,i4,z0x,z4s,i7,i8,i9⟩,(zHe (st:=zPc) zot zxu z8s),(zHe (st:=zPc) zot zxu z8s).binds (ps:=zrb) λ_ _ _ _ _ _ us hl=>by obtain⟨_,_,rfl⟩:=ln2 hl;rfl⟩
 have tV:=zln (P:=l.prog) (w:=w) (base:=base) T tH;have zWh:=zzo (P:=l.prog) (w:=w) (base:=base) T zZg;have zld:=zxi (P:=l.prog) (w:=w) (base:=base) T zLc;have zOf:=zgm (P:=l.prog) (w:=w) (base:=base) T zSe;have zN:=zZn T zSe zOf zQ;have zYe:=zun T zQ zN zve;have zUc:=zPn (P:=l.prog) (w:=w) (base:=base) T zRc;have zdo:=zgu (P:=l.prog) (w:=w) (base:=base) T z9n;have zKg:=zmn T z9n zdo z5f;have z1f:=zLv (P:=l.prog) (w:=w) (base:=base) T To;have z2k:=zHs (P:=l.prog) (w:=w) (base:=base) T zHk;have zgf:=zhs T z5f zKg To z1f zHk z2k zEf;have zp:=z3h (P:=l.prog) (w:=w) (base:=base) T zr;have zeo:=zcv (P:=l.prog) (w:=w) (base:=base) T zzn;have z5c:=zMs T zzn zeo zzd;have zSb:=zpk T zr zp zIb;have zvg:=z5n T zRc zUc zEf zgf zr zp zzd z5c zIb zSb tH tV zGf;have zEn:=zjv T To z1f zco;have zKj:=zvq (P:=l.prog) (w:=w) (base:=base) T znj;have zOj:=z4p (P:=l.prog) (w:=w) (base:=base) T zLi;have zXl:=zls T zco zEn znj zKj zLi zOj ztk;have zSg:=ztn T zEf zgf ztk zXl z6f;have z3e:=zpl T z6f zSg z2d;have zAj:=zyq (P:=l.prog) (w:=w) (base:=base) T zqi;have z0h:=zXo (P:=l.prog) (w:=w) (base:=base) T zoh;have z5h:=zYo T zqi zAj zoh z0h zjh;have zGe:=zGn T zjh z5h zwe;have zIj:=zGq T zwe zGe zui;have z3l:=zrs T z2d z3e zui zIj zDk;have z5e:=zjl T zr zp zDk z3l zzd z5c tH tV zae;have zqe:=zok T zae z5e zAd;have zWb:=zJn (P:=l.prog) (w:=w) (base:=base) T z3b;have zne:=zlk T z3b zWb zxd;have z9h:=z4o T zxd zne zch;have zCc:=zyl (P:=l.prog) (w:=w) (base:=base) T zvc;have z2f:=z8l T To z1f zzd z5c zIb zSb zr zp zVe;have zxc:=zdm (P:=l.prog) (w:=w) (base:=base) T zmc;have zKb:=zYk (P:=l.prog) (w:=w) (base:=base) T zEb;have zpb:=zkm (P:=l.prog) (w:=w) (base:=base) T ztb;have zXf:=zjm T zr zp zRe;have z9c:=zjk T zvc zCc zVe z2f zmc zxc zr zp zRc zUc zEb zKb ztb zpb zRe zXf zHc;have zwd:=z3k T ztb zpb z3c;have zQd:=ztj T z3c zwd zbd;have zUh:=z2o T zr zp zAd zqe zch z9h zHc z9c zbd zQd zEb zKb ztb zpb znh;have z8h:=zLo T zQ zN z0g;exact z1y T zZg zWh zLc zld zve zYe zQ zN zGf zvg znh zUh z0g z8h zmc zxc zr zp zlB
def walk{l:W.OpenLaw}{q:yA}{loose:List yt}{XP:(yt->Option Value)->yT->Prop}{YP:yI->yT->Prop}{d:DefRec}{K:Params->yx}(hn:l.most=some 63)(hdf:d.params.defaults=[])
 (hY:∀(w:yI)(h:yT),YP w h->(K w.params).In h)
 (F:∀(w:yI)(mg:yt->Option Value)(fa:yc)(h:yT),(K w.params).In h->h.Ns yo mg->mg d.name=some (.ref fa) ->
  ∃fd:yh,(∀(s:yd)(u:Value),BindsTo s fd ⟨[u],[]⟩ [("_law_script",u)])/\∀base:yT,(K w.params).In base->base.Ns yo mg->tq l.prog w (K w.params) mg base CX0 16 fa fd ["_law_script"] (spM (K w.params) 1 zLs)) :
 W.WalkO q loose XP YP l.row.toRowW d [] (λf vs=>PySem.call f vs) :=
 L2.walk_of (n:=63) (k:=16) (x:="_law_script") (CX:=λ_=>CX0) (sp:=λw=>spM (K w.params) 1 zLs) hn (by decide) hdf (by first|exact⟨rfl,by decide,by decide,rfl⟩|exact⟨rfl,by decide,by decide⟩) hY F (λ_ _ a ns hl hO hS=>zhA (z0v ns hl) hO hS) λ_ _ _ _ _ z=>z
end P
open PySem PySem.W PyProof.Rows
set_option maxRecDepth 100000 in
set_option maxHeartbeats 0 in
theorem PySem.Challenge.cw_keynests_k53_shelves_renewed_holds : PySem.Challenge.rw_keynests_k53_shelves_renewed.Holds := by
 refine M.SR (l:=xJ) (q:=Hd.qv) (loose:=Hd.lse) (d:=Hd.dl) (obs:=Hd.obs) (good:=Hd.good) (N:=60000) Hd.hd1 Hd.hd2 Hd.hd3 Hd.hd4 Hd.hd5 Hd.hd6 Hd.hd7 ?hw λK e=>?_
 case hw=>w_witness2
 exact P.walk (l:=xJ) (K:=λ_=>K) (by rfl) (by rfl) (λw h σ=>σ) λw mg fa h KX φ hmg=>P.all_of KX φ hmg e
