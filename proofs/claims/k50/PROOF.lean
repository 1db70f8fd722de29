import PyProof.Rows.All
import Lean
import KE.KTryDeep
import KE.IntBitsLaws
import KE.KDictList
import PySem.Challenge.RW_keynests_k50_keys_put_in
import KE.KIsAll
import KE.KRevIter
import KE.KDictOf
import KE.KItem
set_option autoImplicit false
open List renaming all_cons→La,any_cons→Lb,any_eq_true→Lc,any_map→Ld,append_assoc→Le,append_nil→Lf,countP_cons→Lg,count_append→Lh,drop_eq_getElem_cons→Li,ext_getElem?→Lj,filterMap_cons→Lk,filter_congr→Lm,filter_sublist→Ln,flatten_cons→Lo,getD_eq_getElem?_getD→Lp,getElem_mem→Lq,length_append→Lr,length_cons→Ls,length_filter_le→Lu,length_map→Lv,length_range→Lw,length_set→Lx,length_singleton→Ly,length_take→Lz,lookup_cons→Na,lookup_nil→Nb,mapM_cons→Nc,map_append→Nd,map_congr_left→Nf,map_cons→Ng,map_map→Nh,map_nil→Ni,mem_append→Nj,mem_append_left→Nk,mem_append_right→Nm,mem_cons→Nn,mem_cons_of_mem→No,mem_cons_self→Np,mem_filter→Nq,mem_map→Nr,mem_of_getElem?→Nt,mem_range→Nu,mergeSort_perm→Nv,nil_append→Nw,nodup_append→Nx,nodup_cons→Ny,not_mem_nil→Nz,of_mem_zip→Va,pairwise_map→Vb,replicate_succ→Vc,size_toArray→Vd,sum_cons→Ve,take_add_one→Vf,take_append_drop→Vg,take_length→Vh,take_sublist→Vi,take_succ→Vj
set_option maxRecDepth 100000
set_option linter.all false
set_option Elab.async false
open PySem renaming wpAny_bind→ya,Shared→yc,wpAny_pure→ye,Addr→yf,starEach→yj,wpAny→yo,mainGlobals→yp,Str→yt,model→yv,Program→yy,Expr→yE,sizeLine→yF,World→yI,Around→yJ,bootBuiltins→yM,wpAny_holding→yQ,Heap→yT,wpAny_mono→yU,FuncData→yV,wpAny_newObj_type→yY,Stmt→Yb,wpAny_call_entry→Yc,eval→Yd,mem_of_lookup→Yg,wpAny_callSpecial?_slot→Yi,backTo→Yl,sizeLine_eq→Yo,cellsFrom→Yt,assignEach→Yy,compareOp→Yz,attributeBase→YB,codeAny_builtin→YE,foldedSetIterable→YH,codeAny_mono→YI,rawInt→YJ,wpAny_field→YK,wpAny_loadPart_at→YN,Obj→YS,keywordEach→YT,wpAny_standAt→YW,wpAny_setField→YY,wpAny_setState_of→YZ,wpAny_ite_split→xb,Builtin→xi,plainId_quiet→xj,NameKind→xk,codeAny_call_builtin→xl,excClassObj→xm,Pos→xn,wpAny_specialOf→xp,wpAny_isSubtype_exc→xr,holding→xt,binaryOp→xw,wpAny_Call_Name_kw→xy,SetTable→xz,swapsWith→xD,wpAny_passesOwn→xE,codeAny→xM,Keyword→xN,wpAny_setEntries_of→xO,backToKw→xP,PyData→xQ,Scope→xS,pyNext→xW,wpAny_setField_rec→Xb,wpAny_execs_nil→Xd,builtinLookup_eq_fast→Xj,wpAny_pyIter_list→Xl,wpAny_call→Xp,typeLookup→Xq,call_meets→Xr,wpAny_typeOf→Xx,wpAny_isInstance→Xy
open PySem.Heap renaming get?_push_of_some→yb,lt_size→yn,get?_push_size→yq,get?_update_self→yO,get?_update_other→Yh,SameBut→Yq,size_push→Yu,ExtBut→Xu
open List.cons renaming inj→yd,injEq→xF
open List renaming getElem?_append_left→yg,getElem?_map→yi,getElem?_eq_getElem→yk,range→yB,getElem?_append_right→yC,replicate→yD,getElem?_set_ne→yL,getElem?_set_self→yN,getElem?_eq_none→Yr,lookup→YM,getElem?_replicate→YU,perm_ext_iff_of_nodup→xB,find?_cons→Xf,length_replicate→Xi,getElem?_zipIdx→Xw
open Nat renaming le_refl→yh,ne_of_lt→yu,lt_of_lt_of_le→yz,le_trans→yG,lt_irrefl→yW,ne_of_gt→yX,lt_succ_self→Ye,zero_le→Ys,lt_succ_of_lt→YC,le_of_lt→YQ,le_succ→xU,lt_trans→Xa
open Option renaming bind_some→ym,some→yr,none→xV,map_some→Xe
open PySem.W renaming Frag→yw,findIn→Yk,nsIn→Ym,mg_none_of→YR,mg_of→xH,emptyDict→xT,kia_one→Xg
open PySem.NameKind renaming free→yx,cell→yS
open Bool renaming false_ne_true→yA,and_eq_true→yK,false_eq_true→xZ,and_self→Xh
open PySem.Value renaming ref→yH,none→Yp,type→Yx,builtin→xv
open Sum renaming inl→yP
open Ne renaming symm→yR
open PySem.Obj renaming data_mapFields→yZ,isFreed_of_fields→YG,mapFields→xh,mapSeq→xY,cls_mapFields→Xm
open Option.some renaming inj→Yj,injEq→xG
open PySem.PyData renaming eqv→Yn,int→xJ,eqvAll→xL,canLayAll0→Xn
open Int renaming toNat_natCast→Yv,eq_ofNat_of_zero_le→xo,emod_lt_of_pos→Xc
open PySem.Around renaming under_plainId→Yw
open PySem.Builtin.List renaming listExtendWith→YA,listTooLong→xg,listLengthHint→xu,listSameRef→xI
open False renaming elim→YD
open PySem.Heap.SameBut renaming update→YF
open PySem.Builtin.SmallTypes renaming nextOf→YL
open PySem.SetTable renaming below→YO,grown→Xs
open PyProof.Rows renaming callWith_type1→YV,slot_tuple_getitem→xc
open PySem.Str renaming ofString→YX
open ForInStep renaming yield→xa
open PySem.Builtin.Tuple renaming tupleExact→xf
open PyProof.Rows.F renaming plain_set_update_loop→xq
open PySem.F renaming slot_tuple_iterator_next→xA,slot_enumerate_next→Xk,excBase_ValueError→Xv
open PySem.Builtin.Slice renaming slicePlaces→xC
open PySem.AutoSeq1 renaming wpAny_loadPart'→xK
open PySem.Challenge renaming rw_keynests_k50_keys_put_in→xR
open True renaming intro→xX
open PySem.SetTable.below renaming go→Xo
noncomputable section
abbrev Qa:=List (yt×yf)
abbrev Qb:=List (yf×YS)
abbrev Qc:=List (Option Nat)
abbrev Qd:=List (List Nat)
abbrev Qe:=List (Nat×Nat)
abbrev Qf:=List Nat
abbrev Qg:=List Int
abbrev Qh:=List PySem.Value
abbrev Qi:=Option PySem.Value
abbrev Qj:=Option Nat
abbrev Qk:=Option Int
abbrev Qm:=Array PySem.Value
abbrev Qp:=List PySem.Env
abbrev Qq:=Option Bool
abbrev Qv:=List yf
abbrev Qw:=Option yf
abbrev Qx:=List yt
abbrev Qz:=List yE
abbrev We:=List Yb
namespace M
open PySem PySem.W PyProof.Rows
def kOf(as:Qv)(h:yT):Frag:=as.filterMap λa=>(h.get? a).map λo=>(a,o)
def z6x(h:yT):Frag:=kOf (yB h.objs.size) h
def zzx(s:Yb):Arguments:=match s with
 |.FunctionDef _ a _ _ _ _ _ _ _ _=>a
 |_=>{posonlyargs:=[],args:=[],vararg:=none,kwonlyargs:=[],kw_defaults:=[],kwarg:=none,defaults:=[]}
def zLw(s:Yb):We:=match s with
 |.FunctionDef _ _ b _ _ _ _ _ _ _=>b
 |_=>[]
def zms(s:Yb):xS:=match s with
 |.FunctionDef _ _ _ _ _ _ sc _ _ _=>sc
 |_=>{kind:=.function,names:=[],isGenerator:=false,isCoroutine:=false }
def zLA(s:Yb):xn:=match s with
 |.FunctionDef _ _ _ _ _ _ _ _ _ p=>p
 |_=>⟨0,0,0,0⟩
structure se where
 name:yt
 qual:yt
 params:Arguments
 body:FuncBody
 scope:xS
 globals:yf
 closure:Qa
 defaults:Value
 builtins:yf
 code:Bool
 keep:Bool
def zae(K:Frag)(a:yf)(qual:yt):Option se:=match K.lookup a with
 |some ⟨_,_,.func fd,_⟩=>some ⟨fd.name,fd.qualname,fd.params,fd.body,fd.scope,fd.globals,fd.closure,fd.defaults,fd.builtins,codeIn K fd.code qual,keepIn K (.ref a)⟩
 |_=>none
def zhb(K:Frag)(nm:yt):Option se:=match nsIn K yp nm with
 |some (some (.ref a))=>zae K a nm
 |_=>none
def zze(nm qual:yt)(st:Yb):Option se:=some ⟨nm,qual,zzx st,.stmts (zLw st),zms st,yp,[],.none,builtinsNs,true,true⟩
def znb(nm:yt)(st:Yb):Option se:=zze nm nm st
def zam(K:Frag)(nm:yt):Qk:=match nsIn K yp nm with
 |some (some (.int i _))=>some i
 |_=>none
def zJr(K:Frag)(C:yf):Option (Value×String×List Value×Bool×Bool):=match K.lookup C with
 |some ⟨c,_,.cls cd,sl⟩=>(match sl.toList with | [_,_,_,_,some (.builtin n),_]=>some (c,n,cd.mro,cd.hasDict,cd.hasDel)|_=>none)
 |_=>none
def zzu{p q:yy}{loose:Qx}{α:Type}{Yf:yc->α}{y:α}{N:Nat}(h1:LeftO p q loose (λ_=>true) (λ_=>()) (λ_=>()) N)(h2:∀w,(openEnds treeTable p w N).map Yf=some y):LeftO p q loose (λ_=>true) Yf (λ_=>y) N:=λw=>by
 obtain⟨s,e,a⟩:=Option.map_eq_some_iff.mp (h1 w);obtain⟨s',e',b⟩:=Option.map_eq_some_iff.mp (h2 w);rw[e]at e';cases e';rw[e];show some (_,Yf s)=some (_,y);rw[b];exact congrArg (λz=>some (z.1,y)) a
end M
namespace Hd
open PySem PySem.Spec PyProof.Rows M
def top(i:Nat):Yb:=PySem.Challenge.pw_keynests_k50_keys_put_in.main.body.getD i (.Pass ⟨0,0,0,0⟩)
def z8j(s:Yb)(j:Nat):Yb:=match s with
 |.ClassDef _ _ _ body _ _ _ _ _ _ _=>body.getD j (.Pass ⟨0,0,0,0⟩)
 |_ =>.Pass ⟨0,0,0,0⟩
def zBw(s:Yb):Yb:=z8j s 0
def qv:yy:={PySem.Challenge.pw_keynests_k50_keys_put_in with main:={PySem.Challenge.pw_keynests_k50_keys_put_in.main with body:=[top 49]}}
def lse:Qx:=(PySem.Challenge.pw_keynests_k50_keys_put_in.main.scope.names.map (·.1)).filter λx=>!(x == "law")
def dl:DefRec:={name:="law",params:=zzx (top 49),body:=zLw (top 49),scope:=zms (top 49),pos:=zLA (top 49)}
def obs(K:yw):List (Option se)×List (Option (Qi))×List (Qk)×List (Bool)×List (Qq)×List (Qi)×List (Option W.CFound)×List (Option (Value×String×List Value×Bool×Bool)):=([zhb K "_law_pen",zhb K "_law_mixed",zhb K "_law_take",zhb K "_law_rule",zae K 215 "Shelf.__init__",zhb K "_law_key",zhb K "_law_homes",zhb K "_law_room_left",zhb K "_law_reached",zae K 234 "Shelf.has",zhb K "lying",zhb K "pushes_to",zhb K "left",zhb K "row_to",zhb K "put_in",zae K 248 "Shelf.all_there",zhb K "homes",zhb K "web_of",zae K 258 "Shelf.laying",zae K 220 "Shelf.put",zhb K "_law_heard",zhb K "fault",zhb K "is_push",zhb K "follows",zhb K "pushed",zhb K "laid_more",zhb K "laid_at_all",zhb K "room_of",zhb K "homes_of",zhb K "is_crowd",zhb K "spare_key",zhb K "trimmed",zhb K "fitted",zae K 270 "Shelf.renew",zhb K "_law_renewed",zhb K "_law_wholes",zae K 265 "Shelf.left",zae K 277 "Shelf.rule",zae K 241 "Shelf.where",zae K 253 "Shelf.nest",zhb K "_law_is_kept",zhb K "_law_behind",zhb K "law",zae K 60 "Full.__init__"],[Ym K yp "Shelf",Yk K (.ref 280) "__setattr__",Yk K (.ref 280) "nest_of",Yk K (.ref 280) "kept_rule",Yk K (.ref 280) "__init__",Yk K (.ref 280) "has",Yk K (.ref 280) "all_there",Yk K (.ref 280) "laying",Yk K (.ref 280) "put",Yk K (.ref 280) "renew",Yk K (.ref 280) "left",Yk K (.ref 280) "rule",Yk K (.ref 280) "where",Yk K (.ref 280) "nest",Ym K yp "left_layings",Ym K yp "left",Ym K yp "bool",Ym K yp "dict",Ym K yp "enumerate",Ym K yp "int",Ym K yp "isinstance",Ym K yp "len",Ym K yp "list",Ym K yp "range",Ym K yp "reversed",Ym K yp "set",Ym K yp "sorted",Ym K yp "sum",Ym K yp "tuple",Ym K yp "Full",Ym K yp "NestError",Ym K yp "Twice",W.specialIn K (.ref 31) "__getattribute__",Yk K (.ref 63) "__init__",Yk K (.ref 63) "__setattr__",Yk K (.ref 63) "some",Yk K (.ref 63) "__getattribute__",Yk K (.ref 63) "__getattr__",Yk K (.ref 63) "__class__",W.specialIn K (.builtin "object.__class__") "__get__"],[zam K "DIVISOR",zam K "MOST_KEYS"],[W.plainGet K 280 PySem.Str.empty,W.hasDictIn K 280,W.plainOver K 280,W.isFn K (.ref 215),W.makesIn K 280,W.keepIn K (.ref 280),W.isFn K (.ref 234),W.isFn K (.ref 248),W.isFn K (.ref 258),W.isFn K (.ref 220),W.isFn K (.ref 270),W.isFn K (.ref 265),W.isFn K (.ref 277),W.isFn K (.ref 241),W.isFn K (.ref 253),W.ktsIn K 63 "BaseException",W.ktsIn K 31 "BaseException",W.ktsIn K 44 "BaseException",W.excIn K 44 [.type "ValueError",.type "Exception",.type "BaseException",.type "object"] "ValueError.__new__",W.excIn K 31 [.type "ValueError",.type "Exception",.type "BaseException",.type "object"] "ValueError.__new__",W.readsIn K 31 (.type "type"),W.hasDictIn K 63,(W.clsIn K 63).isSome],[W.mroIn K 44 (.ref 63),W.mroIn K 44 (.ref 44),W.mroIn K 63 (.ref 63),W.mroIn K 63 (.ref 44),W.mroIn K 63 (.type "BaseException"),W.mroIn K 63 (.type "object"),W.takesIn K (.builtin "object.__class__")],[W.typeIn K (.ref 60)],[W.findCls K (.ref 31) (.type "type") "__init__"],[zJr K 63])
def good:List (Option se)×List (Option (Qi))×List (Qk)×List (Bool)×List (Qq)×List (Qi)×List (Option W.CFound)×List (Option (Value×String×List Value×Bool×Bool)):=([znb "_law_pen" (top 36),znb "_law_mixed" (top 37),znb "_law_take" (top 38),znb "_law_rule" (top 39),zze "__init__" "Shelf.__init__" (z8j (top 34) 0),znb "_law_key" (top 41),znb "_law_homes" (top 40),znb "_law_room_left" (top 44),znb "_law_reached" (top 45),zze "has" "Shelf.has" (z8j (top 34) 3),znb "lying" (top 10),znb "pushes_to" (top 15),znb "left" (top 7),znb "row_to" (top 16),znb "put_in" (top 17),zze "all_there" "Shelf.all_there" (z8j (top 34) 5),znb "homes" (top 22),znb "web_of" (top 25),zze "laying" "Shelf.laying" (z8j (top 34) 7),zze "put" "Shelf.put" (z8j (top 34) 1),znb "_law_heard" (top 47),znb "fault" (top 9),znb "is_push" (top 12),znb "follows" (top 13),znb "pushed" (top 14),znb "laid_more" (top 18),znb "laid_at_all" (top 19),znb "room_of" (top 27),znb "homes_of" (top 26),znb "is_crowd" (top 29),znb "spare_key" (top 30),znb "trimmed" (top 31),znb "fitted" (top 32),zze "renew" "Shelf.renew" (z8j (top 34) 9),znb "_law_renewed" (top 48),znb "_law_wholes" (top 42),zze "left" "Shelf.left" (z8j (top 34) 8),zze "rule" "Shelf.rule" (z8j (top 34) 10),zze "where" "Shelf.where" (z8j (top 34) 4),zze "nest" "Shelf.nest" (z8j (top 34) 6),znb "_law_is_kept" (top 43),znb "_law_behind" (top 46),znb "law" (top 49),zze "__init__" "Full.__init__" (zBw (top 4))],[some (some (.ref 280)),some (some (.builtin "object.__setattr__")),some none,some none,some (some (.ref 215)),some (some (.ref 234)),some (some (.ref 248)),some (some (.ref 258)),some (some (.ref 220)),some (some (.ref 270)),some (some (.ref 265)),some (some (.ref 277)),some (some (.ref 241)),some (some (.ref 253)),some (some (.ref 89)),some (some (.ref 89)),some none,some none,some none,some none,some none,some none,some none,some none,some none,some none,some none,some none,some none,some (some (.ref 63)),some (some (.ref 31)),some (some (.ref 44)),some (some (.builtin "type.__getattribute__")),some (some (.ref 60)),some (some (.builtin "object.__setattr__")),some none,some (some (.builtin "BaseException.__getattribute__")),some none,some (some (.builtin "object.__class__")),some (some (.builtin "getset_descriptor.__get__"))],[some 10007,some 30],[true,true,true,true,true,true,true,true,true,true,true,true,true,true,true,true,true,true,true,true,true,true,true],[some false,some true,some true,some false,some true,some true,some true],[some (.type "function")],[some (.val (.builtin "ValueError.__init__"))],[some (.type "type","ValueError.__new__",.ref 63::(.ref 31::[.type "ValueError",.type "Exception",.type "BaseException",.type "object"]),true,false)])
set_option maxHeartbeats 0
def hd21:W.LeftO PySem.Challenge.rw_keynests_k50_keys_put_in.prog qv lse (λ_=>true) (λ_=>()) (λ_=>()) 60000:=λw=>by kernel_rfl
def hd22:∀w,(W.openEnds treeTable PySem.Challenge.rw_keynests_k50_keys_put_in.prog w 60000).map (λs=>obs (z6x s.heap))=some good:=λw=>by kernel_rfl
def hd2:W.LeftO PySem.Challenge.rw_keynests_k50_keys_put_in.prog qv lse (λ_=>true) (λs=>obs (z6x s.heap)) (λ_=>good) 60000:=zzu hd21 hd22
def hd1:PySem.Challenge.rw_keynests_k50_keys_put_in.wellSaid=true:=by kernel_rfl
def hd3:W.defOf qv PySem.Challenge.rw_keynests_k50_keys_put_in.name=some (dl,[]):=by kernel_rfl
def hd4:PySem.Challenge.rw_keynests_k50_keys_put_in.prog.theDef PySem.Challenge.rw_keynests_k50_keys_put_in.name=some (dl.params,dl.body,dl.scope):=by kernel_rfl
def hd5:W.kwWritten? dl.params.kwonlyargs dl.params.kw_defaults=some []:=by kernel_rfl
def hd6:(W.chainsOk qv&&W.opensWell PySem.Challenge.rw_keynests_k50_keys_put_in.prog&&(W.frees PySem.Challenge.rw_keynests_k50_keys_put_in.row.toRowW&&PySem.Challenge.rw_keynests_k50_keys_put_in.row.within.isEmpty))=true:=by kernel_rfl
def hd7:PySem.Challenge.rw_keynests_k50_keys_put_in.prog.bare:=⟨rfl,rfl,rfl,rfl,rfl,by decide +kernel⟩
end Hd
namespace L2
open PySem PySem.Spec PyProof.Rows
abbrev Key:=Sum Int yt
def zDo:Key->Value->Bool
 |.inl k,v=>Value.isInt k v
 |.inr x,v=>Value.isStrOf x v
def zFA(w:yI):Key->Int
 |.inl k=>hashInt k
 |.inr x=>hashStr w x
def zsb:∀{k:Key} {v:Value},zDo k v=true->(∃i t,k=yP i/\v=Value.int i t)\/(∃x t,k=Sum.inr x/\v=Value.str x t)
 |.inl i,v,h=>by
  obtain⟨t,e⟩:=Value.isInt_shape (k:=i) (v:=v) h;exact .inl ⟨i,t,rfl,e⟩
 |.inr x,v,h=>by
  obtain⟨t,e⟩:=Value.isStrOf_shape (x:=x) (v:=v) h;exact .inr ⟨x,t,rfl,e⟩
def z8r(i:Int)(t:Tok):zDo (.inl i) (.int i t)=true:=by simp[zDo,Value.isInt]
def zYr(x:yt)(t:Tok):zDo (.inr x) (.str x t)=true:=by simp[zDo,Value.isStrOf]
def zSx(a b:Int):decide ((yP a:Key)=yP b)=(a==b):=by
 by_cases e:a=b
 ·subst e;simp
 ·have h:¬(yP a:Key)=yP b:=λq=>e (Sum.inl.inj q);rw[decide_eq_false h];exact(beq_eq_false_iff_ne.mpr e).symm
def zNy(a b:yt):decide ((Sum.inr a:Key)=Sum.inr b)=decide (a=b):=by
 by_cases e:a=b
 ·subst e;simp
 ·have h:¬(Sum.inr a:Key)=Sum.inr b:=λq=>e (Sum.inr.inj q);rw[decide_eq_false h,decide_eq_false e]
def zLy(a:Int)(b:yt):decide ((yP a:Key)=Sum.inr b)=false:=decide_eq_false (λq=>nomatch q)
def zEy(a:yt)(b:Int):decide ((Sum.inr a:Key)=yP b)=false:=decide_eq_false (λq=>nomatch q)
def zlb(prog:yy)(w:yI):PySem.KeyKind prog w Key where
 is:=zDo
 hash:=zFA w
 inj:=λv a b ha hb=>by
  rcases zsb ha with ⟨i,t,rfl,rfl⟩|⟨x,t,rfl,rfl⟩
  ·rcases zsb hb with ⟨j,u,rfl,e⟩|⟨y,u,rfl,e⟩
   ·injection e with e1 _;rw[e1]
   ·exact nomatch e
  ·rcases zsb hb with ⟨j,u,rfl,e⟩|⟨y,u,rfl,e⟩
   ·exact nomatch e
   ·injection e with e1 _;rw[e1]
 byValue:=λk v h=>by
  rcases zsb h with ⟨i,t,rfl,rfl⟩|⟨x,t,rfl,rfl⟩<;>rfl
 pyHash:=λhv h=>by
  rcases zsb hv with ⟨i,t,rfl,rfl⟩|⟨x,t,rfl,rfl⟩
  ·exact wpAny_pyHash_int h
  ·exact wpAny_pyHash_str h
 eqBool:=λhu hv h=>by
  rcases zsb hu with ⟨i,t,rfl,rfl⟩|⟨x,t,rfl,rfl⟩
  ·rcases zsb hv with ⟨j,u,rfl,rfl⟩|⟨y,u,rfl,rfl⟩
   ·rw[zSx]at h;exact wpAny_eqBool_int h
   ·rw[zLy]at h;exact SeqAt.EqAt.int_str i t y u _ _ _ _ h
  ·rcases zsb hv with ⟨j,u,rfl,rfl⟩|⟨y,u,rfl,rfl⟩
   ·rw[zEy]at h;exact SeqAt.EqAt.str_int x t j u _ _ _ _ h
   ·rw[zNy]at h;exact wpAny_eqBool_str h
 «strs»:=λk x t v h=>by
  rcases zsb h with ⟨i,u,rfl,e⟩|⟨y,u,rfl,e⟩
  ·exact nomatch e
  ·injection e with e1 _;subst e1;cases v<;>rfl
def zTi(prog:yy)(w:yI)(k:Key)(v:Value):(zlb prog w).is k v=zDo k v:=rfl
def zQo(prog:yy)(w:yI)(i:Int)(t:Tok):(zlb prog w).is (.inl i) (.int i t)=true:=z8r i t
def zpo(prog:yy)(w:yI)(x:yt)(t:Tok):(zlb prog w).is (.inr x) (.str x t)=true:=zYr x t
inductive V where
 |non|bl (b:Bool)|int (i:Int)|str (x:yt)|byt (b:Array UInt8)|flt (b:UInt64)|ref (a:yf)|ty (n:String)
 deriving DecidableEq
abbrev Wi:=List V
abbrev Wj:=List (Key×V)
abbrev Wk:=List (yt×V)
def RelV:V->Value->Prop
 |.non,u=>u=Yp
 |.bl b,u=>u=Value.bool b
 |.int i,u=>∃t,u=Value.int i t
 |.str x,u=>∃t,u=Value.str x t
 |.byt b,u=>∃t,u=Value.bytes b t
 |.flt b,u=>∃t,u=Value.float b t
 |.ref a,u=>u=yH a
 |.ty n,u=>u=Yx n
abbrev Vals:Wi->Qh->Prop:=Paired RelV
def Vals.length{xs:Wi}{us:Qh}(r:Vals xs us):xs.length=us.length:=Paired.length r
def Vals.get:∀{xs:Wi} {us:Qh} {i:Nat} {x:V},Vals xs us->xs[i]?=some x->∃u,us[i]?=some u/\RelV x u
 |_,_,_,_,.nil,e=>by simp at e
 |_,_,0,_,.cons r _,e=>by simp at e;subst e;exact⟨_,rfl,r⟩
 |_,_,i+1,x,.cons _ t,e=>by
  obtain⟨u,h1,h2⟩:=Vals.get (i:=i) (x:=x) t (by simpa using e);exact⟨u,by simpa using h1,h2⟩
def Vals.set{x:V}{u:Value}(r:RelV x u):∀{xs:Wi} {us:Qh} (i:Nat),Vals xs us->Vals (xs.set i x) (us.set i u)
 |_,_,_,.nil =>.nil
 |_,_,0,.cons _ t =>.cons r t
 |_,_,i+1,.cons q t =>.cons q (Vals.set r i t)
def Vals.append:∀{xs ys:Wi} {us ws:Qh},Vals xs us->Vals ys ws->Vals (xs++ys) (us++ws)
 |_,_,_,_,.nil,s=>s
 |_,_,_,_,.cons r t,s =>.cons r (Vals.append t s)
def Vals.take:∀{xs:Wi} {us:Qh} (n:Nat),Vals xs us->Vals (xs.take n) (us.take n)
 |_,_,0,_ =>.nil
 |_,_,_+1,.nil =>.nil
 |_,_,n+1,.cons r t =>.cons r (Vals.take n t)
def Vals.drop:∀{xs:Wi} {us:Qh} (n:Nat),Vals xs us->Vals (xs.drop n) (us.drop n)
 |_,_,0,r=>r
 |_,_,_+1,.nil =>.nil
 |_,_,n+1,.cons _ t=>Vals.drop n t
def TQ:Option V->Qi->Prop
 |some v,some u=>RelV v u
 |none,none=>True
 |_,_=>False
def KV{κ:Type}:List (κ×V)->List (κ×Value)->Prop:=Paired λ(p:κ×V) (q:κ×Value)=>p.1=q.1/\RelV p.2 q.2
def kV:Key->V
 |.inl i =>.int i
 |.inr x =>.str x
inductive HO where
 |lst (xs:Wi)
 |tup (xs:Wi)
 |dK (hG:Wj)|dT (hG:List (List Key×V))
 |set (S:Int->Bool) (n:Nat)
 |ins (C dx:yf) (fs:Wk)
 |own (x:yf)
 |xd (fs:Wk)
 |met (f x:yf)
 |rng (lo hi:Int)
 |frz (o:YS) (u:HO)
 |tbl (ps:Qm)
 |ext (G:yT->Prop)
abbrev Hp:=yf->Option HO
def upd(H:Hp)(a:yf)(o:HO):Hp:=λb=>if b=a then some o else H b
def zy{H:Hp}{a:yf}{o:HO}:upd H a o a=some o:=by unfold upd;rw[if_pos rfl]
def zE{H:Hp}{a b:yf}{o:HO}(h:b≠a):upd H a o b=H b:=by unfold upd;rw[if_neg h]
def zH{H:Hp}{a b:yf}{o:HO}(h:H a=some o)(h':H b=none):a≠b:=by
 intro e;subst e;rw[h]at h';cases h'
section
variable (P:yy)(w:yI)
def tF(H:Hp)(h:yT)(a:yf):HO->Prop
 |.lst xs=>xs.length<=yF/\∃(hJ:Qh)(n:Nat),Vals xs hJ/\h.get? a=some {cls:=.type "list",data:=.seq hJ.toArray n }
 |.tup xs=>xs.length<=yF/\∃hJ:Qh,Vals xs hJ/\IsTup h a hJ.toArray
 |.dK hG=>hG.length<=yF/\(a==sysModules)=false/\∃vs,KV hG vs/\h.DictOf (zlb P w) a vs
 |.dT hG=>hG.length<=yF/\(a==sysModules)=false/\∃xs:List (List Key×yf×Value),
  Paired (λ(p:List Key×V) (q:List Key×yf×Value)=>p.1=q.1/\H q.2.1=some (.tup (p.1.map kV))/\RelV p.2 q.2.2) hG xs /\
  ∃o es ep,h.get? a=some o/\o.ExactDict/\o.data=.dict es ep/\es.toList=xs.map (entryOfKey (tupleKind (zlb P w)))/\(xs.map (·.1)).Nodup
 |.set S n=>h.SetOf (intKind P w) a S n
 |.ins C dx fs=>H dx=some (.own a)/\fs.length<=1000/\dx≠a/\h.get? a=some (W.instObj C dx) /\
  ∃mA,h.Ns1 dx mA/\(∀f,TQ (fs.lookup f) (mA f))/\PySem.Within mA (fs.map (·.1))
 |.own _=>∃o,h.get? a=some o
 |.xd fs=>∃mA,h.Ns1 a mA/\∀f,TQ (fs.lookup f) (mA f)
 |.rng lo hi=>∃t u v,h.get? a=some {cls:=.type "range",data:=.fields #[.int lo t,.int hi u,.int 1 v]}
 |.frz o u=>h.get? a=some o/\tF H h a u
 |.tbl ps=>h.get? a=some {cls:=.none,data:=.fields ps }
 |.met f x=>h.get? a=some (W.methodObj (.ref f) (.ref x))
 |.ext G=>G h/\(∃o,h.get? a=some o)/\∀h1 h2:yT,G h1->(∀o,h1.get? a=some o->h2.get? a=some o)->G h2
def HOk(H:Hp)(h:yT):Prop:=∀a o,H a=some o->tF P w H h a o
variable {P:yy}{w:yI}{H H':Hp}{h h':yT}{a:yf}{o:HO}
def tF.lt(x:tF P w H h a o):a<h.objs.size:=by
 cases o with
 |lst xs=>obtain⟨_,_,_,_,e⟩:=x;exact yn e
 |tup xs=>obtain⟨_,_,_,p⟩:=x;exact p.lt
 |dK hG=>obtain⟨_,_,_,_,o,_,_,e,_⟩:=x;exact yn e
 |dT hG=>obtain⟨_,_,_,_,o,_,_,e,_⟩:=x;exact yn e
 |set S n=>obtain⟨o,_,_,_,e,_⟩:=x;exact yn e
 |ins C dx fs=>obtain⟨_,_,_,e,_⟩:=x;exact yn e
 |own y=>obtain⟨_,e⟩:=x;exact yn e
 |xd fs=>obtain⟨_,⟨_,_,_,e,_⟩,_⟩:=x;exact yn e
 |rng lo hi=>obtain⟨_,_,_,e⟩:=x;exact yn e
 |frz ob u=>obtain⟨e,_⟩:=x;exact yn e
 |tbl ps=>exact yn (show h.get? a=some _ from x)
 |met f y=>exact yn (show h.get? a=some _ from x)
 |ext G=>obtain⟨_,⟨_,e⟩,_⟩:=x;exact yn e
def Paired.mapP{α β:Type}{F φ:α->β->Prop}:∀{l₁:List α} {l₂:List β},Paired F l₁ l₂->(∀a b,F a b->φ a b)->Paired φ l₁ l₂
 |_,_,.nil,_ =>.nil
 |_,_,.cons r t,f =>.cons (f _ _ r) (Paired.mapP t f)
def tF.stay(x:tF P w H h a o)(k:∀b u,(b=a\/H b=some (.own a))->h.get? b=some u->h'.get? b=some u)
 (ho:∀b,H b=some (.own a)->H' b=some (.own a)) (ht:∀b xs,H b=some (.tup xs)->H' b=some (.tup xs)):tF P w H' h' a o:=by
 induction o with
 |lst xs=>obtain⟨z,hJ,n,r,e⟩:=x;exact⟨z,hJ,n,r,k _ _ (.inl rfl) e⟩
 |tup xs=>obtain⟨z,hJ,r,ob,e,c⟩:=x;exact⟨z,hJ,r,ob,k _ _ (.inl rfl) e,c⟩
 |dK hG=>obtain⟨z,y,vs,r,ob,es,ep,e,c⟩:=x;exact⟨z,y,vs,r,ob,es,ep,k _ _ (.inl rfl) e,c⟩
 |dT hG=>
  obtain⟨z,y,xs,r,ob,es,ep,e,c⟩:=x;exact⟨z,y,xs,Paired.mapP r λp q z=>⟨z.1,ht _ _ z.2.1,z.2.2⟩,ob,es,ep,k _ _ (.inl rfl) e,c⟩
 |set S n=>obtain⟨ob,es,ep,t,e,c⟩:=x;exact⟨ob,es,ep,t,k _ _ (.inl rfl) e,c⟩
 |ins C dx fs=>
  obtain⟨d,z,ne,e,mA,⟨od,es,ep,e2,c⟩,r⟩:=x;exact⟨ho _ d,z,ne,k _ _ (.inl rfl) e,mA,⟨od,es,ep,k _ _ (.inr d) e2,c⟩,r⟩
 |own y=>obtain⟨ob,e⟩:=x;exact⟨ob,k _ _ (.inl rfl) e⟩
 |xd fs=>obtain⟨mA,⟨od,es,ep,e,c⟩,r⟩:=x;exact⟨mA,⟨od,es,ep,k _ _ (.inl rfl) e,c⟩,r⟩
 |rng lo hi=>obtain⟨t,u,v,e⟩:=x;exact⟨t,u,v,k _ _ (.inl rfl) e⟩
 |frz ob u ih=>obtain⟨e,q⟩:=x;exact⟨k _ _ (.inl rfl) e,ih q⟩
 |tbl ps=>
  have e:h.get? a=some {cls:=.none,data:=.fields ps }:=x;show h'.get? a=some {cls:=.none,data:=.fields ps };exact k a _ (.inl rfl) e
 |met f y=>
  have e:h.get? a=some (W.methodObj (.ref f) (.ref y)):=x;show h'.get? a=some (W.methodObj (.ref f) (.ref y));exact k a _ (.inl rfl) e
 |ext G=>obtain⟨p,⟨o,e⟩,st⟩:=x;exact⟨st _ _ p λo q=>k _ _ (.inl rfl) q,⟨o,k _ _ (.inl rfl) e⟩,st⟩
def HOk.lt(x:HOk P w H h)(e:H a=some o):a<h.objs.size:=(x a o e).lt
def HOk.fresh(x:HOk P w H h)(e:h.objs.size<=a):H a=none:=by
 cases q:H a with
 |none=>rfl
 |some u=>exact absurd (yz (x.lt q) e) (yW _)
def HOk.kept(x:HOk P w H h)(k:∀b u,h.get? b=some u->h'.get? b=some u):HOk P w H h':=λa o e=>
 (x a o e).stay (λb u _ q=>k b u q) (λ_ q=>q) λ_ _ q=>q
def HOk.laid(x:HOk P w H h)(k:∀b u,h.get? b=some u->h'.get? b=some u)(hp:h.objs.size<=a)(new:tF P w (upd H a o) h' a o):HOk P w (upd H a o) h':=λb u e=>by
 have hn:=x.fresh hp
 by_cases hb:b=a
 ·subst hb;rw[zy]at e;cases e;exact new
 ·rw[zE hb]at e;exact(x b u e).stay (λc v _ q=>k c v q) (λc q=>by rw[zE (zH q hn)];exact q) λc xs q=>by rw[zE (zH q hn)];exact q
end
def Rd(H:Hp)(a:yf)(u:HO):Prop:=H a=some u\/∃o,H a=some (.frz o u)
def Rd.ok{P:yy}{w:yI}{H:Hp}{h:yT}{a:yf}{u:HO}(r:Rd H a u)(x:HOk P w H h):tF P w H h a u:=by
 rcases r with r|⟨o,r⟩
 ·exact x a u r
 ·obtain⟨_,q⟩:=x a _ r;exact q
def Mut:Option HO->Prop
 |some (.lst _)=>True
 |some (.dK _)=>True
 |some (.dT _)=>True
 |some (.set _ _)=>True
 |some (.ins _ _ _)=>True
 |some (.ext _)=>True
 |_=>False
section
variable {P:yy}{w:yI}{H:Hp}{h h':yT}{x e:yf}{o':HO}
def HOk.write(ok:HOk P w H h)(mu:Mut (H x))(he:e=x\/H e=some (.own x))(k:∀b u,b≠e->h.get? b=some u->h'.get? b=some u)(heo:∃u,h'.get? e=some u)
 (new:tF P w (upd H x o') h' x o'):HOk P w (upd H x o') h':=λb u q=>by
 have nown:∀c y,H c=some (.own y)->c≠x:=λc y r z=>by subst z;rw[r]at mu;exact mu
 have ntup:∀c xs,H c=some (.tup xs)->c≠x:=λc xs r z=>by subst z;rw[r]at mu;exact mu
 by_cases hb:b=x
 ·subst hb;rw[zy]at q;cases q;exact new
 ·rw[zE hb]at q
  by_cases hbe:b=e
  ·have q':H b=some (.own x):=by
    rcases he with z|z
    ·exact absurd (hbe.trans z) hb
    ·rw[hbe];exact z
   rw[q]at q';cases q';obtain⟨v,hv⟩:=heo;exact⟨v,by rw[hbe];exact hv⟩
  ·refine(ok b u q).stay (λc v hc r=>k c v ?_ r) (λc r=>by rw[zE (nown c b r)];exact r) λc xs r=>by rw[zE (ntup c xs r)];exact r
   rcases hc with rfl|hc
   ·exact hbe
   ·rintro rfl;rcases he with z|z
    ·exact nown c b hc z
    ·rw[hc]at z;cases z;exact hb rfl
end
structure Un(fs ex:Qv)(H H':Hp)(h h':yT):Prop where
 keep:∀b o,h.get? b=some o->H b=none->b∉fs->b∉ex->h'.get? b=some o
 slot:∀b o,h.get? b=some o->H b=none->b∈fs->b∉ex->∃sl,h'.get? b=some {o with slots:=sl }
 free:∀b o,h.get? b=some o->H b=none->b∉ex->H' b=none
 there:∀b o,h.get? b=some o->b∉ex->∃o',h'.get? b=some o'
 tups:∀b xs,H b=some (.tup xs)->H' b=some (.tup xs)
 Tx:∀b o u,H b=some (.frz o u)->H' b=some (.frz o u)
 TJ:∀b ps,H b=some (.tbl ps)->∃more,H' b=some (.tbl (ps++more))
section
variable {fs fs' ex ex':Qv}{H H1 H2:Hp}{h h1 h2 h':yT}{a x e:yf}{o:HO}
def Un.any(u:Un fs ex H H1 h h1){b:yf}{ob:YS}(q:h.get? b=some ob)(n:H b=none)(hx:b∉ex):∃sl,h1.get? b=some {ob with slots:=sl }:=by
 by_cases hb:b∈fs
 ·exact u.slot b ob q n hb hx
 ·exact⟨ob.slots,u.keep b ob q n hb hx⟩
def Un.trans(a:Un fs ex H H1 h h1)(b:Un fs ex H1 H2 h1 h2):Un fs ex H H2 h h2 where
 keep:=λc ob q n hc hx=>b.keep c ob (a.keep c ob q n hc hx) (a.free c ob q n hx) hc hx
 slot:=λc ob q n hc hx=>by
  obtain⟨sl,e1⟩:=a.slot c ob q n hc hx;obtain⟨sl',e2⟩:=b.slot c _ e1 (a.free c ob q n hx) hc hx;exact⟨sl',e2⟩
 free:=λc ob q n hx=>by
  obtain⟨o',e1⟩:=a.there c ob q hx;exact b.free c o' e1 (a.free c ob q n hx) hx
 there:=λc ob q hx=>by
  obtain⟨o',e1⟩:=a.there c ob q hx;exact b.there c o' e1 hx
 tups:=λc xs q=>b.tups c xs (a.tups c xs q)
 Tx:=λc ob xs q=>b.Tx c ob xs (a.Tx c ob xs q)
 TJ:=λc ps q=>by
  obtain⟨m1,e1⟩:=a.TJ c ps q;obtain⟨m2,e2⟩:=b.TJ c _ e1;exact⟨m1++m2,by rw[e2,Array.append_assoc]⟩
def Un.kept(k:∀b u,h.get? b=some u->h'.get? b=some u):Un fs ex H H h h' :=
 ⟨λb ob q _ _ _=>k b ob q,λb ob q _ _ _=>⟨ob.slots,k b ob q⟩,λ_ _ _ n _=>n,λb ob q _=>⟨ob,k b ob q⟩,λ_ _ q=>q,λ_ _ _ q=>q,λ_ ps q=>⟨#[],by rw[q];simp⟩⟩
def Un.refl:Un fs ex H H h h:=Un.kept λ_ _ q=>q
def Un.laid(k:∀b u,h.get? b=some u->h'.get? b=some u)(hp:h.objs.size<=a)(hn:H a=none):Un fs ex H (upd H a o) h h' where
 keep:=λb u q _ _ _=>k b u q
 slot:=λb u q _ _ _=>⟨u.slots,k b u q⟩
 free:=λb u q n _=>by rw[zE (yu (yz (yn q) hp))];exact n
 there:=λb u q _=>⟨u,k b u q⟩
 tups:=λb xs q=>by rw[zE (zH q hn)];exact q
 Tx:=λb u xs q=>by rw[zE (zH q hn)];exact q
 TJ:=λb ps q=>⟨#[],by rw[zE (zH q hn),q];simp⟩
def Un.write(mu:Mut (H x))(he:e=x\/H e=some (.own x))(k:∀b u,b≠e->h.get? b=some u->h'.get? b=some u)(heo:∃u,h'.get? e=some u):Un fs ex H (upd H x o) h h':=by
 have hx:∀b,H b=none->b≠x:=λb n z=>by subst z;rw[n]at mu;exact mu
 have hb:∀b,H b=none->b≠e:=λb n z=>by
  subst z;rcases he with r|r
  ·exact hx b n r
  ·rw[n]at r;cases r
 have hm:∀b u,H b=some u->¬Mut (some u)->b≠x:=λb u q nm z=>by subst z;rw[q]at mu;exact nm mu
 refine⟨λb u q n _ _=>k b u (hb b n) q,λb u q n _ _=>⟨u.slots,k b u (hb b n) q⟩,λb u q n _=>by rw[zE (hx b n)];exact n,λb u q _=>?_,
  λb xs q=>by rw[zE (hm b _ q λz=>z)];exact q,λb u xs q=>by rw[zE (hm b _ q λz=>z)];exact q,λb ps q=>⟨#[],by rw[zE (hm b _ q λz=>z),q];simp⟩⟩
 by_cases hbe:b=e
 ·subst hbe;exact heo
 ·exact⟨u,k b u hbe q⟩
end
def trk(h:yT)(H:Hp):Qv:=(yB h.objs.size).filter λa=>(H a).isSome
def zJu(h:yT)(H:Hp):yT:=W.hideAll h (trk h H)
def zvt(h:yT)(H:Hp):(zJu h H).objs.size=h.objs.size:=W.hideAll_size _ _
def zfv{h:yT}{H:Hp}{b:yf}{o:YS}(e:h.get? b=some o)(n:H b=none):(zJu h H).get? b=some o :=
 W.hideAll_get _ e λhm=>by
  have q:(H b).isSome=true:=(List.mem_filter.mp hm).2;rw[n]at q;simp at q
def zjw{h:yT}{H:Hp}{b:yf}{o:YS}(e:(zJu h H).get? b=some o):h.get? b=some o/\H b=none:=by
 have e':h.get? b=some o:=W.of_hideAll (trk h H) e;refine⟨e',?_⟩
 cases q:H b with
 |none=>rfl
 |some x=>
  have hm:b∈trk h H:=List.mem_filter.mpr ⟨List.mem_range.mpr (yn e'),by simp[q]⟩;have z:(zJu h H).get? b=none:=W.hideAll_none (trk h H) hm;rw[z]at e;cases e
def zrx(g h:yT)(L:yf):Qb:=(yB h.objs.size).filterMap λa=>if a=L\/(g.get? a).isSome=true then none else(h.get? a).map λo=>(a,o)
def rest(g h:yT)(L d:yf):Qb:=(zrx g h L).filter λp=>decide (p.1≠d)
structure Mod(K:yw)(mg:yt->Qi)(base:yT):Prop where
 kin:K.In base
 glob:base.Ns yp mg
 blt:∃mb,base.Ns builtinsNs mb/\∀x:yt,x≠"__name__"->mb x=yM x
 nolimit:base.NoLimit
structure Cx where
 prog:yy
 w:yI
 K:yw
 mg:yt->Qi
 base:yT
 A:yJ
 N:Qx
 s₀:yc
 H₀:Hp
 env:Env
 outer:Qp
 stack:Qp
 ex:Qv
 fn:yt->Bool
 calm:Bool
 pn:Qb
 xe:Value->yc->Prop
def frs(l:Qp):Qv:=l.filterMap (·.frame)
abbrev Cx.fs(X:Cx):Qv:=frs X.outer
def Vis(sc:xS)(x:yt):Prop:=sc.names.lookup x=some .local\/sc.names.lookup x=some .cell\/sc.names.lookup x=some .free
def Loc(sc:xS)(x:yt):Prop:=sc.names.lookup x=some .local\/sc.names.lookup x=some .cell
def zTA(env:Env)(h:yT)(m:yt->Qi)(x:yt)(u:Value):Prop :=
 (env.kindOf x=some .local/\m x=some u)\/((env.kindOf x=some .cell\/env.kindOf x=some .free)/\∃c,env.cells.lookup x=some c/\h.IsCell c (some u))
structure Cx.Ok(X:Cx):Prop where
 mod:Mod X.K X.mg X.base
 kind:X.env.scope.kind=.function
 glob:X.env.globals=yp
 blt:X.env.builtins=builtinsNs
 above:X.s₀.heap.objs.size<=X.env.locals
 inj:∀x y c,X.env.cells.lookup x=some c->X.env.cells.lookup y=some c->x=y
 has:∀x,(X.env.kindOf x=some .cell\/X.env.kindOf x=some .free)->∃c,X.env.cells.lookup x=some c
 cab:∀x c,X.fn x=true->X.env.cells.lookup x=some c->X.s₀.heap.objs.size<=c
 hd:X.calm=true->X.A.handled=none
 frames:X.A.frames=some X.stack
 stk:X.stack=X.outer\/(X.stack=X.env::X.outer/\X.env.frame=some X.env.locals)
 exf:∀b∈X.ex,b≠X.env.locals/\∀x c,X.env.cells.lookup x=some c->c≠b
 bs:∀b o,X.base.get? b=some o->X.s₀.heap.get? b=some o/\X.H₀ b=none
 bsz:X.base.objs.size<=X.s₀.heap.objs.size
 Sn:∀b o,X.base.get? b=some o->b∉X.ex
 Su:∀b∈X.ex,b∉X.fs
 sk:X.s₀.heap.FunFrames X.base X.outer
 frf:∀b∈X.fs,X.H₀ b=none
structure Inv(X:Cx)(U:Qb)(Y:List (Option V))(H:Hp)(s:yc):Prop where
 ok:X.Ok
 os:s.os=X.s₀.os
 bare:AllBare s.gens
 base:Un X.fs X.ex X.H₀ H X.s₀.heap s.heap
 loc:∃m,s.heap.Ns X.env.locals m/\∀(i:Nat)(x:yt)(v:V),X.N[i]?=some x->Y[i]?=some (some v)->Vis X.env.scope x->∃u,RelV v u/\zTA X.env s.heap m x u
 cell:∀x c,X.env.cells.lookup x=some c->∃v,s.heap.IsCell c v
 free:H X.env.locals=none
 freeC:∀x c,X.env.cells.lookup x=some c->H c=none
 pin:∀p∈X.pn++U,s.heap.get? p.1=some p.2/\H p.1=none/\p.1≠X.env.locals/\p.1∉X.fs/\∀v,p.2.data≠.cell v
 hok:HOk X.prog X.w H s.heap
 len:Y.length=X.N.length
section
variable {X:Cx}{U:Qb}{Y:List (Option V)}{H H':Hp}{s:yc}{h':yT}
def Cx.Ok.nofr(ok:X.Ok){b:yf}{o:YS}(e:X.base.get? b=some o):b∉X.fs:=λhb=>by
 have:=(ok.sk.mem hb).1;rw[e]at this;cases this
def Inv.bs(I:Inv X U Y H s):∀b o,X.base.get? b=some o->s.heap.get? b=some o/\H b=none:=λb o e=>
 ⟨I.base.keep b o (I.ok.bs b o e).1 (I.ok.bs b o e).2 (I.ok.nofr e) (I.ok.Sn b o e),I.base.free b o (I.ok.bs b o e).1 (I.ok.bs b o e).2 (I.ok.Sn b o e)⟩
def Inv.bk(I:Inv X U Y H s):∀b o,X.base.get? b=some o->s.heap.get? b=some o:=λb o e=>(I.bs b o e).1
def Inv.mod(I:Inv X U Y H s):Mod X.K X.mg X.base:=I.ok.mod
def Inv.kIn(I:Inv X U Y H s):X.K.In s.heap:=I.ok.mod.kin.keeps I.bk
def Inv.fr(I:Inv X U Y H s):∃m,Fr X.base X.env.locals s.heap m :=
 let ⟨m,hn,_⟩:=I.loc
 ⟨m,hn,I.bk,yG I.ok.bsz I.ok.above⟩
def Inv.lt(I:Inv X U Y H s):X.env.locals<s.heap.objs.size:=let ⟨_,hn,_⟩:=I.loc;hn.lt
def Inv.sz(I:Inv X U Y H s):X.s₀.heap.objs.size<=s.heap.objs.size:=yG I.ok.above (YQ I.lt)
def Inv.nofs(I:Inv X U Y H s){a:yf}(h:s.heap.objs.size<=a):a∉X.fs:=λhb=>by
 obtain⟨_,o,ho,_⟩:=I.ok.sk.mem hb;exact absurd (yz (yn ho) (yG I.sz h)) (yW _)
def Inv.cne(I:Inv X U Y H s):∀x c,X.env.cells.lookup x=some c->c≠X.env.locals:=λx c e z=>by
 obtain⟨v,o,ho,hd⟩:=I.cell x c e;obtain⟨m,⟨o',es,ep,ho',hd',_⟩,_⟩:=I.loc;rw[z,ho']at ho;cases ho;rw[hd']at hd;cases hd
def Inv.sk(I:Inv X U Y H s):s.heap.FunFrames X.base X.outer:=by
 have all:∀(l:Qp),(∀b∈frs l,b∈X.fs)->X.s₀.heap.FunFrames X.base l->s.heap.FunFrames X.base l:=by
  intro l
  induction l with
  |nil=>intro _ _;trivial
  |cons env r ih=>
   intro hs hl;obtain⟨hk,⟨L,o,hf,hn,ho,hd⟩,hr⟩:=hl;have hL:L∈X.fs:=hs L (by unfold frs;rw[Lk,hf];exact Np);obtain⟨sl,e⟩:=I.base.slot L o ho (I.ok.frf L hL) hL λz=>I.ok.Su L z hL;exact⟨hk,⟨L,_,hf,hn,e,hd⟩,ih (λb hb=>hs b (by unfold frs;rw[Lk,hf];exact No _ hb)) hr⟩
 exact all X.outer (λ_ hb=>hb) I.ok.sk
def Inv.stack(I:Inv X U Y H s):s.heap.FunFrames X.base X.stack:=by
 rcases I.ok.stk with e|⟨e,hf⟩
 ·rw[e];exact I.sk
 ·rw[e];obtain⟨m,hn,_⟩:=I.loc;refine .cons (by rw[I.ok.kind];decide) hf hn ?_ I.sk;exact Heap.get?_none_of_le (yG I.ok.bsz I.ok.above)
def Inv.sK(I:Inv X U Y H s):∀b∈frs X.stack,b∈X.env.locals::X.fs:=λb hb=>by
 rcases I.ok.stk with e|⟨e,hf⟩
 ·rw[e]at hb;exact No _ hb
 ·rw[e]at hb;unfold frs at hb;rw[Lk,hf]at hb;exact hb
def Inv.TK(I:Inv X U Y H s):∀b∈frs X.stack,H b=none:=λb hb=>by
 rcases List.mem_cons.mp (I.sK b hb) with e|hb
 ·rw[e];exact I.free
 ·obtain⟨_,o,ho,_⟩:=I.ok.sk.mem hb;exact I.base.free b o ho (I.ok.frf b hb) λz=>I.ok.Su b z hb
def Inv.step{g':Array GenState}{t':Nat}{d':Drawn}{ch:Qv}(I:Inv X U Y H s)
 (hch:∀b∈ch,(b∈X.ex\/X.s₀.heap.objs.size<=b)/\b≠X.env.locals/\(∀x c,X.env.cells.lookup x=some c->c≠b)/\∀p∈X.pn++U,p.1≠b)
 (keep:∀b o,b≠X.env.locals->b∉X.fs->b∉ch->s.heap.get? b=some o->H b=none->h'.get? b=some o)
 (slot:∀b o,b≠X.env.locals->b∈X.fs->b∉ch->s.heap.get? b=some o->H b=none->∃sl,h'.get? b=some {o with slots:=sl }) (free:∀b o,b∉ch->s.heap.get? b=some o->H b=none->H' b=none)
 (there:∀b o,b∉ch->s.heap.get? b=some o->∃o',h'.get? b=some o')
 (tups:∀b xs,H b=some (.tup xs)->H' b=some (.tup xs)) (Tx:∀b o u,H b=some (.frz o u)->H' b=some (.frz o u)) (TJ:∀b ps,H b=some (.tbl ps)->∃more,H' b=some (.tbl (ps++more)))
 (ns:∀m,s.heap.Ns X.env.locals m->h'.Ns X.env.locals m) (hok:HOk X.prog X.w H' h') (hg:AllBare g') :
 Inv X U Y H' {s with heap:=h',gens:=g',drawn:=d',toks:=t' }:=by
 have neL:∀b o,X.s₀.heap.get? b=some o->b≠X.env.locals:=λb o e=>yu (yz (yn e) I.ok.above)
 have neC:∀b o,X.s₀.heap.get? b=some o->b∉X.ex->b∉ch:=λb o e hx hb=>by
  rcases(hch b hb).1 with z|z
  ·exact hx z
  ·exact absurd (yz (yn e) z) (yW _)
 have cellK:∀x c,X.env.cells.lookup x=some c->∀v,s.heap.IsCell c v->h'.IsCell c v:=λx c e v ⟨o,ho,hd⟩=>by
  have nch:c∉ch:=λz=>(hch c z).2.2.1 x c e rfl
  by_cases hc:c∈X.fs
  ·obtain⟨sl,q⟩:=slot c o (I.cne x c e) hc nch ho (I.freeC x c e);exact⟨_,q,hd⟩
  ·exact⟨o,keep c o (I.cne x c e) hc nch ho (I.freeC x c e),hd⟩
 refine⟨I.ok,I.os,hg,⟨λb o e n hb hx=>?_,λb o e n hb hx=>?_,λb o e n hx=>?_,λb o e hx=>?_,λb xs e=>tups b xs (I.base.tups b xs e),λb o xs e=>Tx b o xs (I.base.Tx b o xs e),λb ps e=>?_⟩,?_,λx c e=>?_,?_,λx c e=>?_,λp hp=>?_,hok,I.len⟩
 ·exact keep b o (neL b o e) hb (neC b o e hx) (I.base.keep b o e n hb hx) (I.base.free b o e n hx)
 ·obtain⟨sl,e1⟩:=I.base.slot b o e n hb hx;obtain⟨sl',e2⟩:=slot b _ (neL b o e) hb (neC b o e hx) e1 (I.base.free b o e n hx);exact⟨sl',e2⟩
 ·obtain⟨o',e1⟩:=I.base.there b o e hx;exact free b o' (neC b o e hx) e1 (I.base.free b o e n hx)
 ·obtain⟨o',e1⟩:=I.base.there b o e hx;exact there b o' (neC b o e hx) e1
 ·obtain⟨m1,e1⟩:=I.base.TJ b ps e;obtain⟨m2,e2⟩:=TJ b _ e1;exact⟨m1++m2,by rw[e2,Array.append_assoc]⟩
 ·obtain⟨m,hn,hl⟩:=I.loc;refine⟨m,ns m hn,λi x v e1 e2 e3=>?_⟩;obtain⟨u,r,l⟩:=hl i x v e1 e2 e3;refine⟨u,r,?_⟩;rcases l with l|⟨k,c,e,z⟩
  ·exact .inl l
  ·exact .inr ⟨k,c,e,cellK x c e _ z⟩
 ·obtain⟨v,z⟩:=I.cell x c e;exact⟨v,cellK x c e v z⟩
 ·obtain⟨m,⟨o,_,_,ho,_⟩,_⟩:=I.loc;exact free _ o (λz=>(hch _ z).2.1 rfl) ho I.free
 ·obtain⟨v,o,ho,hd⟩:=I.cell x c e;exact free c o (λz=>(hch c z).2.2.1 x c e rfl) ho (I.freeC x c e)
 ·obtain⟨e,n,ne,nf,d⟩:=I.pin p hp;have nch:p.1∉ch:=λz=>(hch p.1 z).2.2.2 p hp rfl;exact⟨keep p.1 p.2 ne nf nch e n,free p.1 p.2 nch e n,ne,nf,d⟩
def Inv.un{t':Nat}(I:Inv X U Y H s)(u:Un X.fs [] H H' s.heap h')(hok:HOk X.prog X.w H' h'):Inv X U Y H' {s with heap:=h',toks:=t' }:=by
 obtain⟨m,⟨o,es,ep,ho,r⟩,_⟩:=id I.loc;obtain⟨sl,hL⟩:=u.any ho I.free (by simp)
 exact I.step (g':=s.gens) (d':=s.drawn) (ch:=[]) (λ_ z=>nomatch z) (λb o _ hb _ e n=>u.keep b o e n hb (by simp)) (λb o _ hb _ e n=>u.slot b o e n hb (by simp)) (λb o _ e n=>u.free b o e n (by simp)) (λb o _ e=>u.there b o e (by simp)) u.tups u.Tx u.TJ (λm' hm=>by
  obtain⟨o',es',ep',ho',r'⟩:=hm;rw[ho]at ho';cases ho';exact⟨_,es',ep',hL,r'⟩) hok I.bare
def Inv.call{g':Array GenState}{t':Nat}{d':Drawn}{ch:Qv}(I:Inv X U Y H s)(u:Un (frs X.stack) ch H H' s.heap h')(hok:HOk X.prog X.w H' h')(hg:AllBare g')
 (hch:∀b∈ch,(b∈X.ex\/X.s₀.heap.objs.size<=b)/\b≠X.env.locals/\(∀x c,X.env.cells.lookup x=some c->c≠b)/\∀p∈X.pn++U,p.1≠b) :
 Inv X U Y H' {s with heap:=h',gens:=g',drawn:=d',toks:=t' }:=by
 obtain⟨m,⟨o,es,ep,ho,r⟩,_⟩:=id I.loc;obtain⟨sl,hL⟩:=u.any ho I.free λz=>(hch _ z).2.1 rfl
 exact I.step (ch:=ch) hch (λb o hL hb hc e n=>u.keep b o e n (λz=>(List.mem_cons.mp (I.sK b z)).elim hL hb) hc) (λb o _ _ hc e n=>u.any e n hc) (λb o hc e n=>u.free b o e n hc) (λb o hc e=>u.there b o e hc) u.tups u.Tx u.TJ (λm' hm=>by
  obtain⟨o',es',ep',ho',r'⟩:=hm;rw[ho]at ho';cases ho';exact⟨_,es',ep',hL,r'⟩) hok hg
def Inv.turned{t':Nat}{it:yf}(I:Inv X U Y H s)(k:∀b o,b≠it->s.heap.get? b=some o->h'.get? b=some o)(hn:H it=none)(hL:it≠X.env.locals)
 (h1:it∈X.ex\/X.s₀.heap.objs.size<=it) (h2:∀x c,X.env.cells.lookup x=some c->c≠it) (h3:∀p∈X.pn++U,p.1≠it):Inv X U Y H {s with heap:=h',toks:=t' }:=by
 have nit:∀b u,H b=some u->b≠it:=λb u e z=>by rw[z,hn]at e;cases e
 refine I.step (g':=s.gens) (d':=s.drawn) (ch:=[it]) (λb hb=>?_) (λb o _ _ hc e _=>k b o (λz=>hc (by simp[z])) e) (λb o _ _ hc e _=>⟨o.slots,k b o (λz=>hc (by simp[z])) e⟩) (λ_ _ _ _ n=>n)
  (λb o hc e=>⟨o,k b o (λz=>hc (by simp[z])) e⟩) (λ_ _ e=>e) (λ_ _ _ e=>e) (λb ps e=>⟨#[],by rw[e];simp⟩) (λm hm=>?_) (λb u e=>?_) I.bare
 ·have e:b=it:=by simpa using hb
  subst e;exact⟨h1,hL,h2,h3⟩
 ·obtain⟨o,es,ep,ho,r⟩:=hm;exact⟨o,es,ep,k _ o (yR hL) ho,r⟩
 ·refine(I.hok b u e).stay (λc v hc q=>k c v ?_ q) (λ_ q=>q) λ_ _ q=>q;rcases hc with z|z
  ·rw[z];exact nit b u e
  ·exact nit c _ z
def Inv.tok(I:Inv X U Y H s)(t:Nat):Inv X U Y H {s with toks:=t }:=I.un (h':=s.heap) (t':=t) Un.refl I.hok
def Inv.kept{t':Nat}(I:Inv X U Y H s)(k:∀b u,s.heap.get? b=some u->h'.get? b=some u):Inv X U Y H {s with heap:=h',toks:=t' }:=I.un (Un.kept k) (I.hok.kept k)
def Inv.laid{a:yf}{o:HO}{t':Nat}(I:Inv X U Y H s)(k:∀b u,s.heap.get? b=some u->h'.get? b=some u)(hp:s.heap.objs.size<=a)(new:tF X.prog X.w (upd H a o) h' a o) :
 Inv X U Y (upd H a o) {s with heap:=h',toks:=t' }:=I.un (Un.laid k hp (I.hok.fresh hp)) (I.hok.laid k hp new)
def Inv.write{x e:yf}{o:HO}{t':Nat}(I:Inv X U Y H s)(mu:Mut (H x))(he:e=x\/H e=some (.own x))(k:∀b u,b≠e->s.heap.get? b=some u->h'.get? b=some u)(heo:∃u,h'.get? e=some u)
 (new:tF X.prog X.w (upd H x o) h' x o):Inv X U Y (upd H x o) {s with heap:=h',toks:=t' }:=I.un (Un.write mu he k heo) (I.hok.write mu he k heo new)
def Inv.weak{Y':List (Option V)}(I:Inv X U Y H s)(hl:Y'.length=Y.length)(w:∀(i:Nat) v,Y'[i]?=some (some v)->Y[i]?=some (some v)):Inv X U Y' H s :=
 ⟨I.ok,I.os,I.bare,I.base,let ⟨m,hn,hl'⟩:=I.loc;⟨m,hn,λi x v e1 e2 e3=>hl' i x v e1 (w i v e2) e3⟩,I.cell,I.free,I.freeC,I.pin,I.hok,hl.trans I.len⟩
def Inv.sL{U':Qb}(I:Inv X U Y H s)(h:∀p∈U',s.heap.get? p.1=some p.2/\H p.1=none/\p.1≠X.env.locals/\p.1∉X.fs/\∀v,p.2.data≠.cell v):Inv X U' Y H s :=
 ⟨I.ok,I.os,I.bare,I.base,I.loc,I.cell,I.free,I.freeC,λp hp=>(List.mem_append.mp hp).elim (λz=>I.pin p (Nk _ z)) (h p),I.hok,I.len⟩
def zbn{N:Qx}(hN:N.Nodup){i j:Nat}{x:yt}(a:N[i]?=some x)(b:N[j]?=some x):i=j:=by
 obtain⟨h1,e1⟩:=List.getElem?_eq_some_iff.mp a;obtain⟨h2,e2⟩:=List.getElem?_eq_some_iff.mp b;exact(List.getElem_inj hN).mp (e1.trans e2.symm)
def zao{M:Model}{A:yJ}{E:Value->yc->Prop}{i:Nat}{x:yt}{v:V}{u:Value}{Q:Unit->yc->Prop}(I:Inv X U Y H s)(hN:X.N.Nodup)(hi:X.N[i]?=some x)(hx:Loc X.env.scope x)(r:RelV v u)
 (h:∀s',Inv X U (Y.set i (some v)) H s'->(∃a,Yq a s.heap s'.heap/\(a=X.env.locals\/X.env.cells.lookup x=some a))->Q () s') (hf:X.fn x=true\/X.env.scope.names.lookup x=some .local:=by first|exact .inl rfl|exact .inr rfl|assumption):yo M A (storeName X.env x u) Q E s:=by
 obtain⟨m,hn,hl⟩:=id I.loc;have hcls:(X.env.scope.kind == .class||(X.env.scope.kind == .module&&X.env.locals != X.env.globals))=false:=by rw[I.ok.kind];rfl
 have hiσ:i<Y.length:=by rw[I.len];exact(List.getElem?_eq_some_iff.mp hi).1
 have cne:=I.cne
 have tracked:∀{a:yf} {h':yT},(∃o,s.heap.get? a=some o/\H a=none)->Yq a s.heap h'->HOk X.prog X.w H h':=λ{a h'} ha hs b ob e=>by
  obtain⟨_,_,kM⟩:=ha;refine(I.hok b ob e).stay (λc w' hc q=>(hs.2 c ?_).trans q) (λ_ q=>q) λ_ _ q=>q;rintro rfl;rcases hc with rfl|hc
  ·rw[kM]at e;cases e
  ·rw[kM]at hc;cases hc
 rcases hx with hk|hk
 ·refine wpAny_storeName_local hk hn (λh' hn' hs=>?_) hcls;obtain⟨oL,_,_,hoL,_⟩:=id hn;refine h _ ⟨I.ok,I.os,I.bare,⟨λb o e n hb hx=>?_,λb o e n hb hx=>?_,I.base.free,λb o e hx=>?_,I.base.tups,I.base.Tx,I.base.TJ⟩,⟨_,hn',λj y v' e1 e2 e3=>?_⟩,λy c e=>?_,I.free,I.freeC,λp hp=>?_,tracked ⟨oL,hoL,I.free⟩ hs,by simpa using I.len⟩ ⟨_,hs,.inl rfl⟩
  ·exact(hs.2 b (yu (yz (yn e) I.ok.above))).trans (I.base.keep b o e n hb hx)
  ·obtain⟨sl,e1⟩:=I.base.slot b o e n hb hx;exact⟨sl,(hs.2 b (yu (yz (yn e) I.ok.above))).trans e1⟩
  ·obtain⟨o',e1⟩:=I.base.there b o e hx;exact⟨o',(hs.2 b (yu (yz (yn e) I.ok.above))).trans e1⟩
  ·by_cases hj:j=i
   ·subst hj;rw[hi]at e1;cases e1;rw[yN hiσ]at e2;cases e2;exact⟨u,r,.inl ⟨hk,by simp⟩⟩
   ·rw[yL (yR hj)]at e2;obtain⟨u',r',q⟩:=hl j y v' e1 e2 e3;refine⟨u',r',?_⟩;rcases q with ⟨k,e⟩|⟨k,c,e,z⟩
    ·refine .inl ⟨k,?_⟩;have:y≠x:=λe=>hj (zbn hN e1 (e▸hi));simp[this,e]
    ·exact .inr ⟨k,c,e,z.sameBut hs (cne y c e)⟩
  ·obtain⟨w',z⟩:=I.cell y c e;exact⟨w',z.sameBut hs (cne y c e)⟩
  ·obtain⟨e,n,ne,nf,d⟩:=I.pin p hp;exact⟨(hs.2 p.1 ne).trans e,n,ne,nf,d⟩
 ·have hfn:X.fn x=true:=by
   rcases hf with z|z
   ·exact z
   ·rw[z]at hk;cases hk
  obtain⟨c,hc⟩:=I.ok.has x (.inl hk);obtain⟨w',z⟩:=I.cell x c hc;refine wpAny_storeName_cell I.ok.kind hk hc z (λh' hc' hs=>?_);obtain⟨oc,hoc,hocd⟩:=id z;refine h {s with heap:=h' } ⟨I.ok,I.os,I.bare,⟨λb o e n hb hx=>?_,λb o e n hb hx=>?_,I.base.free,λb o e hx=>?_,I.base.tups,I.base.Tx,I.base.TJ⟩,⟨m,hn.sameBut hs (yR (cne x c hc)),λj y v' e1 e2 e3=>?_⟩,λy c' e=>?_,I.free,I.freeC,λp hp=>?_,tracked ⟨oc,hoc,I.freeC x c hc⟩ hs,by simpa using I.len⟩ ⟨c,hs,.inr hc⟩
  ·exact(hs.2 b (yu (yz (yn e) (I.ok.cab x c hfn hc)))).trans (I.base.keep b o e n hb hx)
  ·obtain⟨sl,e1⟩:=I.base.slot b o e n hb hx;exact⟨sl,(hs.2 b (yu (yz (yn e) (I.ok.cab x c hfn hc)))).trans e1⟩
  ·obtain⟨o',e1⟩:=I.base.there b o e hx;exact⟨o',(hs.2 b (yu (yz (yn e) (I.ok.cab x c hfn hc)))).trans e1⟩
  ·by_cases hj:j=i
   ·subst hj;rw[hi]at e1;cases e1;rw[yN hiσ]at e2;cases e2;exact⟨u,r,.inr ⟨.inl hk,c,hc,hc'⟩⟩
   ·rw[yL (yR hj)]at e2;obtain⟨u',r',q⟩:=hl j y v' e1 e2 e3;refine⟨u',r',?_⟩;rcases q with q|⟨k,c',e,z'⟩
    ·exact .inl q
    ·refine .inr ⟨k,c',e,z'.sameBut hs ?_⟩;rintro rfl;exact hj (zbn hN e1 (I.ok.inj _ _ _ e hc▸hi))
  ·by_cases hcc:c'=c
   ·subst hcc;exact⟨_,hc'⟩
   ·obtain⟨w2,z2⟩:=I.cell y c' e;exact⟨w2,z2.sameBut hs hcc⟩
  ·obtain⟨e,n,ne,nf,d⟩:=I.pin p hp;refine⟨(hs.2 p.1 ?_).trans e,n,ne,nf,d⟩;intro q;rw[q,hoc]at e;have q':oc=p.2:=Yj e;exact d w' (by rw[<-q'];exact hocd)
def zli{M:Model}{A:yJ}{E:Value->yc->Prop}{i:Nat}{x:yt}{v:V}{u:Value}{Q:Unit->yc->Prop}(I:Inv X U Y H s)(hN:X.N.Nodup)(hi:X.N[i]?=some x)(hx:Loc X.env.scope x)(r:RelV v u)
 (h:∀s',Inv X U (Y.set i (some v)) H s'->Q () s') (hf:X.fn x=true\/X.env.scope.names.lookup x=some .local:=by first|exact .inl rfl|exact .inr rfl|assumption):yo M A (storeName X.env x u) Q E s :=
 zao I hN hi hx r (λs' I' _=>h s' I') hf
def Inv.Sf{s':yc}{ch:Qv}(I:Inv X U Y H s)(ho:s'.os=s.os)(u:Un (frs X.stack) ch H H' s.heap s'.heap)(hok:HOk X.prog X.w H' s'.heap)(hg:AllBare s'.gens)
 (hch:∀b∈ch,(b∈X.ex\/X.s₀.heap.objs.size<=b)/\b≠X.env.locals/\(∀x c,X.env.cells.lookup x=some c->c≠b)/\∀p∈X.pn++U,p.1≠b):Inv X U Y H' s':=by
 obtain⟨h',g',d',t',o'⟩:=s';have e:o'=s.os:=ho;subst e;exact I.call (g':=g') (t':=t') (d':=d') u hok hg hch
end
abbrev XK:=Value->Qw->Hp->Prop
abbrev St:=List (Option V)
abbrev VK:=V->Hp->Prop
abbrev TE:=St->Hp->VK->Prop
abbrev TT:=St->Hp->(Bool->Hp->Prop)->Prop
abbrev TA:=St->Hp->(Wi->Hp->Prop)->Prop
structure Ends where
 nx:St->Hp->Prop
 rt:VK
 bk:St->Hp->Prop:=λ_ _=>False
 ct:St->Hp->Prop:=λ_ _=>False
abbrev TS:=Ends->St->Hp->Prop
def EP(X:Cx)(U:Qb)(Y:St)(Q:VK)(u:Value)(s':yc):Prop:=∃v H',Inv X U Y H' s'/\RelV v u/\Q v H'
def TP(X:Cx)(U:Qb)(Y:St)(Q:Bool->Hp->Prop)(b:Bool)(s':yc):Prop:=∃H',Inv X U Y H' s'/\Q b H'
def AP(X:Cx)(U:Qb)(Y:St)(Q:Wi->Hp->Prop)(us:Qh)(s':yc):Prop:=∃vs H',Inv X U Y H' s'/\Vals vs us/\Q vs H'
def SP(X:Cx)(U:Qb)(D:Ends)(f:Flow)(s':yc):Prop :=
 match f with
 |.next=>∃Y' H',Inv X U Y' H' s'/\D.nx Y' H'
 |.brk=>∃Y' H',Inv X U Y' H' s'/\D.bk Y' H'
 |.cont=>∃Y' H',Inv X U Y' H' s'/\D.ct Y' H'
 |.ret u=>∃v Y' H',Inv X U Y' H' s'/\RelV v u/\D.rt v H'
def PE(X:Cx)(e:yE)(t:TE):Prop :=
 ∀(U:Qb) (s:yc) (Y:St) (H:Hp) (Q:VK),Inv X U Y H s->t Y H Q->yo (yv X.prog X.w) X.A (Yd e X.env) (EP X U Y Q) X.xe s
def PT(X:Cx)(e:yE)(t:TT):Prop :=
 ∀(U:Qb) (s:yc) (Y:St) (H:Hp) (Q:Bool->Hp->Prop),Inv X U Y H s->t Y H Q->yo (yv X.prog X.w) X.A (isTrue e X.env (Yd e X.env)) (TP X U Y Q) X.xe s
def PW(X:Cx)(e:yE)(t:TT):Prop :=
 ∀(whole:Sem Value)(U:Qb) (s:yc) (Y:St) (H:Hp) (Q:Bool->Hp->Prop),Inv X U Y H s->t Y H Q->yo (yv X.prog X.w) X.A (isTrue e X.env whole) (TP X U Y Q) X.xe s
def PA(X:Cx)(es:Qz)(t:TA):Prop :=
 ∀(pos:xn)(U:Qb) (s:yc) (Y:St) (H:Hp) (Q:Wi->Hp->Prop),Inv X U Y H s->t Y H Q->yo (yv X.prog X.w) X.A (spliced (Yl pos (yj es X.env))) (AP X U Y Q) X.xe s
def PS(X:Cx)(st:Yb)(t:TS):Prop :=
 ∀(U:Qb) (s:yc) (Y:St) (H:Hp) (D:Ends),Inv X U Y H s->t D Y H->yo (yv X.prog X.w) X.A (exec st X.env) (SP X U D) X.xe s
def PSs(X:Cx)(st:We)(t:TS):Prop :=
 ∀(U:Qb) (s:yc) (Y:St) (H:Hp) (D:Ends),Inv X U Y H s->t D Y H->yo (yv X.prog X.w) X.A (execs st X.env) (SP X U D) X.xe s
def thn{α:Type}{t:Sem α}{Q Q':α->yc->Prop}{M:Model}{A:yJ}{E:Value->yc->Prop}{s:yc}(h:yo M A t Q E s)(hQ:∀a s,Q a s->Q' a s):yo M A t Q' E s:=yU h hQ λ_ _ x=>x
section
variable {X:Cx}
def zhA(i:Nat):TE:=λY H Q=>∃v,Y[i]?=some (some v)/\Q v H
def tC(v:V):TE:=λ_ H Q=>Q v H
def ztv{i:Nat}{x:yt}{pos:xn}(hN:X.N[i]?=some x)(hv:Vis X.env.scope x)(hd:(x==("__debug__":yt))=false:=by decide)(hcd:(x==("__classdict__":yt))=false:=by decide):PE X (.Name x pos) (zhA i):=by
 intro U s Y H Q I h;obtain⟨v,e,h⟩:=h;obtain⟨m,hn,hl⟩:=I.loc;obtain⟨u,r,l⟩:=hl i x v hN e hv;have fin:EP X U Y Q u s:=⟨v,H,I,r,h⟩
 rcases l with ⟨hk,hm⟩|⟨hk,c,hc,hcell⟩
 ·exact wpAny_Name (wpAny_loadName_local I.ok.kind hk hn hm fin) hd
 ·rcases hk with hk|hk
  ·exact wpAny_Name (wpAny_loadName_cell I.ok.kind hk hc hcell fin) hd
  ·exact wpAny_Name (wpAny_loadName_free I.ok.kind hk hc hcell fin hcd) hd
def zuy{i j pos}:PE X (.Constant (.int i) j pos) (tC (.int i)):=λ_ _ _ H _ I h=>wpAny_Constant_int ⟨.int i,H,I.tok _,⟨_,rfl⟩,h⟩
def zJz{b j pos}:PE X (.Constant (.bool b) j pos) (tC (.bl b)):=λ_ _ _ H _ I h=>Constant_bool ⟨.bl b,H,I,rfl,h⟩
def zUx{j pos}:PE X (.Constant .none j pos) (tC .non):=λ_ _ _ H _ I h=>Constant_none ⟨.non,H,I,rfl,h⟩
def zBy{x j pos}:PE X (.Constant (.str x) j pos) (tC (.str x)):=λ_ _ _ H _ I h=>Calls.Constant_str ⟨.str x,H,I.tok _,⟨_,rfl⟩,h⟩
def Gl(X:Cx)(x:yt):Prop:=X.env.kindOf x=some .globalImplicit
def zkg{E:Value->yc->Prop}{U:Qb}{s:yc}{Y:St}{H:Hp}{x:yt}{u:Value}{pos:xn}{Q:Value->yc->Prop}(I:Inv X U Y H s)(hg:Gl X x)(hm:X.mg x=some u)(h:Q u s)
 (hd:(x==("__debug__":yt))=false:=by decide):yo (yv X.prog X.w) X.A (Yd (.Name x pos) X.env) Q E s :=
 Calls.Name_function_global I.ok.kind hg (Calls.loadGlobal_global (by rw[I.ok.glob];exact I.mod.glob.keeps I.bk) hm h) hd
def zCk{E:Value->yc->Prop}{U:Qb}{s:yc}{Y:St}{H:Hp}{x:yt}{u:Value}{pos:xn}{Q:Value->yc->Prop}(I:Inv X U Y H s)(hg:Gl X x)(hm:X.mg x=none)(hv:yM x=some u)(h:Q u s)
 (hn:x≠"__name__":=by decide) (hd:(x==("__debug__":yt))=false:=by decide):yo (yv X.prog X.w) X.A (Yd (.Name x pos) X.env) Q E s:=by
 obtain⟨mb,h1,h2⟩:=I.mod.blt;exact Calls.Name_function_global I.ok.kind hg (Calls.loadGlobal_builtin (by rw[I.ok.glob];exact I.mod.glob.keeps I.bk) hm (by rw[I.ok.blt];exact h1.keeps I.bk) ((h2 x hn).trans hv) h) hd
def zBx{x:yt}{v:V}{u:Value}{pos:xn}(hg:Gl X x)(hm:X.mg x=some u)(r:RelV v u)(hd:(x==("__debug__":yt))=false:=by decide):PE X (.Name x pos) (tC v) :=
 λ_ _ _ H _ I h=>zkg I hg hm ⟨v,H,I,r,h⟩ hd
def zax{x:yt}{v:V}{u:Value}{pos:xn}(hg:Gl X x)(hm:X.mg x=none)(hv:yM x=some u)(r:RelV v u)(hn:x≠"__name__":=by decide)(hd:(x==("__debug__":yt))=false:=by decide):PE X (.Name x pos) (tC v) :=
 λ_ _ _ H _ I h=>zCk I hg hm hv ⟨v,H,I,r,h⟩ hn hd
variable {a b:yE}{ta tb:TE}{pos:xn}
def sQ(b:yE){op:CmpOp}(h:op≠.In)(h2:op≠.NotIn):behindInMarks op b=false:=by
 have e1:(op==CmpOp.In)=false:=by cases op<;>first|rfl|exact absurd rfl h
 have e2:(op==CmpOp.NotIn)=false:=by cases op<;>first|rfl|exact absurd rfl h2
 cases b<;>simp[behindInMarks,e1,e2]
def tB(t:TE):TT:=λY H Q=>t Y H λx H1=>∃c,x=.bl c/\Q c H1
def z1x{e:yE}{t:TE}(h:PE X e t)(he:∀whole,isTrue e X.env whole=(do let v <-whole;standAt e.pos;xt [v] (truthy v)):=by intro _;rfl):PT X e (tB t):=by
 intro U s Y H Q I hw;refine isTrue_plain (thn (h U s Y H _ I hw) λv s1 ⟨x,H1,I1,r1,q1⟩=>?_) (he _);obtain⟨d,rfl,q⟩:=q1;cases r1;exact wpAny_truthy_bool ⟨H1,I1,q⟩
variable {tA tB':TT}{rest:Qz}
def z6A(t u:TT):TT:=λY H Q=>t Y H λc H1=>if c=true then u Y H1 Q else Q false H1
def tOr(t u:TT):TT:=λY H Q=>t Y H λc H1=>if c=true then Q true H1 else u Y H1 Q
def zSA(t:TT):TT:=λY H Q=>t Y H λc H1=>Q (!c) H1
def zmw(ha:PT X a tA):PW X (.BoolOp .And [a] pos) tA:=by
 intro wh U s Y H Q I h;refine isTrue_and (thn (ha U s Y H Q I h) λc s1 e=>?_)
 cases c with
 |true=>exact isTrue_and_nil e
 |false=>exact e
def zsy(ha:PT X a tA):PW X (.BoolOp .Or [a] pos) tA:=by
 intro wh U s Y H Q I h;refine isTrue_or (thn (ha U s Y H Q I h) λc s1 e=>?_)
 cases c with
 |false=>exact isTrue_or_nil e
 |true=>exact e
def z0y(ha:PT X a tA)(hb:PW X (.BoolOp .And (b::rest) pos) tB'):PW X (.BoolOp .And (a::b::rest) pos) (z6A tA tB'):=by
 intro wh U s Y H Q I h;refine isTrue_and (thn (ha U s Y H _ I h) λc s1 ⟨H1,I1,q1⟩=>?_)
 cases c with
 |true=>exact hb wh U s1 Y H1 Q I1 q1
 |false=>exact⟨H1,I1,q1⟩
def zEz(ha:PT X a tA)(hb:PW X (.BoolOp .Or (b::rest) pos) tB'):PW X (.BoolOp .Or (a::b::rest) pos) (tOr tA tB'):=by
 intro wh U s Y H Q I h;refine isTrue_or (thn (ha U s Y H _ I h) λc s1 ⟨H1,I1,q1⟩=>?_)
 cases c with
 |true=>exact⟨H1,I1,q1⟩
 |false=>exact hb wh U s1 Y H1 Q I1 q1
def z2y(ha:PT X a tA):PT X (.UnaryOp .Not a pos) (zSA tA):=by
 intro U s Y H Q I h;exact isTrue_not (ha U s Y H (λc H1=>Q (!c) H1) I h)
def zWA(ta tb:TE):TE:=λY H Q=>ta Y H λx H1=>∃c,x=.bl c/\if c=true then Q (.bl true) H1 else tb Y H1 Q
def zRx{op}{t:TE}(h:PE X a t):PE X (.BoolOp op [a] pos) t:=λU s Y H Q I hw=>BoolOp_one (h U s Y H Q I hw)
def z5z(ha:PE X a ta)(hb:PE X (.BoolOp .Or (b::rest) pos) tb):PE X (.BoolOp .Or (a::b::rest) pos) (zWA ta tb):=by
 intro U s Y H Q I h;refine BoolOp_or (thn (ha U s Y H _ I h) λv s1 ⟨x,H1,I1,r1,q1⟩=>?_);obtain⟨c,rfl,q1⟩:=q1;cases r1;refine wpAny_truthy_bool ?_
 cases c with
 |false=>exact hb U s1 Y H1 Q I1 q1
 |true=>exact⟨.bl true,H1,I1,rfl,q1⟩
end
def SqL(K:yw)(H:Hp)(a:yf)(xs:Wi):Prop :=
 Rd H a (.lst xs) \/
  ∃(o:YS)(hJ:Qm)(n:Nat),K.lookup a=some o/\o.cls=.type "list"/\o.dict=none/\o.data=.seq hJ n/\hJ.size<=yF/\Vals xs hJ.toList
def SqT(K:yw)(H:Hp)(a:yf)(xs:Wi):Prop :=
 Rd H a (.tup xs) \/
  ∃(o:YS)(hJ:Qm)(n:Nat),K.lookup a=some o/\o.cls=.type "tuple"/\o.data=.seq hJ n/\hJ.size<=yF/\Vals xs hJ.toList
def z3A:Value->Option V
 |.none=>some .non
 |.bool b=>some (.bl b)
 |.int i _=>some (.int i)
 |.str x _=>some (.str x)
 |.bytes b _=>some (.byt b)
 |.float b _=>some (.flt b)
 |.ref a=>some (.ref a)
 |.type n=>some (.ty n)
 |_=>none
def RelV.abs{x:V}{u:Value}(r:RelV x u):z3A u=some x:=by
 cases x with
 |non=>cases r;rfl
 |bl _=>cases r;rfl
 |int _=>obtain⟨t,rfl⟩:=r;rfl
 |str _=>obtain⟨t,rfl⟩:=r;rfl
 |byt _=>obtain⟨t,rfl⟩:=r;rfl
 |flt _=>obtain⟨t,rfl⟩:=r;rfl
 |ref _=>cases r;rfl
 |ty _=>cases r;rfl
def RelV.inj{x y:V}{u:Value}(r:RelV x u)(q:RelV y u):x=y:=Yj (r.abs.symm.trans q.abs)
def Vals.inj{xs ys:Wi}{us:Qh}(h:Vals xs us):Vals ys us->xs=ys:=by
 induction h generalizing ys with
 |nil=>intro h;cases h;rfl
 |cons r _ ih=>
  intro h
  cases h with
  |cons r' t'=>rw[r.inj r',ih t']
section
variable {X:Cx}{U:Qb}{Y:St}{H:Hp}{s:yc}{a:yf}{xs ys:Wi}
def SqL.of{K:yw}(h:H a=some (.lst xs)):SqL K H a xs:=.inl (.inl h)
def SqT.of{K:yw}(h:H a=some (.tup xs)):SqT K H a xs:=.inl (.inl h)
def Inv.list(I:Inv X U Y H s)(h:SqL X.K H a xs):∃hJ:Qh,Vals xs hJ/\PlainL s.heap a hJ.toArray/\xs.length<=yF:=by
 rcases h with h|⟨o,hJ,n,hk,hc,hd,hs,hz,r⟩
 ·obtain⟨z,hJ,n,r,e⟩:=h.ok I.hok;exact⟨hJ,r,⟨_,n,e,rfl,rfl,rfl⟩,z⟩
 ·refine⟨hJ.toList,r,⟨o,n,I.kIn a o hk,hc,hd,by simpa using hs⟩,?_⟩;have e:=r.length;simp only[Array.length_toList]at e;omega
def Inv.tuple(I:Inv X U Y H s)(h:SqT X.K H a xs):∃hJ:Qh,Vals xs hJ/\IsTup s.heap a hJ.toArray/\xs.length<=yF:=by
 rcases h with h|⟨o,hJ,n,hk,hc,hs,hz,r⟩
 ·obtain⟨z,hJ,r,p⟩:=h.ok I.hok;exact⟨hJ,r,p,z⟩
 ·refine⟨hJ.toList,r,⟨o,I.kIn a o hk,hc,n,by simpa using hs⟩,?_⟩;have e:=r.length;simp only[Array.length_toList]at e;omega
def Inv.sR(I:Inv X U Y H s)(h:SqL X.K H a xs)(h':SqL X.K H a ys):xs=ys:=by
 obtain⟨hJ,r,⟨o,n,e,_,_,d⟩,_⟩:=I.list h;obtain⟨hJ',r',⟨o',n',e',_,_,d'⟩,_⟩:=I.list h';rw[e]at e';cases e';rw[d]at d';injection d' with d1 _;have:hJ=hJ':=by simpa using congrArg Array.toList d1
 subst this;exact r.inj r'
def Inv.sH(I:Inv X U Y H s)(h:SqT X.K H a xs)(h':SqT X.K H a ys):xs=ys:=by
 obtain⟨hJ,r,⟨o,e,_,n,d⟩,_⟩:=I.tuple h;obtain⟨hJ',r',⟨o',e',_,n',d'⟩,_⟩:=I.tuple h';rw[e]at e';cases e';rw[d]at d';injection d' with d1 _;have:hJ=hJ':=by simpa using congrArg Array.toList d1
 subst this;exact r.inj r'
end
abbrev Cx.sv(X:Cx)(E:Value->yc->Prop):Cx:={X with xe:=E }
abbrev Cx.nox(X:Cx):Cx:=X.sv λ_ _=>False
def Cx.Ok.sv{X:Cx}(ok:X.Ok)(E:Value->yc->Prop):(X.sv E).Ok :=
 ⟨ok.mod,ok.kind,ok.glob,ok.blt,ok.above,ok.inj,ok.has,ok.cab,ok.hd,ok.frames,ok.stk,ok.exf,ok.bs,ok.bsz,ok.Sn,ok.Su,ok.sk,ok.frf⟩
def Cx.Ok.Tz{X:Cx}{E:Value->yc->Prop}(ok:(X.sv E).Ok):X.Ok :=
 ⟨ok.mod,ok.kind,ok.glob,ok.blt,ok.above,ok.inj,ok.has,ok.cab,ok.hd,ok.frames,ok.stk,ok.exf,ok.bs,ok.bsz,ok.Sn,ok.Su,ok.sk,ok.frf⟩
section
variable {X:Cx}{U:Qb}{Y:St}{H:Hp}{s:yc}{E:Value->yc->Prop}
def Inv.sv(I:Inv X U Y H s)(E:Value->yc->Prop):Inv (X.sv E) U Y H s:=⟨I.ok.sv E,I.os,I.bare,I.base,I.loc,I.cell,I.free,I.freeC,I.pin,I.hok,I.len⟩
def Inv.Tz(I:Inv (X.sv E) U Y H s):Inv X U Y H s:=⟨I.ok.Tz,I.os,I.bare,I.base,I.loc,I.cell,I.free,I.freeC,I.pin,I.hok,I.len⟩
def SP.Tz{D:Ends}{f:Flow}{s':yc}(h:SP (X.sv E) U D f s'):SP X U D f s':=by
 cases f with
 |next=>obtain⟨Y',H',I,q⟩:=h;exact⟨Y',H',I.Tz,q⟩
 |brk=>obtain⟨Y',H',I,q⟩:=h;exact⟨Y',H',I.Tz,q⟩
 |cont=>obtain⟨Y',H',I,q⟩:=h;exact⟨Y',H',I.Tz,q⟩
 |ret u=>obtain⟨v,Y',H',I,r,q⟩:=h;exact⟨v,Y',H',I.Tz,r,q⟩
def PSs.nox{st:We}{t:TS}(h:PSs X.nox st t):PSs X st t:=λU s Y H D I hw=>
 yU (h U s Y H D (I.sv _) hw) (λ_ _ q=>q.Tz) λ_ _ z=>YD z
variable {st:Yb}{rest:We}{t u:TS}{e:yE}{te:TE}{pos:xn}
def zsz:TS:=λD Y H=>D.nx Y H
def zEA(t u:TS):TS:=λD Y H=>t {D with nx:=u D } Y H
def zYv:PSs X [] zsz:=λ_ _ Y H _ I h=>Xd ⟨Y,H,I,h⟩
def zwp(h1:PS X st t)(h2:PSs X rest u):PSs X (st::rest) (zEA t u):=by
 intro U s Y H D I h;refine wpAny_execs_cons (thn (h1 U s Y H {D with nx:=u D } I h) λf s1 q=>?_)
 cases f with
 |next=>
  obtain⟨Y',H',I',q⟩:=q;exact h2 U s1 Y' H' D I' q
 |ret v=>exact q
 |brk=>exact q
 |cont=>exact q
def zLt(h1:PS X st t):PSs X [st] t:=by
 intro U s Y H D I h;refine wpAny_execs_cons (thn (h1 U s Y H D I h) λf s1 q=>?_)
 cases f with
 |next=>exact Xd q
 |ret v=>exact q
 |brk=>exact q
 |cont=>exact q
def Inv.quiet{U:Qb}{Y:St}{H:Hp}{s:yc}(I:Inv X U Y H s):interactive X.env=false:=by simp[interactive,I.ok.kind]
def zcA(te:TE):TS:=λD Y H=>te Y H λ_ H1=>D.nx Y H1
def zSs(he:PE X e te)(hs:xD e none pos.line X.env=pure false:=by rfl):PS X (.Expr e pos) (zcA te):=by
 intro U s Y H D I h;exact wpAny_Expr_any (thn (he U s Y H _ I h) λv s1 ⟨x,H1,I1,r1,q1⟩=>⟨Y,H1,I1,q1⟩) I.quiet hs
def zVA(te:TE):TS:=λD Y H=>te Y H D.rt
def zVy(he:PE X e te):PS X (.Return (some e) pos) (zVA te):=by
 intro U s Y H D I h;exact wpAny_Return_some (thn (he U s Y H _ I h) λv s1 ⟨x,H1,I1,r1,q1⟩=>⟨x,Y,H1,I1,r1,q1⟩)
def z2A(c:TT)(t u:TS):TS:=λD Y H=>c Y H λb H1=>if b=true then t D Y H1 else u D Y H1
def zyz{c:yE}{a b:We}{tc:TT}(hc:PT X c tc)(ha:PSs X a t)(hb:PSs X b u):PS X (.If c a b pos) (z2A tc t u):=by
 intro U s Y H D I h;refine wpAny_If (thn (hc U s Y H _ I h) λd s1 ⟨H1,I1,q1⟩=>?_)
 cases d with
 |true=>exact ha U s1 Y H1 D I1 q1
 |false=>exact hb U s1 Y H1 D I1 q1
def zgz:TS:=λ_ _ _=>False
def z8u:PS X st zgz:=λ_ _ _ _ _ _ h=>h.elim
end
abbrev TG:=V->St->Hp->(St->Hp->Prop)->Prop
abbrev TGs:=Wi->St->Hp->(St->Hp->Prop)->Prop
def PG(X:Cx)(target:yE)(t:TG):Prop :=
 ∀(U:Qb) (s:yc) (Y:St) (H:Hp) (v:V) (u:Value) (Q:St->Hp->Prop),Inv X U Y H s->RelV v u->t v Y H Q ->
  yo (yv X.prog X.w) X.A (assign target X.env u) (λ_ s'=>∃Y' H',Inv X U Y' H' s'/\Q Y' H') X.xe s
def PGs(X:Cx)(ts:Qz)(t:TGs):Prop :=
 ∀(U:Qb) (s:yc) (Y:St) (H:Hp) (vs:Wi) (us:Qh) (Q:St->Hp->Prop),Inv X U Y H s->Vals vs us->t vs Y H Q ->
  yo (yv X.prog X.w) X.A (assignInOrder ((Yy ts X.env).map (·.2)) us) (λ_ s'=>∃Y' H',Inv X U Y' H' s'/\Q Y' H') X.xe s
abbrev ziA:=V->V->V->Hp->(Hp->Prop)->Prop
def zFz(X:Cx)(t:ziA):Prop :=
 ∀(U:Qb) (s:yc) (Y:St) (H:Hp) (o i v:V) (ov iv u:Value) (Q:Hp->Prop),Inv X U Y H s->RelV o ov->RelV i iv->RelV v u->t o i v H Q ->
  yo (yv X.prog X.w) X.A (setItem ov iv u) (λ_ s'=>∃H',Inv X U Y H' s'/\Q H') X.xe s
abbrev TIp:=V->V->Hp->VK->Prop
def PIp(X:Cx)(op:Operator)(t:TIp):Prop :=
 ∀(U:Qb) (s:yc) (Y:St) (H:Hp) (x y:V) (v u:Value) (Q:VK),Inv X U Y H s->RelV x v->RelV y u->t x y H Q ->
  yo (yv X.prog X.w) X.A (inplaceOp op v u) (EP X U Y Q) X.xe s
section
variable {X:Cx}{pos:xn}
def zVw(i:Nat):TG:=λv Y H Q=>Q (Y.set i (some v)) H
def zVr{i:Nat}{x:yt}(hN:X.N.Nodup)(hi:X.N[i]?=some x)(hx:Loc X.env.scope x)(hf:X.fn x=true\/X.env.scope.names.lookup x=some .local:=by first|exact .inl rfl|exact .inr rfl|assumption):PG X (.Name x pos) (zVw i):=by
 intro U s Y H v u Q I r h;exact wpAny_assign_Name (zli I hN hi hx r (λs' I'=>⟨_,H,I',h⟩) hf)
def z8A:TGs:=λvs Y H Q=>vs=[]/\Q Y H
def zGz(t:TG)(u:TGs):TGs:=λvs Y H Q=>∃v r,vs=v::r/\t v Y H λY' H'=>u r Y' H' Q
def zls:PGs X [] z8A:=by
 intro U s Y H vs us Q I r h;obtain⟨e,h⟩:=h;subst e;cases r;exact assignInOrder_nil ⟨Y,H,I,h⟩
def zvp{e:yE}{es:Qz}{t:TG}{u:TGs}(h1:PG X e t)(h2:PGs X es u)
 (hs:(Yy (e::es) X.env).map (·.2)=assign e X.env::(Yy es X.env).map (·.2):=by rfl):PGs X (e::es) (zGz t u):=by
 intro U s Y H vs us Q I r h;obtain⟨v,vr,e1,h⟩:=h;subst e1
 cases r with
 |cons r rr=>
  rw[hs];refine assignInOrder_cons (thn (h1 U s Y H _ _ _ I r h) λ_ s1 ⟨Y1,H1,I1,q1⟩=>?_);exact h2 U s1 Y1 H1 _ _ Q I1 rr q1
def zNA(K:yw)(n:Nat)(t:TGs):TG:=λv Y H Q=>∃a xs,v=.ref a/\SqT K H a xs/\xs.length=n/\t xs Y H Q
def zrv{es:Qz}{k:Nat}{t:TGs}{n:Nat}(hc:X.calm=true)(h:PGs X es t)
 (hn:(Yy es X.env).length=n:=by rfl) (kR:(Yy es X.env).findIdx? (·.1)=none:=by rfl):PG X (.Tuple es k pos) (zNA X.K n t):=by
 intro U s Y H v u Q I r hw;obtain⟨a,xs,e1,hq,hl,hw⟩:=hw;subst e1;cases r;obtain⟨hJ,rv,ht,hz⟩:=I.tuple hq;refine assign_Tuple_tuple (I.ok.hd hc) ht (by simp[hn,<-hl,rv.length]) kR λh' hx=>?_;have I1:Inv X U Y H {s with heap:=h' }:=I.kept (t':=s.toks) λb o e=>hx b o (yu (yn e)) e;exact h U _ Y H xs _ Q I1 (by simpa using rv) hw
def zZs(to ti:TE)(t:ziA):TG:=λv Y H Q=>to Y H λo H1=>ti Y H1 λi H2=>t o i v H2 λH3=>Q Y H3
def zyv{o i:yE}{to ti:TE}{t:ziA}(ho:PE X o to)(hi:PE X i ti)(hs:zFz X t)
 (ha:∀v,assign (.Subscript o i pos) X.env v=(do
  let ov <-xt [v] (Yd o X.env)
  let iv <-xt [v,ov] (Yd i X.env)
  standAt pos
  xt [v,ov,iv] (setItem ov iv v)
  release [v,ov,iv] []):=by intro _;rfl):PG X (.Subscript o i pos) (zZs to ti t):=by
 intro U s Y H v u Q I r h;rw[ha];refine ya (yQ (thn (ho U s Y H _ I h) λov s1 ⟨x,H1,I1,r1,q1⟩=>?_));refine ya (yQ (thn (hi U s1 Y H1 _ I1 q1) λiv s2 ⟨y,H2,I2,r2,q2⟩=>?_));refine ya (YW (ya (yQ (thn (hs U s2 Y H2 x y v ov iv u _ I2 r1 r2 r q2) λ_ s3 ⟨H3,I3,q3⟩=>?_))));exact wpAny_release ⟨Y,H3,I3,q3⟩
def zlA(te:TE)(g:TG):TS:=λD Y H=>te Y H λx H1=>g x Y H1 D.nx
def zLx{tg e:yE}{te:TE}{g:TG}(he:PE X e te)(hg:PG X tg g)(hs:swapsWithSole [tg] e pos.line X.env=pure false:=by rfl)(hw:swappedStores [tg] e X.env=pure none:=by rfl)
 (h1:(Yy [tg] X.env).map (·.2)=[assign tg X.env]:=by rfl):PS X (.Assign [tg] e pos) (zlA te g):=by
 intro U s Y H D I h;refine wpAny_Assign_stores (thn (he U s Y H _ I h) λv s1 ⟨x,H1,I1,r1,q1⟩=>?_) hs hw;rw[h1];exact thn (hg U s1 Y H1 x v _ I1 r1 q1) λ_ s2 q=>q
def z5y{i:Nat}{x:yt}{e:yE}{te:TE}{pos':xn}(hN:X.N.Nodup)(hi:X.N[i]?=some x)(hx:Loc X.env.scope x)(he:PE X e te)(hs:xD e (some (.Name x pos')) pos.line X.env=pure false:=by rfl)(hf:X.fn x=true\/X.env.scope.names.lookup x=some .local:=by first|exact .inl rfl|exact .inr rfl|assumption) :
 PS X (.Assign [.Name x pos'] e pos) (zlA te (zVw i)):=by
 intro U s Y H D I h;refine wpAny_Assign_Name (thn (he U s Y H _ I h) λv s1 ⟨y,H1,I1,r1,q1⟩=>?_) hs;exact zli I1 hN hi hx r1 (λs2 I2=>⟨_,H1,I2,q1⟩) hf
def zZA(i:Nat)(te:TE)(ti:TIp):TS:=λD Y H=>∃x,Y[i]?=some (some x)/\te Y H λy H1=>ti x y H1 λz H2=>D.nx (Y.set i (some z)) H2
def zbz{i:Nat}{x:yt}{e:yE}{te:TE}{op:Operator}{ti:TIp}{pos':xn}(hN:X.N.Nodup)(hi:X.N[i]?=some x)(hx:Loc X.env.scope x)(he:PE X e te)(ho:PIp X op ti)(hf:X.fn x=true\/X.env.scope.names.lookup x=some .local:=by first|exact .inl rfl|exact .inr rfl|assumption) :
 PS X (.AugAssign (.Name x pos') op e pos) (zZA i te ti):=by
 intro U s Y H D I h;obtain⟨v,e1,h⟩:=h;obtain⟨m,hn,hl⟩:=I.loc;have vis:Vis X.env.scope x:=by rcases hx with k|k;exact .inl k;exact .inr (.inl k)
 obtain⟨u,r,l⟩:=hl i x v hi e1 vis;refine wpAny_AugAssign_Name ?_
 have go:yo (yv X.prog X.w) X.A (Yd e X.env) (λw s₂=>yo (yv X.prog X.w) X.A (inplaceOp op u w) (λr s₃=>yo (yv X.prog X.w) X.A (storeName X.env x r) (λ_=>SP X U D .next) X.xe s₃) X.xe s₂) X.xe s:=by
  refine thn (he U s Y H _ I h) λw s1 ⟨y,H1,I1,r1,q1⟩=>?_;refine thn (ho U s1 Y H1 v y u w _ I1 r r1 q1) λz s2 ⟨zv,H2,I2,r2,q2⟩=>?_;exact zli I2 hN hi hx r2 (λs3 I3=>⟨_,H2,I3,q2⟩) hf
 rcases l with ⟨hk,hm⟩|⟨hk,c,hc,hcell⟩
 ·exact wpAny_loadName_local I.ok.kind hk hn hm go
 ·rcases hk with hk|hk
  ·exact wpAny_loadName_cell I.ok.kind hk hc hcell go
  ·rcases hx with k|k
   ·have:X.env.scope.names.lookup x=some .free:=hk;rw[k]at this;cases this
   ·have:X.env.scope.names.lookup x=some .free:=hk;rw[k]at this;cases this
def zjz(c:TT)(tb:TS):TS:=λD Y H=>∃W:Nat->St->Hp->Prop,(∃m,W m Y H)/\∀m Y H,W m Y H ->
 c Y H λb H1=>if b=true then ∃N:St->Hp->Prop,(∀Y' H',N Y' H'->∃m',m'<m/\W m' Y' H')/\tb {D with nx:=N,ct:=N,bk:=D.nx } Y H1 else D.nx Y H1
def zgu{c:yE}{body:We}{tc:TT}{tb:TS}(hp:PassesOwn (yv X.prog X.w) X.A X.env X.xe)(hc:PT X c tc)(hb:PSs X body tb):PS X (.While c body [] pos) (zjz tc tb):=by
 intro U s Y H D I h;obtain⟨W,⟨m0,w0⟩,turn⟩:=h;refine wpAny_While (codeAny_whileLoop (λn s'=>∃Y' H',Inv X U Y' H' s'/\W n Y' H') ?_ m0 ⟨Y,H,I,w0⟩);rintro n s1 ⟨Y1,H1,I1,w1⟩;refine xE hp (thn (hc U s1 Y1 H1 _ I1 (turn n Y1 H1 w1)) λb s2 ⟨H2,I2,q2⟩=>?_)
 cases b with
 |true=>
  obtain⟨N,hN,q2⟩:=q2;rw[if_pos rfl];refine xE hp (thn (hb U s2 Y1 H2 _ I2 q2) λf s3 q3=>?_)
  cases f with
  |next=>
   obtain⟨Y3,H3,I3,n3⟩:=q3;obtain⟨m',hm,w3⟩:=hN Y3 H3 n3;exact⟨m',hm,Y3,H3,I3,w3⟩
  |cont=>
   obtain⟨Y3,H3,I3,n3⟩:=q3;obtain⟨m',hm,w3⟩:=hN Y3 H3 n3;exact⟨m',hm,Y3,H3,I3,w3⟩
  |brk=>exact q3
  |ret v=>exact q3
 |false=>
  rw[if_neg yA];exact Xd ⟨Y1,H2,I2,q2⟩
end
structure It where
 go:Nat->Hp->Prop
 yld:Nat->Hp->V->Hp->Prop
 stop:Nat->Hp->Prop
def zPp(X:Cx)(U:Qb)(H:Hp)(b:yf):Prop :=
 H b=none/\b≠X.env.locals/\b∉X.fs/\(b∈X.ex\/X.s₀.heap.objs.size<=b)/\(∀x c,X.env.cells.lookup x=some c->c≠b)/\∀p∈X.pn++U,p.1≠b
def Inv.sX{X:Cx}{U:Qb}{Y:St}{H H':Hp}{s:yc}{b:yf}(I:Inv X U Y H s)(hb:s.heap.objs.size<=b)(hn:H' b=none):zPp X U H' b:=by
 refine⟨hn,yX (yz I.lt hb),I.nofs hb,.inr (yG I.sz hb),λx c e z=>?_,λp hp z=>?_⟩
 ·obtain⟨v,q⟩:=I.cell x c e;exact absurd (yz q.lt (by rw[z];exact hb)) (yW _)
 ·exact absurd (yz (yn (I.pin p hp).1) (by rw[z];exact hb)) (yW _)
structure Turn(P:yy)(w:yI)(K:yw)(tg:yE)(δ:It)(fp:Qv)(it:yf)(tn:Nat->yT->Prop):Prop where
 mem:it∈fp
 obj:∀i h,tn i h->∀b∈fp,∃o,h.get? b=some o/\∀v,o.data≠.cell v
 keep:∀i h h',tn i h->(∀b∈fp,∀o,h.get? b=some o->h'.get? b=some o)->tn i h'
 item:∀(X:Cx),X.prog=P->X.w=w->X.K=K->X.calm=true->∀(i:Nat)(U:Qb) (s:yc) (Y:St) (H:Hp) (E:Value->yc->Prop),Inv X U Y H s->(∀b∈fp,zPp X U H b)->tn i s.heap->δ.go i H ->
  yo (yv P w) X.A (xW (.ref it)) (λr s1=>∃u,r=some u /\
   yo (yv P w) X.A (letOwnedTupleGo tg (.ref it) u) (λ_ s2=>∃x H',Inv X U Y H' s2/\RelV x u/\δ.yld i H x H'/\tn (i+1) s2.heap/\∀b∈fp,H' b=none) E s1) E s
 done:∀(X:Cx),X.prog=P->X.w=w->X.K=K->X.calm=true->∀(i:Nat)(U:Qb) (s:yc) (Y:St) (H:Hp) (E:Value->yc->Prop),Inv X U Y H s->(∀b∈fp,zPp X U H b)->tn i s.heap->δ.stop i H ->
  yo (yv P w) X.A (xW (.ref it)) (λr s1=>r=none/\Inv X U Y H s1) E s
 self:∀(A:yJ)(i:Nat)(s:yc)(Q:Value->yc->Prop)(E:Value->yc->Prop),tn i s.heap->Q (.ref it) s->yo (yv P w) A (pyIter (.ref it)) Q E s
abbrev TI:=St->Hp->(It->Hp->Prop)->Prop
def PIE(X:Cx)(U:Qb)(Y:St)(tg:yE)(R:It->Hp->Prop)(itv:Value)(s2:yc):Prop :=
 ∃(it:yf)(fp:Qv)(tn:Nat->yT->Prop)(δ:It)(H':Hp),itv=.ref it/\Inv X U Y H' s2/\Turn X.prog X.w X.K tg δ fp it tn/\tn 0 s2.heap/\(∀b∈fp,zPp X U H' b)/\R δ H'
def PI(X:Cx)(tg iter:yE)(wi:TI):Prop :=
 ∀(U:Qb) (s:yc) (Y:St) (H:Hp) (R:It->Hp->Prop),Inv X U Y H s->wi Y H R ->
  yo (yv X.prog X.w) X.A (Yd iter X.env) (λv s1=>yo (yv X.prog X.w) X.A (pyIter v) (PIE X U Y tg R) X.xe s1) X.xe s
def zUt{M:Model}{A:yJ}{E:Value->yc->Prop}{s:yc}{tg:yE}{it:yf}{u:Value}{o:YS}{n:String}{vs:Qm}{Q:Unit->yc->Prop}(ho:s.heap.get? it=some o)(hc:o.cls=.type n)(hd:o.data=.fields vs)
 (hn:["enumerate","zip","dict_itemiterator","dict_reverseitemiterator","odict_iterator","itertools.zip_longest","itertools.pairwise"].contains n=false) (hQ:Q () s):yo M A (letOwnedTupleGo tg (.ref it) u) Q E s:=by
 unfold letOwnedTupleGo
 cases tg<;>first
  |exact ye hQ
  |(cases u<;>first
   |exact ye hQ
   | (refine ya (wpAny_load ho ?_)
      rw[hc,hd];show yo M A (if(["enumerate","zip","dict_itemiterator","dict_reverseitemiterator","odict_iterator","itertools.zip_longest","itertools.pairwise"].contains n&&vs[0]?==some (YJ _))=true then _ else _) Q E s;rw[if_neg (by intro h;rw[hn,Bool.false_and]at h;cases h)];exact ye hQ))
def Itl(K:yw)(a:yf):It :=
 ⟨λi H=>∃xs x,SqL K H a xs/\xs[i]?=some x,λi H x H'=>H'=H/\∀xs,SqL K H a xs->xs[i]?=some x,λi H=>∃xs,SqL K H a xs/\xs.length<=i⟩
def Itt(K:yw)(a:yf):It :=
 ⟨λi H=>∃xs x,SqT K H a xs/\xs[i]?=some x,λi H x H'=>H'=H/\∀xs,SqT K H a xs->xs[i]?=some x,λi H=>∃xs,SqT K H a xs/\xs.length<=i⟩
def Itr(lo:Int)(n:Nat):It:=⟨λi _=>i<n,λi H x H'=>H'=H/\x=.int (lo+i),λi _=>n<=i⟩
def z4r{P:yy}{w:yI}{K:yw}{tg:yE}(a it:yf):Turn P w K tg (Itl K a) [it] it (λi h=>h.IsListIter it a i) where
 mem:=by simp
 obj:=λi h st b hb=>by
  have e:b=it:=by simpa using hb
  subst e;obtain⟨o,e,c,d⟩:=st;exact⟨o,e,λv z=>by rw[d]at z;cases z⟩
 keep:=λi h h' st k=>st.at λo e=>k it (by simp) o e
 item:=by
  intro X hP hw hK hc i U s Y H E I hf st hg;subst hP hw hK;obtain⟨xs,x,hq,hx⟩:=hg;obtain⟨hJ,rv,p,hz⟩:=I.list hq;obtain⟨u,hu,ru⟩:=rv.get hx;obtain⟨f0,f1,f2,f3,f4,f5⟩:=hf it (by simp);refine wpAny_pyNext_list_item st p.isList (x:=u) (by simpa using hu) λh' st' sb=>?_;have I1:Inv X U Y H {s with heap:=h' }:=I.turned (t':=s.toks) (λb o hb e=>(sb.2 b hb).trans e) f0 f1 f3 f4 f5;obtain⟨o,e,c,d⟩:=id st';exact⟨u,rfl,zUt (s:={s with heap:=h' }) e c d (by decide) ⟨x,H,I1,ru,⟨rfl,λys hy=>by rw[I.sR hy hq];exact hx⟩,st',λb hb=>(hf b hb).1⟩⟩
 done:=by
  intro X hP hw hK hc i U s Y H E I hf st hg;subst hP hw hK;obtain⟨xs,hq,hx⟩:=hg;obtain⟨hJ,rv,p,hz⟩:=I.list hq;obtain⟨f0,f1,f2,f3,f4,f5⟩:=hf it (by simp);have hl:=rv.length;exact wpAny_pyNext_list_end (I.ok.hd hc) st p.isList (by simp;omega) λh' eb=>⟨rfl,I.turned (t':=s.toks) (λb o hb e=>eb b o hb e) f0 f1 f3 f4 f5⟩
 self:=λ_ _ _ _ _ st h=>wpAny_pyIter_listiter st h
def zmq{P:yy}{w:yI}{K:yw}{tg:yE}(a it:yf):Turn P w K tg (Itt K a) [it] it (λi h=>h.IsTupleIter it a i) where
 mem:=by simp
 obj:=λi h st b hb=>by
  have e:b=it:=by simpa using hb
  subst e;obtain⟨o,e,c,d⟩:=st;exact⟨o,e,λv z=>by rw[d]at z;cases z⟩
 keep:=λi h h' st k=>st.at λo e=>k it (by simp) o e
 item:=by
  intro X hP hw hK hc i U s Y H E I hf st hg;subst hP hw hK;obtain⟨xs,x,hq,hx⟩:=hg;obtain⟨hJ,rv,p,hz⟩:=I.tuple hq;obtain⟨u,hu,ru⟩:=rv.get hx;obtain⟨f0,f1,f2,f3,f4,f5⟩:=hf it (by simp);refine wpAny_pyNext_tuple_item st (show s.heap.IsTuple a hJ.toArray from p) (x:=u) (by simpa using hu) λh' st' sb=>?_;have I1:Inv X U Y H {s with heap:=h' }:=I.turned (t':=s.toks) (λb o hb e=>(sb.2 b hb).trans e) f0 f1 f3 f4 f5;obtain⟨o,e,c,d⟩:=id st';exact⟨u,rfl,zUt (s:={s with heap:=h' }) e c d (by decide) ⟨x,H,I1,ru,⟨rfl,λys hy=>by rw[I.sH hy hq];exact hx⟩,st',λb hb=>(hf b hb).1⟩⟩
 done:=by
  intro X hP hw hK hc i U s Y H E I hf st hg;subst hP hw hK;obtain⟨xs,hq,hx⟩:=hg;obtain⟨hJ,rv,p,hz⟩:=I.tuple hq;obtain⟨f0,f1,f2,f3,f4,f5⟩:=hf it (by simp);have hl:=rv.length;exact wpAny_pyNext_tuple_end (I.ok.hd hc) st (show s.heap.IsTuple a hJ.toArray from p) (by simp;omega) λh' eb=>⟨rfl,I.turned (t':=s.toks) (λb o hb e=>eb b o hb e) f0 f1 f3 f4 f5⟩
 self:=λ_ _ _ _ _ st h=>wpAny_pyIter_tupleiter st h
def zqq{P:yy}{w:yI}{K:PySem.W.Frag}{tg:yE}(it:yf)(lo:Int)(n:Nat):Turn P w K tg (Itr lo n) [it] it (λi h=>IsRangeIter h it (lo+(i:Nat)*1) ((n:Int)-(i:Nat)) 1) where
 mem:=by simp
 obj:=λi h st b hb=>by
  have e:b=it:=by simpa using hb
  subst e
  exact⟨_,st,λv z=>by
   have z':Data.fields _=Data.cell v:=z;cases z'⟩
 keep:=λi h h' st k=>k it (by simp) _ st
 item:=by
  intro X hP hw hK hc i U s Y H E I hf st hg;subst hP hw hK;obtain⟨f0,f1,f2,f3,f4,f5⟩:=hf it (by simp);have W:=Walks.range (prog:=X.prog) (w:=X.w) (I.ok.hd hc) it lo 1 n;refine W.item i s _ _ hg st λv h' tk hv st' kk=>?_;obtain⟨t,rfl⟩:=hv;have I1:Inv X U Y H {s with heap:=h',toks:=tk }:=I.turned (λb o hb e=>kk b o (by simpa using hb) e) f0 f1 f3 f4 f5;refine⟨_,rfl,zUt (s:={s with heap:=h',toks:=tk }) (n:="range_iterator") st' rfl rfl (by decide) ⟨.int (lo+i),H,I1,⟨t,?_⟩,⟨rfl,rfl⟩,st',λb hb=>(hf b hb).1⟩⟩;rw[Int.mul_one]
 done:=by
  intro X hP hw hK hc i U s Y H E I hf st hg;subst hP hw hK;obtain⟨f0,f1,f2,f3,f4,f5⟩:=hf it (by simp);exact wpAny_pyNext_range_end (I.ok.hd hc) st (by have:n<=i:=hg;omega) λh' eb=>⟨rfl,I.turned (t':=s.toks) (λb o hb e=>eb b o hb e) f0 f1 f3 f4 f5⟩
 self:=λ_ _ _ _ _ st h=>wpAny_pyIter_rangeiter st h
section
variable {X:Cx}{tg:yE}
def zds(K:yw)(tl:TE):TI:=λY H R=>tl Y H λx H1=>∃a,x=.ref a/\(∃xs,SqL K H1 a xs)/\R (Itl K a) H1
def zRA(K:yw)(tl:TE):TI:=λY H R=>tl Y H λx H1=>∃a,x=.ref a/\(∃xs,SqT K H1 a xs)/\R (Itt K a) H1
def z7w{l:yE}{tl:TE}(hl:PE X l tl):PI X tg l (zds X.K tl):=by
 intro U s Y H R I h;refine thn (hl U s Y H _ I h) λv s1 ⟨x,H1,I1,r1,q1⟩=>?_;obtain⟨a,e,⟨xs,hq⟩,q⟩:=q1;subst e;cases r1;obtain⟨hJ,rv,p,hz⟩:=I1.list hq;refine Xl p.isList ?_;refine⟨s1.heap.objs.size,[s1.heap.objs.size],_,_,H1,rfl,I1.kept (t':=s1.toks) λb o e=>yb _ e,z4r a _,⟨_,yq _ rfl,rfl,rfl⟩,λb hb=>?_,q⟩;have e:b=s1.heap.objs.size:=by simpa using hb
 subst e;exact I1.sX (yh _) (I1.hok.fresh (yh _))
def zpy{l:yE}{tl:TE}(hl:PE X l tl):PI X tg l (zRA X.K tl):=by
 intro U s Y H R I h;refine thn (hl U s Y H _ I h) λv s1 ⟨x,H1,I1,r1,q1⟩=>?_;obtain⟨a,e,⟨xs,hq⟩,q⟩:=q1;subst e;cases r1;obtain⟨hJ,rv,p,hz⟩:=I1.tuple hq;refine wpAny_pyIter_tuple (show s1.heap.IsTuple a hJ.toArray from p) ?_;refine⟨s1.heap.objs.size,[s1.heap.objs.size],_,_,H1,rfl,I1.kept (t':=s1.toks) λb o e=>yb _ e,zmq a _,⟨_,yq _ rfl,rfl,rfl⟩,λb hb=>?_,q⟩;have e:b=s1.heap.objs.size:=by simpa using hb
 subst e;exact I1.sX (yh _) (I1.hok.fresh (yh _))
def zDu{U:Qb}{Y:St}{H:Hp}{s:yc}{R:It->Hp->Prop}{E:Value->yc->Prop}{lo hi:Int}{t u v:Tok}{tk:Nat}(I:Inv X U Y H s)(h1:-(2^62)<=lo)(h2:lo<2^62)(h3:-(2^62)<=hi)(h4:hi<2^62)
 (q:R (Itr lo (hi-lo).toNat) H):yo (yv X.prog X.w) X.A (pyIter (.ref s.heap.objs.size)) (PIE X U Y tg R) E {s with heap:=s.heap.push {cls:=.type "range",data:=.fields #[.int lo t,.int hi u,.int 1 v]},toks:=tk }:=by
 refine wpAny_pyIter_range (IsRange.new ..) (small_one h1 h2 h3 h4) ?_;have I1:Inv X U Y H {s with heap:=s.heap.push {cls:=.type "range",data:=.fields #[.int lo t,.int hi u,.int 1 v]},toks:=tk }:=I.kept λb o e=>yb _ e
 refine⟨(s.heap.push {cls:=.type "range",data:=.fields #[.int lo t,.int hi u,.int 1 v]}).objs.size,[(s.heap.push {cls:=.type "range",data:=.fields #[.int lo t,.int hi u,.int 1 v]}).objs.size],_,_,H,rfl,
  I1.kept (t':=tk) λb o e=>yb _ e,zqq _ lo (hi-lo).toNat,?_,λb hb=>?_,q⟩
 ·have e1:lo+((0:Nat):Int)*1=lo:=by simp
  have e2:(((hi-lo).toNat:Nat):Int)-((0:Nat):Int)=Builtin.Range.rangeSize lo hi 1:=by rw[rangeSize_one];split<;>omega
  show IsRangeIter _ _ (lo+((0:Nat):Int)*1) ((((hi-lo).toNat:Nat):Int)-((0:Nat):Int)) 1;rw[e1,e2];exact yq _ rfl
 ·have e:b=(s.heap.push {cls:=.type "range",data:=.fields #[.int lo t,.int hi u,.int 1 v]}).objs.size:=by simpa using hb
  subst e;exact I1.sX (yh _) (I1.hok.fresh (yh _))
def zKz(ta:TA):TI:=λY H R=>ta Y H λvs H1=>∃j:Int,vs=[.int j]/\-(2^62)<=j/\j<2^62/\R (Itr 0 j.toNat) H1
def zRr{a:yE}{ta:TA}{p pos:xn}(hg:Gl X "range")(hm:X.mg "range"=none)(ha:PA X [a] ta)(hs:yj [a] X.env=[(false,Yd a X.env)]:=by rfl):PI X tg (.Call (.Name "range" p) [a] [] pos) (zKz ta):=by
 intro U s Y H R I h;refine Call_ (zCk I hg hm boot_range (YV (thn (ha pos U s Y H _ I h) λus s1 ⟨vs,H1,I1,r1,q1⟩=>?_) hs rfl));obtain⟨j,e,q1,q2,q⟩:=q1;subst e
 cases r1 with
 |cons r rr=>
  cases rr;obtain⟨t,rfl⟩:=r;exact call_range_1 (zDu I1 (by omega) (by omega) q1 q2 (by simpa using q))
def z0A(wi:TI)(g:TG)(tb:TS):TS:=λD Y H=>wi Y H λδ H1=>∃W:Nat->Nat->St->Hp->Prop,(∃m,W 0 m Y H1)/\∀i m Y H,W i m Y H ->
 (δ.stop i H/\D.nx Y H)\/(δ.go i H/\∃N:St->Hp->Prop,(∀Y' H',N Y' H'->∃m',m'<m/\W (i+1) m' Y' H')/\∀x H',δ.yld i H x H'->g x Y H' λY2 H2=>tb {D with nx:=N,ct:=N,bk:=D.nx } Y2 H2)
def zIn(fp:Qv)(h:yT):Qb:=fp.filterMap λb=>(h.get? b).map λo=>(b,o)
def zEg{fp:Qv}{h:yT}{b:yf}{o:YS}(hb:b∈fp)(e:h.get? b=some o):(b,o)∈zIn fp h:=List.mem_filterMap.mpr ⟨b,hb,by rw[e];rfl⟩
def zns{fp:Qv}{h:yT}{p:yf×YS}(hp:p∈zIn fp h):p.1∈fp/\h.get? p.1=some p.2:=by
 obtain⟨b,hb,e⟩:=List.mem_filterMap.mp hp
 cases q:h.get? b with
 |none=>rw[q]at e;cases e
 |some o=>
  rw[q]at e;have e':(b,o)=p:=Yj e;subst e';exact⟨hb,q⟩
def Inv.pinned{U:Qb}{Y:St}{H:Hp}{s:yc}{fp:Qv}(I:Inv X U Y H s)(hf:∀b∈fp,zPp X U H b)(ho:∀b∈fp,∃o,s.heap.get? b=some o/\∀v,o.data≠.cell v):Inv X (U++zIn fp s.heap) Y H s :=
 I.sL λp hp=>(List.mem_append.mp hp).elim (λz=>I.pin p (Nm _ z)) λz=>by
  obtain⟨hb,e⟩:=zns z;obtain⟨f0,f1,f2,_⟩:=hf p.1 hb;obtain⟨o,e',d⟩:=ho p.1 hb;rw[e]at e';cases e';exact⟨e,f0,f1,f2,d⟩
def Inv.TR{U pl:Qb}{Y:St}{H:Hp}{s:yc}(I:Inv X (U++pl) Y H s):Inv X U Y H s:=I.sL λp hp=>I.pin p (Nm _ (Nk _ hp))
def zez{iter:yE}{body:We}{wi:TI}{g:TG}{tb:TS}{pos:xn}(hp:PassesOwn (yv X.prog X.w) X.A X.env X.xe)(hc:X.calm=true)(hi:PI X tg iter wi)(hg:PG X tg g)(hb:PSs X body tb)
 (hs:∀x,YH iter X.env x=pure x:=by intro _;rfl):PS X (.For tg iter body [] pos) (z0A wi g tb):=by
 intro U s Y H D I h;refine wpAny_For (thn (hi U s Y H _ I h) λv s1 h1=>thn h1 λitv s2 h2=>?_) hs;obtain⟨it,fp,tn,δ,H2,e,I2,T,st2,f2,W,⟨m0,w0⟩,turn⟩:=h2;subst e;have stat:∀{H':Hp},(∀b∈fp,H' b=none)->∀b∈fp,zPp X U H' b:=λhn b hb=>⟨hn b hb,(f2 b hb).2⟩
 refine codeAny_forLoop_any (λn s'=>∃i Y' H',Inv X U Y' H' s'/\tn i s'.heap/\(∀b∈fp,H' b=none)/\W i n Y' H') ?_ m0 ⟨0,Y,H2,I2,st2,λb hb=>(f2 b hb).1,w0⟩;rintro n s3 ⟨i,Y3,H3,I3,st3,fr3,w3⟩;rcases turn i n Y3 H3 w3 with ⟨stop,qn⟩|⟨go,N,hN,step⟩
 ·refine xE hp (thn (T.done X rfl rfl rfl hc i U s3 Y3 H3 X.xe I3 (stat fr3) st3 stop) λr s4 ⟨hr,I4⟩=>?_);subst hr;exact Xd ⟨Y3,H3,I4,qn⟩
 ·refine xE hp (thn (T.item X rfl rfl rfl hc i U s3 Y3 H3 X.xe I3 (stat fr3) st3 go) λr s4 ⟨u,hr,h4⟩=>?_);subst hr;refine xE hp (thn h4 λ_ s5 ⟨x,H5,I5,r5,y5,st5,fr5⟩=>?_);have I5':=I5.pinned (stat fr5) (T.obj _ _ st5);refine xE hp (thn (hg _ s5 Y3 H5 x u _ I5' r5 (step x H5 y5)) λ_ s6 ⟨Y6,H6,I6,q6⟩=>?_);refine xE hp (thn (hb _ s6 Y6 H6 _ I6 q6) λf s7 q7=>?_)
  have again:∀{Y7:St} {H7:Hp},Inv X (U++zIn fp s5.heap) Y7 H7 s7->N Y7 H7->∃m,m<n/\∃i Y' H',Inv X U Y' H' s7/\tn i s7.heap/\(∀b∈fp,H' b=none)/\W i m Y' H':=λ{Y7 H7} I7 n7=>by
   obtain⟨m',hm,w7⟩:=hN Y7 H7 n7;refine⟨m',hm,i+1,Y7,H7,I7.TR,T.keep _ _ _ st5 λb hb o e=>(I7.pin (b,o) (Nm _ (Nm _ (zEg hb e)))).1,λb hb=>?_,w7⟩;obtain⟨o,e,d⟩:=T.obj _ _ st5 b hb;exact(I7.pin (b,o) (Nm _ (Nm _ (zEg hb e)))).2.1
  cases f with
  |next=>obtain⟨Y7,H7,I7,n7⟩:=q7;exact again I7 n7
  |cont=>obtain⟨Y7,H7,I7,n7⟩:=q7;exact again I7 n7
  |brk=>obtain⟨Y7,H7,I7,q7⟩:=q7;exact⟨Y7,H7,I7.TR,q7⟩
  |ret v=>obtain⟨x7,Y7,H7,I7,r7,q7⟩:=q7;exact⟨x7,Y7,H7,I7.TR,r7,q7⟩
end
abbrev R2:=V->V->Hp->VK->Prop
def OpR(X:Cx)(f:Value->Value->Sem Value)(r:R2):Prop :=
 ∀(U:Qb) (s:yc) (Y:St) (H:Hp) (x y:V) (v u:Value) (Q:VK),Inv X U Y H s->RelV x v->RelV y u->r x y H Q ->
  yo (yv X.prog X.w) X.A (f v u) (EP X U Y Q) X.xe s
def zhl(X:Cx)(f:Value)(r:Wi->Hp->VK->Prop):Prop :=
 ∀(U:Qb) (s:yc) (Y:St) (H:Hp) (xs:Wi) (us:Qh) (Q:VK),Inv X U Y H s->Vals xs us->r xs H Q ->
  yo (yv X.prog X.w) X.A (call f us) (EP X U Y Q) X.xe s
def tOp(r:R2)(ta tb:TE):TE:=λY H Q=>ta Y H λx H1=>tb Y H1 λy H2=>r x y H2 Q
def rI(C:Int->Int->Prop)(g:Int->Int->V):R2:=λx y H Q=>∃i j,x=.int i/\y=.int j/\C i j/\Q (g i j) H
def rI0(g:Int->Int->V):R2:=λx y H Q=>∃i j,x=.int i/\y=.int j/\Q (g i j) H
section
variable {X:Cx}{a b c:yE}{ta tb tc:TE}{pos:xn}
def binT(ha:PE X a ta)(hb:PE X b tb){U:Qb}{s:yc}{Y:St}{H:Hp}{R:V->V->Hp->Prop}(I:Inv X U Y H s)
 (h:ta Y H λx H1=>tb Y H1 λy H2=>R x y H2) {Q:Value->yc->Prop} {f:Value->Value->Sem Value}
 (hf:∀v u s2 x y H2,Inv X U Y H2 s2->RelV x v->RelV y u->R x y H2->yo (yv X.prog X.w) X.A (f v u) Q X.xe s2) :
 yo (yv X.prog X.w) X.A (Yd a X.env) (λv s₁=>yo (yv X.prog X.w) X.A (Yd b X.env) (λu s₂=>yo (yv X.prog X.w) X.A (f v u) Q X.xe s₂) X.xe s₁) X.xe s:=by
 refine thn (ha U s Y H _ I h) λv s1 ⟨x,H1,I1,r1,q1⟩=>?_;refine thn (hb U s1 Y H1 _ I1 q1) λu s2 ⟨y,H2,I2,r2,q2⟩=>?_;exact hf v u s2 x y H2 I2 r1 r2 q2
def zuz{op:Operator}{r:R2}(ho:OpR X (xw op) r)(ha:PE X a ta)(hb:PE X b tb):PE X (.BinOp a op b pos) (tOp r ta tb):=by
 intro U s Y H Q I h;exact wpAny_BinOp (binT ha hb I h λv u s2 x y H2 I2 rx ry q=>ho U s2 Y H2 x y v u Q I2 rx ry q)
def opI{f:Value->Value->Sem Value}{C:Int->Int->Prop}{g:Int->Int->Int}
 (rule:∀(i j:Int)(t u:Tok)(s:yc)(Q:Value->yc->Prop)(E:Value->yc->Prop),C i j->Q (.int (g i j) s.toks) {s with toks:=s.toks+1 }->yo (yv X.prog X.w) X.A (f (.int i t) (.int j u)) Q E s) :
 OpR X f (rI C λi j =>.int (g i j)):=by
 intro U s Y H x y v u Q I rx ry h;obtain⟨i,j,rfl,rfl,hc,q⟩:=h;obtain⟨t,rfl⟩:=rx;obtain⟨t',rfl⟩:=ry;exact rule i j t t' s _ _ hc ⟨.int (g i j),H,I.tok _,⟨_,rfl⟩,q⟩
def opI0{f:Value->Value->Sem Value}{g:Int->Int->Int}
 (rule:∀(i j:Int)(t u:Tok)(s:yc)(Q:Value->yc->Prop)(E:Value->yc->Prop),Q (.int (g i j) s.toks) {s with toks:=s.toks+1 }->yo (yv X.prog X.w) X.A (f (.int i t) (.int j u)) Q E s) :
 OpR X f (rI0 λi j =>.int (g i j)):=by
 intro U s Y H x y v u Q I rx ry h;obtain⟨i,j,rfl,rfl,q⟩:=h;obtain⟨t,rfl⟩:=rx;obtain⟨t',rfl⟩:=ry;exact rule i j t t' s _ _ ⟨.int (g i j),H,I.tok _,⟨_,rfl⟩,q⟩
def opB0{f:Value->Value->Sem Value}{g:Int->Int->Bool}
 (rule:∀(i j:Int)(t u:Tok)(s:yc)(Q:Value->yc->Prop)(E:Value->yc->Prop),Q (.bool (g i j)) s->yo (yv X.prog X.w) X.A (f (.int i t) (.int j u)) Q E s) :
 OpR X f (rI0 λi j =>.bl (g i j)):=by
 intro U s Y H x y v u Q I rx ry h;obtain⟨i,j,rfl,rfl,q⟩:=h;obtain⟨t,rfl⟩:=rx;obtain⟨t',rfl⟩:=ry;exact rule i j t t' s _ _ ⟨.bl (g i j),H,I,rfl,q⟩
def zzy:OpR X (xw .Mod) (rI (λ_ j=>0<j) λi j =>.int (i%j)):=opI λi j _ _ _ _ _ hc q=>by
 have h1:(0:Int)<j:=hc;exact mod_int' (by omega) (by rw[Int.fmod_eq_emod_of_nonneg i (by omega)];exact q)
def z1v:OpR X (inplaceOp .Add) (rI0 λi j =>.int (i+j)):=opI0 λ_ _ _ _ _ _ _ q=>iadd_int q
def zJv{U:Qb}{Y:St}{H:Hp}{s:yc}{Q:VK}{k k':Bool}(I:Inv X U Y H s)(q:Q (.bl k) H)(e:k=k'):EP X U Y Q (.bool k') s:=by
 subst e;exact⟨.bl k,H,I,rfl,q⟩
def zxz:OpR X (Yz .Lt) (rI0 λi j =>.bl (decide (i<j))):=opB0 λ_ _ _ _ _ _ _ q=>lt_int q
def zmA:OpR X (Yz .Gt) (rI0 λi j =>.bl (decide (j<i))):=opB0 λ_ _ _ _ _ _ _ q=>gt_int q
def zXz:OpR X (Yz .GtE) (rI0 λi j =>.bl (decide (j<=i))):=opB0 λ_ _ _ _ _ _ _ q=>ge_int q
def zPl:OpR X (Yz .Is) (λx y H Q=>y=.non/\Q (.bl (decide (x=.non))) H):=by
 intro U s Y H x y v u Q I rx ry h;obtain⟨rfl,q⟩:=h;cases ry;refine is_none_gen (zJv I q ?_)
 cases x<;>first
  |(cases rx;rfl)
  |(obtain⟨t,rfl⟩:=rx;rfl)
def zwi:OpR X (Yz .IsNot) (λx y H Q=>y=.non/\Q (.bl (!decide (x=.non))) H):=by
 intro U s Y H x y v u Q I rx ry h;obtain⟨rfl,q⟩:=h;cases ry;refine isnot_none_gen (zJv I q ?_)
 cases x<;>first
  |(cases rx;rfl)
  |(obtain⟨t,rfl⟩:=rx;rfl)
def zox{op:CmpOp}{r:R2}(ho:OpR X (Yz op) r)(ha:PE X a ta)(hb:PE X b tb)(hm:behindInMarks op b=false):PE X (.Compare a [op] [b] pos) (tOp r ta tb):=by
 intro U s Y H Q I h;exact wpAny_Compare1 (binT ha hb I h λv u s2 x y H2 I2 rx ry q=>ho U s2 Y H2 x y v u Q I2 rx ry q) hm
def zSz(t:TE):TT:=λY H Q=>t Y H λx H'=>∃k,x=.bl k/\Q k H'
def z8w{op:CmpOp}{r:R2}(ho:OpR X (Yz op) r)(ha:PE X a ta)(hb:PE X b tb)(hm:behindInMarks op b=false):PT X (.Compare a [op] [b] pos) (zSz (tOp r ta tb)):=by
 intro U s Y H Q I h
 refine wpAny_isTrue_Compare1 (thn (ha U s Y H _ I h) λv s1 ⟨x,H1,I1,r1,q1⟩=>thn (hb U s1 Y H1 _ I1 q1) λu s2 ⟨y,H2,I2,r2,q2⟩=>
  thn (ho U s2 Y H2 x y v u _ I2 r1 r2 q2) λc s3 ⟨z,H3,I3,r3,k,e,q3⟩=>?_) hm
 subst e;cases r3;exact wpAny_truthy_bool ⟨H3,I3,q3⟩
def sy:(yF:Nat)<2^63:=by rw[Yo];decide
def vals1{x:V}{us:Qh}(r:Vals [x] us):∃u,us=[u]/\RelV x u:=by
 cases r with
 |cons r1 r2=>cases r2;exact⟨_,rfl,r1⟩
def vals2{x y:V}{us:Qh}(r:Vals [x,y] us):∃u w',us=[u,w']/\RelV x u/\RelV y w':=by
 cases r with
 |cons r1 r2=>
  cases r2 with
  |cons r3 r4=>cases r4;exact⟨_,_,rfl,r1,r3⟩
end
structure sY(h:yT)(x dx C:yf)(mA:yt->Qi):Prop where
 obj:h.get? x=some (W.instObj C dx)
 ns:h.Ns1 dx mA
 ne:dx≠x
def zWn{h:yT}{dx:yf}{mA:yt->Qi}(n:h.Ns1 dx mA):∃od,h.get? dx=some od/\∀name,W.lookIn name od=some (mA name):=by
 obtain⟨o,es,ep,ho,hd,hk,_,hm⟩:=n;refine⟨o,ho,λname=>?_⟩;have e:=hm name;unfold nsFind findBy at e;rw[<-Array.find?_toList]at e;unfold W.lookIn;rw[hd];dsimp only
 split
 ·rename_i y q
  rw[q]at e;exact congrArg some e
 ·rename_i q
  rw[q]at e
  have a:es.toList.any (·.refKey)=false:=by
   rw[List.any_eq_false];intro y hy;obtain⟨z,t,kG⟩:=hk y (Array.mem_toList_iff.mp hy);simp[DictEntry.refKey,kG]
  have a':¬es.toList.any (·.refKey)=true:=by rw[a];exact yA
  rw[if_neg a'];exact congrArg some e
def sY.look{h:yT}{x dx C:yf}{mA:yt->Qi}(I:sY h x dx C mA):∃od,W.InstAt h x (W.instObj C dx) C (some od)/\∀name,W.lookIn name od=some (mA name) :=
 let ⟨od,ho,hl⟩:=zWn I.ns
 ⟨od,⟨I.obj,rfl,rfl,ho⟩,hl⟩
section
variable {prog:yy}{w:yI}{A:yJ}{E:Value->yc->Prop}{s:yc}{K:yw}{x dx C f:yf}{mA:yt->Qi}{name:yt}{v:Value}
def zjx{expr:Bool}{Q:Value->yc->Prop}(X:K.In s.heap)(I:sY s.heap x dx C mA)(hg:W.plainGet K C name=true)(hh:W.hasDictIn K C=true)
 (ha:Yk K (.ref C) name=some none) (hv:mA name=some v) (hv':W.handedIn v=true) (h:Q v {s with toks:=s.toks+1 }) :
 yo (yv prog w) A (getAttr (.ref x) name expr) Q E s:=by
 obtain⟨od,δ,hl⟩:=I.look;exact W.get_value X δ (W.plainGet_of hg).1 (W.findObj_own hh ha rfl (by rw[hl,hv])) hv' h
def zkv{pl:Sem Bool}{Q:Value×Qh->yc->Prop}(X:K.In s.heap)(I:sY s.heap x dx C mA)(hg:W.plainGet K C name=true)
 (hf:Yk K (.ref C) name=some (some (.ref f))) (ht:W.isFn K (.ref f)=true) (hv:mA name=none) (h:Q (.ref f,[.ref x]) s) :
 yo (yv prog w) A (getMethod (.ref x) name pl) Q E s:=by
 obtain⟨od,δ,hl⟩:=I.look;exact W.method_fn X δ (W.plainGet_of hg).1 (W.plainGet_of hg).2 hf (beq_iff_eq.mp ht) (by show(W.lookIn name od).map (·.isSome)=some false;rw[hl,hv];rfl) h
def z2w{ns:Qx}{Q:Unit->yc->Prop}(X:K.In s.heap)(I:sY s.heap x dx C mA)
 (hs:Yk K (.ref C) "__setattr__"=some (some (.builtin "object.__setattr__"))) (hp:W.plainOver K C=true) (ht:W.takerIn K C name=some none) (hh:W.hasDictIn K C=true)
 (hw:PySem.Within mA ns) (hsz:ns.length<=yF)
 (h:∀h',sY h' x dx C (λy=>if y=name then some v else mA y)->Yq dx s.heap h'->Q () {s with heap:=h',toks:=s.toks+2 }) :
 yo (yv prog w) A (setAttr (.ref x) name v) Q E s:=by
 obtain⟨od,δ,hl⟩:=I.look;refine W.set_plain X δ hs (W.osa_open (s:={s with toks:=s.toks+1 }) (r:=none) X δ hp ht λb=>?_);obtain⟨cd,hc,hd'⟩:=W.any_some hh;have hx:s.heap.get? x=some ⟨.ref C,some dx,.plain,#[]⟩:=I.obj;refine ya (ye (ya (ya (wpAny_loadPart hx (ya (W.Looks.here (s:={s with toks:=s.toks+1 }) (W.looks_clsIn X hc) ?_))))));rw[hd'];refine ye (a:=some dx) (ya (ye (ya ?_)));refine wpAny_nsSet1 (s:={s with toks:=s.toks+1 }) I.ns λh' hn2 hs2=>?_;obtain⟨oD,esD,epD,hoD,hdD,hcD⟩:=hn2.count (PySem.Within.cons name v hw);refine ya (wpAny_lookBehind hoD (by rw[hdD];exact pastItsLine_dict (yG hcD (by rw[Ls];omega))) ?_);exact ye (h _ ⟨(hs2.2 _ (yR I.ne)).trans I.obj,hn2,I.ne⟩ hs2)
def zru{R:Result->yc->Prop}{vs:Qh}{kw:List (yt×Value)}(X:K.In s.heap)(hm:W.makesIn K C=true)
 (hi:Yk K (.ref C) "__init__"=some (some (.ref f))) (hf:W.typeIn K (.ref f)=some (.type "function"))
 (h:xM (yv prog w) (A.under (.builtin "type.__call__" ⟨.ref C::vs,kw⟩)) (.call (.ref f) ⟨.ref (s.heap.objs.size+1)::vs,kw⟩) (W.InitBack (s.heap.objs.size+1) R)
  {s with heap:=(s.heap.push xT).push (W.instObj C s.heap.objs.size)}) :
 xM (yv prog w) A (.call (.ref C) ⟨vs,kw⟩) R s:=by
 obtain⟨hh,g,d,t,os⟩:=s;exact W.make_core (W.makes_of X hm) (W.looks_findIn X hi) (λself=>W.bind_fn X self hf) (.inl rfl) h
end
def zXk(f:yt)(v:V):Wk->Wk
 |[]=>[(f,v)]
 |(g,x)::r=>if g=f then(g,v)::r else(g,x)::zXk f v r
def zQk(f g:yt)(v:V):∀fs:Wk,(zXk f v fs).lookup g=if g=f then some v else fs.lookup g
 |[]=>by
  show YM g [(f,v)]=_
  by_cases h:g=f
  ·have hb:(g==f)=true:=beq_iff_eq.mpr h;simp only[YM,hb,if_pos h]
  ·have hb:(g==f)=false:=beq_eq_false_iff_ne.mpr h;simp only[YM,hb,if_neg h]
 |(k,x)::r=>by
  have ih:=zQk f g v r;rw[show zXk f v ((k,x)::r)=(if k=f then(k,v)::r else(k,x)::zXk f v r) from rfl]
  by_cases hk:k=f
  ·rw[if_pos hk]
   by_cases h:g=k
   ·have hb:(g==k)=true:=beq_iff_eq.mpr h;simp only[YM,hb,if_pos (h.trans hk)]
   ·have hb:(g==k)=false:=beq_eq_false_iff_ne.mpr h;simp only[YM,hb,if_neg (λe:g=f=>h (e.trans hk.symm))]
  ·rw[if_neg hk]
   by_cases h:g=k
   ·have hb:(g==k)=true:=beq_iff_eq.mpr h;simp only[YM,hb,if_neg (λe:g=f=>hk (h.symm.trans e))]
   ·have hb:(g==k)=false:=beq_eq_false_iff_ne.mpr h;simp only[YM,hb];exact ih
def zNk(f:yt)(v:V):∀fs:Wk,f∈(zXk f v fs).map (·.1)/\∀g,g∈fs.map (·.1)->g∈(zXk f v fs).map (·.1)
 |[]=>⟨by simp[zXk],λg h=>by simp at h⟩
 |(k,x)::r=>by
  obtain⟨i1,i2⟩:=zNk f v r;rw[show zXk f v ((k,x)::r)=(if k=f then(k,v)::r else(k,x)::zXk f v r) from rfl]
  by_cases hk:k=f
  ·rw[if_pos hk];subst hk;exact⟨by simp,λg h=>by simpa using h⟩
  ·rw[if_neg hk];refine⟨?_,λg h=>?_⟩
   ·rw[Ng];exact No _ i1
   ·rw[Ng]at h ⊢;rcases List.mem_cons.mp h with e|e
    ·exact List.mem_cons.mpr (.inl e)
    ·exact No _ (i2 g e)
def zek(f:yt)(v:V):∀fs:Wk,(zXk f v fs).length<=fs.length+1
 |[]=>by simp[zXk]
 |(k,x)::r=>by
  have ih:=zek f v r;rw[show zXk f v ((k,x)::r)=(if k=f then(k,v)::r else(k,x)::zXk f v r) from rfl]
  by_cases hk:k=f
  ·rw[if_pos hk,Ls,Ls];omega
  ·rw[if_neg hk,Ls,Ls];omega
def TQ.some_of{v:V}{o:Qi}(r:TQ (some v) o):∃u,o=some u/\RelV v u:=by
 cases o with
 |none=>exact(show False from r).elim
 |some u=>exact⟨u,rfl,r⟩
def TQ.none_of{o:Qi}(r:TQ none o):o=none:=by
 cases o with
 |none=>rfl
 |some u=>exact(show False from r).elim
def z1n{v:V}{u:Value}(r:RelV v u):W.handedIn u=true:=by
 cases v with
 |non=>cases (show u=Yp from r);rfl
 |bl b=>cases (show u=Value.bool b from r);rfl
 |int i=>obtain⟨t,e⟩:=(show ∃t,u=Value.int i t from r);cases e;rfl
 |str x=>obtain⟨t,e⟩:=(show ∃t,u=Value.str x t from r);cases e;rfl
 |byt b=>obtain⟨t,e⟩:=(show ∃t,u=Value.bytes b t from r);cases e;rfl
 |flt b=>obtain⟨t,e⟩:=(show ∃t,u=Value.float b t from r);cases e;rfl
 |ref a=>cases (show u=yH a from r);rfl
 |ty n=>cases (show u=Yx n from r);rfl
section
variable {P:yy}{w:yI}{H H':Hp}{h h':yT}{a C dx:yf}{fs fs':Wk}
def zKm(hok:HOk P w H h)(e:H a=some (.ins C dx fs)):∃mA,sY h a dx C mA/\(∀f,TQ (fs.lookup f) (mA f))/\PySem.Within mA (fs.map (·.1))/\fs.length<=1000/\H dx=some (.own a):=by
 obtain⟨d,z,ne,ob,mA,n,r,q⟩:=(show tF P w H h a (.ins C dx fs) from hok a _ e)
 exact⟨mA,⟨ob,n,ne⟩,r,q,z,d⟩
end
structure Cls(K:yw)(C:yf):Prop where
 pg:W.plainGet K C Str.empty=true
 hd:W.hasDictIn K C=true
 po:W.plainOver K C=true
 sa:Yk K (.ref C) "__setattr__"=some (some (.builtin "object.__setattr__"))
def Cls.get{K:yw}{C:yf}(c:Cls K C)(f:yt):W.plainGet K C f=true:=c.pg
def TZ(K:yw)(C:yf)(f:yt):Prop:=Yk K (.ref C) f=some none
def TZ.taker{K:yw}{C:yf}{f:yt}(n:TZ K C f):W.takerIn K C f=some none:=by
 unfold W.takerIn;rw[show Yk K (.ref C) f=some none from n];rfl
structure Con(K:yw)(C:yf)(f:yt)(v:V)(u:Value):Prop where
 at_:Yk K (.ref C) f=some (some u)
 rel:RelV v u
 get:W.specialIn K u "__get__"=some none
 cp:W.copiedNames.contains f=false
structure Meth(K:yw)(C:yf)(m:yt)(f:yf):Prop where
 at_:Yk K (.ref C) m=some (some (.ref f))
 fn:W.isFn K (.ref f)=true
 kp:W.keepIn K (.ref f)=true
section
variable {X:Cx}{U:Qb}{Y:St}{H:Hp}{s:yc}{a C dx:yf}{fs:Wk}{f:yt}{v:V}{A:yJ}{E:Value->yc->Prop}
def zLq{b:Bool}{Q:Value->yc->Prop}(I:Inv X U Y H s)(e:H a=some (.ins C dx fs))(c:Cls X.K C)(n:TZ X.K C f)(l:fs.lookup f=some v)
 (h:∀u s',Inv X U Y H s'->RelV v u->Q u s'):yo (yv X.prog X.w) A (getAttr (.ref a) f b) Q E s:=by
 obtain⟨mA,μ,r,_,_,_⟩:=zKm I.hok e;obtain⟨u,hu,ru⟩:=TQ.some_of (v:=v) (o:=mA f) (by rw[<-l];exact r f);exact zjx I.kIn μ (c.get f) c.hd n hu (z1n ru) (h u _ (I.tok _) ru)
def zSi{m:yt}{g:yf}{pl:Sem Bool}{Q:Value×Qh->yc->Prop}(I:Inv X U Y H s)(e:H a=some (.ins C dx fs))(c:Cls X.K C)(k:Meth X.K C m g)(l:fs.lookup m=none)
 (h:Q (.ref g,[.ref a]) s):yo (yv X.prog X.w) A (getMethod (.ref a) m pl) Q E s:=by
 obtain⟨mA,μ,r,_,_,_⟩:=zKm I.hok e;have hn:mA m=none:=TQ.none_of (by rw[<-l];exact r m);exact zkv I.kIn μ (c.get m) k.at_ k.fn hn h
def ztq{y:V}{u:Value}{Q:Unit->yc->Prop}(I:Inv X U Y H s)(e:H a=some (.ins C dx fs))(c:Cls X.K C)(n:TZ X.K C f)(hl:fs.length<1000)(ry:RelV y u)
 (h:∀s',Inv X U Y (upd H a (.ins C dx (zXk f y fs))) s'->Q () s'):yo (yv X.prog X.w) A (setAttr (.ref a) f u) Q E s:=by
 obtain⟨mA,μ,r,wi,_,ho⟩:=zKm I.hok e;have hz:(fs.map (·.1)).length<=yF:=by rw[Lv,Yo];omega
 refine z2w I.kIn μ c.sa c.po n.taker c.hd wi hz λh' μ' sb=>h _ ?_;have hd:∃o,h'.get? dx=some o:=let ⟨o,_,_,e',_⟩:=μ'.ns;⟨o,e'⟩;refine I.write (x:=a) (e:=dx) (by rw[e];exact xX) (.inr ho) (λb q hb z=>(sb.2 b hb).trans z) hd ?_;refine⟨by rw[zE μ.ne];exact ho,?_,μ.ne,μ'.obj,_,μ'.ns,λg=>?_,λg hg=>?_⟩
 ·have:=zek f y fs;omega
 ·show TQ ((zXk f y fs).lookup g) (if g=f then some u else mA g);rw[zQk]
  by_cases q:g=f
  ·rw[if_pos q,if_pos q];exact ry
  ·rw[if_neg q,if_neg q];exact r g
 ·by_cases q:g=f
  ·rw[q];exact(zNk f y fs).1
  ·refine(zNk f y fs).2 g (wi g λz=>hg ?_);show(if g=f then some u else mA g)=none;rw[if_neg q];exact z
def Inv.made(I:Inv X U Y H s):Inv X U Y (upd (upd H s.heap.objs.size (.own (s.heap.objs.size+1))) (s.heap.objs.size+1) (.ins C s.heap.objs.size []))
 {s with heap:=(s.heap.push xT).push (W.instObj C s.heap.objs.size)}:=by
 have e1:(s.heap.push xT).get? s.heap.objs.size=some xT:=yq s.heap rfl
 have e2:((s.heap.push xT).push (W.instObj C s.heap.objs.size)).get? (s.heap.objs.size+1)=some (W.instObj C s.heap.objs.size):=by
  have:=yq (s.heap.push xT) (o:=W.instObj C s.heap.objs.size) rfl
  rwa [Yu]at this
 have e3:(s.heap.push xT).Ns s.heap.objs.size (λ_=>none):=⟨xT,#[],_,e1,rfl,(λe he=>absurd he (by simp)),λ_=>rfl⟩
 have I1:=I.laid (a:=s.heap.objs.size) (o:=.own (s.heap.objs.size+1)) (h':=s.heap.push xT) (t':=s.toks) (λb u q=>yb _ q) (yh _) ⟨_,e1⟩;refine I1.laid (a:=s.heap.objs.size+1) (o:=.ins C s.heap.objs.size []) (t':=s.toks) (λb u q=>yb _ q) (Nat.le_of_eq (Yu _ _)) ?_;have ne:s.heap.objs.size≠s.heap.objs.size+1:=yu (Ye _);refine⟨by rw[zE ne,zy],Ys _,ne,e2,λ_=>none,(Heap.Ns1.of_empty e3).at λo q=>yb _ q,λ_=>xX,λy hy=>absurd rfl hy⟩
def z0s{prog:yy}{w:yI}{env:Env}{e:yE}{f:yt}{pos:xn}{s:yc}{Q:Value->yc->Prop}(hb:YB e f env (Yd e env)=Yd e env)
 (h:yo (yv prog w) A (Yd e env) (λo s₁=>yo (yv prog w) A (getAttr o f true) Q E s₁) E s):yo (yv prog w) A (Yd (.Attribute e f pos) env) Q E s :=
 Attribute_any_ h (by rw[arm_eval_Attribute,hb])
end
def zUA(K:yw)(ta:TE)(f:yt):TE:=λY H Q=>ta Y H λx H1=>∃a C dx fs v,x=.ref a/\H1 a=some (.ins C dx fs)/\Cls K C/\TZ K C f/\fs.lookup f=some v/\Q v H1
def zYA(K:yw)(ta tv:TE)(f:yt):TS:=λD Y H=>tv Y H λy H1=>ta Y H1 λx H2=>∃a C dx fs,x=.ref a/\H2 a=some (.ins C dx fs)/\Cls K C/\TZ K C f/\fs.length<1000 /\
 D.nx Y (upd H2 a (.ins C dx (zXk f y fs)))
section
variable {X:Cx}{o e value:yE}{f:yt}{pos pos' tpos:xn}{ta tv:TE}
def zJy(he:PE X e ta)(hb:YB e f X.env (Yd e X.env)=Yd e X.env):PE X (.Attribute e f pos) (zUA X.K ta f):=by
 intro U s Y H Q I h;refine z0s hb (thn (he U s Y H _ I h) λu s1 ⟨x,H1,I1,rx,a,C,dx,fs,v,ex,ea,c,n,l,q⟩=>?_);subst ex;obtain rfl:u=yH a:=rx;exact zLq I1 ea c n l λu' s2 I2 ru=>⟨v,H1,I2,ru,q⟩
def z6y(ha:PE X o ta)(hv:PE X value tv)(hs:xD value (some (.Attribute o f pos')) pos.line X.env=pure false):PS X (.Assign [.Attribute o f pos'] value pos) (zYA X.K ta tv f):=by
 intro U s Y H D I h;refine plainObj_wpAny_Assign_Attribute (thn (hv U s Y H _ I h) λu s1 ⟨y,H1,I1,ry,q⟩=>thn (ha U s1 Y H1 _ I1 q) λov s2 ⟨x,H2,I2,rx,a,C,dx,fs,ex,ea,c,n,l,q2⟩=>?_) hs;subst ex;obtain rfl:ov=yH a:=rx;exact ztq I2 ea c n l ry λs3 I3=>⟨Y,_,I3,q2⟩
variable {U:Qb}{Y:St}{H:Hp}{s:yc}{A:yJ}{E Q:Value->yc->Prop}{c:Value}{b:Bool}
inductive so(K:yw)(H:Hp):V->Value->Prop where
 |non:so K H .non (.type "NoneType")
 |bl (x:Bool):so K H (.bl x) (.type "bool")
 |int (i:Int):so K H (.int i) (.type "int")
 |str (x:yt):so K H (.str x) (.type "str")
 |flt (x:UInt64):so K H (.flt x) (.type "float")
 |lst {a:yf} {xs:Wi} (e:H a=some (.lst xs)):so K H (.ref a) (.type "list")
 |frz {a:yf} {o:YS} {xs:Wi} (e:H a=some (.frz o (.lst xs))):so K H (.ref a) (.type "list")
 |tup {a:yf} {xs:Wi} (e:H a=some (.tup xs)):so K H (.ref a) (.type "tuple")
 |dK {a:yf} {hG:Wj} (e:H a=some (.dK hG)):so K H (.ref a) (.type "dict")
 |dT {a:yf} {hG:List (List Key×V)} (e:H a=some (.dT hG)):so K H (.ref a) (.type "dict")
 |ins {a C dx:yf} {fs:Wk} (e:H a=some (.ins C dx fs)) (cl:Cls K C) (ha:Yk K (.ref C) "__class__"=some (some (.builtin "object.__class__")))
  (hn:W.specialIn K (.builtin "object.__class__") "__get__"=some (some (.builtin "getset_descriptor.__get__"))) (htk:W.takesIn K (.builtin "object.__class__")=some true)
  (hm:W.mroIn K C (.type "object")=some true):so K H (.ref a) (.ref C)
def zbs{x:V}{u t:Value}(I:Inv X U Y H s)(rx:RelV x u)(ty:so X.K H x t)(e:W.kitOne X.K t c=some b)(h:∀tk,Q (.bool b) {s with toks:=tk }) :
 yo (yv X.prog X.w) A (call (.builtin "isinstance") [u,c]) Q E s:=by
 cases ty with
 |non=>cases (show u=Yp from rx);exact Xg W.kitx_none I.kIn xX e (λz=>nomatch z) h
 |bl y=>cases (show u=Value.bool y from rx);exact Xg W.kitx_bool I.kIn xX e (λz=>nomatch z) h
 |int i=>obtain⟨t,q⟩:=(show ∃t,u=Value.int i t from rx);cases q;exact Xg W.kitx_int I.kIn xX e (λz=>nomatch z) h
 |str y=>obtain⟨t,q⟩:=(show ∃t,u=Value.str y t from rx);cases q;exact Xg W.kitx_str I.kIn xX e (λz=>nomatch z) h
 |flt y=>obtain⟨t,q⟩:=(show ∃t,u=Value.float y t from rx);cases q;exact Xg W.kitx_float I.kIn xX e (λz=>nomatch z) h
 |@lst a xs ea=>
  cases (show u=yH a from rx);obtain⟨_,_,n,_,h1⟩:=(show tF X.prog X.w H s.heap a (.lst xs) from I.hok a _ ea)
  exact Xg W.kitx_list I.kIn ⟨_,h1,rfl⟩ e (λz=>nomatch z) h
 |@frz a ob xs ea=>
  cases (show u=yH a from rx);obtain⟨_,_,_,n,_,h1⟩:=(show tF X.prog X.w H s.heap a (.frz ob (.lst xs)) from I.hok a _ ea)
  exact Xg W.kitx_list I.kIn ⟨_,h1,rfl⟩ e (λz=>nomatch z) h
 |@tup a xs ea=>
  cases (show u=yH a from rx);obtain⟨_,_,_,p⟩:=(show tF X.prog X.w H s.heap a (.tup xs) from I.hok a _ ea)
  obtain⟨o,h1,h2,_⟩:=p;exact Xg W.kitx_tuple I.kIn ⟨o,h1,h2⟩ e (λz=>nomatch z) h
 |@dK a hG ea=>
  cases (show u=yH a from rx);obtain⟨_,_,vs,_,p⟩:=(show tF X.prog X.w H s.heap a (.dK hG) from I.hok a _ ea)
  obtain⟨o,es,ep,h1,h2,_⟩:=p;exact Xg W.kitx_dict I.kIn ⟨o,h1,h2.1⟩ e (λz=>nomatch z) h
 |@dT a hG ea=>
  cases (show u=yH a from rx);obtain⟨_,_,xs,_,o,es,ep,h1,h2,_⟩:=(show tF X.prog X.w H s.heap a (.dT hG) from I.hok a _ ea)
  exact Xg W.kitx_dict I.kIn ⟨o,h1,h2.1⟩ e (λz=>nomatch z) h
 |@ins a C dx fs ea cl ha hn htk hm=>
  cases (show u=yH a from rx);obtain⟨mA,μ,_⟩:=zKm I.hok ea;obtain⟨od,δ,_⟩:=μ.look;exact Xg (W.kitx_own (cl.get _) cl.hd ha hn htk hm) I.kIn δ e (λz=>nomatch z) h
end
structure tQ(k:Nat)(A:yJ):Prop where
 hd:A.handled=none
 dp:A.depth+3*k+5<recursionLimit
 un:A.units+16*k+200<cLine
 gd:A.guards=some []
def tQ.mono{j k:Nat}{A:yJ}(r:tQ k A)(h:j<=k):tQ j A:=⟨r.hd,by have:=r.dp;omega,by have:=r.un;omega,r.gd⟩
def tQ.deeper{k:Nat}{A:yJ}(r:tQ (k+1) A)(env:Env):tQ k (A.deeper env) :=
 ⟨r.hd,by have:=r.dp;show A.depth+1+3*k+5<_;omega,by have:=r.un;show A.units+3+16*k+200<_;omega,r.gd⟩
def z3q{A:yJ}{C:yf}{us:Qh}{kw:List (yt×Value)}:(A.under (.builtin "type.__call__" ⟨.ref C::us,kw⟩)).depth=A.depth+1:=by
 first|rfl|simp[Around.under,Code.weight,Code.isCreation,Code.isGuard,Code.isCaller,Code.frames,Code.isFrame,guardIds]
def zfr{A:yJ}{C:yf}{us:Qh}{kw:List (yt×Value)}:(A.under (.builtin "type.__call__" ⟨.ref C::us,kw⟩)).units=A.units+1:=by
 first|rfl|simp[Around.under,Code.cUnits,Code.frames,Code.isFrame]
def zXo{A:yJ}{C:yf}{us:Qh}{kw:List (yt×Value)}:(A.under (.builtin "type.__call__" ⟨.ref C::us,kw⟩)).guards=A.guards:=by
 first|rfl|(cases h:A.guards<;>simp[Around.under,Code.guards,Code.isGuard,guardIds,h])
def tQ.make{k:Nat}{A:yJ}(r:tQ (k+1) A)(C:yf)(us:Qh)(kw:List (yt×Value)):tQ k (A.under (.builtin "type.__call__" ⟨.ref C::us,kw⟩)) :=
 ⟨r.hd,by have:=r.dp;rw[z3q];omega,by have:=r.un;rw[zfr];omega,by rw[zXo];exact r.gd⟩
def tQ.depth{k:Nat}{A:yJ}(r:tQ k A):A.depth<recursionLimit:=by have:=r.dp;omega
def tQ.units{k:Nat}{A:yJ}(r:tQ k A):A.units+64<cLine:=by have:=r.un;omega
def zyA:TA:=λ_ H Q=>Q [] H
def zNz(ta:TE)(tr:TA):TA:=λY H Q=>ta Y H λx H1=>tr Y H1 λxs H2=>Q (x::xs) H2
section
variable {X:Cx}{e:yE}{es:Qz}{te:TE}{t:TA}{pos:xn}
def zti:PA X [] zyA:=λ_ _ _ _ H Q I h=>Calls.spliced_nil ⟨[],H,I,.nil,h⟩
def zPe(ha:PE X e te)(hr:PA X es t)(hs:yj (e::es) X.env=(false,Yd e X.env)::yj es X.env:=by rfl):PA X (e::es) (zNz te t):=by
 intro pos U s Y H Q I h;rw[hs];show yo _ _ (spliced ((false,Yd e X.env)::Yl pos (yj es X.env))) _ _ s;refine Calls.spliced_cons (thn (ha U s Y H _ I h) λu s1 ⟨x,H1,I1,r1,q1⟩=>?_);exact thn (hr pos U s1 Y H1 _ I1 q1) λus s2 ⟨xs,H2,I2,r2,q2⟩=>⟨x::xs,H2,I2,.cons r1 r2,q2⟩
def zIA(t:TA):TE:=λY H Q=>t Y H λxs H1=>xs.length<=yF/\∀p,H1 p=none->Q (.ref p) (upd H1 p (.tup xs))
def zJA(t:TA):TE:=λY H Q=>t Y H λxs H1=>xs.length<=yF/\∀p,H1 p=none->Q (.ref p) (upd H1 p (.lst xs))
def z9x{x1}(h:PA X es t):PE X (.Tuple es x1 pos) (zIA t):=by
 intro U s Y H Q I hq;refine wpAny_Tuple_spliced (thn (h pos U s Y H _ I hq) λus s1 ⟨xs,H1,I1,r,z,q⟩=>⟨by rw[<-r.length];exact z,?_⟩);have hf:H1 s1.heap.objs.size=none:=I1.hok.fresh (yh _);refine⟨.ref s1.heap.objs.size,upd H1 s1.heap.objs.size (.tup xs),I1.laid (t':=s1.toks) (λb u e=>yb _ e) (yh _) ?_,rfl,q _ hf⟩;exact⟨z,us,r,⟨_,yq _ rfl,rfl,_,rfl⟩⟩
def zRy(h:PA X es t):PE X (.List es pos) (zJA t):=by
 intro U s Y H Q I hq;refine wpAny_List_spliced (thn (h pos U s Y H _ I hq) λus s1 ⟨xs,H1,I1,r,z,q⟩=>⟨by rw[<-r.length];exact z,?_⟩);have hf:H1 s1.heap.objs.size=none:=I1.hok.fresh (yh _);refine⟨.ref s1.heap.objs.size,upd H1 s1.heap.objs.size (.lst xs),I1.laid (t':=s1.toks) (λb u e=>yb _ e) (yh _) ?_,rfl,q _ hf⟩;exact⟨z,us,0,r,yq _ rfl⟩
end
abbrev Sp:=Wi->Hp->VK->XK->Prop
abbrev CXT:=Qp->Hp->yc->XK->Value->yc->Prop
structure sZ(P:yy)(w:yI)(K:yw)(mg:yt->Qi)(base:yT)(A:yJ)(outer:Qp)(s:yc)(H:Hp):Prop where
 frames:A.frames=some outer
 mod:Mod K mg base
 bs:∀b o,base.get? b=some o->s.heap.get? b=some o/\H b=none
 bsz:base.objs.size<=s.heap.objs.size
 sk:s.heap.FunFrames base outer
 frf:∀b∈frs outer,H b=none
 hok:HOk P w H s.heap
 bare:AllBare s.gens
def CE(outer:Qp)(P:yy)(w:yI)(H:Hp)(s:yc)(Q:VK)(u:Value)(s':yc):Prop :=
 ∃v H',s'.os=s.os/\AllBare s'.gens/\Un (frs outer) [] H H' s.heap s'.heap/\HOk P w H' s'.heap/\RelV v u/\Q v H'
def CR(CX:CXT)(outer:Qp)(P:yy)(w:yI)(H:Hp)(s:yc)(Q:VK)(E:XK)(r:Result)(s':yc):Prop :=
 match r with
 |.ok (.ret u)=>CE outer P w H s Q u s'
 |.ok _=>False
 |.error e=>CX outer H s E e s'
structure Te(P:yy)(w:yI)(K:yw)(mg:yt->Qi)(base:yT)(CX:CXT)(k:Nat)(f:yf)(fd:yV)(ps:Qx)(sp:Sp):Prop where
 len:∀vs H Q E,sp vs H Q E->vs.length=ps.length
 run:∀(A:yJ)(outer:Qp)(s:yc)(H:Hp)(args:Args)(us:Qh)(vs:Wi)(Q:VK)(E:XK),tQ k A->sZ P w K mg base A outer s H->BindsTo s fd args (ps.zip us)->Vals vs us->sp vs H Q E ->
  xM (yv P w) A (.call (.ref f) args) (CR CX outer P w H s Q E) s
def sZ.make{P:yy}{w:yI}{K:yw}{mg:yt->Qi}{base:yT}{A:yJ}{outer:Qp}{s:yc}{H:Hp}(e:sZ P w K mg base A outer s H)(C:yf)(us:Qh)(kw:List (yt×Value)) :
 sZ P w K mg base (A.under (.builtin "type.__call__" ⟨.ref C::us,kw⟩)) outer s H:=⟨by first|exact e.frames|(simpa[Around.under,Code.envs,Code.isFrame,pushEnvs] using e.frames),e.mod,e.bs,e.bsz,e.sk,e.frf,e.hok,e.bare⟩
section
variable {X:Cx}{U:Qb}{Y:St}{H:Hp}{s s':yc}
def Inv.env0(I:Inv X U Y H s):sZ X.prog X.w X.K X.mg X.base X.A X.stack s H :=
 ⟨I.ok.frames,I.ok.mod,I.bs,yG I.ok.bsz I.sz,I.stack,I.TK,I.hok,I.bare⟩
def Inv.after{Q:VK}{u:Value}(I:Inv X U Y H s)(h:CE X.stack X.prog X.w H s Q u s'):EP X U Y Q u s':=by
 obtain⟨v,H',os,bare,un,hok,r,q⟩:=h;obtain⟨hh,g,d,t,os'⟩:=s';obtain rfl:os'=s.os:=os;exact⟨v,H',I.call (h':=hh) (g':=g) (d':=d) (t':=t) (ch:=[]) un hok bare (λb z=>absurd z (by simp)),r,q⟩
end
def z4s(sp:Sp)(dvs:Wi)(E:XK)(t:TA):TE:=λY H Q=>t Y H λvs H1=>sp (vs++dvs) H1 Q E
def zSw(C:yf)(m:yt)(sp:Sp)(dvs:Wi)(E:XK)(ta:TE)(t:TA):TE:=λY H Q=>ta Y H λx H1=>∃a dx fs,x=.ref a/\H1 a=some (.ins C dx fs)/\fs.lookup m=none /\
 t Y H1 λvs H2=>sp (x::(vs++dvs)) H2 Q E
def zkA(C:yf)(sp:Sp)(dvs:Wi)(E:XK)(t:TA):TE:=λY H Q=>t Y H λvs H1=>∀x dx,H1 x=none->H1 dx=none->dx≠x ->
 sp (.ref x::(vs++dvs)) (upd (upd H1 dx (.own x)) x (.ins C dx [])) (λv H2=>v=.non/\Q (.ref x) H2) E
def Binds(K:yw)(fd:yV)(ps:Qx)(ds:Qh):Prop :=
 ∀(s:yc)(us:Qh),K.In s.heap->(us++ds).length=ps.length->BindsTo s fd ⟨us,[]⟩ (ps.zip (us++ds))
def Binds.all{K:yw}{fd:yV}{ps:Qx}(h:∀us:Qh,us.length=ps.length->bindArgs fd ⟨us,[]⟩=pure (ps.zip us)):Binds K fd ps []:=λs us _ hl=>by
 rw[Lf]at hl ⊢;exact .of_eq (h us hl)
def zei(CX:CXT)(X:Cx)(E:XK):Prop:=∀(U:Qb) (Y:St) (H:Hp) (s:yc) (e:Value) (s':yc),Inv X U Y H s->CX X.stack H s E e s'->X.xe e s'
section
variable {X:Cx}{CX:CXT}{k:Nat}{f C:yf}{fd:yV}{ps:Qx}{sp:Sp}{dvs:Wi}{ds:Qh}{E:XK}{x m:yt}{p pos kA:xn}{e o:yE}{es:Qz}{ta:TE}{t:TA}
def zgt{U:Qb}{Y:St}{H:Hp}{s:yc}{Q:VK}{us:Qh}{vs:Wi}(F:Te X.prog X.w X.K X.mg X.base CX k f fd ps sp)(hr:tQ k X.A)(hb:Binds X.K fd ps ds)(hd:Vals dvs ds)(hx:zei CX X E)
 (I:Inv X U Y H s) (r:Vals vs us) (h:sp (vs++dvs) H Q E):yo (yv X.prog X.w) X.A (call (.ref f) us) (EP X U Y Q) X.xe s:=by
 have r2:Vals (vs++dvs) (us++ds):=r.append hd;have hl:(us++ds).length=ps.length:=by rw[<-r2.length];exact F.len _ _ _ _ h
 refine Xp (YI (F.run X.A X.stack s H ⟨us,[]⟩ (us++ds) (vs++dvs) Q E hr I.env0 (hb s us I.kIn hl) r2 h) λr s' hq=>?_)
 cases r with
 |error e=>exact hx U Y H s e s' I hq
 |ok fl=>
  cases fl with
  |ret u=>exact I.after hq
  |next=>exact YD hq
  |brk=>exact YD hq
  |cont=>exact YD hq
def zdw(F:Te X.prog X.w X.K X.mg X.base CX k f fd ps sp)(hr:tQ k X.A)(hg:Gl X x)(hm:X.mg x=some (.ref f))(hk:W.keepIn X.K (.ref f)=true)(hb:Binds X.K fd ps ds)(hd:Vals dvs ds)(hx:zei CX X E)
 (ha:PA X (e::es) t) (hdb:(x==("__debug__":yt))=false:=by decide) (he:yj (e::es) X.env=(false,Yd e X.env)::yj es X.env:=by rfl) (kK:(Yl pos (yj es X.env)).any (·.1)=false:=by rfl) :
 PE X (.Call (.Name x p) (e::es) [] pos) (z4s sp dvs E t):=by
 intro U s Y H Q I h;refine xy (zkg I hg hm ?_ hdb);refine W.callWith_K (h₀:=X.base) I.ok.mod.kin hk (thn (ha pos U s Y H _ I h) λus s1 ⟨vs,H1,I1,r,q⟩=>⟨I1.kIn,?_⟩) he kK;exact zgt F hr hb hd hx I1 r q
def zyw{pl:Sem Bool}(he:PE X o ta)(c:Cls X.K C)(hm:Meth X.K C m f)(F:Te X.prog X.w X.K X.mg X.base CX k f fd ps sp)(hr:tQ k X.A)(hb:Binds X.K fd ps ds)(hd:Vals dvs ds)(hx:zei CX X E)(ha:PA X (e::es) t)
 (kR:yj (e::es) X.env=(false,Yd e X.env)::yj es X.env:=by rfl) (kK:(Yl pos (yj es X.env)).any (·.1)=false:=by rfl)
 (ht:Yd (.Call (.Attribute o m kA) (e::es) [] pos) X.env=(do
  let ov <-Yd o X.env
  standAt kA.atName
  let (f,first) <-xt [ov] (getMethod ov m pl)
  callWith pos f first (Yl pos (yj (e::es) X.env)) (xP pos (YT [] X.env))):=by rfl) :
 PE X (.Call (.Attribute o m kA) (e::es) [] pos) (zSw C m sp dvs E ta t):=by
 intro U s Y H Q I h;refine W.methodCall_KW (pl:=pl) (thn (he U s Y H _ I h) λu s1 ⟨x,H1,I1,rx,a,dx,fs,ex,ea,l,q⟩=>?_) ht;subst ex;obtain rfl:u=yH a:=rx;refine zSi I1 ea c hm l ?_;refine W.callWith_K (first:=[.ref a]) (h₀:=X.base) I.ok.mod.kin hm.kp (thn (ha pos U s1 Y H1 _ I1 q) λus s2 ⟨vs,H2,I2,r,q2⟩=>⟨I2.kIn,?_⟩) kR kK;exact zgt (us:=.ref a::us) (vs:=.ref a::vs) F hr hb hd hx I2 (.cons rfl r) q2
def zVt{pl:Sem Bool}(he:PE X o ta)(c:Cls X.K C)(hm:Meth X.K C m f)(F:Te X.prog X.w X.K X.mg X.base CX k f fd ps sp)(hr:tQ k X.A)(hb:Binds X.K fd ps ds)(hd:Vals dvs ds)(hx:zei CX X E)
 (ht:Yd (.Call (.Attribute o m kA) [] [] pos) X.env=(do
  let ov <-Yd o X.env
  standAt kA.atName
  let (f,first) <-xt [ov] (getMethod ov m pl)
  callWith pos f first (Yl pos (yj [] X.env)) (xP pos (YT [] X.env))):=by rfl) :
 PE X (.Call (.Attribute o m kA) [] [] pos) (zSw C m sp dvs E ta zyA):=by
 intro U s Y H Q I h;refine W.methodCall_KW (pl:=pl) (thn (he U s Y H _ I h) λu s1 ⟨x,H1,I1,rx,a,dx,fs,ex,ea,l,q⟩=>?_) ht;subst ex;obtain rfl:u=yH a:=rx;refine zSi I1 ea c hm l ?_;exact W.callWith_K0 (first:=[.ref a]) I1.kIn hm.kp (zgt (us:=[.ref a]) (vs:=[.ref a]) F hr hb hd hx I1 (.cons rfl .nil) q)
structure Mk(K:yw)(C f:yf):Prop where
 makes:W.makesIn K C=true
 init:Yk K (.ref C) "__init__"=some (some (.ref f))
 fn:W.isFn K (.ref f)=true
 kp:W.keepIn K (.ref C)=true
def zOt{U:Qb}{Y:St}{H:Hp}{s:yc}{Q:VK}{us:Qh}{vs:Wi}(M:Mk X.K C f)(F:Te X.prog X.w X.K X.mg X.base CX k f fd ps sp)(hr:tQ (k+1) X.A)(hb:Binds X.K fd ps ds)(hd:Vals dvs ds)
 (hx:zei CX X E) (I:Inv X U Y H s) (r:Vals vs us)
 (h:∀x dx,H x=none->H dx=none->dx≠x->sp (.ref x::(vs++dvs)) (upd (upd H dx (.own x)) x (.ins C dx [])) (λv H2=>v=.non/\Q (.ref x) H2) E) :
 yo (yv X.prog X.w) X.A (call (.ref C) us) (EP X U Y Q) X.xe s:=by
 have hq:=h (s.heap.objs.size+1) s.heap.objs.size (I.hok.fresh (xU _)) (I.hok.fresh (yh _)) (yu (Ye _));have I2:=Inv.made (C:=C) I;have r2:Vals (V.ref (s.heap.objs.size+1)::(vs++dvs)) (yH (s.heap.objs.size+1)::(us++ds)) :=.cons rfl (r.append hd)
 have hl:(yH (s.heap.objs.size+1)::us++ds).length=ps.length:=by
  have e:=r2.length;rw[F.len _ _ _ _ hq]at e;exact e.symm
 refine Xp (zru (f:=f) I.kIn M.makes M.init (beq_iff_eq.mp M.fn) (YI (F.run _ X.stack _ _ ⟨yH (s.heap.objs.size+1)::us,[]⟩ (yH (s.heap.objs.size+1)::(us++ds)) _ _ E (hr.make C us [])
  (I2.env0.make C us []) (hb _ (yH (s.heap.objs.size+1)::us) I2.kIn hl) r2 hq) λr s' hq'=>?_))
 cases r with
 |error e=>exact hx U Y _ _ e s' I2 hq'
 |ok fl=>
  cases fl with
  |ret u=>
   obtain⟨v,H',I3,rv,ev,q3⟩:=I2.after hq';subst ev;exact⟨rv,⟨V.ref (s.heap.objs.size+1),H',I3,rfl,q3⟩⟩
  |next=>exact YD hq'
  |brk=>exact YD hq'
  |cont=>exact YD hq'
def zvx(M:Mk X.K C f)(F:Te X.prog X.w X.K X.mg X.base CX k f fd ps sp)(hr:tQ (k+1) X.A)(hg:Gl X x)(hm:X.mg x=some (.ref C))(hb:Binds X.K fd ps ds)(hd:Vals dvs ds)(hx:zei CX X E)
 (ha:PA X (e::es) t) (hdb:(x==("__debug__":yt))=false:=by decide) (he:yj (e::es) X.env=(false,Yd e X.env)::yj es X.env:=by rfl) (kK:(Yl pos (yj es X.env)).any (·.1)=false:=by rfl) :
 PE X (.Call (.Name x p) (e::es) [] pos) (zkA C sp dvs E t):=by
 intro U s Y H Q I h;refine xy (zkg I hg hm ?_ hdb);refine W.callWith_K (h₀:=X.base) I.ok.mod.kin M.kp (thn (ha pos U s Y H _ I h) λus s1 ⟨vs,H1,I1,r,q⟩=>⟨I1.kIn,?_⟩) he kK;exact zOt M F hr hb hd hx I1 r q
variable {ks:Qx}{kpos:xn}{kws:List xN}{te:TE}{tk:TA}{nm:Option yt}
structure KBinds(K:yw)(fd:yV)(ps ks:Qx)(g:Qh->Qh->Qh)(gV:Wi->Wi->Wi):Prop where
 to:∀(s:yc)(us ws:Qh),K.In s.heap->(g us ws).length=ps.length->BindsTo s fd ⟨us,ks.zip ws⟩ (ps.zip (g us ws))
 rel:∀{vs:Wi} {us:Qh} {zs:Wi} {ws:Qh},Vals vs us->Vals zs ws->Vals (gV vs zs) (g us ws)
variable {g:Qh->Qh->Qh}{gV:Wi->Wi->Wi}
end
structure tq(N P:Qx)(sc:xS):Prop where
 kind:sc.kind=.function
 co:sc.isCoroutine=false
 gen:sc.isGenerator=false
 nd:N.Nodup
 pre:N.take P.length=P
 par:∀x∈P,sc.names.lookup x=some .local\/sc.names.lookup x=some .cell
 nofree:∀y∈sc.names,y.2≠.free
def zhn{kindOf:yt->Option xk}{x:yt}:∀{binds:List (yt×Value)} {m:yt->Qi},(∀v,(x,v)∉binds)->bindL kindOf binds m x=m x
 |[],_,_=>rfl
 |(n,v)::r,m,h=>by
  unfold bindL;rw[zhn λw hw=>h w (No _ hw)]
  split
  ·have:x≠n:=by rintro rfl;exact h v Np
   simp[this]
  ·rfl
def zAn{kindOf:yt->Option xk}{x:yt}:∀{binds:List (yt×Value)} {m:yt->Qi},(∀v,(x,v)∉binds)->bindC kindOf binds m x=m x
 |[],_,_=>rfl
 |(n,v)::r,m,h=>by
  unfold bindC;rw[zAn λw hw=>h w (No _ hw)]
  split
  ·rfl
  ·have:x≠n:=by rintro rfl;exact h v Np
   simp[this]
def z7n{kindOf:yt->Option xk}{x:yt}{v:Value}:∀{P:Qx} {vs:Qh} {i:Nat} {m:yt->Qi},P.Nodup->P[i]?=some x->vs[i]?=some v->kindOf x=some .local ->
 bindL kindOf (P.zip vs) m x=some v
 |[],_,_,_,_,h,_,_=>by simp at h
 |_::_,[],_,_,_,_,h,_=>by simp at h
 |p::P,w::vs,0,m,nd,h1,h2,hk=>by
  simp at h1 h2;subst h1;subst h2;show bindL kindOf ((p,w)::P.zip vs) m p=_;unfold bindL;rw[zhn λv hv=>(List.nodup_cons.mp nd).1 (Va hv).1,if_pos hk];simp
 |p::P,w::vs,i+1,m,nd,h1,h2,hk=>by
  show bindL kindOf ((p,w)::P.zip vs) m x=_;unfold bindL;exact z7n (i:=i) (List.nodup_cons.mp nd).2 (by simpa using h1) (by simpa using h2) hk
def zxn{kindOf:yt->Option xk}{x:yt}{v:Value}:∀{P:Qx} {vs:Qh} {i:Nat} {m:yt->Qi},P.Nodup->P[i]?=some x->vs[i]?=some v->kindOf x≠some .local ->
 bindC kindOf (P.zip vs) m x=some v
 |[],_,_,_,_,h,_,_=>by simp at h
 |_::_,[],_,_,_,_,h,_=>by simp at h
 |p::P,w::vs,0,m,nd,h1,h2,hk=>by
  simp at h1 h2;subst h1;subst h2;show bindC kindOf ((p,w)::P.zip vs) m p=_;unfold bindC;rw[zAn λv hv=>(List.nodup_cons.mp nd).1 (Va hv).1,if_neg hk];simp
 |p::P,w::vs,i+1,m,nd,h1,h2,hk=>by
  show bindC kindOf ((p,w)::P.zip vs) m x=_;unfold bindC;exact zxn (i:=i) (List.nodup_cons.mp nd).2 (by simpa using h1) (by simpa using h2) hk
def start(N:Qx)(vs:Wi):St:=vs.map some++yD (N.length-vs.length) none
def zUq(CX:CXT)(P:yy)(w:yI)(K:yw)(mg:yt->Qi)(base:yT)(N:Qx)(qual:yt)(scope:xS)(f:yf)(cd:Value)(A:yJ)(outer:Qp)(s:yc)(H:Hp)(E:XK):Cx where
 prog:=P
 w:=w
 K:=K
 mg:=mg
 base:=base
 A:=A.deeper (envOfC qual scope s.heap.objs.size f cd)
 N:=N
 s₀:=s
 H₀:=H
 env:=envOfC qual scope s.heap.objs.size f cd
 outer:=outer
 stack:=envOfC qual scope s.heap.objs.size f cd::outer
 ex:=[]
 calm:=true
 fn:=λ_=>true
 pn:=[]
 xe:=λe s'=>yo (yv P w) (A.deeper (envOfC qual scope s.heap.objs.size f cd)) (leaving (envOfC qual scope s.heap.objs.size f cd) e) (λ_ s''=>CX outer H s E e s'') (λe' s''=>CX outer H s E e' s'') s'
def zkp{sc:xS}{n:Nat}{x:yt}(h:sc.names.lookup x=some .cell):∃c,(Yt n sc.names []).lookup x=some c:=by
 have q:=W.cellsFrom_some sc.names n [] (.inl h);exact Option.isSome_iff_exists.mp q
def zXs{CX:CXT}{P:yy}{w:yI}{K:yw}{mg:yt->Qi}{base:yT}{N ps:Qx}{qual:yt}{scope:xS}{f:yf}{cd:Value}{A:yJ}{outer:Qp}{s s1:yc}{H:Hp}{E:XK}{us:Qh}{vs:Wi}
 (S:tq N ps scope) (hd:A.handled=none) (e0:sZ P w K mg base A outer s H) (hl:vs.length=ps.length) (r:Vals vs us)
 (x:InCallC s s.heap.objs.size (bindL (envOfC qual scope s.heap.objs.size f cd).kindOf (ps.zip us) λ_=>none) (Yt (s.heap.objs.size+1) scope.names []) (bindC (envOfC qual scope s.heap.objs.size f cd).kindOf (ps.zip us) λ_=>none) s1) :
 Inv (zUq CX P w K mg base N qual scope f cd A outer s H E) [] (start N vs) H s1:=by
 have kK:ps.length<=N.length:=by have:=congrArg List.length S.pre;rw[Lz]at this;omega
 obtain⟨h1,tk,rfl,hk⟩:=x.done;have noA:∀b:yf,b∉(zUq CX P w K mg base N qual scope f cd A outer s H E).ex:=λb z=>absurd (show b∈([]:Qv) from z) (by simp)
 refine⟨⟨e0.mod,S.kind,rfl,rfl,yh _,λy z c h1 h2=>?_,λy hy=>?_,λy c _ h=>?_,λ_=>hd,Around.frames_deeper e0.frames,.inr ⟨rfl,rfl⟩,λb z=>absurd z (noA b),e0.bs,e0.bsz,λb _ _=>noA b,λb z=>absurd z (noA b),e0.sk,e0.frf⟩,
  rfl,e0.bare,Un.kept hk,⟨_,x.toInCall.ns,λi y v h1 h2 h3=>?_⟩,λy c h=>⟨_,x.cell y c h⟩,e0.hok.fresh (yh _),λy c h=>?_,λp hp=>absurd (show p∈([]:Qb) from hp) (by simp),e0.hok.kept hk,?_⟩
 ·exact name_of_addr x.apart (Yg h1) (Yg h2)
 ·have hy:scope.names.lookup y=some .cell\/scope.names.lookup y=some .free:=hy;rcases hy with hy|hy
  ·exact zkp hy
  ·exact absurd rfl (S.nofree _ (Yg hy))
 ·exact YQ (x.above y c (Yg h))
 ·have hi:i<vs.length:=by
   unfold start at h2
   by_cases hi:i<vs.length
   ·exact hi
   ·rw[yC (by simpa using hi)]at h2;rw[YU]at h2
    split at h2<;>cases h2
  have ha:vs[i]?=some v:=by
   unfold start at h2;rw[yg (by simpa using hi),yi]at h2
   cases e:vs[i]? with
   |none=>rw[e]at h2;cases h2
   |some a=>rw[e]at h2;cases h2;rfl
  obtain⟨u,hu,rv⟩:=r.get ha
  have hp:ps[i]?=some y:=by
   rw[<-S.pre,List.getElem?_take_of_lt (by omega)];exact h1
  have ndP:ps.Nodup:=by rw[<-S.pre];exact S.nd.sublist (Vi _ _)
  refine⟨u,rv,?_⟩;rcases S.par y (Nt hp) with k|k
  ·exact .inl ⟨k,z7n ndP hp hu k⟩
  ·obtain⟨c,e⟩:=zkp (n:=s.heap.objs.size+1) k;refine .inr ⟨.inl k,c,e,?_⟩;have q:=x.cell y c e;rw[zxn ndP hp hu (by show scope.names.lookup y≠_;rw[k];decide)]at q;exact q
 ·exact e0.hok.fresh (YQ (x.above y c (Yg h)))
 ·unfold start;show _=N.length;rw[Lr,Lv,Xi];omega
def z1y{CX:CXT}{P:yy}{w:yI}{K:yw}{mg:yt->Qi}{base:yT}{k:Nat}{f:yf}{name qual:yt}{params:Arguments}{body:We}{scope:xS}{dV kV doc pm cdv ct oc:Value}{an od:Qw}
 {osl:Array (Qi)} {N ps:Qx} {sp:Sp} (lk:K.lookup f=some ⟨oc,od,.func (W.fnOf name qual params body scope dV kV doc pm an cdv ct),osl⟩) (hcd:W.codeIn K cdv qual=true) (S:tq N ps scope)
 (len:∀vs H Q E,sp vs H Q E->vs.length=ps.length)
 (hbody:∀(A:yJ)(outer:Qp)(s:yc)(H:Hp)(vs:Wi)(Q:VK)(E:XK),tQ k (A.deeper (envOfC qual scope s.heap.objs.size f cdv))->sp vs H Q E ->
  ∃t,PSs (zUq CX P w K mg base N qual scope f cdv A outer s H E) body t/\t {nx:=λ_ H'=>Q .non H',rt:=Q } (start N vs) H) :
 Te P w K mg base CX (k+1) f (W.fnOf name qual params body scope dV kV doc pm an cdv ct) ps sp:=by
 refine⟨len,λA outer s H args us vs Q E hr e0 hb r hsp=>?_⟩;have hl:=len _ _ _ _ hsp;have KX:K.In s.heap:=e0.mod.kin.keeps λb o e=>(e0.bs b o e).1;have lim:s.heap.NoLimit:=e0.mod.nolimit.keeps λb o e=>(e0.bs b o e).1
 have hkind:∀y∈ps.zip us,scope.names.lookup y.1=some .local\/(scope.names.lookup y.1=some .cell/\((Yt (s.heap.objs.size+1) scope.names []).lookup y.1).isSome=true):=λ⟨n,v⟩ hy=>by
  rcases S.par n (Va hy).1 with q|q
  ·exact .inl q
  ·exact .inr ⟨q,W.cellsFrom_some _ _ _ (.inl q)⟩
 refine codeAny_call_function hr.depth (KX _ _ lk) rfl S.co S.gen rfl (W.codeRec_of KX hcd) (hb _ _ _ _ ?_);refine wpAny_newFunctionEnv_cells S.kind hkind λenv he s1 x=>?_;subst he;refine⟨lim.keeps x.toInCall.keep,codeAny_func ?_⟩;obtain⟨t,ht,hq⟩:=hbody A outer s H vs Q E (hr.deeper _) hsp;have I:Inv (zUq CX P w K mg base N qual scope f cdv A outer s H E) [] (start N vs) H s1:=zXs S hr.hd e0 hl r x;refine yU (ht [] s1 (start N vs) H _ I hq) (λfl s' hs=>?_) λe s' hs=>hs
 have fin:∀{Y':St} {H':Hp} {v:V} {u:Value},Inv (zUq CX P w K mg base N qual scope f cdv A outer s H E) [] Y' H' s'->RelV v u->Q v H'->CE outer P w H s Q u s' :=
  λ{Y' H' v u} δ rv q=>⟨v,H',δ.os,δ.bare,δ.base,δ.hok,rv,q⟩
 cases fl with
 |ret u=>
  obtain⟨v,Y',H',δ,rv,q⟩:=hs;exact fin δ rv q
 |next=>
  obtain⟨Y',H',δ,q⟩:=hs;exact fin (v:=V.non) (u:=Yp) δ rfl q
 |brk=>
  obtain⟨_,_,_,q⟩:=hs;exact YD q
 |cont=>
  obtain⟨_,_,_,q⟩:=hs;exact YD q
section
variable {X:Cx}{x:yt}{p pos:xn}{e:yE}{es:Qz}{t:TA}{id T:String}{r:Wi->Hp->VK->Prop}
def tCB(r:Wi->Hp->VK->Prop)(t:TA):TE:=λY H Q=>t Y H λvs H1=>r vs H1 Q
def z4p(hc:zhl X (.builtin id) r)(hg:Gl X x)(hm:X.mg x=none)(hv:yM x=some (.builtin id))(ha:PA X (e::es) t)(hn:x≠"__name__":=by decide)(hdb:(x==("__debug__":yt))=false:=by decide)
 (he:yj (e::es) X.env=(false,Yd e X.env)::yj es X.env:=by rfl) (kK:(Yl pos (yj es X.env)).any (·.1)=false:=by rfl):PE X (.Call (.Name x p) (e::es) [] pos) (tCB r t):=by
 intro U s Y H Q I h;refine xy (zCk I hg hm hv ?_ hn hdb);exact PyProof.Rows.callWith_builtin1 (thn (ha pos U s Y H _ I h) λus s1 ⟨vs,H1,I1,r1,q1⟩=>hc U s1 Y H1 vs us Q I1 r1 q1) he kK
def z6f(hc:zhl X (.type T) r)(hg:Gl X x)(hm:X.mg x=none)(hv:yM x=some (.type T))(ha:PA X (e::es) t)(hn:x≠"__name__":=by decide)(hdb:(x==("__debug__":yt))=false:=by decide)
 (he:yj (e::es) X.env=(false,Yd e X.env)::yj es X.env:=by rfl) (kK:(Yl pos (yj es X.env)).any (·.1)=false:=by rfl):PE X (.Call (.Name x p) (e::es) [] pos) (tCB r t):=by
 intro U s Y H Q I h;refine xy (zCk I hg hm hv ?_ hn hdb);exact YV (thn (ha pos U s Y H _ I h) λus s1 ⟨vs,H1,I1,r1,q1⟩=>hc U s1 Y H1 vs us Q I1 r1 q1) he kK
end
end L2
namespace HT
open PySem PyProof.Rows
section
open PySem.SeqAt
open PySem.AutoSeq1 (wpAny_loadPart')
open PySem.MeetsSeq PySem.MeetsSeq2 PySem.MeetsSeq3
end
section
variable {prog:yy}{w:yI}{A:yJ}{E:Value->yc->Prop}{s:yc}
def cat_tup{t b:yf}{vs ws:Qh}{Q:Value->yc->Prop}(ht:IsTup s.heap t vs.toArray)(hb:IsTup s.heap b ws.toArray)(hv:vs≠[])
 (h1:ws=[]->Q (.ref t) s) (h2:ws≠[]->Q (.ref s.heap.objs.size) {s with heap:=s.heap.push {cls:=.type "tuple",data:=.seq (vs++ws).toArray }})
 (hsz:vs.length+ws.length<=yF):yo (yv prog w) A (xw .Add (.ref t) (.ref b)) Q E s:=by
 obtain⟨⟨cls,dd,data,sl⟩,ho,hc,n,hd⟩:=id ht;obtain⟨⟨cls2,dd2,data2,sl2⟩,ho2,hc2,n2,hd2⟩:=id hb;simp only at hc hd hc2 hd2;subst hc hd hc2 hd2;have e:vs.toArray++ws.toArray=(vs++ws).toArray:=by simp
 by_cases hw:ws=[]
 ·exact concat_meets ⟨_,ho,rfl⟩ ⟨_,ho2,rfl⟩ noFill_tuple_add seq_tuple_add PySem.F.slot_tuple_add PySem.F.entry_tuple_add (PySem.F.args_tuple_add_2 _ _)
   (tuple_addW1 t b vs.toArray ws.toArray n n2 dd dd2 sl sl2 (by simpa using hv) (by simp[hw])) ⟨ho,ho2,h1 hw⟩
 ·refine concat_meets ⟨_,ho,rfl⟩ ⟨_,ho2,rfl⟩ noFill_tuple_add seq_tuple_add PySem.F.slot_tuple_add PySem.F.entry_tuple_add (PySem.F.args_tuple_add_2 _ _)
   (tuple_addW2 t b vs.toArray ws.toArray n n2 dd dd2 sl sl2 (by simpa using hv) (by simpa using hw) (by rw[Vd,Vd];exact hsz)) ⟨ho,ho2,?_⟩
  rw[e];exact h2 hw
def sIx(n d:Nat):Qk->Nat
 |none=>d
 |some v=>if v<0 then(v+(n:Int)).toNat else min v.toNat n
def Sv(n d:Nat):sIx n d none=d:=rfl
def sIx_nat(n d k:Nat):sIx n d (some (k:Int))=min k n:=by
 show(if(k:Int)<0 then((k:Int)+(n:Int)).toNat else min (k:Int).toNat n)=min k n;rw[if_neg (by omega),Yv]
def zhy(n d:Nat)(hd:d<=n)(o:Qk):sIx n d o<=n:=by
 cases o with
 |none=>exact hd
 |some v=>
  show(if v<0 then(v+(n:Int)).toNat else min v.toNat n)<=n
  by_cases hv:v<0
  ·rw[if_pos hv];omega
  ·rw[if_neg hv];exact Nat.min_le_right _ _
def zzt(v:Int)(n d:Nat):(if v<0 then max (v+(n:Int)) 0 else min v (n:Int))=((sIx n d (some v):Nat):Int):=by
 show(if v<0 then max (v+(n:Int)) 0 else min v (n:Int))=(((if v<0 then(v+(n:Int)).toNat else min v.toNat n):Nat):Int)
 by_cases hv:v<0
 ·simp only[if_pos hv];omega
 ·simp only[if_neg hv];omega
def zFq(lo hi:Qk)(n:Nat):Builtin.Slice.sliceAdjust lo hi 1 (n:Int)=(((sIx n 0 lo:Nat):Int),((sIx n n hi:Nat):Int)):=by
 have h1:¬((1:Int)<0):=by omega
 unfold Builtin.Slice.sliceAdjust;simp only[h1,if_false];refine Prod.ext ?_ ?_
 ·cases lo with
  |none=>rfl
  |some v=>exact zzt v n 0
 ·cases hi with
  |none=>rfl
  |some v=>exact zzt v n n
def z0q(i j:Nat):xC (i:Int) (j:Int) 1=j-i:=by
 unfold xC;have h1:(1:Int)>0:=by omega
 simp only[h1,if_true,Int.ediv_one]
 split<;>omega
def zVl{v:Value}{o:Qk}{Q:Qk->yc->Prop}(p:IsPart v o)(h:Q o s):yo (yv prog w) A (Builtin.Slice.slicePartIndex v) Q E s:=by
 cases p with
 |none=>exact slicePart_none h
 |int i t=>exact slicePart_int h
def TC{sl:yf}{vl vu:Value}{lo hi:Qk}{n:Nat}{Q:Int×Int×Nat->yc->Prop}(hs:s.heap.IsSliceOf sl vl vu .none)(pl:IsPart vl lo)(pu:IsPart vu hi)
 (h:Q (((sIx n 0 lo:Nat):Int),1,sIx n n hi-sIx n 0 lo) s):yo (yv prog w) A (Builtin.Slice.sliceApplied (.ref sl) (pure (n:Int))) Q E s:=by
 obtain⟨os,hos,hcs,hds⟩:=id hs;unfold Builtin.Slice.sliceApplied Builtin.Slice.sliceFields;refine ya (ya (YK hos hds (x:=vl) rfl (ya (YK hos hds (x:=vu) rfl (ya (YK hos hds (x:=.none) rfl (ye ?_)))))));refine ya (slicePart_none ?_);show yo _ _ (if((1:Int)==0)=true then _ else _) _ _ s;rw[if_neg (by decide)];refine ya (zVl pl (ya (zVl pu (ya (ye ?_)))));show yo _ _ (match Builtin.Slice.sliceAdjust lo hi 1 (n:Int) with|(lo,hi)=>pure (lo,(1:Int),xC lo hi 1)) _ _ s;rw[zFq lo hi n];show yo _ _ (pure (((sIx n 0 lo:Nat):Int),(1:Int),xC ((sIx n 0 lo:Nat):Int) ((sIx n n hi:Nat):Int) 1)) _ _ s;rw[z0q];exact ye h
def zgv(xs:Qm)(i k:Nat):((yB k).filterMap λ(m:Nat)=>xs[((i:Int)+(m:Int)*1).toNat]?).toArray=((xs.toList.drop i).take k).toArray:=by
 have e:(λ(m:Nat)=>xs[((i:Int)+(m:Int)*1).toNat]?)=λm=>xs[i+m]?:=by
  funext m
  have:((i:Int)+(m:Int)*1).toNat=i+m:=by omega
  rw[this]
 rw[e];have:=pick_run xs i k;rw[List.filterMap_map]at this;have e2:((λx=>xs[x]?)∘λx=>i+x)=λm=>xs[i+m]?:=rfl;rw[e2]at this;rw[this]
def sf{t sl:yf}{items:Qm}{vl vu:Value}{lo hi:Qk}{Q:Value->yc->Prop}(ht:IsTup s.heap t items)(hs:s.heap.IsSliceOf sl vl vu .none)(pl:IsPart vl lo)(pu:IsPart vu hi)
 (hw:¬(sIx items.size 0 lo=0/\sIx items.size items.size hi=items.size))
 (h:Q (.ref s.heap.objs.size) {s with heap:=s.heap.push {cls:=.type "tuple",data:=.seq ((items.toList.drop (sIx items.size 0 lo)).take (sIx items.size items.size hi-sIx items.size 0 lo)).toArray }})
 (hsz:items.size<=yF):yo (yv prog w) A (getItem (.ref t) (.ref sl)) Q E s:=by
 have htake:sizeOk (.seq ((items.toList.drop (sIx items.size 0 lo)).take (sIx items.size items.size hi-sIx items.size 0 lo)).toArray):=by
  show((items.toList.drop (sIx items.size 0 lo)).take (sIx items.size items.size hi-sIx items.size 0 lo)).toArray.size<=yF;rw[Vd,Lz,List.length_drop,Array.length_toList];omega
 have hj:sIx items.size items.size hi<=items.size:=zhy _ _ (yh _) hi;obtain⟨os,hos,hcs,hds⟩:=id hs;have hTs:s.TypeIs (.ref sl) "slice":=⟨os,hos,hcs⟩
 unfold getItem
 try with_reducible refine yQ ?_
 first|refine ya (ye ?_)|skip
 refine ya (wpAny_sequenceKey ht.typeIs (by decide) ?_)
 refine ya (Yi (name:=YX "__getitem__") ht.typeIs xc
  (Yc xc ht.typeIs entry_tuple_getitem ?_ (args_tuple_getitem _ _)))
 show yo _ _ (Builtin.Tuple.tupleItemsOf (.ref t) >>= _) _ _ s;refine ya (tupleItemsOf_ ht ?_);refine ya (Xx hTs ?_);rw[if_pos (by decide)];refine ya (TC hs pl pu ?_)
 have hno:¬((((sIx items.size 0 lo:Nat):Int)==0&&(1:Int)==1&&(sIx items.size items.size hi-sIx items.size 0 lo)==items.size)=true):=by
  intro q;rw[yK,yK]at q;have q1:((sIx items.size 0 lo:Nat):Int)=0:=eq_of_beq q.1.1;have q2:sIx items.size items.size hi-sIx items.size 0 lo=items.size:=eq_of_beq q.2;exact hw ⟨by omega,by omega⟩
 show yo _ _ (if(((sIx items.size 0 lo:Nat):Int)==0&&(1:Int)==1&&(sIx items.size items.size hi-sIx items.size 0 lo)==items.size)=true then _ else _) _ _ s;rw[if_neg hno,zgv]
 first
  |exact ya (m:=xf _) (yY (ye ⟨_,rfl,ye h⟩) htake)
  |exact ya (m:=xf _) (yY (ya (ye (ye ⟨_,rfl,ye h⟩))) htake)
  |exact ya (ya (m:=xf _) (yY (ye (ye ⟨_,rfl,ye h⟩)) htake))
  |exact ya (ya (m:=xf _) (yY (ye ⟨_,rfl,ye h⟩) htake))
end
end HT
namespace L2
open PySem PySem.Spec PyProof.Rows
abbrev TO:=St->Hp->(Qk->Hp->Prop)->Prop
def PO(X:Cx)(e:Option yE)(t:TO):Prop :=
 ∀(U:Qb) (s:yc) (Y:St) (H:Hp) (Q:Qk->Hp->Prop),Inv X U Y H s->t Y H Q ->
  yo (yv X.prog X.w) X.A (evalPart e X.env) (λu s'=>∃o H',Inv X U Y H' s'/\IsPart u o/\Q o H') X.xe s
def zhx:TO:=λ_ H Q=>Q none H
def z4z(t:TE):TO:=λY H Q=>t Y H λx H1=>∃i,x=.int i/\Q (some i) H1
def zQg{ns:Qg}:∀{us:Qh},Vals (ns.map V.int) us->IntsAre us ns:=by
 induction ns with
 |nil=>intro us r;rw[Ni]at r;cases r;exact .nil
 |cons n ns ih=>
  intro us r;rw[Ng]at r
  cases r with
  |cons r1 r2=>
   obtain⟨t,e⟩:=r1;subst e;exact .cons n t (ih r2)
section
variable {X:Cx}{e:yE}{te:TE}{lo hi:Option yE}{tl th:TO}{pos p2:xn}
def zQw:PO X none zhx:=by
 intro U s Y H Q I h;rw[evalPart_none];exact ye ⟨none,H,I,.none,h⟩
def z0w(h:PE X e te):PO X (some e) (z4z te):=by
 intro U s Y H Q I hw;rw[evalPart_some];refine thn (h U s Y H _ I hw) λu s1 ⟨x,H1,I1,r1,q1⟩=>?_;obtain⟨i,rfl,q⟩:=q1;obtain⟨t,rfl⟩:=r1;exact⟨some i,H1,I1,.int i t,q⟩
def SlR(X:Cx)(r:V->Qk->Qk->Hp->VK->Prop):Prop :=
 ∀(U:Qb) (s:yc) (Y:St) (H:Hp) (x:V) (v vl vu:Value) (lo hi:Qk) (sl:yf) (Q:VK),Inv X U Y H s->RelV x v->s.heap.IsSliceOf sl vl vu .none->IsPart vl lo->IsPart vu hi->r x lo hi H Q ->
  ∃T id,Xq (.type T) "__getitem__"=pure (some (.builtin id))/\s.TypeIs v T/\yo (yv X.prog X.w) X.A (getItem v (.ref sl)) (EP X U Y Q) X.xe s
def SlR.or{r r':V->Qk->Qk->Hp->VK->Prop}(h:SlR X r)(h':SlR X r'):SlR X (λx lo hi H Q=>r x lo hi H Q\/r' x lo hi H Q):=by
 intro U s Y H x v vl vu lo hi sl Q I rx hs pl pu q;rcases q with q|q
 ·exact h U s Y H x v vl vu lo hi sl Q I rx hs pl pu q
 ·exact h' U s Y H x v vl vu lo hi sl Q I rx hs pl pu q
def tSl(r:V->Qk->Qk->Hp->VK->Prop)(te:TE)(tl th:TO):TE:=λY H Q=>te Y H λx H1=>tl Y H1 λl H2=>th Y H2 λu H3=>r x l u H3 Q
def zlv{r:V->Qk->Qk->Hp->VK->Prop}(hr:SlR X r)(he:PE X e te)(hl:PO X lo tl)(hu:PO X hi th):PE X (.Subscript e (.Slice lo hi none p2) pos) (tSl r te tl th):=by
 intro U s Y H Q I h;refine Subscript_ (thn (he U s Y H _ I h) λv s1 ⟨x,H1,I1,r1,q1⟩=>?_);refine wpAny_Slice (thn (hl U s1 Y H1 _ I1 q1) λvl s2 ⟨l,H2,I2,pl,q2⟩=>thn (hu U s2 Y H2 _ I2 q2) λvu s3 ⟨u,H3,I3,pu,q3⟩=>?_);rw[evalPart_none];refine ye ?_;have I4:Inv X U Y H3 {s3 with heap:=s3.heap.push {cls:=.type "slice",data:=.fields #[vl,vu,.none]}}:=I3.kept (t':=s3.toks) λb ob q=>yb _ q;obtain⟨T,id,hT,ht,hg⟩:=hr U {s3 with heap:=s3.heap.push {cls:=.type "slice",data:=.fields #[vl,vu,.none]}} Y H3 x v vl vu l u s3.heap.objs.size Q I4 r1 (Heap.IsSliceOf.new ..) pl pu q3;show yo (yv X.prog X.w) X.A (subscriptTail e (.Slice lo hi none p2) v (.ref s3.heap.objs.size)) (EP X U Y Q) X.xe {s3 with heap:=s3.heap.push {cls:=.type "slice",data:=.fields #[vl,vu,.none]}};exact tail_any (ops:=[.ref s3.heap.objs.size,v]) ht hT hg (by with_unfolding_all rfl)
def zDr(xs:Wi)(lo hi:Qk):Wi:=(xs.drop (HT.sIx xs.length 0 lo)).take (HT.sIx xs.length xs.length hi-HT.sIx xs.length 0 lo)
def zGk(xs:Wi)(lo hi:Qk):(zDr xs lo hi).length<=xs.length:=by
 unfold zDr;rw[Lz,List.length_drop];omega
def zDA(K:yw):V->Qk->Qk->Hp->VK->Prop:=λx lo hi H Q=>∃a xs,x=.ref a/\SqT K H a xs /\
 ¬(HT.sIx xs.length 0 lo=0/\HT.sIx xs.length xs.length hi=xs.length)/\∀p,H p=none->Q (.ref p) (upd H p (.tup (zDr xs lo hi)))
def zTx:SlR X (zDA X.K):=by
 intro U s Y H x v vl vu lo hi sl Q I rx hs pl pu h;obtain⟨a,xs,rfl,hx,hw,q⟩:=h;cases rx;obtain⟨hJ,r,ht,hz⟩:=I.tuple hx;have hW:hJ.toArray.size=xs.length:=by rw[Vd];exact r.length.symm
 refine⟨"tuple",_,PyProof.Rows.slot_tuple_getitem.lookup,ht.typeIs,?_⟩;refine HT.sf ht hs pl pu (by rw[hW];exact hw) ?_ (by rw[hW];exact hz);rw[hW];refine⟨.ref s.heap.objs.size,_,I.laid (t':=s.toks) (o:=.tup (zDr xs lo hi)) (λb ob q=>yb _ q) (yh _) ?_,rfl,q _ (I.hok.fresh (yh _))⟩;exact⟨yG (zGk xs lo hi) hz,_,(r.drop (HT.sIx xs.length 0 lo)).take (HT.sIx xs.length xs.length hi-HT.sIx xs.length 0 lo),IsTup.new _ _⟩
def zAz(K:yw):R2:=λx y H Q=>∃a b xs ys,x=.ref a/\y=.ref b/\SqT K H a xs/\SqT K H b ys/\xs≠[]/\xs.length+ys.length<=yF /\
 (ys=[]->Q (.ref a) H)/\(ys≠[]->∀p,H p=none->Q (.ref p) (upd H p (.tup (xs++ys))))
def Vals.sx{xs:Wi}{us:Qh}(r:Vals xs us):us=[]↔xs=[]:=by
 cases r with
 |nil=>simp
 |cons _ _=>simp
def zWv:OpR X (xw .Add) (zAz X.K):=by
 intro U s Y H x y v u Q I rx ry h;obtain⟨a,b,xs,ys,rfl,rfl,ha,hb,hx,hz,q1,q2⟩:=h;cases rx;cases ry;obtain⟨hJ,r1,p1,_⟩:=I.tuple ha;obtain⟨its2,r2,p2,_⟩:=I.tuple hb;refine HT.cat_tup p1 p2 (λz=>hx (r1.sx.mp z)) (λz=>⟨.ref a,H,I,rfl,q1 (r2.sx.mp z)⟩) (λz=>?_) (by rw[<-r1.length,<-r2.length];exact hz);refine⟨.ref s.heap.objs.size,_,I.laid (t':=s.toks) (o:=.tup (xs++ys)) (λb ob q=>yb _ q) (yh _) ?_,rfl,q2 (λw=>z (r2.sx.mpr w)) _ (I.hok.fresh (yh _))⟩;exact⟨by rw[Lr];exact hz,_,r1.append r2,IsTup.new _ _⟩
end
def ixN(n:Nat)(i:Int):Qj:=if 0<=i then(if i<n then some i.toNat else none) else if -(n:Int)<=i then some (i+n).toNat else none
def atI{α:Type}(xs:List α)(i:Int):Option α:=(ixN xs.length i).bind λj=>xs[j]?
def z7s{n:Nat}{i:Int}{j:Nat}(h:ixN n i=some j):seqIndex? i n=some j/\j<n/\-(n:Int)<=i/\i<n:=by
 unfold ixN at h
 by_cases h0:0<=i
 ·rw[if_pos h0]at h
  by_cases h1:i<n
  ·rw[if_pos h1]at h;have e:i.toNat=j:=Yj h;exact⟨by rw[seqIndex_of h0 h1,e],by omega,by omega,h1⟩
  ·rw[if_neg h1]at h;cases h
 ·rw[if_neg h0]at h
  by_cases h1:-(n:Int)<=i
  ·rw[if_pos h1]at h;have e:(i+n).toNat=j:=Yj h;exact⟨by rw[seqIndex_neg (by omega) h1,e],by omega,h1,by omega⟩
  ·rw[if_neg h1]at h;cases h
def zCo{α:Type}{xs:List α}{i:Int}{v:α}(h:atI xs i=some v):∃j,seqIndex? i xs.length=some j/\xs[j]?=some v/\j<xs.length/\-(xs.length:Int)<=i/\i<xs.length:=by
 unfold atI at h
 cases e:ixN xs.length i with
 |none=>rw[e]at h;cases h
 |some j=>
  rw[e]at h;obtain⟨h1,h2,h3,h4⟩:=z7s e;exact⟨j,h1,h,h2,h3,h4⟩
def zXb{α:Type}{xs:List α}{j:Nat}{v:α}(h:xs[j]?=some v):atI xs (j:Int)=some v:=by
 have hj:j<xs.length:=(List.getElem?_eq_some_iff.mp h).1
 have e:ixN xs.length (j:Int)=some j:=by
  unfold ixN;rw[if_pos (by omega),if_pos (by omega)];simp
 unfold atI;rw[e];exact h
def zto(b:yE):Prop:=∀o i,subscripted b false o i=operate [o,i] (getItem o i)
def IxR(X:Cx)(r:R2):Prop :=
 ∀(value slice:yE)(U:Qb) (s:yc) (Y:St) (H:Hp) (x y:V) (v u:Value) (Q:VK),Inv X U Y H s->RelV x v->RelV y u->r x y H Q ->
  subscripted slice false v u=operate [v,u] (getItem v u)->yo (yv X.prog X.w) X.A (subscriptTail value slice v u) (EP X U Y Q) X.xe s
def MtR(X:Cx)(id:String)(r:V->Wi->Hp->VK->Prop):Prop :=
 ∀(U:Qb) (s:yc) (Y:St) (H:Hp) (x:V) (xs:Wi) (v:Value) (us:Qh) (Q:VK),Inv X U Y H s->RelV x v->Vals xs us->r x xs H Q ->
  yo (yv X.prog X.w) X.A (call (.builtin id) (v::us)) (EP X U Y Q) X.xe s
section
variable {X:Cx}{a b:yE}{ta tb:TE}{pos:xn}
def IxR.or{r r':R2}(h:IxR X r)(h':IxR X r'):IxR X (λx y H Q=>r x y H Q\/r' x y H Q):=by
 intro value slice U s Y H x y v u Q I rx ry q hs;rcases q with q|q
 ·exact h value slice U s Y H x y v u Q I rx ry q hs
 ·exact h' value slice U s Y H x y v u Q I rx ry q hs
def zAy{r:R2}(hr:IxR X r)(ha:PE X a ta)(hb:PE X b tb)(hs:zto b):PE X (.Subscript a b pos) (tOp r ta tb):=by
 intro U s Y H Q I h;exact Subscript_ (binT ha hb I h λv u s2 x y H2 I2 rx ry q=>hr a b U s2 Y H2 x y v u Q I2 rx ry q (hs _ _))
def zCA(K:yw):R2:=λx y H Q=>∃p xs i v,x=.ref p/\y=.int i/\SqL K H p xs/\atI xs i=some v/\Q v H
def zsA(K:yw):R2:=λx y H Q=>∃p xs i v,x=.ref p/\y=.int i/\SqT K H p xs/\atI xs i=some v/\Q v H
def zqA:R2:=λx y H Q=>∃z i c,x=.str z/\y=.int i/\z.length<=yF/\atI z.cps.toList i=some c/\Q (.str ⟨#[c]⟩) H
def ix_list:IxR X (zCA X.K):=by
 intro value slice U s Y H x y v u Q I rx ry h hs;obtain⟨p,xs,i,z,rfl,rfl,hq,he,q⟩:=h;cases rx;obtain⟨t,rfl⟩:=ry;obtain⟨hJ,r,pl,hz⟩:=I.list hq;obtain⟨j,h1,h2,h3,h4,h5⟩:=zCo he;obtain⟨w,ew,rw'⟩:=r.get h2;have hl:=r.length;have hn:=sy;have fin:EP X U Y Q w s:=⟨z,H,I,rw',q⟩
 by_cases h0:0<=i
 ·have hj:i.toNat=j:=by
   rw[seqIndex_of h0 h5]at h1;exact Yj h1
  exact item_listR pl.isList h0 (by omega) (by rw[hj];simpa using ew) fin hs
 ·have hj:(i+(hJ.toArray.size:Int)).toNat=j:=by
   rw[seqIndex_neg (by omega) h4]at h1;rw[Vd,<-hl];exact Yj h1
  exact subscriptTail_builtinR (x:=w) pl.isList.typeIs slot_list_getitem.lookup
   (wpAny_getItem_list_neg (Q:=λr s'=>r=w/\EP X U Y Q r s') pl.isList (by omega) (by rw[Vd]<;>omega) (by omega) (by rw[hj];simpa using ew) ⟨rfl,fin⟩) hs
def ix_tup:IxR X (zsA X.K):=by
 intro value slice U s Y H x y v u Q I rx ry h hs;obtain⟨p,xs,i,z,rfl,rfl,hq,he,q⟩:=h;cases rx;obtain⟨t,rfl⟩:=ry;obtain⟨hJ,r,pl,hz⟩:=I.tuple hq;obtain⟨j,h1,h2,h3,h4,h5⟩:=zCo he;obtain⟨w,ew,rw'⟩:=r.get h2;have hl:=r.length;have hn:=sy;have fin:EP X U Y Q w s:=⟨z,H,I,rw',q⟩
 exact subscriptTail_builtinR (x:=w) pl.typeIs slot_tuple_getitem.lookup
  (getItem_tuple (j:=j) (Q:=λr s'=>r=w/\EP X U Y Q r s') pl (by omega) (by omega) (by rw[Vd,<-hl];exact h1) (by simpa using ew) ⟨rfl,fin⟩) hs
def z3x:IxR X zqA:=by
 intro value slice U s Y H x y v u Q I rx ry h hs;obtain⟨z,i,c,rfl,rfl,hz,he,q⟩:=h;obtain⟨t,rfl⟩:=rx;obtain⟨t',rfl⟩:=ry;obtain⟨j,h1,h2,h3,h4,h5⟩:=zCo he;have hl:z.cps.toList.length=z.length:=by simp[Str.length]
 rw[hl]at h1 h4 h5;have hn:=sy
 exact tail_any (typeIs_str s z t) slot_str_getitem.lookup (getItem_str (c:=c) (by
  have e1:decide (i < -(2^63:Int))=false:=decide_eq_false (by omega);have e2:decide (i≥2^63)=false:=decide_eq_false (by omega);rw[e1,e2,Bool.or_false]) (by rw[h1];simpa using h2) ⟨.str ⟨#[c]⟩,H,I.tok _,⟨_,rfl⟩,q⟩) hs
def rIx(K:yw):R2:=λx y H Q=>zCA K x y H Q\/zsA K x y H Q\/zqA x y H Q
def znv:IxR X (rIx X.K):=ix_list.or (ix_tup.or z3x)
def zMq(hJ:Qh)(n j:Nat)(u:Value):xY (·.setIfInBounds j u) {cls:=.type "list",data:=.seq hJ.toArray n } = {cls:=.type "list",data:=.seq (hJ.set j u).toArray n }:=by
 simp[xY]
def Inv.lst{U:Qb}{Y:St}{H:Hp}{s:yc}{p:yf}{xs:Wi}(I:Inv X U Y H s)(h:H p=some (.lst xs)) :
 ∃(hJ:Qh)(n:Nat),Vals xs hJ/\s.heap.get? p=some {cls:=.type "list",data:=.seq hJ.toArray n }/\xs.length<=yF:=by
 obtain⟨z,hJ,n,r,e⟩:=I.hok p _ h;exact⟨hJ,n,r,e,z⟩
def Inv.lstUpd{U:Qb}{Y:St}{H:Hp}{s:yc}{p:yf}{xs ys:Wi}{hJ hJ':Qh}{n n':Nat}{f:YS->YS}(I:Inv X U Y H s)(h:H p=some (.lst xs))
 (ho:s.heap.get? p=some {cls:=.type "list",data:=.seq hJ.toArray n }) (hf:f {cls:=.type "list",data:=.seq hJ.toArray n } = {cls:=.type "list",data:=.seq hJ'.toArray n' }) (r:Vals ys hJ') (hz:ys.length<=yF) (t:Nat) :
 Inv X U Y (upd H p (.lst ys)) {s with heap:=s.heap.update p f,toks:=t }:=by
 have e:(s.heap.update p f).get? p=some {cls:=.type "list",data:=.seq hJ'.toArray n' }:=by
  rw[yO f ho (by rw[hf]<;>rfl),hf]
 refine I.write (x:=p) (e:=p) (by rw[h];trivial) (.inl rfl) (λb u hb q=>(Yh _ _ (yR hb)).trans q) ⟨_,e⟩ ?_;exact⟨hz,hJ',n',r,e⟩
def z0z:V->V->V->Hp->(Hp->Prop)->Prop:=λo i v H Q=>∃p xs k j,o=.ref p/\i=.int k/\H p=some (.lst xs)/\ixN xs.length k=some j/\Q (upd H p (.lst (xs.set j v)))
def zXu:zFz X z0z:=by
 intro U s Y H o i v ov iv u Q I ro ri rv h;obtain⟨p,xs,k,j,rfl,rfl,hp,hj,q⟩:=h;cases ro;obtain⟨t,rfl⟩:=ri;obtain⟨hJ,n,r,ho,hz⟩:=I.lst hp;obtain⟨h1,h2,h3,h4⟩:=z7s hj;have hl:=r.length;have hn:=sy
 have I':Inv X U Y (upd H p (.lst (xs.set j v))) {s with heap:=s.heap.update p (xY (·.setIfInBounds j u))} :=
  I.lstUpd hp ho (zMq hJ n j u) (r.set rv j) (by rw[Lx];exact hz) s.toks
 by_cases h0:0<=k
 ·have hk:k.toNat=j:=by
   rw[seqIndex_of h0 h4]at h1;exact Yj h1
  exact W.ki_setAt ho h0 (by omega) (by rw[Vd,<-hl];exact h4) (by rw[hk];exact⟨_,I',q⟩)
 ·have hk:(k+(hJ.toArray.size:Int)).toNat=j:=by
   rw[seqIndex_neg (by omega) h3]at h1;rw[Vd,<-hl];exact Yj h1
  exact W.ki_setBack ho (by omega) (by rw[Vd,<-hl];exact h3) (by omega) (by rw[hk];exact⟨_,I',q⟩)
def zYn(lo hi:Qk)(n:Nat):(sliceBounds lo hi none n).1=((HT.sIx n 0 lo:Nat):Int)/\(sliceBounds lo hi none n).2.1=((HT.sIx n n hi:Nat):Int)/\(sliceBounds lo hi none n).2.2=1:=by
 refine⟨?_,?_,rfl⟩
 ·cases lo with
  |none=>simp[sliceBounds,HT.sIx]
  |some i=>
   simp only[sliceBounds,HT.sIx,Option.getD_none,show(1:Int)>0 by decide,if_true]
   by_cases h:i<0
   ·simp only[h,if_true]<;>omega
   ·simp only[h,if_false]<;>omega
 ·cases hi with
  |none=>simp[sliceBounds,HT.sIx]
  |some i=>
   simp only[sliceBounds,HT.sIx,Option.getD_none,show(1:Int)>0 by decide,if_true]
   by_cases h:i<0
   ·simp only[h,if_true]<;>omega
   ·simp only[h,if_false]<;>omega
def zHm(hJ:Qh)(lo hi:Qk):slicePick hJ.toArray lo hi none=((hJ.drop (HT.sIx hJ.length 0 lo)).take (HT.sIx hJ.length hJ.length hi-HT.sIx hJ.length 0 lo)).toArray:=by
 obtain⟨h1,h2,h3⟩:=zYn lo hi hJ.toArray.size;unfold slicePick;rw[h1,h2,h3];simp only[sliceRange_one,pick_run,Vd]<;>rfl
def z5A(K:yw):V->Qk->Qk->Hp->VK->Prop:=λx lo hi H Q=>∃a xs,x=.ref a/\SqL K H a xs/\∀p,H p=none->Q (.ref p) (upd H p (.lst (zDr xs lo hi)))
def zpw:SlR X (z5A X.K):=by
 intro U s Y H x v vl vu lo hi sl Q I rx hs pl pu h;obtain⟨a,xs,rfl,hx,q⟩:=h;cases rx;obtain⟨hJ,r,ht,hz⟩:=I.list hx;have hW:=r.length;refine⟨"list",_,slot_list_getitem.lookup,ht.isList.typeIs,?_⟩;refine wpAny_getItem_list_slice ht.isList hs pl pu .none (by simp) ?_ (by rw[Vd]<;>omega);rw[zHm,<-hW];refine⟨.ref s.heap.objs.size,_,I.laid (t':=s.toks) (o:=.lst (zDr xs lo hi)) (λb ob q=>yb _ q) (yh _) ?_,rfl,q _ (I.hok.fresh (yh _))⟩;exact⟨yG (zGk xs lo hi) hz,_,0,(r.drop (HT.sIx xs.length 0 lo)).take (HT.sIx xs.length xs.length hi-HT.sIx xs.length 0 lo),yq _ rfl⟩
def zPj:V->Bool
 |.non=>true
 |.bl _=>true
 |.int _=>true
 |.str _=>true
 |_=>false
def eqV:V->V->Bool
 |.non,.non=>true
 |.bl a,.bl b=>a==b
 |.bl a,.int b=>(if a then 1 else 0)==b
 |.int a,.bl b=>a==(if b then 1 else 0)
 |.int a,.int b=>a==b
 |.str a,.str b=>a==b
 |_,_=>false
def zaz{A:yJ}{s:yc}{y x:V}{u v:Value}(ry:RelV y u)(rx:RelV x v)(fy:zPj y=true)(fx:zPj x=true):SeqAt.EqAt A s u v (eqV y x):=by
 cases y with
 |non=>
  cases ry
  cases x with
  |non=>cases rx;exact SeqAt.EqAt.same _
  |bl b=>cases rx;exact SeqAt.EqAt.none_bool b
  |int b=>obtain⟨t,rfl⟩:=rx;exact SeqAt.EqAt.none_int b t
  |str b=>obtain⟨t,rfl⟩:=rx;exact SeqAt.EqAt.none_str b t
  |_=>exact absurd (show false=true from fx) yA
 |bl a=>
  cases ry
  cases x with
  |non=>cases rx;exact SeqAt.EqAt.bool_none a
  |bl b=>cases rx;exact SeqAt.EqAt.bool_bool a b
  |int b=>obtain⟨t,rfl⟩:=rx;exact SeqAt.EqAt.bool_int a b t
  |str b=>obtain⟨t,rfl⟩:=rx;exact SeqAt.EqAt.bool_str a b t
  |_=>exact absurd (show false=true from fx) yA
 |int a=>
  obtain⟨t',rfl⟩:=ry
  cases x with
  |non=>cases rx;exact SeqAt.EqAt.int_none a t'
  |bl b=>cases rx;exact SeqAt.EqAt.int_bool a t' b
  |int b=>obtain⟨t,rfl⟩:=rx;exact SeqAt.EqAt.int_int a t' b t
  |str b=>obtain⟨t,rfl⟩:=rx;exact SeqAt.EqAt.int_str a t' b t
  |_=>exact absurd (show false=true from fx) yA
 |str a=>
  obtain⟨t',rfl⟩:=ry
  cases x with
  |non=>cases rx;exact SeqAt.EqAt.str_none a t'
  |bl b=>cases rx;exact SeqAt.EqAt.str_bool a t' b
  |int b=>obtain⟨t,rfl⟩:=rx;exact SeqAt.EqAt.str_int a t' b t
  |str b=>obtain⟨t,rfl⟩:=rx;exact SeqAt.EqAt.str_str a t' b t
  |_=>exact absurd (show false=true from fx) yA
 |_=>exact absurd (show false=true from fy) yA
def eqU(x:V)(u:Value):Bool:=match u with
 |.none=>eqV .non x
 |.bool b=>eqV (.bl b) x
 |.int i _=>eqV (.int i) x
 |.str z _=>eqV (.str z) x
 |_=>false
def zys{x y:V}{u:Value}(r:RelV y u)(f:zPj y=true):eqU x u=eqV y x:=by
 cases y with
 |non=>cases r;rfl
 |bl b=>cases r;rfl
 |int i=>obtain⟨t,rfl⟩:=r;rfl
 |str z=>obtain⟨t,rfl⟩:=r;rfl
 |_=>exact absurd (show false=true from f) yA
def zmk{x:V}:∀{xs:Wi} {us:Qh},Vals xs us->xs.all zPj=true->us.any (eqU x)=xs.any λy=>eqV y x
 |_,_,.nil,_=>rfl
 |y::xs,u::us,.cons r t,f=>by
  rw[La,yK]at f;rw[Lb,Lb,zys r f.1,zmk t f.2]
def zJg{A:yJ}{s:yc}{x:V}{v:Value}(rx:RelV x v)(fx:zPj x=true):∀{xs:Wi} {us:Qh},Vals xs us->xs.all zPj=true->∀u∈us,SeqAt.EqAt A s u v (eqU x u)
 |_,_,.nil,_=>λu hu=>by cases hu
 |y::xs,u::us,.cons r t,f=>λu' hu=>by
  rw[La,yK]at f;rcases List.mem_cons.mp hu with rfl|hu
  ·rw[zys r f.1];exact zaz r rx f.1 fx
  ·exact zJg rx fx t f.2 u' hu
def inV(x:V)(xs:Wi):Bool:=xs.any λy=>eqV y x
def rIn(K:yw)(neg:Bool):R2:=λx y H Q=>∃p xs,y=.ref p/\(SqL K H p xs\/SqT K H p xs)/\zPj x=true/\xs.all zPj=true/\Q (.bl (if neg then !inV x xs else inV x xs)) H
def zrt:OpR X (Yz .In) (rIn X.K false):=by
 intro U s Y H x y v u Q I rx ry h;obtain⟨p,xs,rfl,hq,fx,fs,q⟩:=h;cases ry;rcases hq with hq|hq
 ·obtain⟨hJ,r,pl,hz⟩:=I.list hq;refine SeqAt.in_listAt (eqU x) pl.isList (λw hw=>zJg rx fx r fs w (by simpa using hw)) ⟨.bl _,H,I,rfl,?_⟩;rw[show hJ.toArray.any (eqU x)=hJ.any (eqU x) by simp,zmk r fs];exact q
 ·obtain⟨hJ,r,pl,hz⟩:=I.tuple hq;refine SeqAt.in_tupleAt (eqU x) pl (λw hw=>zJg rx fx r fs w (by simpa using hw)) ⟨.bl _,H,I,rfl,?_⟩;rw[show hJ.toArray.any (eqU x)=hJ.any (eqU x) by simp,zmk r fs];exact q
def zko:OpR X (Yz .NotIn) (rIn X.K true):=by
 intro U s Y H x y v u Q I rx ry h;obtain⟨p,xs,rfl,hq,fx,fs,q⟩:=h;cases ry;rcases hq with hq|hq
 ·obtain⟨hJ,r,pl,hz⟩:=I.list hq;refine SeqAt.notIn_listAt (eqU x) pl.isList (λw hw=>zJg rx fx r fs w (by simpa using hw)) ⟨.bl _,H,I,rfl,?_⟩;rw[show hJ.toArray.any (eqU x)=hJ.any (eqU x) by simp,zmk r fs];exact q
 ·obtain⟨hJ,r,pl,hz⟩:=I.tuple hq;refine SeqAt.notIn_tupleAt (eqU x) pl (λw hw=>zJg rx fx r fs w (by simpa using hw)) ⟨.bl _,H,I,rfl,?_⟩;rw[show hJ.toArray.any (eqU x)=hJ.any (eqU x) by simp,zmk r fs];exact q
def zmo:zhl X (.builtin "len") (λxs H Q=>∃p ys,xs=[.ref p]/\(SqL X.K H p ys\/SqT X.K H p ys)/\Q (.int ys.length) H):=by
 intro U s Y H xs us Q I r h;obtain⟨p,ys,rfl,hq,q⟩:=h;obtain⟨u,rfl,rx⟩:=vals1 r;cases rx;have hn:=sy;rcases hq with hq|hq
 ·obtain⟨hJ,r',pl,hz⟩:=I.list hq;have hW:=r'.length;exact Calls.call_len_list pl.isList (by simp only[Vd]<;>omega) ⟨.int ys.length,H,I.tok _,⟨s.toks+1,by rw[Vd,hW]⟩,q⟩
 ·obtain⟨hJ,r',pl,hz⟩:=I.tuple hq;have hW:=r'.length;exact len_tuple pl (by simp only[Vd]<;>omega) ⟨.int ys.length,H,I.tok _,⟨s.toks+1,by rw[Vd,hW]⟩,q⟩
def zXi:zhl X (.type "list") (λxs H Q=>∃p ys,xs=[.ref p]/\(SqL X.K H p ys\/SqT X.K H p ys)/\∀l,H l=none->Q (.ref l) (upd H l (.lst ys))):=by
 intro U s Y H xs us Q I r h;obtain⟨p,ys,rfl,hq,q⟩:=h;obtain⟨u,rfl,rx⟩:=vals1 r;cases rx
 have fin:∀(hJ:Qh),Vals ys hJ->ys.length<=yF->∀(h':yT)(c':Nat),(∀b o',s.heap.get? b=some o'->h'.get? b=some o') ->
  h'.get? s.heap.objs.size=some {cls:=.type "list",dict:=none,data:=.seq hJ.toArray c',slots:=#[]}->EP X U Y Q (.ref s.heap.objs.size) {s with heap:=h' }:=λhJ r' hz h' c' kp e=>
  ⟨.ref s.heap.objs.size,_,I.laid (t':=s.toks) kp (yh _) (show tF X.prog X.w _ h' _ (.lst ys) from⟨hz,hJ,c',r',e⟩),rfl,q _ (I.hok.fresh (yh _))⟩
 rcases hq with hq|hq
 ·obtain⟨hJ,r',pl,hz⟩:=I.list hq;have hW:=r'.length;obtain⟨o,ho,hc,n,hd⟩:=pl.isList;exact call_list_seq p (.inl rfl) ho hc hd (λh' c' kp e=>fin hJ r' hz h' c' kp e) (by simp only[Vd]<;>omega)
 ·obtain⟨hJ,r',pl,hz⟩:=I.tuple hq;have hW:=r'.length;obtain⟨o,ho,hc,n,hd⟩:=pl;exact call_list_seq p (.inr rfl) ho hc hd (λh' c' kp e=>fin hJ r' hz h' c' kp e) (by simp only[Vd]<;>omega)
def zKf:zhl X (.type "tuple") (λxs H Q=>∃p ys,xs=[.ref p]/\((SqL X.K H p ys/\∀l,H l=none->Q (.ref l) (upd H l (.tup ys)))\/(SqT X.K H p ys/\Q (.ref p) H))):=by
 intro U s Y H xs us Q I r h;obtain⟨p,ys,rfl,h⟩:=h;obtain⟨u,rfl,rx⟩:=vals1 r;cases rx;rcases h with ⟨hq,q⟩|⟨hq,q⟩
 ·obtain⟨hJ,r',pl,hz⟩:=I.list hq;have hW:=r'.length;refine call_tuple_list pl.isList (λh' kp=>?_) (by simp only[Vd]<;>omega);have I1:Inv X U Y H {s with heap:=h' }:=I.kept (t':=s.toks) kp
  have I2:Inv X U Y (upd H h'.objs.size (.tup ys)) {s with heap:=h'.push {cls:=.type "tuple",data:=.seq hJ.toArray }} :=
   I1.laid (t':=s.toks) (λb o e=>yb _ e) (yh _) (show tF X.prog X.w _ _ _ (.tup ys) from⟨hz,hJ,r',IsTup.new _ _⟩)
  exact⟨.ref h'.objs.size,_,I2,rfl,q _ (I1.hok.fresh (yh _))⟩
 ·obtain⟨hJ,r',pl,hz⟩:=I.tuple hq;exact call_tuple_same pl ⟨.ref p,H,I,rfl,q⟩
def tyV(K:yw)(T:String)(x:V)(H:Hp):Prop:=match x with
 |.str _=>T="str"
 |.int _=>T="int"
 |.ref p=>(T="list"/\∃xs,SqL K H p xs)\/(T="tuple"/\∃o,K.lookup p=some o/\o.cls=.type "tuple"/\o.dict=none) \/
  (T="dict"/\((∃hG,H p=some (.dK hG))\/∃hG,H p=some (.dT hG)))\/(T="set"/\∃S n,H p=some (.set S n))
 |_=>False
def zzv{U:Qb}{Y:St}{H:Hp}{s:yc}{T:String}{x:V}{v:Value}(I:Inv X U Y H s)(r:RelV x v)(ty:tyV X.K T x H) :
 s.TypeIs v T/\∀a,v=.ref a->∃ob,s.heap.get? a=some ob/\ob.dict=none:=by
 cases x with
 |str z=>
  obtain⟨t,rfl⟩:=r;cases (show T="str" from ty);exact⟨typeIs_str s z t,λ_ e=>nomatch e⟩
 |int i=>
  obtain⟨t,rfl⟩:=r;cases (show T="int" from ty);exact⟨typeIs_int s i t,λ_ e=>nomatch e⟩
 |ref p=>
  cases r;rcases ty with ⟨rfl,xs,hq⟩|⟨rfl,o,hk,hc,hd⟩|⟨rfl,hk⟩|⟨rfl,S,n,hk⟩
  ·obtain⟨hJ,_,pl,_⟩:=I.list hq;refine⟨pl.isList.typeIs,λa e=>?_⟩;cases e;obtain⟨o,n,e,c,hd,_⟩:=pl;exact⟨o,e,hd⟩
  ·refine⟨⟨o,I.kIn p o hk,hc⟩,λa e=>?_⟩;cases e;exact⟨o,I.kIn _ o hk,hd⟩
  ·have z:∃o,s.heap.get? p=some o/\o.ExactDict:=by
    rcases hk with ⟨hG,hk⟩|⟨hG,hk⟩
    ·obtain⟨_,_,_,_,o,_,_,e,ex,_⟩:=I.hok p _ hk;exact⟨o,e,ex⟩
    ·obtain⟨_,_,_,_,o,_,_,e,ex,_⟩:=I.hok p _ hk;exact⟨o,e,ex⟩
   obtain⟨o,e,ex⟩:=z;refine⟨⟨o,e,ex.1⟩,λa e2=>?_⟩;cases e2;exact⟨o,e,ex.2.1⟩
  ·obtain⟨o,_,_,_,e,ex,_⟩:=I.hok p _ hk;refine⟨⟨o,e,ex.1⟩,λa e2=>?_⟩;cases e2;exact⟨o,e,ex.2.1⟩
 |_=>exact YD ty
def z4A(K:yw)(T:String)(r:V->Wi->Hp->VK->Prop)(to:TE):TE:=λY H Q=>to Y H λx H1=>tyV K T x H1/\r x [] H1 Q
def tBM(K:yw)(T:String)(r:V->Wi->Hp->VK->Prop)(to:TE)(t:TA):TE:=λY H Q=>to Y H λx H1=>tyV K T x H1/\t Y H1 λxs H2=>r x xs H2 Q
variable {o e:yE}{es:Qz}{to:TE}{t:TA}{name:yt}{kA cpos:xn}{T id:String}{r:V->Wi->Hp->VK->Prop}
def zWy(pa:PlainAttrs T)(slot:Slot T name id)(hty:typeOf (.builtin id)=pure (.type "method_descriptor"))(hm:MtR X id r)(ho:PE X o to)
 (kE:YB o name X.env (Yd o X.env)=Yd o X.env:=by rfl) (kB:(kA.endLine==cpos.line)=true:=by rfl):PE X (.Call (.Attribute o name kA) [] [] cpos) (z4A X.K T r to):=by
 intro U s Y H Q I h;refine wpAny_Call_method0_late kE kB (thn (ho U s Y H _ I h) λv s1 ⟨x,H1,I1,r1,ty,q1⟩=>?_);obtain⟨h1,h2⟩:=zzv I1 r1 ty;exact⟨T,id,pa,slot,hty,h1,h2,Calls.callWith_builtin rfl (PySem.evalArgs_none (hm U s1 Y H1 x [] v [] Q I1 r1 .nil q1))⟩
def zkz(pa:PlainAttrs T)(slot:Slot T name id)(hty:typeOf (.builtin id)=pure (.type "method_descriptor"))(hm:MtR X id r)(ho:PE X o to)(ha:PA X (e::es) t)
 (kE:YB o name X.env (Yd o X.env)=Yd o X.env:=by rfl)
 (kF:((Yl cpos (yj (e::es) X.env)).all (λx=>!x.1)&&(xP cpos (YT [] X.env)).all (λx=>x.1.isSome)
  && decide ((e::es).length+([]:List xN).length+(if([]:List xN).isEmpty then 0 else 1)<30))=true:=by rfl)
 (kB:(kA.endLine==cpos.line)=true:=by rfl) (hs:yj (e::es) X.env=(false,Yd e X.env)::yj es X.env:=by rfl) (kD:(Yl cpos (yj es X.env)).any (·.1)=false:=by rfl) :
 PE X (.Call (.Attribute o name kA) (e::es) [] cpos) (tBM X.K T r to t):=by
 intro U s Y H Q I h;refine wpAny_Call_method_late kE kF kB rfl (thn (ho U s Y H _ I h) λv s1 ⟨x,H1,I1,r1,ty,q1⟩=>?_);obtain⟨h1,h2⟩:=zzv I1 r1 ty;refine⟨T,id,pa,slot,hty,h1,h2,?_⟩;have hA:=ha cpos U s1 Y H1 _ I1 q1;rw[hs]at hA ⊢;refine Calls.callWith_builtin (by show(false||(Yl cpos (yj es X.env)).any (·.1))=false;rw[kD]<;>rfl) (Calls.evalArgs_plain ?_);exact thn hA λus s2 ⟨vs,H2,I2,r2,q2⟩=>hm U s2 Y H2 x vs v us Q I2 r1 r2 q2
end
def MtM(X:Cx)(id:String)(r:V->Wi->Hp->VK->Prop):Prop :=
 ∀(U:Qb) (s:yc) (Y:St) (H:Hp) (x:V) (xs:Wi) (v:Value) (us:Qh) (Q:VK),Inv X U Y H s->RelV x v->Vals xs us->r x xs H Q ->
  yo (yv X.prog X.w) X.A (call (.builtin id) (v::us)) (EP X U Y Q) X.xe s
def Vals.uncons{x:V}{xs:Wi}{us:Qh}(h:Vals (x::xs) us):∃u ws,us=u::ws/\RelV x u/\Vals xs ws:=by
 cases h with
 |cons r t=>exact⟨_,_,rfl,r,t⟩
def Vals.unnil{us:Qh}(h:Vals [] us):us=[]:=by
 cases h;rfl
def Vals.one{x:V}{us:Qh}(h:Vals [x] us):∃u,us=[u]/\RelV x u:=by
 obtain⟨u,ws,e,r,t⟩:=h.uncons;exact⟨u,by rw[e,t.unnil],r⟩
def Vals.zero:∀{us:Qh},Vals [] us->us=[]
 |_,.nil=>rfl
def Vals.dropLast{xs:Wi}{us:Qh}(h:Vals xs us):Vals xs.dropLast us.dropLast:=by
 induction h with
 |nil=>exact .nil
 |cons r t ih=>
  cases t with
  |nil=>exact .nil
  |cons q t'=>exact .cons r ih
def Vals.reverse{xs:Wi}{us:Qh}(h:Vals xs us):Vals xs.reverse us.reverse:=by
 induction h with
 |nil=>exact .nil
 |cons r t ih=>rw[List.reverse_cons,List.reverse_cons];exact Vals.append ih (.cons r .nil)
def Vals.rep{xs:Wi}{us:Qh}(h:Vals xs us):∀k:Nat,Vals (yD k xs).flatten (yD k us).flatten
 |0 =>.nil
 |k+1=>by
  rw[Vc,Vc,Lo,Lo];exact Vals.append h (Vals.rep h k)
def zln(hJ:Qh):∀(k:Nat)(hZ:Qh),
 List.foldl (λx1 x2=>x1++x2) hZ.toArray (yD k hJ.toArray)=(hZ++(yD k hJ).flatten).toArray
 |0,hZ=>by simp
 |k+1,hZ=>by
  have e:hZ.toArray++hJ.toArray=(hZ++hJ).toArray:=by simp
  have e2:(hZ++hJ)++(yD k hJ).flatten=hZ++(yD (k+1) hJ).flatten:=by
   rw[Vc,Lo,Le]
  rw[<-e2,<-zln hJ k (hZ++hJ),<-e,Vc,List.foldl_cons]
section
variable {X:Cx}{U:Qb}{Y:St}{H:Hp}{s:yc}{l b:yf}{xs ys zs:Wi}
def Inv.Sw{hJ hJ':Qh}{n:Nat}{f:Qm->Qm}{t':Nat}(I:Inv X U Y H s)(hH:H l=some (.lst xs))
 (e:s.heap.get? l=some {cls:=.type "list",data:=.seq hJ.toArray n }) (hf:f hJ.toArray=hJ'.toArray) (hv:Vals ys hJ') (hz:ys.length<=yF) :
 Inv X U Y (upd H l (.lst ys)) {s with heap:=s.heap.update l (xY f),toks:=t' }:=by
 have q:=PySem.IsL.update e f;rw[hf]at q;refine I.write (x:=l) (e:=l) (by rw[hH];exact trivial) (.inl rfl) (λb' u hb hu=>(Yh s.heap (xY f) (yR hb)).trans hu) ⟨_,q⟩ ?_;exact⟨hz,hJ',_,hv,q⟩
def Inv.lnew{hJ:Qh}{t':Nat}(I:Inv X U Y H s)(hv:Vals ys hJ)(hz:ys.length<=yF) :
 Inv X U Y (upd H s.heap.objs.size (.lst ys)) {s with heap:=s.heap.push {cls:=.type "list",data:=.seq hJ.toArray },toks:=t' } :=
 I.laid (λ_ _ q=>yb _ q) (yh _) ⟨hz,hJ,0,hv,yq _ rfl⟩
def Inv.fresh(I:Inv X U Y H s):H s.heap.objs.size=none:=I.hok.fresh (yh _)
def Inv.sE(I:Inv X U Y H s)(hH:H l=some (.lst xs)):xs.length<=yF/\∃(hJ:Qh)(n:Nat),Vals xs hJ/\xs.length=hJ.length/\s.heap.get? l=some {cls:=.type "list",data:=.seq hJ.toArray n }:=by
 obtain⟨z,hJ,n,r,e⟩:=I.hok l _ hH;exact⟨z,hJ,n,r,r.length,e⟩
def sA{n:Nat}(h:n<=yF):xg n=false:=by
 unfold xg;exact decide_eq_false (by omega)
def zPw:V->Wi->Hp->VK->Prop:=λx vs H Q=>∃l xs y,x=.ref l/\vs=[y]/\H l=some (.lst xs)/\xs.length<yF/\Q .non (upd H l (.lst (xs++[y])))
def zyr:MtM X "list.append" zPw:=by
 intro U s Y H x vs v us Q I rx rv h;obtain⟨l,xs,y,rfl,rfl,hH,hz,q⟩:=h;cases rx;obtain⟨u,rfl,ru⟩:=rv.one;obtain⟨z,hJ,n,r,hl,e⟩:=I.sE hH;refine Xr F.slot_list_append ⟨_,e,rfl⟩ F.entry_list_append (F.args_list_append_2 _ _) (PySem.list_append l hJ.toArray n u (by rw[Vd];omega)) ⟨e,?_⟩;refine⟨.non,_,I.Sw (hJ':=hJ++[u]) hH e (by simp) (r.append (.cons ru .nil)) ?_,rfl,q⟩;rw[Lr,Ly];omega
def zOw:V->Wi->Hp->VK->Prop:=λx vs H Q=>∃l b xs zs,x=.ref l/\vs=[.ref b]/\H l=some (.lst xs)/\H b=some (.lst zs)/\xs.length+zs.length<=yF/\Q .non (upd H l (.lst (xs++zs)))
def zas:MtM X "list.extend" zOw:=by
 intro U s Y H x vs v us Q I rx rv h;obtain⟨l,b,xs,zs,rfl,rfl,hH,hB,hz,q⟩:=h;cases rx;obtain⟨u,rfl,ru⟩:=rv.one;cases ru;obtain⟨z,hJ,n,r,hl,e⟩:=I.sE hH;obtain⟨z2,its2,n2,r2,hl2,e2⟩:=I.sE hB;have hsz:hJ.toArray.size+its2.toArray.size<=yF:=by rw[Vd,Vd];omega
 have hlong:¬(!hJ.toArray.isEmpty&&xg (hJ.toArray.size+its2.toArray.size))=true:=by
  rw[sA hsz,Bool.and_false];exact yA
 refine Xr F.slot_list_extend ⟨_,e,rfl⟩ F.entry_list_extend (F.args_list_extend_2 _ _)
  (AutoSeq1.list_extend_list_list_0 l hJ.toArray n b its2.toArray n2 hlong (by rw[Vd];omega) (by omega)) ⟨e,e2,?_⟩
 refine⟨.non,_,I.Sw (hJ':=hJ++its2) hH e (by simp) (r.append r2) ?_,rfl,q⟩;rw[Lr];omega
def zey:V->Wi->Hp->VK->Prop:=λx vs H Q=>∃l xs,x=.ref l/\vs=[]/\H l=some (.lst xs)/\Q .non (upd H l (.lst []))
def zSt:MtM X "list.clear" zey:=by
 intro U s Y H x vs v us Q I rx rv h;obtain⟨l,xs,rfl,rfl,hH,q⟩:=h;cases rx;have hus:=rv.zero;subst hus;obtain⟨z,hJ,n,r,hl,e⟩:=I.sE hH;refine Xr F.slot_list_clear ⟨_,e,rfl⟩ F.entry_list_clear (F.args_list_clear_1 _) (AutoSeq1.list_clear_list_0 l hJ.toArray n (by rw[Vd];omega)) ⟨e,?_⟩;exact⟨.non,_,I.Sw (hJ':=[]) (ys:=[]) hH e rfl .nil (Ys _),rfl,q⟩
def zPA:R2:=λx y H Q=>∃l b xs zs,x=.ref l/\y=.ref b/\H l=some (.lst xs)/\H b=some (.lst zs)/\xs.length+zs.length<=yF/\∀p,H p=none->Q (.ref p) (upd H p (.lst (xs++zs)))
def zay:OpR X (xw .Add) zPA:=by
 intro U s Y H x y v u Q I rx ry h;obtain⟨l,b,xs,zs,rfl,rfl,hH,hB,hz,q⟩:=h;cases rx;cases ry;obtain⟨z,hJ,n,r,hl,e⟩:=I.sE hH;obtain⟨z2,its2,n2,r2,hl2,e2⟩:=I.sE hB;refine PySem.P.add_list e e2 ?_ (by rw[Vd,Vd];omega);have ea:hJ.toArray++its2.toArray=(hJ++its2).toArray:=by simp
 rw[ea];exact⟨.ref _,_,I.lnew (t':=s.toks) (r.append r2) (by rw[Lr];omega),rfl,q _ I.fresh⟩
def zMA:R2:=λx y H Q=>∃l k xs,x=.ref l/\y=.int k/\H l=some (.lst xs)/\-(2^63)<=k/\k<2^63/\xs.length*k.toNat<=yF /\
 ∀p,H p=none->Q (.ref p) (upd H p (.lst (yD k.toNat xs).flatten))
def zAs{α:Type}(xs:List α)(k:Nat):(yD k xs).flatten.length=k*xs.length:=by
 induction k with
 |zero=>simp
 |succ k ih=>rw[Vc,Lo,Lr,ih,Nat.succ_mul,Nat.add_comm]
def zHy:OpR X (xw .Mult) zMA:=by
 intro U s Y H x y v u Q I rx ry h;obtain⟨l,k,xs,rfl,rfl,hH,h1,h2,hz,q⟩:=h;cases rx;obtain⟨t,rfl⟩:=ry;obtain⟨z,hJ,n,r,hl,e⟩:=I.sE hH;have hW:hJ.toArray.size*k.toNat<=yF:=by rw[Vd,<-hl];exact hz
 have hcap:¬hJ.toArray.size*k.toNat>(2^63-1) / 8:=by
  have:(yF:Nat)<=(2^63-1) / 8:=by decide
  omega
 have hfit:¬(!Builtin.List.listFitsIndex k)=true:=by
  rw[fitsIndex_both h1 h2];exact yA
 have hlong:¬xg (hJ.toArray.size*k.toNat)=true:=by
  rw[sA hW];exact yA
 have kO:List.foldl (λx1 x2=>x1++x2) #[] (yD (if hJ.toArray.isEmpty=true then 0 else k.toNat) hJ.toArray)=(yD k.toNat hJ).flatten.toArray:=by
  have f0:∀m:Nat,List.foldl (λx1 x2=>x1++x2) #[] (yD m hJ.toArray)=(yD m hJ).flatten.toArray:=λm=>by
   have:=zln hJ m [];rw[Nw]at this;exact this
  rw[f0]
  cases hJ with
  |nil=>simp
  |cons a r'=>rw[if_neg (by simp)]
 refine wpAny_binaryOp_repeat_ref (T:="list") (U:="int") (by decide) ⟨_,e,rfl⟩ (λs'=>typeIs_int s' k t) noFill_list_mul F.fills_int_mul F.slot_int_rmul repeat_list F.slot_int_index.lookup
  (Xr F.slot_int_rmul (typeIs_int s k t) F.entry_int_rmul (F.args_int_rmul_2 _ _) (int___rmul___int_list k t l hJ.toArray n)
   ⟨e,rfl,⟨_,e,rfl⟩,Xr F.slot_list_mul ⟨_,e,rfl⟩ F.entry_list_mul (F.args_list_mul_2 _ _) (AutoListH.list___mul___list_int_3 l hJ.toArray n k t hfit hcap hlong) ⟨e,?_⟩⟩)
 rw[kO];exact⟨.ref _,_,I.lnew (t':=s.toks) (r.rep k.toNat) (by rw[zAs,Nat.mul_comm];exact hz),rfl,q _ I.fresh⟩
variable {prog:yy}{w:yI}{A:yJ}{E:Value->yc->Prop}
end
end L2
namespace Att
open PySem PySem.W PySem.Calls PyProof.Rows
def zuk{P:Params}{h:yT}:∀(ns:Qg)(vs:Qh),WellAll P h vs (ns.map WData.int)->IntsAre vs ns:=by
 intro ns
 induction ns with
 |nil=>
  intro vs w;rw[Ni]at w;cases w;exact .nil
 |cons n ns ih=>
  intro vs w;rw[Ng]at w
  cases w with
  |cons a b=>
   cases a;exact .cons _ _ (ih _ b)
def zKr{l:OpenLaw}{n:Nat}(hn:l.most=some n){P:Params}{h:yT}{args:List WData}{vals:Qh}
 (hpre:l.row.toRowW.claim.pre args=true) (hwl:WellAll P h vals args) :
 ∃a vs ns,vals=[yH a]/\args=[WData.list (ns.map WData.int)]/\h.get? a=some {cls:=.type "list",data:=.seq vs.toArray }/\IntsAre vs ns/\ns.length<=n:=by
 have hsh:WShape.hasAll [] args [.list .int]=true:=(pre_splitW hpre).1;have hc:l.pre.holds [] {args:=args } = true:=(pre_splitW hpre).2;obtain⟨d,r,rfl,h1,h2⟩:=hasAllW_cons hsh;obtain rfl:=hasAllW_nil h2;obtain⟨xs,rfl,h3⟩:=hasW_list h1;obtain⟨ns,rfl⟩:=items_int h3
 have hW:ns.length<=n:=by
  unfold OpenLaw.pre at hc
  have h4:(WTm.not (.lt (.lit (.int (n:Int))) (.len (.arg 0)))).holds [] {args:=[.list (ns.map .int)]} = true:=by
   have h4:=(holds_andW hc).1;rw[hn]at h4;exact h4
  have h5:=condW_of h4 (w_not (w_lt w_lit (w_len_list (w_arg rfl))));rw[Lv]at h5;refine Nat.le_of_not_lt λq=>?_;have q':(n:Int)<((ns.length:Nat):Int):=by omega
  first
   |(rw[decide_eq_true q']at h5;exact absurd h5 (by decide))
   |(simp at h5;omega)
 cases hwl with
 |cons w1 w2=>
  cases w2
  cases w1 with
  |list ho hall=>exact⟨_,_,ns,rfl,rfl,ho,zuk ns _ hall,hW⟩
def zps(l:OpenLaw)(args:List WData):l.row.toRowW.claim.post args (.bool true) args=true :=
 postW_of (r:=l.row.toRowW) (X:=(true==true))
  (show WShape.has [] (.bool true) .bool=true by first|rfl|decide|simp[WShape.has,WShape.arms,WShape.armsAll])
  (show(WTm.eq .res (.lit (.bool true))).value [] {args:=args,res:=some (.bool true),after:=args } = some (.bool (true==true)) from w_eq_bool (w_res rfl) w_lit) rfl
def sS{l:OpenLaw}{n:Nat}{q:yy}{loose:Qx}{XP:(yt->Qi)->yT->Prop}{YP:yI->yT->Prop}{d:DefRec}
 (hn:l.most=some n) (hdf:d.params.defaults=[])
 (call:∀(w:yI)(s₀ s₁:yc)(mg mb:yt->Qi)(fa:yf)(o:YS)(pm cd doc:Value)(a:yf)(vs:Qh)(ns:Qg),
  Ground q loose [] XP w s₀ mg mb s₁.heap->YP w s₁.heap ->
  s₁.heap.get? fa=some o->o.data=.func (docDef d.name d.params d.body d.scope pm cd doc)->s₁.heap.CodeRec cd d.name->mg d.name=some (.ref fa) ->
  s₁.heap.get? a=some {cls:=.type "list",data:=.seq vs.toArray }->IntsAre vs ns->ns.length<=n->s₁.gens = #[] ->
  xM (yv l.prog w) callerA (.call (.ref fa) ⟨[.ref a],[]⟩) (λr s'=>r=.ok (.ret (.bool true))/\OldK s₁.heap s'.heap/\s'.os=s₁.os/\AllBare s'.gens) s₁) :
 WalkO q loose XP YP l.row.toRowW d [] (λf vs=>PySem.call f vs):=by
 intro w s₀ s₁ mg mb φ σ fa o pm cd doc dV kV ho hd hcd hD hmg hg args vals as hpre hlay hrd hwl hlo;obtain rfl:dV=.none:=Dflts.none hD hdf;obtain rfl:kV=.none:=Dflts.noKw hD;obtain⟨a,vs,ns,rfl,rfl,hobj,hints,hW⟩:=zKr hn hpre hwl;refine enter_call (YI (call w s₀ s₁ mg mb fa o pm cd doc a vs ns φ σ ho (fd_plain hd) hcd hmg hobj hints hW hg) λr s' hq=>?_);obtain⟨rfl,h2,h3,h4⟩:=hq;exact⟨.inl ⟨.bool true,.bool true,[],rfl,λ_=>rfl,.bool true,zps l _,λ_=>⟨List.Pairwise.nil,λ_ hm=>(nomatch hm)⟩⟩,h2,h3,h4⟩
section
variable {prog:yy}{w:yI}{A:yJ}{E:Value->yc->Prop}{s:yc}{K:Frag}
end
end Att
namespace L2
open PySem PySem.Spec PyProof.Rows
def z8n:∀{vs:Qh} {ns:Qg},IntsAre vs ns->Vals (ns.map V.int) vs
 |_,_,.nil =>.nil
 |_,_,.cons n t h =>.cons ⟨t,rfl⟩ (z8n h)
def zpz(H:Hp):Prop:=∀b,H b=none\/∃o xs,H b=some (.frz o (.lst xs))
def ziv{P:yy}{w:yI}{K:yw}{mg mb:yt->Qi}{CX:CXT}{k:Nat}{fa a:yf}{fd:yV}{x:yt}{sp:Sp}{s₁:yc}{vs:Qh}{ns:Qg}
 (KX:K.In s₁.heap) (hns:s₁.heap.Ns yp mg) (hb:s₁.heap.Ns builtinsNs mb) (hbb:∀x:yt,x≠"__name__"->mb x=yM x) (hlim:s₁.heap.NoLimit) (hg:s₁.gens = #[])
 (ha:s₁.heap.get? a=some {cls:=.type "list",data:=.seq vs.toArray }) (hi:IntsAre vs ns) (hl:ns.length<=yF) (hr:tQ k callerA)
 (F:∀base:yT,K.In base->base.Ns yp mg->Te P w K mg base CX k fa fd [x] sp) (hbind:∀(s:yc)(u:Value),BindsTo s fd ⟨[u],[]⟩ [(x,u)])
 (hsp:∀H:Hp,zpz H->SqL K H a (ns.map V.int)->sp [.ref a] H (λv _=>v=.bl true) λ_ _ _=>False)
 (hCX:∀H e s',CX [] H s₁ (λ_ _ _=>False) e s'->False) :
 xM (yv P w) callerA (.call (.ref fa) ⟨[.ref a],[]⟩) (λr s'=>r=.ok (.ret (.bool true))/\OldK s₁.heap s'.heap/\s'.os=s₁.os/\AllBare s'.gens) s₁:=by
 have rv:=z8n hi;have lenV:=hi.length
 have core:∀H:Hp,zpz H->SqL K H a (ns.map V.int)->HOk P w H s₁.heap->(∀b,H b≠none->b=a)->(H a≠none->K.lookup a=none) ->
  xM (yv P w) callerA (.call (.ref fa) ⟨[.ref a],[]⟩) (λr s'=>r=.ok (.ret (.bool true))/\OldK s₁.heap s'.heap/\s'.os=s₁.os/\AllBare s'.gens) s₁:=by
  intro H hO hS hok hA hK;have base_of:∀{b:yf} {o:YS},s₁.heap.get? b=some o->H b=none->(zJu s₁.heap H).get? b=some o:=λe n=>zfv e n
  have noA:∀{b:yf} {o:YS} {es:Array DictEntry} {ep:Nat},s₁.heap.get? b=some o->o.data=.dict es ep->H b=none:=λ{b o es ep} e d=>by
   cases q:H b with
   |none=>rfl
   |some u=>
    have e':b=a:=hA b (by rw[q];simp);subst e';rw[ha]at e;cases e;have d':Data.seq vs.toArray _=Data.dict es ep:=d;cases d'
  have nsK:∀{b:yf} {m:yt->Qi},s₁.heap.Ns b m->(zJu s₁.heap H).Ns b m:=λ{b m} ⟨o,es,ep,e,d,r⟩=>⟨o,es,ep,base_of e (noA e d),d,r⟩
  have hKb:K.In (zJu s₁.heap H):=λb o e=>base_of (KX b o e) (by
   cases q:H b with
   |none=>rfl
   |some u=>
    have e':b=a:=hA b (by rw[q];simp);subst e';rw[hK (by rw[q];simp)]at e;cases e)
  have hM:Mod K mg (zJu s₁.heap H):=⟨hKb,nsK hns,⟨mb,nsK hb,hbb⟩,let ⟨mc,h1,h2⟩:=hlim;⟨mc,nsK h1,h2⟩⟩
  have e0:sZ P w K mg (zJu s₁.heap H) callerA [] s₁ H:=⟨rfl,hM,λb o e=>zjw e,Nat.le_of_eq (zvt _ _),trivial,λb hb=>absurd (show b∈([]:Qv) from hb) (by simp),hok,.of_eq hg⟩
  refine YI ((F _ hKb (nsK hns)).run callerA [] s₁ H ⟨[.ref a],[]⟩ [.ref a] [.ref a] _ _ hr e0 (hbind s₁ (.ref a)) (.cons rfl .nil) (hsp H hO hS)) λr s' h=>?_
  cases r with
  |error e=>exact(hCX H e s' h).elim
  |ok fl=>
   cases fl with
   |next=>exact YD h
   |brk=>exact YD h
   |cont=>exact YD h
   |ret u=>
    obtain⟨v,H',os,bare,un,hok',r',q⟩:=h;have q':v=.bl true:=q;subst q';obtain rfl:u=Value.bool true:=r';refine⟨rfl,OldK.of_keep λb o e=>?_,os,bare⟩
    cases q:H b with
    |none=>exact un.keep b o e q (by intro z;exact absurd (show b∈([]:Qv) from z) (by simp)) (by simp)
    |some u=>
     rcases hO b with z|⟨ob,xs,z⟩
     ·rw[q]at z;cases z
     ·have z2:=un.Tx b ob _ z;obtain⟨e1,_⟩:=hok b _ z;obtain⟨e2,_⟩:=hok' b _ z2;rw[e]at e1;cases e1;exact e2
 cases hk:K.lookup a with
 |some o=>
  have e:=KX a o hk;rw[ha]at e;cases e;refine core (λ_=>none) (λ_ =>.inl rfl) (.inr ⟨_,vs.toArray,_,hk,rfl,rfl,rfl,by rw[Vd,lenV];exact hl,by simpa using rv⟩) (λb u z=>by have z':(none:Option HO)=some u:=z;cases z') (λb z=>absurd rfl z) λz=>absurd rfl z
 |none=>
  refine core (λb=>if b=a then some (.frz {cls:=.type "list",data:=.seq vs.toArray } (.lst (ns.map V.int))) else none) (λb=>?_) (.inl (.inr ⟨{cls:=.type "list",data:=.seq vs.toArray },if_pos rfl⟩)) (λb u z=>?_) (λb z=>?_) λ_=>hk
  ·by_cases hb:b=a
   ·exact .inr ⟨_,_,if_pos hb⟩
   ·exact .inl (if_neg hb)
  ·by_cases hb:b=a
   ·have z':=(if_pos hb).symm.trans z;cases z';subst hb;exact⟨ha,by rw[Lv];exact hl,vs,_,rv,ha⟩
   ·have z':=(if_neg hb).symm.trans z;cases z'
  ·by_cases hb:b=a
   ·exact hb
   ·exact absurd (if_neg hb) z
def walk_of{l:W.OpenLaw}{n k:Nat}{q:yy}{loose:Qx}{XP:(yt->Qi)->yT->Prop}{YP:yI->yT->Prop}{d:DefRec}{K:Params->yw}{CX:yI->CXT}{sp:yI->Sp}{x:yt}
 (hn:l.most=some n) (hn2:n<=yF) (hdf:d.params.defaults=[]) (hr:tQ k callerA)
 (hY:∀(w:yI)(h:yT),YP w h->(K w.params).In h)
 (F:∀(w:yI)(mg:yt->Qi)(fa:yf)(h:yT),(K w.params).In h->h.Ns yp mg->mg d.name=some (.ref fa) ->
  ∃fd:yV,(∀(s:yc)(u:Value),BindsTo s fd ⟨[u],[]⟩ [(x,u)]) /\
   ∀base:yT,(K w.params).In base->base.Ns yp mg->Te l.prog w (K w.params) mg base (CX w) k fa fd [x] (sp w))
 (hsp:∀(w:yI)(H:Hp)(a:yf)(ns:Qg),ns.length<=n->zpz H->SqL (K w.params) H a (ns.map V.int)->sp w [.ref a] H (λv _=>v=.bl true) λ_ _ _=>False)
 (hCX:∀(w:yI)(H:Hp)(s:yc)(e:Value)(s':yc),CX w [] H s (λ_ _ _=>False) e s'->False) :
 W.WalkO q loose XP YP l.row.toRowW d [] (λf vs=>PySem.call f vs):=by
 refine Att.sS hn hdf λw s₀ s₁ mg mb fa o pm cd doc a vs ns φ σ ho hd hcd hmg hobj hints hW hg=>?_;have KX:=hY w _ σ;obtain⟨fd,hb,hF⟩:=F w mg fa _ KX φ.T.g hmg;exact ziv KX φ.T.g φ.T.b φ.T.builtins φ.T.nolimit hg hobj hints (yG hW hn2) hr hF hb (λH hO hS=>hsp w H a ns hW hO hS) λH e s'=>hCX w H s₁ e s'
def zJe(s:Yb)(j:Nat):Yb:=match s with
 |.ClassDef _ _ _ body _ _ _ _ _ _ _=>body.getD j (.Pass ⟨0,0,0,0⟩)
 |_ =>.Pass ⟨0,0,0,0⟩
def zyd(s:Yb):Arguments:=match s with
 |.FunctionDef _ a _ _ _ _ _ _ _ _=>a
 |_=>{posonlyargs:=[],args:=[],vararg:=none,kwonlyargs:=[],kw_defaults:=[],kwarg:=none,defaults:=[]}
def zdc(s:Yb):We:=match s with
 |.FunctionDef _ _ b _ _ _ _ _ _ _=>b
 |_=>[]
def zp(s:Yb):xS:=match s with
 |.FunctionDef _ _ _ _ _ _ sc _ _ _=>sc
 |_=>{kind:=.function,names:=[],isGenerator:=false,isCoroutine:=false }
abbrev CX0:CXT:=λ_ _ _ _ _ _=>False
abbrev E0:XK:=λ_ _ _=>False
def Sg{X:Cx}:zei CX0 X E0:=λ_ _ _ _ _ _ _ h=>h.elim
structure Fun(K:yw)(x qual:yt)(st:Yb)(f:yf)(fd:yV):Prop where
 ex:∃(oc:Value)(od:Qw)(kV doc pm:Value)(an:Qw)(cdv ct:Value)(osl:Array (Qi)),
  fd=W.fnOf x qual (zyd st) (zdc st) (zp st) .none kV doc pm an cdv ct/\K.lookup f=some ⟨oc,od,.func fd,osl⟩/\W.codeIn K cdv qual=true
 kp:W.keepIn K (.ref f)=true
section
variable {P:yy}{w:yI}{K:yw}{mg:yt->Qi}{base:yT}
def Fun.ok{x qual:yt}{st:Yb}{f:yf}{fd:yV}{N ps:Qx}{k:Nat}{sp:Sp}(F:Fun K x qual st f fd)(S:tq N ps (zp st))(len:∀vs H Q E,sp vs H Q E->vs.length=ps.length)
 (hbody:∀(cdv:Value)(A:yJ)(outer:Qp)(s:yc)(H:Hp)(vs:Wi)(Q:VK)(E:XK),tQ k (A.deeper (envOfC qual (zp st) s.heap.objs.size f cdv))->sp vs H Q E ->
  ∃t,PSs (zUq CX0 P w K mg base N qual (zp st) f cdv A outer s H E).nox (zdc st) t/\t {nx:=λ_ H'=>Q .non H',rt:=Q } (start N vs) H):Te P w K mg base CX0 (k+1) f fd ps sp:=by
 obtain⟨oc,od,kV,doc,pm,an,cdv,ct,osl,rfl,lk,hcd⟩:=F.ex;refine z1y lk hcd S len λA outer s H vs Q E hr hsp=>?_;obtain⟨t,h,q⟩:=hbody cdv A outer s H vs Q E hr hsp;exact⟨t,h.nox,q⟩
def Fun.binds{x qual:yt}{st:Yb}{f:yf}{fd:yV}{ps:Qx}(F:Fun K x qual st f fd)
 (h:∀(kV doc pm:Value)(an:Qw)(cdv ct:Value)(us:Qh),us.length=ps.length->bindArgs (W.fnOf x qual (zyd st) (zdc st) (zp st) .none kV doc pm an cdv ct) ⟨us,[]⟩=pure (ps.zip us)):Binds K fd ps []:=by
 obtain⟨oc,od,kV,doc,pm,an,cdv,ct,osl,rfl,lk,hcd⟩:=F.ex;exact .all (h kV doc pm an cdv ct)
def zue{x qual:yt}{st:Yb}{f:yf}{oc:Value}{od an:Qw}{osl:Array (Qi)}{kV doc pm cdv ct:Value}(l:K.lookup f=some ⟨oc,od,.func (W.fnOf x qual (zyd st) (zdc st) (zp st) .none kV doc pm an cdv ct),osl⟩)
 (c:W.codeIn K cdv qual=true) (k:W.keepIn K (.ref f)=true):Fun K x qual st f (W.fnOf x qual (zyd st) (zdc st) (zp st) .none kV doc pm an cdv ct):=⟨⟨oc,od,kV,doc,pm,an,cdv,ct,osl,rfl,l,c⟩,k⟩
end
def sr{n:Nat}(h:n<=1000):n<yF:=Nat.lt_of_le_of_lt h (by decide)
section
variable {X:Cx}
def pv(i:Nat){x:yt}{pos:xn}(hN:X.N[i]?=some x:=by rfl)(hv:Vis X.env.scope x:=by first|exact Or.inl rfl|exact Or.inr (Or.inl rfl)|exact Or.inr (Or.inr rfl))(hd:(x==("__debug__":yt))=false:=by decide)
 (hcd:(x==("__classdict__":yt))=false:=by decide):PE X (.Name x pos) (zhA i):=ztv hN hv hd hcd
end
def So{A B:Prop}(h:B):if false=true then A else B:=by
 rw[if_neg yA];exact h
def Sq{A B:Prop}(h:A):if true=true then A else B:=by
 rw[if_pos rfl];exact h
def zcl(f:Qm->Qm)(o:YS):(xh f o).dict=o.dict:=by
 unfold xh
 split<;>rfl
def Trc(B h:yT)(e:yf)(x:Value):Prop:=x=.none\/∃T oT ts y,x=.ref T/\B.get? T=none/\T≠e/\h.get? T=some oT/\oT.data=.fields ts/\ts[3]?=some y
structure Fly(B:yT)(l:Qp)(e:yf)(cls:Value)(dx:Qw)(h:yT):Prop where
 st:B.StaysIn h
 new:B.get? e=none
 ff:h.FunFrames B l
 ob:∃oe vs x,h.get? e=some oe/\oe.cls=cls/\oe.dict=dx/\oe.data=.fields vs/\vs[1]?=some x/\Trc B h e x
section
variable {M:Model}{A:yJ}{E:Value->yc->Prop}{s:yc}{B:yT}{l outer:Qp}{env:Env}{e L:yf}{cls:Value}{dx:Qw}{Q:Unit->yc->Prop}
def Fly.recW{h:yT}{T:yf}{oT:YS}{ts:Qm}(F:Fly B l e cls dx h)(hb:B.get? T=none)(hT:h.get? T=some oT)(hd:oT.data=.fields ts)(g:Qm->Qm)
 (hob:∃oe vs x,(h.update T (xh g)).get? e=some oe/\oe.cls=cls/\oe.dict=dx/\oe.data=.fields vs/\vs[1]?=some x/\Trc B (h.update T (xh g)) e x) :
 Fly B l e cls dx (h.update T (xh g))/\h.UpToSlots (h.update T (xh g)):=by
 have other:∀b,b≠T->(h.update T (xh g)).get? b=h.get? b:=λb hb=>Yh _ _ (yR hb)
 have noR:∀b o,h.get? b=some o->(∀vs,o.data≠.fields vs)->b≠T:=λb o q hn z=>by
  rw[z,hT]at q;cases q;exact hn ts hd
 exact⟨⟨λb o q=>(other b λz=>by rw[z,hb]at q;cases q).trans (F.st b o q),F.new,F.ff.of_keeps λb o q hn=>⟨o,(other b (noR b o q hn)).trans q,rfl⟩,hob⟩,λb o q hn=>⟨o.slots,(other b (noR b o q hn)).trans q⟩⟩
def zrf(F:Fly B l e cls dx s.heap)(h:∀h',Fly B l e cls dx h'->s.heap.UpToSlots h'->Q () {s with heap:=h' }):yo M A (setFlight (.ref e) none) Q E s:=by
 obtain⟨oe,vs,x,he,hc,hx,hd,h1,tr⟩:=F.ob;unfold setFlight;refine ya (YK he hd h1 ?_);rcases tr with rfl|⟨T,oT,ts,y,rfl,hb,kL,hT,hdT,h3⟩
 ·rw[if_neg (by decide)];exact ye (h _ F (.refl _))
 ·rw[if_pos (show(yH T != Yp)=true from by simp)];have h3':=(Array.getElem?_eq_some_iff.mp h3).1;refine YY hT hdT h3' ?_
  obtain⟨F',u⟩:=F.recW hb hT hdT (·.setIfInBounds 3 ((none:Qw).elim Yp λf=>YJ f))
   ⟨oe,vs,_,(Yh _ _ kL).trans he,hc,hx,hd,h1,.inr ⟨T,_,_,.none,rfl,hb,kL,yO _ hT (YG (yZ hdT _)),yZ hdT _,by simp[h3']⟩⟩
  exact h _ F' u
def zjs{head:Value}{hadNext:Bool}(kP:A.frames=some (env::outer))(hf:env.frame=some L)(F:Fly B (env::outer) e cls dx s.heap)(h:∀h',Fly B (env::outer) e cls dx h'->s.heap.UpToSlots h'->Q () {s with heap:=h' }) :
 yo M A (do let a <-frameOf env;let pl <-entryPlaceOf L hadNext;let b <-EntryCells.newEntry head a .none (YJ L) .none pl;setField (.ref e) 1 b) Q E s:=by
 obtain⟨oe,vs,x,he,hc,hx,hd,h1,tr⟩:=F.ob;have hl:=F.ff
 have hene:e∉(env::outer).filterMap (·.frame):=λhm=>by
  obtain⟨_,o,ho,hnf⟩:=hl.mem hm;rw[he]at ho;cases ho;exact hnf vs hd
 refine ya (wpAny_frameOf_fun kP hl hf λh₁ hs=>?_);refine ya (wpAny_entryPlaceOf λpl kK=>?_);unfold EntryCells.newEntry newFields;refine ya (yY ?_ (kK.sizeOk5 _ _ _ _ _));generalize hts:([head,yH L,Yp,YJ L,Yp]++(if pl.isEmpty=true then yD 6 Yp else pl))=ts;have hts3:ts.toArray[3]?=some (YJ L):=by rw[<-hts];simp
 have he₁:h₁.get? e=some oe:=(hs.2.1 e hene).trans he;have hn:h₁.objs.size≠e:=yX (yn he₁);have kb:B.StaysIn h₁:=λb o q=>(hs.2.1 b λhm=>by rw[(hl.mem hm).1]at q;cases q).trans (F.st b o q);have he₂:=yb (h:=h₁) {cls:=.type "traceback",dict:=none,data:=.fields ts.toArray } he₁;refine YY he₂ hd (Array.getElem?_eq_some_iff.mp h1).1 (h _ ?_ ?_)
 all_goals
  have keep:∀b o,b≠e->h₁.get? b=some o->((h₁.push {cls:=.type "traceback",dict:=none,data:=.fields ts.toArray }).update e (xh (·.setIfInBounds 1 (yH h₁.objs.size)))).get? b=some o:=λb o hbe hb=>by
   rw[Yh _ _ (yR hbe)];exact yb _ hb
  have noR:∀b o,s.heap.get? b=some o->(∀vs,o.data≠.fields vs)->b≠e:=λb o q hn z=>by
   rw[z,he]at q;cases q;exact hn vs hd
 ·refine⟨λb o q=>keep b o (λz=>by rw[z,F.new]at q;cases q) (kb b o q),F.new,hl.of_keeps λb o q hn=>?_,?_⟩
  ·obtain⟨sl,z⟩:=hs.2.2 b o q;exact⟨_,keep b _ (noR b o q hn) z,rfl⟩
  ·have hd₃:=yZ hd (·.setIfInBounds 1 (yH h₁.objs.size));refine⟨_,_,_,yO _ he₂ (YG hd₃),(Xm _ _).trans hc,(zcl _ _).trans hx,hd₃,by simp[(Array.getElem?_eq_some_iff.mp h1).1],.inr ⟨h₁.objs.size,{cls:=.type "traceback",dict:=none,data:=.fields ts.toArray },ts.toArray,YJ L,rfl,kb.fresh,hn,?_,rfl,hts3⟩⟩;exact(Yh _ _ (yR hn)).trans (yq h₁ rfl)
 ·intro b o q hn;obtain⟨sl,z⟩:=hs.2.2 b o q;exact⟨sl,keep b _ (noR b o q hn) z⟩
def zWj(kP:A.frames=some (env::outer))(hf:env.frame=some L)(F:Fly B (env::outer) e cls dx s.heap)(h:∀h',Fly B (env::outer) e cls dx h'->s.heap.UpToSlots h'->Q () {s with heap:=h' }) :
 yo M A (noteFrame (.ref e) env) Q E s:=by
 obtain⟨oe,vs,x,he,hc,hx,hd,h1,tr⟩:=F.ob;unfold noteFrame;simp only[hf];refine ya (YK he hd h1 ?_);rcases tr with rfl|⟨T,oT,ts,y,rfl,hb,kL,hT,hdT,h3⟩
 ·rw[if_neg (by decide)];exact zjs kP hf F h
 ·rw[if_pos (show(yH T != Yp)=true from by simp)];refine ya (YK hT hdT h3 ?_)
  by_cases hy:(y==YJ L)=true
  ·rw[if_pos hy];exact ye (h _ F (.refl _))
  ·rw[if_neg hy];have h3':=(Array.getElem?_eq_some_iff.mp h3).1;refine ya (YY hT hdT h3' ?_)
   obtain⟨F',u⟩:=F.recW hb hT hdT (·.setIfInBounds 3 Yp)
    ⟨oe,vs,_,(Yh _ _ kL).trans he,hc,hx,hd,h1,.inr ⟨T,_,_,.none,rfl,hb,kL,yO _ hT (YG (yZ hdT _)),yZ hdT _,by simp[h3']⟩⟩
   exact zjs kP hf F' λh' F'' u'=>h h' F'' (u.trans u')
def z0r(kP:A.frames=some (env::outer))(hf:env.frame=some L)(F:Fly B (env::outer) e cls dx s.heap)(h:∀h',Fly B outer e cls dx h'->s.heap.UpToSlots h'->Q () {s with heap:=h' }) :
 yo M A (leaving env (.ref e)) Q E s:=by
 unfold leaving;refine ya (zWj kP hf F λh1 F1 u1=>?_);refine zrf (s:={s with heap:=h1 }) F1 λh2 F2 u2=>?_;exact h h2 ⟨F2.st,F2.new,F2.ff.2.2,F2.ob⟩ (u1.trans u2)
end
def tF.there{P:yy}{w:yI}{H:Hp}{h:yT}{a:yf}{o:HO}(x:tF P w H h a o):∃u,h.get? a=some u:=by
 cases o with
 |lst xs=>obtain⟨_,_,_,_,e⟩:=x;exact⟨_,e⟩
 |tup xs=>obtain⟨_,_,_,o,e,_⟩:=x;exact⟨_,e⟩
 |dK hG=>obtain⟨_,_,_,_,o,_,_,e,_⟩:=x;exact⟨_,e⟩
 |dT hG=>obtain⟨_,_,_,_,o,_,_,e,_⟩:=x;exact⟨_,e⟩
 |set S n=>obtain⟨o,_,_,_,e,_⟩:=x;exact⟨_,e⟩
 |ins C dx fs=>obtain⟨_,_,_,e,_⟩:=x;exact⟨_,e⟩
 |own y=>obtain⟨_,e⟩:=x;exact⟨_,e⟩
 |xd fs=>obtain⟨_,⟨_,_,_,e,_⟩,_⟩:=x;exact⟨_,e⟩
 |rng lo hi=>obtain⟨_,_,_,e⟩:=x;exact⟨_,e⟩
 |frz ob u=>obtain⟨e,_⟩:=x;exact⟨_,e⟩
 |tbl ps=>exact⟨_,(show h.get? a=some _ from x)⟩
 |met f y=>exact⟨_,(show h.get? a=some _ from x)⟩
 |ext G=>obtain⟨_,⟨_,e⟩,_⟩:=x;exact⟨_,e⟩
structure Cov(outer:Qp)(H':Hp)(h B:yT):Prop where
 tr:∀b o,H' b=some o->∃u,B.get? b=some u
 old:∀b o,h.get? b=some o->b∉frs outer->∃u,B.get? b=some u
structure sM(P:yy)(w:yI)(outer:Qp)(H:Hp)(s:yc)(C:Value)(dx:Qw)(H':Hp)(e:Value)(s':yc):Prop where
 os:s'.os=s.os
 bare:AllBare s'.gens
 un:Un (frs outer) [] H H' s.heap s'.heap
 hok:HOk P w H' s'.heap
 fly:∃a B,e=.ref a/\Fly B outer a C dx s'.heap/\Cov outer H' s.heap B
def CXq(P:yy)(w:yI):CXT:=λouter H s E e s'=>∃C dx H',sM P w outer H s C dx H' e s'/\E C dx H'
section
variable {P:yy}{w:yI}{outer:Qp}{H H':Hp}{h0 h h' B base:yT}
def z9o(u:Un (frs outer) [] H H' h0 h)(c:Cov outer H' h0 B)(st:B.StaysIn h)(st':B.StaysIn h')(sm:h.UpToSlots h')(ff:h0.FunFrames base outer)(frf:∀b∈frs outer,H b=none):Un (frs outer) [] H H' h0 h' where
 keep:=λb o q n hb hx=>by
  obtain⟨v,hv⟩:=c.old b o q hb;have e1:=u.keep b o q n hb hx;have e2:=st b v hv;rw[e1]at e2;cases e2;exact st' b o hv
 slot:=λb o q n hb hx=>by
  obtain⟨sl,e1⟩:=u.slot b o q n hb hx;obtain⟨_,o',ho',hd⟩:=ff.mem hb;rw[q]at ho';cases ho';obtain⟨sl',e2⟩:=sm b _ e1 hd;exact⟨sl',e2⟩
 free:=u.free
 there:=λb o q hx=>by
  by_cases hb:b∈frs outer
  ·obtain⟨sl,e1⟩:=u.slot b o q (frf b hb) hb hx;obtain⟨_,o',ho',hd⟩:=ff.mem hb;rw[q]at ho';cases ho';obtain⟨sl',e2⟩:=sm b _ e1 hd;exact⟨_,e2⟩
  ·obtain⟨v,hv⟩:=c.old b o q hb;exact⟨v,st' b v hv⟩
 tups:=u.tups
 Tx:=u.Tx
 TJ:=u.TJ
def zim(x:HOk P w H' h)(c:Cov outer H' h0 B)(st:B.StaysIn h)(st':B.StaysIn h'):HOk P w H' h':=λa o e=>by
 refine(x a o e).stay (λb u hb q=>?_) (λ_ q=>q) λ_ _ q=>q
 have hb:∃o',H' b=some o':=by
  rcases hb with rfl|hb
  ·exact⟨_,e⟩
  ·exact⟨_,hb⟩
 obtain⟨o',hb⟩:=hb;obtain⟨v,hv⟩:=c.tr b o' hb;have e2:=st b v hv;rw[q]at e2;cases e2;exact st' b u hv
variable {X:Cx}{U:Qb}{Y:St}{s s':yc}{C:Value}{a:yf}{dx:Qw}
def Inv.fly{B h':yT}(I:Inv X U Y H s)(F:sM X.prog X.w X.stack H s C dx H' (.ref a) s')(c:Cov X.stack H' s.heap B)(st:B.StaysIn s'.heap)(st':B.StaysIn h')(sm:s'.heap.UpToSlots h'){t':Nat}{d':Drawn} :
 Inv X U Y H' {s' with heap:=h',toks:=t',drawn:=d' } :=
 I.Sf F.os (z9o F.un c st st' sm I.stack I.TK) (zim F.hok c st st') F.bare λb z=>absurd z (by simp)
def Inv.madeX{h':yT}{vs:Qh}(I:Inv X U Y H s)(hm:Heap.MadeExcOf s.heap h' a C vs):sM X.prog X.w X.stack H s C none H (.ref a) {s with heap:=h' }:=by
 have hin:∀env∈X.stack,∀b,env.frame=some b->b∈frs X.stack:=λenv he b hb=>List.mem_filterMap.mpr ⟨env,he,hb⟩;obtain⟨t,he,_,_⟩:=hm.there
 have hn:(W.hideAll s.heap (frs X.stack)).get? a=none:=by
  cases q:(W.hideAll s.heap (frs X.stack)).get? a with
  |none=>rfl
  |some o=>have:=W.of_hideAll _ q;rw[hm.new]at this;cases this
 refine⟨rfl,I.bare,Un.kept hm.keeps,I.hok.kept hm.keeps,a,W.hideAll s.heap (frs X.stack),rfl,⟨λb o q=>hm.keeps b o (W.of_hideAll _ q),hn,?_,⟨_,_,_,he,rfl,rfl,rfl,rfl,.inl rfl⟩⟩,?_⟩
 ·exact(W.funFrames_hide I.stack hin).of_keeps λb o hb _=>⟨o,hm.keeps b o hb,rfl⟩
 ·exact⟨λb o q=>by
   obtain⟨u,hu⟩:=(I.hok b o q).there;exact⟨u,W.hideAll_get _ hu λhm=>by rw[I.TK b hm]at q;cases q⟩,λb o q hb=>⟨o,W.hideAll_get _ q hb⟩⟩
end
def zCm(X:Cx)(C:Value)(dx:Qw)(H':Hp):Prop:=∀U Y H s e s',Inv X U Y H s->sM X.prog X.w X.stack H s C dx H' e s'->X.xe e s'
section
variable {P:yy}{w:yI}{K:yw}{mg:yt->Qi}{base:yT}{N:Qx}{qual:yt}{scope:xS}{f:yf}{cd:Value}{A:yJ}{outer:Qp}{s:yc}{H H':Hp}{E:XK}{C:Value}{dx:Qw}
def zuw{X:Cx}{U:Qb}{Y:St}{H1:Hp}{s1:yc}{B:yT}(I:Inv X U Y H1 s1)(hs:X.stack=X.env::X.outer)(hf:X.env.frame=some X.env.locals)(hex:X.ex=[])(c:Cov X.stack H' s1.heap B):Cov X.outer H' X.s₀.heap B where
 tr:=c.tr
 old:=λb o q hb=>by
  obtain⟨o1,e1⟩:=I.base.there b o q (by rw[hex];simp);refine c.old b o1 e1 ?_;rw[hs];unfold frs;rw[Lk,hf];intro hm;rcases List.mem_cons.mp hm with rfl|hm
  ·exact absurd (yz (yn q) I.ok.above) (yW _)
  ·exact hb hm
def zDq(hE:E C dx H'):zCm (zUq (CXq P w) P w K mg base N qual scope f cd A outer s H E) C dx H':=by
 intro U Y H1 s1 e s' I F;have hf:(envOfC qual scope s.heap.objs.size f cd).frame=some (envOfC qual scope s.heap.objs.size f cd).locals:=rfl;obtain⟨a,B,rfl,fl,c⟩:=F.fly;refine z0r I.ok.frames hf fl λh'' fl' sm=>?_;have δ:Inv (zUq (CXq P w) P w K mg base N qual scope f cd A outer s H E) U Y H' {s' with heap:=h'' }:=I.fly F c fl.st fl'.st sm;exact⟨C,dx,H',⟨δ.os,δ.bare,δ.base,δ.hok,a,B,rfl,fl',zuw (X:=zUq (CXq P w) P w K mg base N qual scope f cd A outer s H E) I rfl rfl rfl c⟩,hE⟩
end
end L2
namespace M
open PySem PySem.Spec PyProof.Rows L2
inductive D where
 |non|bl (b:Bool)|int (i:Int)|str (x:yt)|ty (n:String)
  |tup (ds:List D)
  |fz (ds:List D)
  |loc (n:Nat)
  |own (c:yt)
inductive tx where
 |lst (ds:List D)
  |dct (hG:List (Int×D))
  |dcf (hG:List (Int×D))
  |exc (c:yt) (fs:List (yt×D))
  |ins (c:yt) (fs:List (yt×D))
abbrev Mem:=List tx
abbrev Wm:=List D
abbrev Wn:=Option D
abbrev Wp:=List (Int×D)
abbrev Wq:=List (yt×D)
abbrev Wr:=D->Mem->Prop
def zWq(a C:yf)(dx:Qw):yT->Prop:=λh=>∃o vs,h.get? a=some o/\o.cls=.ref C/\o.dict=dx/\o.data=.fields vs
abbrev Loc:=List (Wn)
section
variable (K:yw)
def FzL(H:Hp)(a:yf)(vs:Wi):Prop :=
 (∃o,H a=some (.frz o (.lst vs)))\/∃(o:YS)(hJ:Qm)(n:Nat),K.lookup a=some o/\o.cls=.type "list"/\o.dict=none/\o.data=.seq hJ n/\hJ.size<=yF/\Vals vs hJ.toList
mutual
def tu(Z:Qv)(H:Hp):D->V->Prop
 |.non,v=>v=.non
 |.bl b,v=>v=.bl b
 |.int i,v=>v=.int i
 |.str x,v=>v=.str x
 |.ty n,v=>v=.ty n
 |.tup ds,v=>∃a vs,v=.ref a/\H a=some (.tup vs)/\tf Z H ds vs
 |.fz ds,v=>∃a vs,v=.ref a/\FzL K H a vs/\tf Z H ds vs
 |.loc n,v=>∃a,v=.ref a/\Z[n]?=some a
 |.own c,v=>∃a,v=.ref a/\Ym K yp c=some (some (.ref a))
def tf(Z:Qv)(H:Hp):Wm->Wi->Prop
 |[],vs=>vs=[]
 |d::ds,vs=>∃v r,vs=v::r/\tu Z H d v/\tf Z H ds r
end
def sT(Z:Qv)(H:Hp)(fs:Wq)(dx:Qw):Prop:=(fs=[]/\dx=none)\/∃p vs,dx=some p/\H p=some (.xd vs)/\vs.map (·.1)=fs.map (·.1)/\tf K Z H (fs.map (·.2)) (vs.map (·.2))
def sF(Z:Qv)(H:Hp)(a:yf):tx->Prop
 |.lst ds=>∃vs,H a=some (.lst vs)/\tf K Z H ds vs
 |.dct hG=>∃vs,H a=some (.dK vs)/\vs.map (·.1)=hG.map (λp=>yP p.1)/\tf K Z H (hG.map (·.2)) (vs.map (·.2))
 |.dcf hG=>∃o vs,H a=some (.frz o (.dK vs))/\vs.map (·.1)=hG.map (λp=>yP p.1)/\tf K Z H (hG.map (·.2)) (vs.map (·.2))
 |.exc c fs=>∃C dx,Ym K yp c=some (some (.ref C))/\H a=some (.ext (zWq a C dx))/\sT K Z H fs dx
 |.ins c fs=>∃C dx vs,Ym K yp c=some (some (.ref C))/\H a=some (.ins C dx vs)/\vs.map (·.1)=fs.map (·.1)/\tf K Z H (fs.map (·.2)) (vs.map (·.2))
structure tG(Z:Qv)(H:Hp)(O:Mem):Prop where
 nd:Z.Nodup
 len:Z.length=O.length
 at_:∀(n:Nat) a o,Z[n]?=some a->O[n]?=some o->sF K Z H a o
structure Ext(Z:Qv)(H:Hp)(Z':Qv)(H':Hp):Prop where
 pre:∃more,Z'=Z++more
 tup:∀a vs,H a=some (.tup vs)->H' a=some (.tup vs)
 frz:∀a o u,H a=some (.frz o u)->H' a=some (.frz o u)
 xd:∀a fs,H a=some (.xd fs)->H' a=some (.xd fs)
def Si(Z:Qv)(H:Hp)(Y:L2.St)(J:Loc):Prop:=∀(i:Nat) d,J[i]?=some (some d)->∃v,Y[i]?=some (some v)/\tu K Z H d v
end
section
variable {K:yw}{Z Z' Z'':Qv}{H H' H'':Hp}{O:Mem}{Y:L2.St}{J:Loc}
def Ext.refl:Ext Z H Z H:=⟨⟨[],by simp⟩,λ_ _ h=>h,λ_ _ _ h=>h,λ_ _ h=>h⟩
def Ext.trans(a:Ext Z H Z' H')(b:Ext Z' H' Z'' H''):Ext Z H Z'' H'':=by
 obtain⟨m,e⟩:=a.pre;obtain⟨m',e'⟩:=b.pre;exact⟨⟨m++m',by rw[e',e,Le]⟩,λ_ _ h=>b.tup _ _ (a.tup _ _ h),λ_ _ _ h=>b.frz _ _ _ (a.frz _ _ _ h),λ_ _ h=>b.xd _ _ (a.xd _ _ h)⟩
def Ext.get(e:Ext Z H Z' H'){n:Nat}{a:yf}(h:Z[n]?=some a):Z'[n]?=some a:=by
 obtain⟨m,e⟩:=e.pre;rw[e,yg (List.getElem?_eq_some_iff.mp h).1];exact h
def Ext.fz(e:Ext Z H Z' H'){a:yf}{vs:Wi}(h:FzL K H a vs):FzL K H' a vs:=by
 rcases h with ⟨o,h⟩|h
 ·exact .inl ⟨o,e.frz _ _ _ h⟩
 ·exact .inr h
mutual
def tu.ext(e:Ext Z H Z' H'):∀{d:D} {v:V},tu K Z H d v->tu K Z' H' d v
 |.non,_,h=>by unfold tu at h ⊢;exact h
 |.bl _,_,h=>by unfold tu at h ⊢;exact h
 |.int _,_,h=>by unfold tu at h ⊢;exact h
 |.str _,_,h=>by unfold tu at h ⊢;exact h
 |.ty _,_,h=>by unfold tu at h ⊢;exact h
 |.tup ds,_,h=>by
  unfold tu at h ⊢;obtain⟨a,vs,e1,e2,r⟩:=h;exact⟨a,vs,e1,e.tup _ _ e2,tf.ext e r⟩
 |.fz ds,_,h=>by
  unfold tu at h ⊢;obtain⟨a,vs,e1,e2,r⟩:=h;exact⟨a,vs,e1,e.fz e2,tf.ext e r⟩
 |.loc n,_,h=>by
  unfold tu at h ⊢;obtain⟨a,e1,e2⟩:=h;exact⟨a,e1,e.get e2⟩
 |.own c,_,h=>by unfold tu at h ⊢;exact h
def tf.ext(e:Ext Z H Z' H'):∀{ds:Wm} {vs:Wi},tf K Z H ds vs->tf K Z' H' ds vs
 |[],_,h=>by unfold tf at h ⊢;exact h
 |d::ds,_,h=>by
  unfold tf at h ⊢;obtain⟨v,r,e1,h1,h2⟩:=h;exact⟨v,r,e1,tu.ext e h1,tf.ext e h2⟩
end
def Si.ext(e:Ext Z H Z' H')(h:Si K Z H Y J):Si K Z' H' Y J:=λi d q=>
 let ⟨v,e1,r⟩:=h i d q
 ⟨v,e1,r.ext e⟩
def tf.length:∀{ds:Wm} {vs:Wi},tf K Z H ds vs->ds.length=vs.length
 |[],_,h=>by unfold tf at h;subst h;rfl
 |d::ds,_,h=>by
  unfold tf at h;obtain⟨v,r,e1,_,h2⟩:=h;subst e1;have:=tf.length h2;simp[this]
def tf.get:∀{ds:Wm} {vs:Wi} {i:Nat} {d:D},tf K Z H ds vs->ds[i]?=some d->∃v,vs[i]?=some v/\tu K Z H d v
 |[],_,_,_,_,q=>by simp at q
 |d::ds,_,0,d',h,q=>by
  unfold tf at h;obtain⟨v,r,e1,h1,_⟩:=h;subst e1;simp at q;subst q;exact⟨v,by simp,h1⟩
 |d::ds,_,i+1,d',h,q=>by
  unfold tf at h;obtain⟨v,r,e1,_,h2⟩:=h;subst e1;obtain⟨w,e2,h3⟩:=tf.get (i:=i) h2 (by simpa using q);exact⟨w,by simpa using e2,h3⟩
def tf.cons{d:D}{v:V}{ds:Wm}{vs:Wi}(h1:tu K Z H d v)(h2:tf K Z H ds vs):tf K Z H (d::ds) (v::vs):=by
 unfold tf;exact⟨v,vs,rfl,h1,h2⟩
def tf.nil:tf K Z H [] []:=by unfold tf;rfl
def tf.cons_inv{d:D}{ds:Wm}{vs:Wi}(h:tf K Z H (d::ds) vs):∃v r,vs=v::r/\tu K Z H d v/\tf K Z H ds r:=by
 unfold tf at h;exact h
def tf.nil_inv{vs:Wi}(h:tf K Z H [] vs):vs=[]:=by unfold tf at h;exact h
def tf.append:∀{ds es:Wm} {vs us:Wi},tf K Z H ds vs->tf K Z H es us->tf K Z H (ds++es) (vs++us)
 |[],_,_,_,h,q=>by rw[h.nil_inv];exact q
 |d::ds,_,_,_,h,q=>by
  obtain⟨v,r,rfl,h1,h2⟩:=h.cons_inv;exact .cons h1 (tf.append h2 q)
def tf.take:∀{ds:Wm} {vs:Wi} (n:Nat),tf K Z H ds vs->tf K Z H (ds.take n) (vs.take n)
 |[],_,n,h=>by rw[h.nil_inv];simp[tf.nil]
 |d::ds,_,0,h=>by simp[tf.nil]
 |d::ds,_,n+1,h=>by
  obtain⟨v,r,rfl,h1,h2⟩:=h.cons_inv;simpa using tf.cons h1 (tf.take n h2)
def tf.drop:∀{ds:Wm} {vs:Wi} (n:Nat),tf K Z H ds vs->tf K Z H (ds.drop n) (vs.drop n)
 |[],_,n,h=>by rw[h.nil_inv];simp[tf.nil]
 |d::ds,_,0,h=>by simpa using h
 |d::ds,_,n+1,h=>by
  obtain⟨v,r,rfl,h1,h2⟩:=h.cons_inv;simpa using tf.drop n h2
def tf.set:∀{ds:Wm} {vs:Wi} {d:D} {v:V} (n:Nat),tu K Z H d v->tf K Z H ds vs->tf K Z H (ds.set n d) (vs.set n v)
 |[],_,_,_,n,_,h=>by rw[h.nil_inv];simp[tf.nil]
 |d::ds,_,_,_,0,q,h=>by
  obtain⟨v,r,rfl,h1,h2⟩:=h.cons_inv;simpa using tf.cons q h2
 |d::ds,_,_,_,n+1,q,h=>by
  obtain⟨v,r,rfl,h1,h2⟩:=h.cons_inv;simpa using tf.cons h1 (tf.set n q h2)
def tu.int_inv{i:Int}{v:V}(h:tu K Z H (.int i) v):v=.int i:=by unfold tu at h;exact h
def tu.tU{i:Bool}{v:V}(h:tu K Z H (.bl i) v):v=.bl i:=by unfold tu at h;exact h
def tu.tJ{v:V}(h:tu K Z H .non v):v=.non:=by unfold tu at h;exact h
def tu.str_inv{x:yt}{v:V}(h:tu K Z H (.str x) v):v=.str x:=by unfold tu at h;exact h
def tu.ty_inv{x:String}{v:V}(h:tu K Z H (.ty x) v):v=.ty x:=by unfold tu at h;exact h
def tu.tR{ds:Wm}{v:V}(h:tu K Z H (.tup ds) v):∃a vs,v=.ref a/\H a=some (.tup vs)/\tf K Z H ds vs:=by unfold tu at h;exact h
def tu.sB{ds:Wm}{v:V}(h:tu K Z H (.fz ds) v):∃a vs,v=.ref a/\FzL K H a vs/\tf K Z H ds vs:=by unfold tu at h;exact h
def tu.tw{n:Nat}{v:V}(h:tu K Z H (.loc n) v):∃a,v=.ref a/\Z[n]?=some a:=by unfold tu at h;exact h
def tu.int{i:Int}:tu K Z H (.int i) (.int i):=by unfold tu;rfl
def tu.bl{i:Bool}:tu K Z H (.bl i) (.bl i):=by unfold tu;rfl
def tu.non:tu K Z H .non .non:=by unfold tu;rfl
def tu.str{x:yt}:tu K Z H (.str x) (.str x):=by unfold tu;rfl
def tu.ty{x:String}:tu K Z H (.ty x) (.ty x):=by unfold tu;rfl
def tu.tup{ds:Wm}{a:yf}{vs:Wi}(e:H a=some (.tup vs))(h:tf K Z H ds vs):tu K Z H (.tup ds) (.ref a):=by unfold tu;exact⟨a,vs,rfl,e,h⟩
def tu.fz{ds:Wm}{a:yf}{vs:Wi}(e:FzL K H a vs)(h:tf K Z H ds vs):tu K Z H (.fz ds) (.ref a):=by unfold tu;exact⟨a,vs,rfl,e,h⟩
def tu.loc{n:Nat}{a:yf}(e:Z[n]?=some a):tu K Z H (.loc n) (.ref a):=by unfold tu;exact⟨a,rfl,e⟩
def FzL.sq{a:yf}{vs:Wi}(h:FzL K H a vs):SqL K H a vs:=by
 rcases h with h|h
 ·exact .inl (.inr h)
 ·exact .inr h
def sF.some{a:yf}{o:tx}(h:sF K Z H a o):∃u,H a=some u:=by
 cases o with
 |lst ds=>obtain⟨vs,e,_⟩:=h;exact⟨_,e⟩
 |dct hG=>obtain⟨vs,e,_⟩:=h;exact⟨_,e⟩
 |dcf hG=>obtain⟨o,vs,e,_⟩:=h;exact⟨_,e⟩
 |exc c fs=>obtain⟨C,dx,_,e,_⟩:=h;exact⟨_,e⟩
 |ins c fs=>obtain⟨C,dx,vs,_,e,_⟩:=h;exact⟨_,e⟩
def tG.mem_some(R:tG K Z H O){a:yf}(h:a∈Z):∃u,H a=some u:=by
 obtain⟨n,h1,e⟩:=List.mem_iff_getElem.mp h;have h2:n<O.length:=by rw[<-R.len];exact h1
 exact(R.at_ n a O[n] (by rw[yk h1,e]) (by simp[h2])).some
def sT.ext{fs:Wq}{dx:Qw}(e:Ext Z H Z' H')(h:sT K Z H fs dx):sT K Z' H' fs dx:=by
 rcases h with h|⟨p,vs,e1,e2,e3,r⟩
 ·exact .inl h
 ·exact .inr ⟨p,vs,e1,e.xd _ _ e2,e3,r.ext e⟩
def sF.ext{a:yf}{o:tx}(e:Ext Z H Z' H')(h:sF K Z H a o)(s:H' a=H a):sF K Z' H' a o:=by
 cases o with
 |lst ds=>obtain⟨vs,q,r⟩:=h;exact⟨vs,s.trans q,r.ext e⟩
 |dct hG=>obtain⟨vs,q,q2,r⟩:=h;exact⟨vs,s.trans q,q2,r.ext e⟩
 |dcf hG=>obtain⟨o,vs,q,q2,r⟩:=h;exact⟨o,vs,s.trans q,q2,r.ext e⟩
 |exc c fs=>obtain⟨C,dx,n,q,r⟩:=h;exact⟨C,dx,n,s.trans q,r.ext e⟩
 |ins c fs=>obtain⟨C,dx,vs,n,q,q2,r⟩:=h;exact⟨C,dx,vs,n,s.trans q,q2,r.ext e⟩
def Ext.new{p:yf}{o:HO}(hp:H p=none):Ext Z H Z (upd H p o) :=
 ⟨⟨[],by simp⟩,λa vs e=>by rw[zE (zH e hp)];exact e,λa o u e=>by rw[zE (zH e hp)];exact e,λa fs e=>by rw[zE (zH e hp)];exact e⟩
def tG.other(R:tG K Z H O)(e:Ext Z H Z H')(s:∀a∈Z,H' a=H a):tG K Z H' O :=
 ⟨R.nd,R.len,λn a o h1 h2=>(R.at_ n a o h1 h2).ext e (s a (Nt h1))⟩
def tG.Tt(R:tG K Z H O){p:yf}{o:HO}(hp:H p=none):tG K Z (upd H p o) O :=
 R.other (Ext.new hp) λa ha=>by
  obtain⟨u,e⟩:=R.mem_some ha;exact zE (zH e hp)
def Ext.push{p:yf}{o:HO}(hp:H p=none):Ext Z H (Z++[p]) (upd H p o) :=
 ⟨⟨[p],rfl⟩,(Ext.new (Z:=Z) hp).tup,(Ext.new (Z:=Z) hp).frz,(Ext.new (Z:=Z) hp).xd⟩
def tG.push(R:tG K Z H O){p:yf}{o:HO}{lo:tx}(hp:H p=none)(h:sF K (Z++[p]) (upd H p o) p lo):tG K (Z++[p]) (upd H p o) (O++[lo]):=by
 refine⟨?_,by simp[R.len],λn a u h1 h2=>?_⟩
 ·rw[Nx];refine⟨R.nd,by simp,λa ha b hb=>?_⟩;simp at hb;subst hb;obtain⟨u,e⟩:=R.mem_some ha;exact zH e hp
 ·by_cases hn:n<Z.length
  ·rw[yg hn]at h1;rw[yg (by rw[<-R.len];exact hn)]at h2;have q:=R.at_ n a u h1 h2;obtain⟨z,e⟩:=q.some;exact q.ext (Ext.push hp) (zE (zH e hp))
  ·have hl:n<(Z++[p]).length:=(List.getElem?_eq_some_iff.mp h1).1;have e:n=Z.length:=by simp at hl;omega
   subst e;rw[yC (yh _)]at h1;rw[R.len,yC (yh _)]at h2;simp at h1 h2;subst h1 h2;exact h
def zub{p:yf}(R:tG K Z H O):(Z++[p])[O.length]?=some p:=by
 rw[<-R.len];simp
def Ext.wr{p:yf}{o:HO}(hm:Mut (H p)):Ext Z H Z (upd H p o) :=
 ⟨⟨[],by simp⟩,λa vs e=>by rw[zE (by rintro rfl;rw[e]at hm;exact hm)];exact e,λa o u e=>by rw[zE (by rintro rfl;rw[e]at hm;exact hm)];exact e,λa fs e=>by rw[zE (by rintro rfl;rw[e]at hm;exact hm)];exact e⟩
def tG.wr(R:tG K Z H O){n:Nat}{p:yf}{o:HO}{lo:tx}(hm:Mut (H p))(hn:Z[n]?=some p)(h:sF K Z (upd H p o) p lo):tG K Z (upd H p o) (O.set n lo):=by
 have kH:=(List.getElem?_eq_some_iff.mp hn).1;refine⟨R.nd,by simp[R.len],λm a u h1 h2=>?_⟩
 by_cases hmn:m=n
 ·subst hmn;rw[hn]at h1;cases h1;rw[yN (by rw[<-R.len];exact kH)]at h2;cases h2;exact h
 ·rw[yL (yR hmn)]at h2
  have hap:a≠p:=by
   rintro rfl;obtain⟨x1,y1⟩:=List.getElem?_eq_some_iff.mp h1;obtain⟨x2,y2⟩:=List.getElem?_eq_some_iff.mp hn;exact hmn ((List.getElem_inj R.nd).mp (y1.trans y2.symm))
  exact(R.at_ m a u h1 h2).ext (Ext.wr hm) (zE hap)
end
abbrev FE:=Loc->Mem->Option (D×Mem)
abbrev FT:=Loc->Mem->Option (Bool×Mem)
abbrev FA:=Loc->Mem->Option (List D×Mem)
inductive Out where
 |next (J:Loc) (O:Mem)|ret (d:D) (O:Mem)|brk (J:Loc) (O:Mem)|cont (J:Loc) (O:Mem)
  |exc (c:yt) (fs:Wq) (O:Mem)
abbrev FS:=Loc->Mem->Option Out
section
variable (K:yw)
structure At(Z:Qv)(H:Hp)(Y:L2.St)(J:Loc)(O:Mem):Prop where
 st:Si K Z H Y J
 hp:tG K Z H O
 len:Y.length=J.length
def tM(G:FE):TE:=λY H Q=>∃Z J O d O',At K Z H Y J O/\G J O=some (d,O')/\∀Z' H' v,Ext Z H Z' H'->tG K Z' H' O'->tu K Z' H' d v->Q v H'
def tMT(G:FT):TT:=λY H Q=>∃Z J O b O',At K Z H Y J O/\G J O=some (b,O')/\∀Z' H',Ext Z H Z' H'->tG K Z' H' O'->Q b H'
def tMA(G:FA):TA:=λY H Q=>∃Z J O ds O',At K Z H Y J O/\G J O=some (ds,O')/\∀Z' H' vs,Ext Z H Z' H'->tG K Z' H' O'->tf K Z' H' ds vs->Q vs H'
def sC(W:XK)(Z:Qv)(H:Hp)(E:Ends):Out->Prop
 |.next J' O'=>∀Z' Y' H',Ext Z H Z' H'->At K Z' H' Y' J' O'->E.nx Y' H'
 |.brk J' O'=>∀Z' Y' H',Ext Z H Z' H'->At K Z' H' Y' J' O'->E.bk Y' H'
 |.cont J' O'=>∀Z' Y' H',Ext Z H Z' H'->At K Z' H' Y' J' O'->E.ct Y' H'
 |.ret d O'=>∀Z' v H',Ext Z H Z' H'->tG K Z' H' O'->tu K Z' H' d v->E.rt v H'
 |.exc c fs O'=>∀Z' H' C dx,PySem.W.nsIn K yp c=some (some (.ref C))->Ext Z H Z' H'->tG K Z' H' O'->sT K Z' H' fs dx->W (.ref C) dx H'
def tMS(W:XK)(ψ:FS):TS:=λE Y H=>∃Z J O o,At K Z H Y J O/\ψ J O=some o/\sC K W Z H E o
end
def ME(X:Cx)(e:yE)(G:FE):Prop:=PE X e (tM X.K G)
def MT(X:Cx)(e:yE)(G:FT):Prop:=PT X e (tMT X.K G)
def MW(X:Cx)(e:yE)(G:FT):Prop:=PW X e (tMT X.K G)
def MA(X:Cx)(es:Qz)(G:FA):Prop:=PA X es (tMA X.K G)
def MS(X:Cx)(st:Yb)(ψ:FS):Prop:=PS X st (tMS X.K (zCm X) ψ)
def MSs(X:Cx)(st:We)(ψ:FS):Prop:=PSs X st (tMS X.K (zCm X) ψ)
abbrev FF:=Wm->Mem->Option (D×Mem)
def spM(K:yw)(n:Nat)(F:FF):Sp:=λvs H Q _=>vs.length=n/\∃Z ds O d O',tf K Z H ds vs/\tG K Z H O/\F ds O=some (d,O')/\∀Z' H' v,Ext Z H Z' H'->tG K Z' H' O'->tu K Z' H' d v->Q v H'
def At.ext{K:yw}{Z Z':Qv}{H H':Hp}{Y:L2.St}{J:Loc}{O O':Mem}(a:At K Z H Y J O)(e:Ext Z H Z' H')(R:tG K Z' H' O'):At K Z' H' Y J O':=⟨a.st.ext e,R,a.len⟩
def zge{X:Cx}{e:yE}{t:TE}{G:FE}(h:PE X e t)(w:∀Z J O Y H d O' Q,At X.K Z H Y J O->G J O=some (d,O')->(∀Z' H' v,Ext Z H Z' H'->tG X.K Z' H' O'->tu X.K Z' H' d v->Q v H')->t Y H Q):ME X e G :=
 by intro U s Y H Q I hh;obtain⟨Z,J,O,d,O',a,e,k⟩:=hh;exact h U s Y H Q I (w Z J O Y H d O' Q a e k)
def zbw{X:Cx}{e:yE}{t:TT}{G:FT}(h:PT X e t)(w:∀Z J O Y H b O' Q,At X.K Z H Y J O->G J O=some (b,O')->(∀Z' H',Ext Z H Z' H'->tG X.K Z' H' O'->Q b H')->t Y H Q):MT X e G :=
 by intro U s Y H Q I hh;obtain⟨Z,J,O,d,O',a,e,k⟩:=hh;exact h U s Y H Q I (w Z J O Y H d O' Q a e k)
def z4y{X:Cx}{e:yE}{t:TT}{G:FT}(h:PW X e t)(w:∀Z J O Y H b O' Q,At X.K Z H Y J O->G J O=some (b,O')->(∀Z' H',Ext Z H Z' H'->tG X.K Z' H' O'->Q b H')->t Y H Q):MW X e G :=
 λwh U s Y H Q I ⟨Z,J,O,d,O',a,e,k⟩=>h wh U s Y H Q I (w Z J O Y H d O' Q a e k)
def zqy{X:Cx}{e:Qz}{t:TA}{G:FA}(h:PA X e t)(w:∀Z J O Y H ds O' Q,At X.K Z H Y J O->G J O=some (ds,O')->(∀Z' H' vs,Ext Z H Z' H'->tG X.K Z' H' O'->tf X.K Z' H' ds vs->Q vs H')->t Y H Q):MA X e G :=
 λpos U s Y H Q I ⟨Z,J,O,d,O',a,e,k⟩=>h pos U s Y H Q I (w Z J O Y H d O' Q a e k)
def zRk{X:Cx}{e:Yb}{t:TS}{ψ:FS}(h:PS X e t)(w:∀Z J O Y H o E,At X.K Z H Y J O->ψ J O=some o->sC X.K (zCm X) Z H E o->t E Y H):MS X e ψ :=
 by intro U s Y H E I hh;obtain⟨Z,J,O,o,a,e,k⟩:=hh;exact h U s Y H E I (w Z J O Y H o E a e k)
def zNv{X:Cx}{e:We}{t:TS}{ψ:FS}(h:PSs X e t)(w:∀Z J O Y H o E,At X.K Z H Y J O->ψ J O=some o->sC X.K (zCm X) Z H E o->t E Y H):MSs X e ψ :=
 by intro U s Y H E I hh;obtain⟨Z,J,O,o,a,e,k⟩:=hh;exact h U s Y H E I (w Z J O Y H o E a e k)
end M
namespace M
open PySem PySem.Spec PyProof.Rows L2
def zj{α β:Type}{o:Option α}{f:α->Option β}{b:β}(h:o.bind f=some b):∃a,o=some a/\f a=some b:=by
 cases o with
 |none=>cases h
 |some a=>exact⟨a,rfl,h⟩
section
variable {X:Cx}{a b c e:yE}{es:Qz}{G ψ χ:FE}{pos:xn}
@[simp] def zm(i:Nat):FE:=λJ O=>match J[i]? with
 |some (some d)=>some (d,O)
 |_=>none
@[simp] def fC(d:D):FE:=λ_ O=>some (d,O)
def zKy{i:Nat}{x:yt}(h:PE X (.Name x pos) (zhA i)):ME X (.Name x pos) (zm i) :=
 zge h λZ J O Y H d O' Q A e k=>by
  unfold zm at e
  split at e
  ·rename_i d' hd
   cases e;obtain⟨v,hv,r⟩:=A.st i _ hd;exact⟨v,hv,k Z H v Ext.refl A.hp r⟩
  ·cases e
def zFx{v:V}{d:D}(h:PE X e (tC v))(r:∀Z H,tu X.K Z H d v):ME X e (fC d) :=
 zge h λZ J O Y H d' O' Q A e k=>by
  cases e;exact k Z H v Ext.refl A.hp (r Z H)
def zq{i j}:ME X (.Constant (.int i) j pos) (fC (.int i)):=zFx zuy λ_ _ =>.int
def zni{i j}:ME X (.Constant (.bool i) j pos) (fC (.bl i)):=zFx zJz λ_ _ =>.bl
def zGc{j}:ME X (.Constant .none j pos) (fC .non):=zFx zUx λ_ _ =>.non
def zCd{x j}:ME X (.Constant (.str x) j pos) (fC (.str x)):=zFx zBy λ_ _ =>.str
def mv(i:Nat){x:yt}(hN:X.N[i]?=some x:=by rfl)(hv:Vis X.env.scope x:=by first|exact Or.inl rfl|exact Or.inr (Or.inl rfl)|exact Or.inr (Or.inr rfl))(hd:(x==("__debug__":yt))=false:=by decide)
 (hcd:(x==("__classdict__":yt))=false:=by decide):ME X (.Name x pos) (zm i):=zKy (ztv hN hv hd hcd)
def z8s{x:yt}{i:Int}(hm:∃t,X.mg x=some (.int i t))(hg:Gl X x:=by rfl)(hd:(x==("__debug__":yt))=false:=by decide):ME X (.Name x pos) (fC (.int i)) :=
 let ⟨t,ht⟩:=hm
 zFx (zBx (v:=V.int i) hg ht ⟨t,rfl⟩ hd) λ_ _ =>.int
def zQl{x:yt}{T:String}(hm:X.mg x=none)(hb:yM x=some (.type T))(hg:Gl X x:=by rfl)(hn:x≠"__name__":=by decide)(hd:(x==("__debug__":yt))=false:=by decide):ME X (.Name x pos) (fC (.ty T)) :=
 zFx (zax (v:=V.ty T) hg hm hb (show L2.RelV (V.ty T) (Yx T) from rfl) hn hd) λ_ _ =>.ty
abbrev φ2:=D->D->Mem->Option (D×Mem)
def rM(K:yw)(g:φ2):R2:=λx y H Q=>∃Z dx dy O d O',tu K Z H dx x/\tu K Z H dy y/\tG K Z H O/\g dx dy O=some (d,O')/\∀Z' H' v,Ext Z H Z' H'->tG K Z' H' O'->tu K Z' H' d v->Q v H'
def OpM(X:Cx)(f:Value->Value->Sem Value)(g:φ2):Prop:=OpR X f (rM X.K g)
def OpM.of{X:Cx}{f:Value->Value->Sem Value}{g:φ2}(h:∀(U:Qb) (s:yc) (Y:L2.St) (H:Hp) (x y:V) (v u:Value) (Q:VK),Inv X U Y H s->RelV x v->RelV y u->∀(Z:Qv)(dx dy:D)(O:Mem)(d:D)(O':Mem),tu X.K Z H dx x->tu X.K Z H dy y->tG X.K Z H O->g dx dy O=some (d,O')->(∀Z' H' v,Ext Z H Z' H'->tG X.K Z' H' O'->tu X.K Z' H' d v->Q v H')->yo (yv X.prog X.w) X.A (f v u) (EP X U Y Q) X.xe s):OpM X f g:=by
 intro U s Y H x y v u Q I rx ry hh;obtain⟨Z,dx,dy,O,d,O',r1,r2,R,e,k⟩:=hh;exact h U s Y H x y v u Q I rx ry Z dx dy O d O' r1 r2 R e k
@[simp] def zD(g:φ2)(G ψ:FE):FE:=λJ O=>(G J O).bind λp=>(ψ J p.2).bind λq=>g p.1 q.1 q.2
def zqt{g:φ2}{Z:Qv}{J:Loc}{O:Mem}{Y:L2.St}{H:Hp}{d:D}{O':Mem}{Q:VK}(A:At X.K Z H Y J O)(e:zD g G ψ J O=some (d,O'))
 (k:∀Z' H' v,Ext Z H Z' H'->tG X.K Z' H' O'->tu X.K Z' H' d v->Q v H'):tOp (rM X.K g) (tM X.K G) (tM X.K ψ) Y H Q:=by
 obtain⟨⟨x,O1⟩,e1,e⟩:=zj e;obtain⟨⟨y,O2⟩,e2,e⟩:=zj e;refine⟨Z,J,O,x,O1,A,e1,λZ1 H1 v x1 R1 r1=>?_⟩;refine⟨Z1,J,O1,y,O2,A.ext x1 R1,e2,λZ2 H2 u x2 R2 r2=>?_⟩;exact⟨Z2,x,y,O2,d,O',r1.ext x2,r2,R2,e,λZ3 H3 w x3 R3 r3=>k Z3 H3 w (x1.trans (x2.trans x3)) R3 r3⟩
def zob{op:Operator}{g:φ2}(ho:OpM X (xw op) g)(ha:ME X a G)(hb:ME X b ψ):ME X (.BinOp a op b pos) (zD g G ψ) :=
 zge (zuz ho ha hb) λ_ _ _ _ _ _ _ _ A e k=>zqt A e k
def zYi{op:CmpOp}{g:φ2}(ho:OpM X (Yz op) g)(ha:ME X a G)(hb:ME X b ψ)(hm:behindInMarks op b=false:=by first|exact sQ _ (by decide) (by decide)|rfl|with_unfolding_all rfl):ME X (.Compare a [op] [b] pos) (zD g G ψ) :=
 zge (zox ho ha hb hm) λ_ _ _ _ _ _ _ _ A e k=>zqt A e k
@[simp] def zM(G:FE):FT:=λJ O=>(G J O).bind λp=>match p.1 with
 |.bl b=>some (b,p.2)
 |_=>none
def z2p{J:Loc}{O O':Mem}{b:Bool}(h:zM G J O=some (b,O')):G J O=some (.bl b,O'):=by
 obtain⟨⟨x,O1⟩,e1,e⟩:=zj h;dsimp only at e
 split at e
 ·cases e;exact e1
 ·cases e
def zO{op:CmpOp}{g:φ2}(ho:OpM X (Yz op) g)(ha:ME X a G)(hb:ME X b ψ)(hm:behindInMarks op b=false:=by first|exact sQ _ (by decide) (by decide)|rfl|with_unfolding_all rfl):MT X (.Compare a [op] [b] pos) (zM (zD g G ψ)) :=
 zbw (z8w ho ha hb hm) λZ J O Y H b O' Q A e k=>zqt (Q:=λx H'=>∃k,x=.bl k/\Q k H') A (z2p e) λZ' H' v x R r=>⟨b,r.tU,k Z' H' x R⟩
@[simp] def zsg:φ2:=λx y O=>match x,y with
 |.int i,.int j=>some (.int (i+j),O)
 |.tup as,.tup bs=>bif decide (as.length+bs.length<=1000000) then some (.tup (as++bs),O) else none
 |.loc l,.loc m=>match O[l]?,O[m]? with
  |some (.lst as),some (.lst bs)=>bif decide (as.length+bs.length<=1000000) then some (.loc O.length,O++[.lst (as++bs)]) else none
  |_,_=>none
 |_,_=>none
@[simp] def zZs:φ2:=λx y O=>match x,y with
 |.int i,.int j=>some (.int (i-j),O)
 |_,_=>none
def zbh(i j:Int):Bool:=decide (-(2^64)<i/\i<2^64)||decide (-(2^64)<j/\j<2^64)||(decide (i.natAbs<2^1000)&&decide (j.natAbs<2^1000))
def znu{i j:Int}(h:zbh i j=true):IntMulOk i j:=by
 unfold zbh at h;rw[Bool.or_eq_true,Bool.or_eq_true,yK]at h;rcases h with (h|h)|⟨h1,h2⟩
 ·have h:=of_decide_eq_true h;exact .of_left (intBits_le_64 h.1 h.2)
 ·have h:=of_decide_eq_true h;exact .of_right (intBits_le_64 h.1 h.2)
 ·exact .of_le (m:=1000) (n:=1000) (intBits_le (of_decide_eq_true h1)) (intBits_le (of_decide_eq_true h2)) (by decide)
def zjj:φ2:=λx y O=>match x,y with
 |.int i,.int j=>bif zbh i j then some (.int (i*j),O) else none
 |.tup ds,.int n=>bif decide (2<=n/\n<=1000/\0<ds.length/\ds.length<=1000) then some (.tup (yD n.toNat ds).flatten,O) else none
 |.loc l,.int n=>match O[l]? with
  |some (.lst ds)=>bif decide (n<=1000/\-(2^62)<=n/\ds.length<=1000) then some (.loc O.length,O++[.lst (yD n.toNat ds).flatten]) else none
  |_=>none
 |_,_=>none
@[simp] def z6m:φ2:=λx y O=>match x,y with
 |.int i,.int j=>bif decide (0<j) then some (.int (i%j),O) else none
 |_,_=>none
@[simp] def zYw:φ2:=λx y O=>match x,y with
 |.int i,.int j=>bif decide (0<j/\j<1606938044258990275541962092341162602522202993782792835301376) then some (.int (i / j),O) else none
 |_,_=>none
def zEx:φ2:=λx y O=>match x,y with
 |.int i,.int j=>bif decide (0<=j/\j<=100000/\i.natAbs<1606938044258990275541962092341162602522202993782792835301376) then some (.int (i^j.toNat),O) else none
 |_,_=>none
def zV{α:Type}{c:Bool}{o:Option α}{x:α}(h:(bif c then o else none)=some x):c=true/\o=some x:=by
 cases c with
 |true=>exact⟨rfl,h⟩
 |false=>cases h
def zym{f:Value->Value->Sem Value}{g:φ2}{C:Int->Int->Prop}{h:Int->Int->Int}(o:OpR X f (rI C λi j =>.int (h i j)))
 (w:∀x y O d O',g x y O=some (d,O')->∃i j,x=.int i/\y=.int j/\C i j/\d=.int (h i j)/\O'=O):OpM X f g:=by
 refine OpM.of λU s Y H x y v u Q I rx ry Z dx dy O d O' r1 r2 R e k=>?_;obtain⟨i,j,rfl,rfl,hc,rfl,rfl⟩:=w _ _ _ _ _ e;refine o U s Y H x y v u Q I rx ry ⟨i,j,r1.int_inv,r2.int_inv,hc,?_⟩;exact k Z H _ Ext.refl R .int
def zBk:OpM X (xw .Sub) zZs:=zym (C:=λ_ _=>True) (h:=λi j=>i-j) (opI λ_ _ _ _ _ _ _ _ q=>sub_int q) λx y O d O' e=>by
 unfold zZs at e
 split at e
 ·cases e;exact⟨_,_,rfl,rfl,trivial,rfl,rfl⟩
 ·cases e
def zud:OpM X (xw .Mod) z6m:=zym (h:=λi j=>i%j) zzy λx y O d O' e=>by
 unfold z6m at e
 split at e
 ·obtain⟨h1,e⟩:=zV e;cases e;have h2:=of_decide_eq_true h1;exact⟨_,_,rfl,rfl,h2,rfl,rfl⟩
 ·cases e
def zky(i j:Int):Prop:=0<j/\j<1606938044258990275541962092341162602522202993782792835301376
def z1u:OpR X (xw .FloorDiv) (rI zky λi j =>.int (i / j)):=opI λi j _ _ _ _ _ hc q=>by
 have h1:(0:Int)<j:=hc.1;have h2:j<1606938044258990275541962092341162602522202993782792835301376:=hc.2;refine floordiv_int (by omega) (by rw[Int.fdiv_eq_ediv_of_nonneg i (by omega)];exact q) (.inl (PyProof.noPylong_of_log2 ?_));have:j.natAbs.log2<200:=(Nat.log2_lt (by omega)).mpr (by rw[show 2^200=1606938044258990275541962092341162602522202993782792835301376 from rfl];omega);omega
def zwo:OpM X (xw .FloorDiv) zYw:=zym (C:=zky) (h:=λi j=>i / j) z1u λx y O d O' e=>by
 unfold zYw at e
 split at e
 ·obtain⟨h1,e⟩:=zV e;cases e;have h2:=of_decide_eq_true h1;exact⟨_,_,rfl,rfl,h2,rfl,rfl⟩
 ·cases e
def z7y(i j:Int):Prop:=0<=j/\j<=100000/\i.natAbs<1606938044258990275541962092341162602522202993782792835301376
def zJw:OpR X (xw .Pow) (rI z7y λi j =>.int (i^j.toNat)):=opI λi j _ _ _ _ _ hc q=>by
 refine pow_int hc.1 ?_ q;have hb:Builtin.Int.intBits i<=200:=intBits_le (by rw[show 2^200=1606938044258990275541962092341162602522202993782792835301376 from rfl];exact hc.2.2);have h2:=hc.2.1;have h1:=hc.1
 calc (Builtin.Int.intBits i:Int)*j<=200*100000:=Int.mul_le_mul (by omega) h2 h1 (by omega)
  _<=2^27:=by decide
def zew:OpM X (xw .Pow) zEx:=zym (C:=z7y) (h:=λi j=>i^j.toNat) zJw λx y O d O' e=>by
 unfold zEx at e
 split at e
 ·obtain⟨h1,e⟩:=zV e;cases e;have h2:=of_decide_eq_true h1;exact⟨_,_,rfl,rfl,h2,rfl,rfl⟩
 ·cases e
@[simp] def zBl(p:Int->Int->Bool):φ2:=λx y O=>match x,y with
 |.int i,.int j=>some (.bl (p i j),O)
 |_,_=>none
def zjp{f:Value->Value->Sem Value}{p:Int->Int->Bool}(o:OpR X f (rI0 λi j =>.bl (p i j))):OpM X f (zBl p):=by
 refine OpM.of λU s Y H x y v u Q I rx ry Z dx dy O d O' r1 r2 R e k=>?_;unfold zBl at e
 split at e
 ·cases e;exact o U s Y H x y v u Q I rx ry ⟨_,_,r1.int_inv,r2.int_inv,k Z H _ Ext.refl R .bl⟩
 ·cases e
def z5i:OpM X (Yz .Lt) (zBl λi j=>decide (i<j)):=zjp zxz
def zlo:OpM X (Yz .Gt) (zBl λi j=>decide (j<i)):=zjp zmA
def zdy:OpM X (Yz .GtE) (zBl λi j=>decide (j<=i)):=zjp zXz
@[simp] def zOA(G ψ:FE):FE:=λJ O=>(G J O).bind λp=>match p.1 with
 |.bl true=>ψ J p.2
 |.bl false=>some (.bl false,p.2)
 |_=>none
@[simp] def fOr(G ψ:FE):FE:=λJ O=>(G J O).bind λp=>match p.1 with
 |.bl false=>ψ J p.2
 |.bl true=>some (.bl true,p.2)
 |_=>none
@[simp] def zHA(G:FE):FE:=λJ O=>(G J O).bind λp=>match p.1 with
 |.bl b=>some (.bl (!b),p.2)
 |_=>none
def zhz{op}(h:ME X a G):ME X (.BoolOp op [a] pos) G:=zRx h
def z2z{rest:Qz}(ha:ME X a G)(hb:ME X (.BoolOp .Or (b::rest) pos) ψ):ME X (.BoolOp .Or (a::b::rest) pos) (fOr G ψ) :=
 zge (z5z ha hb) λZ J O Y H d O' Q A e k=>by
  obtain⟨⟨x,O1⟩,e1,e⟩:=zj e;refine⟨Z,J,O,x,O1,A,e1,λZ1 H1 v x1 R1 r1=>?_⟩;dsimp only at e
  split at e
  ·exact⟨false,r1.tU,So ⟨Z1,J,O1,d,O',A.ext x1 R1,e,λZ2 H2 w x2 R2 r2=>k Z2 H2 w (x1.trans x2) R2 r2⟩⟩
  ·cases e;exact⟨true,r1.tU,Sq (k Z1 H1 _ x1 R1 .bl)⟩
  ·cases e
@[simp] def z6l(G ψ:FT):FT:=λJ O=>(G J O).bind λp=>bif p.1 then ψ J p.2 else some (false,p.2)
@[simp] def zkj(G ψ:FT):FT:=λJ O=>(G J O).bind λp=>bif p.1 then some (true,p.2) else ψ J p.2
@[simp] def zMi(G:FT):FT:=λJ O=>(G J O).bind λp=>some (!p.1,p.2)
def zBd{G:FE}(h:ME X a G)(he:∀whole,isTrue a X.env whole=(do let v <-whole;standAt a.pos;xt [v] (truthy v)):=by intro _;rfl):MT X a (zM G) :=
 zbw (z1x h he) λZ J O Y H b O' Q A e k=>⟨Z,J,O,.bl b,O',A,z2p e,λZ' H' v x R r=>⟨b,r.tU,k Z' H' x R⟩⟩
def MW.mt{G:FT}(h:MW X a G):MT X a G:=h _
def zIi{G:FT}(h:MT X a G):MW X (.BoolOp .And [a] pos) G:=zmw h
def zce{G:FT}(h:MT X a G):MW X (.BoolOp .Or [a] pos) G:=zsy h
def zzl{G ψ:FT}{rest:Qz}(ha:MT X a G)(hb:MW X (.BoolOp .And (b::rest) pos) ψ):MW X (.BoolOp .And (a::b::rest) pos) (z6l G ψ) :=
 z4y (z0y ha hb) λZ J O Y H b O' Q A e k=>by
  obtain⟨⟨x,O1⟩,e1,e⟩:=zj e;refine⟨Z,J,O,x,O1,A,e1,λZ1 H1 x1 R1=>?_⟩
  cases x with
  |true=>exact Sq ⟨Z1,J,O1,b,O',A.ext x1 R1,e,λZ2 H2 x2 R2=>k Z2 H2 (x1.trans x2) R2⟩
  |false=>
   cases e;exact So (k Z1 H1 x1 R1)
def z1e{G ψ:FT}{rest:Qz}(ha:MT X a G)(hb:MW X (.BoolOp .Or (b::rest) pos) ψ):MW X (.BoolOp .Or (a::b::rest) pos) (zkj G ψ) :=
 z4y (zEz ha hb) λZ J O Y H b O' Q A e k=>by
  obtain⟨⟨x,O1⟩,e1,e⟩:=zj e;refine⟨Z,J,O,x,O1,A,e1,λZ1 H1 x1 R1=>?_⟩
  cases x with
  |false=>exact So ⟨Z1,J,O1,b,O',A.ext x1 R1,e,λZ2 H2 x2 R2=>k Z2 H2 (x1.trans x2) R2⟩
  |true=>
   cases e;exact Sq (k Z1 H1 x1 R1)
def zTh{G:FT}(ha:MT X a G):MT X (.UnaryOp .Not a pos) (zMi G) :=
 zbw (z2y ha) λZ J O Y H b O' Q A e k=>by
  obtain⟨⟨x,O1⟩,e1,e⟩:=zj e;cases e;exact⟨Z,J,O,x,O1,A,e1,λZ1 H1 x1 R1=>k Z1 H1 x1 R1⟩
structure MAn(X:Cx)(es:Qz)(G:FA):Prop where
 ma:MA X es G
 len:∀J O ds O',G J O=some (ds,O')->ds.length=es.length
@[simp] def zI:FA:=λ_ O=>some ([],O)
@[simp] def zh(G:FE)(ψ:FA):FA:=λJ O=>(G J O).bind λp=>(ψ J p.2).bind λq=>some (p.1::q.1,q.2)
def zf:MAn X [] zI:=⟨zqy zti λZ J O Y H ds O' Q A e k=>by
 cases e;exact k Z H [] Ext.refl A.hp .nil,λ_ _ _ _ e=>by cases e;rfl⟩
def zZx:yE->Bool
 |.Starred ..=>false
 |_=>true
def zRc{e:yE}{es:Qz}{env:Env}(h:zZx e=true):yj (e::es) env=(false,Yd e env)::yj es env:=by
 cases e<;>first|rfl|cases h
def zb{G:FE}{ψ:FA}(ha:ME X e G)(hr:MAn X es ψ)(hs:yj (e::es) X.env=(false,Yd e X.env)::yj es X.env:=by exact zRc rfl):MAn X (e::es) (zh G ψ) :=
 ⟨zqy (zPe ha hr.ma hs) λZ J O Y H ds O' Q A e k=>by
  obtain⟨⟨x,O1⟩,e1,e⟩:=zj e;obtain⟨⟨y,O2⟩,e2,e⟩:=zj e;cases e;refine⟨Z,J,O,x,O1,A,e1,λZ1 H1 v x1 R1 r1=>?_⟩;refine⟨Z1,J,O1,y,O2,A.ext x1 R1,e2,λZ2 H2 u x2 R2 r2=>?_⟩;exact k Z2 H2 _ (x1.trans x2) R2 (.cons (r1.ext x2) r2),λJ O ds O' e=>by
  obtain⟨⟨x,O1⟩,e1,e⟩:=zj e;obtain⟨⟨y,O2⟩,e2,e⟩:=zj e;cases e;have:=hr.len _ _ _ _ e2;simp[this]⟩
@[simp] def zYj(G:FA):FE:=λJ O=>(G J O).bind λp=>some (.tup p.1,p.2)
@[simp] def zpk(G:FA):FE:=λJ O=>(G J O).bind λp=>some (.loc p.2.length,p.2++[.lst p.1])
def zOc{x1}{G:FA}(h:MAn X es G)(hn:es.length<=1000:=by decide):ME X (.Tuple es x1 pos) (zYj G) :=
 zge (z9x h.ma) λZ J O Y H d O' Q A e k=>by
  obtain⟨⟨x,O1⟩,e1,e⟩:=zj e;cases e;refine⟨Z,J,O,x,O1,A,e1,λZ1 H1 vs x1 R1 r1=>⟨?_,λp hp=>?_⟩⟩
  ·rw[<-r1.length,h.len _ _ _ _ e1];exact YQ (sr hn)
  ·exact k Z1 _ _ (x1.trans (Ext.new hp)) (R1.Tt hp) (.tup zy (r1.ext (Ext.new hp)))
def zXc{G:FA}(h:MAn X es G)(hn:es.length<=1000:=by decide):ME X (.List es pos) (zpk G) :=
 zge (zRy h.ma) λZ J O Y H d O' Q A e k=>by
  obtain⟨⟨x,O1⟩,e1,e⟩:=zj e;cases e;refine⟨Z,J,O,x,O1,A,e1,λZ1 H1 vs x1 R1 r1=>⟨?_,λp hp=>?_⟩⟩
  ·rw[<-r1.length,h.len _ _ _ _ e1];exact YQ (sr hn)
  ·exact k _ _ _ (x1.trans (Ext.push hp)) (R1.push hp ⟨vs,zy,r1.ext (Ext.push hp)⟩) (.loc (zub R1))
@[simp] def zx(F:FF)(G:FA):FE:=λJ O=>(G J O).bind λp=>F p.1 p.2
def zEr{k n:Nat}{f:yf}{fd:yV}{ps:Qx}{F:FF}{x:yt}{p:xn}{G:FA}(φ:Te X.prog X.w X.K X.mg X.base CX0 k f fd ps (spM X.K n F))(hr:tQ k X.A)(hm:X.mg x=some (.ref f))(hk:W.keepIn X.K (.ref f)=true)(hb:Binds X.K fd ps [])
 (ha:MAn X (e::es) G) (hn:(e::es).length=n:=by rfl) (hg:Gl X x:=by rfl) (hdb:(x==("__debug__":yt))=false:=by decide) (he:yj (e::es) X.env=(false,Yd e X.env)::yj es X.env:=by exact zRc rfl) (kK:(Yl pos (yj es X.env)).any (·.1)=false:=by rfl) :
 ME X (.Call (.Name x p) (e::es) [] pos) (zx F G) :=
 zge (zdw φ hr hg hm hk hb .nil Sg ha.ma hdb he kK) λZ J O Y H d O' Q A e k=>by
  obtain⟨⟨x,O1⟩,e1,e⟩:=zj e;refine⟨Z,J,O,x,O1,A,e1,λZ1 H1 vs x1 R1 r1=>?_⟩;show spM X.K n F (vs++[]) H1 Q E0;rw[Lf];exact⟨by rw[<-r1.length,ha.len _ _ _ _ e1];exact hn,Z1,x,O1,d,O',r1,R1,e,λZ2 H2 v x2 R2 r2=>k Z2 H2 v (x1.trans x2) R2 r2⟩
abbrev GL:=Wm->Mem->Option (D×Mem)
def rCM(K:yw)(g:GL):Wi->Hp->VK->Prop:=λvs H Q=>∃Z ds O d O',tf K Z H ds vs/\tG K Z H O/\g ds O=some (d,O')/\∀Z' H' v,Ext Z H Z' H'->tG K Z' H' O'->tu K Z' H' d v->Q v H'
def Ta(X:Cx)(f:Value)(g:GL):Prop:=zhl X f (rCM X.K g)
def Ta.of{X:Cx}{f:Value}{g:GL}(h:∀(U:Qb) (s:yc) (Y:L2.St) (H:Hp) (xs:Wi) (us:Qh) (Q:VK),Inv X U Y H s->Vals xs us->∀(Z:Qv)(ds:Wm)(O:Mem)(d:D)(O':Mem),tf X.K Z H ds xs->tG X.K Z H O->g ds O=some (d,O')->(∀Z' H' v,Ext Z H Z' H'->tG X.K Z' H' O'->tu X.K Z' H' d v->Q v H')->yo (yv X.prog X.w) X.A (call f us) (EP X U Y Q) X.xe s):Ta X f g:=by
 intro U s Y H xs us Q I r hh;obtain⟨Z,ds,O,d,O',r1,R,e,k⟩:=hh;exact h U s Y H xs us Q I r Z ds O d O' r1 R e k
def zoA{g:GL}{G:FA}{Z:Qv}{J:Loc}{O:Mem}{Y:L2.St}{H:Hp}{d:D}{O':Mem}{Q:VK}(A:At X.K Z H Y J O)(e:zx g G J O=some (d,O'))
 (k:∀Z' H' v,Ext Z H Z' H'->tG X.K Z' H' O'->tu X.K Z' H' d v->Q v H'):tCB (rCM X.K g) (tMA X.K G) Y H Q:=by
 obtain⟨⟨x,O1⟩,e1,e⟩:=zj e;exact⟨Z,J,O,x,O1,A,e1,λZ1 H1 vs x1 R1 r1=>⟨Z1,x,O1,d,O',r1,R1,e,λZ2 H2 v x2 R2 r2=>k Z2 H2 v (x1.trans x2) R2 r2⟩⟩
def zQ{g:GL}{id:String}{x:yt}{p:xn}{G:FA}(hc:Ta X (.builtin id) g)(hm:X.mg x=none)(hv:yM x=some (.builtin id))(ha:MAn X (e::es) G)(hg:Gl X x:=by rfl)(hn:x≠"__name__":=by decide)(hdb:(x==("__debug__":yt))=false:=by decide)
 (he:yj (e::es) X.env=(false,Yd e X.env)::yj es X.env:=by exact zRc rfl) (kK:(Yl pos (yj es X.env)).any (·.1)=false:=by rfl):ME X (.Call (.Name x p) (e::es) [] pos) (zx g G) :=
 zge (z4p hc hg hm hv ha.ma hn hdb he kK) λ_ _ _ _ _ _ _ _ A e k=>zoA A e k
def zfd{g:GL}{T:String}{x:yt}{p:xn}{G:FA}(hc:Ta X (.type T) g)(hm:X.mg x=none)(hv:yM x=some (.type T))(ha:MAn X (e::es) G)(hg:Gl X x:=by rfl)(hn:x≠"__name__":=by decide)(hdb:(x==("__debug__":yt))=false:=by decide)
 (he:yj (e::es) X.env=(false,Yd e X.env)::yj es X.env:=by exact zRc rfl) (kK:(Yl pos (yj es X.env)).any (·.1)=false:=by rfl):ME X (.Call (.Name x p) (e::es) [] pos) (zx g G) :=
 zge (z6f hc hg hm hv ha.ma hn hdb he kK) λ_ _ _ _ _ _ _ _ A e k=>zoA A e k
variable {K:yw}{Z:Qv}{H:Hp}{O:Mem}
@[simp] def items(O:Mem):D->Option (Wm)
 |.tup ds=>some ds
 |.fz ds=>some ds
 |.loc n=>match O[n]? with
  |some (.lst ds)=>some ds
  |_=>none
 |_=>none
def zjg{d:D}{v:V}{ds:Wm}(R:tG K Z H O)(r:tu K Z H d v)(e:items O d=some ds):∃p vs,v=.ref p/\(SqL K H p vs\/SqT K H p vs)/\tf K Z H ds vs:=by
 unfold items at e
 split at e
 ·cases e;obtain⟨a,vs,e1,e2,q⟩:=r.tR;exact⟨a,vs,e1,.inr (SqT.of e2),q⟩
 ·cases e;obtain⟨a,vs,e1,e2,q⟩:=r.sB;exact⟨a,vs,e1,.inl e2.sq,q⟩
 ·split at e
  ·rename_i h
   cases e;obtain⟨a,e1,e2⟩:=r.tw;obtain⟨vs,e3,q⟩:=R.at_ _ _ _ e2 h;exact⟨a,vs,e1,.inl (SqL.of e3),q⟩
  ·cases e
 ·cases e
@[simp] def gIx:φ2:=λx y O=>match y with
 |.int i=>(items O x).bind λds=>(atI ds i).bind λd=>some (d,O)
 |_=>none
def zex{K:yw}{Z:Qv}{H:Hp}{ds:Wm}{vs:Wi}{i:Int}{d:D}(r:tf K Z H ds vs)(e:atI ds i=some d):∃v,atI vs i=some v/\tu K Z H d v:=by
 unfold atI at e ⊢;rw[r.length]at e;obtain⟨j,e1,e2⟩:=zj e;obtain⟨v,e3,q⟩:=r.get e2;exact⟨v,by rw[e1];exact e3,q⟩
def ixM:IxR X (rM X.K gIx):=by
 intro value slice U s Y H x y v u Q I rx ry ⟨Z,dx,dy,O,d,O',r1,r2,R,e,k⟩ hs;unfold gIx at e
 split at e
 ·obtain⟨ds,e1,e⟩:=zj e;obtain⟨d',e2,e⟩:=zj e;cases e;obtain⟨p,vs,rfl,hq,rr⟩:=zjg R r1 e1;obtain⟨w,e3,q⟩:=zex rr e2;rcases hq with hq|hq
  ·exact znv value slice U s Y H _ y v u Q I rx ry (.inl ⟨p,vs,_,w,rfl,r2.int_inv,hq,e3,k Z H w Ext.refl R q⟩) hs
  ·exact znv value slice U s Y H _ y v u Q I rx ry (.inr (.inl ⟨p,vs,_,w,rfl,r2.int_inv,hq,e3,k Z H w Ext.refl R q⟩)) hs
 ·cases e
def zT(ha:ME X a G)(hb:ME X b ψ)(hs:zto b:=by exact λ_ _=>rfl):ME X (.Subscript a b pos) (zD gIx G ψ) :=
 zge (zAy ixM ha hb hs) λ_ _ _ _ _ _ _ _ A e k=>zqt A e k
@[simp] def z8i:GL:=λds O=>match ds with
 |[d]=>(items O d).bind λxs=>some (.int xs.length,O)
 |_=>none
def z8:Ta X (.builtin "len") z8i:=by
 refine Ta.of λU s Y H xs us Q I r Z ds O d O' r1 R e k=>?_;unfold z8i at e
 split at e
 ·obtain⟨ds,e1,e⟩:=zj e;cases e;obtain⟨v,rr,rfl,q1,q2⟩:=r1.cons_inv;have q2:=q2.nil_inv;subst q2;obtain⟨p,vs,rfl,hq,rr⟩:=zjg R q1 e1;exact zmo U s Y H _ us Q I r ⟨p,vs,rfl,hq,k Z H _ Ext.refl R (by rw[rr.length];exact .int)⟩
 ·cases e
@[simp] def zGq:GL:=λds O=>match ds with
 |[d]=>(items O d).bind λxs=>some (.loc O.length,O++[.lst xs])
 |_=>none
def zFi:Ta X (.type "list") zGq:=by
 refine Ta.of λU s Y H xs us Q I r Z ds O d O' r1 R e k=>?_;unfold zGq at e
 split at e
 ·obtain⟨ds,e1,e⟩:=zj e;cases e;obtain⟨v,rr,rfl,q1,q2⟩:=r1.cons_inv;have q2:=q2.nil_inv;subst q2;obtain⟨p,vs,rfl,hq,rr⟩:=zjg R q1 e1;exact zXi U s Y H _ us Q I r ⟨p,vs,rfl,hq,λl hl=>k _ _ _ (Ext.push hl) (R.push hl ⟨vs,zy,rr.ext (Ext.push hl)⟩) (.loc (zub R))⟩
 ·cases e
@[simp] def zXg:GL:=λds O=>match ds with
 |[.tup xs]=>some (.tup xs,O)
 |[d]=>(items O d).bind λxs=>some (.tup xs,O)
 |_=>none
def zif:Ta X (.type "tuple") zXg:=by
 refine Ta.of λU s Y H xs us Q I r Z ds O d O' r1 R e k=>?_
 have key:∃x ys,ds=[x]/\items O x=some ys/\d=.tup ys/\O'=O:=by
  unfold zXg at e
  split at e
  ·cases e;exact⟨_,_,rfl,rfl,rfl,rfl⟩
  ·obtain⟨ds,e1,e⟩:=zj e;cases e;exact⟨_,_,rfl,e1,rfl,rfl⟩
  ·cases e
 obtain⟨x,ys,rfl,e1,rfl,rfl⟩:=key;obtain⟨v,rr,rfl,q1,q2⟩:=r1.cons_inv;have q2:=q2.nil_inv;subst q2
 cases x with
 |tup zs=>
  cases e1;obtain⟨a,vs,rfl,e2,q⟩:=q1.tR;exact zKf U s Y H _ us Q I r ⟨a,vs,rfl,.inr ⟨SqT.of e2,k Z H _ Ext.refl R q1⟩⟩
 |fz zs=>
  cases e1;obtain⟨a,vs,rfl,e2,q⟩:=q1.sB;exact zKf U s Y H _ us Q I r ⟨a,vs,rfl,.inl ⟨e2.sq,λl hl=>k Z _ _ (Ext.new hl) (R.Tt hl) (.tup zy (q.ext (Ext.new hl)))⟩⟩
 |loc n=>
  unfold items at e1;dsimp only at e1
  split at e1
  ·rename_i h
   cases e1;obtain⟨a,rfl,e2⟩:=q1.tw;obtain⟨vs,e3,q⟩:=R.at_ _ _ _ e2 h;exact zKf U s Y H _ us Q I r ⟨a,vs,rfl,.inl ⟨SqL.of e3,λl hl=>k Z _ _ (Ext.new hl) (R.Tt hl) (.tup zy (q.ext (Ext.new hl)))⟩⟩
  ·cases e1
 |_=>cases e1
end
def zpn{prog:yy}{w:yI}{A:yJ}{R:Result->yc->Prop}{s:yc}{elt target iter:yE}{ifs:Qz}{scope:xS}{pos:xn}{it hZ:Value}{env:Env}(I:Nat->yc->Prop)
 (turn:∀n s,I n s->yo (yv prog w) A (xW it) (λr s₁=>match r with
  |none=>R (.ok .next) s₁
  |some v=>yo (yv prog w) A (letOwnedTupleGo target it v) (λ_ s₁'=>yo (yv prog w) A (assign target env v) (λ_ s₂=>
   yo (yv prog w) A (forIn ifs true λc r=>if r=true then do let ok <-isTrue c env (Yd c env);pure (xa ok) else pure (xa r)) (λok s₃=>
    if ok=true then yo (yv prog w) A (Yd elt env) (λx s₄=>
     yo (yv prog w) A (call (.builtin "list.append") [hZ,x]) (λ_ s₅=>∃m,m<n/\I m s₅) (λ_ _=>False) s₄) (λ_ _=>False) s₃
    else ∃m,m<n/\I m s₃) (λ_ _=>False) s₂) (λ_ _=>False) s₁') (λ_ _=>False) s₁) (λ_ _=>False) s)
 (n:Nat) (h:I n s) :
 xM (yv prog w) A (.compLoop (.ListComp elt [⟨target,iter,ifs,0⟩] scope pos) 0 it hZ env) R s:=by
 refine codeAny_loop rfl I (λn s hI=>?_) n h;show yo _ A ((compTurn (.ListComp elt [⟨target,iter,ifs,0⟩] scope pos) 0 it hZ env).onRaise (λx=>do noteFrame x env;theTreesLotGoes x)) _ _ s;refine wpAny_noted ?_;rw[compTurn_list];refine ya (YW (ya (yU (turn n s hI) (λr s₁ h₁=>?_) λ_ _ h'=>h'.elim)))
 cases r with
 |none=>exact ye h₁
 |some v=>
  refine ya (yU h₁ (λ_ s₁' h₁=>?_) λ_ _ h'=>h'.elim);refine ya (yU h₁ (λ_ s₂ h₂=>ya (yU h₂ (λok s₃ h₃=>?_) λ_ _ h'=>h'.elim)) λ_ _ h'=>h'.elim)
  cases ok with
  |false=>exact ye ⟨rfl,h₃⟩
  |true=>
   exact ya (ya (yU h₃ (λx s₄ h₄=>ya (yU h₄ (λ_ s₅ h₅=>ye (ye ⟨rfl,h₅⟩)) λ_ _ h'=>h'.elim)) λ_ _ h'=>h'.elim))
def z2b(cells:Qa):List (yt×xk)->Qa->Qa
 |[],hZ=>hZ
 |(n,k)::r,hZ=>z2b cells r (if k == .free then(match cells.lookup n with|some c=>(n,c)::hZ|none=>hZ) else hZ)
def zcj{env:Env}:∀(names:List (yt×xk)) (hZ:Qa),(∀x∈names,x.2=.free->∃c,env.cells.lookup x.1=some c) ->
 (forIn names hZ λ(x:yt×xk) (cs:Qa)=>(match x with|(name,kind)=>if kind == .free then do let c <-cellOf env name;pure (xa ((name,c)::cs)) else pure (xa cs):Sem (ForInStep (Qa))))=(pure (z2b env.cells names hZ):Sem (Qa))
 |[],hZ,_=>rfl
 |(n,k)::r,hZ,h=>by
  have ih:=λhZ'=>zcj r hZ' λx hx=>h x (No _ hx);rw[List.forIn_cons]
  by_cases hk:k=.free
  ·subst hk;obtain⟨c,hc⟩:=h (n,.free) Np rfl;have e:cellOf env n=pure c:=by unfold cellOf;rw[hc]
   have:z2b env.cells ((n,yx)::r) hZ=z2b env.cells r ((n,c)::hZ):=by
    show z2b env.cells r (if(yx==yx)=true then(match env.cells.lookup n with|some c=>(n,c)::hZ|none=>hZ) else hZ)=_;rw[hc];rfl
   rw[this,<-ih];show((do let c <-cellOf env n;pure (xa ((n,c)::hZ))) >>= _:Sem _)=_;rw[e];rfl
  ·have hb:(k==yx)=false:=by simpa using hk
   have:z2b env.cells ((n,k)::r) hZ=z2b env.cells r hZ:=by
    show z2b env.cells r (if(k==yx)=true then _ else hZ)=_;rw[hb];rfl
   rw[this,<-ih];simp only[hb,xZ,if_false];rfl
def zvl{scope:xS}{env:Env}(h:∀x∈scope.names,x.2=.free->∃c,env.cells.lookup x.1=some c):closureFor scope env=pure (z2b env.cells scope.names []):=by
 have e:=zcj (env:=env) scope.names [] h;unfold closureFor;show(forIn scope.names [] _ >>= λr=>pure r:Sem _)=_;rw[show(forIn scope.names ([]:Qa) λ(x:yt×xk) (r:Qa)=>(match x with|(name,kind)=>if kind == .free then do let c <-cellOf env name;pure (xa ((name,c)::r)) else pure (xa r):Sem (ForInStep (Qa))))=pure (z2b env.cells scope.names []) from e];rfl
def zVm{cells:Qa}{x:yt}{c:yf}:∀(names:List (yt×xk)) (hZ:Qa),(z2b cells names hZ).lookup x=some c->hZ.lookup x=some c\/cells.lookup x=some c
 |[],_,h =>.inl h
 |(n,k)::r,hZ,h=>by
  rcases zVm r _ h with q|q
  ·by_cases hk:(k==yx)=true
   ·rw[if_pos hk]at q
    cases e:cells.lookup n with
    |none=>rw[e]at q;exact .inl q
    |some a=>
     rw[e]at q;simp only[Na]at q
     by_cases hx:(x==n)=true
     ·rw[hx]at q;have hx':x=n:=by simpa using hx
      subst hx';cases q;exact .inr e
     ·have hx':(x==n)=false:=by simpa using hx
      rw[hx']at q;exact .inl q
   ·rw[if_neg hk]at q;exact .inl q
  ·exact .inr q
def z1s{cells:Qa}{x:yt}:∀(names:List (yt×xk)) (hZ:Qa),(hZ.lookup x).isSome=true->((z2b cells names hZ).lookup x).isSome=true
 |[],_,h=>h
 |(n,k)::r,hZ,h=>by
  refine z1s r _ ?_
  by_cases hk:(k==yx)=true
  ·rw[if_pos hk]
   cases e:cells.lookup n with
   |none=>exact h
   |some a=>
    simp only[Na]
    by_cases hx:(x==n)=true
    ·rw[hx];rfl
    ·have hx':(x==n)=false:=by simpa using hx
     rw[hx'];exact h
  ·rw[if_neg hk];exact h
def zQv{cells:Qa}{x:yt}{c:yf}(hc:cells.lookup x=some c):∀(names:List (yt×xk)) (hZ:Qa),(x,yx)∈names->((z2b cells names hZ).lookup x).isSome=true
 |[],_,h=>by cases h
 |(n,k)::r,hZ,h=>by
  rcases List.mem_cons.mp h with h|h
  ·cases h;refine z1s r _ ?_;rw[if_pos (by rfl),hc];simp[Na]
  ·exact zQv hc r _ h
def cxC(X:Cx)(own:Qx)(fr:Qf)(scope:xS)(cl:Qa)(C:yf)(s₀:yc)(H₀:Hp)(fp:Qv):Cx :=
 {X with N:=own++fr.map λi=>X.N.getD i Str.empty,s₀:=s₀,H₀:=H₀,env:=compEnvC scope cl C X.env,outer:=X.stack,ex:=fp,fn:=λx=>scope.names.lookup x==some .cell,xe:=λ_ _=>False }
def σC(n:Nat)(fr:Qf)(Y:L2.St):L2.St:=yD n none++fr.map λi=>(Y[i]?).getD none
def zIw(Y Y':L2.St):Prop:=Y'.length=Y.length/\∀(i:Nat) v,Y[i]?=some (some v)->Y'[i]?=some (some v)
def PF(X:Cx)(ifs:Qz)(t:TT):Prop:=∀(U:Qb) (s:yc) (Y:L2.St) (H:Hp) (Q:Bool->Hp->Prop),Inv X U Y H s->t Y H Q ->
 yo (yv X.prog X.w) X.A (forIn ifs true λc r=>if r=true then do let ok <-isTrue c X.env (Yd c X.env);pure (xa ok) else pure (xa r)) (TP X U Y Q) X.xe s
def z9y{X:Cx}:PF X [] (λY H Q=>Q true H):=λU s Y H Q I h=>wpAny_tests_nil ⟨H,I,h⟩
def zHx{X:Cx}{c:yE}{t:TT}(h:PT X c t):PF X [c] t:=λU s Y H Q I hw=>wpAny_tests_one (h U s Y H Q I hw)
def tLC(n:Nat)(fr:Qf)(wi:TI)(g:TG)(tc:TT)(te:TE):TE:=λY H Q=>wi Y H λδ H1=>∃W:Nat->Nat->Wi->Hp->Prop,(∃m,W 0 m [] H1)/\∀i m ys H,W i m ys H ->
 (δ.stop i H/\∀p,H p=none->Q (.ref p) (upd H p (.lst ys))) \/
 (δ.go i H/\ys.length<yF/\∀x H',δ.yld i H x H'->g x (σC n fr Y) H' λY2 H2=>zIw (σC n fr Y) Y2/\tc Y2 H2 λb H3=>
  if b=true then te Y2 H3 λy H4=>∃m',m'<m/\W (i+1) m' (ys++[y]) H4 else ∃m',m'<m/\W (i+1) m' ys H3)
section
variable {X:Cx}{own:Qx}{fr:Qf}{scope:xS}{U:Qb}{Y:L2.St}{H:Hp}{s:yc}
def zQe{env:Env}{x:yt}{k:xk}:∀{names:List (yt×xk)},(names.map λ(n,k)=>if(k==yx&&env.scope.kind == .function&&env.kindOf n==some .cell) then(n,yS) else(n,k)).lookup x=some k ->
 (k=.cell\/k=.free)->(x,yx)∈names\/(x,yS)∈names
 |[],h,_=>by simp at h
 |(n,k')::r,h,hk=>by
  rw[Ng]at h
  by_cases hx:x=n
  ·subst hx
   by_cases hb:(k'==yx&&env.scope.kind == .function&&env.kindOf x==some .cell)=true
   ·have:k'=.free:=by
     simp only[yK,beq_iff_eq]at hb;exact hb.1.1
    subst this;exact .inl Np
   ·have h2:((x,k')::r.map λ(n,k)=>if(k==yx&&env.scope.kind == .function&&env.kindOf n==some .cell) then(n,yS) else(n,k)).lookup x=some k:=by
     have e:(if(k'==yx&&env.scope.kind == .function&&env.kindOf x==some .cell)=true then(x,yS) else(x,k'))=(x,k'):=if_neg hb;rw[<-e];exact h
    simp only[Na,beq_self_eq_true]at h2;cases h2;rcases hk with rfl|rfl
    ·exact .inr Np
    ·exact .inl Np
  ·have hx':(x==n)=false:=by simpa using hx
   have h2:(r.map λ(n,k)=>if(k==yx&&env.scope.kind == .function&&env.kindOf n==some .cell) then(n,yS) else(n,k)).lookup x=some k:=by
    by_cases hb:(k'==yx&&env.scope.kind == .function&&env.kindOf n==some .cell)=true
    ·have e:(if(k'==yx&&env.scope.kind == .function&&env.kindOf n==some .cell)=true then(n,yS) else(n,k'))=(n,yS):=if_pos hb;have h3:((n,yS)::r.map λ(n,k)=>if(k==yx&&env.scope.kind == .function&&env.kindOf n==some .cell) then(n,yS) else(n,k)).lookup x=some k:=by rw[<-e];exact h
     simpa only[Na,hx'] using h3
    ·have e:(if(k'==yx&&env.scope.kind == .function&&env.kindOf n==some .cell)=true then(n,yS) else(n,k'))=(n,k'):=if_neg hb;have h3:((n,k')::r.map λ(n,k)=>if(k==yx&&env.scope.kind == .function&&env.kindOf n==some .cell) then(n,yS) else(n,k)).lookup x=some k:=by rw[<-e];exact h
     simpa only[Na,hx'] using h3
   rcases zQe h2 hk with q|q
   ·exact .inl (No _ q)
   ·exact .inr (No _ q)
def z9i{env:Env}{x:yt}:∀{names:List (yt×xk)},names.lookup x=some .free ->
 (names.map λ(n,k)=>if(k==yx&&env.scope.kind == .function&&env.kindOf n==some .cell) then(n,yS) else(n,k)).lookup x=some .cell \/
 (names.map λ(n,k)=>if(k==yx&&env.scope.kind == .function&&env.kindOf n==some .cell) then(n,yS) else(n,k)).lookup x=some .free
 |[],h=>by simp at h
 |(n,k')::r,h=>by
  rw[Ng]
  by_cases hx:x=n
  ·subst hx;simp only[Na,beq_self_eq_true]at h;cases h
   by_cases hb:(yx==yx&&env.scope.kind == .function&&env.kindOf x==some .cell)=true
   ·have e:(if(yx==yx&&env.scope.kind == .function&&env.kindOf x==some .cell)=true then(x,yS) else(x,yx))=(x,yS):=if_pos hb
    left
    show YM x ((if(yx==yx&&env.scope.kind == .function&&env.kindOf x==some .cell)=true then(x,yS) else(x,yx))::_)=_;rw[e];simp[Na]
   ·have e:(if(yx==yx&&env.scope.kind == .function&&env.kindOf x==some .cell)=true then(x,yS) else(x,yx))=(x,yx):=if_neg hb
    right
    show YM x ((if(yx==yx&&env.scope.kind == .function&&env.kindOf x==some .cell)=true then(x,yS) else(x,yx))::_)=_;rw[e];simp[Na]
  ·have hx':(x==n)=false:=by simpa using hx
   simp only[Na,hx']at h;have ih:=z9i (env:=env) h
   have step:∀k,(r.map λ(n,k)=>if(k==yx&&env.scope.kind == .function&&env.kindOf n==some .cell) then(n,yS) else(n,k)).lookup x=some k ->
    YM x ((if(k'==yx&&env.scope.kind == .function&&env.kindOf n==some .cell)=true then(n,yS) else(n,k'))::(r.map λ(n,k)=>if(k==yx&&env.scope.kind == .function&&env.kindOf n==some .cell) then(n,yS) else(n,k)))=some k:=λk hk=>by
     by_cases hb:(k'==yx&&env.scope.kind == .function&&env.kindOf n==some .cell)=true
     ·rw[if_pos hb];simpa only[Na,hx'] using hk
     ·rw[if_neg hb];simpa only[Na,hx'] using hk
   rcases ih with ih|ih
   ·exact .inl (step _ ih)
   ·exact .inr (step _ ih)
def z8o{b:yf}(I:Inv X U Y H s)(h1:b≠X.env.locals)(h2:b∉X.fs):b∉frs X.stack:=λz=>
 (List.mem_cons.mp (I.sK b z)).elim h1 h2
def σC_get{n:Nat}{i:Nat}{v:V}(h:(σC n fr Y)[i]?=some (some v)):n<=i/\∃j,fr[i-n]?=some j/\Y[j]?=some (some v):=by
 unfold σC at h
 by_cases hi:i<n
 ·rw[yg (by simpa using hi),YU]at h
  split at h<;>cases h
 ·have hi:n<=i:=Nat.le_of_not_lt hi;rw[yC (by simpa using hi),Xi,yi]at h
  cases e:fr[i-n]? with
  |none=>rw[e]at h;cases h
  |some j=>
   rw[e]at h;refine⟨hi,j,rfl,?_⟩;have h':(Y[j]?).getD none=some v:=Yj h
   cases e2:Y[j]? with
   |none=>rw[e2]at h';cases h'
   |some o=>rw[e2]at h';exact congrArg some h'
def zLl:∀(names:List (yt×xk)) (n:Nat) (hZ:Qa),Yt n names hZ=Yt n names []++hZ
 |[],n,hZ=>rfl
 |(x,k)::r,n,hZ=>by
  unfold Yt
  split
  ·rw[zLl r (n+1) ((x,n)::hZ),zLl r (n+1) [(x,n)]];simp
  ·exact zLl r n hZ
def zHl:∀(names:List (yt×xk)) (n:Nat) (x:yt) (c:yf),(x,c)∈Yt n names []->n<=c/\(x,yS)∈names
 |[],n,x,c,h=>by cases h
 |(y,k)::r,n,x,c,h=>by
  unfold Yt at h
  split at h
  ·rename_i hk
   rw[zLl]at h;rcases List.mem_append.mp h with h|h
   ·obtain⟨h1,h2⟩:=zHl r (n+1) x c h;exact⟨Nat.le_of_succ_le h1,No _ h2⟩
   ·have e:(x,c)=(y,n):=by simpa using h
    cases e;rw[beq_iff_eq.mp hk];exact⟨yh _,Np⟩
  ·obtain⟨h1,h2⟩:=zHl r n x c h;exact⟨h1,No _ h2⟩
def zep{names:List (yt×xk)}{n:Nat}{hZ:Qa}{x:yt}{c:yf}(h:(Yt n names hZ).lookup x=some c):(Yt n names []).lookup x=some c\/((Yt n names []).lookup x=none/\hZ.lookup x=some c):=by
 rw[zLl,List.lookup_append]at h
 cases e:(Yt n names []).lookup x with
 |none=>rw[e]at h;exact .inr ⟨rfl,h⟩
 |some d=>rw[e]at h;exact .inl h
def zwx{names:List (yt×xk)}{n:Nat}{x:yt}(hn:∀y∈names,names.lookup y.1=some y.2)(h:(x,yx)∈names):(Yt n names []).lookup x=none:=by
 cases e:(Yt n names []).lookup x with
 |none=>rfl
 |some c=>
  have h1:=hn _ (zHl _ _ _ _ (Yg e)).2;have h2:=hn _ h;rw[h1]at h2;cases h2
def zsu{fp:Qv}{D C:yf}{lo:Nat}{h1:yT}{t:Nat}{mC:yt->Qi}{oD:YS}(I:Inv X U Y H s)(hf:∀b∈fp,zPp X U H b)(hfl:∀b∈fp,b<s.heap.objs.size)
 (hk:scope.kind=.function) (hnm:∀y∈scope.names,scope.names.lookup y.1=some y.2) (kM:∀x∈scope.names,x.2=.free->(X.env.kindOf x.1=some .cell\/X.env.kindOf x.1=some .free))
 (kP:∀i∈fr,∃x,X.N[i]?=some x/\scope.names.lookup x=some .free) (hlo:C<lo) (hOC:CellsOk h1 lo (Yt lo scope.names []))
 (old:∀b o,s.heap.get? b=some o->h1.get? b=some o) (hD:s.heap.objs.size<=D) (hC:s.heap.objs.size<=C) (hDC:D≠C) (hDlo:D<lo) (eD:h1.get? D=some oD) (dD:∀v,oD.data≠.cell v) (nC:h1.Ns C mC) :
 Inv (cxC X own fr scope (Yt lo scope.names (z2b X.env.cells scope.names [])) C s H fp) (U++[(D,oD)]) (σC own.length fr Y) H {s with heap:=h1,toks:=t }:=by
 have cl1:∀x c,(z2b X.env.cells scope.names []).lookup x=some c->X.env.cells.lookup x=some c:=λx c e=>by
  rcases zVm _ _ e with q|q
  ·cases q
  ·exact q
 have clH:∀x,(x,yx)∈scope.names->∃c,(Yt lo scope.names (z2b X.env.cells scope.names [])).lookup x=some c/\X.env.cells.lookup x=some c:=λx hx=>by
  obtain⟨c,hc⟩:=I.ok.has x (kM _ hx rfl);obtain⟨c',hc'⟩:=Option.isSome_iff_exists.mp (zQv hc scope.names [] hx);exact⟨c',by rw[zLl,List.lookup_append,zwx hnm hx];exact hc',cl1 _ _ hc'⟩
 have two:∀x c,(Yt lo scope.names (z2b X.env.cells scope.names [])).lookup x=some c->((Yt lo scope.names []).lookup x=some c/\lo<=c)\/X.env.cells.lookup x=some c:=λx c e=>by
  rcases zep e with q|⟨_,q⟩
  ·exact .inl ⟨q,(zHl _ _ _ _ (Yg q)).1⟩
  ·exact .inr (cl1 _ _ q)
 have oldc:∀x c,X.env.cells.lookup x=some c->c<s.heap.objs.size:=λx c e=>by
  obtain⟨v,o,ho,_⟩:=I.cell x c e;exact yn ho
 have hslo:s.heap.objs.size<=lo:=yG hC (YQ hlo)
 refine⟨⟨I.ok.mod,hk,I.ok.glob,I.ok.blt,hC,λx y c e1 e2=>?inj,λx hx=>?_,λx c hx e=>?cab,I.ok.hd,I.ok.frames,.inl rfl,λb hb=>⟨?_,λx c e=>?exf⟩,I.bs,yG I.ok.bsz I.sz,λb o e hb=>?_,λb hb=>?_,I.stack,I.TK⟩,
  rfl,I.bare,Un.kept old,⟨mC,nC,λi x v h1 h2 h3=>?_⟩,λx c e=>?cell,I.hok.fresh hC,λx c e=>?freeC,λp hp=>?_,I.hok.kept old,?_⟩
 case inj=>
  rcases two x c e1 with ⟨q1,l1⟩|q1
  ·rcases two y c e2 with ⟨q2,_⟩|q2
   ·exact name_of_addr hOC.apart (Yg q1) (Yg q2)
   ·exact absurd (yz (oldc y c q2) (yG hslo l1)) (yW _)
  ·rcases two y c e2 with ⟨_,l2⟩|q2
   ·exact absurd (yz (oldc x c q1) (yG hslo l2)) (yW _)
   ·exact I.ok.inj x y c q1 q2
 case cab=>
  have hx:(scope.names.lookup x==some .cell)=true:=hx;obtain⟨d,hd⟩:=Option.isSome_iff_exists.mp (W.cellsFrom_some scope.names lo [] (.inl (beq_iff_eq.mp hx)));rcases zep (show(Yt lo scope.names (z2b X.env.cells scope.names [])).lookup x=some c from e) with q|⟨q,_⟩
  ·exact yG hslo (zHl _ _ _ _ (Yg q)).1
  ·rw[q]at hd;cases hd
 case exf=>
  rcases two x c e with ⟨_,l⟩|q
  ·exact yX (yz (hfl b hb) (yG hslo l))
  ·exact(hf b hb).2.2.2.2.1 x c q
 case cell=>
  rcases two x c e with ⟨q,_⟩|q
  ·exact⟨none,(hOC.empty x c (Yg q)).1⟩
  ·obtain⟨v,o,ho,hd⟩:=I.cell x c q;exact⟨v,o,old _ _ ho,hd⟩
 case freeC=>
  rcases two x c e with ⟨_,l⟩|q
  ·exact I.hok.fresh (yG hslo l)
  ·exact I.freeC x c q
 ·have hx':(relabel scope X.env).names.lookup x=some .cell\/(relabel scope X.env).names.lookup x=some .free:=hx
  have hm:(x,yx)∈scope.names\/(x,yS)∈scope.names:=by
   rcases hx' with h|h
   ·exact zQe (env:=X.env) h (.inl rfl)
   ·exact zQe (env:=X.env) h (.inr rfl)
  rcases hm with hm|hm
  ·obtain⟨c,e,_⟩:=clH x hm;exact⟨c,e⟩
  ·exact Option.isSome_iff_exists.mp (W.cellsFrom_some scope.names lo _ (.inl (hnm _ hm)))
 ·exact yu (yz (hfl b hb) hC)
 ·rcases(hf b hb).2.2.2.1 with z|z
  ·exact I.ok.Sn b o e z
  ·exact absurd (yz (yn e) (yG I.ok.bsz z)) (yW _)
 ·exact z8o I (hf b hb).2.1 (hf b hb).2.2.1
 ·obtain⟨hi,j,e1,e2⟩:=σC_get h2;have hjm:j∈fr:=Nt e1;obtain⟨y,ey,ly⟩:=kP j hjm
  have hxy:x=y:=by
   have h1':(own++fr.map λi=>X.N.getD i Str.empty)[i]?=some x:=h1;rw[yC hi,yi,e1]at h1';have h1'':X.N.getD j Str.empty=x:=Yj h1';rw[Lp,ey]at h1'';exact h1''.symm
  subst hxy;have hm:(x,yx)∈scope.names:=Yg ly
  have hv:Vis X.env.scope x:=by
   rcases kM _ hm rfl with q|q
   ·exact .inr (.inl q)
   ·exact .inr (.inr q)
  obtain⟨m,hn,hl⟩:=id I.loc;obtain⟨u,ru,q⟩:=hl j x v ey e2 hv;obtain⟨c,c1,c2⟩:=clH x hm;refine⟨u,ru,.inr ⟨z9i (env:=X.env) ly,c,c1,?_⟩⟩;rcases q with ⟨k,_⟩|⟨k,c',e',z⟩
  ·rcases kM _ hm rfl with q|q
   ·rw[show X.env.kindOf (x,yx).1=X.env.kindOf x from rfl,k]at q;cases q
   ·rw[show X.env.kindOf (x,yx).1=X.env.kindOf x from rfl,k]at q;cases q
  ·rw[c2]at e';cases e';obtain⟨o,ho,hd⟩:=z;exact⟨o,old _ _ ho,hd⟩
 ·have hp':p∈X.pn++(U++[(D,oD)]):=hp;rw[<-Le]at hp';rcases List.mem_append.mp hp' with hp'|hp'
  ·obtain⟨a1,a2,a3,a4,a5⟩:=I.pin p hp';exact⟨old _ _ a1,a2,yu (yz (yn a1) hC),z8o I a3 a4,a5⟩
  ·have:p=(D,oD):=by simpa using hp'
   subst this;refine⟨eD,I.hok.fresh hD,hDC,λz=>?_,dD⟩;rcases List.mem_cons.mp (I.sK _ z) with z|z
   ·exact absurd (yz I.lt (z▸hD)) (yW _)
   ·exact I.nofs hD z
 ·show(σC own.length fr Y).length=(own++fr.map λi=>X.N.getD i Str.empty).length;unfold σC;simp
end
def HOk.Sx{P:yy}{w:yI}{H:Hp}{h:yT}{a:yf}{o:HO}(x:HOk P w H h)(hn:H a=none)(new:tF P w (upd H a o) h a o):HOk P w (upd H a o) h:=λb u e=>by
 by_cases hb:b=a
 ·subst hb;rw[zy]at e;cases e;exact new
 ·rw[zE hb]at e;exact(x b u e).stay (λc v _ q=>q) (λc q=>by rw[zE (zH q hn)];exact q) λc xs q=>by rw[zE (zH q hn)];exact q
def newEnvC{M:Model}{A:yJ}{E:Value->yc->Prop}{s:yc}{scope:xS}{globals:yf}{cl:Qa}{qual:yt}{env:Env}{Q:Env->yc->Prop}
 (hQ:Q (newEnv scope s.heap.objs.size globals (Yt (s.heap.objs.size+1) scope.names cl) qual none .none (some env) builtinsNs) {s with heap:=pushCells (s.heap.push {cls:=.type "dict",data:=.dict #[]}) scope.names }) :
 yo M A (newFunctionEnv scope globals cl [] qual none .none (some env)) Q E s:=by
 simp only[newFunctionEnv,Option.isSome_some,if_true];refine ya (wpAny_alloc ?_);refine ya (wpAny_layCells _ (λname kind cells=>by cases hkc:kind==yS<;>simp[hkc]) _ _ _ _ ?_);rw[show({s with heap:=s.heap.push {cls:=.type "dict",data:=.dict #[]}}:yc).heap.objs.size=s.heap.objs.size+1 from Yu ..];refine ya ?_;rw[List.forIn_nil];exact ye (ye hQ)
section
variable {X:Cx}{own:Qx}{fr:Qf}{scope:xS}
structure Sa(X:Cx)(U:Qb)(Y:L2.St)(H:Hp)(ys:Wi)(D C:yf)(s:yc):Prop where
 inv:Inv X U Y (upd H D (.lst ys)) s
 free:H D=none
 freeC:upd H D (.lst ys) C=none
 own:∃m,s.heap.Ns C m
 notL:C≠X.env.locals
 young:X.s₀.heap.objs.size<=C
 sN:∀x c,X.env.cells.lookup x=some c->c≠C
 Sy:∀p∈X.pn++U,p.1≠C
def zQr{elt tg iter:yE}{ifs:Qz}{pos:xn}{g:TG}{tc:TT}{te:TE}{U:Qb}{Y:L2.St}{s2:yc}{Qn:Wi->Hp->Prop}{itv:Value}{RR:Value->yf->Result->yc->Prop}(own:Qx)(fr:Qf)(hc:X.calm=true)
 (hg:∀cl C s₀ H₀ fp,PG (cxC X own fr scope cl C s₀ H₀ fp) tg g) (hq:∀cl C s₀ H₀ fp,PF (cxC X own fr scope cl C s₀ H₀ fp) ifs tc) (he:∀cl C s₀ H₀ fp,PE (cxC X own fr scope cl C s₀ H₀ fp) elt te)
 (hk:scope.kind=.function) (hnm:∀y∈scope.names,scope.names.lookup y.1=some y.2)
 (kM:∀x∈scope.names,x.2=.free->(X.env.kindOf x.1=some .cell\/X.env.kindOf x.1=some .free)) (kP:∀i∈fr,∃x,X.N[i]?=some x/\scope.names.lookup x=some .free)
 (h2:PIE X U Y tg (λδ H1=>∃W:Nat->Nat->Wi->Hp->Prop,(∃m,W 0 m [] H1)/\∀i m ys H,W i m ys H ->
  (δ.stop i H/\Qn ys H)\/(δ.go i H/\ys.length<yF/\∀x H',δ.yld i H x H'->g x (σC own.length fr Y) H' λY2 H2=>zIw (σC own.length fr Y) Y2/\tc Y2 H2 λb H3=>
   if b=true then te Y2 H3 λy H4=>∃m',m'<m/\W (i+1) m' (ys++[y]) H4 else ∃m',m'<m/\W (i+1) m' ys H3)) itv s2)
 (fin:∀ys H D C s4,Qn ys H->Sa X U Y H ys D C s4->RR (.ref D) C (.ok .next) s4) :
 yo (yv X.prog X.w) X.A (newList []) (λhZ s₃=>yo (yv X.prog X.w) X.A (newFunctionEnv scope X.env.globals (z2b X.env.cells scope.names []) [] X.env.qual none .none (some X.env)) (λcenv s₄=>
  xM (yv X.prog X.w) X.A (.compStart (.ListComp elt [⟨tg,iter,ifs,0⟩] scope pos) 0 itv hZ {cenv with scope:=relabel scope X.env }) (RR hZ cenv.locals) s₄) X.xe s₃) X.xe s2:=by
 obtain⟨it,fp,tn,δ,H2,e,I2,T,st2,f2,W,⟨m0,w0⟩,turn⟩:=h2;subst e
 have hfl:∀b∈fp,b<s2.heap.objs.size:=λb hb=>by
  obtain⟨o,e,_⟩:=T.obj _ _ st2 b hb;exact yn e
 refine yY (newEnvC ?_);dsimp only;generalize hH2:s2.heap.push {cls:=.type "list",dict:=none,data:=.seq ([]:Qh).toArray } = φ2;have hC:φ2.objs.size=s2.heap.objs.size+1:=by rw[<-hH2,Yu]
 have hDC:s2.heap.objs.size≠φ2.objs.size:=by rw[hC];exact yu (Ye _)
 have hCle:s2.heap.objs.size<=φ2.objs.size:=by rw[hC];exact xU _
 have below:∀b,b<s2.heap.objs.size->b≠φ2.objs.size/\b≠s2.heap.objs.size:=λb hb=>⟨by rw[hC];exact yu (YC hb),yu hb⟩
 have hns₁:(pushCells (φ2.push {cls:=.type "dict",data:=.dict #[]}) scope.names).Ns φ2.objs.size (λ_=>none):=(Heap.Ns.new φ2 (.type "dict")).keeps λb o e=>pushCells_keeps _ _ _ _ e
 have hok₁:CellsOk (pushCells (φ2.push {cls:=.type "dict",data:=.dict #[]}) scope.names) (φ2.objs.size+1) (Yt (φ2.objs.size+1) scope.names []):=by
  have:=cellsFrom_ok scope.names (φ2.push {cls:=.type "dict",data:=.dict #[]}) (φ2.objs.size+1) [] ⟨λ_ _ hm=>(nomatch hm),List.Pairwise.nil⟩ (by rw[Yu];exact yh _);rw[Yu]at this;exact this
 have hk₁:∀b o,φ2.get? b=some o->(pushCells (φ2.push {cls:=.type "dict",data:=.dict #[]}) scope.names).get? b=some o:=λb o e=>pushCells_keeps _ _ _ _ (yb _ e);generalize pushCells (φ2.push {cls:=.type "dict",data:=.dict #[]}) scope.names=h₁ at hns₁ hok₁ hk₁ ⊢;have old:∀b o,s2.heap.get? b=some o->h₁.get? b=some o:=λb o e=>hk₁ b o (hH2▸yb _ e);have hacc:h₁.get? s2.heap.objs.size=some {cls:=.type "list",data:=.seq ([]:Qh).toArray 0 }:=hk₁ _ _ (hH2▸yq _ rfl);generalize hXC:cxC X own fr scope (Yt (φ2.objs.size+1) scope.names (z2b X.env.cells scope.names [])) φ2.objs.size s2 H2 fp=XC;have eenv:compEnvC scope (Yt (φ2.objs.size+1) scope.names (z2b X.env.cells scope.names [])) φ2.objs.size X.env=XC.env:=by rw[<-hXC];rfl
 have eprog:XC.prog=X.prog:=by rw[<-hXC];rfl
 have ew:XC.w=X.w:=by rw[<-hXC];rfl
 have eA:XC.A=X.A:=by rw[<-hXC];rfl
 have eK:XC.K=X.K:=by rw[<-hXC];rfl
 have ecalm:XC.calm=true:=by rw[<-hXC];exact hc
 have exe:XC.xe=λ_ _=>False:=by rw[<-hXC];rfl
 have eloc:XC.env.locals=φ2.objs.size:=by rw[<-hXC];rfl
 have eex:XC.ex=fp:=by rw[<-hXC];rfl
 have efs:XC.fs=frs X.stack:=by rw[<-hXC];rfl
 have es0:XC.s₀=s2:=by rw[<-hXC];rfl
 have eH0:XC.H₀=H2:=by rw[<-hXC];rfl
 have epn:XC.pn=X.pn:=by rw[<-hXC];rfl
 have ecells:∀x c,XC.env.cells.lookup x=some c->X.env.cells.lookup x=some c\/φ2.objs.size<c:=λx c e=>by
  rw[<-hXC]at e;rcases zep (show(Yt (φ2.objs.size+1) scope.names (z2b X.env.cells scope.names [])).lookup x=some c from e) with q|⟨_,q⟩
  ·exact .inr (zHl _ _ _ _ (Yg q)).1
  ·rcases zVm _ _ q with q|q
   ·cases q
   ·exact .inl q
 have hg':PG XC tg g:=hXC▸hg _ _ _ _ _;have hq':PF XC ifs tc:=hXC▸hq _ _ _ _ _;have he':PE XC elt te:=hXC▸he _ _ _ _ _
 have fpok:∀{H':Hp} {pl:Qb},(∀b∈fp,H' b=none)->(∀p∈pl,p.1=s2.heap.objs.size)->∀b∈fp,zPp XC (U++pl) H' b:=λ{H' pl} hn kK b hb=>by
  obtain⟨_,f2,f3,f4,f5,f6⟩:=f2 b hb;refine⟨hn b hb,by rw[eloc];exact(below b (hfl b hb)).1,by rw[efs];exact z8o I2 f2 f3,.inl (by rw[eex];exact hb),λx c e=>?c5,λp hp=>?_⟩
  case c5=>
   rcases ecells x c e with q|q
   ·exact f5 x c q
   ·exact yX (yz (hfl b hb) (yG hCle (YQ q)))
  rw[epn,<-Le]at hp;rcases List.mem_append.mp hp with hp|hp
  ·exact f6 p hp
  ·rw[kK p hp];exact yR (below b (hfl b hb)).2
 have loop:∀s₃:yc,s₃ = {s2 with heap:=h₁ } ->
  xM (yv X.prog X.w) X.A (.compLoop (.ListComp elt [⟨tg,iter,ifs,0⟩] scope pos) 0 (.ref it) (.ref s2.heap.objs.size) (compEnvC scope (Yt (φ2.objs.size+1) scope.names (z2b X.env.cells scope.names [])) φ2.objs.size X.env))
   (RR (.ref s2.heap.objs.size) φ2.objs.size) s₃:=by
  rintro s₃ rfl;have I0:=zsu (own:=own) (fr:=fr) (t:=s2.toks) (lo:=φ2.objs.size+1) I2 f2 hfl hk hnm kM kP (Ye _) hok₁ old (yh _) hCle hDC (Nat.lt_succ_of_le hCle) hacc (by intro v z;cases z) hns₁;rw[hXC]at I0
  refine zpn (λn s'=>∃(i:Nat)(ys:Wi)(hJ:Qm)(k:Nat)(H':Hp),Inv XC (U++[(s2.heap.objs.size,({cls:=.type "list",data:=.seq hJ k }:YS))]) (σC own.length fr Y) H' s'/\Vals ys hJ.toList/\ys.length<=yF/\tn i s'.heap/\(∀b∈fp,H' b=none)/\W i n ys H') ?_ m0
   ⟨0,[],#[],0,H2,I0,.nil,Ys _,T.keep _ _ _ st2 (λb hb o e=>old b o e),λb hb=>(f2 b hb).1,w0⟩
  rintro n s3 ⟨i,ys,hJ,kk,H3,I3,rv,hz,st3,fr3,w3⟩
  have pl1:∀p∈[(s2.heap.objs.size,({cls:=.type "list",data:=.seq hJ kk }:YS))],p.1=s2.heap.objs.size:=λp hp=>by
   rw[List.mem_singleton.mp hp]
  rcases turn i n ys H3 w3 with ⟨stop,qn⟩|⟨go,kH,step⟩
  ·have td:=T.done XC eprog ew eK ecalm i _ s3 _ H3 (λ_ _=>False) I3 (fpok fr3 pl1) st3 stop;rw[eA]at td;refine thn td λr s4 ⟨hr,I4⟩=>?_;subst hr;obtain⟨m,hn,_⟩:=id I4.loc;rw[eloc]at hn;obtain⟨p1,p2,p3,p4,p5⟩:=I4.pin (s2.heap.objs.size,_) (Nm _ (Nm _ Np));have hnC:H3 φ2.objs.size=none:=by have:=I4.free;rw[eloc]at this;exact this
   have hokf:HOk X.prog X.w (upd H3 s2.heap.objs.size (.lst ys)) s4.heap:=by
    refine HOk.Sx (by have:=I4.hok;rw[eprog,ew]at this;exact this) p2 ⟨hz,hJ.toList,kk,rv,by simpa using p1⟩
   have u0:Un (frs X.stack) fp H2 H3 s2.heap s4.heap:=by
    have:=I4.base;rw[efs,eex,es0,eH0]at this;exact this
   have u1:Un (frs X.stack) fp H2 (upd H3 s2.heap.objs.size (.lst ys)) s2.heap s4.heap:=by
    have bd:∀b o,s2.heap.get? b=some o->b≠s2.heap.objs.size:=λb o e=>(below b (yn e)).2;refine⟨u0.keep,u0.slot,λb o e n hx=>by rw[zE (bd b o e)];exact u0.free b o e n hx,u0.there,λb xs e=>?_,λb o u e=>?_,λb ps e=>?_⟩
    ·have q:=u0.tups b xs e;rw[zE (zH q p2)];exact q
    ·have q:=u0.Tx b o u e;rw[zE (zH q p2)];exact q
    ·obtain⟨more,q⟩:=u0.TJ b ps e;exact⟨more,by rw[zE (zH q p2)];exact q⟩
   have os4:s4.os=s2.os:=by have:=I4.os;rw[es0]at this;exact this
   have IF:Inv X U Y (upd H3 s2.heap.objs.size (.lst ys)) {s2 with heap:=s4.heap,gens:=s4.gens,drawn:=s4.drawn,toks:=s4.toks } :=
    I2.call (h':=s4.heap) (ch:=fp) u1 hokf I4.bare λb hb=>by
     obtain⟨_,f2,f3,f4,f5,f6⟩:=f2 b hb;exact⟨f4,f2,f5,f6⟩
   have es:s4 = {s2 with heap:=s4.heap,gens:=s4.gens,drawn:=s4.drawn,toks:=s4.toks }:=by
    obtain⟨a1,a2,a3,a4,a5⟩:=s4;have:a5=s2.os:=os4;subst this;rfl
   rw[<-es]at IF;refine fin ys H3 _ _ s4 qn ⟨IF,p2,by rw[zE (yR hDC)];exact hnC,⟨m,hn⟩,yR (below _ I2.lt).1,yG I2.sz hCle,λx c e=>?_,λp hp=>?_⟩
   ·obtain⟨v,o,ho,_⟩:=I2.cell x c e;exact(below c (yn ho)).1
   ·exact(below p.1 (yn (I2.pin p hp).1)).1
  ·have td:=T.item XC eprog ew eK ecalm i _ s3 _ H3 (λ_ _=>False) I3 (fpok fr3 pl1) st3 go;rw[eA]at td;refine thn td λr s4 ⟨u,hr,h4⟩=>?_;subst hr;refine thn h4 λ_ s5 ⟨x,H5,I5,r5,y5,st5,fr5⟩=>?_;have I5':=I5.pinned (fpok fr5 pl1) (T.obj _ _ st5);have hgw:=hg' _ s5 _ H5 x u _ I5' r5 (step x H5 y5);rw[exe,eprog,ew,eA]at hgw;rw[eenv];refine thn hgw λ_ s6 ⟨Y6,H6,I6,⟨hsl,kU⟩,q6⟩=>?_;have hqw:=hq' _ s6 Y6 H6 _ I6 q6;rw[exe,eprog,ew,eA]at hqw;refine thn hqw λok s7 ⟨H7,I7,q7⟩=>?_
   have back:∀{H8:Hp} {s8:yc},Inv XC (U++[(s2.heap.objs.size,({cls:=.type "list",data:=.seq hJ kk }:YS))]++zIn fp s5.heap) Y6 H8 s8 ->
    Inv XC (U++[(s2.heap.objs.size,({cls:=.type "list",data:=.seq hJ kk }:YS))]) (σC own.length fr Y) H8 s8/\tn (i+1) s8.heap/\∀b∈fp,H8 b=none:=λ{H8 s8} I8=>by
    refine⟨I8.TR.weak hsl.symm kU,T.keep _ _ _ st5 λb hb o e=>(I8.pin (b,o) (Nm _ (Nm _ (zEg hb e)))).1,λb hb=>?_⟩;obtain⟨o,e,d⟩:=T.obj _ _ st5 b hb;exact(I8.pin (b,o) (Nm _ (Nm _ (zEg hb e)))).2.1
   cases ok with
   |false=>
    have q7':∃m',m'<n/\W (i+1) m' ys H7:=by simpa using q7
    rw[if_neg yA];obtain⟨m',hm,w7⟩:=q7';obtain⟨δ1,δ2,δ3⟩:=back I7;exact⟨m',hm,i+1,ys,hJ,kk,H7,δ1,rv,hz,δ2,δ3,w7⟩
   |true=>
    rw[if_pos rfl]at q7 ⊢;have hew:=he' _ s7 Y6 H7 _ I7 q7;rw[exe,eprog,ew,eA]at hew;refine thn hew λy s8 ⟨vy,H8,I8,r8,m',hm,w8⟩=>?_;obtain⟨δ1,δ2,δ3⟩:=back I8;obtain⟨p1,p2,p3,p4,p5⟩:=δ1.pin (s2.heap.objs.size,_) (Nm _ (Nm _ Np));have hil:hJ.size=ys.length:=by rw[rv.length];simp
    refine append_at (hsz:=by rw[hil];exact hz) p1 λh9 sb9 e9=>?_;have Df:s2.heap.objs.size∉fp:=λz=>absurd (hfl _ z) (yW _);have δ0:Inv XC U (σC own.length fr Y) H8 s8:=δ1.TR
    have δ9:Inv XC U (σC own.length fr Y) H8 {s8 with heap:=h9 }:=by
     refine δ0.turned (t':=s8.toks) (it:=s2.heap.objs.size) (λb o hb e=>(sb9.2 b hb).trans e) p2 p3 (.inr (by rw[es0];exact yh _)) (λx c e z=>?_) (λp hp z=>?_)
     ·rcases ecells x c e with q|q
      ·obtain⟨v,o,ho,_⟩:=I2.cell x c q;exact(below c (yn ho)).2 z
      ·exact yX (Nat.lt_of_le_of_lt hCle q) z
     ·rw[epn]at hp;exact(below p.1 (yn (I2.pin p hp).1)).2 z
    refine⟨m',hm,i+1,ys++[vy],hJ.push y,kk+1,H8,δ9.sL λp hp=>?_,?_,by simp;exact kH,T.keep _ _ _ δ2 (λb hb o e=>(sb9.2 b (λz=>Df (z▸hb))).trans e),δ3,w8⟩
    ·rcases List.mem_append.mp hp with hp|hp
     ·exact δ9.pin p (Nm _ hp)
     ·have e:=List.mem_singleton.mp hp;subst e;exact⟨e9,p2,p3,p4,by intro v z;cases z⟩
    ·rw[Array.toList_push];exact rv.append (.cons r8 .nil)
 exact codeAny_compStart_list (loop _ rfl) (T.self X.A 0 _ _ _ (T.keep _ _ _ st2 λb hb o e=>old b o e) (loop _ rfl))
def Sa.gone{U:Qb}{Y:L2.St}{H:Hp}{ys:Wi}{D C:yf}{s:yc}(w:Sa X U Y H ys D C s){h':yT}(sb:Yq C s.heap h'):Inv X U Y (upd H D (.lst ys)) {s with heap:=h' } :=
 w.inv.turned (t':=s.toks) (λb o hb e=>(sb.2 b hb).trans e) w.freeC (yR (yR w.notL)) (.inr w.young) w.sN w.Sy
def zOz{elt tg iter:yE}{ifs:Qz}{pos:xn}{wi:TI}{g:TG}{tc:TT}{te:TE}(own:Qx)(fr:Qf)(hc:X.calm=true)(hi:PI X tg iter wi)
 (hg:∀cl C s₀ H₀ fp,PG (cxC X own fr scope cl C s₀ H₀ fp) tg g) (hq:∀cl C s₀ H₀ fp,PF (cxC X own fr scope cl C s₀ H₀ fp) ifs tc) (he:∀cl C s₀ H₀ fp,PE (cxC X own fr scope cl C s₀ H₀ fp) elt te)
 (hk:scope.kind=.function) (hnm:∀y∈scope.names,scope.names.lookup y.1=some y.2)
 (kM:∀x∈scope.names,x.2=.free->(X.env.kindOf x.1=some .cell\/X.env.kindOf x.1=some .free)) (kP:∀i∈fr,∃x,X.N[i]?=some x/\scope.names.lookup x=some .free)
 (hs:∀x,YH iter X.env x=pure x:=by intro _;rfl):PE X (.ListComp elt [⟨tg,iter,ifs,0⟩] scope pos) (tLC own.length fr wi g tc te):=by
 intro U s Y H Q I h;rw[eval_ListComp];have hclos:closureFor scope X.env=pure (z2b X.env.cells scope.names []):=zvl λx hx e=>I.ok.has x.1 (kM x hx e);refine wpAny_comprehension_free (use:=none) rfl hs hclos hk (λx hx e=>by rw[hnm x hx,e]) ?_;show yo _ _ (Yd iter X.env) _ _ s;refine thn (hi U s Y H _ I h) λv s1 h1=>thn h1 λitv s2 h2=>?_;refine zQr (RR:=λhZ C=>compPost (yv X.prog X.w) X.A X.xe none (EP X U Y Q) hZ C) own fr hc hg hq he hk hnm kM kP h2 λys H3 D C s4 q w=>?_;obtain⟨m,hn⟩:=w.own;exact⟨m,hn,λh' sb=>⟨.ref D,_,w.gone sb,rfl,q D w.free⟩⟩
def zau{elt tg iter:yE}{ifs:Qz}{pos spos py:xn}{wi:TI}{g:TG}{tc:TT}{te:TE}{y:yt}{i:Nat}(own:Qx)(fr:Qf)(hN:X.N.Nodup)(hiN:X.N[i]?=some y)(hy:X.env.scope.names.lookup y=some .local)(hc:X.calm=true)(hi:PI X tg iter wi)
 (hsw:xD (.ListComp elt [⟨tg,iter,ifs,0⟩] scope pos) (some (.Name y py)) spos.line X.env=pure true)
 (hg:∀cl C s₀ H₀ fp,PG (cxC X own fr scope cl C s₀ H₀ fp) tg g) (hq:∀cl C s₀ H₀ fp,PF (cxC X own fr scope cl C s₀ H₀ fp) ifs tc) (he:∀cl C s₀ H₀ fp,PE (cxC X own fr scope cl C s₀ H₀ fp) elt te)
 (hk:scope.kind=.function) (hnm:∀y∈scope.names,scope.names.lookup y.1=some y.2)
 (kM:∀x∈scope.names,x.2=.free->(X.env.kindOf x.1=some .cell\/X.env.kindOf x.1=some .free)) (kP:∀i∈fr,∃x,X.N[i]?=some x/\scope.names.lookup x=some .free)
 (hs:∀x,YH iter X.env x=pure x:=by intro _;rfl):PS X (.Assign [.Name y py] (.ListComp elt [⟨tg,iter,ifs,0⟩] scope pos) spos) (zlA (tLC own.length fr wi g tc te) (zVw i)):=by
 intro U s Y H E I h;rw[exec_Assign_Name_used _ _ _ _ hsw];refine ya (YW (ya ?_));have hclos:closureFor scope X.env=pure (z2b X.env.cells scope.names []):=zvl λx hx e=>I.ok.has x.1 (kM x hx e);show yo _ X.A (do let _ <-comprehension (.ListComp elt [⟨tg,iter,ifs,0⟩] scope pos) scope X.env _ (newList []) false (Yd iter X.env) (some (assign (.Name y py) X.env))) _ _ s;refine ya (yU (wpAny_comprehension_free (use:=some (assign (.Name y py) X.env)) (Q:=λ_ s'=>SP X U E .next s') rfl hs hclos hk (λx hx e=>by rw[hnm x hx,e]) ?_) (λ_ s' hq=>ye (ye hq)) λ_ _ e=>e);show yo _ _ (Yd iter X.env) _ _ s;refine thn (hi U s Y H _ I h) λv s1 h1=>thn h1 λitv s2 h2=>?_;refine zQr (RR:=λhZ C=>compPost (yv X.prog X.w) X.A X.xe (some (assign (.Name y py) X.env)) (λ_ s'=>SP X U E .next s') hZ C) own fr hc hg hq he hk hnm kM kP h2 λys H3 D C s4 q w=>?_;show yo _ X.A (assign (.Name y py) X.env (.ref D)) _ _ s4;obtain⟨m,hn⟩:=w.own;refine wpAny_assign_Name (zao (v:=V.ref D) w.inv hN hiN (.inl hy) rfl (λs5 I5 ⟨a,sb,ha⟩=>?_) (.inr hy))
 have haC:C≠a:=by
  rcases ha with e|e
  ·rw[e];exact w.notL
  ·exact yR (w.sN y a e)
 refine⟨m,hn.sameBut sb haC,λh' sb'=>?_⟩;refine⟨_,_,I5.turned (t':=s5.toks) (λb o hb e=>(sb'.2 b hb).trans e) w.freeC w.notL (.inr w.young) w.sN w.Sy,q D w.free⟩
variable {K:yw}{Z Z1:Qv}{H H1:Hp}
def sC.ext{W:XK}{E:Ends}{o:Out}(h:sC K W Z H E o)(x:Ext Z H Z1 H1):sC K W Z1 H1 E o:=by
 cases o with
 |next J O=>exact λZ' Y' H' x' A=>h Z' Y' H' (x.trans x') A
 |brk J O=>exact λZ' Y' H' x' A=>h Z' Y' H' (x.trans x') A
 |cont J O=>exact λZ' Y' H' x' A=>h Z' Y' H' (x.trans x') A
 |ret d O=>exact λZ' v H' x' R r=>h Z' v H' (x.trans x') R r
 |exc c fs O=>exact λZ' H' C dx hc x' R r=>h Z' H' C dx hc (x.trans x') R r
def At.set{Y:L2.St}{J:Loc}{O:Mem}{d:D}{v:V}(A:At K Z H Y J O)(r:tu K Z H d v)(i:Nat):At K Z H (Y.set i (some v)) (J.set i (some d)) O:=by
 refine⟨λj d' e=>?_,A.hp,by simp[A.len]⟩
 by_cases hj:j=i
 ·subst hj
  have hl:j<J.length:=by
   have:=(List.getElem?_eq_some_iff.mp e).1;simpa using this
  rw[yN hl]at e;cases e;exact⟨v,by rw[yN (by rw[A.len];exact hl)],r⟩
 ·rw[yL (yR hj)]at e;obtain⟨u,e1,q⟩:=A.st j d' e;exact⟨u,by rw[yL (yR hj)];exact e1,q⟩
variable {a b c e:yE}{es:Qz}{G ψ χ:FE}{pos:xn}{st:Yb}{rest:We}
@[simp] def zDb:FS:=λJ O=>some (.next J O)
@[simp] def zX(p q:FS):FS:=λJ O=>match p J O with
 |some (.next J' O')=>q J' O'
 |o=>o
def zW:MSs X [] zDb:=zNv zYv λZ J O Y H o E A e k=>by
 cases e;exact k Z Y H Ext.refl A
def zn{p:FS}(h:MS X st p):MSs X [st] p:=zLt h
def zi{p q:FS}(h1:MS X st p)(h2:MSs X rest q):MSs X (st::rest) (zX p q) :=
 zNv (zwp h1 h2) λZ J O Y H o E A e k=>by
  unfold zX at e;show tMS X.K (zCm X) p {E with nx:=tMS X.K (zCm X) q E } Y H
  cases ep:p J O with
  |none=>rw[ep]at e;cases e
  |some op=>
   rw[ep]at e;refine⟨Z,J,O,op,A,ep,?_⟩
   cases op with
   |next J' O'=>exact λZ' Y' H' x' A'=>⟨Z',J',O',o,A',e,k.ext x'⟩
   |brk J' O'=>cases e;exact k
   |cont J' O'=>cases e;exact k
   |ret d O'=>cases e;exact k
   |exc C fs O'=>cases e;exact k
@[simp] def zYb(G:FE):FS:=λJ O=>(G J O).bind λp=>some (.ret p.1 p.2)
def zP(h:ME X e G):MS X (.Return (some e) pos) (zYb G):=zRk (zVy h) λZ J O Y H o E A e k=>by
 obtain⟨⟨x,O1⟩,e1,e⟩:=zj e;cases e;exact⟨Z,J,O,x,O1,A,e1,λZ' H' v x' R r=>k Z' v H' x' R r⟩
@[simp] def zhj(G:FE):FS:=λJ O=>(G J O).bind λp=>some (.next J p.2)
def zig(h:ME X e G)(hs:xD e none pos.line X.env=pure false:=by rfl):MS X (.Expr e pos) (zhj G):=zRk (zSs h hs) λZ J O Y H o E A e k=>by
 obtain⟨⟨x,O1⟩,e1,e⟩:=zj e;cases e;exact⟨Z,J,O,x,O1,A,e1,λZ' H' v x' R r=>k Z' Y H' x' (A.ext x' R)⟩
@[simp] def zFb(i:Nat)(G:FE):FS:=λJ O=>(G J O).bind λp=>some (.next (J.set i (some p.1)) p.2)
def zL{x:yt}{pos':xn}(i:Nat)(he:ME X e G)(hN:X.N.Nodup:=by first|assumption|decide)(hi:X.N[i]?=some x:=by rfl)(hx:L2.Loc X.env.scope x:=by first|exact Or.inl rfl|exact Or.inr rfl)(hs:xD e (some (.Name x pos')) pos.line X.env=pure false:=by rfl)
 (hf:X.fn x=true\/X.env.scope.names.lookup x=some .local:=by first|exact .inl rfl|exact .inr rfl|assumption):MS X (.Assign [.Name x pos'] e pos) (zFb i G):=zRk (z5y hN hi hx he hs hf) λZ J O Y H o E A e k=>by
 obtain⟨⟨x,O1⟩,e1,e⟩:=zj e;cases e;exact⟨Z,J,O,x,O1,A,e1,λZ' H' v x' R r=>k Z' _ H' x' ((A.ext x' R).set r i)⟩
@[simp] def sIf(c:FT)(p q:FS):FS:=λJ O=>(c J O).bind λt=>bif t.1 then p J t.2 else q J t.2
def zRb{s1 s2:We}{t:FT}{p q:FS}(hc:MT X c t)(h1:MSs X s1 p)(h2:MSs X s2 q):MS X (.If c s1 s2 pos) (sIf t p q):=zRk (zyz hc h1 h2) λZ J O Y H o E A e k=>by
 obtain⟨⟨x,O1⟩,e1,e⟩:=zj e;refine⟨Z,J,O,x,O1,A,e1,λZ' H' x' R=>?_⟩
 cases x with
 |true=>exact Sq ⟨Z',J,O1,o,A.ext x' R,e,k.ext x'⟩
 |false=>exact So ⟨Z',J,O1,o,A.ext x' R,e,k.ext x'⟩
def z5s:FS:=λ_ _=>none
def zTp:MS X st z5s:=zRk z8u λ_ _ _ _ _ _ _ _ e _=>by cases e
abbrev FG:=D->Loc->Mem->Option (Loc×Mem)
abbrev FGs:=Wm->Loc->Mem->Option (Loc×Mem)
def tMG(K:yw)(g:FG):TG:=λv Y H Q=>∃Z J O d J' O',At K Z H Y J O/\tu K Z H d v/\g d J O=some (J',O')/\∀Z' Y' H',Ext Z H Z' H'->At K Z' H' Y' J' O'->Q Y' H'
def zGA(K:yw)(g:FGs):TGs:=λvs Y H Q=>∃Z J O ds J' O',At K Z H Y J O/\tf K Z H ds vs/\g ds J O=some (J',O')/\∀Z' Y' H',Ext Z H Z' H'->At K Z' H' Y' J' O'->Q Y' H'
def MG(X:Cx)(t:yE)(g:FG):Prop:=PG X t (tMG X.K g)
def MGs(X:Cx)(t:Qz)(g:FGs):Prop:=PGs X t (zGA X.K g)
def mg_of{t:yE}{tt:TG}{g:FG}(h:PG X t tt)(w:∀Z J O d J' O' v Y H Q,At X.K Z H Y J O->tu X.K Z H d v->g d J O=some (J',O')->(∀Z' Y' H',Ext Z H Z' H'->At X.K Z' H' Y' J' O'->Q Y' H')->tt v Y H Q):MG X t g :=
 by intro U s Y H v u Q I r hh;obtain⟨Z,J,O,d,J',O',A,q,e,k⟩:=hh;exact h U s Y H v u Q I r (w Z J O d J' O' v Y H Q A q e k)
def zCv{t:Qz}{tt:TGs}{g:FGs}(h:PGs X t tt)(w:∀Z J O d J' O' v Y H Q,At X.K Z H Y J O->tf X.K Z H d v->g d J O=some (J',O')->(∀Z' Y' H',Ext Z H Z' H'->At X.K Z' H' Y' J' O'->Q Y' H')->tt v Y H Q):MGs X t g :=
 by intro U s Y H v u Q I r hh;obtain⟨Z,J,O,d,J',O',A,q,e,k⟩:=hh;exact h U s Y H v u Q I r (w Z J O d J' O' v Y H Q A q e k)
@[simp] def gN(i:Nat):FG:=λd J O=>some (J.set i (some d),O)
def z6{x:yt}(i:Nat)(hN:X.N.Nodup:=by first|assumption|decide)(hi:X.N[i]?=some x:=by rfl)(hx:L2.Loc X.env.scope x:=by first|exact Or.inl rfl|exact Or.inr rfl)(hf:X.fn x=true\/X.env.scope.names.lookup x=some .local:=by first|exact .inl rfl|exact .inr rfl|assumption):MG X (.Name x pos) (gN i) :=
 mg_of (zVr hN hi hx hf) λZ J O d J' O' v Y H Q A q e k=>by
  cases e;exact k Z _ H Ext.refl (A.set q i)
@[simp] def zqf:FGs:=λds J O=>match ds with
 |[]=>some (J,O)
 |_=>none
@[simp] def zmb(g:FG)(gs:FGs):FGs:=λds J O=>match ds with
 |d::r=>(g d J O).bind λp=>gs r p.1 p.2
 |_=>none
def zef:MGs X [] zqf:=zCv zls λZ J O ds J' O' vs Y H Q A q e k=>by
 unfold zqf at e
 split at e
 ·cases e;exact⟨q.nil_inv,k Z Y H Ext.refl A⟩
 ·cases e
def zpb{g:FG}{gs:FGs}(h1:MG X e g)(h2:MGs X es gs)(hs:(Yy (e::es) X.env).map (·.2)=assign e X.env::(Yy es X.env).map (·.2):=by rfl):MGs X (e::es) (zmb g gs) :=
 zCv (zvp h1 h2 hs) λZ J O ds J' O' vs Y H Q A q e k=>by
  unfold zmb at e
  split at e
  ·obtain⟨⟨J1,O1⟩,e1,e⟩:=zj e;obtain⟨v,r,rfl,q1,q2⟩:=q.cons_inv;refine⟨v,r,rfl,Z,J,O,_,J1,O1,A,q1,e1,λZ1 Y1 H1 x1 A1=>?_⟩;exact⟨Z1,J1,O1,_,J',O',A1,q2.ext x1,e,λZ2 Y2 H2 x2 A2=>k Z2 Y2 H2 (x1.trans x2) A2⟩
  ·cases e
@[simp] def gT(n:Nat)(gs:FGs):FG:=λd J O=>match d with
 |.tup ds=>bif ds.length==n then gs ds J O else none
 |_=>none
def z1i{k n:Nat}{gs:FGs}(h:MGs X es gs)(hc:X.calm=true:=by rfl)(hn:(Yy es X.env).length=n:=by rfl)(kR:(Yy es X.env).findIdx? (·.1)=none:=by rfl):MG X (.Tuple es k pos) (gT n gs) :=
 mg_of (zrv hc h hn kR) λZ J O d J' O' v Y H Q A q e k=>by
  unfold gT at e
  split at e
  ·obtain⟨h1,e⟩:=zV e;obtain⟨a,vs,rfl,e2,q2⟩:=q.tR;exact⟨a,vs,rfl,SqT.of e2,by rw[<-q2.length];exact beq_iff_eq.mp h1,Z,J,O,_,J',O',A,q2,e,k⟩
  ·cases e
@[simp] def gAt(G ψ:FE):FG:=λd J O=>(G J O).bind λp=>(ψ J p.2).bind λq=>match p.1,q.1 with
 |.loc n,.int i=>match q.2[n]? with
  |some (.lst ds)=>(ixN ds.length i).bind λj=>some (J,q.2.set n (.lst (ds.set j d)))
  |_=>none
 |_,_=>none
def zhv{o i:yE}(ho:ME X o G)(hi:ME X i ψ)(ha:∀v,assign (.Subscript o i pos) X.env v=(do
 let ov <-xt [v] (Yd o X.env)
 let iv <-xt [v,ov] (Yd i X.env)
 standAt pos
 xt [v,ov,iv] (setItem ov iv v)
 release [v,ov,iv] []):=by intro _;rfl):MG X (.Subscript o i pos) (gAt G ψ) :=
 mg_of (zyv ho hi zXu ha) λZ J O d J' O' v Y H Q A q e k=>by
  obtain⟨⟨x,O1⟩,e1,e⟩:=zj e;obtain⟨⟨y,O2⟩,e2,e⟩:=zj e;refine⟨Z,J,O,x,O1,A,e1,λZ1 H1 v1 x1 R1 r1=>?_⟩;refine⟨Z1,J,O1,y,O2,A.ext x1 R1,e2,λZ2 H2 v2 x2 R2 r2=>?_⟩;dsimp only at e
  split at e
  ·split at e
   ·rename_i hm
    obtain⟨j,e3,e⟩:=zj e;cases e;obtain⟨ad,rfl,hr⟩:=(r1.ext x2).tw;obtain⟨vs,hv,q3⟩:=R2.at_ _ _ _ hr hm;have kN:Mut (H2 ad):=by rw[hv];trivial
    refine⟨ad,vs,_,j,rfl,r2.int_inv,hv,by rw[<-q3.length];exact e3,?_⟩;have xx:=x1.trans x2;have R3:=R2.wr (o:=.lst (vs.set j v)) (lo:=.lst _) kN hr ⟨_,zy,tf.ext (Ext.wr kN) (q3.set j (q.ext xx))⟩;exact k Z2 Y _ (xx.trans (Ext.wr kN)) (A.ext (xx.trans (Ext.wr kN)) R3)
   ·cases e
  ·cases e
@[simp] def zPm(G:FE)(g:FG):FS:=λJ O=>(G J O).bind λp=>(g p.1 J p.2).bind λq=>some (.next q.1 q.2)
def z5e{tg:yE}{g:FG}(he:ME X e G)(hg:MG X tg g)(hs:swapsWithSole [tg] e pos.line X.env=pure false:=by rfl)(hw:swappedStores [tg] e X.env=pure none:=by rfl)
 (h1:(Yy [tg] X.env).map (·.2)=[assign tg X.env]:=by rfl):MS X (.Assign [tg] e pos) (zPm G g):=zRk (zLx he hg hs hw h1) λZ J O Y H o E A e k=>by
 obtain⟨⟨x,O1⟩,e1,e⟩:=zj e;obtain⟨⟨J1,O2⟩,e2,e⟩:=zj e;cases e;refine⟨Z,J,O,x,O1,A,e1,λZ1 H1 v1 x1 R1 r1=>?_⟩;exact⟨Z1,J,O1,x,J1,O2,A.ext x1 R1,r1,e2,λZ2 Y2 H2 x2 A2=>k Z2 Y2 H2 (x1.trans x2) A2⟩
abbrev FI:=Loc->Mem->Option (List D×(Mem->Bool)×Mem)
structure Sb(K:yw)(δ:It)(Z:Qv)(H:Hp)(ds:Wm)(ok:Mem->Bool):Prop where
 go:∀Z' H' O' (i:Nat),Ext Z H Z' H'->tG K Z' H' O'->ok O'=true->i<ds.length->δ.go i H'
 yld:∀Z' H' O' (i:Nat) x H'' d,Ext Z H Z' H'->tG K Z' H' O'->ok O'=true->ds[i]?=some d->δ.yld i H' x H''->Ext Z' H' Z' H''/\tG K Z' H'' O'/\tu K Z' H'' d x
 stop:∀Z' H' O',Ext Z H Z' H'->tG K Z' H' O'->ok O'=true->δ.stop ds.length H'
def tMI(K:yw)(G:FI):TI:=λY H R=>∃Z J O ds ok O',At K Z H Y J O/\G J O=some (ds,ok,O')/\∀Z' H' δ,Ext Z H Z' H'->tG K Z' H' O'->Sb K δ Z' H' ds ok->R δ H'
def MI(X:Cx)(tg iter:yE)(G:FI):Prop:=PI X tg iter (tMI X.K G)
def zLs{tg it:yE}{t:TI}{G:FI}(h:PI X tg it t)(w:∀Z J O Y H ds ok O' R,At X.K Z H Y J O->G J O=some (ds,ok,O')->(∀Z' H' δ,Ext Z H Z' H'->tG X.K Z' H' O'->Sb X.K δ Z' H' ds ok->R δ H')->t Y H R):MI X tg it G :=
 by intro U s Y H R I hh;obtain⟨Z,J,O,ds,ok,O',A,e,k⟩:=hh;exact h U s Y H R I (w Z J O Y H ds ok O' R A e k)
@[simp] def yes:Mem->Bool:=λ_=>true
@[simp] def zWh(G:FA):FI:=λJ O=>(G J O).bind λp=>match p.1 with
 |[.int j]=>bif decide (-(2^62)<=j/\j<2^62) then some ((yB j.toNat).map λ(k:Nat) =>.int k,yes,p.2) else none
 |_=>none
def zyj{tg:yE}{p:xn}{G:FA}(hm:X.mg "range"=none)(ha:MAn X [a] G)(hg:Gl X "range":=by rfl)(hs:yj [a] X.env=[(false,Yd a X.env)]:=by rfl):MI X tg (.Call (.Name "range" p) [a] [] pos) (zWh G) :=
 zLs (zRr hg hm ha.ma hs) λZ J O Y H ds ok O' R A e k=>by
  obtain⟨⟨x,O1⟩,e1,e⟩:=zj e;refine⟨Z,J,O,x,O1,A,e1,λZ1 H1 v1 x1 R1 r1=>?_⟩;dsimp only at e
  split at e
  ·rename_i j
   obtain⟨h1,e⟩:=zV e;have h2:=of_decide_eq_true h1;cases e;obtain⟨w,r,rfl,q1,q2⟩:=r1.cons_inv;refine⟨j,by rw[q1.int_inv,q2.nil_inv],h2.1,h2.2,k Z1 H1 _ x1 R1 ⟨λZ' H' O' i _ _ _ h=>by rw[Lv,Lw]at h;exact h,λZ' H' O' i x H'' d _ RR _ e ⟨y1,y2⟩=>⟨y1▸Ext.refl,y1▸RR,?_⟩,λZ' H' O' _ _ _=>by show j.toNat<=_;simp⟩⟩;rw[yi]at e
   cases e3:(yB j.toNat)[i]? with
   |none=>rw[e3]at e;cases e
   |some m=>
    rw[e3]at e
    have hmi:m=i:=by
     obtain⟨w1,w2⟩:=List.getElem?_eq_some_iff.mp e3;simpa using w2.symm
    subst hmi;have e':D.int (m:Nat)=d:=Yj e;subst e';rw[y2,show(0:Int)+(m:Nat)=(m:Int) by omega];exact .int
  ·cases e
def zpv{K:yw}{Z:Qv}{H:Hp}{a:yf}{vs:Wi}{ds:Wm}(h:H a=some (.tup vs))(r:tf K Z H ds vs):Sb K (Itt K a) Z H ds yes:=by
 refine⟨λZ' H' O' i x R _ hi=>?_,λZ' H' O' i x H'' d x' R _ e ⟨y1,y2⟩=>⟨y1▸Ext.refl,y1▸R,y1▸?_⟩,λZ' H' O' x R _=>⟨vs,SqT.of (x.tup _ _ h),by rw[r.length];exact yh _⟩⟩
 ·have hi':i<vs.length:=by rw[<-r.length];exact hi
  exact⟨vs,vs[i],SqT.of (x.tup _ _ h),by simp[hi']⟩
 ·have q:=y2 vs (SqT.of (x'.tup _ _ h));obtain⟨w,e1,rr⟩:=(r.ext x').get e;rw[q]at e1;cases e1;exact rr
@[simp] def zIv(G:FE):FI:=λJ O=>(G J O).bind λp=>match p.1 with
 |.tup ds=>some (ds,yes,p.2)
 |_=>none
def zwy{tg:yE}(h:ME X a G):MI X tg a (zIv G) :=
 zLs (zpy h) λZ J O Y H ds ok O' R A e k=>by
  obtain⟨⟨x,O1⟩,e1,e⟩:=zj e;refine⟨Z,J,O,x,O1,A,e1,λZ1 H1 v1 x1 R1 r1=>?_⟩;dsimp only at e
  split at e
  ·cases e;obtain⟨a,vs,rfl,e2,q2⟩:=r1.tR;exact⟨a,rfl,⟨vs,SqT.of e2⟩,k Z1 H1 _ x1 R1 (zpv e2 q2)⟩
  ·cases e
def z5n(n:Nat)(ds:Wm):Mem->Bool:=λO=>@decide (O[n]?=some (.lst ds)) (Classical.propDecidable _)
def TD{n:Nat}{ds:Wm}{O:Mem}:z5n n ds O=true↔O[n]?=some (.lst ds):=by
 unfold z5n;exact @decide_eq_true_iff _ (Classical.propDecidable _)
def zds(G:FE):FI:=λJ O=>(G J O).bind λp=>match p.1 with
 |.fz ds=>some (ds,yes,p.2)
 |.loc n=>match p.2[n]? with
  |some (.lst ds)=>some (ds,z5n n ds,p.2)
  |_=>none
 |_=>none
def zIp{K:yw}{Z:Qv}{H:Hp}{a:yf}{ds:Wm}{ok:Mem->Bool}(h:∀Z' H' O',Ext Z H Z' H'->tG K Z' H' O'->ok O'=true->∃vs,SqL K H' a vs/\tf K Z' H' ds vs):Sb K (Itl K a) Z H ds ok:=by
 refine⟨λZ' H' O' i x R o hi=>?_,λZ' H' O' i x H'' d x' R o e ⟨y1,y2⟩=>⟨y1▸Ext.refl,y1▸R,y1▸?_⟩,λZ' H' O' x R o=>?_⟩
 ·obtain⟨vs,s,r⟩:=h Z' H' O' x R o;have hi':i<vs.length:=by rw[<-r.length];exact hi
  exact⟨vs,vs[i],s,by simp[hi']⟩
 ·obtain⟨vs,s,r⟩:=h Z' H' O' x' R o;have q:=y2 vs s;obtain⟨w,e1,rr⟩:=r.get e;rw[q]at e1;cases e1;exact rr
 ·obtain⟨vs,s,r⟩:=h Z' H' O' x R o;exact⟨vs,s,by rw[r.length];exact yh _⟩
def zBr{tg:yE}(h:ME X a G):MI X tg a (zds G) :=
 zLs (z7w h) λZ J O Y H ds ok O' R A e k=>by
  obtain⟨⟨x,O1⟩,e1,e⟩:=zj e;refine⟨Z,J,O,x,O1,A,e1,λZ1 H1 v1 x1 R1 r1=>?_⟩;dsimp only at e
  split at e
  ·cases e;obtain⟨a,vs,rfl,e2,q2⟩:=r1.sB;exact⟨a,rfl,⟨vs,e2.sq⟩,k Z1 H1 _ x1 R1 (zIp λZ' H' O' x _ _=>⟨vs,(x.fz e2).sq,q2.ext x⟩)⟩
  ·split at e
   ·rename_i hm
    cases e;obtain⟨a,rfl,e2⟩:=r1.tw;obtain⟨vs,e3,q3⟩:=R1.at_ _ _ _ e2 hm;refine⟨a,rfl,⟨vs,SqL.of e3⟩,k Z1 H1 _ x1 R1 (zIp λZ' H' O'' x R' o=>?_)⟩;obtain⟨vs',e4,q4⟩:=R'.at_ _ _ _ (x.get e2) (TD.mp o);exact⟨vs',SqL.of e4,q4⟩
   ·cases e
  ·cases e
def zKi(g:FG)(body:FS)(ok:Mem->Bool):Wm->FS
 |[],J,O=>bif ok O then some (.next J O) else none
 |x::xs,J,O=>bif ok O then(g x J O).bind λp=>match body p.1 p.2 with
  |some (.next J' O')=>zKi g body ok xs J' O'
  |some (.cont J' O')=>zKi g body ok xs J' O'
  |some (.brk J' O')=>some (.next J' O')
  |some (.ret d O')=>some (.ret d O')
  |some (.exc C fs O')=>some (.exc C fs O')
  |none=>none
  else none
@[simp] def z1j(i:FI)(g:FG)(body:FS):FS:=λJ O=>(i J O).bind λp=>zKi g body p.2.1 p.1 J p.2.2
def zWc{tg iter:yE}{body:We}{i:FI}{g:FG}{p:FS}(hi:MI X tg iter i)(hg:MG X tg g)(hb:MSs X body p)(hx:PassesOwn (yv X.prog X.w) X.A X.env X.xe:=by first|exact PassesOwn.never|exact PassesOwn.leaving)(hc:X.calm=true:=by rfl)
 (hs:∀x,YH iter X.env x=pure x:=by intro _;rfl):MS X (.For tg iter body [] pos) (z1j i g p) :=
 zRk (zez hx hc hi hg hb hs) λZ J O Y H o E A e k=>by
  obtain⟨⟨ds,ok,O1⟩,e1,e⟩:=zj e;refine⟨Z,J,O,ds,ok,O1,A,e1,λZ1 H1 δ x1 R1 II=>?_⟩;refine⟨λi m Y' H'=>∃Z' J' O',Ext Z1 H1 Z' H'/\At X.K Z' H' Y' J' O'/\i<=ds.length/\m=ds.length-i/\zKi g p ok (ds.drop i) J' O'=some o,⟨_,Z1,J,O1,Ext.refl,A.ext x1 R1,Ys _,rfl,e⟩,?_⟩;rintro i m Y' H' ⟨Z',J',O',x',A',hi,rfl,ef⟩
  by_cases kH:i<ds.length
  ·right
   have hd:ds.drop i=ds[i]::ds.drop (i+1):=Li kH;rw[hd]at ef;unfold zKi at ef;obtain⟨hok,ef⟩:=zV ef;obtain⟨⟨J2,O2⟩,e2,ef⟩:=zj ef;refine⟨II.go Z' H' O' i x' A'.hp hok kH,λY3 H3=>∃Z3 J3 O3,Ext Z1 H1 Z3 H3/\At X.K Z3 H3 Y3 J3 O3/\zKi g p ok (ds.drop (i+1)) J3 O3=some o,λY3 H3 ⟨Z3,J3,O3,x3,A3,e3⟩=>⟨ds.length-(i+1),by omega,Z3,J3,O3,x3,A3,kH,rfl,e3⟩,λx H'' y=>?_⟩;obtain⟨xe,Re,rx⟩:=II.yld Z' H' O' i x H'' ds[i] x' A'.hp hok (by simp[kH]) y;have x':=x'.trans xe;refine⟨Z',J',O',ds[i],J2,O2,A'.ext xe Re,rx,e2,λZ4 Y4 H4 x4 A4=>?_⟩
   cases eb:p J2 O2 with
   |none=>rw[eb]at ef;cases ef
   |some ob=>
    rw[eb]at ef;refine⟨Z4,J2,O2,ob,A4,eb,?_⟩;have x5:=x'.trans x4
    cases ob with
    |next J6 O6=>exact λZ6 Y6 H6 x6 A6=>⟨Z6,J6,O6,x5.trans x6,A6,ef⟩
    |cont J6 O6=>exact λZ6 Y6 H6 x6 A6=>⟨Z6,J6,O6,x5.trans x6,A6,ef⟩
    |brk J6 O6=>cases ef;exact(k.ext x1).ext x5
    |ret d O6=>cases ef;exact(k.ext x1).ext x5
    |exc C fs O6=>cases ef;exact(k.ext x1).ext x5
  ·left
   have e0:i=ds.length:=by omega
   subst e0;rw[List.drop_length]at ef;unfold zKi at ef;obtain⟨hok,ef⟩:=zV ef;cases ef;exact⟨II.stop Z' H' O' x' A'.hp hok,k Z' Y' H' (x1.trans x') A'⟩
end
def zMt(g:FG)(c:FT)(G:FE)(ok:Mem->Bool)(J:Loc):Wm->Wm->Mem->Option (D×Mem)
 |[],ys,O=>bif ok O then some (.loc O.length,O++[.lst ys]) else none
 |x::xs,ys,O=>bif ok O then(g x J O).bind λp=>(c p.1 p.2).bind λt=>bif t.1 then(G p.1 t.2).bind λq=>zMt g c G ok J xs (ys++[q.1]) q.2 else zMt g c G ok J xs ys t.2 else none
@[simp] def δC(n:Nat)(fr:Qf)(J:Loc):Loc:=yD n none++fr.map λi=>(J[i]?).getD none
@[simp] def few(ds:Wm):Bool:=decide (ds.length<=1000000)
@[simp] def fLC(n:Nat)(fr:Qf)(i:FI)(g:FG)(c:FT)(G:FE):FE:=λJ O=>(i J O).bind λp=>bif few p.1 then zMt g c G p.2.1 (δC n fr J) p.1 [] p.2.2 else none
def MF(X:Cx)(ifs:Qz)(c:FT):Prop:=PF X ifs (tMT X.K c)
@[simp] def z3j:FT:=λ_ O=>some (true,O)
def zRf{X:Cx}:MF X [] z3j:=by intro U s Y H Q I hh;obtain⟨Z,J,O,b,O',A,e,k⟩:=hh;exact z9y U s Y H Q I (by cases e;exact k Z H Ext.refl A.hp)
def zUg{X:Cx}{e:yE}{c:FT}(h:MT X e c):MF X [e] c:=zHx h
def At.δC{K:yw}{Z:Qv}{H:Hp}{Y:L2.St}{J:Loc}{O:Mem}(A:At K Z H Y J O)(n:Nat)(fr:Qf):At K Z H (σC n fr Y) (M.δC n fr J) O:=by
 refine⟨λi d e=>?_,A.hp,by unfold σC M.δC;simp⟩;unfold M.δC at e;unfold σC
 by_cases hi:i<n
 ·rw[yg (by simpa using hi),YU]at e
  split at e<;>cases e
 ·have hi:n<=i:=Nat.le_of_not_lt hi;rw[yC (by simpa using hi),Xi,yi]at e;rw[yC (by simpa using hi),Xi,yi]
  cases e1:fr[i-n]? with
  |none=>rw[e1]at e;cases e
  |some j=>
   rw[e1]at e;have e2:(J[j]?).getD none=some d:=Yj e
   have e3:J[j]?=some (some d):=by
    cases q:J[j]? with
    |none=>rw[q]at e2;cases e2
    |some z=>rw[q]at e2;exact congrArg some e2
   obtain⟨v,hv,r⟩:=A.st j d e3;exact⟨v,by rw[Xe,hv];rfl,r⟩
def TY(n:Nat)(Y Y':L2.St):Prop:=Y'.length=Y.length/\∀(i:Nat),n<=i->Y'[i]?=Y[i]?
def TY.refl{n:Nat}{Y:L2.St}:TY n Y Y:=⟨rfl,λ_ _=>rfl⟩
def TY.trans{n:Nat}{Y Y1 Y2:L2.St}(a:TY n Y Y1)(b:TY n Y1 Y2):TY n Y Y2:=⟨b.1.trans a.1,λi h=>(b.2 i h).trans (a.2 i h)⟩
def tGc(K:yw)(n:Nat)(g:FG):TG:=λv Y H Q=>∃Z J O d J' O',At K Z H Y J O/\tu K Z H d v/\g d J O=some (J',O')/\∀Z' Y' H',Ext Z H Z' H'->At K Z' H' Y' J' O'->TY n Y Y'->Q Y' H'
def zKA(K:yw)(n:Nat)(g:FGs):TGs:=λvs Y H Q=>∃Z J O ds J' O',At K Z H Y J O/\tf K Z H ds vs/\g ds J O=some (J',O')/\∀Z' Y' H',Ext Z H Z' H'->At K Z' H' Y' J' O'->TY n Y Y'->Q Y' H'
def MGc(X:Cx)(n:Nat)(t:yE)(g:FG):Prop:=PG X t (tGc X.K n g)
def zoz(X:Cx)(n:Nat)(t:Qz)(g:FGs):Prop:=PGs X t (zKA X.K n g)
section
variable {X:Cx}{e:yE}{es:Qz}{pos:xn}{n:Nat}
def zab{x:yt}(i:Nat)(hin:i<n:=by decide)(hN:X.N.Nodup:=by first|assumption|decide)(hi:X.N[i]?=some x:=by rfl)(hx:L2.Loc X.env.scope x:=by first|exact Or.inl rfl|exact Or.inr rfl)(hf:X.fn x=true\/X.env.scope.names.lookup x=some .local:=by first|exact .inl rfl|exact .inr rfl|assumption):MGc X n (.Name x pos) (gN i) :=
 by intro U s Y H v u Q I r hh;obtain⟨Z,J,O,d,J',O',A,q,e,k⟩:=hh;exact zVr hN hi hx hf U s Y H v u Q I r (by
  cases e;exact k Z _ H Ext.refl (A.set q i) ⟨by simp,λj hj=>yL (by omega)⟩)
def zFm:zoz X n [] zqf:=by intro U s Y H v u Q I r hh;obtain⟨Z,J,O,d,J',O',A,q,e,k⟩:=hh;exact zls U s Y H v u Q I r (by
 unfold zqf at e
 split at e
 ·cases e;exact⟨q.nil_inv,k Z Y H Ext.refl A TY.refl⟩
 ·cases e)
def zUe{g:FG}{gs:FGs}(h1:MGc X n e g)(h2:zoz X n es gs)(hs:(Yy (e::es) X.env).map (·.2)=assign e X.env::(Yy es X.env).map (·.2):=by rfl):zoz X n (e::es) (zmb g gs) :=
 by intro U s Y H vs us Q I r hh;obtain⟨Z,J,O,ds,J',O',A,q,e,k⟩:=hh;exact zvp h1 h2 hs U s Y H vs us Q I r (by
  unfold zmb at e
  split at e
  ·obtain⟨⟨J1,O1⟩,e1,e⟩:=zj e;obtain⟨v,vr,rfl,q1,q2⟩:=q.cons_inv;refine⟨v,vr,rfl,Z,J,O,_,J1,O1,A,q1,e1,λZ1 Y1 H1 x1 A1 f1=>?_⟩;exact⟨Z1,J1,O1,_,J',O',A1,q2.ext x1,e,λZ2 Y2 H2 x2 A2 f2=>k Z2 Y2 H2 (x1.trans x2) A2 (f1.trans f2)⟩
  ·cases e)
def zGo{k m:Nat}{gs:FGs}(h:zoz X n es gs)(hc:X.calm=true:=by rfl)(hn:(Yy es X.env).length=m:=by rfl)(kR:(Yy es X.env).findIdx? (·.1)=none:=by rfl):MGc X n (.Tuple es k pos) (gT m gs) :=
 by intro U s Y H v u Q I r hh;obtain⟨Z,J,O,d,J',O',A,q,e,k⟩:=hh;exact zrv hc h hn kR U s Y H v u Q I r (by
  unfold gT at e
  split at e
  ·obtain⟨h1,e⟩:=zV e;obtain⟨a,vs,rfl,e2,q2⟩:=q.tR;exact⟨a,vs,rfl,SqT.of e2,by rw[<-q2.length];exact beq_iff_eq.mp h1,Z,J,O,_,J',O',A,q2,e,k⟩
  ·cases e)
end
def zLr{n:Nat}{fr:Qf}{Y Y':L2.St}(f:TY n (σC n fr Y) Y'):zIw (σC n fr Y) Y':=by
 refine⟨f.1,λi v e=>?_⟩;obtain⟨hi,_⟩:=σC_get e;rw[f.2 i hi];exact e
def Tv:1000000<yF:=by rw[Yo];decide
def zBA{K:yw}{n:Nat}{fr:Qf}{i:FI}{g:FG}{c:FT}{G:FE}{Z:Qv}{J:Loc}{O:Mem}{Y:L2.St}{H:Hp}{d:D}{O':Mem}{Q:VK}(A:At K Z H Y J O)(e:fLC n fr i g c G J O=some (d,O'))
 (k:∀Z' H' v,Ext Z H Z' H'->tG K Z' H' O'->tu K Z' H' d v->Q v H'):tLC n fr (tMI K i) (tGc K n g) (tMT K c) (tM K G) Y H Q:=by
 obtain⟨⟨ds,ok,O1⟩,e1,e⟩:=zj e;obtain⟨kF,e⟩:=zV e;have kF:ds.length<=1000000:=of_decide_eq_true kF;refine⟨Z,J,O,ds,ok,O1,A,e1,λZ1 H1 δ x1 R1 II=>?_⟩;refine⟨λi m ys H'=>∃Z' es O2,Ext Z1 H1 Z' H'/\tG K Z' H' O2/\tf K Z' H' es ys/\es.length<=i/\i<=ds.length/\m=ds.length-i/\zMt g c G ok (δC n fr J) (ds.drop i) es O2=some (d,O'),⟨_,Z1,[],O1,Ext.refl,R1,.nil,Ys _,Ys _,rfl,e⟩,?_⟩;rintro i m ys H' ⟨Z',es,O2,x',R',re,hel,hi,rfl,ef⟩
 by_cases kH:i<ds.length
 ·right
  have hd:ds.drop i=ds[i]::ds.drop (i+1):=Li kH;rw[hd]at ef;unfold zMt at ef;obtain⟨hok,ef⟩:=zV ef;obtain⟨⟨J2,O3⟩,e2,ef⟩:=zj ef;obtain⟨⟨b,O4⟩,e3,ef⟩:=zj ef;refine⟨II.go Z' H' O2 i x' R' hok kH,?_,λx H'' y=>?_⟩
  ·rw[<-re.length];exact Nat.lt_of_le_of_lt (yG hel (yG hi kF)) Tv
  ·obtain⟨xe,Re,rx⟩:=II.yld Z' H' O2 i x H'' ds[i] x' R' hok (by simp[kH]) y;have x':=x'.trans xe;have re:=re.ext xe;have A':At K Z' H'' (σC n fr Y) (δC n fr J) O2:=((A.ext x1 R1).ext x' Re).δC n fr;refine⟨Z',_,O2,ds[i],J2,O3,A',rx,e2,λZ4 Y4 H4 x4 A4 f4=>⟨zLr f4,?_⟩⟩;refine⟨Z4,J2,O3,b,O4,A4,e3,λZ5 H5 x5 R5=>?_⟩
   cases b with
   |false=>exact So ⟨ds.length-(i+1),by omega,Z5,es,O4,x'.trans (x4.trans x5),R5,re.ext (x4.trans x5),by omega,kH,rfl,ef⟩
   |true=>
    obtain⟨⟨y,O6⟩,e4,ef⟩:=zj ef;refine Sq ⟨Z5,J2,O4,y,O6,A4.ext x5 R5,e4,λZ6 H6 v x6 R6 r6=>?_⟩;exact⟨ds.length-(i+1),by omega,Z6,es++[y],O6,x'.trans (x4.trans (x5.trans x6)),R6,(re.ext (x4.trans (x5.trans x6))).append (.cons r6 .nil),by simp;exact hel,kH,rfl,ef⟩
 ·left
  have e0:i=ds.length:=by omega
  subst e0;rw[List.drop_length]at ef;unfold zMt at ef;obtain⟨hok,ef⟩:=zV ef;cases ef;refine⟨II.stop Z' H' O2 x' R' hok,λp hp=>?_⟩;exact k _ _ _ (x1.trans (x'.trans (Ext.push hp))) (R'.push hp ⟨ys,zy,re.ext (Ext.push hp)⟩) (.loc (zub R'))
def zeA{X:Cx}{scope:xS}{elt tg iter:yE}{ifs:Qz}{pos:xn}{i:FI}{g:FG}{c:FT}{G:FE}(own:Qx)(fr:Qf)(hi:MI X tg iter i)
 (hg:∀cl C s₀ H₀ fp,MGc (cxC X own fr scope cl C s₀ H₀ fp) own.length tg g) (hq:∀cl C s₀ H₀ fp,MF (cxC X own fr scope cl C s₀ H₀ fp) ifs c) (he:∀cl C s₀ H₀ fp,ME (cxC X own fr scope cl C s₀ H₀ fp) elt G)
 (hc:X.calm=true:=by rfl) (hk:scope.kind=.function:=by rfl) (hnm:∀y∈scope.names,scope.names.lookup y.1=some y.2:=by decide)
 (kM:∀x∈scope.names,x.2=.free->(X.env.kindOf x.1=some .cell\/X.env.kindOf x.1=some .free):=by decide) (kP:∀i∈fr,∃x,X.N[i]?=some x/\scope.names.lookup x=some .free)
 (hs:∀x,YH iter X.env x=pure x:=by intro _;rfl):ME X (.ListComp elt [⟨tg,iter,ifs,0⟩] scope pos) (fLC own.length fr i g c G) :=
 zge (zOz (wi:=tMI X.K i) (g:=tGc X.K own.length g) (tc:=tMT X.K c) (te:=tM X.K G) own fr hc hi (λcl C s₀ H₀ fp=>hg cl C s₀ H₀ fp) (λcl C s₀ H₀ fp=>hq cl C s₀ H₀ fp) (λcl C s₀ H₀ fp=>he cl C s₀ H₀ fp) hk hnm kM kP hs) λZ J O Y H d O' Q A e k=>zBA A e k
def toP(O:Mem):Nat->D->Option xQ
 |0,_=>none
 |n+1,d=>match d with
  |.non=>some .none
  |.bl b=>some (.bool b)
  |.int i=>some (.int i)
  |.str x=>bif PyData.strOk x then some (.str x) else none
  |.ty _=>none
  |.own _=>none
  |.tup ds=>(ds.mapM (toP O n)).bind λps=>some (.tuple ps)
  |.fz ds=>(ds.mapM (toP O n)).bind λps=>some (.list ps)
  |.loc k=>match O[k]? with
   |some (.lst ds)=>(ds.mapM (toP O n)).bind λps=>some (.list ps)
   |_=>none
def z3i{f:D->Option xQ}{ps:List xQ}(h:([]:Wm).mapM f=some ps):ps=[]:=by
 simp at h;exact h
def z4h{f:D->Option xQ}{d:D}{ds:Wm}{ps:List xQ}(h:(d::ds).mapM f=some ps):∃p r,f d=some p/\ds.mapM f=some r/\ps=p::r:=by
 rw[Nc]at h;obtain⟨p,e1,h⟩:=zj h;obtain⟨r,e2,h⟩:=zj h;cases h;exact⟨p,r,e1,e2,rfl⟩
def ztl{f:D->Option xQ}{m:Nat}(hf:∀d p,f d=some p->p.canLay0=true/\p.depth<=m):∀{ds:Wm} {ps:List xQ},ds.mapM f=some ps->Xn ps=true/\PyData.depthAll ps<=m
 |[],ps,h=>by rw[z3i h];exact⟨rfl,Ys _⟩
 |d::ds,ps,h=>by
  obtain⟨p,r,e1,e2,rfl⟩:=z4h h;obtain⟨h1,h2⟩:=hf d p e1;obtain⟨h3,h4⟩:=ztl hf e2;refine⟨?_,?_⟩
  ·simp only[Xn,h1,h3,Bool.and_true]
  ·simp only[PyData.depthAll];omega
def z5j{O:Mem}:∀(n:Nat)(d:D)(p:xQ),toP O n d=some p->p.canLay0=true/\p.depth<=n
 |0,d,p,h=>by cases h
 |n+1,d,p,h=>by
  have seq:∀{ds:Wm} {c:List xQ->xQ},(∀ps,(c ps).canLay0=Xn ps)->(∀ps,(c ps).depth=PyData.depthAll ps+1)->((ds.mapM (toP O n)).bind λps=>some (c ps))=some p->p.canLay0=true/\p.depth<=n+1:=λ{ds c} h1 h2 h=>by
   obtain⟨ps,e1,e2⟩:=zj h;cases e2;obtain⟨q1,q2⟩:=ztl (z5j n) e1;exact⟨by rw[h1];exact q1,by rw[h2];omega⟩
  unfold toP at h
  cases d with
  |non=>cases h;exact⟨rfl,Ys _⟩
  |bl b=>cases h;exact⟨rfl,Ys _⟩
  |int b=>cases h;exact⟨rfl,Ys _⟩
  |str x=>
   obtain⟨h1,h2⟩:=zV h;cases h2;exact⟨h1,Ys _⟩
  |ty _=>cases h
  |own _=>cases h
  |tup ds=>exact seq (λ_=>rfl) (λ_=>rfl) h
  |fz ds=>exact seq (λ_=>rfl) (λ_=>rfl) h
  |loc k=>
   dsimp only at h
   split at h
   ·exact seq (λ_=>rfl) (λ_=>rfl) h
   ·cases h
section
variable {X:Cx}{U:Qb}{Y:L2.St}{H:Hp}{s:yc}{Z:Qv}{O:Mem}
def z6h{f:D->Option xQ}(hf:∀d p v u,f d=some p->tu X.K Z H d v->RelV v u->∃as,Reads s.heap u p as):∀{ds:Wm} {ps:List xQ} {vs:Wi} {us:Qh},ds.mapM f=some ps->tf X.K Z H ds vs->Vals vs us->∃as,ReadsAll s.heap us ps as
 |[],ps,vs,us,h,r,q=>by
  rw[z3i h];rw[r.nil_inv]at q;cases q;exact⟨[],.nil⟩
 |d::ds,ps,vs,us,h,r,q=>by
  obtain⟨p,pr,e1,e2,rfl⟩:=z4h h;obtain⟨v,vr,rfl,r1,r2⟩:=r.cons_inv
  cases q with
  |cons q1 q2=>
   obtain⟨a1,h1⟩:=hf _ _ _ _ e1 r1 q1;obtain⟨a2,h2⟩:=z6h hf e2 r2 q2;exact⟨_,.cons h1 h2⟩
def zff(I:Inv X U Y H s)(R:tG X.K Z H O):∀(n:Nat)(d:D)(p:xQ)(v:V)(u:Value),toP O n d=some p->tu X.K Z H d v->RelV v u->∃as,Reads s.heap u p as
 |0,d,p,v,u,h,_,_=>by cases h
 |n+1,d,p,v,u,h,r,q=>by
  unfold toP at h
  cases d with
  |non=>cases h;rw[r.tJ]at q;cases q;exact⟨_,.none⟩
  |bl b=>cases h;rw[r.tU]at q;cases q;exact⟨_,.bool b⟩
  |int b=>cases h;rw[r.int_inv]at q;obtain⟨t,rfl⟩:=q;exact⟨_,.int b t⟩
  |str x=>
   obtain⟨h1,h2⟩:=zV h;cases h2;rw[r.str_inv]at q;obtain⟨t,rfl⟩:=q;exact⟨_,.str x t⟩
  |ty _=>cases h
  |own _=>cases h
  |tup ds=>
   obtain⟨ps,e1,e2⟩:=zj h;cases e2;obtain⟨a,vs,rfl,e3,rr⟩:=r.tR;cases q;obtain⟨hJ,rv,⟨o,ho,hc,k,hd⟩,_⟩:=I.tuple (SqT.of e3);obtain⟨as,ha⟩:=z6h (zff I R n) e1 rr rv;exact⟨_,reads_tuple_at ho hc hd (by simpa using ha)⟩
  |fz ds=>
   obtain⟨ps,e1,e2⟩:=zj h;cases e2;obtain⟨a,vs,rfl,e3,rr⟩:=r.sB;cases q;obtain⟨hJ,rv,⟨o,k,ho,hc,_,hd⟩,_⟩:=I.list e3.sq;obtain⟨as,ha⟩:=z6h (zff I R n) e1 rr rv;exact⟨_,reads_list_at ho hc hd (by simpa using ha)⟩
  |loc k=>
   dsimp only at h
   split at h
   ·rename_i hm
    obtain⟨ps,e1,e2⟩:=zj h;cases e2;obtain⟨a,rfl,e2⟩:=r.tw;obtain⟨vs,e3,rr⟩:=R.at_ _ _ _ e2 hm;cases q;obtain⟨hJ,rv,⟨o,k,ho,hc,_,hd⟩,_⟩:=I.list (SqL.of (K:=X.K) e3);obtain⟨as,ha⟩:=z6h (zff I R n) e1 rr rv;exact⟨_,reads_list_at ho hc hd (by simpa using ha)⟩
   ·cases h
end
def gEq:φ2:=λx y O=>(toP O 8 x).bind λp=>(toP O 8 y).bind λq=>some (.bl (Yn p q),O)
def gNe:φ2:=λx y O=>(toP O 8 x).bind λp=>(toP O 8 y).bind λq=>some (.bl (!PyData.eqv p q),O)
def zFh{O:Mem}{d:D}{p:xQ}(h:toP O 8 d=some p):SeqAt.shaped p=true:=by
 obtain⟨h1,h2⟩:=z5j 8 d p h;unfold SeqAt.shaped;rw[h1,decide_eq_true (by omega)];rfl
section
variable {X:Cx}{a b c e:yE}{es:Qz}{G ψ χ:FE}{pos:xn}
def zec(hu:X.A.units+64<cLine):OpM X (Yz .Eq) gEq:=by
 refine OpM.of λU s Y H x y v u Q I rx ry Z dx dy O d O' r1 r2 R e k=>?_;obtain⟨p,e1,e⟩:=zj e;obtain⟨q,e2,e⟩:=zj e;cases e;obtain⟨as,h1⟩:=zff I R 8 dx p x v e1 r1 rx;obtain⟨bs,h2⟩:=zff I R 8 dy q y u e2 r2 ry;exact eq_dataH h1 h2 (zFh e1) (zFh e2) hu ⟨.bl _,H,I,rfl,k Z H _ Ext.refl R .bl⟩
def zZd(hu:X.A.units+64<cLine):OpM X (Yz .NotEq) gNe:=by
 refine OpM.of λU s Y H x y v u Q I rx ry Z dx dy O d O' r1 r2 R e k=>?_;obtain⟨p,e1,e⟩:=zj e;obtain⟨q,e2,e⟩:=zj e;cases e;obtain⟨as,h1⟩:=zff I R 8 dx p x v e1 r1 rx;obtain⟨bs,h2⟩:=zff I R 8 dy q y u e2 r2 ry;exact ne_dataH h1 h2 (zFh e1) (zFh e2) hu ⟨.bl _,H,I,rfl,k Z H _ Ext.refl R .bl⟩
@[simp] def gIs:φ2:=λx y O=>match x,y with
 |.bl i,.bl j=>some (.bl (i==j),O)
 |.non,.non=>some (.bl true,O)
 |.bl _,.non=>some (.bl false,O)
 |.int _,.non=>some (.bl false,O)
 |.str _,.non=>some (.bl false,O)
 |.tup _,.non=>some (.bl false,O)
 |.loc _,.non=>some (.bl false,O)
 |_,_=>none
@[simp] def zGh:φ2:=λx y O=>match x,y with
 |.bl i,.bl j=>some (.bl (i != j),O)
 |.non,.non=>some (.bl false,O)
 |.bl _,.non=>some (.bl true,O)
 |.int _,.non=>some (.bl true,O)
 |.str _,.non=>some (.bl true,O)
 |.tup _,.non=>some (.bl true,O)
 |.loc _,.non=>some (.bl true,O)
 |_,_=>none
def zXr:OpM X (Yz .Is) gIs:=by
 refine OpM.of λU s Y H x y v u Q I rx ry Z dx dy O d O' r1 r2 R e k=>?_;unfold gIs at e
 split at e<;>cases e
 ·rw[r1.tU]at rx;rw[r2.tU]at ry;cases rx;cases ry;exact is_bool ⟨.bl _,H,I,rfl,k Z H _ Ext.refl R .bl⟩
 ·exact zPl U s Y H x y v u Q I rx ry ⟨r2.tJ,by rw[r1.tJ];exact k Z H _ Ext.refl R .bl⟩
 ·exact zPl U s Y H x y v u Q I rx ry ⟨r2.tJ,by rw[r1.tU];exact k Z H _ Ext.refl R .bl⟩
 ·exact zPl U s Y H x y v u Q I rx ry ⟨r2.tJ,by rw[r1.int_inv];exact k Z H _ Ext.refl R .bl⟩
 ·exact zPl U s Y H x y v u Q I rx ry ⟨r2.tJ,by rw[r1.str_inv];exact k Z H _ Ext.refl R .bl⟩
 ·exact zPl U s Y H x y v u Q I rx ry ⟨r2.tJ,by obtain⟨a,vs,rfl,_⟩:=r1.tR;exact k Z H _ Ext.refl R .bl⟩
 ·exact zPl U s Y H x y v u Q I rx ry ⟨r2.tJ,by obtain⟨a,rfl,_⟩:=r1.tw;exact k Z H _ Ext.refl R .bl⟩
def z7f:OpM X (Yz .IsNot) zGh:=by
 refine OpM.of λU s Y H x y v u Q I rx ry Z dx dy O d O' r1 r2 R e k=>?_;unfold zGh at e
 split at e<;>cases e
 ·rw[r1.tU]at rx;rw[r2.tU]at ry;cases rx;cases ry;exact isnot_bool ⟨.bl _,H,I,rfl,k Z H _ Ext.refl R .bl⟩
 ·exact zwi U s Y H x y v u Q I rx ry ⟨r2.tJ,by rw[r1.tJ];exact k Z H _ Ext.refl R .bl⟩
 ·exact zwi U s Y H x y v u Q I rx ry ⟨r2.tJ,by rw[r1.tU];exact k Z H _ Ext.refl R .bl⟩
 ·exact zwi U s Y H x y v u Q I rx ry ⟨r2.tJ,by rw[r1.int_inv];exact k Z H _ Ext.refl R .bl⟩
 ·exact zwi U s Y H x y v u Q I rx ry ⟨r2.tJ,by rw[r1.str_inv];exact k Z H _ Ext.refl R .bl⟩
 ·exact zwi U s Y H x y v u Q I rx ry ⟨r2.tJ,by obtain⟨a,vs,rfl,_⟩:=r1.tR;exact k Z H _ Ext.refl R .bl⟩
 ·exact zwi U s Y H x y v u Q I rx ry ⟨r2.tJ,by obtain⟨a,rfl,_⟩:=r1.tw;exact k Z H _ Ext.refl R .bl⟩
inductive Ty where
 |non|bl|int|str|tup|lst|dict
 deriving DecidableEq
@[simp] def zqz(O:Mem):D->Option Ty
 |.non=>some .non
 |.bl _=>some .bl
 |.int _=>some .int
 |.str _=>some .str
 |.tup _=>some .tup
 |.loc n=>match O[n]? with
  |some (.lst _)=>some .lst
  |some (.dct _)=>some .dict
  |_=>none
 |_=>none
@[simp] def Ty.name:Ty->String
 |.non=>"NoneType" | .bl=>"bool" | .int=>"int" | .str=>"str" | .tup=>"tuple" | .lst=>"list" | .dict=>"dict"
@[simp] def zfA:Ty->Ty->Bool
 |.bl,.int=>true
 |.non,.non=>true
 |.bl,.bl=>true
 |.int,.int=>true
 |.str,.str=>true
 |.tup,.tup=>true
 |.lst,.lst=>true
 |.dict,.dict=>true
 |_,_=>false
@[simp] def zzp(c:Ty):GL:=λds O=>match ds with
 |[x,.ty n]=>bif n==c.name then(zqz O x).bind λt=>some (.bl (zfA t c),O) else none
 |_=>none
def z9w{K:yw}{Z:Qv}{H:Hp}{O:Mem}{x:D}{v:V}{t:Ty}(R:tG K Z H O)(r:tu K Z H x v)(e:zqz O x=some t):so K H v (.type t.name):=by
 cases x with
 |non=>cases e;rw[r.tJ];exact .non
 |bl b=>cases e;rw[r.tU];exact .bl b
 |int b=>cases e;rw[r.int_inv];exact .int b
 |str b=>cases e;rw[r.str_inv];exact .str b
 |tup ds=>cases e;obtain⟨a,vs,rfl,e2,_⟩:=r.tR;exact .tup e2
 |loc n=>
  unfold zqz at e;dsimp only at e
  split at e
  ·rename_i hm;cases e;obtain⟨a,rfl,e2⟩:=r.tw;obtain⟨vs,e3,_⟩:=R.at_ _ _ _ e2 hm;exact .lst e3
  ·rename_i hm;cases e;obtain⟨a,rfl,e2⟩:=r.tw;obtain⟨vs,e3,_⟩:=R.at_ _ _ _ e2 hm;exact .dK e3
  ·cases e
 |_=>cases e
def zXy(K:yw)(t c:Ty):W.kitOne K (.type t.name) (.type c.name)=some (zfA t c):=by
 cases t<;>cases c<;>first|rfl|decide +kernel
def z7e(c:Ty):Ta X (.builtin "isinstance") (zzp c):=by
 refine Ta.of λU s Y H xs us Q I r Z ds O d O' r1 R e k=>?_;unfold zzp at e
 split at e
 ·obtain⟨hn,e⟩:=zV e;obtain⟨t,e1,e⟩:=zj e;cases e;obtain⟨v,rr,rfl,q1,q2⟩:=r1.cons_inv;obtain⟨v2,rr2,rfl,q3,q4⟩:=q2.cons_inv;rw[q4.nil_inv,q3.ty_inv,beq_iff_eq.mp hn]at r
  cases r with
  |cons ra rb=>
   cases rb with
   |cons rc rd=>
    cases rd;cases rc;exact zbs I ra (z9w R q1 e1) (zXy X.K t c) λtk=>⟨.bl _,H,I.tok tk,rfl,k Z H _ Ext.refl R .bl⟩
 ·cases e
def zPu{scope:xS}{elt tg iter:yE}{ifs:Qz}{spos py:xn}{y:yt}{fi:FI}{g:FG}{ct:FT}(i:Nat)(own:Qx)(fr:Qf)(hi:MI X tg iter fi)
 (hg:∀cl C s₀ H₀ fp,MGc (cxC X own fr scope cl C s₀ H₀ fp) own.length tg g) (hq:∀cl C s₀ H₀ fp,MF (cxC X own fr scope cl C s₀ H₀ fp) ifs ct) (he:∀cl C s₀ H₀ fp,ME (cxC X own fr scope cl C s₀ H₀ fp) elt G)
 (kP:∀i∈fr,∃x,X.N[i]?=some x/\scope.names.lookup x=some .free)
 (hN:X.N.Nodup:=by first|assumption|decide) (hiN:X.N[i]?=some y:=by rfl) (hy:X.env.scope.names.lookup y=some .local:=by rfl)
 (hsw:xD (.ListComp elt [⟨tg,iter,ifs,0⟩] scope pos) (some (.Name y py)) spos.line X.env=pure true:=by rfl)
 (hc:X.calm=true:=by rfl) (hk:scope.kind=.function:=by rfl) (hnm:∀y∈scope.names,scope.names.lookup y.1=some y.2:=by decide)
 (kM:∀x∈scope.names,x.2=.free->(X.env.kindOf x.1=some .cell\/X.env.kindOf x.1=some .free):=by decide)
 (hs:∀x,YH iter X.env x=pure x:=by intro _;rfl):MS X (.Assign [.Name y py] (.ListComp elt [⟨tg,iter,ifs,0⟩] scope pos) spos) (zFb i (fLC own.length fr fi g ct G)) :=
 zRk (zau (wi:=tMI X.K fi) (g:=tGc X.K own.length g) (tc:=tMT X.K ct) (te:=tM X.K G) own fr hN hiN hy hc hi hsw (λcl C s₀ H₀ fp=>hg cl C s₀ H₀ fp) (λcl C s₀ H₀ fp=>hq cl C s₀ H₀ fp) (λcl C s₀ H₀ fp=>he cl C s₀ H₀ fp) hk hnm kM kP hs) λZ J O Y H o E A e k=>by
  obtain⟨⟨x,O1⟩,e1,e⟩:=zj e;cases e;exact zBA A e1 λZ' H' v x' R r=>k Z' _ H' x' ((A.ext x' R).set r i)
end
@[simp] def zGb:Option Out->Option (D×Mem)
 |some (.ret d O)=>some (d,O)
 |some (.next _ O)=>some (.non,O)
 |_=>none
@[simp] def zS(N:Qx)(ds:Wm):Loc:=ds.map some++yD (N.length-ds.length) none
def zup{K:yw}{Z:Qv}{H:Hp}{O:Mem}{N:Qx}{ds:Wm}{vs:Wi}(r:tf K Z H ds vs)(R:tG K Z H O):At K Z H (L2.start N vs) (zS N ds) O:=by
 refine⟨λi d e=>?_,R,by unfold L2.start zS;simp[r.length]⟩;unfold zS at e;unfold L2.start
 by_cases hi:i<ds.length
 ·rw[yg (by simpa using hi),yi]at e
  cases e1:ds[i]? with
  |none=>rw[e1]at e;cases e
  |some d'=>
   rw[e1]at e;cases e;obtain⟨v,e2,q⟩:=r.get e1;refine⟨v,?_,q⟩;rw[yg (by simpa[<-r.length] using hi),yi,e2];rfl
 ·rw[yC (by simpa using hi),YU]at e
  split at e<;>cases e
def fnM{P:yy}{w:yI}{K:yw}{mg:yt->Qi}{base:yT}{x qual:yt}{st:Yb}{f:yf}{fd:yV}{N ps:Qx}{k n:Nat}{F:FF}(φ:Fun K x qual st f fd)(S:tq N ps (zp st))(hn:ps.length=n)
 (hbody:∀(cdv:Value)(A:yJ)(outer:Qp)(s:yc)(H:Hp)(E:XK),tQ k (A.deeper (envOfC qual (zp st) s.heap.objs.size f cdv)) ->
  ∃p,MSs (zUq CX0 P w K mg base N qual (zp st) f cdv A outer s H E).nox (zdc st) p/\∀ds O d O',ds.length=n->F ds O=some (d,O')->zGb (p (zS N ds) O)=some (d,O')) :
 Te P w K mg base CX0 (k+1) f fd ps (spM K n F):=by
 refine φ.ok S (λvs H Q E h=>by rw[hn];exact h.1) (λcdv A outer s H vs Q E hr h=>?_);obtain⟨p,hp,hF⟩:=hbody cdv A outer s H E hr;refine⟨_,hp,?_⟩;obtain⟨hl,Z,ds,O,d,O',r,R,e,k⟩:=h;have e':=hF ds O d O' (by rw[r.length];exact hl) e
 cases eo:p (zS N ds) O with
 |none=>rw[eo]at e';cases e'
 |some o=>
  rw[eo]at e';refine⟨Z,zS N ds,O,o,zup r R,eo,?_⟩
  cases o with
  |ret d2 O2=>cases e';exact λZ' v H' x' R' r'=>k Z' H' v x' R' r'
  |next J2 O2=>cases e';exact λZ' Y' H' x' A'=>k Z' H' .non x' A'.hp .non
  |brk _ _=>cases e'
  |cont _ _=>cases e'
  |exc _ _ _=>cases e'
def zNt(sc inner:xS):Bool:=(inner.kind == .function)&&inner.names.all (λy=>inner.names.lookup y.1==some y.2) &&
 inner.names.all λx=>x.2 != .free||sc.names.lookup x.1==some .cell||sc.names.lookup x.1==some .free
def zco{sc inner:xS}(h:zNt sc inner=true):inner.kind=.function:=by
 unfold zNt at h;simp only[yK,beq_iff_eq]at h;exact h.1.1
def z6r{sc inner:xS}(h:zNt sc inner=true):∀y∈inner.names,inner.names.lookup y.1=some y.2:=by
 unfold zNt at h;simp only[yK]at h;intro y hy;exact beq_iff_eq.mp (List.all_eq_true.mp h.1.2 y hy)
def zsn{sc inner:xS}(h:zNt sc inner=true):∀x∈inner.names,x.2=.free->(sc.names.lookup x.1=some .cell\/sc.names.lookup x.1=some .free):=by
 unfold zNt at h;simp only[yK]at h;intro y hy e;have:=List.all_eq_true.mp h.2 y hy;simpa[e] using this
def z9{N:Qx}(h:decide N.Nodup=true):N.Nodup:=of_decide_eq_true h
def zoc{P:Nat->Prop}:∀i∈([]:Qf),P i:=λi h=>nomatch h
def zbb{P:Nat->Prop}{i:Nat}{l:Qf}(h:P i)(r:∀j∈l,P j):∀j∈i::l,P j:=λj hj=>by
 rcases List.mem_cons.mp hj with rfl|hj
 ·exact h
 ·exact r j hj
section
variable {X:Cx}{a b c e:yE}{es:Qz}{G ψ χ:FE}{pos:xn}
def mlc{scope:xS}{elt tg iter:yE}{ifs:Qz}{i:FI}{g:FG}{ct:FT}(own:Qx)(fr:Qf)(hi:MI X tg iter i)
 (hg:∀cl C s₀ H₀ fp,MGc (cxC X own fr scope cl C s₀ H₀ fp) own.length tg g) (hq:∀cl C s₀ H₀ fp,MF (cxC X own fr scope cl C s₀ H₀ fp) ifs ct) (he:∀cl C s₀ H₀ fp,ME (cxC X own fr scope cl C s₀ H₀ fp) elt G)
 (kP:∀i∈fr,∃x,X.N[i]?=some x/\scope.names.lookup x=some .free) (hok:zNt X.env.scope scope=true:=by rfl) (hc:X.calm=true:=by rfl) (hs:∀x,YH iter X.env x=pure x:=by intro _;rfl) :
 ME X (.ListComp elt [⟨tg,iter,ifs,0⟩] scope pos) (fLC own.length fr i g ct G) :=
 zeA own fr hi hg hq he hc (zco hok) (z6r hok) (zsn hok) kP hs
def mslc{scope:xS}{elt tg iter:yE}{ifs:Qz}{spos py:xn}{y:yt}{fi:FI}{g:FG}{ct:FT}(i:Nat)(own:Qx)(fr:Qf)(hi:MI X tg iter fi)
 (hg:∀cl C s₀ H₀ fp,MGc (cxC X own fr scope cl C s₀ H₀ fp) own.length tg g) (hq:∀cl C s₀ H₀ fp,MF (cxC X own fr scope cl C s₀ H₀ fp) ifs ct) (he:∀cl C s₀ H₀ fp,ME (cxC X own fr scope cl C s₀ H₀ fp) elt G)
 (kP:∀i∈fr,∃x,X.N[i]?=some x/\scope.names.lookup x=some .free) (hN:X.N.Nodup) (hiN:X.N[i]?=some y:=by rfl) (hy:X.env.scope.names.lookup y=some .local:=by rfl)
 (hsw:xD (.ListComp elt [⟨tg,iter,ifs,0⟩] scope pos) (some (.Name y py)) spos.line X.env=pure true:=by rfl) (hok:zNt X.env.scope scope=true:=by rfl) (hc:X.calm=true:=by rfl) (hs:∀x,YH iter X.env x=pure x:=by intro _;rfl) :
 MS X (.Assign [.Name y py] (.ListComp elt [⟨tg,iter,ifs,0⟩] scope pos) spos) (zFb i (fLC own.length fr fi g ct G)) :=
 zPu i own fr hi hg hq he kP hN hiN hy hsw hc (zco hok) (z6r hok) (zsn hok) hs
structure FnAt(K:yw)(mg:yt->Qi)(x:yt)(st:Yb)(ps:Qx)(f:yf)(fd:yV):Prop where
 fn:Fun K x x st f fd
 at_:mg x=some (.ref f)
 bd:Binds K fd ps []
def tz{k j n:Nat}{st:Yb}{f:yf}{fd:yV}{ps:Qx}{F:FF}{x:yt}{p:xn}{G:FA}(B:FnAt X.K X.mg x st ps f fd)(φ:Te X.prog X.w X.K X.mg X.base CX0 j f fd ps (spM X.K n F))(hr:tQ k X.A)
 (ha:MAn X (e::es) G) (hj:j<=k:=by decide) (hn:(e::es).length=n:=by rfl) (hg:Gl X x:=by rfl) (hdb:(x==("__debug__":yt))=false:=by decide) (he:yj (e::es) X.env=(false,Yd e X.env)::yj es X.env:=by exact zRc rfl) (kK:(Yl pos (yj es X.env)).any (·.1)=false:=by rfl) :
 ME X (.Call (.Name x p) (e::es) [] pos) (zx F G):=zEr φ (hr.mono hj) B.at_ B.fn.kp B.bd ha hn hg hdb he kK
def cat0{prog:yy}{w:yI}{A:yJ}{E:Value->yc->Prop}{s:yc}{t b:yf}{vs ws:Qh}{Q:Value->yc->Prop}(ht:IsTup s.heap t vs.toArray)(hb:IsTup s.heap b ws.toArray)(hv:vs=[])(h:Q (.ref b) s) :
 yo (yv prog w) A (xw .Add (.ref t) (.ref b)) Q E s:=by
 obtain⟨⟨cls,dd,data,sl⟩,ho,hc,n,hd⟩:=id ht;obtain⟨⟨cls2,dd2,data2,sl2⟩,ho2,hc2,n2,hd2⟩:=id hb;simp only at hc hd hc2 hd2;subst hc hd hc2 hd2;refine concat_meets ⟨_,ho,rfl⟩ ⟨_,ho2,rfl⟩ noFill_tuple_add seq_tuple_add PySem.F.slot_tuple_add PySem.F.entry_tuple_add (PySem.F.args_tuple_add_2 _ _) (tuple_addW0 t b vs.toArray ws.toArray n n2 dd dd2 sl sl2 (by rw[hv];rfl)) ⟨ho,ho2,h⟩
def zPb:OpM X (xw .Add) zsg:=by
 refine OpM.of λU s Y H x y v u Q I rx ry Z dx dy O d O' r1 r2 R e k=>?_;unfold zsg at e
 split at e
 ·cases e;rw[r1.int_inv]at rx;rw[r2.int_inv]at ry;obtain⟨t,rfl⟩:=rx;obtain⟨t',rfl⟩:=ry;exact add_int ⟨.int _,H,I.tok _,⟨_,rfl⟩,k Z H _ Ext.refl R .int⟩
 ·rename_i as bs
  obtain⟨h1,e⟩:=zV e;have h1:=of_decide_eq_true h1;cases e;obtain⟨a1,vs,rfl,e1,q1⟩:=r1.tR;obtain⟨a2,ws,rfl,e2,q2⟩:=r2.tR;have hm:=Tv;have hl1:=q1.length;have hl2:=q2.length
  by_cases hv:vs=[]
  ·cases rx;cases ry;obtain⟨hJ,rv,p1,_⟩:=I.tuple (SqT.of (K:=X.K) e1);obtain⟨its2,rv2,p2,_⟩:=I.tuple (SqT.of (K:=X.K) e2);refine cat0 p1 p2 (rv.sx.mpr hv) ⟨.ref a2,H,I,rfl,k Z H _ Ext.refl R ?_⟩;have ha:as=[]:=by rw[hv]at hl1;exact List.length_eq_zero_iff.mp hl1
   rw[ha,Nw];exact r2
  ·refine zWv U s Y H _ _ v u Q I rx ry ⟨a1,a2,vs,ws,rfl,rfl,SqT.of e1,SqT.of e2,hv,by omega,λhw=>?_,λ_ p hp=>?_⟩
   ·have hb:bs=[]:=by rw[hw]at hl2;exact List.length_eq_zero_iff.mp hl2
    rw[hb,Lf]at k;exact k Z H _ Ext.refl R r1
   ·exact k Z _ _ (Ext.new hp) (R.Tt hp) (.tup zy ((q1.append q2).ext (Ext.new hp)))
 ·split at e
  ·rename_i hm1 hm2
   obtain⟨h1,e⟩:=zV e;have h1:=of_decide_eq_true h1;cases e;obtain⟨a1,rfl,e1⟩:=r1.tw;obtain⟨a2,rfl,e2⟩:=r2.tw;obtain⟨vs,e3,q1⟩:=R.at_ _ _ _ e1 hm1;obtain⟨ws,e4,q2⟩:=R.at_ _ _ _ e2 hm2;have hm:=Tv;have hl1:=q1.length;have hl2:=q2.length;exact zay U s Y H _ _ v u Q I rx ry ⟨a1,a2,vs,ws,rfl,rfl,e3,e4,by omega,λp hp=>k _ _ _ (Ext.push hp) (R.push hp ⟨_,zy,(q1.append q2).ext (Ext.push hp)⟩) (.loc (zub R))⟩
  ·cases e
 ·cases e
def zfl:fillsNumberSlot (.type "tuple") "mul"=pure false :=
 PyProof.Rows.fillsNumberSlot_seq (id:="tuple.__mul__") (r:=some (.builtin "tuple.__rmul__")) PySem.F.slot_tuple_mul.lookup (by decide +kernel) PySem.F.slot_tuple_rmul.lookup (by decide +kernel)
def zQq:seqRepeat? (.type "tuple")=pure (some (.builtin "tuple.__mul__")):=by
 unfold seqRepeat?;rw[PyProof.Rows.seqSlot_of (T:="tuple") (name:="__mul__") (id:="tuple.__mul__") PySem.F.slot_tuple_mul.lookup (by decide +kernel),PyProof.Rows.seqSlot_of (T:="tuple") (name:="__rmul__") (id:="tuple.__rmul__") PySem.F.slot_tuple_rmul.lookup (by decide +kernel)];rfl
def zzi(i:Int)(t:Tok)(l:yf)(items:Qm)(n:Nat)(dd:Qw)(sl:Array (Qi)) :
 Meets (xi.«int.__rmul__» ⟨[.int i t,.ref l],[]⟩) (λ_ R s=>s.heap.get? l=some {cls:=.type "tuple",dict:=dd,data:=.seq items n,slots:=sl }/\R (.ok (.ret Value.notImplemented)) s) :=
 .of_wp λprog w A R s h=>by
  obtain⟨hp,g,d,tk,os⟩:=s;obtain⟨hl,h⟩:=h
  wp_walk
  exact⟨_,rfl,h⟩
def znm(l:yf)(items:Qm)(n:Nat)(dd:Qw)(sl:Array (Qi))(i:Int)(t:Tok)(h2:2<=i)(h3:i<=1000)(h4:items.isEmpty=false)(h5:items.size<=1000)
 (hsz:((yD i.toNat items).foldl (λx1 x2=>x1++x2) #[]).size<=yF) :
 Meets (xi.«tuple.__mul__» ⟨[.ref l,.int i t],[]⟩) (λ_ R s=>s.heap.get? l=some {cls:=.type "tuple",dict:=dd,data:=.seq items n,slots:=sl } /\
  R (.ok (.ret (yH s.heap.objs.size))) {s with heap:=s.heap.push {cls:=Yx "tuple",data:=Data.seq ((yD i.toNat items).foldl (λx1 x2=>x1++x2) #[])},toks:=s.toks }) :=
 .of_wp λprog w A R s h=>by
  obtain⟨hp,g,d,tk,os⟩:=s;obtain⟨hl,h⟩:=h;have f1:=AutoSeq1.idx_int
  have c1:¬((decide (i < -(2^63))||decide (i≥2^63))=true):=by
   rw[decide_eq_false (by omega),decide_eq_false (by omega)];exact yA
  have c2:¬((items.isEmpty||i==1)=true):=by
   rw[h4,show(i==1)=false by simp;omega];exact yA
  have c3:¬((decide (i<=0)||items.isEmpty)=true):=by
   rw[h4,decide_eq_false (by omega)];exact yA
  have c4:¬((items.size:Int)*i>(2^63-1) / 8):=by
   have h6:(items.size:Int)*i<=1000*1000:=Int.mul_le_mul (by omega) h3 (by omega) (by omega);omega
  have c5:¬(Builtin.Tuple.tupleTooMany ((items.size:Int)*i)=true):=by
   have h6:(items.size:Int)*i<=1000*1000:=Int.mul_le_mul (by omega) h3 (by omega) (by omega);have hz:(yF:Int)=16777216:=by rw[Yo];rfl
   unfold Builtin.Tuple.tupleTooMany;rw[decide_eq_false (by omega)];exact yA
  wp_walk using wpAny_loadPart' hl
  rw[if_neg c1]
  wp_walk using wpAny_loadPart' hl
  rw[if_neg c2];dsimp only;rw[if_neg c3,if_neg c4,if_neg c5];refine ya (m:=xf _) (yY (ye ⟨_,rfl,h⟩) hsz)
def zRl(hJ:Qh):∀(n:Nat)(hZ:Qh),List.foldl (λx1 x2=>x1++x2) hZ.toArray (yD n hJ.toArray)=(hZ++(yD n hJ).flatten).toArray
 |0,hZ=>by simp
 |n+1,hZ=>by
  rw[Vc,List.foldl_cons,List.append_toArray,zRl hJ n,Vc,Lo,Le]
def zoo{K:yw}{Z:Qv}{H:Hp}{ds:Wm}{vs:Wi}(r:tf K Z H ds vs):∀n:Nat,tf K Z H (yD n ds).flatten (yD n vs).flatten
 |0 =>.nil
 |n+1=>by
  rw[Vc,Vc,Lo,Lo];exact r.append (zoo r n)
def zYm{vs:Wi}{us:Qh}(r:Vals vs us):∀n:Nat,Vals (yD n vs).flatten (yD n us).flatten
 |0 =>.nil
 |n+1=>by
  rw[Vc,Vc,Lo,Lo];exact r.append (zYm r n)
def zie:OpM X (xw .Mult) zjj:=by
 refine OpM.of λU s Y H x y v u Q I rx ry Z dx dy O d O' r1 r2 R e k=>?_;unfold zjj at e
 split at e
 ·obtain⟨h1,e⟩:=zV e;cases e;rw[r1.int_inv]at rx;rw[r2.int_inv]at ry;obtain⟨t,rfl⟩:=rx;obtain⟨t',rfl⟩:=ry;exact mul_int ⟨.int _,H,I.tok _,⟨_,rfl⟩,k Z H _ Ext.refl R .int⟩ (znu h1)
 ·rename_i ds i
  obtain⟨h1,e⟩:=zV e;have h1:=of_decide_eq_true h1;obtain⟨h2,h3,h4,h5⟩:=h1;cases e;obtain⟨a1,vs,rfl,e1,q1⟩:=r1.tR;rw[r2.int_inv]at ry;cases rx;obtain⟨t,rfl⟩:=ry;obtain⟨hJ,rv,⟨⟨cls,dd,data,sl⟩,ho,hc,n,hd⟩,hz⟩:=I.tuple (SqT.of (K:=X.K) e1);simp only at hc hd;subst hc hd;have hl:hJ.length=ds.length:=by rw[q1.length,rv.length]
  have hW:((yD i.toNat vs).flatten).length<=yF:=by
   rw[zAs];have hm:=Tv;have h6:i.toNat*vs.length<=1000*1000:=Nat.mul_le_mul (by omega) (by rw[<-q1.length];exact h5);omega
  have e2:=zRl hJ i.toNat [];rw[Nw]at e2
  have hsz:((yD i.toNat hJ.toArray).foldl (λx1 x2=>x1++x2) #[]).size<=yF:=by
   rw[show(#[]:Qm)=([]:Qh).toArray from rfl,e2,Vd,<-(zYm rv i.toNat).length];exact hW
  refine wpAny_binaryOp_repeat_ref (T:="tuple") (U:="int") (by decide) ⟨_,ho,rfl⟩ (λs'=>typeIs_int s' i t) zfl PySem.F.fills_int_mul PySem.F.slot_int_rmul zQq PySem.F.slot_int_index.lookup
   (Xr PySem.F.slot_int_rmul (typeIs_int s i t) PySem.F.entry_int_rmul (PySem.F.args_int_rmul_2 _ _) (zzi i t a1 hJ.toArray n dd sl)
    ⟨ho,rfl,⟨_,ho,rfl⟩,Xr PySem.F.slot_tuple_mul ⟨_,ho,rfl⟩ PySem.F.entry_tuple_mul (PySem.F.args_tuple_mul_2 _ _) (znm a1 hJ.toArray n dd sl i t h2 h3 (by rw[List.isEmpty_toArray,List.isEmpty_eq_false_iff_exists_mem];exact⟨_,Lq (by omega:0<hJ.length)⟩) (by rw[Vd,hl];exact h5) hsz) ⟨ho,?_⟩⟩)
  rw[show(#[]:Qm)=([]:Qh).toArray from rfl,e2];have hf:=I.hok.fresh (yh s.heap.objs.size);refine⟨.ref s.heap.objs.size,_,I.laid (t':=s.toks) (o:=.tup (yD i.toNat vs).flatten) (λb ob q=>yb _ q) (yh _) ?_,rfl,k Z _ _ (Ext.new hf) (R.Tt hf) (.tup zy ((zoo q1 i.toNat).ext (Ext.new hf)))⟩;exact⟨hW,_,zYm rv i.toNat,IsTup.new _ _⟩
 ·rename_i l n
  split at e
  ·rename_i ds hm
   obtain⟨h1,e⟩:=zV e;have h1:=of_decide_eq_true h1;obtain⟨h2,h3,h4⟩:=h1;cases e;obtain⟨a1,rfl,ea⟩:=r1.tw;obtain⟨vs,e3,q3⟩:=R.at_ _ _ _ ea hm;refine zHy U s Y H _ _ v u Q I rx ry ⟨a1,n,vs,rfl,r2.int_inv,e3,by omega,by omega,?_,λp hp=>k _ _ _ (Ext.push hp) (R.push hp ⟨_,zy,(zoo q3 n.toNat).ext (Ext.push hp)⟩) (.loc (zub R))⟩;have hmi:=Tv;have h6:vs.length*n.toNat<=1000*1000:=Nat.mul_le_mul (by rw[<-q3.length];exact h4) (by omega);omega
  ·cases e
 ·cases e
abbrev FO:=Loc->Mem->Option (Option Int×Mem)
def tMO(K:yw)(G:FO):TO:=λY H Q=>∃Z J O o O',At K Z H Y J O/\G J O=some (o,O')/\∀Z' H',Ext Z H Z' H'->tG K Z' H' O'->Q o H'
def MO(X:Cx)(e:Option yE)(G:FO):Prop:=PO X e (tMO X.K G)
@[simp] def pNo:FO:=λ_ O=>some (none,O)
@[simp] def zBz(G:FE):FO:=λJ O=>(G J O).bind λp=>match p.1 with
 |.int i=>some (some i,p.2)
 |_=>none
def cutD(xs:Wm)(lo hi:Qk):Wm:=(xs.drop (HT.sIx xs.length 0 lo)).take (HT.sIx xs.length xs.length hi-HT.sIx xs.length 0 lo)
@[simp] def fSl(G:FE)(lo hi:FO):FE:=λJ O=>(G J O).bind λp=>(lo J p.2).bind λl=>(hi J l.2).bind λh=>match p.1 with
 |.tup ds=>some (.tup (cutD ds l.1 h.1),h.2)
 |.loc n=>match h.2[n]? with
  |some (.lst ds)=>some (.loc h.2.length,h.2++[.lst (cutD ds l.1 h.1)])
  |_=>none
 |_=>none
end
def z1r{prog:yy}{w:yI}{A:yJ}{E:Value->yc->Prop}{s:yc}{t sl:yf}{items:Qm}{vl vu:Value}{lo hi:Qk}{Q:Value->yc->Prop}(ht:IsTup s.heap t items)(hs:s.heap.IsSliceOf sl vl vu .none)(pl:IsPart vl lo)(pu:IsPart vu hi)
 (hw:HT.sIx items.size 0 lo=0/\HT.sIx items.size items.size hi=items.size) (h:Q (.ref t) s):yo (yv prog w) A (getItem (.ref t) (.ref sl)) Q E s:=by
 obtain⟨os,hos,hcs,hds⟩:=id hs;have hTs:s.TypeIs (.ref sl) "slice":=⟨os,hos,hcs⟩
 unfold getItem
 try with_reducible refine yQ ?_
 first|refine ya (ye ?_)|skip
 refine ya (wpAny_sequenceKey ht.typeIs (by decide) ?_)
 refine ya (Yi (name:=YX "__getitem__") ht.typeIs xc
  (Yc xc ht.typeIs entry_tuple_getitem ?_ (args_tuple_getitem _ _)))
 show yo _ _ (Builtin.Tuple.tupleItemsOf (.ref t) >>= _) _ _ s;refine ya (tupleItemsOf_ ht ?_);refine ya (Xx hTs ?_);rw[if_pos (by decide)];refine ya (HT.TC hs pl pu ?_)
 have hyes:(((HT.sIx items.size 0 lo:Nat):Int)==0&&(1:Int)==1&&(HT.sIx items.size items.size hi-HT.sIx items.size 0 lo)==items.size)=true:=by
  rw[hw.1,hw.2];simp
 show yo _ _ (if(((HT.sIx items.size 0 lo:Nat):Int)==0&&(1:Int)==1&&(HT.sIx items.size items.size hi-HT.sIx items.size 0 lo)==items.size)=true then _ else _) _ _ s;rw[if_pos hyes];refine ya (m:=Builtin.Tuple.tupleIsExact _) ?_;unfold Builtin.Tuple.tupleIsExact;refine ya (Xx ht.typeIs (ye ?_));rw[if_pos (by decide)];exact ya (wpAny_rule (ye ⟨_,rfl,ye h⟩))
section
variable {X:Cx}{a b c e:yE}{es:Qz}{G ψ χ:FE}{pos p2:xn}{lo hi:Option yE}
def rSl(K:yw):V->Qk->Qk->Hp->VK->Prop:=λx lo hi H Q=>∃a xs,x=.ref a/\H a=some (.tup xs) /\
 ((HT.sIx xs.length 0 lo=0/\HT.sIx xs.length xs.length hi=xs.length)->Q (.ref a) H)/\∀p,H p=none->Q (.ref p) (upd H p (.tup (zDr xs lo hi)))
def zOy:SlR X (rSl X.K):=by
 intro U s Y H x v vl vu lo hi sl Q I rx hs pl pu h;obtain⟨a,xs,rfl,hx,h1,h2⟩:=h
 by_cases hw:HT.sIx xs.length 0 lo=0/\HT.sIx xs.length xs.length hi=xs.length
 ·cases rx;obtain⟨hJ,r,ht,hz⟩:=I.tuple (SqT.of (K:=X.K) hx);have hW:hJ.toArray.size=xs.length:=by rw[Vd];exact r.length.symm
  exact⟨"tuple",_,PyProof.Rows.slot_tuple_getitem.lookup,ht.typeIs,z1r ht hs pl pu (by rw[hW];exact hw) ⟨.ref a,H,I,rfl,h1 hw⟩⟩
 ·exact zTx U s Y H _ v vl vu lo hi sl Q I rx hs pl pu ⟨a,xs,rfl,SqT.of hx,hw,h2⟩
def zLz:MO X none pNo:=by intro U s Y H Q I hh;obtain⟨Z,J,O,o,O',A,e,k⟩:=hh;exact zQw U s Y H Q I (by cases e;exact k Z H Ext.refl A.hp)
def z0x(h:ME X e G):MO X (some e) (zBz G):=by intro U s Y H Q I hh;obtain⟨Z,J,O,o,O',A,e,k⟩:=hh;exact z0w h U s Y H Q I (by
 obtain⟨⟨x,O1⟩,e1,e⟩:=zj e;refine⟨Z,J,O,x,O1,A,e1,λZ1 H1 v x1 R1 r1=>?_⟩;dsimp only at e
 split at e
 ·cases e;exact⟨_,r1.int_inv,k Z1 H1 x1 R1⟩
 ·cases e)
def zTo{K:yw}{Z:Qv}{H:Hp}{ds:Wm}{vs:Wi}{lo hi:Qk}(r:tf K Z H ds vs):tf K Z H (cutD ds lo hi) (zDr vs lo hi):=by
 unfold cutD zDr;rw[r.length];exact(r.drop _).take _
def zZz{l h:FO}(he:ME X e G)(hl:MO X lo l)(hu:MO X hi h):ME X (.Subscript e (.Slice lo hi none p2) pos) (fSl G l h) :=
 zge (zlv (SlR.or zOy zpw) he hl hu) λZ J O Y H d O' Q A e k=>by
  obtain⟨⟨x,O1⟩,e1,e⟩:=zj e;obtain⟨⟨o1,O2⟩,e2,e⟩:=zj e;obtain⟨⟨o2,O3⟩,e3,e⟩:=zj e;refine⟨Z,J,O,x,O1,A,e1,λZ1 H1 v x1 R1 r1=>?_⟩;refine⟨Z1,J,O1,o1,O2,A.ext x1 R1,e2,λZ2 H2 x2 R2=>?_⟩;refine⟨Z2,J,O2,o2,O3,A.ext (x1.trans x2) R2,e3,λZ3 H3 x3 R3=>?_⟩;dsimp only at e
  split at e
  ·cases e;obtain⟨a,vs,rfl,ea,q⟩:=(r1.ext (x2.trans x3)).tR;have xx:=x1.trans (x2.trans x3);refine .inl ⟨a,vs,rfl,ea,λhw=>k Z3 H3 _ xx R3 (.tup ea ?_),λp hp=>k Z3 _ _ (xx.trans (Ext.new hp)) (R3.Tt hp) (.tup zy ((zTo q).ext (Ext.new hp)))⟩
   have e4:zDr vs o1 o2=vs:=by
    unfold zDr;rw[hw.1,hw.2,Nat.sub_zero,List.drop_zero,Vh]
   have:=zTo (lo:=o1) (hi:=o2) q;rw[e4]at this;exact this
  ·split at e
   ·rename_i hm
    cases e;obtain⟨a,rfl,ea⟩:=(r1.ext (x2.trans x3)).tw;obtain⟨vs,ev,q⟩:=R3.at_ _ _ _ ea hm;have xx:=x1.trans (x2.trans x3);exact .inr ⟨a,vs,rfl,SqL.of ev,λp hp=>k _ _ _ (xx.trans (Ext.push hp)) (R3.push hp ⟨_,zy,(zTo q).ext (Ext.push hp)⟩) (.loc (zub R3))⟩
   ·cases e
  ·cases e
@[simp] def zaB(G:FE):FE:=λJ O=>(G J O).bind λp=>match p.1 with
 |.int i=>some (.int (-i),p.2)
 |_=>none
def big{U:Qb}{Y:L2.St}{H:Hp}{s:yc}(I:Inv X U Y H s):sysModules<s.heap.objs.size:=by
 have h:yp<s.heap.objs.size:=(I.mod.glob.keeps I.bk).lt;exact Xa (by decide) h
@[simp] def z7x:FE:=λ_ O=>some (.loc O.length,O++[.dct []])
def zqs:ME X (.Dict [] [] pos) z7x:=by
 intro U s Y H Q I hh;obtain⟨Z,J,O,d,O',A,e,k⟩:=hh;cases e;have hf:=I.hok.fresh (yh s.heap.objs.size);refine wpAny_Dict_empty ⟨.ref s.heap.objs.size,_,I.laid (a:=s.heap.objs.size) (o:=.dK []) (t':=s.toks) (λ_ _ q=>yb _ q) (yh _) ?_,rfl,k _ _ _ (Ext.push hf) (A.hp.push hf ⟨[],zy,rfl,.nil⟩) (.loc (zub A.hp))⟩;exact⟨Ys _,beq_eq_false_iff_ne.mpr (yR (yu (big I))),[],.nil,Heap.DictOf.new _⟩
def zVc:D->Bool
 |.non | .bl _ | .int _ | .str _=>true
 |_=>false
def eqF:D->D->Bool
 |.non,.non=>true
 |.bl a,.bl b=>a==b
 |.bl a,.int b=>(if a then 1 else 0)==b
 |.int a,.bl b=>a==(if b then 1 else 0)
 |.int a,.int b=>a==b
 |.str a,.str b=>a==b
 |_,_=>false
def gIn:φ2:=λx y O=>(items O y).bind λds=>bif zVc x&&ds.all zVc then some (.bl (ds.any λd=>eqF d x),O) else none
def z9g:φ2:=λx y O=>(items O y).bind λds=>bif zVc x&&ds.all zVc then some (.bl (!ds.any λd=>eqF d x),O) else none
def ztj{K:yw}{Z:Qv}{H:Hp}{d:D}{v:V}(r:tu K Z H d v)(f:zVc d=true):zPj v=true:=by
 cases d with
 |non=>rw[r.tJ];rfl
 |bl b=>rw[r.tU];rfl
 |int b=>rw[r.int_inv];rfl
 |str b=>rw[r.str_inv];rfl
 |_=>cases f
def zot{K:yw}{Z:Qv}{H:Hp}{d d':D}{v v':V}(r:tu K Z H d v)(r':tu K Z H d' v')(f:zVc d=true)(f':zVc d'=true):eqV v v'=eqF d d':=by
 cases d with
 |non=>rw[r.tJ];cases d' with
  |non=>rw[r'.tJ];rfl
  |bl b=>rw[r'.tU];rfl
  |int b=>rw[r'.int_inv];rfl
  |str b=>rw[r'.str_inv];rfl
  |_=>cases f'
 |bl b=>rw[r.tU];cases d' with
  |non=>rw[r'.tJ];rfl
  |bl b=>rw[r'.tU];rfl
  |int b=>rw[r'.int_inv];rfl
  |str b=>rw[r'.str_inv];rfl
  |_=>cases f'
 |int b=>rw[r.int_inv];cases d' with
  |non=>rw[r'.tJ];rfl
  |bl b=>rw[r'.tU];rfl
  |int b=>rw[r'.int_inv];rfl
  |str b=>rw[r'.str_inv];rfl
  |_=>cases f'
 |str b=>rw[r.str_inv];cases d' with
  |non=>rw[r'.tJ];rfl
  |bl b=>rw[r'.tU];rfl
  |int b=>rw[r'.int_inv];rfl
  |str b=>rw[r'.str_inv];rfl
  |_=>cases f'
 |_=>cases f
def zhq{K:yw}{Z:Qv}{H:Hp}{x:D}{v:V}(rx:tu K Z H x v)(fx:zVc x=true):∀{ds:Wm} {vs:Wi},tf K Z H ds vs->ds.all zVc=true->vs.all zPj=true/\inV v vs=ds.any λd=>eqF d x
 |[],_,r,_=>by rw[r.nil_inv];exact⟨rfl,rfl⟩
 |d::ds,_,r,f=>by
  obtain⟨w,ws,rfl,r1,r2⟩:=r.cons_inv;rw[La,yK]at f;obtain⟨h1,h2⟩:=zhq rx fx r2 f.2;refine⟨by rw[La,ztj r1 f.1,h1];rfl,?_⟩;unfold inV at h2 ⊢;rw[Lb,Lb,h2,zot r1 rx f.1 fx]
def zGv:OpM X (Yz .In) gIn:=by
 refine OpM.of λU s Y H x y v u Q I rx ry Z dx dy O d O' r1 r2 R e k=>?_;obtain⟨ds,e1,e⟩:=zj e;obtain⟨h1,e⟩:=zV e;rw[yK]at h1;cases e;obtain⟨p,vs,rfl,hq,rr⟩:=zjg R r2 e1;obtain⟨h3,h4⟩:=zhq r1 h1.1 rr h1.2;exact zrt U s Y H x _ v u Q I rx ry ⟨p,vs,rfl,hq,ztj r1 h1.1,h3,by rw[if_neg yA,h4];exact k Z H _ Ext.refl R .bl⟩
def zXe:OpM X (Yz .NotIn) z9g:=by
 refine OpM.of λU s Y H x y v u Q I rx ry Z dx dy O d O' r1 r2 R e k=>?_;obtain⟨ds,e1,e⟩:=zj e;obtain⟨h1,e⟩:=zV e;rw[yK]at h1;cases e;obtain⟨p,vs,rfl,hq,rr⟩:=zjg R r2 e1;obtain⟨h3,h4⟩:=zhq r1 h1.1 rr h1.2;exact zko U s Y H x _ v u Q I rx ry ⟨p,vs,rfl,hq,ztj r1 h1.1,h3,by rw[if_pos rfl,h4];exact k Z H _ Ext.refl R .bl⟩
abbrev GM:=D->Wm->Mem->Option (D×Mem)
@[simp] def zji(g:GM)(G:FE)(ψ:FA):FE:=λJ O=>(G J O).bind λp=>match p.1 with
 |.loc n=>match p.2[n]? with
  |some (.lst _)=>(ψ J p.2).bind λq=>g (.loc n) q.1 q.2
  |_=>none
 |_=>none
@[simp] def zfg:GM:=λx ds O=>match x,ds with
 |.loc n,[d]=>match O[n]? with
  |some (.lst xs)=>bif decide (xs.length<=1000000) then some (.non,O.set n (.lst (xs++[d]))) else none
  |_=>none
 |_,_=>none
def MtG(X:Cx)(id:String)(g:GM):Prop:=MtR X id λx xs H Q=>∃Z dx ds O d O',tu X.K Z H dx x/\tf X.K Z H ds xs/\tG X.K Z H O/\g dx ds O=some (d,O')/\∀Z' H' v,Ext Z H Z' H'->tG X.K Z' H' O'->tu X.K Z' H' d v->Q v H'
def MtG.of{X:Cx}{id:String}{g:GM}(h:∀(U:Qb) (s:yc) (Y:L2.St) (H:Hp) (x:V) (xs:Wi) (v:Value) (us:Qh) (Q:VK),Inv X U Y H s->RelV x v->Vals xs us->∀(Z:Qv)(dx:D)(ds:Wm)(O:Mem)(d:D)(O':Mem),tu X.K Z H dx x->tf X.K Z H ds xs->tG X.K Z H O->g dx ds O=some (d,O')->(∀Z' H' v,Ext Z H Z' H'->tG X.K Z' H' O'->tu X.K Z' H' d v->Q v H')->yo (yv X.prog X.w) X.A (call (.builtin id) (v::us)) (EP X U Y Q) X.xe s):MtG X id g:=by
 intro U s Y H x xs v us Q I rx rs hh;obtain⟨Z,dx,ds,O,d,O',r1,r2,R,e,k⟩:=hh;exact h U s Y H x xs v us Q I rx rs Z dx ds O d O' r1 r2 R e k
def zgm{o:yE}{ψ:FA}{name:yt}{id:String}{g:GM}{kA:xn}(slot:Slot "list" name id)(hty:typeOf (.builtin id)=pure (.type "method_descriptor"))(hm:MtG X id g)(ho:ME X o G)(ha:MAn X (e::es) ψ)
 (kE:YB o name X.env (Yd o X.env)=Yd o X.env:=by rfl)
 (kF:((Yl pos (yj (e::es) X.env)).all (λx=>!x.1)&&(xP pos (YT [] X.env)).all (λx=>x.1.isSome)
  && decide ((e::es).length+([]:List xN).length+(if([]:List xN).isEmpty then 0 else 1)<30))=true:=by rfl)
 (kB:(kA.endLine==pos.line)=true:=by rfl) (hs:yj (e::es) X.env=(false,Yd e X.env)::yj es X.env:=by rfl) (kD:(Yl pos (yj es X.env)).any (·.1)=false:=by rfl) :
 ME X (.Call (.Attribute o name kA) (e::es) [] pos) (zji g G ψ) :=
 zge (zkz PySem.F.plainAttrs_list slot hty hm ho ha.ma kE kF kB hs kD) λZ J O Y H d O' Q A e k=>by
  obtain⟨⟨x,O1⟩,e1,e⟩:=zj e;refine⟨Z,J,O,x,O1,A,e1,λZ1 H1 v x1 R1 r1=>?_⟩;dsimp only at e
  split at e
  ·split at e
   ·rename_i hm'
    obtain⟨⟨ds,O2⟩,e2,e⟩:=zj e;obtain⟨a,rfl,ea⟩:=r1.tw;obtain⟨vs,e3,q3⟩:=R1.at_ _ _ _ ea hm';refine⟨.inl ⟨rfl,vs,SqL.of e3⟩,Z1,J,O1,ds,O2,A.ext x1 R1,e2,λZ2 H2 vs2 x2 R2 r2=>?_⟩;exact⟨Z2,_,ds,O2,d,O',r1.ext x2,r2,R2,e,λZ3 H3 v3 x3 R3 r3=>k Z3 H3 v3 (x1.trans (x2.trans x3)) R3 r3⟩
   ·cases e
  ·cases e
def zvq:MtG X "list.append" zfg:=by
 refine MtG.of λU s Y H x xs v us Q I rx rs Z dx ds O d O' r1 r2 R e k=>?_;unfold zfg at e
 split at e
 ·split at e
  ·rename_i hm
   obtain⟨h1,e⟩:=zV e;have h1:=of_decide_eq_true h1;cases e;obtain⟨a,rfl,ea⟩:=r1.tw;obtain⟨vs,e3,q3⟩:=R.at_ _ _ _ ea hm;obtain⟨w,r,rfl,q1,q2⟩:=r2.cons_inv;rw[q2.nil_inv]at rs;have hl:=q3.length;have hmi:=Tv;have kN:Mut (H a):=by rw[e3];trivial
   refine zyr U s Y H _ _ v us Q I rx rs ⟨a,vs,w,rfl,rfl,e3,by omega,?_⟩;exact k Z _ _ (Ext.wr kN) (R.wr kN ea ⟨_,zy,tf.ext (Ext.wr kN) (q3.append (.cons q1 .nil))⟩) .non
  ·cases e
 ·cases e
def zui{o:yE}{ψ:FA}{kA:xn}(ho:ME X o G)(ha:MAn X (e::es) ψ)
 (kE:YB o "append" X.env (Yd o X.env)=Yd o X.env:=by rfl)
 (kF:((Yl pos (yj (e::es) X.env)).all (λx=>!x.1)&&(xP pos (YT [] X.env)).all (λx=>x.1.isSome)
  && decide ((e::es).length+([]:List xN).length+(if([]:List xN).isEmpty then 0 else 1)<30))=true:=by rfl)
 (kB:(kA.endLine==pos.line)=true:=by rfl) (hs:yj (e::es) X.env=(false,Yd e X.env)::yj es X.env:=by rfl) (kD:(Yl pos (yj es X.env)).any (·.1)=false:=by rfl) :
 ME X (.Call (.Attribute o "append" kA) (e::es) [] pos) (zji zfg G ψ):=zgm PySem.F.slot_list_append PySem.F.type_list_append zvq ho ha kE kF kB hs kD
end
end M
namespace M
open PySem
def RS(xs:Array Nat):Prop:=xs.toList.Pairwise (· < ·)
def zum(xs:Array Nat)(j:Nat)(h:RS xs):∀(fuel lo hi:Nat),lo<=hi->hi<=xs.size->hi-lo<=fuel->(∀i (hi':i<xs.size),i<lo->xs[i]<j)->(∀i (hi':i<xs.size),hi<=i->j<=xs[i]) ->
 Xo xs j fuel lo hi<=xs.size/\(∀i (hi':i<xs.size),i<Xo xs j fuel lo hi->xs[i]<j)/\∀i (hi':i<xs.size),Xo xs j fuel lo hi<=i->j<=xs[i]
 |0,lo,hi,h1,h2,h3,h4,h5=>by
  have:lo=hi:=by omega
  subst this;unfold Xo;exact⟨h2,h4,h5⟩
 |fuel+1,lo,hi,h1,h2,h3,h4,h5=>by
  have hp:∀i k (hi:i<xs.size) (hk:k<xs.size),i<k->xs[i]<xs[k]:=λi k hi hk hik=>by
   have:=List.pairwise_iff_getElem.mp h i k (by simpa using hi) (by simpa using hk) hik;simpa using this
  unfold Xo
  by_cases kH:lo<hi
  ·rw[if_pos kH];dsimp only;have hm:(lo+hi) / 2<xs.size:=by omega
   have hg:xs.getD ((lo+hi) / 2) j=xs[(lo+hi) / 2]:=by simp[Array.getD,hm]
   rw[hg]
   by_cases hc:xs[(lo+hi) / 2]<j
   ·rw[if_pos hc];refine zum xs j h fuel _ hi (by omega) h2 (by omega) (λi hi' hil=>?_) h5
    by_cases e:i=(lo+hi) / 2
    ·subst e;exact hc
    ·exact Xa (hp i _ hi' hm (by omega)) hc
   ·rw[if_neg hc];refine zum xs j h fuel lo _ (by omega) (by omega) (by omega) h4 (λi hi' hil=>?_)
    by_cases e:i=(lo+hi) / 2
    ·subst e;omega
    ·exact yG (by omega) (YQ (hp _ i hm hi' (by omega)))
  ·rw[if_neg kH];have:lo=hi:=by omega
   subst this;exact⟨h2,h4,h5⟩
def zYl(xs:Array Nat)(j:Nat)(h:RS xs):YO xs j<=xs.size/\(∀i (hi:i<xs.size),i<YO xs j->xs[i]<j)/\∀i (hi':i<xs.size),YO xs j<=i->j<=xs[i] :=
 zum xs j h xs.size 0 xs.size (Ys _) (yh _) (by omega) (λi _ h=>by omega) (λi h1 h2=>by omega)
def zJm{α:Type}(xs:Array α)(p:Nat)(x:α):(SetTable.insertAt xs p x).toList=xs.toList.take p++x::xs.toList.drop p:=by
 unfold SetTable.insertAt;simp;rw[List.take_of_length_le (by simp)]
def zVx{xs:Array Nat}{j:Nat}(h:RS xs)(hn:xs[YO xs j]?≠some j):RS (SetTable.insertAt xs (YO xs j) j):=by
 obtain⟨h0,h1,h2⟩:=zYl xs j h;unfold RS at h ⊢;rw[zJm];generalize YO xs j=r at *
 have hd:∀y∈xs.toList.drop r,j<y:=λy hy=>by
  obtain⟨i,hi,rfl⟩:=List.mem_iff_getElem.mp hy;simp at hi;have hi':r+i<xs.size:=by omega
  have h3:=h2 (r+i) hi' (by omega);have e:(xs.toList.drop r)[i]'(by simp;omega)=xs[r+i]:=by simp
  rw[e]
  by_cases hz:i=0
  ·subst hz;have:xs[r]?=some xs[r]:=by simp
   simp only[Nat.add_zero]at h3 ⊢;rw[this]at hn;have:xs[r]≠j:=λe=>hn (by rw[e]);omega
  ·have hp:=List.pairwise_iff_getElem.mp h r (r+i) (by simp;omega) (by simpa using hi') (by omega);simp at hp;have:=h2 r (by omega) (yh _);omega
 have ht:∀y∈xs.toList.take r,y<j:=λy hy=>by
  obtain⟨i,hi,rfl⟩:=List.mem_iff_getElem.mp hy;simp at hi;have e:(xs.toList.take r)[i]'(by simp;omega)=xs[i]:=by simp
  rw[e];exact h1 i (by omega) (by omega)
 rw[List.pairwise_append];refine⟨h.sublist (Vi _ _),List.pairwise_cons.mpr ⟨hd,h.sublist (List.drop_sublist _ _)⟩,λa ha b hb=>?_⟩;rcases List.mem_cons.mp hb with rfl|hb
 ·exact ht a ha
 ·exact Xa (ht a ha) (hd b hb)
structure TOk(L:Bool)(t:xz):Prop where
 rs:RS t.place
 nd:t.dummies = #[]
 led:t.led=L
def zQp{j:Nat}:SetTable.has #[] j=false:=by
 unfold SetTable.has;simp
def zHp{t:xz}(hn:t.dummies = #[]){ha:Nat->Int}{h:Int}:∀(fuel:Nat)(p:SetTable.Probe)(j:Nat)(d:Qj),p.dummy=none->SetTable.probe.go t ha h fuel p=some (.empty j d)->t.slot j=.empty/\d=none
 |0,p,j,d,_,e=>by unfold SetTable.probe.go at e;cases e
 |fuel+1,p,j,d,hd,e=>by
  unfold SetTable.probe.go at e
  have hadv:(t.advance p).dummy=none:=by
   unfold SetTable.advance
   split
   ·exact hd
   ·exact hd
  split at e
  ·rename_i hs
   cases e;exact⟨hs,hd⟩
  ·rename_i hs
   unfold SetTable.slot at hs;dsimp only at hs;rw[hn,zQp]at hs
   split at hs<;>simp at hs
  ·split at e
   ·cases e
   ·exact zHp hn fuel _ j d hadv e
def z5m{t:xz}(hn:t.dummies = #[]){h:Int}{j:Nat}{b:Bool}(e:t.freeSlot h=some (j,b)):t.place[YO t.place j]?≠some j:=by
 unfold SetTable.freeSlot at e
 split at e
 ·rename_i j' d hp
  obtain⟨h1,rfl⟩:=zHp hn _ _ _ _ rfl hp;cases e;unfold SetTable.slot at h1;dsimp only at h1;intro q;simp only[Option.getD_none]at q;rw[q]at h1;simp at h1
 ·cases e
def TOk.standIn{L:Bool}{t:xz}(h:TOk L t)(n:Nat):TOk L (t.standIn n):=by
 refine⟨?_,rfl,h.led⟩;unfold RS SetTable.standIn;rw[Array.toList_range];exact List.pairwise_lt_range
def TOk.layNew{L:Bool}{t:xz}(h:TOk L t)(es:Array (Int×Value))(hs:Int)(x:Value):TOk L (layNew t es hs x).2.1:=by
 unfold PySem.layNew
 split
 ·rename_i slot wd e
  have kL:=z5m h.nd e
  have h1:TOk L (t.put slot).1:=⟨zVx h.rs kL,by
   unfold SetTable.put;dsimp only;rw[h.nd,zQp];rfl,h.led⟩
  show TOk L ((t.put slot).1.orStandIn _);unfold SetTable.orStandIn
  split
  ·exact h1
  ·exact h1.standIn _
 ·exact h.standIn _
def TOk.relay{L:Bool}{t:xz}(h:TOk L t)(es:Array (Int×Value))(wanted:Nat):TOk L (relayAll t es wanted).2.1:=by
 unfold relayAll
 split
 ·rename_i t' order e
  dsimp only
  split
  ·unfold SetTable.relaid SetTable.laid at e;obtain⟨ow,_,e⟩:=Option.bind_eq_some_iff.mp e;cases e;refine⟨?_,rfl,h.led⟩;unfold RS;dsimp only;rw[Vb];refine List.Pairwise.filterMap _ (λa a' kH b hb b' hb'=>?_) List.pairwise_lt_range;simp at hb hb';obtain⟨_,_,rfl⟩:=hb;obtain⟨_,_,rfl⟩:=hb';exact kH
  ·exact h.standIn _
 ·exact h.standIn _
def TOk.fresh(L:Bool):TOk L (.fresh 0 0 L):=⟨List.Pairwise.nil,rfl,rfl⟩
def zPk(e:Int×Value):Int:=match e.2 with
 |.int i _=>i
 |_=>0
def TN(prog:yy)(w:yI)(h:yT)(a:yf)(ks:Qg):Prop :=
 ∃o es ep t,h.get? a=some o/\o.ExactSet/\o.data=.set es ep t/\t.fits es.size=true/\TOk (!w.params.followText "set-order") t/\ElemsOf (intKind prog w) es.toList/\(es.toList.map zPk).Perm ks
section
variable {prog:yy}{w:yI}{A:yJ}{E:Value->yc->Prop}{s:yc}
def zrs{es:List (Int×Value)}{e:Int×Value}{k:Int}(h:ElemsOf (intKind prog w) es)(he:e∈es):(intKind prog w).is k e.2=true↔zPk e=k:=by
 obtain⟨⟨j,hj,_⟩,_⟩:=h e he;obtain⟨t,ht⟩:=Value.isInt_shape (show Value.isInt j e.2=true from hj);unfold zPk;rw[ht];constructor
 ·intro q;obtain⟨u,hu⟩:=Value.isInt_shape (show Value.isInt k (.int j t)=true from q);cases hu;rfl
 ·intro q;have q:j=k:=q;rw[q];exact intKind_is prog w k t
def TN.at'{h h':yT}{a:yf}{ks:Qg}(x:TN prog w h a ks)(k:∀o,h.get? a=some o->h'.get? a=some o):TN prog w h' a ks:=by
 obtain⟨o,es,ep,t,h1,h2⟩:=x;exact⟨o,es,ep,t,k o h1,h2⟩
def zVp(b:Bool){Q:Unit->yc->Prop}(h:Q () s):yo (yv prog w) A (match b with|true=>rule "set.scan.the-table-gave-way" | false=>pure ()) Q E s:=by
 cases b
 ·exact ye h
 ·exact wpAny_rule h
def stored{o:YS}{h:yT}{a:yf}{es:Array (Int×Value)}{ep:Nat}{t:xz}(ho:h.get? a=some o)(hd:o.data=.set es ep t)(es1:Array (Int×Value))(t1:xz) :
 (h.update a (Obj.putSet es1 t1)).get? a=some {o with data:=.set es1 (ep+1) t1 }:=by
 have e:=putSet_of es1 t1 hd;have q:=yO (Obj.putSet es1 t1) ho (by rw[e];rfl);rw[e]at q;exact q
def z1w{a:yf}{ks:Qg}{k:Int}{tk:Tok}{Q:Bool->yc->Prop}(hS:TN prog w s.heap a ks)(kI:ks.length+1<scanBound)
 (h:∀b h',Yq a s.heap h'->TN prog w h' a (if k∈ks then ks else ks++[k])->Q b {s with heap:=h' }):yo (yv prog w) A (setAddHashed a (.int k tk) (hashInt k)) Q E s:=by
 obtain⟨o,es,ep,t,ho,hex,hd,hf,hT,hel,hp⟩:=hS
 have hsz:es.size=ks.length:=by
  have:=hp.length_eq;simpa using this
 have kJ:k∈ks↔∃e∈es.toList,zPk e=k:=by
  rw[<-hp.mem_iff,Nr]
 unfold setAddHashed setAddHashedIn;refine yQ (ya (YZ ho hd hf ?_));dsimp only;rw[byScan_of (knd:=intKind prog w) (x:=.int k tk) rfl (by omega) hel];simp only[↓reduceIte];unfold setAddByScan;refine ya (ya (wpAny_rule (ya (wpAny_setScan_of (knd:=intKind prog w) (k:=k) (intKind_is prog w k tk) ho hd hf hel ?_))))
 cases hr:List.findIdx? (λe=>(intKind prog w).is k e.2) es.toList with
 |some j=>
  dsimp only;obtain⟨hj,hpj,_⟩:=List.findIdx?_eq_some_iff_getElem.mp hr;have hk:k∈ks:=kJ.mpr ⟨es.toList[j],Lq hj,(zrs hel (Lq hj)).mp hpj⟩;have q:=h false s.heap (Heap.SameBut.refl a s.heap) ⟨o,es,ep,t,ho,hex,hd,hf,hT,hel,by rw[if_pos hk];exact hp⟩;exact ye (ye q)
 |none=>
  dsimp only
  have hk:k∉ks:=λhk=>by
   obtain⟨e,he,q⟩:=kJ.mp hk;have:=List.findIdx?_eq_none_iff.mp hr e he;rw[(zrs hel he).mpr q]at this;cases this
  rw[if_neg hk]at h;have p1:=layNew_perm t es (hashInt k) (.int k tk);have f1:=layNew_fits t es (hashInt k) (.int k tk);have T1:=hT.layNew es (hashInt k) (.int k tk);show yo _ _ (_ >>= _) _ _ _;generalize layNew t es (hashInt k) (.int k tk)=L1 at p1 f1 T1 ⊢;obtain⟨es1,t1,wd,gv⟩:=L1;dsimp only at p1 f1 T1 ⊢;rw[Array.toList_push]at p1;have el1:ElemsOf (intKind prog w) es1.toList:=(hel.push (intKind_is prog w k tk) rfl).perm p1
  have pk1:(es1.toList.map zPk).Perm (ks++[k]):=by
   refine(p1.map zPk).trans ?_;rw[Nd];exact hp.append_right _
  have z1:es1.size=ks.length+1:=by
   have:=pk1.length_eq;simpa using this
  refine ya (zVp gv ?_)
  have fin:yo (yv prog w) A (do
   storeSet a es1 t1
   if (!wd && t1.tooFull)=true then
    match relayAll t1 es1 (Xs es1.size) with
    |(es2,t2,gv2)=>do
     (match gv2 with|true=>rule "set.scan.the-table-gave-way" | false=>pure ())
     storeSet a es2 t2
     pure (some true)
   else pure (some true)) (λr s'=>∃h',s' = {s with heap:=h' }/\r=some true/\Yq a s.heap h'/\TN prog w h' a (ks++[k])) E s:=by
   refine ya (wpAny_storeSet_of ho hd ?_ (fits_of_scanBound (by omega)));have s1:=stored ho hd es1 t1;have b1:=YF s.heap a (Obj.putSet es1 t1)
   split
   ·have p2:=relayAll_perm t1 es1 (Xs es1.size);have f2:=relayAll_fits t1 es1 (Xs es1.size);have T2:=T1.relay es1 (Xs es1.size);generalize relayAll t1 es1 (Xs es1.size)=L2 at p2 f2 T2 ⊢;obtain⟨es2,t2,gv2⟩:=L2;dsimp only at p2 f2 T2 ⊢
    have z2:es2.size=es1.size:=by
     have:=p2.length_eq;simpa using this
    refine ya (zVp gv2 (ya (wpAny_storeSet_of s1 rfl ?_ (fits_of_scanBound (by omega)))));exact ye ⟨_,rfl,rfl,b1.trans (YF _ a _),_,es2,_,t2,stored s1 rfl es2 t2,hex,rfl,f2,T2,el1.perm p2,(p2.map zPk).trans pk1⟩
   ·exact ye ⟨_,rfl,rfl,b1,_,es1,_,t1,s1,hex,rfl,f1,T1,el1,pk1⟩
  have goal2:yo (yv prog w) A (do
   storeSet a es1 t1
   if (!wd && t1.tooFull)=true then
    match relayAll t1 es1 (Xs es1.size) with
    |(es2,t2,gv2)=>do
     (match gv2 with|true=>rule "set.scan.the-table-gave-way" | false=>pure ())
     storeSet a es2 t2
     pure (some true)
   else pure (some true)) (λr s'=>yo (yv prog w) A (match r with|some added=>pure added|none=>setAddHashedIn a (.int k tk) (hashInt k) 99999) Q E s') E s:=by
   refine yU fin (λr s' ⟨h',e1,e2,b,x⟩=>?_) λ_ _ z=>z;subst e1 e2;exact ye (h true h' b x)
  split
  ·refine ya ?_;rw[hashByValue_scannable 8 (x:=.int k tk) rfl];exact ye goal2
  ·exact ya (ye goal2)
end
def zEi{α:Type}:∀(l:List α)(i:Nat)(h:i<l.length),(l[i]::l.eraseIdx i).Perm l
 |[],i,h=>by simp at h
 |y::ys,0,h=>by simp
 |y::ys,i+1,h=>by
  have h':i<ys.length:=by simpa using h
  show(ys[i]::y::ys.eraseIdx i).Perm (y::ys);exact(List.Perm.swap y ys[i] _).trans ((zEi ys i h').cons y)
def zCt{α:Type}(next:Nat->Nat):∀(fuel k:Nat)(rest:List α)(out:Array α),rest.length<=fuel->(pickOrder.go next fuel k rest out).toList.Perm (out.toList++rest)
 |0,k,rest,out,h=>by
  have:rest=[]:=List.length_eq_zero_iff.mp (Nat.le_zero.mp h);subst this;unfold pickOrder.go;simp
 |fuel+1,k,rest,out,h=>by
  unfold pickOrder.go
  cases rest with
  |nil=>simp
  |cons y ys=>
   have kH:next k%(y::ys).length<(y::ys).length:=Nat.mod_lt _ (by simp);rw[yk kH];dsimp only;refine(zCt next fuel (k+1) _ _ (by rw[List.length_eraseIdx_of_lt kH];simp at h ⊢;omega)).trans ?_;rw[Array.toList_push,Le];exact List.Perm.append_left _ (zEi _ _ kH)
def zDk{α:Type}(next:Nat->Nat)(xs:Array α):(pickOrder next xs).toList.Perm xs.toList:=by
 unfold pickOrder;exact(zCt next xs.size 0 xs.toList #[] (by simp)).trans (by simp)
def tK:Slot "set_iterator" "__next__" "set_iterator.__next__" :=
 .of (owner:="set_iterator") (n:="__next__") (by rw[typeLookup_type,Xj];kernel_rfl) (by decide +kernel) (by decide +kernel) (by decide +kernel) (by first|exact .inl (by decide +kernel)|exact .inr (by decide +kernel)) (by rw[isSubtype_type];kernel_rfl)
def zVi:Slot "set_iterator" "__iter__" "set_iterator.__iter__" :=
 .of (owner:="set_iterator") (n:="__iter__") (by rw[typeLookup_type,Xj];kernel_rfl) (by decide +kernel) (by decide +kernel) (by decide +kernel) (by first|exact .inl (by decide +kernel)|exact .inr (by decide +kernel)) (by rw[isSubtype_type];kernel_rfl)
def zId:entryFor table "set_iterator.__next__"=some xi.«set_iterator.__next__»:=entryFor_of_tree (by kernel_rfl)
def zOm:entryFor table "set_iterator.__iter__"=some xi.«dict_keyiterator.__iter__»:=entryFor_alias (id':="dict_keyiterator.__iter__") (by kernel_rfl) rfl (by decide +kernel) (by kernel_rfl)
def zBe(a:Value):argsOk "set_iterator.__next__" ⟨[a],[]⟩:=by unfold argsOk;kernel_rfl
def zwn(a:Value):argsOk "set_iterator.__iter__" ⟨[a],[]⟩:=by unfold argsOk;kernel_rfl
def zjo:entryFor table "set.__iter__"=some xi.«frozenset.__iter__»:=entryFor_alias (id':="frozenset.__iter__") (by kernel_rfl) rfl (by decide +kernel) (by kernel_rfl)
def SIt(h:yT)(it a:yf)(first:Value)(i n ep:Nat):Prop:=∃o,h.get? it=some o/\o.cls=.type "set_iterator"/\o.data=.fields #[first,.int i 0,.ref a,.int n 0,.int ep 0]
def SOb(h:yT)(a:yf)(es:Array (Int×Value))(ep:Nat)(t:xz):Prop:=∃o,h.get? a=some o/\o.cls=.type "set"/\o.data=.set es ep t/\t.fits es.size=true
section
variable {prog:yy}{w:yI}{A:yJ}{E:Value->yc->Prop}{s:yc}
def SIt.typeIs{it a:yf}{first:Value}{i n ep:Nat}(x:SIt s.heap it a first i n ep):s.TypeIs (.ref it) "set_iterator":=let ⟨o,ho,hc,_⟩:=x;⟨o,ho,hc⟩
def SIt.at'{h h':yT}{it a:yf}{first:Value}{i n ep:Nat}(x:SIt h it a first i n ep)(k:∀o,h.get? it=some o->h'.get? it=some o):SIt h' it a first i n ep:=let ⟨o,ho,r⟩:=x;⟨o,k o ho,r⟩
def SOb.at'{h h':yT}{a:yf}{es:Array (Int×Value)}{ep:Nat}{t:xz}(x:SOb h a es ep t)(k:∀o,h.get? a=some o->h'.get? a=some o):SOb h' a es ep t:=let ⟨o,ho,r⟩:=x;⟨o,k o ho,r⟩
def zBs{it:yf}{o:YS}{vs:Qm}{Q:Qi->yc->Prop}(hh:A.handled=none)(ho:s.heap.get? it=some o)(hd:o.data=.fields vs)(h2:2<vs.size)
 (hQ:∀h',Xu it s.heap h'->Q none {s with heap:=h' }) :
 yo (yv prog w) A.in1 (do setField (.ref it) 2 .none;raiseNew (<-newExc (.type "StopIteration") []):Sem Fin)
  (λ_ _=>False) (λe s'=>yo (yv prog w) A (do if <-isInstance e (.type "StopIteration") then pure none else throw e) Q E s') s:=by
 refine ya (YY ho hd h2 ?_);refine ya ?_;simp only[newExc,newTuple];refine ya (yY ?_ (by size_fits));refine ya (m:=firstArgMember _ _) (wpAny_of_eq (a:=Yp) (by first|rfl|(simp only[firstArgMember];rfl)) ?_);refine yY ?_ (by size_fits);simp only[raiseNew];refine ya (wpAny_handled ?_);have e:A.in1.handled=none:=hh;rw[e];refine ya (ye (wpAny_throw ?_));refine ya (Xy (T:="StopIteration") (b:=true) ⟨_,yq _ rfl,rfl⟩ isSubtype_stop ?_);exact ye (hQ _ (((YF s.heap it _).extBut.push _).push _))
variable {it a:yf}{es:Array (Int×Value)}{ep i:Nat}{t:xz}{Q:Qi->yc->Prop}
def zxm(n:Nat):¬(((n:Int) != (n:Int))=true):=by simp
def zbk{slot nx:Nat}{x:Value}(hI:SIt s.heap it a (.int slot 0) i es.size ep)(hO:SOb s.heap a es ep t)
 (hn:∀(Q':Option (Value×Nat)->yc->Prop) (E':Value->yc->Prop),Q' (some (x,nx)) s->yo (yv prog w) A.in1 (setNext a slot i ep) Q' E' s)
 (hQ:∀h',SIt h' it a (.int nx 0) (i+1) es.size ep->Yq it s.heap h'->Q (some x) {s with heap:=h' }):yo (yv prog w) A (xW (.ref it)) Q E s:=by
 obtain⟨o,ho,hc,hd⟩:=id hI;obtain⟨oa,hoa,_,kS,hfa⟩:=hO;unfold xW;refine ya (wpAny_attempt (Yi (name:=YX "__next__") hI.typeIs tK (Yc tK hI.typeIs zId ?_ (zBe _))));unfold xi.«set_iterator.__next__»;refine ya (m:=slotArgs "__next__" 0 ⟨[yH it],[]⟩) (ye ?_);refine ya (wpAny_fieldsOf ho hd ?_);dsimp only;refine ya (xO hoa kS hfa ?_);rw[if_neg (zxm es.size)];refine ya (hn _ _ ?_);dsimp only;refine ya (YY ho hd (by simp) ?_);have ho1:=yO (xh (·.setIfInBounds 0 (YJ nx))) ho (YG (yZ hd _));have hd1:=yZ hd (·.setIfInBounds 0 (YJ nx));refine ya (YY ho1 hd1 (by simp) (ye ⟨x,rfl,ye (hQ _ ?_ ((YF s.heap it _).trans (YF _ it _)))⟩));refine⟨_,yO _ ho1 (YG (yZ hd1 _)),(Xm ..).trans ((Xm ..).trans hc),?_⟩;rw[yZ hd1];simp[YJ]
def zrl{slot:Nat}(hh:A.handled=none)(hI:SIt s.heap it a (.int slot 0) i es.size ep)(hO:SOb s.heap a es ep t)
 (hn:∀(Q':Option (Value×Nat)->yc->Prop) (E':Value->yc->Prop),Q' none s->yo (yv prog w) A.in1 (setNext a slot i ep) Q' E' s)
 (hQ:∀h',Xu it s.heap h'->Q none {s with heap:=h' }):yo (yv prog w) A (xW (.ref it)) Q E s:=by
 obtain⟨o,ho,hc,hd⟩:=id hI;obtain⟨oa,hoa,_,kS,hfa⟩:=hO;unfold xW;refine ya (wpAny_attempt (Yi (name:=YX "__next__") hI.typeIs tK (Yc tK hI.typeIs zId ?_ (zBe _))));unfold xi.«set_iterator.__next__»;refine ya (m:=slotArgs "__next__" 0 ⟨[yH it],[]⟩) (ye ?_);refine ya (wpAny_fieldsOf ho hd ?_);dsimp only;refine ya (xO hoa kS hfa ?_);rw[if_neg (zxm es.size)];refine ya (hn _ _ ?_);dsimp only;exact yU (zBs (Q:=Q) (E:=E) hh ho hd (by simp) hQ) (λ_ _ z=>z.elim) λ_ _ z=>z
def z7o{tup:yf}{ot:YS}{items:Qm}{nt place:Nat}{x:Value}{hx:Int}(hI:SIt s.heap it a (.ref tup) i es.size ep)(hO:SOb s.heap a es ep t)(hot:s.heap.get? tup=some ot)(hdt:ot.data=.seq items nt)
 (hp:items[i]?=some (.int place 0)) (he:es[place]?=some (hx,x))
 (hQ:∀h',SIt h' it a (.ref tup) (i+1) es.size ep->Yq it s.heap h'->Q (some x) {s with heap:=h' }):yo (yv prog w) A (xW (.ref it)) Q E s:=by
 obtain⟨o,ho,hc,hd⟩:=id hI;obtain⟨oa,hoa,_,kS,hfa⟩:=hO;unfold xW;refine ya (wpAny_attempt (Yi (name:=YX "__next__") hI.typeIs tK (Yc tK hI.typeIs zId ?_ (zBe _))));unfold xi.«set_iterator.__next__»;refine ya (m:=slotArgs "__next__" 0 ⟨[yH it],[]⟩) (ye ?_);refine ya (wpAny_fieldsOf ho hd ?_);dsimp only;refine ya (xO hoa kS hfa ?_);rw[if_neg (zxm es.size)];refine ya (wpAny_seqItems hot hdt ?_);dsimp only;simp only[Yv,hp];unfold setNextDrawn;refine ya (ya (YZ hoa kS hfa ?_));dsimp only;rw[if_neg (by simp),he];dsimp only;refine ye ?_;refine ya (YY ho hd (by simp) (ye ⟨x,rfl,ye (hQ _ ?_ (YF s.heap it _))⟩));refine⟨_,yO _ ho (YG (yZ hd _)),(Xm ..).trans hc,?_⟩;rw[yZ hd];simp[YJ]
def zEq{tup:yf}{ot:YS}{items:Qm}{nt:Nat}(hh:A.handled=none)(hI:SIt s.heap it a (.ref tup) i es.size ep)(hO:SOb s.heap a es ep t)(hot:s.heap.get? tup=some ot)(hdt:ot.data=.seq items nt)
 (hp:items[i]?=none) (hQ:∀h',Xu it s.heap h'->Q none {s with heap:=h' }):yo (yv prog w) A (xW (.ref it)) Q E s:=by
 obtain⟨o,ho,hc,hd⟩:=id hI;obtain⟨oa,hoa,_,kS,hfa⟩:=hO;unfold xW;refine ya (wpAny_attempt (Yi (name:=YX "__next__") hI.typeIs tK (Yc tK hI.typeIs zId ?_ (zBe _))));unfold xi.«set_iterator.__next__»;refine ya (m:=slotArgs "__next__" 0 ⟨[yH it],[]⟩) (ye ?_);refine ya (wpAny_fieldsOf ho hd ?_);dsimp only;refine ya (xO hoa kS hfa ?_);rw[if_neg (zxm es.size)];refine ya (wpAny_seqItems hot hdt ?_);dsimp only;simp only[Yv,hp];refine ya (YY ho hd (by simp) ?_);have ho1:=yO (xh (·.setIfInBounds 0 (YJ 0))) ho (YG (yZ hd _));have hd1:=yZ hd (·.setIfInBounds 0 (YJ 0));exact yU (zBs (Q:=Q) (E:=E) hh ho1 hd1 (by simp) λh' x=>hQ h' λb o' hb e=>x b o' hb ((YF s.heap it _).extBut b o' hb e)) (λ_ _ z=>z.elim) λ_ _ z=>z
def zsh{Q:Bool->yc->Prop}(h:Q (w.params.followText "set-order") s):yo (yv prog w) A setsByText Q E s:=by
 unfold setsByText;exact ya (wpAny_askSetting (ye h))
def zin{slot:Nat}(hw:w.params.followText "set-order"=true)(hO:SOb s.heap a es ep t){Q:Option (Value×Nat)->yc->Prop}(h:Q (((pickOrder (w.params.setOrder a ep) es)[i]?).map λe=>(e.2,slot)) s) :
 yo (yv prog w) A (setNext a slot i ep) Q E s:=by
 obtain⟨oa,hoa,_,kS,hfa⟩:=hO;unfold setNext;refine ya (YZ hoa kS hfa ?_);dsimp only;refine ya (zsh ?_);rw[hw,if_pos rfl,if_neg (by simp)];unfold setWalk;refine ya (ya (YZ hoa kS hfa ?_));dsimp only;refine ya (zsh ?_);rw[hw,if_pos rfl];exact ya (wpAny_askSetting (ye (ye h)))
def zWe(t:xz)(i:Nat):Nat:=if i=0 then 0 else t.place.getD (i-1) 0+1
def z4q(h:RS t.place)(hi:i<=t.place.size):YO t.place (zWe t i)=i:=by
 obtain⟨h0,h1,h2⟩:=zYl t.place (zWe t i) h
 have hp:∀i k (hi:i<t.place.size) (hk:k<t.place.size),i<k->t.place[i]<t.place[k]:=λi k hi hk hik=>by
  have:=List.pairwise_iff_getElem.mp h i k (by simpa using hi) (by simpa using hk) hik;simpa using this
 generalize hr:YO t.place (zWe t i)=r at *;unfold zWe at h1 h2
 by_cases hz:i=0
 ·subst hz;rw[if_pos rfl]at h1
  by_cases hr0:0<r
  ·have:=h1 0 (by omega) hr0;omega
  ·omega
 ·rw[if_neg hz]at h1 h2;have hl:i-1<t.place.size:=by omega
  have hg:t.place.getD (i-1) 0=t.place[i-1]:=by simp[Array.getD,hl]
  rw[hg]at h1 h2;rcases Nat.lt_trichotomy r i with kH|he|hgt
  ·have h3:=h2 (i-1) hl (by omega);omega
  ·exact he
  ·have h3:=h1 i (by omega) hgt;have h4:=hp (i-1) i hl (by omega) (by omega);omega
def zkl(hw:w.params.followText "set-order"=false)(hd:(!t.plain&&decide (es.size>1))=false)(hT:TOk true t)(hi:i<=es.size)(hO:SOb s.heap a es ep t){Q:Option (Value×Nat)->yc->Prop}(h:Q ((es[i]?).map λe=>(e.2,zWe t (i+1))) s) :
 yo (yv prog w) A (setNext a (zWe t i) i ep) Q E s:=by
 obtain⟨oa,hoa,_,kS,hfa⟩:=hO
 have hsz:t.place.size=es.size:=by
  unfold SetTable.fits at hfa;rw[yK]at hfa;exact beq_iff_eq.mp hfa.1
 unfold setNext;refine ya (YZ hoa kS hfa ?_);dsimp only;refine ya (zsh ?_);rw[hw,if_neg yA];refine xb (λhab=>?_) λ_=>?_
 ·have hab:(!t.plain&&decide (es.size>1))=true:=hab;rw[hd]at hab;cases hab
 ·refine ya ?_
  have led:yo (yv prog w) A (if(!t.led && !es.isEmpty)=true then unsupported "set:maker-not-led" else pure ()) (λ_ s'=>yo (yv prog w) A (pure (match es[YO t.place (zWe t i)]?,t.place[YO t.place (zWe t i)]? with
   |some (_,x),some j=>some (x,j+1)
   |_,_=>none):Sem (Option (Value×Nat))) Q E s') E s:=by
   rw[hT.led,if_neg (by simp)];refine ye (ye ?_);rw[z4q hT.rs (by omega)]
   by_cases kH:i<es.size
   ·have e1:es[i]?=some es[i]:=by simp[kH]
    have e2:t.place[i]?=some (t.place[i]'(by omega)):=by simp[show i<t.place.size by omega]
    rw[e1]at h;rw[e1,e2]
    have e3:zWe t (i+1)=t.place[i]'(by omega)+1:=by
     unfold zWe;rw[if_neg (by omega)];simp[Array.getD,show i<t.place.size by omega]
    rw[e3]at h;exact h
   ·have e1:es[i]?=none:=by simp;omega
    rw[e1]at h;rw[e1];exact h
  exact led
def zll{α:Type}:∀(n:Nat)(xs:List α)(s:yc)(Q:List α->yc->Prop),n=xs.length->(∀ys d,ys.Perm xs->Q ys {s with drawn:=d })->yo (yv prog w) A (drawOrder n xs) Q E s
 |0,xs,s,Q,hn,h=>by
  have:xs=[]:=List.length_eq_zero_iff.mp hn.symm;subst this;exact ye (h [] s.drawn .nil)
 |n+1,[],s,Q,hn,h=>by simp at hn
 |n+1,x::xs,s,Q,hn,h=>by
  unfold drawOrder;refine ya ?_;intro Γ p hΓ;unfold choose;rw[Sem.wp_choose];refine⟨by simp,?_⟩;have kH:(yv prog w).w.draws .order (s.drawn.get .order)%(x::xs).length<(x::xs).length:=Nat.mod_lt _ (by simp);generalize (yv prog w).w.draws .order (s.drawn.get .order)%(x::xs).length=j at kH ⊢;generalize s.drawn.bump .order=d1
  have main:yo (yv prog w) A (match(x::xs)[j]? with
   |some y=>do return y::(<-drawOrder n ((x::xs).eraseIdx j))
   |none=>unsupported "internal:drawOrder") Q E {s with drawn:=d1 }:=by
   rw[yk kH];dsimp only;refine ya (zll n _ _ _ (by rw[List.length_eraseIdx_of_lt kH];simp at hn ⊢;omega) λys d hp=>ye (h _ d ?_));exact(hp.cons _).trans (zEi _ _ kH)
  simp only[Sem.wp_pure];exact main
variable {I:yf}
def zro{first:Value}{n:Nat}{Q:Value->yc->Prop}(hI:SIt s.heap I a first i n ep)(h:Q (.ref I) s):yo (yv prog w) A (pyIter (.ref I)) Q E s:=by
 refine wpAny_pyIter_slot hI.typeIs zVi (Yc zVi hI.typeIs zOm ?_ (zwn _));unfold xi.«dict_keyiterator.__iter__»;refine ya (m:=slotArgs "__iter__" 0 ⟨[yH I],[]⟩) (ye ?_);exact ye ⟨_,rfl,"set_iterator",_,hI.typeIs,tK.lookup,h⟩
abbrev zDx(ent:List (Int×Value))(i:Nat)(v:Value):Prop:=∃k,ent[i]?=some (k,v)
def zBt(hh:A.handled=none)(kL:a≠I)(hw:w.params.followText "set-order"=true) :
 Walks prog w A I [I,a] [I] es.size (zDx (pickOrder (w.params.setOrder a ep) es).toList) (λi h=>SIt h I a (.int ((0:Nat):Int) 0) i es.size ep/\SOb h a es ep t) where
 sub:=λb hb=>by simp at hb;simp[hb]
 frame:=λ_ _ _ st hk=>⟨st.1.at' λo e=>hk I (by simp) o e,st.2.at' λo e=>hk a (by simp) o e⟩
 item:=λi s Q E hi st hQ=>by
  have hl:(pickOrder (w.params.setOrder a ep) es).size=es.size:=by
   have:=(zDk (w.params.setOrder a ep) es).length_eq;simpa using this
  have hi':i<(pickOrder (w.params.setOrder a ep) es).size:=by omega
  have e1:(pickOrder (w.params.setOrder a ep) es)[i]?=some (pickOrder (w.params.setOrder a ep) es)[i]:=by simp[hi']
  refine zbk (nx:=0) (x:=(pickOrder (w.params.setOrder a ep) es)[i].2) st.1 st.2 (λQ' E' hq=>zin hw st.2 (by rw[e1];exact hq)) λh' x sb=>?_;refine hQ _ h' s.toks ⟨_,by rw[Array.getElem?_toList,e1]⟩ ⟨x,st.2.at' λo e=>sb.extBut a o kL e⟩ λb o hb e=>sb.extBut b o (λh=>hb (by simp[h])) e
 done:=λs Q E st hQ=>by
  have hl:(pickOrder (w.params.setOrder a ep) es).size=es.size:=by
   have:=(zDk (w.params.setOrder a ep) es).length_eq;simpa using this
  refine zrl hh st.1 st.2 (λQ' E' hq=>zin hw st.2 (by rw[show(pickOrder (w.params.setOrder a ep) es)[es.size]?=none by simp;omega];exact hq)) λh' x=>hQ h' s.toks λb o hb e=>x b o (λh=>hb (by simp[h])) e
 self:=λ_ _ _ _ st hQ=>zro st.1 hQ
def znq(hh:A.handled=none)(kL:a≠I)(hw:w.params.followText "set-order"=false)(hd:(!t.plain&&decide (es.size>1))=false)(hT:TOk true t) :
 Walks prog w A I [I,a] [I] es.size (zDx es.toList) (λi h=>SIt h I a (.int (zWe t i:Nat) 0) i es.size ep/\SOb h a es ep t) where
 sub:=λb hb=>by simp at hb;simp[hb]
 frame:=λ_ _ _ st hk=>⟨st.1.at' λo e=>hk I (by simp) o e,st.2.at' λo e=>hk a (by simp) o e⟩
 item:=λi s Q E hi st hQ=>by
  have e1:es[i]?=some es[i]:=by simp[hi]
  refine zbk (nx:=zWe t (i+1)) (x:=es[i].2) st.1 st.2 (λQ' E' hq=>zkl hw hd hT (by omega) st.2 (by rw[e1];exact hq)) λh' x sb=>?_;refine hQ _ h' s.toks ⟨_,by rw[Array.getElem?_toList,e1]⟩ ⟨x,st.2.at' λo e=>sb.extBut a o kL e⟩ λb o hb e=>sb.extBut b o (λh=>hb (by simp[h])) e
 done:=λs Q E st hQ=>by
  refine zrl hh st.1 st.2 (λQ' E' hq=>zkl hw hd hT (by omega) st.2 (by rw[show es[es.size]?=none by simp];exact hq)) λh' x=>hQ h' s.toks λb o hb e=>x b o (λh=>hb (by simp[h])) e
 self:=λ_ _ _ _ st hQ=>zro st.1 hQ
def zBq{tup:yf}{ord:Qf}{nt:Nat}(hh:A.handled=none)(kL:a≠I)(hne2:tup≠I)(hp:ord.Perm (yB es.size)) :
 Walks prog w A I [I,a,tup] [I] es.size (zDx (ord.map λj=>es.getD j (0,.none))) (λi h=>SIt h I a (.ref tup) i es.size ep/\SOb h a es ep t/\∃ot,h.get? tup=some ot/\ot.data=.seq (ord.map λ(j:Nat)=>YJ j).toArray nt) where
 sub:=λb hb=>by simp at hb;simp[hb]
 frame:=λ_ _ _ st hk=>⟨st.1.at' λo e=>hk I (by simp) o e,st.2.1.at' λo e=>hk a (by simp) o e,let ⟨ot,h1,h2⟩:=st.2.2;⟨ot,hk tup (by simp) ot h1,h2⟩⟩
 item:=λi s Q E hi st hQ=>by
  obtain⟨st1,st2,ot,h1,h2⟩:=st
  have hl:ord.length=es.size:=by
   have:=hp.length_eq;simpa using this
  have hi':i<ord.length:=by omega
  have hj:ord[i]<es.size:=by
   have:=hp.mem_iff.mp (Lq hi');simpa using this
  have e1:es[ord[i]]?=some es[ord[i]]:=by simp[hj]
  refine z7o (x:=es[ord[i]].2) (place:=ord[i]) (hx:=es[ord[i]].1) st1 st2 h1 h2 (by simp[hi',YJ]) e1 λh' x sb=>?_;refine hQ _ h' s.toks ⟨es[ord[i]].1,by simp[hi',Array.getD,hj]⟩ ⟨x,st2.at' λo e=>sb.extBut a o kL e,ot,sb.extBut tup ot hne2 h1,h2⟩ λb o hb e=>sb.extBut b o (λh=>hb (by simp[h])) e
 done:=λs Q E st hQ=>by
  obtain⟨st1,st2,ot,h1,h2⟩:=st
  have hl:ord.length=es.size:=by
   have:=hp.length_eq;simpa using this
  refine zEq hh st1 st2 h1 h2 (by simp;omega) λh' x=>hQ h' s.toks λb o hb e=>x b o (λh=>hb (by simp[h])) e
 self:=λ_ _ _ _ st hQ=>zro st.1 hQ
def ztu{ord:Qf}(hp:ord.Perm (yB es.size)):(ord.map λj=>es.getD j (0,.none)).Perm es.toList:=by
 refine(hp.map _).trans ?_
 have:(yB es.size).map (λj=>es.getD j (0,Yp))=es.toList:=by
  apply List.ext_getElem
  ·simp
  ·intro n h1 h2;simp at h1 h2;simp[Array.getD,h1]
 rw[this]
def z8z(prog:yy)(w:yI)(A:yJ)(s:yc)(es:Array (Int×Value))(a:yf)(I:yf)(s':yc):Prop :=
 ∃fp ent St,Walks prog w A I fp [I] es.size (zDx ent) St/\St 0 s'.heap/\ent.Perm es.toList/\s.heap.objs.size<=I/\(∀b∈fp,s.heap.objs.size<=b\/b=a)/\(∀b∈fp,b<s'.heap.objs.size)/\(∀b o,s.heap.get? b=some o->s'.heap.get? b=some o)/\∃d,s' = {s with heap:=s'.heap,drawn:=d }
def zou{Q:Value->yc->Prop}(hh:A.handled=none)(hT:TOk (!w.params.followText "set-order") t)(hO:SOb s.heap a es ep t)(hsz:es.size<=yF)
 (h:∀I s',z8z prog w A s es a I s'->Q (.ref I) s'):yo (yv prog w) A (pyIter (.ref a)) Q E s:=by
 obtain⟨oa,hoa,hca,kS,hfa⟩:=id hO;have hTy:s.TypeIs (.ref a) "set":=⟨oa,hoa,hca⟩
 have kH:a<s.heap.objs.size:=yn hoa;refine wpAny_pyIter_slot hTy F.slot_set_iter (Yc F.slot_set_iter hTy zjo ?_ (F.args_set_iter_1 _));unfold xi.«frozenset.__iter__»;refine ya (m:=Builtin.Frozenset.slot0 "__iter__" ⟨[yH a],[]⟩) (ye ?_);unfold Builtin.Frozenset.sizeOf;refine ya (ya (xO hoa kS hfa (ye ?_)));unfold setDrawn;refine ya (ya (YZ hoa kS hfa ?_));dsimp only;refine ya (zsh (ye ?_));refine xb (λhab=>?_) λhab=>?_
 ·have hab:(!w.params.followText "set-order" && (!t.plain&&decide (es.size>1)))=true:=hab;refine ya (zll es.size _ _ _ (by simp) λord d hp=>?_)
  have hol:ord.length=es.size:=by
   have:=hp.length_eq;simpa using this
  unfold newTuple;refine ya (yY ?_ (by show(List.map (λ(i:Nat)=>YJ i) ord).toArray.size<=yF;simp;omega));have hg:(s.heap.push {cls:=.type "tuple",data:=.seq (ord.map λ(i:Nat)=>YJ i).toArray }).get? a=some oa:=yb _ hoa;refine ya ?_;unfold setEpoch;refine ya (YZ (s:={s with heap:=_,drawn:=d }) hg kS hfa (ye ?_));unfold newFields;refine ya (yY (ye ⟨_,rfl,"set_iterator",_,⟨_,yq _ rfl,rfl⟩,tK.lookup,?_⟩));have hs1:(s.heap.push {cls:=.type "tuple",data:=.seq (ord.map λ(i:Nat)=>YJ i).toArray }).objs.size=s.heap.objs.size+1:=by rw[Yu]
  refine h _ _ ⟨[(s.heap.push {cls:=.type "tuple",data:=.seq (ord.map λ(i:Nat)=>YJ i).toArray }).objs.size,a,s.heap.objs.size],ord.map λj=>es.getD j (0,.none),_,
   zBq (t:=t) (ep:=ep) (nt:=0) hh (by rw[hs1];exact yu (YC kH)) (by rw[hs1];exact yu (Ye _)) hp,⟨⟨_,yq _ rfl,rfl,by simp[YJ]⟩,⟨oa,yb _ hg,hca,kS,hfa⟩,_,yb _ (yq _ rfl),rfl⟩,
   ztu hp,by rw[hs1];exact xU _,?_,?_,λb o e=>yb _ (yb _ e),d,rfl⟩
  ·intro b hb;rw[hs1]at hb;simp at hb;rcases hb with rfl|rfl|rfl
   ·exact .inl (xU _)
   ·exact .inr rfl
   ·exact .inl (yh _)
  ·intro b hb;show b<((s.heap.push _).push _).objs.size;rw[Yu,hs1];rw[hs1]at hb;simp at hb;rcases hb with rfl|rfl|rfl
   ·exact Ye _
   ·exact YC (YC kH)
   ·exact YC (Ye _)
 ·have hab:¬(!w.params.followText "set-order" && (!t.plain&&decide (es.size>1)))=true:=hab;refine ya (ye ?_);refine ya ?_;unfold setEpoch;refine ya (YZ hoa kS hfa (ye ?_));unfold newFields;refine ya (yY (ye ⟨_,rfl,"set_iterator",_,⟨_,yq _ rfl,rfl⟩,tK.lookup,?_⟩))
  have pre:∀(ent:List (Int×Value)) (St:Nat->yT->Prop),Walks prog w A s.heap.objs.size [s.heap.objs.size,a] [s.heap.objs.size] es.size (zDx ent) St->St 0 (s.heap.push {cls:=.type "set_iterator",data:=.fields #[YJ 0,YJ 0,.ref a,YJ es.size,YJ ep]})->ent.Perm es.toList ->
   Q (.ref s.heap.objs.size) {s with heap:=s.heap.push {cls:=.type "set_iterator",data:=.fields #[YJ 0,YJ 0,.ref a,YJ es.size,YJ ep]}}:=λent St W st hp=>
   h _ _ ⟨_,ent,St,W,st,hp,yh _,λb hb=>by simp at hb;rcases hb with rfl|rfl;exact .inl (yh _);exact .inr rfl,λb hb=>by
    show b<(s.heap.push _).objs.size;rw[Yu];simp at hb;rcases hb with rfl|rfl
    ·exact Ye _
    ·exact YC kH,λb o e=>yb _ e,s.drawn,rfl⟩
  cases hw:w.params.followText "set-order" with
  |true=>exact pre _ _ (zBt (t:=t) (ep:=ep) hh (yu kH) hw) ⟨⟨_,yq _ rfl,rfl,by simp[YJ]⟩,⟨oa,yb _ hoa,hca,kS,hfa⟩⟩ (zDk _ _)
  |false=>
   rw[hw]at hab hT;exact pre _ _ (znq (t:=t) (ep:=ep) hh (yu kH) hw (by simpa using hab) hT) ⟨⟨_,yq _ rfl,rfl,by simp[YJ,zWe]⟩,⟨oa,yb _ hoa,hca,kS,hfa⟩⟩ (.refl _)
def zlu{Q:Bool->yc->Prop}(hT:s.TypeIs (.ref a) "set")(hq:Q false s):yo (yv prog w) A (xu (.ref a)) Q E s:=by
 unfold xu;refine ya (xp hT F.slot_set_len.lookup ?_);generalize hn:("set.__len__":String)=nm
 wp_delta
 rw[show splitId nm=some ("set","__len__") from by subst hn;decide +kernel];subst hn;refine ya (Xy (T:="set") (b:=true) hT (by rw[isSubtype_type];kernel_rfl) ?_);refine xb (λno=>absurd no (by decide)) λ_=>?_;refine xb (λ_=>?_) λno=>absurd (by decide +kernel) no;exact ya (Xx hT (ye hq))
def zvA(s:yc)(es:Array (Int×Value))(vs:Qh)(s':yc):Prop :=
 (∃ent:List (Int×Value),ent.Perm es.toList/\vs=ent.map (·.2))/\(∀b o,s.heap.get? b=some o->s'.heap.get? b=some o)/\s'.os=s.os/\s'.gens=s.gens/\s.heap.objs.size<=s'.heap.objs.size
def zQu{ent:List (Int×Value)}{hZ:Qm}{n:Nat}(hl:ent.length=n)(h:ItemsOf (zDx ent) hZ n):hZ.toList=ent.map (·.2):=by
 apply List.ext_getElem
 ·simp[h.1,hl]
 ·intro j h1 h2;have h1':j<hZ.size:=by simpa using h1
  obtain⟨k,e⟩:=h.2 j hZ[j] (by simp[h1']);have h3:j<ent.length:=by simpa using h2
  rw[yk h3]at e;simp only[xG]at e;simp[e]
def z1o{Q:Qh->yc->Prop}(hh:A.handled=none)(hT:TOk (!w.params.followText "set-order") t)(hO:SOb s.heap a es ep t)(hsz:es.size<=yF)(h:∀vs s',zvA s es vs s'->Q vs s') :
 yo (yv prog w) A (collect (.ref a)) Q E s:=by
 obtain⟨oa,hoa,hca,kS,hfa⟩:=id hO;have kH:a<s.heap.objs.size:=yn hoa;unfold collect;refine ya (wpAny_runValue (YE F.entry_proto_collect ?_));rw[Yw F.plain_proto_collect _];show yo _ A.in1 (newList [] >>= λl=>again (.builtin "list.__iadd__" ⟨[l,.ref a],[]⟩)) _ _ s;refine ya (yY ?_);refine ye ⟨xj F.plain_list_iadd _,YE F.entry_list_iadd ?_⟩;rw[Yw F.plain_list_iadd _];obtain⟨S,hSe⟩:∃S,S=s.heap.objs.size:=⟨_,rfl⟩
 have hL:(s.heap.push {cls:=.type "list",data:=.seq ([]:Qh).toArray }).get? S=some {cls:=.type "list",data:=.seq #[]}:=by rw[hSe];exact yq _ rfl
 have hk0:∀b o,s.heap.get? b=some o->(s.heap.push {cls:=.type "list",data:=.seq ([]:Qh).toArray }).get? b=some o:=λb o e=>yb _ e;have hz0:(s.heap.push {cls:=.type "list",data:=.seq ([]:Qh).toArray }).objs.size=S+1:=by rw[hSe,Yu]
 show yo _ A.in1 (YA (.ref s.heap.objs.size) (.ref a) (.ref s.heap.objs.size)) _ _ _;rw[<-hSe];generalize s.heap.push {cls:=.type "list",data:=.seq ([]:Qh).toArray } = h0 at hL hk0 hz0 ⊢;have hO0:SOb h0 a es ep t:=hO.at' λo e=>hk0 _ o e;have hSa:S≠a:=by rw[hSe];exact yX kH
 have hTy:Shared.TypeIs {s with heap:=h0 } (.ref a) "set":=⟨oa,hk0 _ _ hoa,hca⟩
 unfold YA;refine ya (Xx hTy ?_);have g1:xI (.ref S) (.ref a)=false:=by simp[xI,hSa]
 have g2:(Yx "set" == Yx "list")=false:=by decide
 have g3:(Yx "set" == Yx "tuple")=false:=by decide
 simp only[g1,g2,g3,Bool.or_false,xZ,if_false];refine ya (zou (s:={s with heap:=h0 }) hh hT hO0 hsz λI s1 hI=>?_);obtain⟨fp,ent,St,W,st,hp,hIs,hf1,hf2,hk1,d,hs1⟩:=hI;have hL1:s1.heap.get? S=some {cls:=.type "list",data:=.seq #[]}:=hk1 _ _ hL;have hIs:S+1<=I:=by rw[<-hz0];exact hIs
 have hSf:S∉fp:=λhm=>by
  rcases hf1 S hm with q|q
  ·have q:h0.objs.size<=S:=q;rw[hz0]at q;exact yW _ q
  ·exact hSa q
 have hTy1:s1.TypeIs (.ref a) "set":=⟨oa,hk1 _ _ (hk0 _ _ hoa),hca⟩
 refine ya (yQ (zlu hTy1 ?_))
 have loop:∀(h2:yT)(c:Nat),(∀b o,b≠S->s1.heap.get? b=some o->h2.get? b=some o)->h2.get? S=some {cls:=.type "list",data:=.seq #[] c } ->
  xM (yv prog w) A (.builtin "list.extend.loop" ⟨[.ref S,.ref I,.ref S],[]⟩) (λr s'=>∃hZ c',r=.ok (.ret (.ref S))/\s'.heap.get? S=some {cls:=.type "list",dict:=none,data:=.seq hZ c',slots:=#[]}/\zvA s es hZ.toList s') {s1 with heap:=h2 }:=by
  intro h2 c hk2 hL2;refine codeAny_extend_loopS W.toS hsz S hSf (.ref S) es.size 0 _ #[] c rfl (Ys _) (W.frame 0 _ _ st λb hb o e=>hk2 b o (λq=>hSf (q▸hb)) e) hL2 (ItemsOf.nil _) λs' hZ c' hm hS' hacc=>?_;refine⟨hZ,c',rfl,hS',⟨ent,hp,zQu (by simpa using hp.length_eq) hacc⟩,λb o e=>?_,?_,?_,by rw[<-hSe];exact YQ (yn hS')⟩
  ·have hb:b<s.heap.objs.size:=yn e;rw[<-hSe]at hb;refine hm.heap b o (λkJ=>?_) (hk2 b o (yu hb) (hk1 _ _ (hk0 _ _ e)));rcases List.mem_cons.mp kJ with q|q
   ·exact absurd hb (by rw[q];exact yW _)
   ·rw[List.mem_singleton.mp q]at hb;exact yW _ (Xa hb (yz (Ye _) hIs))
  ·have:=hm.os;rw[this];show s1.os=s.os;rw[hs1]
  ·have:s'.gens=s1.gens:=hm.gens;rw[this,hs1]
 have fin:∀(h2:yT)(c:Nat),(∀b o,b≠S->s1.heap.get? b=some o->h2.get? b=some o)->h2.get? S=some {cls:=.type "list",data:=.seq #[] c } ->
  xM (yv prog w) A (.builtin "list.extend.loop" ⟨[.ref S,.ref I,.ref S],[]⟩) (λr s'=>match r with
   |.ok (.ret v)=>yo (yv prog w) A (match v with
    |.ref b=>do
     let o <-load b
     match o.data with
     |.seq xs _=>pure xs.toList
     |_=>unsupported "internal:collect"
    |_=>unsupported "internal:collect") Q E s'
   |_=>False) {s1 with heap:=h2 }:=λh2 c hk2 hL2=>YI (loop h2 c hk2 hL2) λr s' ⟨hZ,c',e,hS',hc⟩=>by
  subst e;dsimp only;refine ya (wpAny_load hS' ?_);exact ye (h _ _ hc)
 refine xb (λ_=>?_) λ_=>?_
 ·refine ya (wpAny_rule ?_);refine ya ?_;show yo _ _ (updateSeq S (·.push .none) >>= λ_=>updateSeq S (·.pop)) _ _ _;refine ya (wpAny_updateSeq hL1 rfl ?_);have hL2:=yO (xY (·.push Yp)) hL1 rfl;refine wpAny_updateSeq (hz:=by seq_fits) hL2 rfl ?_;have hL3:=yO (xY (·.pop)) hL2 rfl;refine ye ⟨xj F.plain_extend_loop _,YI (fin _ _ (λb o hb e=>?_) hL3) λr s' z=>?_⟩
  ·exact(Yh _ _ (yR hb)).trans ((Yh _ _ (yR hb)).trans e)
  ·cases r with
   |error e=>exact z.elim
   |ok f=>cases f<;>exact z
 ·refine ye ⟨xj F.plain_extend_loop _,YI (fin _ _ (λb o hb e=>e) hL1) λr s' z=>?_⟩
  cases r with
  |error e=>exact z.elim
  |ok f=>cases f<;>exact z
end
end M
namespace M
open PySem PyProof.Rows
section
variable {prog:yy}{w:yI}{A:yJ}{E:Value->yc->Prop}{s:yc}{a:yf}
def zPh:∀(ent:List (Int×Value)),ElemsOf (intKind prog w) ent->IntsAre (ent.map (·.2)) (ent.map zPk)
 |[],_ =>.nil
 |e::ent,h=>by
  obtain⟨⟨k,hk,_⟩,_⟩:=h e Np;obtain⟨t,ht⟩:=Value.isInt_shape (show Value.isInt k e.2=true from hk);have:zPk e=k:=by unfold zPk;rw[ht]
  rw[Ng,Ng,ht,this];exact .cons k t (zPh ent λx hx=>h x (No _ hx))
def zDv(s:yc)(ks:Qg)(p:yf)(s':yc):Prop :=
 ∃(out:Qm)(ns:Qg)(e:Nat),s'.heap.get? p=some {cls:=.type "list",data:=.seq out e }/\IntsAre out.toList ns/\ns.Perm ks/\ns.Pairwise (·<=·)/\s.heap.objs.size<=p/\(∀b o,s.heap.get? b=some o->s'.heap.get? b=some o)/\s'.os=s.os/\s'.gens=s.gens
def zpq{ks:Qg}{Q:Value->yc->Prop}(hh:A.handled=none)(hS:TN prog w s.heap a ks)(h64:ks.length<64)(h:∀p s',zDv s ks p s'->Q (.ref p) s') :
 yo (yv prog w) A (call (.builtin "sorted") [.ref a]) Q E s:=by
 obtain⟨o,es,ep,t,ho,hex,hd,hf,hT,hel,hpk⟩:=hS
 have hW:es.size=ks.length:=by
  have:=hpk.length_eq;simpa using this
 have hO:SOb s.heap a es ep t:=⟨o,ho,hex.1,hd,hf⟩
 refine Calls.call_function_entry kind_sorted plain_sorted entry_sorted (args_sorted1 _) ?_;unfold xi.«sorted»;refine ya (m:=checkCount "sorted" 1 1 _) (ye ?_);refine ya (z1o (A:=A.in1) hh hT hO (yG (YQ (by omega:es.size<64)) (by rw[Yo];decide)) λvs s1 hc=>?_);obtain⟨⟨ent,hp,rfl⟩,hk,hos,hgn,hsz⟩:=hc;have hel2:ElemsOf (intKind prog w) ent:=hel.perm hp;have hI:=zPh ent hel2
 have hl:ent.length=ks.length:=by
  rw[hp.length_eq];simpa using hW
 refine ya (wpAny_newList ?_ (by simp;rw[Yo];omega));have kO:(s1.heap.push (seqObj "list" (ent.map (·.2)).toArray 0)).get? s1.heap.objs.size=some (seqObj "list" (ent.map (·.2)).toArray 0):=yq _ rfl;refine ya (yQ (Yc slot_list_sort ⟨_,kO,rfl⟩ entry_list_sort (list_sort_tree kO hI (by simp;omega) λout ns q1 q2 q3=>⟨_,rfl,?_⟩) (args_list_sort _)));obtain⟨e,he⟩:=sortedHeap_at (out:=out) kO;refine ye ⟨_,rfl,h _ _ ⟨out,ns,e,he,q1,q2.trans ((hp.map zPk).trans hpk),q3,hsz,λb ob eb=>?_,hos,hgn⟩⟩;have hb1:=hk _ _ eb;have hlt1:b<s1.heap.objs.size:=yn hb1;show(sortedHeap (s1.heap.push (seqObj "list" (ent.map (·.2)).toArray 0)) s1.heap.objs.size (ent.map (·.2)) out).get? b=some ob;rw[sortedHeap_old (yu hlt1) (by rw[size_push'];exact YC hlt1)];exact yb _ hb1
end
def zrz(ks:Qg)(k:Int):Qg:=if k∈ks then ks else ks++[k]
def uqN(val:Nat->Int):Nat->Qg
 |0=>[]
 |i+1=>zrz (uqN val i) (val i)
def z9s(val:Nat->Int):∀i,(uqN val i).length<=i
 |0=>yh _
 |i+1=>by
  have:=z9s val i;unfold uqN zrz
  split
  ·omega
  ·simp;omega
def zes(val:Nat->Int)(k:Int):∀i,k∈uqN val i↔∃j,j<i/\val j=k
 |0=>by simp[uqN]
 |i+1=>by
  have ih:=zes val k i;unfold uqN zrz;constructor
  ·intro h
   split at h
   ·obtain⟨j,h1,h2⟩:=ih.mp h;exact⟨j,by omega,h2⟩
   ·rcases List.mem_append.mp h with h|h
    ·obtain⟨j,h1,h2⟩:=ih.mp h;exact⟨j,by omega,h2⟩
    ·exact⟨i,by omega,by simpa using(List.mem_singleton.mp h).symm⟩
  ·rintro⟨j,h1,h2⟩
   by_cases e:j=i
   ·subst e
    split
    ·rename_i hm
     rw[<-h2];exact hm
    ·simp[h2]
   ·have:=ih.mpr ⟨j,by omega,h2⟩
    split
    ·exact this
    ·exact Nk _ this
def z9n(val:Nat->Int):∀i,(uqN val i).Nodup
 |0=>List.nodup_nil
 |i+1=>by
  have ih:=z9n val i;unfold uqN zrz
  split
  ·exact ih
  ·rename_i hm
   rw[Nx];exact⟨ih,by simp,λa ha b hb e=>by simp at hb;subst hb;exact hm (e▸ha)⟩
section
variable {prog:yy}{w:yI}{A:yJ}{R:Result->yc->Prop}{I:yf}{fp wr:Qv}{n:Nat}{P:Nat->Value->Prop}{St:Nat->yT->Prop}
def zku(W:Walks prog w A.in1 I fp wr n P St)(S:yf)(hSf:S∉fp)(val:Nat->Int)(hval:∀i v,P i v->∃t,v=.int (val i) t)(hb:n+1<scanBound):∀(k i:Nat)(s:yc),n-i=k->i<=n->St i s.heap->TN prog w s.heap S (uqN val i) ->
 (∀h' tk,(∀b o,b∉S::wr->s.heap.get? b=some o->h'.get? b=some o)->TN prog w h' S (uqN val n)->R (.ok (.ret .none)) {s with heap:=h',toks:=tk })->xM (yv prog w) A (.builtin "set.update.loop" ⟨[.ref S,.ref I],[]⟩) R s:=by
 have hSw:S∉wr:=λq=>hSf (W.sub _ q);intro k
 induction k with
 |zero=>
  intro i s hk hi st hS hR;have e:i=n:=by omega
  subst e;refine YE PyProof.Rows.F.entry_set_update_loop ?_;rw[Yw xq _];show yo _ A.in1 (xW (.ref I) >>= _) _ _ s;refine ya (W.done s _ _ st λh' tk hk'=>?_);exact ye (hR h' tk (λb o hb e=>hk' b o (λq=>hb (No _ q)) e) (hS.at' λo e=>hk' S o hSw e))
 |succ k ih=>
  intro i s hk hi st hS hR;have kH:i<n:=by omega
  refine YE PyProof.Rows.F.entry_set_update_loop ?_;rw[Yw xq _];show yo _ A.in1 (xW (.ref I) >>= _) _ _ s;refine ya (W.item i s _ _ kH st λv h1 tk hP st1 hk1=>?_);obtain⟨t,rfl⟩:=hval i v hP;show yo _ A.in1 (xt [Value.int (val i) t] (setAdd S (.int (val i) t)) >>= _) _ _ _;refine ya (yQ ?_);unfold setAdd;refine yQ ?_;refine ya (wpAny_pyHash_int ?_);have hS1:TN prog w h1 S (uqN val i):=hS.at' λo e=>hk1 S o hSw e;refine z1w (s:={s with heap:=h1,toks:=tk+1 }) hS1 (by have:=z9s val i;omega) λb h2 sb hS2=>?_;refine ye ⟨xj xq _,ih (i+1) _ (by omega) kH (W.frame _ _ _ st1 λc hc o e=>?_) hS2 λh3 tk3 hk3 hS3=>?_⟩
  ·exact sb.extBut c o (λq=>hSf (q▸hc)) e
  ·exact hR h3 tk3 (λc o hc e=>hk3 c o hc (sb.extBut c o (λq=>hc (by rw[q];exact Np)) (hk1 c o (λq=>hc (No _ q)) e))) hS3
variable {E:Value->yc->Prop}{s:yc}
abbrev z7d(w:yI):YS:={cls:=.type "set",dict:=none,data:=.set #[] 0 (.fresh 0 0 (!w.params.followText "set-order"))}
def z3v(a:Value){Q:Value->yc->Prop}(h:Q (.ref s.heap.objs.size) {s with heap:=s.heap.push (z7d w)}) :
 xM (yv prog w) A (.call (.builtin "set.__new__") ⟨[.type "set",a],[]⟩) (wants Q E) s:=by
 refine codeAny_of_tree ?_;show yo _ A.in1 (do checkBuiltinCall "set.__new__" ⟨[.type "set",a],[]⟩;again (.builtin "set.__new__" ⟨[.type "set",a],[]⟩)) _ _ s;refine ya (wpAny_of_eq (PySem.F.newCall_set_1 a) (ye ⟨xj PySem.F.plain_set_new _,YE PySem.F.entry_set_new ?_⟩));rw[Yw PySem.F.plain_set_new _];unfold xi.«set.__new__» Builtin.Frozenset.newClass;have kU:=PySem.sub_set_self;obtain⟨hp,g,d,tk,os⟩:=s;dsimp only
 wp_walk
 refine wpAny_askSetting (ye ?_);dsimp only;simp only[newObj];refine ya (wpAny_alloc (ye ?_));exact ye h
def z3s(prog:yy)(w:yI)(s:yc)(ks:Qg)(s':yc):Prop :=
 TN prog w s'.heap s.heap.objs.size ks/\(∀b o,s.heap.get? b=some o->s'.heap.get? b=some o)/\∃h' tk,s' = {s with heap:=h',toks:=tk }
set_option maxHeartbeats 3200000 in
def zEo{l:yf}{hJ:Qm}{ns:Qg}{Q:Value->yc->Prop}(hh:A.handled=none)(hl:s.heap.IsList l hJ)(hi:IntsAre hJ.toList ns)(hb:hJ.size+1<scanBound)
 (h:∀s',z3s prog w s (uqN (λi=>ns.getD i 0) hJ.size) s'->Q (.ref s.heap.objs.size) s'):yo (yv prog w) A (call (.type "set") [.ref l]) Q E s:=by
 obtain⟨c,tl,hmro⟩:=PySem.F.called_set.mro;have hmade:=PySem.F.called_set.made;have kU:=PySem.F.called_set.sub;refine Xp (codeAny_of_tree ?_);show yo _ _ (callAny (.type "set") _) _ _ _;refine ye ⟨Code.quiet_builtin _ (by decide +kernel),YE PySem.F.entry_type_call ?_⟩;rw[Around.under_plain (weight_type_call_type "set" [.ref l] []) rfl];have t1:=PySem.F.called_set.notType;have t2:=PySem.F.called_set.canCreate;have t3:=PySem.F.typeCall_set_1 (.ref l)
 repeat (any_goals (first|assumption|wp_step))
 refine YI (z3v (w:=w) (.ref l) (E:=E) (Q:=λob s1=>ob=.ref s.heap.objs.size/\s1 = {s with heap:=s.heap.push (z7d w)}) ⟨rfl,rfl⟩) λr s1 hr=>?_
 cases r with
 |error e=>exact hr
 |ok fl=>
  cases fl with
  |ret ob=>
   obtain⟨rfl,rfl⟩:=hr;have hS:(s.heap.push (z7d w)).get? s.heap.objs.size=some (z7d w):=yq _ rfl;have hT:Shared.TypeIs {s with heap:=s.heap.push (z7d w)} (.ref s.heap.objs.size) "set":=⟨_,hS,rfl⟩
   have i1:=PySem.F.called_set.init.lookup;have i2:=PySem.F.called_set.init.bind (.ref s.heap.objs.size)
   repeat (any_goals (first|assumption|wp_step))
   refine YI (xl (R:=wants (λr s2=>r=.none/\z3s prog w s (uqN (λi=>ns.getD i 0) hJ.size) s2) E) PySem.F.called_set.init.plain PySem.F.entry_set_init (check_set_init_1 hT ?_)) λr2 s2 hr2=>?_
   ·obtain⟨ol,hol,kT,nl,gI⟩:=hl;obtain⟨ocls,odict,odata,oslots⟩:=ol;simp only at kT gI;subst kT;subst gI;have hlS:l<s.heap.objs.size:=yn hol;have hol1:(s.heap.push (z7d w)).get? l=some {cls:=.type "list",dict:=odict,data:=.seq hJ nl,slots:=oslots }:=yb _ hol;have n1:=PySem.F.sub_list_set;have n2:=PySem.F.sub_list_frozenset;have n3:(Yx "list" == Yx "dict")=false:=by decide
    have hl1:(s.heap.push (z7d w)).IsList l hJ:=⟨_,hol1,rfl,nl,rfl⟩
    unfold xi.«set.__init__» noKeywords Builtin.Frozenset.updateFrom;generalize hPI:pyIter=PI
    wp_walk
    subst hPI;refine Xl hl1 ?_;refine ya (wpAny_runValue ?_);have hz:(s.heap.push (z7d w)).objs.size=s.heap.objs.size+1:=by rw[Yu]
    have kL:l≠(s.heap.push (z7d w)).objs.size:=by rw[hz];exact yu (YC hlS)
    have hSf:s.heap.objs.size∉[(s.heap.push (z7d w)).objs.size,l]:=by
     rw[hz];simp only[Nn,Nz,or_false,not_or];exact⟨yu (Ye _),yX hlS⟩
    have hval:∀(i:Nat)(v:Value),hJ[i]?=some v->∃t,v=.int ((λi=>ns.getD i 0) i) t:=λi v hv=>IntsAre.int_at hi i v (by rw[Array.getElem?_toList];exact hv);refine zku (Walks.list (by simp[hh]) _ l kL hJ) s.heap.objs.size hSf (λi=>ns.getD i 0) hval hb (hJ.size-0) 0 _ (by omega) (Ys _) ⟨⟨_,yq _ rfl,rfl,rfl⟩,hl1.push _⟩ ?s0 ?r0
    case s0=>
     exact⟨z7d w,#[],0,_,yb _ hS,⟨rfl,rfl,rfl⟩,rfl,rfl,.fresh _,λe he=>by simp at he,by simp[uqN]⟩
    case r0=>
     intro h' tk hk hS';refine ye ?_;show yo _ _ (ret Yp) _ _ _;refine ye ⟨rfl,hS',λb o e=>?_,h',tk,rfl⟩;have kH:b<s.heap.objs.size:=yn e;refine hk b o ?_ (yb _ (yb _ e));rw[hz];simp only[Nn,Nz,or_false,not_or];exact⟨yu kH,yu (YC kH)⟩
   ·cases r2 with
    |error e=>exact hr2
    |ok fl2=>
     cases fl2 with
     |ret r=>
      obtain⟨rfl,hm⟩:=hr2
      repeat (any_goals (first|assumption|wp_step))
      exact h _ hm
     |_=>exact hr2.elim
  |_=>exact hr.elim
end
end M
namespace M
open PySem PySem.Spec PyProof.Rows L2
section
variable {X:Cx}{U:Qb}{Y:L2.St}{H:Hp}{s s':yc}
def zfu(I:Inv X U Y H s)(ho:s'.os=s.os)(hg:s'.gens=s.gens)(k:∀b u,s.heap.get? b=some u->s'.heap.get? b=some u):Inv X U Y H s' :=
 I.Sf (ch:=[]) ho (Un.kept k) (I.hok.kept k) (by rw[hg];exact I.bare) λb z=>nomatch z
def zSp{p:yf}{o:HO}(I:Inv X U Y H s)(ho:s'.os=s.os)(hg:s'.gens=s.gens)(k:∀b u,s.heap.get? b=some u->s'.heap.get? b=some u)(hp:s.heap.objs.size<=p)(new:tF X.prog X.w (upd H p o) s'.heap p o):Inv X U Y (upd H p o) s' :=
 I.Sf (ch:=[]) ho (Un.laid k hp (I.hok.fresh hp)) (I.hok.laid k hp new) (by rw[hg];exact I.bare) λb z=>nomatch z
def zpe:∀{us:Qh} {ns:Qg},IntsAre us ns->Vals (ns.map V.int) us
 |_,_,.nil =>.nil
 |_,_,.cons n t r =>.cons ⟨t,rfl⟩ (zpe r)
def zdu(X:Cx)(p:yf)(ks:Qg):HO:=.ext λh=>TN X.prog X.w h p ks
def zjt(hc:X.calm=true):zhl X (.type "set") (λxs H Q=>∃(a:yf)(ns:Qg),xs=[.ref a]/\SqL X.K H a (ns.map V.int)/\ns.length+1<scanBound/\∀p,H p=none->Q (.ref p) (upd H p (zdu X p (uqN (λi=>ns.getD i 0) ns.length)))):=by
 intro U s Y H xs us Q I r ⟨a,ns,e,hq,hb,k⟩;subst e;obtain⟨u,rfl,rx⟩:=vals1 r;cases rx;obtain⟨hJ,rv,pl,hz⟩:=I.list hq;have hl:hJ.length=ns.length:=by rw[<-rv.length];simp
 refine zEo (I.ok.hd hc) pl.isList (hJ:=hJ.toArray) (ns:=ns) (by simpa using zQg rv) (by simp;omega) λs' ⟨hS,hk,h',tk,e⟩=>?_;subst e;rw[show hJ.toArray.size=ns.length by simp;exact hl]at hS;refine⟨.ref s.heap.objs.size,_,I.laid (t':=tk) hk (yh _) (show tF X.prog X.w _ h' _ (zdu X _ _) from⟨hS,?_,λh1 h2 x y=>x.at' y⟩),rfl,k _ I.fresh⟩;obtain⟨o,_,_,_,ho,_⟩:=hS;exact⟨o,ho⟩
def zAq(hc:X.calm=true):zhl X (.builtin "sorted") (λxs H Q=>∃(a:yf)(ks:Qg),xs=[.ref a]/\H a=some (zdu X a ks)/\ks.length<64/\∀(p:yf)(ns:Qg),H p=none->ns.Perm ks->ns.Pairwise (·<=·)->Q (.ref p) (upd H p (.lst (ns.map V.int)))):=by
 intro U s Y H xs us Q I r ⟨a,ks,e,hq,h64,k⟩;subst e;obtain⟨u,rfl,rx⟩:=vals1 r;cases rx;obtain⟨hS,_,_⟩:=I.hok a _ hq;refine zpq (I.ok.hd hc) hS h64 λp s' ⟨out,ns,e,h1,h2,h3,h4,h5,h6,h7,h8⟩=>?_;have hl:ns.length=ks.length:=h3.length_eq;refine⟨.ref p,_,zSp I h7 h8 h6 h5 (show tF X.prog X.w _ s'.heap _ (.lst (ns.map V.int)) from⟨by simp;rw[Yo];omega,out.toList,e,zpe h2,by simpa using h1⟩),rfl,k p ns (I.hok.fresh h5) h3 h4⟩
end
def zXA:D->Qk
 |.int i=>some i
 |_=>none
def zDi(ds:Wm):Option (Qg):=ds.mapM zXA
@[simp] theorem z8h:∀ns:Qg,zDi (ns.map D.int)=some ns
 |[]=>rfl
 |i::ns=>by
  have:=z8h ns;unfold zDi at this ⊢;rw[Ng,Nc,this];rfl
def z3e:∀{ds:Wm} {ns:Qg},zDi ds=some ns->ds=ns.map D.int
 |[],ns,h=>by
  unfold zDi at h;simp at h;subst h;rfl
 |d::ds,ns,h=>by
  unfold zDi at h;rw[Nc]at h;obtain⟨i,e1,h⟩:=zj h;obtain⟨r,e2,h⟩:=zj h;cases h
  cases d with
  |int j=>cases e1;rw[z3e (show zDi ds=some r from e2)];rfl
  |_=>cases e1
def zIh{K:yw}{Z:Qv}{H:Hp}:∀{ns:Qg} {vs:Wi},tf K Z H (ns.map D.int) vs->vs=ns.map V.int
 |[],vs,r=>r.nil_inv
 |i::ns,vs,r=>by
  obtain⟨v,q,rfl,h1,h2⟩:=r.cons_inv;rw[h1.int_inv,zIh h2];rfl
def zjf{K:yw}{Z:Qv}{H:Hp}:∀{ns:Qg},tf K Z H (ns.map D.int) (ns.map V.int)
 |[] =>.nil
 |i::ns =>.cons .int zjf
def uqL(ns:Qg):Qg:=uqN (λi=>ns.getD i 0) ns.length
def zOu(ns:Qg):Qg:=(uqL ns).mergeSort λa b=>decide (a<=b)
def zBc{a b:Qg}(p:a.Perm b)(ha:a.Pairwise (·<=·))(hb:b.Pairwise (·<=·)):a=b:=p.eq_of_pairwise (λ_ _ _ _ h1 h2=>Int.le_antisymm h1 h2) ha hb
def zch(ns:Qg):(ns.mergeSort λa b=>decide (a<=b)).Pairwise (·<=·):=by
 have:=List.pairwise_mergeSort (le:=λa b:Int=>decide (a<=b)) (λa b c h1 h2=>by simp at h1 h2 ⊢;omega) (λa b=>by simp;omega) ns;exact this.imp λh=>by simpa using h
def zgr(G:FE):FE:=λJ O=>(G J O).bind λp=>match p.1 with
 |.loc n=>match p.2[n]? with
  |some (.lst ds)=>(zDi ds).bind λns=>bif decide (ns.length<=4000/\(uqL ns).length<64) then some (.loc p.2.length,p.2++[.lst ((zOu ns).map .int)]) else none
  |_=>none
 |_=>none
section
variable {X:Cx}{a b c e:yE}{es:Qz}{G ψ χ:FE}{pos pos2 p1 p2:xn}
def zMs(hm1:X.mg "sorted"=none)(hv1:yM "sorted"=some (.builtin "sorted"))(hm2:X.mg "set"=none)(hv2:yM "set"=some (.type "set"))(h:ME X e G)(hc:X.calm=true:=by rfl)(hg1:Gl X "sorted":=by rfl)(hg2:Gl X "set":=by rfl)
 (he:yj [e] X.env=(false,Yd e X.env)::yj [] X.env:=by rfl) (he2:yj [.Call (.Name "set" p2) [e] [] pos2] X.env=(false,Yd (.Call (.Name "set" p2) [e] [] pos2) X.env)::yj [] X.env:=by rfl) :
 ME X (.Call (.Name "sorted" p1) [.Call (.Name "set" p2) [e] [] pos2] [] pos) (zgr G) :=
 zge (z4p (zAq hc) hg1 hm1 hv1 (zPe (z6f (zjt hc) hg2 hm2 hv2 (zPe h zti he) (by decide) (by decide) he rfl) zti he2) (by decide) (by decide) he2 rfl) λZ J O Y H d O' Q A e k=>by
  obtain⟨⟨x,O1⟩,e1,e⟩:=zj e;refine⟨Z,J,O,x,O1,A,e1,λZ1 H1 v x1 R1 r1=>?_⟩;dsimp only at e
  split at e
  ·split at e
   ·rename_i hm
    obtain⟨ns,e2,e⟩:=zj e;obtain⟨hb,e⟩:=zV e;have hb:=of_decide_eq_true hb;cases e;rw[z3e e2]at hm;obtain⟨p,rfl,ep⟩:=r1.tw;obtain⟨vs,e3,q⟩:=R1.at_ _ _ _ ep hm;rw[zIh q]at e3;refine⟨p,ns,rfl,SqL.of e3,by unfold scanBound;omega,λp1 hp1=>?_⟩;refine⟨p1,uqL ns,rfl,zy,hb.2,λp2 ms hp2 hpm hpw=>?_⟩;have hms:ms=zOu ns:=zBc (hpm.trans (Nv _ _).symm) hpw (zch _);subst hms;have R2:=R1.Tt (o:=zdu X p1 (uqL ns)) hp1;exact k _ _ _ (x1.trans ((Ext.new hp1).trans (Ext.push hp2))) (R2.push hp2 ⟨_,zy,zjf⟩) (.loc (zub R2))
   ·cases e
  ·cases e
variable {prog:yy}{w:yI}{A:yJ}{E:Value->yc->Prop}{s:yc}
def zlr{l b:yf}{hJ its2:Qh}{n:Nat}{Q:Value->yc->Prop}(hl:s.heap.get? l=some {cls:=.type "list",data:=.seq hJ.toArray n })(hb:IsTup s.heap b its2.toArray)(hz:hJ.length+its2.length<=yF)
 (h:Q .none {s with heap:=s.heap.update l (xY (· ++ its2.toArray))}):yo (yv prog w) A (call (.builtin "list.extend") [.ref l,.ref b]) Q E s:=by
 obtain⟨o,ho,hc,m,hd⟩:=hb
 have hlong:¬(!hJ.toArray.isEmpty&&xg (hJ.toArray.size+its2.toArray.size))=true:=by
  rw[sA (by rw[Vd,Vd];exact hz),Bool.and_false];exact yA
 refine Yc PySem.F.slot_list_extend ⟨_,hl,rfl⟩ PySem.F.entry_list_extend ?_ (PySem.F.args_list_extend_2 _ _);unfold xi.«list.extend»;refine ya (m:=selfAndOne "list.extend" ⟨[.ref l,.ref b],[]⟩) (ye ?_);dsimp only;unfold YA;refine ya (Xx (T:="tuple") ⟨o,ho,hc⟩ ?_);have ht:(Yx "tuple" == Yx "tuple")=true:=by rfl
 rw[if_pos (by rw[ht];simp)];refine ya (listItems_at ho hd ?_);refine ya (listItems_at hl rfl ?_);rw[if_neg hlong];refine ya (listUpdate_at hl rfl ?_ (by rw[Vd];omega) (by rw[Array.size_append,Vd,Vd];omega));exact ye ⟨_,rfl,h⟩
@[simp] def z9v:GM:=λx ds O=>match x,ds with
 |.loc n,[.tup ys]=>match O[n]? with
  |some (.lst xs)=>bif decide (xs.length+ys.length<=1000000) then some (.non,O.set n (.lst (xs++ys))) else none
  |_=>none
 |.loc n,[.loc m]=>match O[n]?,O[m]? with
  |some (.lst xs),some (.lst ys)=>bif decide (xs.length+ys.length<=1000000) then some (.non,O.set n (.lst (xs++ys))) else none
  |_,_=>none
 |_,_=>none
def z7q:MtG X "list.extend" z9v:=by
 refine MtG.of λU s Y H x xs v us Q I rx rs Z dx ds O d O' r1 r2 R e k=>?_;have hmi:=Tv;unfold z9v at e
 split at e
 ·split at e
  ·rename_i hm
   obtain⟨h1,e⟩:=zV e;have h1:=of_decide_eq_true h1;cases e;obtain⟨l,rfl,ea⟩:=r1.tw;obtain⟨vs,e3,q3⟩:=R.at_ _ _ _ ea hm;obtain⟨w,r,rfl,q1,q2⟩:=r2.cons_inv;rw[q2.nil_inv]at rs;obtain⟨b,ws,rfl,eb,qb⟩:=q1.tR;obtain⟨u,rfl,ru⟩:=vals1 rs;cases ru;cases rx;obtain⟨z,hJ,n,rv,hl,el⟩:=I.sE e3;obtain⟨its2,rv2,pt,_⟩:=I.tuple (SqT.of (K:=X.K) eb);have hl1:=q3.length;have hl2:=qb.length;have hl3:=rv2.length;have kN:Mut (H l):=by rw[e3];trivial
   refine zlr el pt (by omega) ?_;refine⟨.non,_,I.Sw (t':=s.toks) (ys:=vs++ws) (hJ':=hJ++its2) e3 el (by simp) (rv.append rv2) (by rw[Lr];omega),rfl,?_⟩;exact k Z _ _ (Ext.wr kN) (R.wr kN ea ⟨_,zy,tf.ext (Ext.wr kN) (q3.append qb)⟩) .non
  ·cases e
 ·split at e
  ·rename_i hm1 hm2
   obtain⟨h1,e⟩:=zV e;have h1:=of_decide_eq_true h1;cases e;obtain⟨l,rfl,ea⟩:=r1.tw;obtain⟨vs,e3,q3⟩:=R.at_ _ _ _ ea hm1;obtain⟨w,r,rfl,q1,q2⟩:=r2.cons_inv;rw[q2.nil_inv]at rs;obtain⟨b,rfl,eb⟩:=q1.tw;obtain⟨ws,e4,q4⟩:=R.at_ _ _ _ eb hm2;have hl1:=q3.length;have hl2:=q4.length;have kN:Mut (H l):=by rw[e3];trivial
   refine zas U s Y H _ _ v us Q I rx rs ⟨l,b,vs,ws,rfl,rfl,e3,e4,by omega,?_⟩;exact k Z _ _ (Ext.wr kN) (R.wr kN ea ⟨_,zy,tf.ext (Ext.wr kN) (q3.append q4)⟩) .non
  ·cases e
 ·cases e
def zEn{o:yE}{ψ:FA}{kA:xn}(ho:ME X o G)(ha:MAn X (e::es) ψ)
 (kE:YB o "extend" X.env (Yd o X.env)=Yd o X.env:=by rfl)
 (kF:((Yl pos (yj (e::es) X.env)).all (λx=>!x.1)&&(xP pos (YT [] X.env)).all (λx=>x.1.isSome)
  && decide ((e::es).length+([]:List xN).length+(if([]:List xN).isEmpty then 0 else 1)<30))=true:=by rfl)
 (kB:(kA.endLine==pos.line)=true:=by rfl) (hs:yj (e::es) X.env=(false,Yd e X.env)::yj es X.env:=by rfl) (kD:(Yl pos (yj es X.env)).any (·.1)=false:=by rfl) :
 ME X (.Call (.Attribute o "extend" kA) (e::es) [] pos) (zji z9v G ψ):=zgm PySem.F.slot_list_extend PySem.F.type_list_extend z7q ho ha kE kF kB hs kD
@[simp] def zoy:GL:=λds O=>match ds with
 |[.loc n]=>match O[n]? with
  |some (.lst xs)=>(zDi xs).bind λns=>some (.int ns.sum,O)
  |_=>none
 |_=>none
def zgn(ns:Qg):∀i,i<=ns.length->preSum (λj=>ns.getD j 0) i=(ns.take i).sum
 |0,_=>by simp[preSum]
 |i+1,h=>by
  have ih:=zgn ns i (by omega);unfold preSum;have hi:i<ns.length:=by omega
  have e:ns.take (i+1)=ns.take i++[ns[i]]:=by simp
  rw[ih,e,List.sum_append];simp[hi]
def zCr(hc:X.calm=true):Ta X (.builtin "sum") zoy:=by
 refine Ta.of λU s Y H xs us Q I r Z ds O d O' r1 R e k=>?_;unfold zoy at e
 split at e
 ·split at e
  ·rename_i hm
   obtain⟨ns,e2,e⟩:=zj e;cases e;rw[z3e e2]at hm;obtain⟨v,rr,rfl,q1,q2⟩:=r1.cons_inv;obtain⟨a,rfl,ea⟩:=q1.tw;obtain⟨vs,e3,q3⟩:=R.at_ _ _ _ ea hm;rw[zIh q3]at e3;rw[q2.nil_inv]at r;obtain⟨u,rfl,ru⟩:=vals1 r;cases ru;obtain⟨hJ,rv,pl,hz⟩:=I.list (SqL.of (K:=X.K) e3);have kH:a<s.heap.objs.size:=by obtain⟨_,_,e,_⟩:=pl;exact yn e
   have hI:=zQg rv;have hl:hJ.length=ns.length:=by rw[<-rv.length];simp
   refine call_sum_walkAnyS (Xl pl.isList ?_);refine⟨_,_,_,_,_,_,_,λj=>ns.getD j 0,rfl,(Walks.list (A:=X.A.in1) (I.ok.hd hc) s.heap.objs.size a (yu kH) hJ.toArray).toS,⟨⟨_,yq _ rfl,rfl,rfl⟩,pl.isList.push _⟩,λb hb=>?_,λi v hv=>IntsAre.int_at hI i v (by simpa using hv),λs' t' hmv=>?_⟩
   ·show b<(s.heap.push _).objs.size;rw[Yu];simp at hb;rcases hb with rfl|rfl
    ·exact Ye _
    ·exact YC kH
   ·refine⟨.int _,H,zfu I hmv.os hmv.gens λb o e=>hmv.heap b o (by simpa using yu (yn e)) (yb _ e),⟨t',rfl⟩,?_⟩;rw[Vd,hl,zgn ns _ (yh _),Vh];exact k Z H _ Ext.refl R .int
  ·cases e
 ·cases e
@[simp] def zZf(G:FE):FI:=λJ O=>(G J O).bind λp=>match p.1 with
 |.tup ds=>some (ds,yes,p.2)
 |.fz ds=>some (ds,yes,p.2)
 |.loc n=>match p.2[n]? with
  |some (.lst ds)=>some (ds,z5n n ds,p.2)
  |_=>none
 |_=>none
def z9b{tg:yE}(h:ME X a G):MI X tg a (zZf G):=by
 intro U s Y H R I hh;obtain⟨Z,J,O,ds,ok,O',A,e,k⟩:=hh
 cases e1:G J O with
 |none=>unfold zZf at e;rw[e1]at e;cases e
 |some p=>
  obtain⟨x,O1⟩:=p
  cases x with
  |tup zs=>exact zwy h U s Y H R I ⟨Z,J,O,ds,ok,O',A,by unfold zZf at e;unfold zIv;rw[e1]at e ⊢;exact e,k⟩
  |fz zs=>exact zBr h U s Y H R I ⟨Z,J,O,ds,ok,O',A,by unfold zZf at e;unfold zds;rw[e1]at e ⊢;exact e,k⟩
  |loc n=>exact zBr h U s Y H R I ⟨Z,J,O,ds,ok,O',A,by unfold zZf at e;unfold zds;rw[e1]at e ⊢;exact e,k⟩
  |_=>unfold zZf at e;rw[e1]at e;cases e
end
def zRn{K:yw}{h:yT}{C:yf}{bmB:Qh}{newId:String}(X:K.In h)(q:W.excIn K C bmB newId=true) :
 ∃bm N nm qn bs hdct sn sub ab col dd k0 k1 k2 k3 k5 mN,h.get? C=some (xm nm qn C N bs bm hdct sn sub ab col dd k0 k1 k2 k3 k5 newId)/\h.Ns N mN/\mN "__init__"=none/\OwnTail h bmB bm:=by
 unfold W.excIn at q
 split at q
 ·rename_i dd cd sl ho
  split at q
  ·rename_i C' bm k0 k1 k2 k3 n k5 hm hs
   simp only[yK,beq_iff_eq,Bool.not_eq_true']at q;obtain⟨⟨⟨⟨⟨rfl,rfl⟩,hdel⟩,ht⟩,hok⟩,hni⟩:=q;obtain⟨nm,bs,mro,ns,qn,hd,sn,sub,ab,col,del⟩:=cd;dsimp only at hm hdel hok hni;subst hm hdel
   have hsl:sl = #[k0,k1,k2,k3,some (.builtin n),k5]:=by
    obtain⟨l⟩:=sl;simp only at hs;rw[hs]
   subst hsl;exact⟨bm,ns,nm,qn,bs,hd,sn,sub,ab,col,dd,k0,k1,k2,k3,k5,_,X _ _ ho,.of_isNs (W.isNs_of_in X hok),W.nsMap_none_of_in X hok hni,W.tail_of_in X ht⟩
  ·cases q
 ·cases q
section
variable {X:Cx}{e:yE}{es:Qz}{pos np cpos:xn}{x:yt}{C:yf}{B newId initId:String}{bmB:Qh}
@[simp] def zDp(c:yt)(G:FA):FS:=λJ O=>(G J O).bind λp=>some (.exc c [] p.2)
def zLu{G:FA}(hn:Ym X.K yp x=some (some (.ref C)))(q:W.excIn X.K C bmB newId=true)(FB:ExcBaseFacts B newId initId bmB)(ha:MAn X (e::es) G)(hl:(e::es).length<=1000:=by decide)(hh:X.calm=true:=by rfl)(hg:Gl X x:=by rfl)
 (he:yj (e::es) X.env=(false,Yd e X.env)::yj es X.env:=by exact zRc rfl) (kK:(Yl cpos (yj es X.env)).any (·.1)=false:=by rfl) (hdb:(x==("__debug__":yt))=false:=by decide) :
 MS X (.Raise (some (.Call (.Name x np) (e::es) [] cpos)) none pos) (zDp x G):=by
 intro U s Y H D I ⟨Z,J,O,o,A,eo,k⟩;obtain⟨⟨ds,O1⟩,e1,eo⟩:=zj eo;cases eo;obtain⟨bm,N,nm,qn,bs,hdct,sn,sub,ab,col,dd,k0,k1,k2,k3,k5,mN,hC,hN,hni,T⟩:=zRn I.mod.kin q
 have kK':(Yl cpos (yj (e::es) X.env)).any (·.1)=false:=by
  rw[he];show(false||(Yl cpos (yj es X.env)).any (·.1))=false;rw[kK];rfl
 refine wpAny_Raise_call_subT (C:=C) (nm:=nm) (q:=qn) (N:=N) (bs:=bs) (bm:=bm) (hdct:=hdct) (sn:=sn) (sub:=sub) (ab:=ab) (col:=col) (dd:=dd) (k0:=k0) (k1:=k1) (k2:=k2) (k3:=k3) (k5:=k5)
  FB (mN:=mN) (T.hasType FB.hasBase) (I.ok.hd hh) kK' hni (zkg I hg (xH I.mod.kin I.mod.glob hn) ⟨rfl,?_⟩ hdb)
 have h:=ha.ma cpos U s Y H (λvs H'=>vs.length<=yF/\zCm X (.ref C) none H') I ⟨Z,J,O,ds,O1,A,e1,λZ' H' vs x' R r=>⟨by
  rw[<-r.length,ha.len _ _ _ _ e1];exact YQ (sr hl),k Z' H' C none hn x' R (.inl ⟨rfl,rfl⟩)⟩⟩
 rw[he]at h ⊢;refine Calls.evalArgs_plain (yU h (λus s2 h2=>?_) λ_ _ y=>y);obtain⟨vs,H',I',r,hl,hw⟩:=h2;exact⟨rfl,by rw[<-r.length];exact hl,I'.bk _ _ hC,hN.keeps I'.bk,T.keeps I'.bk,λh' a hm=>hw U Y H' s2 (.ref a) _ I' (I'.madeX hm)⟩
end
inductive RO where
 |ok (d:D) (O:Mem)
 |exc (c:yt) (fs:Wq) (O:Mem)
abbrev FX:=Wm->Mem->Option RO
def ROk(K:yw)(Z:Qv)(H:Hp)(Q:VK)(E:XK):RO->Prop
 |.ok d O'=>∀Z' H' v,Ext Z H Z' H'->tG K Z' H' O'->tu K Z' H' d v->Q v H'
 |.exc c fs O'=>∀Z' H' C dx,Ym K yp c=some (some (.ref C))->Ext Z H Z' H'->tG K Z' H' O'->sT K Z' H' fs dx->E (.ref C) dx H'
def ROk.ext{K:yw}{Z Z1:Qv}{H H1:Hp}{Q:VK}{E:XK}{r:RO}(h:ROk K Z H Q E r)(x:Ext Z H Z1 H1):ROk K Z1 H1 Q E r:=by
 cases r with
 |ok d O=>exact λZ' H' v x' R r=>h Z' H' v (x.trans x') R r
 |exc c fs O=>exact λZ' H' C dx hc x' R r=>h Z' H' C dx hc (x.trans x') R r
def spX(K:yw)(n:Nat)(F:FX):Sp:=λvs H Q E=>vs.length=n/\∃Z ds O r,tf K Z H ds vs/\tG K Z H O/\F ds O=some r/\ROk K Z H Q E r
@[simp] def ziz:Option Out->Option RO
 |some (.ret d O)=>some (.ok d O)
 |some (.next _ O)=>some (.ok .non O)
 |some (.exc c fs O)=>some (.exc c fs O)
 |_=>none
def fnX{P:yy}{w:yI}{K:yw}{mg:yt->Qi}{base:yT}{x qual:yt}{st:Yb}{f:yf}{fd:yV}{N ps:Qx}{k n:Nat}{F:FX}(φ:Fun K x qual st f fd)(S:tq N ps (zp st))(hn:ps.length=n)
 (hbody:∀(cdv:Value)(A:yJ)(outer:Qp)(s:yc)(H:Hp)(E:XK),tQ k (A.deeper (envOfC qual (zp st) s.heap.objs.size f cdv)) ->
  ∃p,MSs (zUq (CXq P w) P w K mg base N qual (zp st) f cdv A outer s H E) (zdc st) p/\∀ds O r,ds.length=n->F ds O=some r->ziz (p (zS N ds) O)=some r) :
 Te P w K mg base (CXq P w) (k+1) f fd ps (spX K n F):=by
 obtain⟨oc,od,kV,doc,pm,an,cdv,ct,osl,rfl,lk,hcd⟩:=φ.ex;refine z1y lk hcd S (λvs H Q E h=>by rw[hn];exact h.1) λA outer s H vs Q E hr h=>?_;obtain⟨p,hp,hF⟩:=hbody cdv A outer s H E hr;refine⟨_,hp,?_⟩;obtain⟨hl,Z,ds,O,r,rv,R,e,hk⟩:=h;have e':=hF ds O r (by rw[rv.length];exact hl) e
 cases eo:p (zS N ds) O with
 |none=>rw[eo]at e';cases e'
 |some o=>
  rw[eo]at e';refine⟨Z,zS N ds,O,o,zup rv R,eo,?_⟩
  cases o with
  |ret d2 O2=>cases e';exact λZ' v H' x' R' r'=>hk Z' H' v x' R' r'
  |next J2 O2=>cases e';exact λZ' Y' H' x' A'=>hk Z' H' .non x' A'.hp .non
  |exc c fs O2=>cases e';exact λZ' H' C dx hc x' R' r'=>zDq (hk Z' H' C dx hc x' R' r')
  |brk _ _=>cases e'
  |cont _ _=>cases e'
section
variable {X:Cx}{e:yE}{es:Qz}{pos p spos:xn}{x:yt}{k j n:Nat}{st:Yb}{f:yf}{fd:yV}{ps:Qx}{F:FX}{G:FA}
def tCX(K:PySem.W.Frag)(W:XK)(n:Nat)(F:FX)(G:FA):TE:=z4s (spX K n F) [] W (tMA K G)
def zHv{K:PySem.W.Frag}{W:XK}{Z:Qv}{J:Loc}{O:Mem}{Y:L2.St}{H:Hp}{Q:VK}{ds:Wm}{O1:Mem}{r:RO}(A:At K Z H Y J O)(e1:G J O=some (ds,O1))(hl:ds.length=n)(e2:F ds O1=some r)(h:ROk K Z H Q W r):tCX K W n F G Y H Q :=
 ⟨Z,J,O,ds,O1,A,e1,λZ1 H1 vs x1 R1 r1=>by
  show spX K n F (vs++[]) H1 Q W;rw[Lf];exact⟨by rw[<-r1.length];exact hl,Z1,ds,O1,r,r1,R1,e2,h.ext x1⟩⟩
@[simp] def zCz(F:FX)(G:FA)(g:D->Loc->Mem->Out):FS:=λJ O=>(G J O).bind λp=>match F p.1 p.2 with
 |some (.ok d O')=>some (g d J O')
 |some (.exc c fs O')=>some (.exc c fs O')
 |none=>none
def z9p{g:D->Loc->Mem->Out}{J:Loc}{O:Mem}{o:Out}(h:zCz F G g J O=some o):∃ds O1 r,G J O=some (ds,O1)/\F ds O1=some r/\o=match r with
 |.ok d O'=>g d J O'
 |.exc c fs O' =>.exc c fs O':=by
 obtain⟨⟨ds,O1⟩,e1,h⟩:=zj h;refine⟨ds,O1,?_⟩
 cases e2:F ds O1 with
 |none=>rw[e2]at h;cases h
 |some r=>
  rw[e2]at h
  cases r with
  |ok d O'=>cases h;exact⟨_,e1,rfl,rfl⟩
  |exc c fs O'=>cases h;exact⟨_,e1,rfl,rfl⟩
@[simp] def zft(F:FX)(G:FA):FS:=zCz F G λ_ J O =>.next J O
end
end M
namespace L2
open PySem PySem.Spec PyProof.Rows
section
variable {X:Cx}{U:Qb}{Y:St}{H:Hp}{s:yc}
def zkm{M:Model}{A:yJ}{E:Value->yc->Prop}{i:Nat}{x:yt}{pos:xn}{Q:Unit->yc->Prop}(I:Inv X U Y H s)(hN:X.N.Nodup)(hi:X.N[i]?=some x)(hk:X.env.scope.names.lookup x=some .local)
 (h:∀s',Inv X U (Y.set i none) H s'->Q () s'):yo M A (do bindName X.env x .none;unbindBehindTheSuite X.env x pos) Q E s:=by
 obtain⟨m,hn,hl⟩:=id I.loc;have hcls:(X.env.scope.kind == .class||(X.env.scope.kind == .module&&X.env.locals != X.env.globals))=false:=by rw[I.ok.kind];rfl
 have hiσ:i<Y.length:=by rw[I.len];exact(List.getElem?_eq_some_iff.mp hi).1
 refine wpAny_nameGoes_keeps hk hn hcls λh' v hn' hs=>?_;have old:∀b o,X.s₀.heap.get? b=some o->b≠X.env.locals:=λb o e=>yu (yz (yn e) I.ok.above)
 have hok:HOk X.prog X.w H h':=λb ob e=>by
  refine(I.hok b ob e).stay (λc w' hc q=>(hs.2 c ?_).trans q) (λ_ q=>q) λ_ _ q=>q;rintro rfl;rcases hc with rfl|hc
  ·rw[I.free]at e;cases e
  ·rw[I.free]at hc;cases hc
 refine h _ ⟨I.ok,I.os,I.bare,⟨λb o e n hb hx=>(hs.2 b (old b o e)).trans (I.base.keep b o e n hb hx),λb o e n hb hx=>?_,I.base.free,λb o e hx=>?_,I.base.tups,I.base.Tx,I.base.TJ⟩,⟨_,hn',λj y v' e1 e2 e3=>?_⟩,λy c e=>?_,I.free,I.freeC,λp hp=>?_,hok,by simpa using I.len⟩
 ·obtain⟨sl,e1⟩:=I.base.slot b o e n hb hx;exact⟨sl,(hs.2 b (old b o e)).trans e1⟩
 ·obtain⟨o',e1⟩:=I.base.there b o e hx;exact⟨o',(hs.2 b (old b o e)).trans e1⟩
 ·by_cases hj:j=i
  ·subst hj;rw[yN hiσ]at e2;cases e2
  ·rw[yL (yR hj)]at e2;obtain⟨u',r',q⟩:=hl j y v' e1 e2 e3;refine⟨u',r',?_⟩;rcases q with ⟨k,e⟩|⟨k,c,e,z⟩
   ·refine .inl ⟨k,?_⟩;have:y≠x:=λe=>hj (zbn hN e1 (e▸hi));simp[this,e]
   ·exact .inr ⟨k,c,e,z.sameBut hs (I.cne y c e)⟩
 ·obtain⟨w',z⟩:=I.cell y c e;exact⟨w',z.sameBut hs (I.cne y c e)⟩
 ·obtain⟨p1,p2,p3,p4,p5⟩:=I.pin p hp;exact⟨(hs.2 p.1 p3).trans p1,p2,p3,p4,p5⟩
abbrev Cx.suite(X:Cx)(v:Value):Cx:={X with A:=X.A.mark (some v),calm:=false,xe:=λ_ _=>False }
def Inv.suite(I:Inv X U Y H s)(v:Value):Inv (X.suite v) U Y H s :=
 ⟨⟨I.ok.mod,I.ok.kind,I.ok.glob,I.ok.blt,I.ok.above,I.ok.inj,I.ok.has,I.ok.cab,λz=>absurd z (by simp),I.ok.frames,I.ok.stk,I.ok.exf,I.ok.bs,I.ok.bsz,I.ok.Sn,I.ok.Su,I.ok.sk,I.ok.frf⟩,
  I.os,I.bare,I.base,I.loc,I.cell,I.free,I.freeC,I.pin,I.hok,I.len⟩
def Inv.Tw{v:Value}(ok:X.Ok)(I:Inv (X.suite v) U Y H s):Inv X U Y H s :=
 ⟨ok,I.os,I.bare,I.base,I.loc,I.cell,I.free,I.freeC,I.pin,I.hok,I.len⟩
def HOk.Sx{P:yy}{w:yI}{h:yT}{a:yf}{o:HO}(x:HOk P w H h)(hn:H a=none)(new:tF P w (upd H a o) h a o):HOk P w (upd H a o) h:=λb u e=>by
 by_cases hb:b=a
 ·subst hb;rw[zy]at e;cases e;exact new
 ·rw[zE hb]at e;exact(x b u e).stay (λc v _ q=>q) (λc q=>by rw[zE (zH q hn)];exact q) λc xs q=>by rw[zE (zH q hn)];exact q
variable {M:Model}{A:yJ}{E:Value->yc->Prop}{h:yT}{g:Array GenState}{d:Drawn}{t:Nat}{os:OsState}
def zWg{nm q:yt}{C N:yf}{bs bm:Qh}{hdct:Bool}{sn:Qx}{sub:Qh}{ab:Bool}{col:Qq}{dd:Qw}{k0 k1 k2 k3 k5:Qi}{newId:String}
 {nm' q':yt} {C' N':yf} {bs' bm':Qh} {Sz:Bool} {sn':Qx} {sub':Qh} {ab':Bool} {col':Qq} {dd':Qw} {k0' k1' k2' k3' k5':Qi} {newId':String} {e:yf} {oe:YS} {b:Bool} {Q:Bool->yc->Prop}
 (hC:h.get? C=some (xm nm q C N bs bm hdct sn sub ab col dd k0 k1 k2 k3 k5 newId)) (hC':h.get? C'=some (xm nm' q' C' N' bs' bm' Sz sn' sub' ab' col' dd' k0' k1' k2' k3' k5' newId'))
 (he:h.get? e=some oe) (hcls:oe.cls=.ref C) (kE:bm'.contains (.type "BaseException")=true) (hb:(yH C::bm).contains (.ref C')=b) (hq:Q b ⟨h,g,d,t,os⟩):yo M A (excMatches (.ref e) (.ref C')) Q E ⟨h,g,d,t,os⟩:=by
 have hcB:(yH C'::bm').contains (.type "BaseException")=true:=by rw[List.contains_cons,kE,Bool.or_true]
 have f:=tc_notTuple;unfold excMatches
 cases b with
 |true=>
  repeat (first|(with_reducible refine YN he ?_;rw[hcls])|with_reducible refine YN hC' ?_|(with_reducible refine xr hC' ?_;rw[hcB])|(with_reducible refine xr hC ?_;rw[hb])|wp_step)
  exact hq
 |false=>
  repeat (first|(with_reducible refine YN he ?_;rw[hcls])|with_reducible refine YN hC' ?_|(with_reducible refine xr hC' ?_;rw[hcB])|(with_reducible refine xr hC ?_;rw[hb])|wp_step)
  exact hq
end
def zAt{K:yw}{h:yT}{C:yf}{v:Value}{b:Bool}{nm q:yt}{N:yf}{bs bm:Qh}{hdct:Bool}{sn:Qx}{sub:Qh}{ab:Bool}{col:Qq}{dd:Qw}{k0 k1 k2 k3 k5:Qi}{newId:String}(X:K.In h)(e:W.mroIn K C v=some b)
 (hC:h.get? C=some (xm nm q C N bs bm hdct sn sub ab col dd k0 k1 k2 k3 k5 newId)):(yH C::bm).contains v=b:=by
 obtain⟨cd,a,z⟩:=Option.bind_eq_some_iff.mp e;unfold W.clsIn at a
 split at a
 ·rename_i ho
  cases a;have:=X _ _ ho;rw[hC]at this;cases this
  split at z
  ·cases z
  ·cases z;rfl
 ·cases a
end L2
namespace M
open PySem PySem.Spec PyProof.Rows L2
def XP(X:Cx)(U:Qb)(Y:L2.St)(W:XK)(e:Value)(s':yc):Prop:=∃H1 s1 C dx H',Inv X U Y H1 s1/\sM X.prog X.w X.stack H1 s1 C dx H' e s'/\W C dx H'
def PX1(X:Cx)(st:Yb)(ψ:FS):Prop:=∀(U:Qb) (s:yc) (Y:L2.St) (H:Hp) (D:Ends) (W:XK),Inv X U Y H s->tMS X.K W ψ D Y H->yo (yv X.prog X.w) X.A (exec st X.env) (SP X U D) (XP X U Y W) s
def PX(X:Cx)(sts:We)(ψ:FS):Prop:=∀(U:Qb) (s:yc) (Y:L2.St) (H:Hp) (D:Ends) (W:XK),Inv X U Y H s->tMS X.K W ψ D Y H->yo (yv X.prog X.w) X.A (execs sts X.env) (SP X U D) (XP X U Y W) s
section
variable {X:Cx}{c e:yE}{es:Qz}{pos p spos:xn}{x:yt}{k j n:Nat}{st:Yb}{f:yf}{fd:yV}{ps:Qx}{F:FX}{G:FA}
def zRv{ψ:FS}(h:PX1 X st ψ):PX X [st] ψ:=by
 intro U s Y H D W I q;refine wpAny_execs_cons (thn (h U s Y H D W I q) λf s1 q=>?_)
 cases f with
 |next=>exact Xd q
 |ret v=>exact q
 |brk=>exact q
 |cont=>exact q
end
abbrev FH:=yt->Wq->FS
def Cau(X:Cx)(U:Qb)(Y:L2.St)(C:Value)(dx:Qw)(H':Hp)(a:yf)(s':yc):Prop:=∃H1 s1,Inv X U Y H1 s1/\sM X.prog X.w X.stack H1 s1 C dx H' (.ref a) s'
def zHr{P:yy}{w:yI}{outer:Qp}{H H':Hp}{s s':yc}{C:Value}{dx:Qw}{a:yf}{B base h2:yT}(F:sM P w outer H s C dx H' (.ref a) s')(c:Cov outer H' s.heap B)(st:B.StaysIn s'.heap)(fl:Fly B outer a C dx h2)(sm:s'.heap.UpToSlots h2)
 (ff:s.heap.FunFrames base outer) (frf:∀b∈frs outer,H b=none):sM P w outer H s C dx H' (.ref a) {s' with heap:=h2 } :=
 ⟨F.os,F.bare,z9o F.un c st fl.st sm ff frf,zim F.hok c st fl.st,a,B,rfl,fl,c⟩
def MH(X:Cx)(hs:List ExceptHandler)(η:FH):Prop :=
 ∀U Y C c fs dx H' a s' Z J O o D,Cau X U Y (.ref C) dx H' a s'->Ym X.K yp c=some (some (.ref C))->sT X.K Z H' fs dx->At X.K Z H' Y J O->η c fs J O=some o->sC X.K (zCm X) Z H' D o ->
  yo (yv X.prog X.w) X.A (handleBy (.ref a) X.env hs) (SP X U D) X.xe s'
@[simp] def zUv:FH:=λ_ _ _ _=>none
def zzs{X:Cx}{hs:List ExceptHandler}:MH X hs zUv:=λ_ _ _ _ _ _ _ _ _ _ _ _ _ _ _ _ _ _ e _=>by cases e
@[simp] def zcs(p:FS)(η:FH):FS:=λJ O=>match p J O with
 |some (.exc c fs O')=>η c fs J O'
 |o=>o
def zwv{X:Cx}{body:We}{h0:ExceptHandler}{hs:List ExceptHandler}{pos:xn}{p:FS}{η:FH}(hb:PX X body p)(hh:MH X (h0::hs) η)(kR:X.stack=X.env::X.outer:=by rfl)(hfm:X.env.frame=some X.env.locals:=by rfl):MS X (.Try body (h0::hs) [] [] pos) (zcs p η):=by
 intro U s Y H D I ⟨Z,J,O,o,A,eo,kk⟩
 have calm:∀o',p J O=some o'->(∀c fs O',o'≠.exc c fs O')->yo (yv X.prog X.w) X.A (exec (.Try body (h0::hs) [] [] pos) X.env) (SP X U D) X.xe s:=λo' ep kL=>by
  have eo':o'=o:=by
   unfold zcs at eo;rw[ep]at eo
   cases o' with
   |exc c fs O'=>exact absurd rfl (kL c fs O')
   |next _ _=>cases eo;rfl
   |ret _ _=>cases eo;rfl
   |brk _ _=>cases eo;rfl
   |cont _ _=>cases eo;rfl
  subst eo';refine wpAny_Try_except (yU (hb U s Y H D E0 I ⟨Z,J,O,o',A,ep,?_⟩) (λfl s1 q=>?_) λe s1 ⟨_,_,_,_,_,_,_,z⟩=>z.elim)
  ·cases o' with
   |exc c fs O'=>exact absurd rfl (kL c fs O')
   |next _ _=>exact kk
   |ret _ _=>exact kk
   |brk _ _=>exact kk
   |cont _ _=>exact kk
  ·cases fl with
   |next=>exact Xd q
   |ret v=>exact q
   |brk=>exact q
   |cont=>exact q
 cases ep:p J O with
 |none=>unfold zcs at eo;rw[ep]at eo;cases eo
 |some o'=>
  cases o' with
  |next _ _=>exact calm _ ep (by intros;simp)
  |ret _ _=>exact calm _ ep (by intros;simp)
  |brk _ _=>exact calm _ ep (by intros;simp)
  |cont _ _=>exact calm _ ep (by intros;simp)
  |exc c fs O'=>
   have eo:η c fs J O'=some o:=by unfold zcs at eo;rw[ep]at eo;exact eo
   refine wpAny_Try_except (yU (hb U s Y H {nx:=λ_ _=>False,rt:=λ_ _=>False } (λCv dx H'=>∃C Z',Cv=.ref C/\Ym X.K yp c=some (some (.ref C))/\Ext Z H Z' H'/\tG X.K Z' H' O'/\sT X.K Z' H' fs dx) I
    ⟨Z,J,O,_,A,ep,λZ' H' C dx hc x' R r=>⟨C,Z',rfl,hc,x',R,r⟩⟩) (λfl s1 q=>?_) λe s1 q=>?_)
   ·cases fl with
    |next=>obtain⟨_,_,_,z⟩:=q;exact z.elim
    |ret v=>obtain⟨_,_,_,_,_,z⟩:=q;exact z.elim
    |brk=>obtain⟨_,_,_,z⟩:=q;exact z.elim
    |cont=>obtain⟨_,_,_,z⟩:=q;exact z.elim
   ·obtain⟨H1,s2,Cv,dx,H',I1,F,C,Z',rfl,hc,x',R,rX⟩:=q;obtain⟨a,B,rfl,fl,cov⟩:=F.fly;have fl':Fly B (X.env::X.outer) a (.ref C) dx s1.heap:=by rw[<-kR];exact fl
    have kP:X.A.frames=some (X.env::X.outer):=by rw[<-kR];exact I.ok.frames
    refine zWj kP hfm fl' λh2 fl2 sm2=>zrf (s:={s1 with heap:=h2 }) fl2 λh3 fl3 sm3=>?_;rw[<-kR]at fl3;exact hh U Y C c fs dx H' a {s1 with heap:=h3 } Z' J O' o D ⟨H1,s2,I1,zHr (h2:=h3) F cov fl.st fl3 (sm2.trans sm3) I1.stack I1.TK⟩ hc rX (A.ext x' R) eo (kk.ext x')
@[simp] def behind(i:Nat):Option Out->Option Out
 |some (.next J O)=>some (.next (J.set i none) O)
 |some (.ret d O)=>some (.ret d O)
 |some (.brk J O)=>some (.brk (J.set i none) O)
 |some (.cont J O)=>some (.cont (J.set i none) O)
 |_=>none
@[simp] def hAs(i:Nat)(tb:List (yt×Bool))(q:FS)(η:FH):FH:=λc fs J O=>match tb.lookup c with
 |some true=>behind i (q (J.set i (some (.loc O.length))) (O++[.exc c fs]))
 |some false=>η c fs J O
 |none=>none
def sd(K:yw)(D0:yf)(tb:List (yt×Bool)):Prop:=∀c b,tb.lookup c=some b->∀C,Ym K yp c=some (some (.ref C))->W.ktsIn K C "BaseException"=true/\W.mroIn K C (.ref D0)=some b
def At.unset{K:yw}{Z:Qv}{H:Hp}{Y:L2.St}{J:Loc}{O:Mem}(A:At K Z H Y J O)(i:Nat):At K Z H (Y.set i none) (J.set i none) O:=by
 refine⟨λj d' e=>?_,A.hp,by simp[A.len]⟩
 by_cases hj:j=i
 ·subst hj
  have hl:j<J.length:=by
   have:=(List.getElem?_eq_some_iff.mp e).1;simpa using this
  rw[yN hl]at e;cases e
 ·rw[yL (yR hj)]at e;obtain⟨u,e1,q⟩:=A.st j d' e;exact⟨u,by rw[yL (yR hj)];exact e1,q⟩
def znA{X:Cx}{d n:yt}{D0:yf}{b0:Yb}{suite:We}{pos np:xn}{rest:List ExceptHandler}{q:FS}{η:FH}(i:Nat)(tb:List (yt×Bool))(hd:Ym X.K yp d=some (some (.ref D0)))(hk:W.ktsIn X.K D0 "BaseException"=true)(ht:sd X.K D0 tb)
 (hq:∀v,MSs (X.suite v) (b0::suite) q) (hr:MH X rest η) (hg:Gl X d:=by rfl) (hN:X.N.Nodup:=by first|assumption|decide) (hi:X.N[i]?=some n:=by rfl) (hl:X.env.scope.names.lookup n=some .local:=by rfl) (hdb:(d==("__debug__":yt))=false:=by decide) :
 MH X (.ExceptHandler (some (.Name d np)) (some n) (b0::suite) pos::rest) (hAs i tb q η):=by
 intro U Y C c fs dx H' a s' Z J O o D hcau hc hX A eo kk;obtain⟨H1,s1,I1,F⟩:=hcau;obtain⟨a',B,ea,fl,cov⟩:=F.fly;cases ea;have δ:Inv X U Y H' s':=I1.fly F cov fl.st fl.st (.refl _);obtain⟨oe,vs,y,he,kT,hdx,hfd,h1,tr⟩:=fl.ob
 cases hb:tb.lookup c with
 |none=>unfold hAs at eo;rw[hb]at eo;cases eo
 |some b=>
  obtain⟨kC,mC⟩:=ht c b hb C hc;obtain⟨nm,qn,N,bs,bm,hdct,sn,sub,ab,col,dd,k0,k1,k2,k3,k5,newId,hC,_,_⟩:=W.kts_cls δ.kIn kC;obtain⟨nm',qn',N',bs',bm',Sz,sn',sub',ab',col',dd',k0',k1',k2',k3',k5',newId',hC',kE',_⟩:=W.kts_cls δ.kIn hk;refine wpAny_handleBy_cons (codeAny_handlers_test (zkg (X:=X.suite (.ref a)) (δ.suite (.ref a)) hg (xH δ.mod.kin δ.mod.glob hd) ?_ hdb)) (by intro z;cases z);obtain⟨hh,g,dr,tk,os⟩:=s';refine zWg hC hC' he kT kE' (zAt δ.kIn mC hC) ?_
  cases b with
  |false=>
   unfold hAs at eo;rw[hb]at eo;exact hr U Y C c fs dx H' a _ Z J O o D ⟨H1,s1,I1,F⟩ hc hX A eo kk
  |true=>
   unfold hAs at eo;rw[hb]at eo;refine codeAny_handlers_suite_as (zrf (s:=⟨hh,g,dr,tk,os⟩) fl λh2 fl2 sm2=>?_)
   have hna:H' a=none:=by
    cases z:H' a with
    |none=>rfl
    |some u=>obtain⟨w,hw⟩:=cov.tr a u z;rw[fl.new]at hw;cases hw
   have hold:∀b o,s1.heap.get? b=some o->b≠a:=λb o ho z=>by
    subst z
    by_cases hm:b∈frs X.stack
    ·obtain⟨_,o',ho',hnf⟩:=fl.ff.mem hm;rw[he]at ho';cases ho';exact hnf _ hfd
    ·obtain⟨w,hw⟩:=cov.old b o ho hm;rw[fl.new]at hw;cases hw
   have u2:=z9o F.un cov fl.st fl2.st sm2 I1.stack I1.TK;have ok2:=zim F.hok cov fl.st fl2.st;obtain⟨oe2,vs2,y2,he2,hcl2,hdx2,hfd2,_,_⟩:=fl2.ob
   have δ3:Inv X U Y (upd H' a (.ext (zWq a C dx))) ⟨h2,g,dr,tk,os⟩:=by
    refine I1.Sf (s':=⟨h2,g,dr,tk,os⟩) (ch:=[]) F.os ⟨u2.keep,u2.slot,λb o e1 e2 e3=>?_,u2.there,λb xs z=>?_,λb ob u z=>?_,λb ps z=>?_⟩ (ok2.Sx hna ⟨⟨oe2,vs2,he2,hcl2,hdx2,hfd2⟩,⟨_,he2⟩,λx1 x2 z1 z2=>?_⟩) F.bare λb z=>absurd z (by simp)
    ·rw[zE (hold b o e1)];exact u2.free b o e1 e2 e3
    ·have:=u2.tups b xs z;rw[zE (zH this hna)];exact this
    ·have:=u2.Tx b ob u z;rw[zE (zH this hna)];exact this
    ·obtain⟨m,this⟩:=u2.TJ b ps z;exact⟨m,by rw[zE (zH this hna)];exact this⟩
    ·obtain⟨o1,v1,w1,w2⟩:=z1;exact⟨o1,v1,z2 _ w1,w2⟩
   refine zli (X:=X.suite (.ref a)) (v:=.ref a) (u:=.ref a) (δ3.suite (.ref a)) hN hi (.inl hl) rfl (λs3 I3=>?_) (.inr hl)
   have A3:At X.K (Z++[a]) (upd H' a (.ext (zWq a C dx))) (Y.set i (some (.ref a))) (J.set i (some (.loc O.length))) (O++[.exc c fs]) :=
    (A.ext (Ext.push hna) (A.hp.push (o:=.ext (zWq a C dx)) (lo:=.exc c fs) hna ⟨C,dx,hc,zy,hX.ext (Ext.push hna)⟩)).set (.loc (zub A.hp)) i
   cases eq:q (J.set i (some (.loc O.length))) (O++[.exc c fs]) with
   |none=>rw[eq]at eo;cases eo
   |some o'=>
    rw[eq]at eo;have kk':=kk.ext (Ext.push (o:=.ext (zWq a C dx)) hna);refine yU (hq (.ref a) U s3 _ _ {nx:=λY' H2=>D.nx (Y'.set i none) H2,rt:=D.rt,bk:=λY' H2=>D.bk (Y'.set i none) H2,ct:=λY' H2=>D.ct (Y'.set i none) H2 } I3 ⟨_,_,_,o',A3,eq,?_⟩) (λf4 s4 hs4=>?_) λ_ _ z=>z.elim
    ·cases o' with
     |next J' O'=>cases eo;exact λZ' Y' H2 x2 A2=>kk' Z' _ H2 x2 (A2.unset i)
     |brk J' O'=>cases eo;exact λZ' Y' H2 x2 A2=>kk' Z' _ H2 x2 (A2.unset i)
     |cont J' O'=>cases eo;exact λZ' Y' H2 x2 A2=>kk' Z' _ H2 x2 (A2.unset i)
     |ret d' O'=>cases eo;exact kk'
     |exc _ _ _=>cases eo
    ·cases f4 with
     |next=>obtain⟨Y4,H4,I4,z⟩:=hs4;exact zkm (I4.Tw δ.ok) hN hi hl λs5 I5=>⟨_,H4,I5,z⟩
     |brk=>obtain⟨Y4,H4,I4,z⟩:=hs4;exact zkm (I4.Tw δ.ok) hN hi hl λs5 I5=>⟨_,H4,I5,z⟩
     |cont=>obtain⟨Y4,H4,I4,z⟩:=hs4;exact zkm (I4.Tw δ.ok) hN hi hl λs5 I5=>⟨_,H4,I5,z⟩
     |ret u=>obtain⟨v4,Y4,H4,I4,r4,z⟩:=hs4;exact zkm (I4.Tw δ.ok) hN hi hl λs5 I5=>⟨v4,_,H4,I5,r4,z⟩
@[simp] def zOk(tb:List (yt×Bool))(q:FS)(η:FH):FH:=λc fs J O=>match tb.lookup c with
 |some true=>(match q J O with
  |some (.exc _ _ _)=>none
  |o=>o)
 |some false=>η c fs J O
 |none=>none
def zKs{X:Cx}{d:yt}{D0:yf}{b0:Yb}{suite:We}{pos np:xn}{rest:List ExceptHandler}{q:FS}{η:FH}(tb:List (yt×Bool))(hd:Ym X.K yp d=some (some (.ref D0)))(hk:W.ktsIn X.K D0 "BaseException"=true)(ht:sd X.K D0 tb)
 (hq:∀v,MSs (X.suite v) (b0::suite) q) (hr:MH X rest η) (hg:Gl X d:=by rfl) (hdb:(d==("__debug__":yt))=false:=by decide) :
 MH X (.ExceptHandler (some (.Name d np)) none (b0::suite) pos::rest) (zOk tb q η):=by
 intro U Y C c fs dx H' a s' Z J O o D hcau hc hX A eo kk;obtain⟨H1,s1,I1,F⟩:=hcau;obtain⟨a',B,ea,fl,cov⟩:=F.fly;cases ea;have δ:Inv X U Y H' s':=I1.fly F cov fl.st fl.st (.refl _);obtain⟨oe,vs,y,he,kT,hdx,hfd,h1,tr⟩:=fl.ob
 cases hb:tb.lookup c with
 |none=>unfold zOk at eo;rw[hb]at eo;cases eo
 |some b=>
  obtain⟨kC,mC⟩:=ht c b hb C hc;obtain⟨nm,qn,N,bs,bm,hdct,sn,sub,ab,col,dd,k0,k1,k2,k3,k5,newId,hC,_,_⟩:=W.kts_cls δ.kIn kC;obtain⟨nm',qn',N',bs',bm',Sz,sn',sub',ab',col',dd',k0',k1',k2',k3',k5',newId',hC',kE',_⟩:=W.kts_cls δ.kIn hk;refine wpAny_handleBy_cons (codeAny_handlers_test (zkg (X:=X.suite (.ref a)) (δ.suite (.ref a)) hg (xH δ.mod.kin δ.mod.glob hd) ?_ hdb)) (by intro z;cases z);obtain⟨hh,g,dr,tk,os⟩:=s';refine zWg hC hC' he kT kE' (zAt δ.kIn mC hC) ?_
  cases b with
  |false=>
   unfold zOk at eo;rw[hb]at eo;exact hr U Y C c fs dx H' a _ Z J O o D ⟨H1,s1,I1,F⟩ hc hX A eo kk
  |true=>
   unfold zOk at eo;rw[hb]at eo;refine codeAny_handlers_suite (zrf (s:=⟨hh,g,dr,tk,os⟩) fl λh2 fl2 sm2=>?_);have δ2:Inv X U Y H' ⟨h2,g,dr,tk,os⟩:=I1.fly F cov fl.st fl2.st sm2
   cases eq:q J O with
   |none=>rw[eq]at eo;cases eo
   |some o'=>
    rw[eq]at eo;refine yU (hq (.ref a) U _ Y H' D (δ2.suite _) ⟨Z,J,O,o',A,eq,?_⟩) (λf4 s4 hs4=>?_) λ_ _ z=>z.elim
    ·cases o' with
     |next J' O'=>cases eo;exact kk
     |brk J' O'=>cases eo;exact kk
     |cont J' O'=>cases eo;exact kk
     |ret d' O'=>cases eo;exact kk
     |exc _ _ _=>cases eo
    ·cases f4 with
     |next=>obtain⟨Y4,H4,I4,z⟩:=hs4;exact⟨Y4,H4,I4.Tw δ.ok,z⟩
     |brk=>obtain⟨Y4,H4,I4,z⟩:=hs4;exact⟨Y4,H4,I4.Tw δ.ok,z⟩
     |cont=>obtain⟨Y4,H4,I4,z⟩:=hs4;exact⟨Y4,H4,I4.Tw δ.ok,z⟩
     |ret u=>obtain⟨v4,Y4,H4,I4,r4,z⟩:=hs4;exact⟨v4,Y4,H4,I4.Tw δ.ok,r4,z⟩
end M
namespace PySem.W
open PySem PySem.Spec PySem.Calls PyProof.Rows
structure AskC(K:Frag)(C:yf):Prop where
 cl:(clsIn K C).isSome=true
 ga:findIn K (.ref C) "__getattribute__"=some (some (.builtin "BaseException.__getattribute__"))
 gk:findIn K (.ref C) "__getattr__"=some none
 be:mroIn K C (.type "BaseException")=some true
 ha:findIn K (.ref C) "__class__"=some (some (.builtin "object.__class__"))
 hn:specialIn K (.builtin "object.__class__") "__get__"=some (some (.builtin "getset_descriptor.__get__"))
 tk:takesIn K (.builtin "object.__class__")=some true
 hm:mroIn K C (.type "object")=some true
section
variable {prog:yy}{w:yI}{A:yJ}{E:Value->yc->Prop}{s:yc}{K:Frag}{x D:yf}{ox:YS}{odo:Option YS}
def zQs{M:Model}{nameV:Value}{Q:Unit->yc->Prop}(X:K.In s.heap)(I:InstAt s.heap x ox D odo)(c:AskC K D)(hq:Q () s):yo M A (checkBuiltinCall "BaseException.__getattribute__" ⟨[.ref x,nameV],[]⟩) Q E s:=by
 have hk:builtinKind "BaseException.__getattribute__"=some .slot:=by decide +kernel
 have hsplit:splitId "BaseException.__getattribute__"=some ("BaseException","__getattribute__"):=by decide +kernel
 have ha:=F.args_bexc_ga (.ref x) nameV;have L0:=I.type (M:=M);have L1:=looks_mroIn (M:=M) X c.be;obtain⟨hh,g,d,t,os⟩:=s;simp only[checkBuiltinCall,hk,hsplit];refine ya ?_
 ·unfold isInstance
  repeat (first|with_reducible refine L0.at ?_|with_reducible refine L1.at ?_|wp_step)
  exact hq
end
end PySem.W
namespace M
open PySem PySem.Spec PyProof.Rows L2
section
variable {X:Cx}
inductive CN where
 |own (c:yt)
 |ty (n:String)
 deriving DecidableEq
abbrev Kit:=List ((Option yt×CN)×Bool)
def zwA(K:yw):CN->Value->Prop
 |.own d,v=>∃a,Ym K yp d=some (some (.ref a))/\v=.ref a
 |.ty n,v=>v=.type n
structure KitOk(K:yw)(tb:Kit):Prop where
 non:∀d b v,tb.lookup (none,d)=some b->zwA K d v->W.kitOne K (.type "NoneType") v=some b
 ask:∀c d b,tb.lookup (some c,d)=some b->∀C,Ym K yp c=some (some (.ref C))->W.AskC K C
 exc:∀c d b v,tb.lookup (some c,d)=some b->zwA K d v->∀C,Ym K yp c=some (some (.ref C))->W.kitOne K (.ref C) v=some b
variable {K:yw}{D0:yf}{tb:List (yt×Bool)}{kt:Kit}
def sd.nil:sd K D0 []:=λc b h=>by cases h
def sd.cons{c:yt}{C:yf}{b:Bool}(hc:Ym K yp c=some (some (.ref C)))(k:W.ktsIn K C "BaseException"=true)(m:W.mroIn K C (.ref D0)=some b)(r:sd K D0 tb):sd K D0 ((c,b)::tb):=λc' b' h C' hC'=>by
 unfold YM at h
 split at h
 ·rename_i e
  cases h;rw[beq_iff_eq.mp e,hc]at hC';cases hC';exact⟨k,m⟩
 ·exact r c' b' h C' hC'
end
structure MSsl(X:Cx)(sts:We)(ψ:FS):Prop where
 h:MSs X sts ψ
end M
namespace PySem
open Sem (wp)
section
variable {prog:yy}{w:yI}{A:yJ}{E:Value->yc->Prop}{h:yT}{g:Array GenState}{d:Drawn}{t:Nat}{os:OsState}
variable {nm q:yt}{C N fI:yf}{bs bm bmB:Qh}{hdct:Bool}{sn:Qx}{sub:Qh}{ab:Bool}{col:Qq}{dd:Qw}{k0 k1 k2 k3 k5:Qi}{B newId initId:String}
abbrev zZg(h:yT)(C:yf)(rest:Qh):yT:=(h.push {cls:=.type "tuple",data:=.seq rest.toArray }).push {cls:=.ref C,data:=.fields #[.ref h.objs.size,.none,.none,.none,.bool false,.none]}
def zDh(F:ExcBaseFacts B newId initId bmB)(T:OwnTail h bmB bm){rest:Qh}{Q:Fin->yc->Prop}
 (hC:h.get? C=some (xm nm q C N bs bm hdct sn sub ab col dd k0 k1 k2 k3 k5 newId)) (L:W.Looks (yv prog w) h (Xq (.ref C) "__init__") (some (.ref fI))) (LB:∀self,W.Looks (yv prog w) h (bindSpecial (.ref fI) self) (.ref fI,[self]))
 (hq:yo (yv prog w) A (call (.ref fI) (.ref (h.objs.size+1)::rest)) (λv s'=>v=.none/\Q (.done (.ret (.ref (h.objs.size+1)))) s') E ⟨zZg h C rest,g,d,t,os⟩) (hrest:rest.length<=yF:=by size_fits) :
 yo (yv prog w) A (xi.«type.__call__» ⟨.ref C::rest,[]⟩) Q E ⟨h,g,d,t,os⟩:=by
 repeat (first|with_reducible refine YN hC ?_|with_reducible refine wpAny_madeBy_exc hC ?_|wp_step)
 refine codeAny_call_builtin_code (Code.quiet_builtin _ F.quiet) (wpAny_check_new_subT F T hC ?_);refine codeAny_exc_new_subT F T hC ?_ hrest;show yo _ _ _ _ _ _;have k:∀b o,h.get? b=some o->(zZg h C rest).get? b=some o:=λb o e=>yb _ (yb _ e);have hC₁:=k _ _ hC;have hget:(zZg h C rest).get? (h.objs.size+1)=some {cls:=.ref C,data:=.fields #[.ref h.objs.size,.none,.none,.none,.bool false,.none]}:=by heap_get
 have hcC:(yH C::bm).contains (.ref C)=true:=by simp
 have T₁:=T.keeps k;unfold isInstance
 repeat (first|with_reducible refine YN hget ?_|(with_reducible refine xr hC₁ ?_;rw[hcC])|wp_step)
 show yo _ _ (Xq (.ref C) _) _ _ _;refine L _ _ _ _ k ?_;refine yQ (ya (LB _ _ _ _ _ k ?_));refine ya (yU hq (λv s' hv=>?_) λ_ _ x=>x);obtain⟨rfl,hv⟩:=hv
 repeat wp_step
 exact hv
def z0m(F:ExcBaseFacts B newId initId bmB)(T:OwnTail h bmB bm){rest:Qh}{Q:Value->yc->Prop}
 (hC:h.get? C=some (xm nm q C N bs bm hdct sn sub ab col dd k0 k1 k2 k3 k5 newId)) (L:W.Looks (yv prog w) h (Xq (.ref C) "__init__") (some (.ref fI))) (LB:∀self,W.Looks (yv prog w) h (bindSpecial (.ref fI) self) (.ref fI,[self]))
 (hq:yo (yv prog w) (A.under (.builtin "type.__call__" ⟨.ref C::rest,[]⟩)) (call (.ref fI) (.ref (h.objs.size+1)::rest)) (λv s'=>v=.none/\Q (.ref (h.objs.size+1)) s') E ⟨zZg h C rest,g,d,t,os⟩) (hrest:rest.length<=yF:=by size_fits) :
 yo (yv prog w) A (call (.ref C) rest) Q E ⟨h,g,d,t,os⟩:=by
 have f1:=tc_lookup;have f2:=tc_bind (.ref C);have hT:(⟨h,g,d,t,os⟩:yc).TypeIs (.ref C) "type":=⟨_,hC,rfl⟩
 refine Xp (codeAny_of_tree ?_);show yo _ _ (callAny (.ref C) _) _ _ _
 repeat (any_goals (first|assumption|with_reducible refine YN hC ?_|wp_step))
 refine⟨rfl,?_⟩;refine codeAny_call_builtin_at (Code.quiet_builtin _ (by decide +kernel)) entry_typeCall (wpAny_check_type_call_sub hC (zDh (hrest:=hrest) F T hC L LB ?_));exact hq
def zzf{M:Model}{s:yc}{env:Env}{x:Sem Value}{Q:Flow->yc->Prop}(kE:bm.contains (.type "BaseException")=true)(hh:A.handled=none)
 (h:yo M A x (λv s₁=>∃e de te,v=.ref e/\s₁.heap.get? C=some (xm nm q C N bs bm hdct sn sub ab col dd k0 k1 k2 k3 k5 newId)/\s₁.heap.get? e=some {cls:=.ref C,dict:=de,data:=.fields #[.ref te,.none,.none,.none,.bool false,.none]}/\E (.ref e) s₁) E s) :
 yo M A (raiseStmt env (some x) none) Q E s:=by
 have hcB:(yH C::bm).contains (.type "BaseException")=true:=by rw[List.contains_cons,kE,Bool.or_true]
 unfold raiseStmt;refine ya (yU h (λv s₁ h₁=>?_) λ_ _ x=>x);obtain⟨e,de,te,rfl,hC,he,hE⟩:=h₁;obtain⟨hp,g,d,tk,os⟩:=s₁
 repeat (first|with_reducible refine YN he ?_|with_reducible refine YN hC ?_|(with_reducible refine xr hC ?_;rw[hcB])|wp_step)
 exact wpAny_raiseNew_none hh hE
variable {s:yc}{env:Env}
variable {nm q:yt}{C N fI:yf}{bs bm bmB:Qh}{hdct:Bool}{sn:Qx}{sub:Qh}{ab:Bool}{col:Qq}{dd:Qw}{k0 k1 k2 k3 k5:Qi}{B newId initId:String}
def zVk(F:ExcBaseFacts B newId initId bmB){x:yt}{np cpos pos:xn}{args:Qz}{Q:Flow->yc->Prop}
 (kE:bm.contains (.type "BaseException")=true) (hh:A.handled=none) (kD:(Yl cpos (yj args env)).any (·.1)=false)
 (h:yo (yv prog w) A (Yd (.Name x np) env) (λf s₁=>f=.ref C/\yo (yv prog w) A (evalArgs (.ref C) true (Yl cpos (yj args env)) [])
  (λa s₂=>a.kw=[]/\a.pos.length<=yF/\s₂.heap.get? C=some (xm nm q C N bs bm hdct sn sub ab col dd k0 k1 k2 k3 k5 newId)/\W.Looks (yv prog w) s₂.heap (Xq (.ref C) "__init__") (some (.ref fI))/\OwnTail s₂.heap bmB bm/\(∀self,W.Looks (yv prog w) s₂.heap (bindSpecial (.ref fI) self) (.ref fI,[self])) /\
   yo (yv prog w) (A.under (.builtin "type.__call__" ⟨.ref C::a.pos,[]⟩)) (call (.ref fI) (.ref (s₂.heap.objs.size+1)::a.pos)) (λv s₃=>v=.none/\s₃.heap.get? C=some (xm nm q C N bs bm hdct sn sub ab col dd k0 k1 k2 k3 k5 newId) /\
    (∃de te,s₃.heap.get? (s₂.heap.objs.size+1)=some {cls:=.ref C,dict:=de,data:=.fields #[.ref te,.none,.none,.none,.bool false,.none]})/\E (.ref (s₂.heap.objs.size+1)) s₃) E {s₂ with heap:=zZg s₂.heap C a.pos }) E s₁) E s) :
 yo (yv prog w) A (exec (.Raise (some (.Call (.Name x np) args [] cpos)) none pos) env) Q E s:=by
 rw[arm_exec_Raise]
 first
  |refine ya (YW (zzf (C:=C) (nm:=nm) (q:=q) (N:=N) (bs:=bs) (bm:=bm) (hdct:=hdct) (sn:=sn) (sub:=sub) (ab:=ab) (col:=col) (dd:=dd) (k0:=k0) (k1:=k1) (k2:=k2) (k3:=k3) (k5:=k5) (newId:=newId) kE hh (ya (yU (wpAny_Call_ofName (yU h (λf s₁ h₁=>?_) λ_ _ x=>x)) (λv s₃ h₃=>ya (YW (ye h₃))) λ_ _ x=>x))))
  |(simp only[evalOpt,Option.map];refine ya (YW (zzf (C:=C) (nm:=nm) (q:=q) (N:=N) (bs:=bs) (bm:=bm) (hdct:=hdct) (sn:=sn) (sub:=sub) (ab:=ab) (col:=col) (dd:=dd) (k0:=k0) (k1:=k1) (k2:=k2) (k3:=k3) (k5:=k5) (newId:=newId) kE hh (ya (yU (wpAny_Call_ofName (yU h (λf s₁ h₁=>?_) λ_ _ x=>x)) (λv s₃ h₃=>ya (YW (ye h₃))) λ_ _ x=>x)))))
  |(refine ya (YW (zzf (C:=C) (nm:=nm) (q:=q) (N:=N) (bs:=bs) (bm:=bm) (hdct:=hdct) (sn:=sn) (sub:=sub) (ab:=ab) (col:=col) (dd:=dd) (k0:=k0) (k1:=k1) (k2:=k2) (k3:=k3) (k5:=k5) (newId:=newId) kE hh ?_));refine ya (yU (wpAny_Call_ofName (yU h (λf s₁ h₁=>?_) λ_ _ x=>x)) (λv s₃ h₃=>ya (YW (ye h₃))) λ_ _ x=>x))
 obtain⟨rfl,h₁⟩:=h₁;unfold callWith;refine ya (yQ (yU h₁ (λa s₂ h₂=>ya (YW ?_)) λ_ _ x=>x));obtain⟨kA,akw⟩:=a;obtain⟨hkw,hW,hC,L,T,LB,h₂⟩:=h₂;obtain rfl:akw=[]:=hkw;obtain⟨hp,g,d,tk,os⟩:=s₂;simp only[kD];refine ya (wpAny_keeperOf_exc hC ?_);refine ya (z0m (hrest:=hW) F T hC L LB ?_);refine yU h₂ (λv s₃ h₃=>?_) λ_ _ x=>x;obtain⟨rfl,hC3,⟨de,te,he⟩,hE⟩:=h₃;exact⟨rfl,ya (yQ (wpAny_point (ye ⟨_,de,te,rfl,hC3,he,hE⟩)))⟩
end
end PySem
namespace PySem
open Sem (wp)
section
variable {prog:yy}{w:yI}{A:yJ}{E:Value->yc->Prop}{h:yT}{g:Array GenState}{d:Drawn}{t:Nat}{os:OsState}
variable {nm q:yt}{C N:yf}{bs bm bmB:Qh}{hdct:Bool}{sn:Qx}{sub:Qh}{ab:Bool}{col:Qq}{dd:Qw}{k0 k1 k2 k3 k5:Qi}{B newId initId:String}
def zOr(F:ExcBaseFacts B newId initId bmB)(T:OwnTail h bmB bm){e te:yf}{de:Qw}{rest:Qh}{Q:Value->yc->Prop}
 (hC:h.get? C=some (xm nm q C N bs bm hdct sn sub ab col dd k0 k1 k2 k3 k5 newId)) (he:h.get? e=some {cls:=.ref C,dict:=de,data:=.fields #[.ref te,.none,.none,.none,.bool false,.none]})
 (hq:∀h',(∀b o,b≠e->h.get? b=some o->h'.get? b=some o)->h'.get? e=some {cls:=.ref C,dict:=de,data:=.fields #[.ref h.objs.size,.none,.none,.none,.bool false,.none]}->h.objs.size<=h'.objs.size->Q .none ⟨h',g,d,t,os⟩) (hrest:rest.length<=yF:=by size_fits) :
 yo (yv prog w) A (call (.builtin initId) (.ref e::rest)) Q E ⟨h,g,d,t,os⟩:=by
 refine Xp (xl F.init.plain F.initEntry (wpAny_check_init_subT F T hC he rfl ?_))
 wp_walk
 refine hq _ (λb o hb eb=>?_) ?_ ?_
 ·rw[Yh _ _ (yR hb)];exact yb _ eb
 ·rw[yO _ (yb _ he) rfl];rfl
 ·simp
end
end PySem
namespace PySem.W
open PySem PySem.Spec PySem.Calls PyProof.Rows
open Builtin Builtin.ObjectAttr
abbrev bmV:Qh:=[.type "ValueError",.type "Exception",.type "BaseException",.type "object"]
def Ts:Qh->Qh
 |.ref _::r=>Ts r
 |l=>l
def z6s{v:Value}{r:Qh}(q:¬∃c,v=.ref c):Ts (v::r)=v::r:=by
 unfold Ts
 split
 ·rename_i z;cases z;exact absurd ⟨_,rfl⟩ q
 ·rfl
def zEl(self:Value):∀{l:Qh},Ts l=bmV->refuseLoop self "__setattr__" l=pure ()
 |[],h=>by cases h
 |v::r,h=>by
  by_cases q:∃c,v=.ref c
  ·obtain⟨c,rfl⟩:=q;rw[refuseLoop_ref];exact zEl self (l:=r) h
  ·rw[z6s q]at h;rw[h];exact PySem.F.store_ValueError.passes self
def zgq:∀{l:Qh},Ts l=bmV->l.contains (.type "object")=true/\l.isEmpty=false
 |[],h=>by cases h
 |v::r,h=>by
  refine⟨?_,rfl⟩
  by_cases q:∃c,v=.ref c
  ·obtain⟨c,rfl⟩:=q;rw[List.contains_cons,(zgq (l:=r) h).1,Bool.or_true]
  ·rw[z6s q]at h;rw[h];decide
section
variable {prog:yy}{w:yI}{A:yJ}{E:Value->yc->Prop}{s:yc}{K:Frag}{x C:yf}{ox:YS}{name:yt}{v:Value}{cd:ClassData}
def z7v{R:Result->yc->Prop}{od:Option YS}{tk:Tok}(X:K.In s.heap)(I:InstAt s.heap x ox C od)(hc:clsIn K C=some cd)(ho:Ts cd.mro=bmV)(ha:findIn K (.ref C) name=some none)
 (h:yo (yv prog w) A.in1 (storeInOwnDict (.ref x) (.ref C) (.str name tk) name v false)
  (λfin s'=>match fin with | .done f=>R (.ok f) s' | .again c'=>c'.quiet=true/\xM (yv prog w) A c' R s') (λe s'=>R (.error e) s') s) :
 xM (yv prog w) A (.call (.builtin "object.__setattr__") ⟨[.ref x,.str name tk,v],[]⟩) R s:=by
 have SF:=PySem.F.store_object;obtain⟨h1,h2⟩:=zgq ho;have sub:Looks (yv prog w) s.heap (isInstance (.ref x) (.type "object")) true:=I.type.andThen (looks_mroIn X (by unfold mroIn;rw[hc,ym,if_neg (by rw[h2];decide),h1]));refine xl SF.slot.plain SF.entry (@check_slot (yv prog w) _ _ s "object.__setattr__" "object" "__setattr__" (.ref x) [.str name tk,v] [] _ SF.kind SF.split sub (SF.args (.ref x) (.str name tk) v) ?_);have hm:Looks (yv prog w) s.heap (mroOf (.ref C)) cd.mro:=(looks_clsIn X hc).andThen .now;rw[osa_eq,refuse_eq];refine ya (ya (I.type.here (ya (hm.here ?_))));rw[zEl _ ho];refine ye (ya (I.type.here (ya ((looks_findIn X ha).here (ya (ye (a:=none) ?_))))));exact h
def set_exc{Q:Unit->yc->Prop}{vs:Qm}(X:K.In s.heap)(I:InstAt s.heap x ox C none)(hdt:ox.data=.fields vs)
 (hs:findIn K (.ref C) "__setattr__"=some (some (.builtin "object.__setattr__"))) (hc:clsIn K C=some cd) (ho:Ts cd.mro=bmV) (hd:cd.hasDict=true) (ha:findIn K (.ref C) name=some none)
 (h:∀(h':yT)(p:yf)(tk:Nat),h'.get? x=some {ox with dict:=some p }->h'.Ns1 p (λy=>if y=name then some v else none)->s.heap.objs.size<=p->(∀b o,b≠x->s.heap.get? b=some o->h'.get? b=some o)->Q () {s with heap:=h',toks:=tk }) :
 yo (yv prog w) A (setAttr (.ref x) name v) Q E s:=by
 obtain⟨hx,kT,hno,hdd⟩:=id I;obtain⟨oc,odi,oda,osl⟩:=ox;dsimp only at kT hdt;subst kT hdt
 cases odi with
 |some dx=>exact hdd.elim
 |none=>
  refine set_plain X I hs (z7v (s:={s with toks:=s.toks+1 }) X I hc ho ha ?_);refine ya (ye (ya (ya (wpAny_loadPart hx (ya (Looks.here (s:={s with toks:=s.toks+1 }) (looks_clsIn X hc) ?_))))));rw[hd];have hx₁:(s.heap.push {cls:=.type "dict",data:=.dict #[]}).get? x=some ⟨.ref C,none,.fields vs,osl⟩:=yb _ hx;have hxs:x≠s.heap.objs.size:=yu (yn hx);refine ya (wpAny_alloc' ?_);refine ya (wpAny_update' hx₁ ?_);refine ye (a:=some s.heap.objs.size) ?_
  have hgd:((s.heap.push {cls:=.type "dict",data:=.dict #[]}).update x λo=>{cls:=o.cls,dict:=some s.heap.objs.size,data:=o.data,slots:=o.slots }).get? s.heap.objs.size
   = some {cls:=.type "dict",data:=.dict #[]} :=
   (Heap.get?_update_ne _ _ _ _ hxs.symm).trans (Heap.get?_push_at rfl rfl)
  have hnd:((s.heap.push {cls:=.type "dict",data:=.dict #[]}).update x λo=>{cls:=o.cls,dict:=some s.heap.objs.size,data:=o.data,slots:=o.slots }).Ns s.heap.objs.size (λ_=>none) :=
   ⟨_,#[],_,hgd,rfl,λe he=>absurd he (by simp),λ_=>rfl⟩
  show yo _ _ (storeInDict s.heap.objs.size (.str name _) name v) _ _ _;unfold storeInDict newKeyGuard;refine ya (ye (ya (wpAny_nsSet1 (Heap.Ns1.of_empty hnd) λh' hn' hs'=>?_)));obtain⟨oD,esD,epD,hoD,hdD,hcD⟩:=hn'.count (Within.cons name v Within.nil);refine ya (wpAny_lookBehind hoD (by rw[hdD];exact pastItsLine_dict (yG hcD (by rw[Ls,List.length_nil,Yo];omega))) ?_);refine ye ?_;refine h h' s.heap.objs.size _ ?_ hn' (yh _) (λb o hb q=>?_)
  ·exact(hs'.2 x hxs).trans (yO _ hx₁ rfl)
  ·exact(hs'.2 b (yu (yn q))).trans ((Heap.get?_update_ne _ _ _ _ hb).trans (yb _ q))
variable {D:yf}{odo:Option YS}
def z9q{tk:Tok}{Q:Fin->yc->Prop}(X:K.In s.heap)(I:InstAt s.heap x ox D odo)(e:findObj K D odo name=some (.value v))(hq:Q (.done (.ret v)) s):yo (yv prog w) A (xi.«object.__getattribute__» ⟨[.ref x,.str name tk],[]⟩) Q E s:=by
 have L0:=I.type (M:=yv prog w);have L1:=looks_find (M:=yv prog w) X I e;obtain⟨hh,g,d,t,os⟩:=s
 repeat (any_goals (first|assumption|with_reducible refine L0.at ?_|with_reducible refine L1.at ?_|wp_step))
def SA{expr:Bool}{Q:Value->yc->Prop}(X:K.In s.heap)(I:InstAt s.heap x ox D odo)(c:AskC K D)(e:findObj K D odo name=some (.value v))(hv:handedIn v=true)(h:Q v {s with toks:=s.toks+1 }):yo (yv prog w) A (getAttr (.ref x) name expr) Q E s:=by
 have L0:=I.type (M:=yv prog w);have L1:=looks_findIn (M:=yv prog w) X c.ga;have L2:=looks_findIn (M:=yv prog w) X c.gk;have f3:=F.excAttr_ValueError.ga.bind (.ref x);have hx2:(xv "BaseException.__getattribute__" == xv "object.__getattribute__")=false:=by decide +kernel
 have hx1:(onTheHeap (yH D)&&xv "BaseException.__getattribute__" == xv "object.__getattribute__")=false:=by rw[hx2];rfl
 obtain⟨hh,g,d,t,os⟩:=s;unfold getAttr getAttrBy
 repeat (any_goals (first|assumption|with_reducible refine L0.at ?_|with_reducible refine L1.at ?_|with_reducible refine L2.at ?_|wp_step))
 rw[show(expr&&onTheHeap (xv "BaseException.__getattribute__"))=false from Bool.and_false _,if_neg (by decide)];unfold boundAndCalled
 repeat (any_goals (first|assumption|with_reducible refine L0.at ?_|with_reducible refine L1.at ?_|with_reducible refine L2.at ?_|wp_step))
 refine xl F.excAttr_ValueError.ga.plain F.entry_bexc_ga (zQs (s:=⟨hh,g,d,t+1,os⟩) X I c (z9q (s:=⟨hh,g,d,t+1,os⟩) X I e ?_))
 repeat (any_goals (first|assumption|wp_step))
 show yo _ _ (handedOut v) _ _ _;rw[handedOut_of hv];exact ye h
end
end PySem.W
namespace L2
open PySem PySem.Spec PyProof.Rows
def zmy{H:Hp}{a:yf}{o:HO}(h:H a=some o):upd H a o=H:=by
 funext b
 unfold upd
 split
 ·rename_i e
  rw[e,h]
 ·rfl
def era(H:Hp)(e:yf):Hp:=λb=>if b=e then none else H b
def zgi{H:Hp}{e b:yf}(h:b≠e):era H e b=H b:=by unfold era;rw[if_neg h]
def znj{H:Hp}{e:yf}:era H e e=none:=by unfold era;rw[if_pos rfl]
section
variable {P:yy}{w:yI}{fs ex:Qv}{H H':Hp}{h h':yT}{e:yf}{G:yT->Prop}
def Un.era(u:Un fs ex H H' h h')(he:H e=none):Un fs ex H (era H' e) h h' where
 keep:=u.keep
 slot:=u.slot
 free:=λb o q n hx=>by
  by_cases z:b=e
  ·rw[z];exact znj
  ·rw[zgi z];exact u.free b o q n hx
 there:=u.there
 tups:=λb xs q=>by rw[zgi (zH q he)];exact u.tups b xs q
 Tx:=λb o v q=>by rw[zgi (zH q he)];exact u.Tx b o v q
 TJ:=λb ps q=>by rw[zgi (zH q he)];exact u.TJ b ps q
def HOk.era(k:HOk P w H h)(he:H e=some (.ext G)):HOk P w (era H e) h:=λb o q=>by
 by_cases z:b=e
 ·rw[z,znj]at q;cases q
 ·rw[zgi z]at q;refine(k b o q).stay (λ_ _ _ r=>r) (λc r=>?_) λc xs r=>?_
  ·rw[zgi λy=>by rw[y,he]at r;cases r];exact r
  ·rw[zgi λy=>by rw[y,he]at r;cases r];exact r
end
end L2
namespace M
open PySem PySem.Spec PyProof.Rows L2
def zio(a C:yf)(dx:Qw):yT->Prop:=λh=>∃te,h.get? a=some {cls:=.ref C,dict:=dx,data:=.fields #[.ref te,.none,.none,.none,.bool false,.none]}
def zJo{P:yy}{w:yI}{H:Hp}{h:yT}{a C:yf}{dx:Qw}(x:zio a C dx h):tF P w H h a (.ext (zio a C dx)):=by
 obtain⟨te,e⟩:=x;exact⟨⟨te,e⟩,⟨_,e⟩,λh1 h2 ⟨t,q⟩ k=>⟨t,k _ q⟩⟩
structure Sr(K:yw)(C NE fI:yf)(f:yt):Prop where
 ob:∃nm q N bs sn sub ab col dd k0 k1 k2 k3 k5,K.lookup C=some (xm nm q C N bs (.ref NE::W.bmV) true sn sub ab col dd k0 k1 k2 k3 k5 "ValueError.__new__")
 ini:Yk K (.ref C) "__init__"=some (some (.ref fI))
 fn:W.typeIn K (.ref fI)=some (.type "function")
 ne:W.excIn K NE W.bmV "ValueError.__new__"=true
 sa:Yk K (.ref C) "__setattr__"=some (some (.builtin "object.__setattr__"))
 at_:Yk K (.ref C) f=some none
 gt:W.specialIn K (.ref NE) "__getattribute__"=some (some (.builtin "type.__getattribute__"))
 rd:W.readsIn K NE (.type "type")=true
 fc:W.findCls K (.ref NE) (.type "type") "__init__"=some (.val (.builtin "ValueError.__init__"))
def Sr.tail{K:yw}{C NE fI:yf}{f:yt}(ρ:Sr K C NE fI f){h:yT}(X:K.In h):OwnTail h W.bmV (.ref NE::W.bmV):=by
 obtain⟨bm,N,nm,qn,bs,hdct,sn,sub,ab,col,dd,k0,k1,k2,k3,k5,mN,hC,hN,hni,T⟩:=zRn X ρ.ne;exact .own hC hN hni .base
section
variable {X:Cx}{v o value:yE}{e:yE}{es:Qz}{tv ta:TE}{t:TA}{C NE fI:yf}{f:yt}{np kA pos pos' p1 p2 p3 p4:xn}{x1 x2:yt}{j1 j2:Nat}
def z6w(ρ:Sr X.K C NE fI f)(hm:X.mg "NestError"=some (.ref NE))(ha:PA X (e::es) t){pl:Sem Bool}(hg:Gl X "NestError":=by rfl)
 (kR:yj (e::es) X.env=(false,Yd e X.env)::yj es X.env:=by rfl) (kK:(Yl pos (yj es X.env)).any (·.1)=false:=by rfl)
 (ht:Yd (.Call (.Attribute (.Name "NestError" np) "__init__" kA) (e::es) [] pos) X.env=(do
  let ov <-Yd (.Name "NestError" np) X.env
  standAt kA.atName
  let (f,first) <-xt [ov] (getMethod ov "__init__" pl)
  callWith pos f first (Yl pos (yj (e::es) X.env)) (xP pos (YT [] X.env))):=by rfl) :
 PE X (.Call (.Attribute (.Name "NestError" np) "__init__" kA) (e::es) [] pos) (λY H Q=>t Y H λvs H1=>∃a x,vs=[.ref a,x]/\H1 a=some (.ext (zio a C none))/\Q .non H1):=by
 intro U s Y H Q I h;refine W.methodCall_KW (pl:=pl) (zkg I hg hm ?_ (by decide)) ht;refine W.method_cls I.kIn ρ.gt (W.cls_value I.kIn ρ.rd ρ.fc (by decide +kernel) ?_);refine PyProof.Rows.callWith_builtin1 (thn (ha pos U _ Y H _ (I.tok _) h) λus s1 ⟨vs,H1,I1,r1,a,x,ev,ea,q⟩=>?_) kR kK;subst ev;obtain⟨u1,u2,rfl,ra,rx⟩:=vals2 r1;obtain rfl:u1=yH a:=ra;obtain⟨⟨te,ho⟩,_,_⟩:=(show tF X.prog X.w H1 s1.heap a (.ext (zio a C none)) from I1.hok a _ ea)
 obtain⟨nm,qn,N,bs,sn,sub,ab,col,dd,k0,k1,k2,k3,k5,lk⟩:=ρ.ob;have T:=ρ.tail I1.kIn;have hC:=I1.kIn _ _ lk;obtain⟨hp,g,d,tk,os⟩:=s1;refine zOr Xv T hC ho (λh' keep he hsz=>?_) (show 1<=yF by rw[Yo];decide);refine⟨.non,H1,?_,rfl,q⟩;have δ:=I1.write (x:=a) (e:=a) (o:=.ext (zio a C none)) (h':=h') (t':=tk) (by rw[ea];trivial) (.inl rfl) keep ⟨_,he⟩ (zJo ⟨_,he⟩)
 rwa [zmy ea]at δ
def zTs(ρ:Sr X.K C NE fI f)(ho:PE X o ta)(hv:PE X value tv)(hs:xD value (some (.Attribute o f pos')) pos.line X.env=pure false:=by rfl) :
 PS X (.Assign [.Attribute o f pos'] value pos) (λD Y H=>tv Y H λy H1=>ta Y H1 λx H2=>∃a,x=.ref a/\H2 a=some (.ext (zio a C none))/\∀p,H2 p=none->p≠a->D.nx Y (upd (upd H2 p (.xd [(f,y)])) a (.ext (zio a C (some p))))):=by
 intro U s Y H D I h;refine plainObj_wpAny_Assign_Attribute (thn (hv U s Y H _ I h) λu s1 ⟨y,H1,I1,ry,q⟩=>thn (ho U s1 Y H1 _ I1 q) λov s2 ⟨x,H2,I2,rx,a,ex,ea,q2⟩=>?_) hs;subst ex;obtain rfl:ov=yH a:=rx;obtain⟨⟨te,hob⟩,_,_⟩:=(show tF X.prog X.w H2 s2.heap a (.ext (zio a C none)) from I2.hok a _ ea)
 obtain⟨nm,qn,N,bs,sn,sub,ab,col,dd,k0,k1,k2,k3,k5,lk⟩:=ρ.ob
 obtain⟨cd,hc,hmro,hhd⟩:∃cd,W.clsIn X.K C=some cd/\W.Ts cd.mro=W.bmV/\cd.hasDict=true:=by
  unfold W.clsIn;rw[lk];exact⟨_,rfl,rfl,rfl⟩
 refine W.set_exc I2.kIn ⟨hob,rfl,rfl,trivial⟩ rfl ρ.sa hc hmro hhd ρ.at_ λh' p tk he hn hp keep=>⟨Y,_,?_,q2 p (I2.hok.fresh hp) ?_⟩
 ·have hpn:H2 p=none:=I2.hok.fresh hp;have hpa:p≠a:=λz=>absurd (yz (yn hob) (z▸hp)) (yW _);have hpg:∀b ob,s2.heap.get? b=some ob->b≠p:=λb ob r z=>absurd (yz (yn r) (z▸hp)) (yW _);have hup:∀b,b≠a->b≠p->upd (upd H2 p (.xd [(f,y)])) a (.ext (zio a C (some p))) b=H2 b:=λb n1 n2=>by rw[zE n1,zE n2]
  have ne_a:∀b ob,H2 b=some ob->(∀G,ob≠.ext G)->b≠a:=λb ob r n z=>by rw[z,ea]at r;cases r;exact n _ rfl
  have ne_p:∀b ob,H2 b=some ob->b≠p:=λb ob r=>zH r hpn;refine I2.un (t':=tk) ⟨?_,?_,?_,?_,?_,?_,?_⟩ ?_
  ·exact λb ob r n _ _=>keep b ob (λz=>by rw[z,ea]at n;cases n) r
  ·exact λb ob r n _ _=>⟨ob.slots,keep b ob (λz=>by rw[z,ea]at n;cases n) r⟩
  ·exact λb ob r n _=>by rw[hup b (λz=>by rw[z,ea]at n;cases n) (hpg b ob r)];exact n
  ·exact λb ob r _=>by
    by_cases z:b=a
    ·exact⟨_,by rw[z];exact he⟩
    ·exact⟨_,keep b ob z r⟩
  ·exact λb xs r=>by rw[hup b (ne_a b _ r λ_ z=>by cases z) (ne_p b _ r)];exact r
  ·exact λb ob w r=>by rw[hup b (ne_a b _ r λ_ z=>by cases z) (ne_p b _ r)];exact r
  ·exact λb ps r=>⟨#[],by rw[hup b (ne_a b _ r λ_ z=>by cases z) (ne_p b _ r),Array.append_empty];exact r⟩
  ·intro b ob r
   by_cases z:b=a
   ·subst z;rw[zy]at r;cases r;exact zJo ⟨te,he⟩
   ·by_cases z2:b=p
    ·subst z2;rw[zE z,zy]at r;cases r;refine⟨_,hn,λg=>?_⟩
     by_cases zg:g=f
     ·have hb:(g==f)=true:=beq_iff_eq.mpr zg;simp only[YM,hb,if_pos zg];exact ry
     ·have hb:(g==f)=false:=beq_eq_false_iff_ne.mpr zg;simp only[YM,hb,if_neg zg];trivial
    ·rw[hup b z z2]at r;refine(I2.hok b ob r).stay (λc w hc r'=>keep c w (λz3=>?_) r') (λc r'=>?_) λc xs r'=>?_
     ·subst z3;rcases hc with hc|hc
      ·exact z hc.symm
      ·rw[ea]at hc;cases hc
     ·rw[hup c (ne_a c _ r' λ_ z=>by cases z) (ne_p c _ r')];exact r'
     ·rw[hup c (ne_a c _ r' λ_ z=>by cases z) (ne_p c _ r')];exact r'
 ·exact λz=>absurd (yz (yn hob) (z▸hp)) (yW _)
variable {x:yt}{cpos:xn}{k:Nat}{fd:yV}{ps:Qx}{G:FA}
def flyI{U:Qb}{Y:L2.St}{H H2:Hp}{s s':yc}{a p te:yf}(I:Inv X U Y H s)(I3:Inv X U Y H2 s')(hos:s'.os=s.os)(un:Un (frs X.stack) [] H H2 s.heap s'.heap)(ha:s.heap.objs.size<=a)(h2:∃G,H2 a=some (.ext G))
 (he:s'.heap.get? a=some {cls:=.ref C,dict:=some p,data:=.fields #[.ref te,.none,.none,.none,.bool false,.none]}):sM X.prog X.w X.stack H s (.ref C) (some p) (era H2 a) (.ref a) s':=by
 have hn:H a=none:=I.hok.fresh ha;obtain⟨G,h2⟩:=h2;have hin:∀env∈X.stack,∀b,env.frame=some b->b∈a::frs X.stack:=λenv he b hb=>No _ (List.mem_filterMap.mpr ⟨env,he,hb⟩);refine⟨hos,I3.bare,un.era hn,I3.hok.era h2,a,W.hideAll s'.heap (a::frs X.stack),rfl,⟨λb o q=>W.of_hideAll _ q,W.hideAll_none _ Np,W.funFrames_hide I3.stack hin,⟨_,_,_,he,rfl,rfl,rfl,rfl,.inl rfl⟩⟩,?_⟩;refine⟨λb o q=>?_,λb o q hb=>?_⟩
 ·by_cases z:b=a
  ·rw[z,znj]at q;cases q
  ·rw[zgi z]at q;obtain⟨u,hu⟩:=(I3.hok b o q).there;refine⟨u,W.hideAll_get _ hu λhm=>?_⟩;rcases List.mem_cons.mp hm with hm|hm
   ·exact z hm
   ·rw[I3.TK b hm]at q;cases q
 ·obtain⟨u,hu⟩:=un.there b o q (by simp);refine⟨u,W.hideAll_get _ hu λhm=>?_⟩;rcases List.mem_cons.mp hm with hm|hm
  ·exact absurd (yz (yn q) (hm▸ha)) (yW _)
  ·exact hb hm
end
structure AtC(K:yw)(c f:yt):Prop where
 ok:∀C,Ym K yp c=some (some (.ref C))->W.AskC K C/\Yk K (.ref C) f=some none/\W.hasDictIn K C=true
@[simp] def fAt(c f:yt)(G:FE):FE:=λJ O=>(G J O).bind λp=>match p.1 with
 |.loc n=>match p.2[n]? with
  |some (.exc c' fs)=>if c'=c then(fs.lookup f).bind λd=>some (d,p.2) else none
  |_=>none
 |_=>none
def z0l{K:yw}{Z:Qv}{H:Hp}{f:yt}{d:D}:∀{fs:Wq} {vs:Wk},vs.map (·.1)=fs.map (·.1)->tf K Z H (fs.map (·.2)) (vs.map (·.2))->fs.lookup f=some d->∃v,vs.lookup f=some v/\tu K Z H d v
 |[],_,_,_,h=>by cases h
 |(g,d0)::fs,[],e,_,_=>by cases e
 |(g,d0)::fs,(g',v0)::vs,e,r,h=>by
  simp only[Ng,xF]at e;obtain⟨rfl,e⟩:=e;obtain⟨v,rr,e2,q1,q2⟩:=r.cons_inv;simp only[Ng,xF]at e2;obtain⟨rfl,rfl⟩:=e2;unfold YM at h ⊢
  split at h
  ·cases h;exact⟨_,rfl,q1⟩
  ·exact z0l e q2 h
def zEw{c f:yt}{G:FE}{J:Loc}{O O':Mem}{d:D}(h:fAt c f G J O=some (d,O')):∃n fs,G J O=some (.loc n,O')/\O'[n]?=some (.exc c fs)/\fs.lookup f=some d:=by
 obtain⟨⟨d1,O1⟩,e1,h2⟩:=zj h;clear h
 cases d1 with
 |loc n=>
  replace h2:(match O1[n]? with
   |some (.exc c' fs)=>if c'=c then(fs.lookup f).bind λd=>some (d,O1) else none
   |_=>none)=some (d,O'):=h2
  cases hm:O1[n]? with
  |none=>rw[hm]at h2;cases h2
  |some o=>
   rw[hm]at h2
   cases o with
   |exc c' fs=>
    by_cases hc:c'=c
    ·subst hc;simp only[if_true]at h2;obtain⟨d2,e2,h3⟩:=zj h2;cases h3;exact⟨n,fs,e1,hm,e2⟩
    ·simp only[if_neg hc]at h2;cases h2
   |lst _=>cases h2
   |dct _=>cases h2
   |dcf _=>cases h2
   |ins _ _=>cases h2
 |_=>cases h2
def zRz{X:Cx}{o:yE}{pos:xn}{c f:yt}{G:FE}(ρ:AtC X.K c f)(ho:ME X o G)(hb:YB o f X.env (Yd o X.env)=Yd o X.env:=by rfl):ME X (.Attribute o f pos) (fAt c f G):=by
 intro U s Y H Q I ⟨Z,J,O,d,O1,A,eo,kk⟩;obtain⟨n,fs,e1,hm,e2⟩:=zEw eo
 refine z0s hb (thn (ho U s Y H (λv H1=>∃a Z1,v=.ref a/\Z1[n]?=some a/\Ext Z H Z1 H1/\tG X.K Z1 H1 O1) I ⟨Z,J,O,.loc n,O1,A,e1,λZ1 H1 v x1 R1 r1=>by
  obtain⟨a,rfl,e3⟩:=r1.tw;exact⟨a,Z1,rfl,e3,x1,R1⟩⟩) λu s1 ⟨v,H1,I1,r1,a,Z1,ev,e3,x1,R1⟩=>?_)
 subst ev;obtain rfl:u=yH a:=r1;obtain⟨C,dx,hn,hH,hX⟩:=R1.at_ _ _ _ e3 hm;obtain⟨⟨ob,vs,h1,h2,h3,h4⟩,_,_⟩:=(show tF X.prog X.w H1 s1.heap a (.ext (zWq a C dx)) from I1.hok a _ hH)
 obtain⟨Zc,Zf,Zd⟩:=ρ.ok C hn;rcases hX with ⟨hfs,_⟩|⟨p,ws,rfl,hp,hk,hr⟩
 ·rw[hfs]at e2;cases e2
 ·obtain⟨w1,l1,rw1⟩:=z0l hk hr e2;obtain⟨mA,hns,hro⟩:=(show tF X.prog X.w H1 s1.heap p (.xd ws) from I1.hok p _ hp)
  obtain⟨u1,hu1,ru1⟩:=TQ.some_of (v:=w1) (o:=mA f) (by rw[<-l1];exact hro f);obtain⟨od,hod,hl⟩:=zWn hns;have δ:W.InstAt s1.heap a ob C (some od):=⟨h1,h2,by unfold W.notCls;rw[h4],by rw[h3];exact hod⟩
  exact W.SA I1.kIn δ Zc (W.findObj_own Zd Zf rfl (by rw[hl,hu1])) (z1n ru1) ⟨w1,H1,I1.tok _,ru1,kk Z1 H1 w1 x1 R1 rw1⟩
def zBw(s:Yb):Yb:=match s with
 |.ClassDef _ _ _ b _ _ _ _ _ _ _=>b.getD 0 (.Pass ⟨0,0,0,0⟩)
 |_ =>.Pass ⟨0,0,0,0⟩
structure Sj(K:yw)(mg:yt->Qi)(c f qual:yt)(st:Yb)(ps:Qx)(C NE fI:yf)(fd:yV):Prop where
 nm:Ym K yp c=some (some (.ref C))
 ne:mg "NestError"=some (.ref NE)
 ex:Sr K C NE fI f
 fn:Fun K "__init__" qual st fI fd
 bd:Binds K fd ps []
def z2g(ns:Qg):Prop:=ns.length<=100/\∀n∈ns,n.natAbs<1606938044258990275541962092341162602522202993782792835301376
def zDl:∀ns:Qg,(∀n∈ns,n.natAbs<1606938044258990275541962092341162602522202993782792835301376)->PyData.showableAll (ns.map xJ)=true/\PyData.hasDictAll (ns.map xJ)=false/\PyData.depthAll (ns.map xJ)=0/\PyData.leavesShortAll 230 (ns.map xJ)=true/\PyData.bulkAll (ns.map xJ)=ns.length
 |[],_=>⟨rfl,rfl,rfl,rfl,rfl⟩
 |n::ns,h=>by
  obtain⟨h1,h2,h3,h4,h5⟩:=zDl ns λm hm=>h m (No _ hm)
  have hl2:n.natAbs.log2<200:=by
   by_cases z:n.natAbs=0
   ·rw[z];decide
   ·exact(Nat.log2_lt z).mpr (yz (h n Np) (by decide))
  have hl:n.natAbs.log2<1920:=Xa hl2 (by decide);have ht:=int_text_length_le (k:=200) (by decide) hl2
  have hs:(PyData.shown (.int n)).length<=230:=by
   simp only[PyData.shown];rw[PySem.ofString_length];omega
  refine⟨?_,?_,?_,?_,?_⟩
  ·simp only[Ng,PyData.showableAll,PyData.showable,decide_eq_true hl,h1,Xh]
  ·simp only[Ng,PyData.hasDictAll,PyData.hasDict,h2,Bool.or_self]
  ·simp only[Ng,PyData.depthAll,PyData.depth,h3,Nat.max_self]
  ·simp only[Ng,PyData.leavesShortAll,PyData.leavesShort,decide_eq_true hs,h4,Xh]
  ·simp only[Ng,PyData.bulkAll,PyData.bulk,h5,Ls];omega
def zql{h:yT}:∀{ns:Qg} {hJ:Qh},Vals (ns.map V.int) hJ->ReadsAll h hJ (ns.map xJ) []
 |[],_,r=>by cases r;exact .nil
 |n::ns,_,r=>by
  cases r with
  |cons r1 r2=>
   obtain⟨t,rfl⟩:=(show ∃t,_=Value.int n t from r1)
   exact .cons (as:=[]) (bs:=[]) (.int n t) (zql r2)
section
variable {X:Cx}{v:yE}{tv:TE}{p1 p2 p4:xn}{x1:yt}{j1:Nat}
def zjv(hv:PE X v tv)(hg:X.A.guards=some [])(hu:X.A.units+64<cLine)(h1:x1.length<=1000:=by decide) :
 PE X (.JoinedStr [.Constant (.str x1) j1 p1,.FormattedValue v 114 none p2] p4) (λY H Q=>tv Y H λx H1=>∃a ns,x=.ref a/\H1 a=some (.lst (ns.map V.int))/\z2g ns/\∀y,Q (.str y) H1):=by
 intro U s Y H Q I h;have z0:(Str.empty:yt).length=0:=rfl;refine wpAny_JoinedStr ?_;show Joins _ _ _ [Yd (.Constant (.str x1) j1 p1) X.env,Yd (.FormattedValue v 114 none p2) X.env] _ _ _;refine Calls.Constant_str ⟨x1,_,rfl,by rw[strLen_append,z0,Yo];omega,?_⟩;refine wpAny_FormattedValue_repr (thn (hv U _ Y H _ (I.tok _) h) λu s1 ⟨x,H1,I1,r1,a,ns,ex,ea,hs,q⟩=>?_);subst ex;obtain rfl:u=yH a:=r1;obtain⟨_,hJ,n,rv,ho⟩:=(show tF X.prog X.w H1 s1.heap a (.lst (ns.map V.int)) from I1.hok a _ ea)
 obtain⟨s1',s2',s3',s4',s5'⟩:=zDl ns hs.2;have rd:Reads s1.heap (.ref a) (.list (ns.map xJ)) [a] :=.list (as:=[]) ho rfl rfl (by rw[List.toList_toArray];exact zql rv)
 have hz:(PyData.shown (.list (ns.map xJ))).length<=33000:=by
  have:=PyData.shown_le_bulk 230 (by decide) (.list (ns.map xJ)) (by simp only[PyData.leavesShort];exact s4');simp only[PyData.bulk,s5']at this;have:=hs.1;omega
 refine pyReprObj_of_reads rd (by simp only[PyData.showable];exact s1') (PyData.noDict_hsm (by simp only[PyData.hasDict];exact s2')) hg (by simp only[PyData.depth,s3'];omega) (λ_ _ e=>e) (λh' u tk keep=>?_) (by rw[Yo];omega);have I2:Inv X U Y H1 {s1 with heap:=h',toks:=tk }:=I1.kept keep
 have last:∀t s2,Inv X U Y H1 s2->∃y t',Value.str (PyData.shown (.list (ns.map xJ))) t=.str y t'/\((Str.empty++x1)++y).length<=yF /\
  Joins (yv X.prog X.w) X.A X.xe [] ((Str.empty++x1)++y) (λout s₁=>out.length<=yF/\EP X U Y Q (.str out s₁.toks) {s₁ with toks:=s₁.toks+1 }) s2:=λt s2 δ=>by
  have hl:((Str.empty++x1)++PyData.shown (.list (ns.map xJ))).length<=yF:=by rw[strLen_append,strLen_append,z0,Yo];omega
  exact⟨_,t,rfl,hl,hl,⟨.str _,H1,δ.tok _,⟨_,rfl⟩,q _⟩⟩
 exact wpAny_formatField_str (last _ _ I2) (last _ _ (I2.tok _)) (by rw[Yo];omega)
end
def spL(C:yf)(f:yt):Sp:=λvs H Q _=>∃e a ns,vs=[.ref e,.ref a]/\z2g ns/\H a=some (.lst (ns.map V.int))/\H e=some (.ext (zio e C none)) /\
 ∀l p,H l=none->l≠e->H p=none->p≠e->p≠l->Q .non (upd (upd (upd H l (.lst (ns.map V.int))) p (.xd [(f,.ref l)])) e (.ext (zio e C (some p))))
instance smallDec(ns:Qg):Decidable (z2g ns):=by unfold z2g;exact inferInstance
@[simp] def zRe(c f:yt)(G:FA):FS:=λJ O=>(G J O).bind λp=>match p.1 with
 |[.loc n]=>match p.2[n]? with
  |some (.lst ds)=>(zDi ds).bind λns=>bif decide (z2g ns) then some (.exc c [(f,.loc p.2.length)] (p.2++[.lst ds])) else none
  |_=>none
 |_=>none
def z6o{c f:yt}{G:FA}{J:Loc}{O:Mem}{o:Out}(h:zRe c f G J O=some o):∃n ns O1,G J O=some ([.loc n],O1)/\O1[n]?=some (.lst (ns.map D.int))/\z2g ns/\o=.exc c [(f,.loc O1.length)] (O1++[.lst (ns.map D.int)]):=by
 obtain⟨⟨ds,O1⟩,e1,h2⟩:=zj h;clear h;rcases ds with _|⟨d,ds⟩
 ·cases h2
 ·rcases ds with _|⟨d2,ds⟩
  ·cases d with
   |loc n=>
    replace h2:(match O1[n]? with
     |some (.lst ds)=>(zDi ds).bind λns=>bif decide (z2g ns) then some (.exc c [(f,.loc O1.length)] (O1++[.lst ds])) else none
     |_=>none)=some o:=h2
    cases hm:O1[n]? with
    |none=>rw[hm]at h2;cases h2
    |some ob=>
     rw[hm]at h2
     cases ob with
     |lst ds=>
      replace h2:((zDi ds).bind λns=>bif decide (z2g ns) then some (.exc c [(f,.loc O1.length)] (O1++[.lst ds])) else none)=some o:=h2;obtain⟨ns,e2,h3⟩:=zj h2;have e3:=z3e e2;subst e3
      by_cases hs:z2g ns
      ·rw[decide_eq_true hs]at h3;cases h3;exact⟨n,ns,O1,e1,hm,hs,rfl⟩
      ·rw[decide_eq_false hs]at h3;cases h3
     |dct _=>cases h2
     |dcf _=>cases h2
     |exc _ _=>cases h2
     |ins _ _=>cases h2
   |_=>cases h2
  ·cases d<;>cases h2
def zzn{K:yw}{Z:Qv}{H:Hp}:∀{ns:Qg} {vs:Wi},tf K Z H (ns.map D.int) vs->vs=ns.map V.int
 |[],_,r=>r.nil_inv
 |n::ns,_,r=>by
  obtain⟨v,rr,rfl,q1,q2⟩:=r.cons_inv;rw[q1.int_inv,zzn q2];rfl
def zHs{H:Hp}{a l p:yf}{o o' u1 u2:HO}(ha:H a=none)(hl:l≠a)(hp:p≠a):era (upd (upd (upd (upd H a o) l u1) p u2) a o') a=upd (upd H l u1) p u2:=by
 funext b
 by_cases z:b=a
 ·rw[z,znj,zE (yR hp),zE (yR hl),ha]
 ·rw[zgi z,zE z]
  by_cases z2:b=p
  ·rw[z2,zy,zy]
  ·rw[zE z2,zE z2]
   by_cases z3:b=l
   ·rw[z3,zy,zy]
   ·rw[zE z3,zE z,zE z3]
section
variable {X:Cx}{x:yt}{e:yE}{np cpos pos:xn}{C NE fI:yf}{f:yt}{k:Nat}{fd:yV}{ps:Qx}{G:FA}
set_option maxHeartbeats 800000 in
def zRj(hn:Ym X.K yp x=some (some (.ref C)))(ρ:Sr X.K C NE fI f)(φ:Te X.prog X.w X.K X.mg X.base CX0 1 fI fd ps (spL C f))(hb:Binds X.K fd ps [])(hr:tQ k X.A)(ha:MAn X [e] G)(hk:2<=k:=by decide)(hh:X.calm=true:=by rfl)(hg:Gl X x:=by rfl)
 (he:yj [e] X.env=(false,Yd e X.env)::yj [] X.env:=by exact zRc rfl) (hdb:(x==("__debug__":yt))=false:=by decide) :
 MS X (.Raise (some (.Call (.Name x np) [e] [] cpos)) none pos) (zRe x f G):=by
 intro U s Y H Dn I ⟨Z,J,O,o,A,eo,kk⟩;obtain⟨n,ns,O1,e1,hm,hsm,rfl⟩:=z6o eo;clear eo;obtain⟨nm,qn,N,bs,sn,sub,ab,col,dd,k0,k1,k2,k3,k5,lk⟩:=ρ.ob
 have kK':(Yl cpos (yj [e] X.env)).any (·.1)=false:=by
  rw[he];rfl
 refine zVk (C:=C) (fI:=fI) (nm:=nm) (q:=qn) (N:=N) (bs:=bs) (bm:=.ref NE::W.bmV) (hdct:=true) (sn:=sn) (sub:=sub) (ab:=ab) (col:=col) (dd:=dd) (k0:=k0) (k1:=k1) (k2:=k2) (k3:=k3) (k5:=k5) (newId:="ValueError.__new__")
  Xv ((ρ.tail I.kIn).hasType PySem.F.excBase_ValueError.hasBase) (I.ok.hd hh) kK' (zkg I hg (xH I.mod.kin I.mod.glob hn) ⟨rfl,?_⟩ hdb)
 have h:=ha.ma cpos U s Y H (λvs H'=>∃a Z',vs=[.ref a]/\Z'[n]?=some a/\Ext Z H Z' H'/\tG X.K Z' H' O1) I ⟨Z,J,O,[.loc n],O1,A,e1,λZ' H' vs x' R r=>by
  obtain⟨v,rr,rfl,q1,q2⟩:=r.cons_inv;obtain⟨a,rfl,e3⟩:=q1.tw;exact⟨a,Z',by rw[q2.nil_inv],e3,x',R⟩⟩
 rw[he]at h ⊢;refine Calls.evalArgs_plain (yU h (λus s2 h2=>?_) λ_ _ y=>y);obtain⟨vs,H',I',r,a,Z',rfl,e3,x',R⟩:=h2;obtain⟨u,rfl,ru⟩:=vals1 r;obtain rfl:u=yH a:=ru;obtain⟨ws,hHa,rws⟩:=R.at_ _ _ _ e3 hm;obtain rfl:=zzn rws;have hz:(zZg s2.heap C [.ref a]).get? (s2.heap.objs.size+1)=some {cls:=.ref C,dict:=none,data:=.fields #[.ref s2.heap.objs.size,.none,.none,.none,.bool false,.none]}:=by heap_get
 have kp:∀b o,s2.heap.get? b=some o->(zZg s2.heap C [.ref a]).get? b=some o:=λb o q=>yb _ (yb _ q);have hsz:s2.heap.objs.size<=s2.heap.objs.size+1:=xU _;have kP:H' (s2.heap.objs.size+1)=none:=I'.hok.fresh hsz
 have I2:Inv X U Y (upd H' (s2.heap.objs.size+1) (.ext (zio (s2.heap.objs.size+1) C none))) {s2 with heap:=zZg s2.heap C [.ref a]} :=
  I'.laid (a:=s2.heap.objs.size+1) (t':=s2.toks) kp hsz (zJo ⟨_,hz⟩)
 have sp:spL C f [.ref (s2.heap.objs.size+1),.ref a] (upd H' (s2.heap.objs.size+1) (.ext (zio (s2.heap.objs.size+1) C none))) (λv H2=>v=.non/\∃l p,H' l=none/\l≠s2.heap.objs.size+1/\H' p=none/\p≠s2.heap.objs.size+1/\p≠l /\
  H2=upd (upd (upd (upd H' (s2.heap.objs.size+1) (.ext (zio (s2.heap.objs.size+1) C none))) l (.lst (ns.map V.int))) p (.xd [(f,.ref l)])) (s2.heap.objs.size+1) (.ext (zio (s2.heap.objs.size+1) C (some p)))) E0 :=
  ⟨_,a,ns,rfl,hsm,by rw[zE (zH hHa kP)];exact hHa,zy,λl p hl hle hp hpe kK=>⟨rfl,l,p,by rwa [zE hle]at hl,hle,by rwa [zE hpe]at hp,hpe,kK,rfl⟩⟩
 have hl:([yH (s2.heap.objs.size+1),.ref a]++[]).length=ps.length:=φ.len _ _ _ _ sp;refine⟨rfl,(show 1<=yF by rw[Yo];decide),I'.kIn _ _ lk,W.looks_findIn I'.kIn ρ.ini,ρ.tail I'.kIn,λself=>W.bind_fn I'.kIn self ρ.fn,?_⟩;have kI:tQ 1 (X.A.under (.builtin "type.__call__" ⟨.ref C::[.ref a],[]⟩)):=tQ.make (k:=1) (hr.mono hk) C [.ref a] [];have henv:=I2.env0.make C [.ref a] [];have hbind:=hb {s2 with heap:=zZg s2.heap C [.ref a]} [.ref (s2.heap.objs.size+1),.ref a] I2.kIn hl;have hvals:Vals [V.ref (s2.heap.objs.size+1),.ref a] ([yH (s2.heap.objs.size+1),.ref a]++[]) :=.cons rfl (.cons rfl .nil);have run:=φ.run _ X.stack _ _ _ _ _ _ E0 kI henv hbind hvals sp;show yo (yv X.prog X.w) (X.A.under (.builtin "type.__call__" ⟨.ref C::[.ref a],[]⟩)) (call (.ref fI) [.ref (s2.heap.objs.size+1),.ref a]) _ _ {s2 with heap:=zZg s2.heap C [.ref a]};refine Xp (YI run λrr s' hq=>?_)
 cases rr with
 |error ex=>exact YD hq
 |ok fl=>
  cases fl with
  |next=>exact YD hq
  |brk=>exact YD hq
  |cont=>exact YD hq
  |ret uu=>
   obtain⟨v,H2,hos,hbare,un,hok,rv,ev,l,p,hl0,hle,hp0,hpe,kK,e2⟩:=hq;subst ev;obtain rfl:uu=Yp:=rv;obtain⟨_,H3,I3,_,_,e4⟩:=I2.after (Q:=λv' H''=>v'=V.non/\H''=H2) ⟨V.non,H2,hos,hbare,un,hok,rfl,rfl,rfl⟩;rw[e4]at I3;have h3:H2 (s2.heap.objs.size+1)=some (.ext (zio (s2.heap.objs.size+1) C (some p))):=by rw[e2];exact zy
   obtain⟨⟨te,he3⟩,_,_⟩:=(show tF X.prog X.w H2 s'.heap (s2.heap.objs.size+1) (.ext (zio (s2.heap.objs.size+1) C (some p))) from I3.hok _ _ h3)
   refine⟨rfl,I3.kIn _ _ lk,⟨_,te,he3⟩,?_⟩;have F:=flyI (C:=C) (te:=te) I' I3 hos ((Un.laid kp hsz kP).trans un) hsz ⟨_,h3⟩ he3;rw[e2,zHs kP hle hpe]at F;have R1:tG X.K (Z'++[l]) (upd H' l (.lst (ns.map V.int))) (O1++[.lst (ns.map D.int)]):=R.push hl0 ⟨_,zy,rws.ext (Ext.push hl0)⟩;have hp1:upd H' l (.lst (ns.map V.int)) p=none:=by rw[zE kK];exact hp0
   refine kk (Z'++[l]) (upd (upd H' l (.lst (ns.map V.int))) p (.xd [(f,.ref l)])) C (some p) hn ((x'.trans (Ext.push hl0)).trans (Ext.new hp1)) (R1.Tt hp1) (.inr ⟨p,[(f,.ref l)],rfl,zy,rfl,?_⟩) U Y H' s2 (.ref (s2.heap.objs.size+1)) s' I' F;have hpg:=zub (p:=l) R;simp[tf,tu,hpg]
variable {a b c:yE}{es:Qz}{G ψ χ:FE}{pos2 p1 p2:xn}
def zwu(p:yf)(j:Int):HO:=.ext λh=>∃t u v,IsRange h p 0 j 1 t u v
def zLo:zhl X (.type "range") (λxs H Q=>∃j:Int,xs=[.int j]/\∀p,H p=none->Q (.ref p) (upd H p (zwu p j))):=by
 intro U s Y H xs us Q I r ⟨j,e,k⟩;subst e;obtain⟨u,rfl,ru⟩:=vals1 r;obtain⟨t,rfl⟩:=ru;refine call_range_1 ?_;refine⟨.ref s.heap.objs.size,_,I.laid (t':=s.toks+1+1) (λb o e=>yb _ e) (yh _) (show tF X.prog X.w _ _ _ (zwu _ j) from⟨⟨_,_,_,IsRange.new _ _ _ _ _ _ _⟩,⟨_,yq _ rfl⟩,λh1 h2 ⟨t,u,v,x⟩ y=>⟨t,u,v,y _ x⟩⟩),rfl,k _ I.fresh⟩
def z8q{hJ:Qm}{n:Nat}(h:ItemsOf (λi v=>∃t,v=.int (0+i*1) t) hJ n):Vals ((yB n).map λ(k:Nat)=>V.int k) hJ.toList:=by
 obtain⟨h1,h2⟩:=h
 have key:∀(l:Qh)(m:Nat),(∀i (hi:i<l.length),∃t,l[i]=.int ((m+i:Nat):Int) t)->Vals ((List.range' m l.length).map λ(k:Nat)=>V.int k) l:=by
  intro l
  induction l with
  |nil=>intro m _;exact .nil
  |cons x xs ih=>
   intro m h;obtain⟨t,e⟩:=h 0 (by simp);refine .cons ⟨t,by simpa using e⟩ (ih (m+1) λi hi=>?_);obtain⟨t,e⟩:=h (i+1) (by simpa using hi);exact⟨t,by rw[show m+1+i=m+(i+1) by omega];simpa using e⟩
 have:=key hJ.toList 0 λi hi=>?_
 ·rw[List.range_eq_range',<-h1];simpa using this
 ·have hi':i<hJ.size:=by simpa using hi
  obtain⟨t,e⟩:=h2 i hJ[i] (by simp[hi']);exact⟨t,by simpa using e⟩
def zan(G:FE):FE:=λJ O=>(G J O).bind λp=>match p.1 with
 |.int j=>bif decide (-(2^62)<=j/\j<=1000000) then some (.loc p.2.length,p.2++[.lst ((yB j.toNat).map λ(k:Nat) =>.int k)]) else none
 |_=>none
def zsq(hc:X.calm=true):zhl X (.type "list") (λxs H Q=>∃p j,xs=[.ref p]/\H p=some (zwu p j)/\-(2^62)<=j/\j<=1000000/\∀l,H l=none->Q (.ref l) (upd H l (.lst ((yB j.toNat).map λ(k:Nat)=>V.int k)))):=by
 intro U s Y H xs us Q I r ⟨p,j,e,hq,h1,h2,k⟩;subst e;obtain⟨u,rfl,ru⟩:=vals1 r;cases ru;obtain⟨⟨t,u,v,hr⟩,_,_⟩:=I.hok p _ hq;have hn:Builtin.Range.rangeSize 0 j 1=(j.toNat:Nat):=by rw[rangeSize_one];split<;>omega
 refine call_list_range (n:=j.toNat) (I.ok.hd hc) hr (small_one (by decide) (by decide) h1 (by omega)) hn (by omega) λh' tk hZ' c' kp e hi=>?_;have hm:=Tv;have hv:=z8q hi;refine⟨.ref s.heap.objs.size,_,I.laid (t':=tk) kp (yh _) (show tF X.prog X.w _ h' _ (.lst _) from⟨by simp;omega,hZ'.toList,c',hv,by simpa using e⟩),rfl,k _ I.fresh⟩
def zyt(hm1:X.mg "list"=none)(hv1:yM "list"=some (.type "list"))(hm2:X.mg "range"=none)(h:ME X e G)(hc:X.calm=true:=by rfl)(hg1:Gl X "list":=by rfl)(hg2:Gl X "range":=by rfl)
 (he:yj [e] X.env=(false,Yd e X.env)::yj [] X.env:=by rfl) (he2:yj [.Call (.Name "range" p2) [e] [] pos2] X.env=(false,Yd (.Call (.Name "range" p2) [e] [] pos2) X.env)::yj [] X.env:=by rfl) :
 ME X (.Call (.Name "list" p1) [.Call (.Name "range" p2) [e] [] pos2] [] pos) (zan G) :=
 zge (z6f (zsq hc) hg1 hm1 hv1 (zPe (z6f zLo hg2 hm2 boot_range (zPe h zti he) (by decide) (by decide) he rfl) zti he2) (by decide) (by decide) he2 rfl) λZ J O Y H d O' Q A e k=>by
  obtain⟨⟨x,O1⟩,e1,e⟩:=zj e;refine⟨Z,J,O,x,O1,A,e1,λZ1 H1 v x1 R1 r1=>?_⟩;dsimp only at e
  split at e
  ·rename_i j
   obtain⟨hb,e⟩:=zV e;have hb:=of_decide_eq_true hb;cases e;refine⟨j,by rw[r1.int_inv],λp1 hp1=>⟨p1,j,rfl,zy,hb.1,hb.2,λl hl=>?_⟩⟩;have R2:=R1.Tt (o:=zwu p1 j) hp1;refine k _ _ _ (x1.trans ((Ext.new hp1).trans (Ext.push hl))) (R2.push hl ⟨_,zy,?_⟩) (.loc (zub R2));have hr:=λZ H=>@zjf X.K Z H ((yB j.toNat).map λ(k:Nat)=>(k:Int));simp only[Nh]at hr;exact hr _ _
  ·cases e
@[simp] def zrA:GL:=λds O=>match ds with
 |[.int i]=>some (.int i,O)
 |[.bl b]=>some (.int (if b then 1 else 0),O)
 |_=>none
@[simp] def zMz:GL:=λds O=>match ds with
 |[.int i,.int j]=>some (.int (if j<i then j else i),O)
 |_=>none
@[simp] def zPz:GL:=λds O=>match ds with
 |[.int i,.int j]=>some (.int (if j>i then j else i),O)
 |_=>none
@[simp] def fIf(c:FT)(G ψ:FE):FE:=λJ O=>(c J O).bind λp=>bif p.1 then G J p.2 else ψ J p.2
variable {prog:yy}{w:yI}{A:yJ}{E:Value->yc->Prop}{s:yc}
def nextT{it t:yf}{i:Nat}{items:Qm}{x:Value}{Q:Value->yc->Prop}(hit:s.heap.IsTupleIter it t i)(ht:s.heap.IsTuple t items)(hx:items[i]?=some x)
 (hQ:∀h',h'.IsTupleIter it t (i+1)->Yq it s.heap h'->Q x {s with heap:=h' }):yo (yv prog w) A (YL (.ref it)) Q E s:=by
 obtain⟨ob,hob,kT,hfs⟩:=id hit;obtain⟨ot,hot,_,m,hits⟩:=ht;unfold YL;refine ya (Yi (name:=YX "__next__") hit.typeIs xA (Yc xA hit.typeIs F.entry_tuple_iterator_next ?_ (F.args_tuple_iterator_next_1 _)));show yo _ _ (field (.ref it) 0 >>= _) _ _ s;refine ya (YK hob hfs (x:=.ref t) rfl ?_);show yo _ _ (if(yH t==Yp)=true then _ else field (.ref it) 1 >>= _) _ _ s;rw[if_neg (show ¬(yH t==Yp)=true from yA)];refine ya (YK hob hfs (x:=.int i 0) rfl ?_);show yo _ _ (seqItems? (.ref t) >>= _) _ _ s;refine ya (wpAny_seqItems hot hits ?_);simp only[Yv,hx];refine ya (YY hob hfs (by simp) (ye ⟨x,rfl,ye (hQ _ ?_ (YF ..))⟩));refine⟨_,yO _ hob (YG (yZ hfs _)),(Xm ..).trans kT,?_⟩;rw[yZ hfs];simp[YJ]
def z3r{it t:yf}{i:Nat}{items:Qm}{Q:Value->yc->Prop}(hh:A.handled=none)(hit:s.heap.IsTupleIter it t i)(ht:s.heap.IsTuple t items)(hx:items[i]?=none)
 (hE:∀h' e,Xu it s.heap h'->(∃o,h'.get? e=some o/\o.cls=.type "StopIteration")->E (.ref e) {s with heap:=h' }):yo (yv prog w) A (YL (.ref it)) Q E s:=by
 obtain⟨ob,hob,kT,hfs⟩:=id hit;obtain⟨ot,hot,_,m,hits⟩:=ht;unfold YL;refine ya (Yi (name:=YX "__next__") hit.typeIs xA (Yc xA hit.typeIs F.entry_tuple_iterator_next ?_ (F.args_tuple_iterator_next_1 _)));show yo _ _ (field (.ref it) 0 >>= _) _ _ s;refine ya (YK hob hfs (x:=.ref t) rfl ?_);show yo _ _ (if(yH t==Yp)=true then _ else field (.ref it) 1 >>= _) _ _ s;rw[if_neg (show ¬(yH t==Yp)=true from yA)];refine ya (YK hob hfs (x:=.int i 0) rfl ?_);show yo _ _ (seqItems? (.ref t) >>= _) _ _ s;refine ya (wpAny_seqItems hot hits ?_);simp only[Yv,hx];refine ya (wpAny_rule (ya (YY hob hfs (by simp) ?_)));show yo _ _ (newExc (.type "StopIteration") [] >>= _) _ _ _;refine ya ?_;simp only[newExc,newTuple];refine ya (yY ?_ (by size_fits));refine ya (m:=firstArgMember _ _) (wpAny_of_eq (a:=Yp) (by first|rfl|(simp only[firstArgMember];rfl)) ?_);refine yY ?_ (by size_fits);simp only[raiseNew];refine ya (wpAny_handled ?_)
 first|rw[show A.in1.handled=none from hh]|rw[hh]
 exact ya (ye (wpAny_throw (hE _ _ (((YF ..).extBut.push _).push _) ⟨_,yq _ rfl,rfl⟩)))
def zMn{e it:yf}{i:Int}{x old:Value}{N:yT->Prop}{Q:Qi->yc->Prop}(he:IsEnum s.heap e it i old)(kL:e≠it)
 (nx:∀(A':yJ)(Q':Value->yc->Prop)(E':Value->yc->Prop),(∀h1,N h1->Yq it s.heap h1->Q' x {s with heap:=h1 })->yo (yv prog w) A' (YL (.ref it)) Q' E' s)
 (hN:∀h h',N h->(∀o,h.get? it=some o->h'.get? it=some o)->N h')
 (hQ:∀h',IsEnumOut h' e it (i+1) x s.heap.objs.size->N h'->h'.get? s.heap.objs.size=some {cls:=.type "tuple",data:=.seq #[.int i s.toks,x]}->h'.objs.size=s.heap.objs.size+1 ->
  (∀b o,b≠e->b≠it->s.heap.get? b=some o->h'.get? b=some o)->Q (some (.ref s.heap.objs.size)) {s with heap:=h',toks:=s.toks+1 }):yo (yv prog w) A (xW (.ref e)) Q E s:=by
 obtain⟨hp,g,d,tk,os⟩:=s;have hT:Shared.TypeIs ⟨hp,g,d,tk,os⟩ (.ref e) "enumerate":=⟨_,he,rfl⟩
 unfold xW;refine ya (wpAny_attempt (Yi (name:=YX "__next__") hT Xk (Yc Xk hT F.entry_enumerate_next ?_ (F.args_enumerate_next_1 _))));show yo _ _ (field (.ref e) 2 >>= _) _ _ _;refine ya (YK he rfl (x:=.ref it) rfl (ya (nx _ _ _ λh1 n1 sb1=>?_)));replace sb1:Yq it hp h1:=sb1;have e1:IsEnum h1 e it i old:=(sb1.2 e kL).trans he;show yo _ _ (field (.ref e) 3 >>= _) _ _ ⟨h1,g,d,tk,os⟩;refine ya (YK e1 rfl (x:=YJ i) rfl ?_);show yo _ _ (field (.ref e) 4 >>= _) _ _ ⟨h1,g,d,tk,os⟩;refine ya (YK e1 rfl (x:=.none) rfl ?_);show yo _ _ (mkInt i >>= _) _ _ ⟨h1,g,d,tk,os⟩;refine ya (wpAny_mkInt ?_);show yo _ _ (setField (.ref e) 3 (YJ (i+1)) >>= _) _ _ ⟨h1,g,d,tk+1,os⟩;refine ya (Xb e1 (by simp) λh2 e2 sb2=>?_);replace sb2:Yq e h1 h2:=sb2;replace e2:IsEnum h2 e it (i+1) old:=e2;show yo _ _ (setField (.ref e) 4 .none >>= _) _ _ ⟨h2,g,d,tk+1,os⟩;refine ya (Xb e2 (by simp) λh3 e3 sb3=>?_);replace sb3:Yq e h2 h3:=sb3;replace e3:IsEnum h3 e it (i+1) old:=e3;show yo _ _ (newTuple [.int i tk,x] >>= _) _ _ ⟨h3,g,d,tk+1,os⟩;refine ya (wpAny_newTuple ?_);have z3:h3.objs.size=hp.objs.size:=by rw[sb3.1,sb2.1,sb1.1]
 have el:e<hp.objs.size:=yn he;have ne4:hp.objs.size≠e:=yX el;obtain⟨h4,hh4⟩:∃h4,h4=h3.push {cls:=.type "tuple",data:=.seq #[.int i tk,x]}:=⟨_,rfl⟩
 have e4:IsEnum h4 e it (i+1) old:=by rw[hh4];exact yb _ e3
 have t4:h4.get? hp.objs.size=some {cls:=.type "tuple",data:=.seq #[.int i tk,x]}:=by rw[hh4,<-z3];exact yq _ rfl
 have z4:h4.objs.size=hp.objs.size+1:=by rw[hh4,Yu,z3]
 have up:∀b o,b≠e->h1.get? b=some o->h4.get? b=some o:=λb o hb q=>by
  rw[hh4];exact yb _ ((sb3.2 b hb).trans ((sb2.2 b hb).trans q))
 show yo _ _ (Builtin.SmallTypes.ownedTupleIsFree (.ref e) >>= _) _ _ ⟨h3.push {cls:=.type "tuple",data:=.seq #[.int i tk,x]},g,d,tk+1,os⟩;rw[<-hh4,z3];refine ya ?_;unfold Builtin.SmallTypes.ownedTupleIsFree;refine ya (YK e4 rfl (x:=.none) rfl (ye ?_));simp only[if_true];refine ya (wpAny_rule (ya (YK e4 rfl (x:=old) rfl (ya (Xb e4 (by simp) λh5 e5 sb5=>?_)))));replace sb5:Yq e h4 h5:=sb5;replace e5:IsEnum h5 e it (i+1) x:=e5;show yo _ _ (Builtin.SmallTypes.ownedTupleHandOut (.ref e) (.ref hp.objs.size) >>= _) _ _ ⟨h5,g,d,tk+1,os⟩;refine ya ?_;unfold Builtin.SmallTypes.ownedTupleHandOut;refine ya (Xb e5 (by simp) λh6 e6 sb6=>?_);replace sb6:Yq e h5 h6:=sb6;replace e6:IsEnumOut h6 e it (i+1) x hp.objs.size:=e6;refine Xb e6 (by simp) λh7 e7 sb7=>?_;replace sb7:Yq e h6 h7:=sb7;replace e7:IsEnumOut h7 e it (i+1) x hp.objs.size:=e7;have up7:∀b o,b≠e->h4.get? b=some o->h7.get? b=some o:=λb o hb q=>(sb7.2 b hb).trans ((sb6.2 b hb).trans ((sb5.2 b hb).trans q));refine ya (wpAny_letGo (ye ⟨_,rfl,ye (hQ h7 e7 (hN _ _ n1 λo q=>up7 _ _ (yR kL) (up _ _ (yR kL) q)) (up7 _ _ ne4 t4) ?_ λb o h1 h2 q=>up7 _ _ h1 (up _ _ h1 ((sb1.2 b h2).trans q)))⟩));show h7.objs.size=hp.objs.size+1;rw[sb7.1,sb6.1,sb5.1,z4]
def zfq{e it:yf}{i:Int}{old:Value}{Q:Qi->yc->Prop}(he:IsEnum s.heap e it i old)
 (nx:∀(A':yJ)(Q':Value->yc->Prop)(E':Value->yc->Prop),A'.handled=A.handled->(∀h' x,Xu it s.heap h'->(∃o,h'.get? x=some o/\o.cls=.type "StopIteration")->E' (.ref x) {s with heap:=h' })->yo (yv prog w) A' (YL (.ref it)) Q' E' s)
 (hQ:∀h',Xu it s.heap h'->Q none {s with heap:=h' }):yo (yv prog w) A (xW (.ref e)) Q E s:=by
 have hT:s.TypeIs (.ref e) "enumerate":=⟨_,he,rfl⟩
 unfold xW;refine ya (wpAny_attempt (Yi (name:=YX "__next__") hT Xk (Yc Xk hT F.entry_enumerate_next ?_ (F.args_enumerate_next_1 _))));show yo _ _ (field (.ref e) 2 >>= _) _ _ _;refine ya (YK he rfl (x:=.ref it) rfl (ya (nx _ _ _ rfl λh' x eb ⟨o,ho,hc⟩=>?_)));exact ya (Xy (T:="StopIteration") (b:=true) ⟨o,ho,hc⟩ isSubtype_stop (ye (hQ _ eb)))
variable {U:Qb}{Y:L2.St}{H:Hp}
def zRm{fp:Qv}(hf:∀b∈fp,zPp X U H b){b:yf}{u:HO}(e:H b=some u):b∉fp:=λz=>by rw[(hf b z).1]at e;cases e
def zGy{fp:Qv}(hf:∀b∈fp,zPp X U H b):∀b∈fp,(b∈X.ex\/X.s₀.heap.objs.size<=b)/\b≠X.env.locals/\(∀x c,X.env.cells.lookup x=some c->c≠b)/\∀p∈X.pn++U,p.1≠b:=λb hb=>by
 obtain⟨_,f1,_,f3,f4,f5⟩:=hf b hb;exact⟨f3,f1,f4,f5⟩
def zyl{fp:Qv}{h':yT}{t':Nat}(I:Inv X U Y H s)(hf:∀b∈fp,zPp X U H b)(k:∀b o,b∉fp->s.heap.get? b=some o->h'.get? b=some o):Inv X U Y H {s with heap:=h',toks:=t' }:=by
 refine I.call (g':=s.gens) (t':=t') (d':=s.drawn) (ch:=fp) ⟨λb o e _ _ hx=>k b o hx e,λb o e _ _ hx=>⟨o.slots,k b o hx e⟩,λ_ _ _ n _=>n,λb o e hx=>⟨o,k b o hx e⟩,λ_ _ e=>e,λ_ _ _ e=>e,λ_ ps e=>⟨#[],by rw[e];simp⟩⟩ (λa o e=>?_) I.bare (zGy hf);refine(I.hok a o e).stay (λb u hb q=>k b u ?_ q) (λ_ q=>q) λ_ _ q=>q;rcases hb with rfl|hb
 ·exact zRm hf e
 ·exact zRm hf hb
def zTe{fp:Qv}{h':yT}{t':Nat}{p:yf}{o:HO}(I:Inv X U Y H s)(hf:∀b∈fp,zPp X U H b)(k:∀b o,b∉fp->s.heap.get? b=some o->h'.get? b=some o)(hp:s.heap.objs.size<=p)
 (new:tF X.prog X.w (upd H p o) h' p o):Inv X U Y (upd H p o) {s with heap:=h',toks:=t' }:=by
 have hn:=I.hok.fresh hp;have kH:∀b ob,s.heap.get? b=some ob->b≠p:=λb ob e=>yu (yz (yn e) hp)
 refine I.call (g':=s.gens) (t':=t') (d':=s.drawn) (ch:=fp) ⟨λb o e _ _ hx=>k b o hx e,λb o e _ _ hx=>⟨o.slots,k b o hx e⟩,λb ob e n _=>by rw[zE (kH b ob e)];exact n,λb o e hx=>⟨o,k b o hx e⟩,
  λ_ _ e=>by rw[zE (zH e hn)];exact e,λ_ _ _ e=>by rw[zE (zH e hn)];exact e,λ_ ps e=>⟨#[],by rw[zE (zH e hn),e];simp⟩⟩ (λa u e=>?_) I.bare (zGy hf)
 by_cases ha:a=p
 ·subst ha;rw[zy]at e;cases e;exact new
 ·rw[zE ha]at e;refine(I.hok a u e).stay (λb u hb q=>k b u ?_ q) (λb q=>by rw[zE (zH q hn)];exact q) λb xs q=>by rw[zE (zH q hn)];exact q
  rcases hb with rfl|hb
  ·exact zRm hf e
  ·exact zRm hf hb
def Ien(δ:It):It:=⟨δ.go,λi H x H'=>∃p y,x=.ref p/\H p=none/\H'=upd H p (.tup [.int i,y])/\δ.yld i H y H,δ.stop⟩
def zDt{P:yy}{w:yI}{H:Hp}{h:yT}{p:yf}{x y:V}{u v:Value}(e:h.get? p=some {cls:=.type "tuple",data:=.seq #[u,v]})(rx:RelV x u)(ry:RelV y v):tF P w H h p (.tup [x,y]) :=
 ⟨by rw[Yo];simp,[u,v],.cons rx (.cons ry .nil),⟨_,e,rfl,_,rfl⟩⟩
def zJq{P:yy}{w:yI}{K:yw}{elts:Qz}{x1}{pos:xn}(a e it:yf)(kL:e≠it):Turn P w K (.Tuple elts x1 pos) (Ien (Itl K a)) [e,it] e (λi h=>(∃old,IsEnum h e it i old)/\h.IsListIter it a i) where
 mem:=by simp
 obj:=λi h ⟨⟨old,he⟩,st⟩ b hb=>by
  have hb:b=e\/b=it:=by simpa using hb
  rcases hb with rfl|rfl
  ·exact⟨_,he,λv z=>by have z':Data.fields _=Data.cell v:=z;cases z'⟩
  ·obtain⟨o,q,c,d⟩:=st;exact⟨o,q,λv z=>by rw[d]at z;cases z⟩
 keep:=λi h h' ⟨⟨old,he⟩,st⟩ k=>⟨⟨old,k e (by simp) _ he⟩,st.at λo q=>k it (by simp) o q⟩
 item:=by
  intro X hP hw hK hc i U s Y H E I hf ⟨⟨old,he⟩,st⟩ hg;subst hP hw hK;obtain⟨xs,x,hq,hx⟩:=hg;obtain⟨hJ,rv,p,hz⟩:=I.list hq;obtain⟨u,hu,ru⟩:=rv.get hx;refine zMn (N:=λh=>h.IsListIter it a (i+1)) he kL (λA' Q' E' hQ=>wpAny_nextOf_list_item st p.isList (x:=u) (by simpa using hu) λh' st' sb=>hQ h' st' sb) (λh h' n k=>n.at λo q=>k o q) λh' eo n' t' z' kk=>?_;refine⟨_,rfl,wpAny_letOwnedTupleGo_enum eo λh2 e2 sb2=>?_⟩;replace sb2:Yq e h' h2:=sb2;have kH:e<s.heap.objs.size:=yn he;have t2:=(sb2.2 s.heap.objs.size (yX kH)).trans t';have kP:=I.hok.fresh (yh s.heap.objs.size)
  have I2:Inv X U Y (upd H s.heap.objs.size (.tup [.int i,x])) {s with heap:=h2,toks:=s.toks+1 }:=by
   refine zTe I hf (λb o hb q=>?_) (yh _) (zDt t2 ⟨_,rfl⟩ ru);simp only[Nn,Nz,or_false,not_or]at hb;exact(sb2.2 b hb.1).trans (kk b o hb.1 hb.2 q)
  refine⟨.ref s.heap.objs.size,_,I2,rfl,⟨_,x,rfl,kP,rfl,rfl,λys hy=>by rw[I.sR hy hq];exact hx⟩,⟨⟨u,by simpa using e2⟩,n'.at λo q=>(sb2.2 it (yR kL)).trans q⟩,λb hb=>?_⟩
  ·rw[zE]
   ·exact(hf b hb).1
   ·rintro rfl;have hb:s.heap.objs.size=e\/s.heap.objs.size=it:=by simpa using hb
    rcases hb with q|q
    ·exact absurd kH (by rw[q];exact yW _)
    ·obtain⟨o,qo,_⟩:=st;exact absurd (yn qo) (by rw[q];exact yW _)
 done:=by
  intro X hP hw hK hc i U s Y H E I hf ⟨⟨old,he⟩,st⟩ hg;subst hP hw hK;obtain⟨xs,hq,hx⟩:=hg;obtain⟨hJ,rv,p,hz⟩:=I.list hq;have hl:=rv.length;refine zfq he (λA' Q' E' hA hE=>wpAny_nextOf_list_end (hA.trans (I.ok.hd hc)) st p.isList (by simp;omega) hE) λh' eb=>⟨rfl,zyl (t':=s.toks) I hf λb o hb q=>eb b o (λz=>hb (by simp[z])) q⟩
 self:=λ_ _ _ _ _ ⟨⟨old,he⟩,_⟩ h=>wpAny_pyIter_enum he h
def znr{P:yy}{w:yI}{K:yw}{elts:Qz}{x1}{pos:xn}(a e it:yf)(kL:e≠it):Turn P w K (.Tuple elts x1 pos) (Ien (Itt K a)) [e,it] e (λi h=>(∃old,IsEnum h e it i old)/\h.IsTupleIter it a i) where
 mem:=by simp
 obj:=λi h ⟨⟨old,he⟩,st⟩ b hb=>by
  have hb:b=e\/b=it:=by simpa using hb
  rcases hb with rfl|rfl
  ·exact⟨_,he,λv z=>by have z':Data.fields _=Data.cell v:=z;cases z'⟩
  ·obtain⟨o,q,c,d⟩:=st;exact⟨o,q,λv z=>by rw[d]at z;cases z⟩
 keep:=λi h h' ⟨⟨old,he⟩,st⟩ k=>⟨⟨old,k e (by simp) _ he⟩,st.at λo q=>k it (by simp) o q⟩
 item:=by
  intro X hP hw hK hc i U s Y H E I hf ⟨⟨old,he⟩,st⟩ hg;subst hP hw hK;obtain⟨xs,x,hq,hx⟩:=hg;obtain⟨hJ,rv,p,hz⟩:=I.tuple hq;obtain⟨u,hu,ru⟩:=rv.get hx;refine zMn (N:=λh=>h.IsTupleIter it a (i+1)) he kL (λA' Q' E' hQ=>nextT st (show s.heap.IsTuple a hJ.toArray from p) (x:=u) (by simpa using hu) λh' st' sb=>hQ h' st' sb) (λh h' n k=>n.at λo q=>k o q) λh' eo n' t' z' kk=>?_;refine⟨_,rfl,wpAny_letOwnedTupleGo_enum eo λh2 e2 sb2=>?_⟩;replace sb2:Yq e h' h2:=sb2;have kH:e<s.heap.objs.size:=yn he;have t2:=(sb2.2 s.heap.objs.size (yX kH)).trans t';have kP:=I.hok.fresh (yh s.heap.objs.size)
  have I2:Inv X U Y (upd H s.heap.objs.size (.tup [.int i,x])) {s with heap:=h2,toks:=s.toks+1 }:=by
   refine zTe I hf (λb o hb q=>?_) (yh _) (zDt t2 ⟨_,rfl⟩ ru);simp only[Nn,Nz,or_false,not_or]at hb;exact(sb2.2 b hb.1).trans (kk b o hb.1 hb.2 q)
  refine⟨.ref s.heap.objs.size,_,I2,rfl,⟨_,x,rfl,kP,rfl,rfl,λys hy=>by rw[I.sH hy hq];exact hx⟩,⟨⟨u,by simpa using e2⟩,n'.at λo q=>(sb2.2 it (yR kL)).trans q⟩,λb hb=>?_⟩
  ·rw[zE]
   ·exact(hf b hb).1
   ·rintro rfl;have hb:s.heap.objs.size=e\/s.heap.objs.size=it:=by simpa using hb
    rcases hb with q|q
    ·exact absurd kH (by rw[q];exact yW _)
    ·obtain⟨o,qo,_⟩:=st;exact absurd (yn qo) (by rw[q];exact yW _)
 done:=by
  intro X hP hw hK hc i U s Y H E I hf ⟨⟨old,he⟩,st⟩ hg;subst hP hw hK;obtain⟨xs,hq,hx⟩:=hg;obtain⟨hJ,rv,p,hz⟩:=I.tuple hq;have hl:=rv.length;refine zfq he (λA' Q' E' hA hE=>z3r (hA.trans (I.ok.hd hc)) st (show s.heap.IsTuple a hJ.toArray from p) (by simp;omega) hE) λh' eb=>⟨rfl,zyl (t':=s.toks) I hf λb o hb q=>eb b o (λz=>hb (by simp[z])) q⟩
 self:=λ_ _ _ _ _ ⟨⟨old,he⟩,_⟩ h=>wpAny_pyIter_enum he h
def zts(l:yf)(items:Qm)(n:Nat)(dct:Qw)(sl:Array (Qi)) :
 Meets (xi.«enumerate.__new__» ⟨[.type "enumerate",.ref l],[]⟩) (λ_ R s=>s.heap.get? l=some {cls:=.type "tuple",dict:=dct,data:=.seq items n,slots:=sl } /\
  R (.ok (.ret (.ref (s.heap.push {cls:=.type "tuple_iterator",data:=.fields #[.ref l,.int 0 0]}).objs.size)))
   {s with heap:=(s.heap.push {cls:=.type "tuple_iterator",data:=.fields #[.ref l,.int 0 0]}).push {cls:=.type "enumerate",data:=.fields #[.none,.bool false,.ref s.heap.objs.size,YJ 0,.none,.none]}}) :=
 .of_wp λprog w A R s h=>by
  obtain⟨hp,g,d,tk,os⟩:=s;obtain⟨hl,h⟩:=h;have kU:=sub_enumerate;have hL:Heap.IsTuple (Shared.heap ⟨hp,g,d,tk,os⟩) l items:=⟨_,hl,rfl,n,rfl⟩
  wp_walk using xK hl
  refine wpAny_stack_any λst=>ye ?_
  split
  ·rename_i c _ _ _ _ _
   cases (c==Yx "enumerate")
   ·wp_walk using xK hl,wpAny_pyIter_tuple hL
    exact⟨_,rfl,h⟩
   ·wp_walk using xK hl,wpAny_pyIter_tuple hL
    exact⟨_,rfl,h⟩
  ·wp_walk using xK hl,wpAny_pyIter_tuple hL
   exact⟨_,rfl,h⟩
def zxq{prog:yy}{w:yI}{A:yJ}{E:Value->yc->Prop}{l:yf}{items:Qm}{Q:Value->yc->Prop}(hL:s.heap.IsTuple l items)
 (h:∀h',IsEnum h' (s.heap.objs.size+1) s.heap.objs.size 0 .none->h'.IsTupleIter s.heap.objs.size l 0->h'.objs.size=s.heap.objs.size+2 ->
  (∀b o,s.heap.get? b=some o->h'.get? b=some o)->Q (.ref (s.heap.objs.size+1)) {s with heap:=h' }):yo (yv prog w) A (call (.type "enumerate") [.ref l]) Q E s:=by
 obtain⟨⟨c,dct,dt,sl⟩,hl,hc,n,hd⟩:=hL;replace hc:c=.type "tuple":=hc;replace hd:dt=.seq items n:=hd;subst hc hd;refine callType_new F.called_enumerate (by decide) (F.typeCall_enumerate_1 _) (F.newCall_enumerate_1 _) (λobj=>F.args_object_init_2 obj _) F.entry_enumerate_new (zts l items n dct sl) ⟨hl,?_⟩;have hz:(s.heap.push {cls:=.type "tuple_iterator",data:=.fields #[.ref l,.int 0 0]}).objs.size=s.heap.objs.size+1:=Yu ..
 have he:IsEnum ((s.heap.push {cls:=.type "tuple_iterator",data:=.fields #[.ref l,.int 0 0]}).push {cls:=.type "enumerate",data:=.fields #[.none,.bool false,.ref s.heap.objs.size,YJ 0,.none,.none]}) (s.heap.objs.size+1) s.heap.objs.size 0 .none:=by
  have:=yq (s.heap.push {cls:=.type "tuple_iterator",data:=.fields #[.ref l,.int 0 0]}) (o:={cls:=.type "enumerate",data:=.fields #[.none,.bool false,.ref s.heap.objs.size,YJ 0,.none,.none]}) rfl;rw[hz]at this;exact this
 show _/\_;rw[hz];exact⟨⟨_,he,rfl⟩,h _ he ⟨_,yb _ (yq _ rfl),rfl,rfl⟩ (by rw[Yu,hz]) λb o x=>yb _ (yb _ x)⟩
def z1A(K:yw)(tl:TE):TI:=λY H R=>tl Y H λx H1=>∃a,x=.ref a/\((∃xs,SqL K H1 a xs)/\R (Ien (Itl K a)) H1\/(∃xs,SqT K H1 a xs)/\R (Ien (Itt K a)) H1)
def znx{l:yE}{tl:TE}{elts:Qz}{x1}{tp p pos:xn}(hg:Gl X "enumerate")(hm:X.mg "enumerate"=none)(hv:yM "enumerate"=some (.type "enumerate"))(hl:PE X l tl)(hs:yj [l] X.env=[(false,Yd l X.env)]:=by rfl) :
 PI X (.Tuple elts x1 tp) (.Call (.Name "enumerate" p) [l] [] pos) (z1A X.K tl):=by
 intro U s Y H R I h
 refine Call_ (zCk I hg hm hv (YV (thn (zPe hl zti hs pos U s Y H (λvs H1=>match vs with
  |[x]=>∃a,x=.ref a/\((∃xs,SqL X.K H1 a xs)/\R (Ien (Itl X.K a)) H1\/(∃xs,SqT X.K H1 a xs)/\R (Ien (Itt X.K a)) H1)
  |_=>False) I h) λus s1 ⟨vs,H1,I1,r1,q1⟩=>?_) hs rfl))
 dsimp only at q1
 split at q1
 case h_2=>exact q1.elim
 obtain⟨a,e,q⟩:=q1;subst e
 cases r1 with
 |cons r rr=>
  cases rr;cases r
  have fin:∀h':yT,(∀b o,s1.heap.get? b=some o->h'.get? b=some o)->∀b∈[s1.heap.objs.size+1,s1.heap.objs.size],zPp X U H1 b:=λh' kp b hb=>by
   have hb:b=s1.heap.objs.size+1\/b=s1.heap.objs.size:=by simpa using hb
   rcases hb with rfl|rfl
   ·exact I1.sX (xU _) (I1.hok.fresh (xU _))
   ·exact I1.sX (yh _) (I1.hok.fresh (yh _))
  have kL:s1.heap.objs.size+1≠s1.heap.objs.size:=Nat.succ_ne_self _;rcases q with ⟨⟨xs,hq⟩,q⟩|⟨⟨xs,hq⟩,q⟩
  ·obtain⟨hJ,rv,pl,hz⟩:=I1.list hq;refine call_enumerate_list pl.isList λh' e1 i1 z1 kp=>?_;refine wpAny_pyIter_enum (s:={s1 with heap:=h' }) e1 ?_;exact⟨_,[s1.heap.objs.size+1,s1.heap.objs.size],_,_,H1,rfl,I1.kept (t':=s1.toks) kp,zJq a _ _ kL,⟨⟨_,e1⟩,i1⟩,fin h' kp,q⟩
  ·obtain⟨hJ,rv,pl,hz⟩:=I1.tuple hq;refine zxq (show s1.heap.IsTuple a hJ.toArray from pl) λh' e1 i1 z1 kp=>?_;refine wpAny_pyIter_enum (s:={s1 with heap:=h' }) e1 ?_;exact⟨_,[s1.heap.objs.size+1,s1.heap.objs.size],_,_,H1,rfl,I1.kept (t':=s1.toks) kp,znr a _ _ kL,⟨⟨_,e1⟩,i1⟩,fin h' kp,q⟩
def zRg(ds:Wm):Wm:=ds.zipIdx.map λp =>.tup [.int (p.2:Nat),p.1]
def zld(ds:Wm):(zRg ds).length=ds.length:=by simp[zRg]
def zrm{ds:Wm}{i:Nat}{d:D}(h:(zRg ds)[i]?=some d):∃y,ds[i]?=some y/\d=.tup [.int i,y]:=by
 unfold zRg at h;rw[yi,Xw]at h
 cases e:ds[i]? with
 |none=>rw[e]at h;cases h
 |some y=>
  rw[e]at h;refine⟨y,rfl,?_⟩;have:=Yj h;rw[<-this];simp
@[simp] def z1m(G:FE):FI:=λJ O=>(G J O).bind λp=>match p.1 with
 |.tup ds=>some (zRg ds,yes,p.2)
 |.fz ds=>some (zRg ds,yes,p.2)
 |.loc n=>match p.2[n]? with
  |some (.lst ds)=>some (zRg ds,z5n n ds,p.2)
  |_=>none
 |_=>none
def z2o{K:yw}{δ:It}{Z:Qv}{H:Hp}{ds:Wm}{ok:Mem->Bool}(h:Sb K δ Z H ds ok):Sb K (Ien δ) Z H (zRg ds) ok:=by
 refine⟨λZ' H' O' i x R o hi=>h.go Z' H' O' i x R o (by rw[zld]at hi;exact hi),λZ' H' O' i x H'' d x' R o e ⟨p,y,e1,hp,e2,yl⟩=>?_,λZ' H' O' x R o=>by rw[zld];exact h.stop Z' H' O' x R o⟩;obtain⟨z,ez,rfl⟩:=zrm e;obtain⟨_,_,rz⟩:=h.yld Z' H' O' i y H' z x' R o ez yl;subst e1 e2;exact⟨Ext.new hp,R.Tt hp,.tup zy (.cons .int (.cons (rz.ext (Ext.new hp)) .nil))⟩
def zih{a:yE}{G:FE}{elts:Qz}{x1}{tp p pos:xn}(hm:X.mg "enumerate"=none)(hv:yM "enumerate"=some (.type "enumerate"))(h:ME X a G)(hg:Gl X "enumerate":=by rfl)(hs:yj [a] X.env=[(false,Yd a X.env)]:=by rfl) :
 MI X (.Tuple elts x1 tp) (.Call (.Name "enumerate" p) [a] [] pos) (z1m G) :=
 zLs (znx hg hm hv h hs) λZ J O Y H ds ok O' R A e k=>by
  obtain⟨⟨x,O1⟩,e1,e⟩:=zj e;refine⟨Z,J,O,x,O1,A,e1,λZ1 H1 v1 x1 R1 r1=>?_⟩;dsimp only at e
  split at e
  ·cases e;obtain⟨a,vs,rfl,e2,q2⟩:=r1.tR;exact⟨a,rfl,.inr ⟨⟨vs,SqT.of e2⟩,k Z1 H1 _ x1 R1 (z2o (zpv e2 q2))⟩⟩
  ·cases e;obtain⟨a,vs,rfl,e2,q2⟩:=r1.sB;exact⟨a,rfl,.inl ⟨⟨vs,e2.sq⟩,k Z1 H1 _ x1 R1 (z2o (zIp λZ' H' O' x _ _=>⟨vs,(x.fz e2).sq,q2.ext x⟩))⟩⟩
  ·split at e
   ·rename_i hm
    cases e;obtain⟨a,rfl,e2⟩:=r1.tw;obtain⟨vs,e3,q3⟩:=R1.at_ _ _ _ e2 hm;refine⟨a,rfl,.inl ⟨⟨vs,SqL.of e3⟩,k Z1 H1 _ x1 R1 (z2o (zIp λZ' H' O'' x R' o=>?_))⟩⟩;obtain⟨vs',e4,q4⟩:=R'.at_ _ _ _ (x.get e2) (TD.mp o);exact⟨vs',SqL.of e4,q4⟩
   ·cases e
  ·cases e
@[simp] def zZn(g:GM)(G:FE):FE:=λJ O=>(G J O).bind λp=>match p.1 with
 |.loc n=>match p.2[n]? with
  |some (.lst _)=>g (.loc n) [] p.2
  |_=>none
 |_=>none
def zRt{o:yE}{name:yt}{id:String}{g:GM}{kA:xn}(slot:Slot "list" name id)(hty:typeOf (.builtin id)=pure (.type "method_descriptor"))(hm:MtG X id g)(ho:ME X o G)
 (kE:YB o name X.env (Yd o X.env)=Yd o X.env:=by rfl) (kB:(kA.endLine==pos.line)=true:=by rfl):ME X (.Call (.Attribute o name kA) [] [] pos) (zZn g G) :=
 zge (zWy PySem.F.plainAttrs_list slot hty hm ho kE kB) λZ J O Y H d O' Q A e k=>by
  obtain⟨⟨x,O1⟩,e1,e⟩:=zj e;refine⟨Z,J,O,x,O1,A,e1,λZ1 H1 v x1 R1 r1=>?_⟩;dsimp only at e
  split at e
  ·split at e
   ·rename_i hm'
    obtain⟨a,rfl,ea⟩:=r1.tw;obtain⟨vs,e3,q3⟩:=R1.at_ _ _ _ ea hm';exact⟨.inl ⟨rfl,vs,SqL.of e3⟩,Z1,_,[],O1,d,O',r1,.nil,R1,e,λZ3 H3 v3 x3 R3 r3=>k Z3 H3 v3 (x1.trans x3) R3 r3⟩
   ·cases e
  ·cases e
@[simp] def zSl:GM:=λx ds O=>match x,ds with
 |.loc n,[]=>match O[n]? with
  |some (.lst _)=>some (.non,O.set n (.lst []))
  |_=>none
 |_,_=>none
def zpt:MtG X "list.clear" zSl:=by
 refine MtG.of λU s Y H x xs v us Q I rx rs Z dx ds O d O' r1 r2 R e k=>?_;unfold zSl at e
 split at e
 ·split at e
  ·rename_i hm
   cases e;obtain⟨a,rfl,ea⟩:=r1.tw;obtain⟨vs,e3,q3⟩:=R.at_ _ _ _ ea hm;have kN:Mut (H a):=by rw[e3];trivial
   exact zSt U s Y H _ _ v us Q I rx rs ⟨a,vs,rfl,r2.nil_inv,e3,k Z _ _ (Ext.wr kN) (R.wr kN ea ⟨_,zy,.nil⟩) .non⟩
  ·cases e
 ·cases e
def zBu{o:yE}{kA:xn}(ho:ME X o G)(kE:YB o "clear" X.env (Yd o X.env)=Yd o X.env:=by rfl)(kB:(kA.endLine==pos.line)=true:=by rfl):ME X (.Call (.Attribute o "clear" kA) [] [] pos) (zZn zSl G) :=
 zRt PySem.F.slot_list_clear PySem.F.type_list_clear zpt ho kE kB
@[simp] def zwk:GM:=λx ds O=>match x,ds with
 |.loc n,[d]=>match O[n]? with
  |some (.lst xs)=>bif zVc d&&xs.all zVc then some (.int (xs.countP λy=>eqF y d:Nat),O) else none
  |_=>none
 |_,_=>none
def zHn{x:V}:∀{xs:Wi} {us:Qh},Vals xs us->xs.all zPj=true->us.countP (eqU x)=xs.countP λy=>eqV y x
 |_,_,.nil,_=>rfl
 |y::xs,u::us,.cons r t,f=>by
  rw[La,yK]at f;rw[Lg,Lg,zys r f.1,zHn t f.2]
def zVn{K:yw}{Z:Qv}{H:Hp}{x:D}{v:V}(rx:tu K Z H x v)(fx:zVc x=true):∀{ds:Wm} {vs:Wi},tf K Z H ds vs->ds.all zVc=true->(vs.countP λy=>eqV y v)=ds.countP λd=>eqF d x
 |[],_,r,_=>by rw[r.nil_inv];rfl
 |d::ds,_,r,f=>by
  obtain⟨w,ws,rfl,r1,r2⟩:=r.cons_inv;rw[La,yK]at f;rw[Lg,Lg,zVn rx fx r2 f.2,zot r1 rx f.1 fx]
def zEs:MtG X "list.count" zwk:=by
 refine MtG.of λU s Y H x xs v us Q I rx rs Z dx ds O d O' r1 r2 R e k=>?_;unfold zwk at e
 split at e
 ·split at e
  ·rename_i hm
   obtain⟨h1,e⟩:=zV e;rw[yK]at h1;cases e;obtain⟨a,rfl,ea⟩:=r1.tw;obtain⟨vs,e3,q3⟩:=R.at_ _ _ _ ea hm;obtain⟨w,r,rfl,q1,q2⟩:=r2.cons_inv;rw[q2.nil_inv]at rs;obtain⟨u,rfl,ru⟩:=vals1 rs;cases rx;obtain⟨z,hJ,n,rv,hl,el⟩:=I.sE e3;obtain⟨fv,_⟩:=zhq q1 h1.1 q3 h1.2;refine Xr PySem.F.slot_list_count ⟨_,el,rfl⟩ PySem.F.entry_list_count (PySem.F.args_list_count_2 _ _) (SeqAt.list_countAt a hJ.toArray n _ _ u (eqU w)) ⟨el,λy hy=>zJg ru (ztj q1 h1.1) rv fv y (by simpa using hy),?_⟩;refine⟨.int _,H,I.tok _,⟨_,rfl⟩,?_⟩;rw[show hJ.toArray.toList=hJ by simp,zHn rv fv,zVn q1 h1.1 q3 h1.2];exact k Z H _ Ext.refl R .int
  ·cases e
 ·cases e
def z9u{o:yE}{ψ:FA}{kA:xn}(ho:ME X o G)(ha:MAn X (e::es) ψ)
 (kE:YB o "count" X.env (Yd o X.env)=Yd o X.env:=by rfl)
 (kF:((Yl pos (yj (e::es) X.env)).all (λx=>!x.1)&&(xP pos (YT [] X.env)).all (λx=>x.1.isSome)
  && decide ((e::es).length+([]:List xN).length+(if([]:List xN).isEmpty then 0 else 1)<30))=true:=by rfl)
 (kB:(kA.endLine==pos.line)=true:=by rfl) (hs:yj (e::es) X.env=(false,Yd e X.env)::yj es X.env:=by rfl) (kD:(Yl pos (yj es X.env)).any (·.1)=false:=by rfl) :
 ME X (.Call (.Attribute o "count" kA) (e::es) [] pos) (zji zwk G ψ):=zgm PySem.F.slot_list_count PySem.F.type_list_count zEs ho ha kE kF kB hs kD
@[simp] def zPi:GM:=λx ds O=>match x,ds with
 |.loc n,[.int i]=>match O[n]? with
  |some (.lst xs)=>(zDi xs).bind λns=>bif ns.contains i then some (.non,O.set n (.lst ((ns.erase i).map .int))) else none
  |_=>none
 |_,_=>none
def zsp{i:Int}:∀{ns:Qg},i∈ns->∃j,∃hj:j<ns.length,ns[j]=i/\(∀m (hm:m<ns.length),m<j->ns[m]≠i)/\ns.erase i=ns.eraseIdx j
 |[],h=>by cases h
 |n::ns,h=>by
  by_cases hn:n=i
  ·exact⟨0,by simp,hn,λm _ hm=>absurd hm (Nat.not_lt_zero _),by simp[hn]⟩
  ·have h':i∈ns:=by
    rcases List.mem_cons.mp h with h|h
    ·exact absurd h.symm hn
    ·exact h
   obtain⟨j,hj,e1,e2,e3⟩:=zsp h';refine⟨j+1,by simpa using hj,by simpa using e1,λm hm hmj=>?_,?_⟩
   ·cases m with
    |zero=>simpa using hn
    |succ m=>simpa using e2 m (by simpa using hm) (by omega)
   ·rw[List.erase_cons_tail (by simpa using hn),e3,List.eraseIdx_cons_succ]
def zfo{α β:Type}(f:α->β):∀(l:List α)(j:Nat),(l.eraseIdx j).map f=(l.map f).eraseIdx j
 |[],j=>by simp
 |x::l,0=>by simp
 |x::l,j+1=>by simp[zfo f l j]
def zCl:∀{vs:Wi} {us:Qh} (j:Nat),Vals vs us->Vals (vs.eraseIdx j) (us.eraseIdx j)
 |_,_,_,.nil=>by simp;exact .nil
 |_,_,0,.cons r t=>by simpa using t
 |_,_,j+1,.cons r t=>by rw[List.eraseIdx_cons_succ,List.eraseIdx_cons_succ];exact .cons r (zCl j t)
def zmr:MtG X "list.remove" zPi:=by
 refine MtG.of λU s Y H x xs v us Q I rx rs Z dx ds O d O' r1 r2 R e k=>?_;unfold zPi at e
 split at e
 ·rename_i l i
  split at e
  ·rename_i hm
   obtain⟨ns,e2,e⟩:=zj e;obtain⟨h1,e⟩:=zV e;cases e;rw[z3e e2]at hm;obtain⟨a,rfl,ea⟩:=r1.tw;obtain⟨vs,e3,q3⟩:=R.at_ _ _ _ ea hm;rw[zIh q3]at e3;obtain⟨w,r,rfl,q1,q2⟩:=r2.cons_inv;rw[q2.nil_inv,q1.int_inv]at rs;obtain⟨u,rfl,ru⟩:=vals1 rs;obtain⟨t,rfl⟩:=ru;cases rx;obtain⟨z,hJ,n,rv,hl,el⟩:=I.sE e3;obtain⟨j,hj,hit,hno,her⟩:=zsp (show i∈ns by simpa using h1);have hW:hJ.length=ns.length:=by rw[<-rv.length];simp
   have at_:∀m (hm:m<hJ.length),∃t,hJ[m]=.int (ns[m]'(by omega)) t:=λm hm=>by
    have hg:(ns.map V.int)[m]?=some (.int (ns[m]'(by omega))):=by simp[show m<ns.length by omega]
    obtain⟨u,hu,t,ru⟩:=rv.get hg;exact⟨t,by rw[<-ru];exact(List.getElem?_eq_some_iff.mp hu).2⟩
   let f:Value->Bool:=λy=>match y with | .int z _=>z==i|_=>false
   have hz':hJ.length<=yF:=by rw[<-rv.length];exact z
   refine Xr PySem.F.slot_list_remove ⟨_,el,rfl⟩ PySem.F.entry_list_remove (PySem.F.args_list_remove_2 _ _)
    (MeetsSeq.list_remove a hJ.toArray n (.int i t) f (λy hy=>?_) j (by simp;omega) ?_ (λm hm hmj=>?_) (by simpa using hz')) ⟨el,?_⟩
   ·obtain⟨m,hm,rfl⟩:=List.mem_iff_getElem.mp (show y∈hJ by simpa using hy);obtain⟨t',e'⟩:=at_ m hm;rw[e'];exact MeetsSeq.EqGives.int _ _ _ _
   ·obtain⟨t',e'⟩:=at_ j (by omega);show f hJ[j]=true;rw[e'];simp[f,hit]
   ·have hm':m<hJ.length:=by simpa using hm
    obtain⟨t',e'⟩:=at_ m hm';show f hJ[m]=false;rw[e'];simpa[f] using hno m (by omega) hmj
   ·have kN:Mut (H a):=by rw[e3];trivial
    refine⟨.non,_,I.Sw (t':=s.toks) (ys:=(ns.erase i).map V.int) (hJ':=hJ.eraseIdx j) e3 el ?_ ?_ ?_,rfl,k Z _ _ (Ext.wr kN) (R.wr kN ea ⟨_,zy,zjf⟩) .non⟩
    ·simp[Array.eraseIdxIfInBounds,show j<hJ.length by omega]
    ·rw[her,zfo];exact zCl j rv
    ·have:(ns.erase i).length<=ns.length:=by rw[her];exact List.length_eraseIdx_le _ _
     rw[Lv]at z ⊢;omega
  ·cases e
 ·cases e
def zFr{o:yE}{ψ:FA}{kA:xn}(ho:ME X o G)(ha:MAn X (e::es) ψ)
 (kE:YB o "remove" X.env (Yd o X.env)=Yd o X.env:=by rfl)
 (kF:((Yl pos (yj (e::es) X.env)).all (λx=>!x.1)&&(xP pos (YT [] X.env)).all (λx=>x.1.isSome)
  && decide ((e::es).length+([]:List xN).length+(if([]:List xN).isEmpty then 0 else 1)<30))=true:=by rfl)
 (kB:(kA.endLine==pos.line)=true:=by rfl) (hs:yj (e::es) X.env=(false,Yd e X.env)::yj es X.env:=by rfl) (kD:(Yl pos (yj es X.env)).any (·.1)=false:=by rfl) :
 ME X (.Call (.Attribute o "remove" kA) (e::es) [] pos) (zji zPi G ψ):=zgm PySem.F.slot_list_remove PySem.F.type_list_remove zmr ho ha kE kF kB hs kD
@[simp] def zYx(i:Nat)(g:φ2)(G:FE):FS:=λJ O=>match J[i]? with
 |some (some x)=>(G J O).bind λp=>(g x p.1 p.2).bind λq=>some (.next (J.set i (some q.1)) q.2)
 |_=>none
def z9t:φ2:=λx y O=>match x,y with
 |.int i,.int j=>some (.int (i+j),O)
 |_,_=>none
def zhw:OpM X (inplaceOp .Add) z9t:=by
 refine OpM.of λU s Y H x y v u Q I rx ry Z dx dy O d O' r1 r2 R e k=>?_;unfold z9t at e
 split at e
 ·cases e;exact z1v U s Y H x y v u Q I rx ry ⟨_,_,r1.int_inv,r2.int_inv,k Z H _ Ext.refl R .int⟩
 ·cases e
def zby{x:yt}{op:Operator}{g:φ2}{pos':xn}(i:Nat)(ho:OpM X (inplaceOp op) g)(he:ME X e G)(hN:X.N.Nodup:=by assumption)(hi:X.N[i]?=some x:=by rfl)(hx:L2.Loc X.env.scope x:=by first|exact Or.inl rfl|exact Or.inr rfl)
 (hf:X.fn x=true\/X.env.scope.names.lookup x=some .local:=by first|exact .inl rfl|exact .inr rfl|assumption):MS X (.AugAssign (.Name x pos') op e pos) (zYx i g G) :=
 zRk (zbz (ti:=rM X.K g) hN hi hx he (λU s Y H x y v u Q I rx ry q=>ho U s Y H x y v u Q I rx ry q) hf) λZ J O Y H o E A e k=>by
  unfold zYx at e
  split at e
  ·rename_i d hd
   obtain⟨v,hv,rv⟩:=A.st i _ hd;obtain⟨⟨y,O1⟩,e1,e⟩:=zj e;obtain⟨⟨z,O2⟩,e2,e⟩:=zj e;cases e;refine⟨v,hv,Z,J,O,y,O1,A,e1,λZ1 H1 w x1 R1 r1=>?_⟩;refine⟨Z1,d,y,O1,z,O2,rv.ext x1,r1,R1,e2,λZ2 H2 w2 x2 R2 r2=>?_⟩;exact k Z2 _ H2 (x1.trans x2) ((A.ext (x1.trans x2) R2).set r2 i)
  ·cases e
def zbc(c:FT)(body:FS):Nat->FS
 |0,_,_=>none
 |n+1,J,O=>(c J O).bind λp=>bif p.1 then(match body J p.2 with
  |some (.next J' O')=>zbc c body n J' O'
  |some (.cont J' O')=>zbc c body n J' O'
  |some (.brk J' O')=>some (.next J' O')
  |some (.ret d O')=>some (.ret d O')
  |some (.exc C fs O')=>some (.exc C fs O')
  |none=>none) else some (.next J p.2)
def zTl(n:Nat)(c:FT)(body:FS):FS:=zbc c body n
def zwj{body:We}{t:FT}{p:FS}(n:Nat)(hc:MT X c t)(hb:MSs X body p)(hx:PassesOwn (yv X.prog X.w) X.A X.env X.xe:=by first|exact PassesOwn.never|exact PassesOwn.leaving):MS X (.While c body [] pos) (zTl n t p) :=
 zRk (zgu hx hc hb) λZ J O Y H o E A e k=>by
  refine⟨λm Y' H'=>∃Z' J' O',Ext Z H Z' H'/\At X.K Z' H' Y' J' O'/\zbc t p m J' O'=some o,⟨n,Z,J,O,Ext.refl,A,e⟩,?_⟩;rintro m Y' H' ⟨Z',J',O',x',A',ew⟩
  cases m with
  |zero=>cases ew
  |succ m=>
   unfold zbc at ew;obtain⟨⟨b,O1⟩,e1,ew⟩:=zj ew;refine⟨Z',J',O',b,O1,A',e1,λZ1 H1 x1 R1=>?_⟩;have xx:=x'.trans x1
   cases b with
   |false=>
    cases ew;exact So (k Z1 Y' H1 xx (A'.ext x1 R1))
   |true=>
    refine Sq ⟨λY3 H3=>∃Z3 J3 O3,Ext Z H Z3 H3/\At X.K Z3 H3 Y3 J3 O3/\zbc t p m J3 O3=some o,λY3 H3 q=>⟨m,Ye _,q⟩,?_⟩;dsimp only[cond_true]at ew
    cases eb:p J' O1 with
    |none=>rw[eb]at ew;cases ew
    |some ob=>
     rw[eb]at ew;refine⟨Z1,J',O1,ob,A'.ext x1 R1,eb,?_⟩
     cases ob with
     |next J6 O6=>exact λZ6 Y6 H6 x6 A6=>⟨Z6,J6,O6,xx.trans x6,A6,ew⟩
     |cont J6 O6=>exact λZ6 Y6 H6 x6 A6=>⟨Z6,J6,O6,xx.trans x6,A6,ew⟩
     |brk J6 O6=>cases ew;exact k.ext xx
     |ret d O6=>cases ew;exact k.ext xx
     |exc C fs O6=>cases ew;exact k.ext xx
end
end M
namespace L2
open PySem PySem.Spec PyProof.Rows
section
variable {κ:Type}[DecidableEq κ]
def zcq(hG:List (κ×V))(k:κ):Option V:=(hG.find? λkv=>decide (kv.1=k)).map (·.2)
def zrd(hG:List (κ×V))(k:κ)(v:V):List (κ×V) :=
 if(hG.any λkv=>decide (kv.1=k))=true then hG.map (λkv=>if kv.1=k then(kv.1,v) else kv) else hG++[(k,v)]
def z7p{p:κ×V}{r:List (κ×V)}{k:κ}(e:p.1=k):zcq (p::r) k=some p.2:=by simp[zcq,Xf,e]
def zFp{p:κ×V}{r:List (κ×V)}{k:κ}(e:¬p.1=k):zcq (p::r) k=zcq r k:=by simp[zcq,Xf,e]
def zIk(hG:List (κ×V))(k:κ)(v:V):(zrd hG k v).length<=hG.length+1:=by
 unfold zrd
 split
 ·rw[Lv];omega
 ·rw[Lr,Ls,List.length_nil];omega
def TQ.sI{o:Option V}{u:Qi}(r:TQ o u):o.isSome=u.isSome:=by
 cases o with
 |none=>cases u with
  |none=>rfl
  |some _=>exact(show False from r).elim
 |some _=>cases u with
  |none=>exact(show False from r).elim
  |some _=>rfl
def KV.val{hG:List (κ×V)}{vs:List (κ×Value)}(r:KV hG vs)(k:κ):TQ (zcq hG k) (valueAt vs k):=by
 unfold KV at r
 induction r with
 |nil=>exact xX
 |@cons p q ps qs h t ih=>
  obtain⟨h1,h2⟩:=h
  by_cases e:p.1=k
  ·have e':q.1=k:=h1.symm.trans e;have b:valueAt (q::qs) k=some q.2:=by simp[valueAt,Xf,e']
   rw[z7p e,b];exact h2
  ·have e':¬q.1=k:=λz=>e (h1.trans z);have b:valueAt (q::qs) k=valueAt qs k:=by simp[valueAt,Xf,e']
   rw[zFp e,b];exact ih
def KV.any{hG:List (κ×V)}{vs:List (κ×Value)}(r:KV hG vs)(k:κ):(hG.any λkv=>decide (kv.1=k))=vs.any λkv=>decide (kv.1=k):=by
 unfold KV at r
 induction r with
 |nil=>rfl
 |cons h t ih=>rw[Lb,Lb,ih,h.1]
def KV.repl{hG:List (κ×V)}{vs:List (κ×Value)}(r:KV hG vs)(k:κ){y:V}{u:Value}(ry:RelV y u) :
 KV (hG.map λkv=>if kv.1=k then(kv.1,y) else kv) (vs.map λkv=>if kv.1=k then(kv.1,u) else kv):=by
 unfold KV at r ⊢
 induction r with
 |nil=>exact .nil
 |@cons p q ps qs h t ih=>
  rw[Ng,Ng];refine .cons ?_ ih;obtain⟨h1,h2⟩:=h
  by_cases e:p.1=k
  ·rw[if_pos e,if_pos (h1.symm.trans e)];exact⟨h1,ry⟩
  ·rw[if_neg e,if_neg (λz=>e (h1.trans z))];exact⟨h1,h2⟩
def KV.put{hG:List (κ×V)}{vs:List (κ×Value)}(r:KV hG vs)(k:κ){y:V}{u:Value}(ry:RelV y u):KV (zrd hG k y) (stored vs k u):=by
 unfold zrd stored;rw[r.any k]
 by_cases e:(vs.any λkv=>decide (kv.1=k))=true
 ·rw[if_pos e,if_pos e];exact r.repl k ry
 ·rw[if_neg e,if_neg e];exact Paired.snoc r ⟨rfl,ry⟩
def KV.keys{hG:List (κ×V)}{vs:List (κ×Value)}(r:KV hG vs):hG.map (·.1)=vs.map (·.1):=by
 unfold KV at r
 induction r with
 |nil=>rfl
 |cons h t ih=>rw[Ng,Ng,ih,h.1]
def KV.length{hG:List (κ×V)}{vs:List (κ×Value)}(r:KV hG vs):hG.length=vs.length:=Paired.length r
end
def zyq{P:yy}{w:yI}{k:Key}{u:Value}(r:RelV (kV k) u):(zlb P w).is k u=true:=by
 cases k with
 |inl i=>obtain⟨t,e⟩:=(show ∃t,u=Value.int i t from r);subst e;exact zQo P w i t
 |inr x=>obtain⟨t,e⟩:=(show ∃t,u=Value.str x t from r);subst e;exact zpo P w x t
def zry{P:yy}{w:yI}{H:Hp}{h:yT}{a:yf}{hG:Wj}(ok:HOk P w H h)(e:H a=some (.dK hG)):hG.length<=yF/\(a==sysModules)=false/\∃vs,KV hG vs/\h.DictOf (zlb P w) a vs :=
 show tF P w H h a (.dK hG) from ok a _ e
end L2
namespace M
open PySem PySem.Spec PyProof.Rows L2
def zPc(hG:Wp)(i:Int):Wn:=(hG.find? λp=>decide (p.1=i)).map (·.2)
def zYk(hG:Wp)(i:Int)(d:D):Wp:=if(hG.any λp=>decide (p.1=i))=true then hG.map (λp=>if p.1=i then(p.1,d) else p) else hG++[(i,d)]
@[simp] def ztb(O:Mem):D->Option (Wp)
 |.loc n=>match O[n]? with
  |some (.dct hG)=>some hG
  |some (.dcf hG)=>some hG
  |_=>none
 |_=>none
def RdK(H:Hp)(a:yf)(vs:Wj):Prop:=H a=some (.dK vs)\/∃o,H a=some (.frz o (.dK vs))
def z3g{P:yy}{w:yI}{H:Hp}{h:yT}{a:yf}{hG:Wj}(ok:HOk P w H h)(e:RdK H a hG):hG.length<=yF/\(a==sysModules)=false/\∃vs,KV hG vs/\h.DictOf (zlb P w) a vs:=by
 rcases e with e|⟨o,e⟩
 ·exact zry ok e
 ·exact(show tF P w H h a (.frz o (.dK hG)) from ok a _ e).2
section
variable {K:yw}{Z:Qv}{H:Hp}{O:Mem}
def zGe{d:D}{v:V}{hG:Wp}(R:tG K Z H O)(r:tu K Z H d v)(e:ztb O d=some hG):∃p vs,v=.ref p/\RdK H p vs/\vs.map (·.1)=hG.map (λp=>yP p.1)/\tf K Z H (hG.map (·.2)) (vs.map (·.2)):=by
 unfold ztb at e
 split at e
 ·split at e
  ·rename_i hm
   cases e;obtain⟨a,e1,e2⟩:=r.tw;obtain⟨vs,e3,q1,q2⟩:=R.at_ _ _ _ e2 hm;exact⟨a,vs,e1,.inl e3,q1,q2⟩
  ·rename_i hm
   cases e;obtain⟨a,e1,e2⟩:=r.tw;obtain⟨o,vs,e3,q1,q2⟩:=R.at_ _ _ _ e2 hm;exact⟨a,vs,e1,.inr ⟨o,e3⟩,q1,q2⟩
  ·cases e
 ·cases e
def zRh:∀{hG:Wp} {vs:Wj} (i:Int),vs.map (·.1)=hG.map (λp=>yP p.1)->tf K Z H (hG.map (·.2)) (vs.map (·.2)) ->
 (∀d,zPc hG i=some d->∃v,zcq vs (yP i)=some v/\tu K Z H d v)/\(zPc hG i=none->zcq vs (yP i)=none)
 |[],vs,i,h1,h2=>by
  have:vs=[]:=by simpa using h1
  subst this;exact⟨λd h=>(by cases h),λ_=>rfl⟩
 |(j,d)::hG,vs,i,h1,h2=>by
  cases vs with
  |nil=>simp at h1
  |cons q vs=>
   obtain⟨k,v⟩:=q;rw[Ng,Ng,xF]at h1;obtain⟨hk,h1⟩:=h1;have hk:k=yP j:=hk;subst hk;obtain⟨v',r,e,q1,q2⟩:=h2.cons_inv;rw[Ng,xF]at e;obtain⟨e1,e2⟩:=e;subst e2;have e1:v=v':=e1;subst e1;obtain⟨ih1,ih2⟩:=zRh i h1 q2
   by_cases hj:j=i
   ·subst hj;have a1:zPc ((j,d)::hG) j=some d:=by simp[zPc]
    have a2:zcq ((yP j,v)::vs) (yP j)=some v:=z7p rfl;rw[a1,a2];exact⟨λd' h=>(by cases h;exact⟨v,rfl,q1⟩),λh=>(by cases h)⟩
   ·have a1:zPc ((j,d)::hG) i=zPc hG i:=by simp[zPc,hj]
    have a2:zcq ((yP j,v)::vs) (yP i)=zcq vs (yP i):=zFp (λz=>hj (by simpa using z));rw[a1,a2];exact⟨ih1,ih2⟩
def zuh(hG:Wp)(vs:Wj)(i:Int)(d:D)(v:V)(h:vs.map (·.1)=hG.map (λp=>yP p.1)):(zrd vs (yP i) v).map (·.1)=(zYk hG i d).map (λp=>yP p.1):=by
 have hany:(vs.any λkv=>decide (kv.1=yP i))=hG.any λp=>decide (p.1=i):=by
  have e1:(vs.any λkv=>decide (kv.1=yP i))=(vs.map (·.1)).any λk=>decide (k=yP i):=by rw[Ld];rfl
  rw[e1,h,Ld]
  congr 1
  funext p
  simp
 unfold zrd zYk;rw[hany]
 split
 ·rw[Nh,Nh]
  have e1:(λx:Key×V=>x.1)∘(λkv=>if kv.1=yP i then(kv.1,v) else kv)=λx=>x.1:=by
   funext x;simp only[Function.comp];split<;>rfl
  have e2:(λp:Int×D=>(yP p.1:Key))∘(λp=>if p.1=i then(p.1,d) else p)=λp=>yP p.1:=by
   funext x;simp only[Function.comp];split<;>rfl
  rw[e1,e2];exact h
 ·simp[h]
def zOp:∀(hG:Wp) (vs:Wj) (i:Int) {d:D} {v:V},tu K Z H d v->vs.map (·.1)=hG.map (λp=>yP p.1)->tf K Z H (hG.map (·.2)) (vs.map (·.2)) ->
 tf K Z H ((hG.map λp=>if p.1=i then(p.1,d) else p).map (·.2)) ((vs.map λkv=>if kv.1=yP i then(kv.1,v) else kv).map (·.2))
 |[],vs,i,d,v,r,h1,h2=>by
  have:vs=[]:=by simpa using h1
  subst this;exact .nil
 |(j,e)::hG,vs,i,d,v,r,h1,h2=>by
  cases vs with
  |nil=>simp at h1
  |cons q vs=>
   obtain⟨k,u⟩:=q;rw[Ng,Ng,xF]at h1;obtain⟨hk,h1⟩:=h1;have hk:k=yP j:=hk;subst hk;obtain⟨v',r',e',q1,q2⟩:=h2.cons_inv;rw[Ng,xF]at e';obtain⟨e1,e2⟩:=e';subst e2;have e1:u=v':=e1;subst e1;have ih:=zOp hG vs i r h1 q2;simp only[Ng]
   by_cases hj:j=i
   ·subst hj;rw[if_pos rfl,if_pos rfl];exact .cons r ih
   ·rw[if_neg hj,if_neg (λz=>hj (by simpa using z))];exact .cons q1 ih
def zDs{hG:Wp}{vs:Wj}{i:Int}{d:D}{v:V}(r:tu K Z H d v)(h1:vs.map (·.1)=hG.map (λp=>yP p.1))(h2:tf K Z H (hG.map (·.2)) (vs.map (·.2))) :
 tf K Z H ((zYk hG i d).map (·.2)) ((zrd vs (yP i) v).map (·.2)):=by
 have hany:(vs.any λkv=>decide (kv.1=yP i))=hG.any λp=>decide (p.1=i):=by
  have e1:(vs.any λkv=>decide (kv.1=yP i))=(vs.map (·.1)).any λk=>decide (k=yP i):=by rw[Ld];rfl
  rw[e1,h1,Ld]
  congr 1
  funext p
  simp
 unfold zrd zYk;rw[hany]
 split
 ·exact zOp hG vs i r h1 h2
 ·simp only[Nd,Ng,Ni];exact h2.append (.cons r .nil)
variable {X:Cx}{a b c e:yE}{es:Qz}{G ψ χ:FE}{pos:xn}
@[simp] def zdr:φ2:=λx y O=>match y with
 |.int i=>(ztb O x).bind λhG=>(zPc hG i).bind λd=>some (d,O)
 |_=>none
def zrw{U:Qb}{s:yc}{Y:L2.St}{H:Hp}{p:yf}{vs:Wj}{k:Key}{v:V}{u:Value}{A:yJ}{E:Value->yc->Prop}{Q:Value->yc->Prop}(I:Inv X U Y H s)(e:RdK H p vs)(l:zcq vs k=some v)(ry:RelV (kV k) u)
 (h:∀w' s',Inv X U Y H s'->RelV v w'->Q w' s'):yo (yv X.prog X.w) A (getItem (.ref p) u) Q E s:=by
 obtain⟨z,hd,us,rel,dd⟩:=z3g I.hok e;obtain⟨w',hw,rw'⟩:=TQ.some_of (v:=v) (o:=valueAt us k) (by rw[<-l];exact rel.val k);exact wpAny_getItem_of (zyq ry) dd.mapOf hw (h w' _ (I.tok _) rw')
def ixD:IxR X (rM X.K zdr):=by
 intro value slice U s Y H x y v u Q I rx ry ⟨Z,dx,dy,O,d,O',r1,r2,R,e,k⟩ hs;unfold zdr at e
 split at e
 ·rename_i i
  obtain⟨hG,e1,e⟩:=zj e;obtain⟨d',e2,e⟩:=zj e;cases e;obtain⟨p,vs,rfl,hq,q1,q2⟩:=zGe R r1 e1;obtain⟨w',e3,rw'⟩:=(zRh i q1 q2).1 _ e2;cases rx;rw[r2.int_inv]at ry
  have hT:s.TypeIs (.ref p) "dict":=by
   obtain⟨_,_,us,_,dd⟩:=z3g I.hok hq;exact dd.typeIs
  unfold subscriptTail;refine ya ?_;rw[getitemInPython_of_ne hT.not_modules];refine ya (xp hT PySem.F.slot_dict_getitem.lookup ?_)
  have fin:yo (yv X.prog X.w) X.A (subscripted slice false (.ref p) u) (λr s₃=>yo (yv X.prog X.w) X.A (letTemporaryGo value (.ref p) r >>= λ_=>pure r) (EP X U Y Q) X.xe s₃) X.xe s:=by
   rw[hs];exact wpAny_operating (zrw I hq e3 ry λw2 s2 I2 r2=>ya (wpAny_letTemporaryGo (ye ⟨_,H,I2,r2,k Z H _ Ext.refl R rw'⟩)))
  first
   |exact ye (ya fin)
   |exact ya (ye (ya fin))
   |exact ya fin
 ·cases e
def zdj(ha:ME X a G)(hb:ME X b ψ)(hs:zto b:=by intro _ _;rfl):ME X (.Subscript a b pos) (zD zdr G ψ) :=
 zge (zAy ixD ha hb hs) λ_ _ _ _ _ _ _ _ A e k=>zqt A e k
@[simp] def ztA:φ2:=λx y O=>match x with
 |.int i=>(ztb O y).bind λhG=>some (.bl (zPc hG i).isSome,O)
 |_=>none
@[simp] def zik:φ2:=λx y O=>match x with
 |.int i=>(ztb O y).bind λhG=>some (.bl (!(zPc hG i).isSome),O)
 |_=>none
def zyy{U:Qb}{s:yc}{Y:L2.St}{H:Hp}{p:yf}{vs:Wj}{k:Key}{u:Value}{A:yJ}{E:Value->yc->Prop}{Q:Value->yc->Prop}(I:Inv X U Y H s)(e:RdK H p vs)(ry:RelV (kV k) u)
 (h:∀s',Inv X U Y H s'->Q (.bool (zcq vs k).isSome) s'):yo (yv X.prog X.w) A (Yz .In u (.ref p)) Q E s:=by
 obtain⟨z,hd,us,rel,dd⟩:=z3g I.hok e;refine wpAny_in_of (zyq ry) hd dd.mapOf ?_;rw[<-(rel.val k).sI];exact h _ (I.tok _)
def zqp{K:yw}{Z:Qv}{H:Hp}{hG:Wp}{vs:Wj}(i:Int)(q1:vs.map (·.1)=hG.map (λp=>yP p.1))(q2:tf K Z H (hG.map (·.2)) (vs.map (·.2))):(zcq vs (yP i)).isSome=(zPc hG i).isSome:=by
 obtain⟨h1,h2⟩:=zRh i q1 q2
 cases e:zPc hG i with
 |none=>rw[h2 e];rfl
 |some d=>
  obtain⟨v,ev,_⟩:=h1 d e;rw[ev];rfl
def zgx:OpM X (Yz .In) ztA:=by
 refine OpM.of λU s Y H x y v u Q I rx ry Z dx dy O d O' r1 r2 R e k=>?_;unfold ztA at e
 split at e
 ·rename_i i
  obtain⟨hG,e1,e⟩:=zj e;cases e;obtain⟨p,vs,rfl,hq,q1,q2⟩:=zGe R r2 e1;cases ry;rw[r1.int_inv]at rx;refine zyy (k:=yP i) I hq rx λs' I'=>⟨.bl _,H,I',rfl,?_⟩
  rw[zqp i q1 q2];exact k Z H _ Ext.refl R .bl
 ·cases e
def z5q:OpM X (Yz .NotIn) zik:=by
 refine OpM.of λU s Y H x y v u Q I rx ry Z dx dy O d O' r1 r2 R e k=>?_;unfold zik at e
 split at e
 ·rename_i i
  obtain⟨hG,e1,e⟩:=zj e;cases e;obtain⟨p,vs,rfl,hq,q1,q2⟩:=zGe R r2 e1;cases ry;rw[r1.int_inv]at rx;obtain⟨z,hd,us,rel,dd⟩:=z3g I.hok hq;refine wpAny_notIn_of (zyq (k:=yP i) rx) hd dd.mapOf ⟨.bl _,H,I.tok _,rfl,?_⟩;rw[<-(rel.val (yP i)).sI,zqp i q1 q2];exact k Z H _ Ext.refl R .bl
 ·cases e
@[simp] def zRw(G ψ:FE):FG:=λd J O=>(G J O).bind λp=>(ψ J p.2).bind λq=>match p.1,q.1 with
 |.loc n,.int i=>match q.2[n]? with
  |some (.dct hG)=>bif decide (hG.length<=1000000) then some (J,q.2.set n (.dct (zYk hG i d))) else none
  |_=>none
 |_,_=>none
def z1t:zFz X (λo i v H Q=>∃p vs k,o=.ref p/\i=kV k/\H p=some (.dK vs)/\vs.length<yF/\Q (upd H p (.dK (zrd vs k v)))):=by
 intro U s Y H o i v ov iv u Q I ro ri rv ⟨p,vs,k,e1,e2,e3,hl,q⟩;subst e1 e2;cases ro;obtain⟨z,hd,us,rel,dd⟩:=zry I.hok e3;have hz:us.length<=yF:=by rw[<-rel.length];exact z
 have hl':(zrd vs k v).length<=yF:=by have:=zIk vs k v;omega
 refine wpAny_setItem_pairs (hsz:=hz) (zyq ri) dd λh' dd' hs=>⟨_,I.write (x:=p) (e:=p) (by rw[e3];exact xX) (.inl rfl) (λb q hb z=>(hs.2 b hb).trans z) ?_ (show tF X.prog X.w _ h' p (.dK (zrd vs k v)) from⟨hl',hd,_,rel.put k rv,dd'⟩),q⟩
 obtain⟨q,_,_,hq,_⟩:=dd';exact⟨q,hq⟩
def z4n{o i:yE}(ho:ME X o G)(hi:ME X i ψ)(ha:∀v,assign (.Subscript o i pos) X.env v=(do
 let ov <-xt [v] (Yd o X.env)
 let iv <-xt [v,ov] (Yd i X.env)
 standAt pos
 xt [v,ov,iv] (setItem ov iv v)
 release [v,ov,iv] []):=by intro _;rfl):MG X (.Subscript o i pos) (zRw G ψ) :=
 mg_of (zyv ho hi z1t ha) λZ J O d J' O' v Y H Q A q e k=>by
  obtain⟨⟨x,O1⟩,e1,e⟩:=zj e;obtain⟨⟨y,O2⟩,e2,e⟩:=zj e;refine⟨Z,J,O,x,O1,A,e1,λZ1 H1 v1 x1 R1 r1=>?_⟩;refine⟨Z1,J,O1,y,O2,A.ext x1 R1,e2,λZ2 H2 v2 x2 R2 r2=>?_⟩;dsimp only at e
  split at e
  ·rename_i n j _
   split at e
   ·rename_i hG hm
    obtain⟨h1,e⟩:=zV e;have h1:=of_decide_eq_true h1;cases e;obtain⟨ad,rfl,hr⟩:=(r1.ext x2).tw;obtain⟨vs,hv,q1,q2⟩:=R2.at_ _ _ _ hr hm;have kN:Mut (H2 ad):=by rw[hv];trivial
    have hW:vs.length=hG.length:=by
     have:=congrArg List.length q1;simpa using this
    have hmi:=Tv;refine⟨ad,vs,yP j,rfl,r2.int_inv,hv,by omega,?_⟩;have xx:=x1.trans x2;have R3:=R2.wr (o:=.dK (zrd vs (yP j) v)) (lo:=.dct (zYk hG j d)) kN hr ⟨_,zy,zuh hG vs j d v q1,tf.ext (Ext.wr kN) (zDs (q.ext xx) q1 q2)⟩;exact k Z2 Y _ (xx.trans (Ext.wr kN)) (A.ext (xx.trans (Ext.wr kN)) R3)
   ·cases e
  ·cases e
def z2f(hG:Wp):Wm:=hG.map λp =>.int p.1
@[simp] def zSn:GL:=λds O=>match ds with
 |[x]=>(ztb O x).bind λhG=>some (.loc O.length,O++[.lst (z2f hG)])
 |_=>none
def z5r{P:yy}{w:yI}{H:Hp}{h:yT}{p:yf}{vs:Wj}(ok:HOk P w H h)(e:RdK H p vs):∃us ep,KV vs us/\h.DictAt (zlb P w) p us ep:=by
 obtain⟨_,_,us,rel,o,es,ep,h1,h2,h3,h4⟩:=z3g ok e;exact⟨us,ep,rel,o,es,h1,h2,h3,h4⟩
def zjk{P:yy}{w:yI}:∀{vs:Wj} {us:List (Key×Value)} {hJ:Qh},KV vs us->hJ.length=us.length->(∀(j:Nat)(v:Value),hJ[j]?=some v->∃(k:Key)(x:Value),us[j]?=some (k,x)/\(zlb P w).is k v=true)->Vals (vs.map λp=>kV p.1) hJ
 |[],us,hJ,r,hl,h=>by
  cases r;have:hJ=[]:=List.length_eq_zero_iff.mp (by simpa using hl);subst this;exact .nil
 |p::vs,us,hJ,r,hl,h=>by
  cases r with
  |@cons _ q _ qs hq t=>
   cases hJ with
   |nil=>simp at hl
   |cons i hJ=>
    refine .cons ?_ (zjk t (by simpa using hl) λj v e=>by
     obtain⟨k,x,h1,h2⟩:=h (j+1) v (by simpa using e);exact⟨k,x,by simpa using h1,h2⟩)
    obtain⟨k,x,h1,h2⟩:=h 0 i rfl;have e:q=(k,x):=by simpa using h1
    have ek:p.1=k:=by rw[hq.1,e]
    show RelV (kV p.1) i;rw[ek]
    cases k with
    |inl n=>
     rcases zsb ((zTi P w _ _).symm.trans h2) with ⟨j,t,e1,e2⟩|⟨j,t,e1,e2⟩
     ·cases e1;exact⟨t,e2⟩
     ·cases e1
    |inr n=>
     rcases zsb ((zTi P w _ _).symm.trans h2) with ⟨j,t,e1,e2⟩|⟨j,t,e1,e2⟩
     ·cases e1
     ·cases e1;exact⟨t,e2⟩
def zfp(hc:X.calm=true):Ta X (.type "list") zSn:=by
 refine Ta.of λU s Y H xs us Q I r Z ds O d O' r1 R e k=>?_;unfold zSn at e
 split at e
 ·obtain⟨hG,e1,e⟩:=zj e;cases e;obtain⟨v,rr,rfl,q1,q2⟩:=r1.cons_inv;rw[q2.nil_inv]at r;obtain⟨p,vs,rfl,hq,w1,w2⟩:=zGe R q1 e1;obtain⟨u,rfl,ru⟩:=vals1 r;cases ru;obtain⟨hz,hd,_⟩:=z3g I.hok hq;obtain⟨us',ep,rel,da⟩:=z5r I.hok hq;have hl:=rel.length;refine W.kdl_call (W.kdl_dict hd) (I.ok.hd hc) da (by omega) λh' tk hZ' c' kp e2 hi=>?_;obtain⟨hi1,hi2⟩:=hi;have hv:=zjk (P:=X.prog) (w:=X.w) (hJ:=hZ'.toList) rel (by simpa using hi1) λj v e=>hi2 j v (by simpa using e)
  have hkv:(vs.map λp=>kV p.1)=(hG.map λp=>V.int p.1):=by
   have:(vs.map (·.1)).map kV=(hG.map λp=>(yP p.1:Key)).map kV:=by rw[w1]
   rw[Nh,Nh]at this;exact this
  rw[hkv]at hv
  have gA:hG.length=vs.length:=by
   have:=congrArg List.length w1;simpa using this.symm
  have hf:=I.fresh;refine⟨.ref s.heap.objs.size,_,I.laid (t':=tk) kp (yh _) (show tF X.prog X.w _ h' _ (.lst _) from⟨by simp;omega,hZ'.toList,c',hv,by simpa using e2⟩),rfl,k _ _ _ (Ext.push hf) (R.push hf ⟨_,zy,?_⟩) (.loc (zub R))⟩;have hr:=λZ H=>@zjf X.K Z H (hG.map (·.1));simp only[Nh]at hr;exact hr _ _
 ·cases e
end
def Itd(a:yf)(o:YS)(vs:Wj):It:=⟨λi H=>H a=some (.frz o (.dK vs))/\i<vs.length,λi H x H'=>H'=H/\∃p,vs[i]?=some p/\x=kV p.1,λi H=>H a=some (.frz o (.dK vs))/\vs.length<=i⟩
def zop{P:yy}{w:yI}{H:Hp}{h:yT}{a:yf}{o:YS}{vs:Wj}{es:Array DictEntry}{ep:Nat}(ok:HOk P w H h)(e:H a=some (.frz o (.dK vs)))(hd:o.data=.dict es ep):∃us,KV vs us/\h.DictAt (zlb P w) a us ep:=by
 obtain⟨h0,_,_,us,rel,o',es',ep',h1,h2,h3,h4⟩:=(show tF P w H h a (.frz o (.dK vs)) from ok a _ e)
 rw[h0]at h1;cases h1;rw[hd]at h3;cases h3;exact⟨us,rel,o,es,h0,h2,hd,h4⟩
def zIs{P:yy}{w:yI}{K:yw}{tg:yE}(a it:yf)(o:YS)(vs:Wj)(es:Array DictEntry)(ep:Nat)(hd:o.data=.dict es ep):Turn P w K tg (Itd a o vs) [it] it (λi h=>h.IsKeyIter it a i vs.length ep) where
 mem:=by simp
 obj:=λi h st b hb=>by
  have e:b=it:=by simpa using hb
  subst e;obtain⟨o,e,c,d⟩:=st;exact⟨o,e,λv z=>by rw[d]at z;cases z⟩
 keep:=λi h h' st k=>st.at λo e=>k it (by simp) o e
 item:=by
  intro X hP hw hK hc i U s Y H E I hf st hg;subst hP hw hK;obtain⟨hq,hi⟩:=hg;obtain⟨us,rel,da⟩:=zop I.hok hq hd;have hl:=rel.length;obtain⟨f0,f1,f2,f3,f4,f5⟩:=hf it (by simp);have hx:us[i]?=some ((us[i]'(by omega)).1,(us[i]'(by omega)).2):=by simp[show i<us.length by omega]
  rw[hl]at st ⊢;refine wpAny_pyNext_dict_item st da hx λkey h' kG st' sb=>?_;have I1:Inv X U Y H {s with heap:=h' }:=I.turned (t':=s.toks) (λb o hb e=>(sb.2 b hb).trans e) f0 f1 f3 f4 f5;obtain⟨o',e',c',d'⟩:=id st';have hk:vs[i]?=some vs[i]:=by simp[hi]
  have hkk:(vs[i]).1=(us[i]'(by omega)).1:=by
   have h1:(vs.map (·.1))[i]?=(us.map (·.1))[i]?:=by rw[rel.keys]
   simp only[yi,hk,yk (show i<us.length by omega),Xe,xG]at h1;exact h1
  have rk:RelV (kV (vs[i]).1) key:=by
   rw[hkk];rcases zsb ((zTi X.prog X.w _ _).symm.trans kG) with ⟨j,t,e1,e2⟩|⟨j,t,e1,e2⟩
   ·rw[e1];exact⟨t,e2⟩
   ·rw[e1];exact⟨t,e2⟩
  exact⟨key,rfl,zUt (s:={s with heap:=h' }) e' c' d' (by decide) ⟨kV (vs[i]).1,H,I1,rk,⟨rfl,_,hk,rfl⟩,st',λb hb=>(hf b hb).1⟩⟩
 done:=by
  intro X hP hw hK hc i U s Y H E I hf st hg;subst hP hw hK;obtain⟨hq,hi⟩:=hg;obtain⟨us,rel,da⟩:=zop I.hok hq hd;have hl:=rel.length;obtain⟨f0,f1,f2,f3,f4,f5⟩:=hf it (by simp);rw[hl]at st;exact wpAny_pyNext_dict_end (I.ok.hd hc) st da (by simp;omega) λh' eb=>⟨rfl,I.turned (t':=s.toks) (λb o hb e=>eb b o hb e) f0 f1 f3 f4 f5⟩
 self:=λ_ _ _ _ _ st h=>wpAny_pyIter_keyiter st h
section
variable {X:Cx}{a b c e:yE}{es:Qz}{G ψ χ:FE}{pos:xn}{tg:yE}
def z9A(tl:TE):TI:=λY H R=>tl Y H λx H1=>∃p vs,x=.ref p/\((H1 p=some (.dK vs)/\∀o,R (Itd p o vs) (upd H1 p (.frz o (.dK vs))))\/∃o,H1 p=some (.frz o (.dK vs))/\R (Itd p o vs) H1)
def zVv{l:yE}{tl:TE}(hl:PE X l tl):PI X tg l (z9A tl):=by
 intro U s Y H R I h;refine thn (hl U s Y H _ I h) λv s1 ⟨x,H1,I1,r1,q1⟩=>?_;obtain⟨p,vs,e,q⟩:=q1;subst e;cases r1
 have fin:∀(H2:Hp)(o:YS),Inv X U Y H2 s1->H2 p=some (.frz o (.dK vs))->R (Itd p o vs) H2->yo (yv X.prog X.w) X.A (pyIter (.ref p)) (PIE X U Y tg R) X.xe s1:=λH2 o I2 e2 q2=>by
  obtain⟨h0,hz,hd,us,rel,o',es,ep,h1,h2,h3,h4⟩:=(show tF X.prog X.w H2 s1.heap p (.frz o (.dK vs)) from I2.hok p _ e2)
  rw[h0]at h1;cases h1;have da:s1.heap.DictAt (zlb X.prog X.w) p us ep:=⟨o,es,h0,h2,h3,h4⟩
  refine wpAny_pyIter_dict hd da ?_;refine⟨s1.heap.objs.size,[s1.heap.objs.size],_,_,H2,rfl,I2.kept (t':=s1.toks) λb o e=>yb _ e,zIs p _ o vs es ep h3,⟨_,yq _ rfl,rfl,by rw[rel.length];rfl⟩,λb hb=>?_,q2⟩;have e:b=s1.heap.objs.size:=by simpa using hb
  subst e;exact I2.sX (yh _) (I2.hok.fresh (yh _))
 rcases q with ⟨e1,q⟩|⟨o,e1,q⟩
 ·have hok:=I1.hok p _ e1;obtain⟨hz,hd,us,rel,o,es,ep,h1,h2⟩:=(show tF X.prog X.w H1 s1.heap p (.dK vs) from hok)
  have I2:Inv X U Y (upd H1 p (.frz o (.dK vs))) {s1 with heap:=s1.heap,toks:=s1.toks }:=by
   refine I1.write (x:=p) (e:=p) (by rw[e1];exact xX) (.inl rfl) (λb u _ e=>e) ⟨o,h1⟩ ?_;exact⟨h1,hz,hd,us,rel,o,es,ep,h1,h2⟩
  exact fin _ o I2 zy (q o)
 ·exact fin H1 o I1 e1 q
@[simp] def zRi(G:FE):FI:=λJ O=>(G J O).bind λp=>match p.1 with
 |.loc n=>match p.2[n]? with
  |some (.dct hG)=>some (z2f hG,yes,p.2.set n (.dcf hG))
  |some (.dcf hG)=>some (z2f hG,yes,p.2)
  |_=>none
 |_=>none
def zxv{K:yw}{Z:Qv}{H:Hp}{p:yf}{o:YS}{vs:Wj}{hG:Wp}(h:H p=some (.frz o (.dK vs)))(q1:vs.map (·.1)=hG.map (λp=>yP p.1)):Sb K (Itd p o vs) Z H (z2f hG) yes:=by
 have hW:vs.length=hG.length:=by
  have:=congrArg List.length q1;simpa using this
 have kY:(z2f hG).length=hG.length:=by simp[z2f]
 refine⟨λZ' H' O' i x R _ hi=>⟨x.frz _ _ _ h,by rw[kY]at hi;omega⟩,λZ' H' O' i x H'' d x' R _ e ⟨y1,q,y2,y3⟩=>⟨y1▸Ext.refl,y1▸R,y1▸?_⟩,λZ' H' O' x R _=>⟨x.frz _ _ _ h,by rw[kY];omega⟩⟩;have h1:(vs.map (·.1))[i]?=(hG.map (λp=>(yP p.1:Key)))[i]?:=by rw[q1]
 rw[yi,yi,y2]at h1;unfold z2f at e;rw[yi]at e
 cases hk:hG[i]? with
 |none=>rw[hk]at e;cases e
 |some z=>
  rw[hk]at e h1;cases e;have h1:q.1=yP z.1:=by simpa using h1
  rw[y3,h1];exact .int
def zWk(h:ME X a G):MI X tg a (zRi G) :=
 zLs (zVv h) λZ J O Y H ds ok O' R A e k=>by
  obtain⟨⟨x,O1⟩,e1,e⟩:=zj e;refine⟨Z,J,O,x,O1,A,e1,λZ1 H1 v1 x1 R1 r1=>?_⟩;dsimp only at e
  split at e
  ·split at e
   ·rename_i hm
    cases e;obtain⟨p,rfl,ep⟩:=r1.tw;obtain⟨vs,e3,q1,q2⟩:=R1.at_ _ _ _ ep hm;have kN:Mut (H1 p):=by rw[e3];trivial
    refine⟨p,vs,rfl,.inl ⟨e3,λo=>?_⟩⟩;exact k Z1 _ _ (x1.trans (Ext.wr kN)) (R1.wr kN ep ⟨o,vs,zy,q1,tf.ext (Ext.wr kN) q2⟩) (zxv zy q1)
   ·rename_i hm
    cases e;obtain⟨p,rfl,ep⟩:=r1.tw;obtain⟨o,vs,e3,q1,q2⟩:=R1.at_ _ _ _ ep hm;exact⟨p,vs,rfl,.inr ⟨o,e3,k Z1 _ _ x1 R1 (zxv e3 q1)⟩⟩
   ·cases e
  ·cases e
def zKt{prog:yy}{w:yI}{A:yJ}{E:Value->yc->Prop}{s:yc}{Q:Int->yc->Prop}(h:Q 0xFCA86420 {s with toks:=s.toks+1 }):yo (yv prog w) A (pyHash .none) Q E s:=by
 unfold pyHash;have hv:[Yp].any Value.onHeap=false:=rfl;refine ya ?_;rw[cRoomFor,if_neg (by rw[hv];exact yA)];refine ye ?_;refine ya (xp (typeIs_none s) PySem.F.slot_NoneType_hash.lookup ?_);show yo _ _ (if(some (xv "NoneType.__hash__")==some Yp)=true then _ else _) Q E s;rw[if_neg (by rw[beq_builtin_none];exact yA)];refine ya (xp (typeIs_none s) PySem.F.slot_NoneType_hash.lookup ?_);show yo _ _ (callSpecialIfBoundUnlessNone? .none "__hash__" _ >>= _) Q E s;refine ya (wpAny_callSpecialIfBoundUnlessNone?_slot (typeIs_none s) PySem.F.slot_NoneType_hash (Yc PySem.F.slot_NoneType_hash (typeIs_none s) PySem.F.entry_NoneType_hash ?_ (PySem.F.args_NoneType_hash_1 _)));show yo _ _ (do ret (<-mkInt 0xFCA86420)) _ _ s;refine wpAny_ret_mkInt ?_;show yo _ _ (if(decide (-(2:Int)^63<=0xFCA86420)&&decide ((0xFCA86420:Int)<2^63))=true then _ else _) Q E _;rw[if_pos (by decide)];exact ye h
def zbr{i:Int}(h0:0<=i)(h1:i<1000):hashInt i=i:=by
 have e:(i.natAbs%(2^61-1):Nat)=i.natAbs:=Nat.mod_eq_of_lt (by omega)
 have hr:rawHash i=i:=by
  unfold rawHash;dsimp only;rw[if_neg (by omega:¬i<0)];have:((i.natAbs%(2^61-1:Nat):Nat):Int)=i:=by rw[e];omega
  rw[show((i.natAbs:Int)%((2^61-1:Nat):Int))=i by rw[<-Int.natCast_emod];exact this];rw[if_neg (by simp;omega)]
 unfold hashInt;rw[hr,if_neg (by simp;omega)]
def zvn:Key->Bool
 |.inl i=>decide (0<=i/\i<1000)
 |.inr _=>false
def zKk{P:yy}{w:yI}:∀{es:List DictEntry} {us:List (Key×Value)},Pairs (zlb P w) es us->(∀e∈es,∃k,(zlb P w).is k e.key=true/\e.hash=(zlb P w).hash k)->(us.all λq=>zvn q.1)=true->∀e∈es,(e.hash==0xFCA86420)=false
 |_,_,.nil,_,_=>λe he=>by cases he
 |_,_,.cons (kv:=kv) hk hv t,hh,hs=>λe he=>by
  rw[La,yK]at hs;rcases List.mem_cons.mp he with rfl|he
  ·obtain⟨k',h1,h2⟩:=hh e Np;have ek:=(zlb P w).inj _ _ _ hk h1;rw[h2,<-ek];have hsm:zvn kv.1=true:=hs.1
   cases hkv:kv.1 with
   |inl i=>
    rw[hkv]at hsm;have hi:=of_decide_eq_true (show decide (0<=i/\i<1000)=true from hsm);show(hashInt i==0xFCA86420)=false;rw[zbr hi.1 hi.2];simp;omega
   |inr x=>rw[hkv]at hsm;cases hsm
  ·exact zKk t (λe he=>hh e (No _ he)) hs.2 e he
def zDw{prog:yy}{w:yI}{A:yJ}{E:Value->yc->Prop}{s:yc}{p:yf}{us:List (Key×Value)}{Q:Value->yc->Prop}(hd:(p==sysModules)=false)(dd:s.heap.DictOf (zlb prog w) p us)(hs:(us.all λq=>zvn q.1)=true)
 (h:Q (.bool false) {s with toks:=s.toks+1 }):yo (yv prog w) A (Yz .In .none (.ref p)) Q E s:=by
 obtain⟨o,es,ep,ho,hx,hdat,hk,hp,hn⟩:=id dd;have hno:=zKk hp (λe he=>hk e (by simpa using he)) hs
 have kK:placesWithHash es.size (λi=>es[i]?.map (·.hash)) 0xFCA86420=[]:=by
  unfold placesWithHash;rw[List.filter_eq_nil_iff];intro i hi;have hi:i<es.size:=by simpa using hi
  dsimp only;rw[Array.getElem?_eq_getElem hi];have:=hno es[i] (by simp);simpa using this
 show yo _ _ (do return .bool (<-contains (.ref p) .none)) Q E s;refine ya ?_;unfold contains
 try with_reducible refine yQ ?_
 refine ya (xp dd.typeIs slot_dict_contains.lookup ?_);show yo _ _ (if(some (xv "dict.__contains__")==some Yp)=true then _ else _) _ E s;rw[if_neg (by rw[beq_builtin_none];exact yA)];refine ya (wpAny_callSpecialUnlessNone?_slot (name:=YX "__contains__") dd.typeIs slot_dict_contains (Yc slot_dict_contains dd.typeIs entry_dict_contains ?_ (args_dict_contains _ _)));show yo _ _ (dictGet p .none >>= _) _ _ s;refine ya ?_;unfold dictGet
 try with_reducible refine yQ ?_
 refine ya (zKt (ya ?_));unfold dictFind
 try with_reducible refine yQ ?_
 refine ya (wpAny_dictEntries (s:={s with toks:=s.toks+1 }) ho hdat ?_);dsimp only;rw[kK];rw[if_pos (by rfl)];unfold dictWalkPlain;refine ya ?_;rw[List.forIn_nil];refine ye ?_;refine ye (ye ?_);show yo _ _ (Builtin.Dict.pendingKey? p .none >>= _) _ _ _;exact ya (wpAny_pendingKey_other hd (ye ⟨_,rfl,wpAny_truthy_bool (ye h)⟩))
@[simp] def z9k:φ2:=λx y O=>match x with
 |.int i=>(ztb O y).bind λhG=>some (.bl (zPc hG i).isSome,O)
 |.non=>(ztb O y).bind λhG=>bif hG.all (λp=>decide (0<=p.1/\p.1<1000)) then some (.bl false,O) else none
 |_=>none
def z4m:OpM X (Yz .In) z9k:=by
 refine OpM.of λU s Y H x y v u Q I rx ry Z dx dy O d O' r1 r2 R e k=>?_;unfold z9k at e
 split at e
 ·rename_i i
  exact zgx U s Y H x y v u Q I rx ry ⟨Z,.int i,dy,O,d,O',r1,r2,R,e,k⟩
 ·obtain⟨hG,e1,e⟩:=zj e;obtain⟨hsm,e⟩:=zV e;cases e;obtain⟨p,vs,rfl,hq,q1,q2⟩:=zGe R r2 e1;cases ry;rw[r1.tJ]at rx;cases rx;obtain⟨z,hd,us,rel,dd⟩:=z3g I.hok hq;refine zDw hd dd ?_ ⟨.bl false,H,I.tok _,rfl,k Z H _ Ext.refl R .bl⟩;have e1:(us.all λq=>zvn q.1)=(us.map (·.1)).all zvn:=by rw[List.all_map];rfl
  rw[e1,<-rel.keys,q1,List.all_map];exact hsm
 ·cases e
variable {prog:yy}{w:yI}{A:yJ}{E:Value->yc->Prop}{s:yc}
def zOq:Xq (.type "list_reverseiterator") "__len__"=pure none:=by rw[typeLookup_type,Xj];kernel_rfl
def z4u:Xq (.type "list_reverseiterator") "__length_hint__"=pure (some (.builtin "list_reverseiterator.__length_hint__")):=by rw[typeLookup_type,Xj];kernel_rfl
def zmu{r:yf}{Q:Bool->yc->Prop}(hT:s.TypeIs (.ref r) "list_reverseiterator")(h:Q false s):yo (yv prog w) A (xu (.ref r)) Q E s:=by
 unfold xu;refine ya (xp hT zOq ?_);show yo _ _ (specialOf (yH r) (YX "__length_hint__") >>= _) _ _ _;refine ya (xp hT z4u ?_);generalize hid:("list_reverseiterator.__length_hint__":String)=id0
 wp_delta
 rw[show splitId id0=some ("list_reverseiterator","__length_hint__") from by subst hid;decide +kernel];subst hid;refine ya (Xy (T:="list_reverseiterator") (b:=true) hT (by rw[isSubtype_type];kernel_rfl) ?_);refine xb (λhab=>absurd hab (by decide)) (λ_=>?_);refine xb (λ_=>?_) (λhab=>absurd (by decide +kernel) hab);refine xb (λhab=>absurd hab (by decide +kernel)) (λ_=>?_);exact ye h
def zxu{I l:yf}{items:Qm}{Q:Value->yc->Prop}(hh:A.handled=none)(kL:l≠I)(hI:s.heap.IsRevIter I l ((items.size:Int)-1))(hl:s.heap.IsList l items)(hn:items.size<=yF)
 (hQ:∀h' tk hZ' c',(∀b o,b≠I->s.heap.get? b=some o->h'.get? b=some o)->h'.get? s.heap.objs.size=some {cls:=.type "list",dict:=none,data:=.seq hZ' c',slots:=#[]}->ItemsOf (λi v=>items[items.size-1-i]?=some v) hZ' items.size->Q (.ref s.heap.objs.size) {s with heap:=h',toks:=tk }) :
 yo (yv prog w) A (call (.type "list") [.ref I]) Q E s:=by
 have hIlt:I<s.heap.objs.size:=by obtain⟨o,ho,_⟩:=hI;exact yn ho
 have hllt:l<s.heap.objs.size:=by obtain⟨o,ho,_⟩:=hl;exact yn ho
 refine callType_codes (Q₁:=λobj s₁=>obj=.ref s.heap.objs.size/\s₁ = {s with heap:=s.heap.push {cls:=.type "list",data:=.seq #[]}}) PySem.F.called_list (PySem.F.typeCall_list_1 _) PySem.F.entry_list_init (code_list_new _ ⟨rfl,rfl⟩) λobj s₁ h₁=>?_;obtain⟨rfl,rfl⟩:=h₁;generalize hS0:s.heap.objs.size=S;have hSI:S≠I:=by rw[<-hS0];exact yX hIlt
 have hSl:S≠l:=by rw[<-hS0];exact yX hllt
 have hS:(s.heap.push {cls:=.type "list",data:=.seq #[]}).get? S=some {cls:=.type "list",data:=.seq #[]}:=by rw[<-hS0];exact yq _ rfl
 refine⟨⟨_,hS,rfl⟩,PySem.F.args_list_init_2 _ _,?_⟩;have oldS:∀b o,s.heap.get? b=some o->b≠S:=λb o e=>by rw[<-hS0];exact yu (yn e)
 have W:=(Walks.listRev (prog:=prog) (w:=w) (A:=A.in1.in1) hh I l kL items).toS;show yo _ _ (do let old <-Builtin.List.listItems (.ref S);Builtin.List.listUpdate (.ref S) (λ_=>#[]);letGo old.toList.reverse;YA (.ref S) (.ref I) .none) _ _ _;refine ya ?_;unfold Builtin.List.listItems;refine ya (wpAny_seqItems hS rfl (ye ?_));show yo _ _ (updateSeq S (λ_=>#[]) >>= λ_=>letGo (#[]:Qm).toList.reverse >>= λ_=>YA (.ref S) (.ref I) .none) _ _ _;refine ya (wpAny_updateSeq hS rfl ?_);have hS2:=yO (xY (λ_=>(#[]:Qm))) hS rfl;generalize hh2:(s.heap.push {cls:=.type "list",data:=.seq #[]}).update S (xY (λ_=>(#[]:Qm)))=h2 at hS2 ⊢
 have k2:∀b o,s.heap.get? b=some o->h2.get? b=some o:=λb o e=>by
  rw[<-hh2];exact(Yh _ _ (yR (oldS b o e))).trans (yb _ e)
 refine ya (wpAny_letGo ?_);have hI2:h2.IsRevIter I l ((items.size:Int)-1):=hI.at λo e=>k2 _ _ e;have hl2:h2.IsList l items:=hl.at λo e=>k2 _ _ e;unfold YA;refine ya (Xx (T:="list_reverseiterator") (Heap.IsRevIter.typeIs (s:={s with heap:=h2 }) hI2) ?_);have h1:xI (.ref S) (.ref I)=false:=by simp[xI,hSI]
 have h2':(Yx "list_reverseiterator" == Yx "list")=false:=by decide
 have h3':(Yx "list_reverseiterator" == Yx "tuple")=false:=by decide
 simp only[h1,h2',h3',Bool.or_false,xZ,if_false];refine ya (wpAny_pyIter_revIter (s:={s with heap:=h2 }) hI2 ?_);refine ya (yQ (zmu (Heap.IsRevIter.typeIs (s:={s with heap:=h2 }) hI2) ?_));refine xb (λhab=>absurd hab (by decide)) (λ_=>?_)
 have hSf:S∉[I,l]:=by
  simp only[Nn,Nz,or_false,not_or];exact⟨hSI,hSl⟩
 refine ye ⟨xj PySem.F.plain_extend_loop _,codeAny_extend_loopS W hn S hSf _ items.size 0 _ #[] _ rfl (Ys _) ⟨Ys _,by simpa using hI2,hl2⟩ hS2 (ItemsOf.nil _) λs' hZ' c' hm hS' hacc=>?_⟩;rw[Moved.eq_with hm];refine⟨rfl,?_⟩;rw[<-hS0]at hS' ⊢;refine hQ s'.heap s'.toks hZ' c' (λb o hb e=>hm.heap b o (λkJ=>?_) (k2 b o e)) hS' hacc;rcases List.mem_cons.mp kJ with e'|kJ
 ·exact oldS b o e e'
 ·exact hb (List.mem_singleton.mp kJ)
variable {pos2 p1 p2:xn}
def z0u(G:FE):FE:=λJ O=>(G J O).bind λp=>match p.1 with
 |.loc n=>match p.2[n]? with
  |some (.lst ds)=>some (.loc p.2.length,p.2++[.lst ds.reverse])
  |_=>none
 |_=>none
def z3u{items:Qh}{vs:Wi}{hJ:Qh}(rv:Vals vs items)(hl:hJ.length=items.length)(h:∀(j:Nat)(v:Value),hJ[j]?=some v->items[items.length-1-j]?=some v):Vals vs.reverse hJ:=by
 have e:hJ=items.reverse:=by
  refine Lj λj=>?_
  by_cases hj:j<hJ.length
  ·have h1:hJ[j]?=some hJ[j]:=by simp[hj]
   rw[List.getElem?_reverse (by omega),h j _ h1,h1]
  ·rw[Yr (by omega),Yr (by simp;omega)]
 rw[e];exact rv.reverse
def zFt{K:yw}{Z:Qv}{H:Hp}:∀{ds:Wm} {vs:Wi},tf K Z H ds vs->tf K Z H ds.reverse vs.reverse
 |[],vs,r=>by rw[r.nil_inv];exact .nil
 |d::ds,vs,r=>by
  obtain⟨v,q,rfl,h1,h2⟩:=r.cons_inv;rw[List.reverse_cons,List.reverse_cons];exact(zFt h2).append (.cons h1 .nil)
def zbA(X:Cx)(tl:TE):TE:=λY H Q=>tl Y H λx H1=>∃a ys,x=.ref a/\SqL X.K H1 a ys/\∀q,H1 q=none->Q (.ref q) (upd H1 q (.lst ys.reverse))
def zxx{l:yE}{tl:TE}(hm1:X.mg "list"=none)(hv1:yM "list"=some (.type "list"))(hm2:X.mg "reversed"=none)(hv2:yM "reversed"=some (.type "reversed"))(hl:PE X l tl)(hc:X.calm=true)(hg1:Gl X "list")(hg2:Gl X "reversed")
 (he:yj [l] X.env=(false,Yd l X.env)::yj [] X.env) (he2:yj [.Call (.Name "reversed" p2) [l] [] pos2] X.env=(false,Yd (.Call (.Name "reversed" p2) [l] [] pos2) X.env)::yj [] X.env) :
 PE X (.Call (.Name "list" p1) [.Call (.Name "reversed" p2) [l] [] pos2] [] pos) (zbA X tl):=by
 intro U s Y H Q I h;refine xy (zCk I hg1 hm1 hv1 ?_ (by decide) (by decide));refine YV ?_ he2 rfl;rw[he2];show yo _ _ (spliced ((false,Yd (.Call (.Name "reversed" p2) [l] [] pos2) X.env)::Yl pos (yj [] X.env))) _ _ s;refine Calls.spliced_cons ?_;refine xy (zCk I hg2 hm2 hv2 ?_ (by decide) (by decide))
 refine YV (thn (zPe hl zti he pos2 U s Y H (λvs H1=>match vs with
  |[x]=>∃a ys,x=.ref a/\SqL X.K H1 a ys/\∀q,H1 q=none->Q (.ref q) (upd H1 q (.lst ys.reverse))
  |_=>False) I h) λus s1 ⟨vs,H1,I1,r1,q1⟩=>?_) he rfl
 dsimp only at q1
 split at q1
 case h_2=>exact q1.elim
 obtain⟨a,ys,e,hq,q⟩:=q1;subst e
 cases r1 with
 |cons r rr=>
  cases rr;cases r;obtain⟨hJ,rv,pl,hz⟩:=I1.list hq;have hW:=rv.length;refine call_reversed_list pl.isList ?_;refine Calls.spliced_nil ?_;have I2:Inv X U Y H1 {s1 with heap:=s1.heap.push (revObj a ((hJ.toArray.size:Int)-1))}:=I1.kept (t':=s1.toks) λb o e=>yb _ e;have halt:a<s1.heap.objs.size:=by obtain⟨_,_,e,_⟩:=pl;exact yn e
  have hf:∀b∈[s1.heap.objs.size],zPp X U H1 b:=λb hb=>by
   have e:b=s1.heap.objs.size:=by simpa using hb
   subst e;exact I1.sX (yh _) (I1.hok.fresh (yh _))
  refine zxu (s:={s1 with heap:=s1.heap.push (revObj a ((hJ.toArray.size:Int)-1))}) (I.ok.hd hc) (yu halt) ⟨_,yq _ rfl,rfl,rfl⟩ (pl.isList.push _) (by simp;omega) λh' tk hZ' c' kp e hi=>?_;obtain⟨hi1,hi2⟩:=hi;have hv:=z3u (hJ:=hZ'.toList) rv (by simpa using hi1) λj v e=>by simpa using hi2 j v (by simpa using e)
  refine⟨.ref _,_,zTe (t':=tk) I2 hf (λb o hb e=>kp b o (by simpa using hb) e) (yh _) (show tF X.prog X.w _ h' _ (.lst ys.reverse) from⟨by simp;omega,hZ'.toList,c',hv,by simpa using e⟩),rfl,q _ (I2.hok.fresh (yh _))⟩
def zZv(hm1:X.mg "list"=none)(hv1:yM "list"=some (.type "list"))(hm2:X.mg "reversed"=none)(hv2:yM "reversed"=some (.type "reversed"))(h:ME X e G)(hc:X.calm=true:=by rfl)(hg1:Gl X "list":=by rfl)(hg2:Gl X "reversed":=by rfl)
 (he:yj [e] X.env=(false,Yd e X.env)::yj [] X.env:=by rfl) (he2:yj [.Call (.Name "reversed" p2) [e] [] pos2] X.env=(false,Yd (.Call (.Name "reversed" p2) [e] [] pos2) X.env)::yj [] X.env:=by rfl) :
 ME X (.Call (.Name "list" p1) [.Call (.Name "reversed" p2) [e] [] pos2] [] pos) (z0u G) :=
 zge (zxx hm1 hv1 hm2 hv2 h hc hg1 hg2 he he2) λZ J O Y H d O' Q A e k=>by
  obtain⟨⟨x,O1⟩,e1,e⟩:=zj e;refine⟨Z,J,O,x,O1,A,e1,λZ1 H1 v x1 R1 r1=>?_⟩;dsimp only at e
  split at e
  ·split at e
   ·rename_i hm
    cases e;obtain⟨p,rfl,ep⟩:=r1.tw;obtain⟨vs,e3,q⟩:=R1.at_ _ _ _ ep hm;exact⟨p,vs,rfl,SqL.of e3,λq' hq'=>k _ _ _ (x1.trans (Ext.push hq')) (R1.push hq' ⟨_,zy,(zFt q).ext (Ext.push hq')⟩) (.loc (zub R1))⟩
   ·cases e
  ·cases e
variable {te:TE}{stp:yE}{ts:TO}
def zAk(ns:Qg):Qg:=ns.mergeSort λa b=>decide (a<=b)
def z9f:GL:=λds O=>match ds with
 |[.loc n]=>match O[n]? with
  |some (.lst xs)=>(zDi xs).bind λns=>bif decide (ns.length<64) then some (.loc O.length,O++[.lst ((zAk ns).map .int)]) else none
  |_=>none
 |_=>none
def zlf(hc:X.calm=true):Ta X (.builtin "sorted") z9f:=by
 refine Ta.of λU s Y H xs us Q I r Z ds O d O' r1 R e k=>?_;unfold z9f at e
 split at e
 ·split at e
  ·rename_i hm
   obtain⟨ns,e2,e⟩:=zj e;obtain⟨hp,e⟩:=zV e;have hp:=of_decide_eq_true hp;cases e;rw[z3e e2]at hm;obtain⟨v,rr,rfl,q1,q2⟩:=r1.cons_inv;obtain⟨a,rfl,ea⟩:=q1.tw;obtain⟨vs,e3,q3⟩:=R.at_ _ _ _ ea hm;rw[zIh q3]at e3;rw[q2.nil_inv]at r;obtain⟨u,rfl,ru⟩:=vals1 r;cases ru;obtain⟨hJ,rv,pl,hz⟩:=I.list (SqL.of (K:=X.K) e3);have hl:hJ.length=ns.length:=by rw[<-rv.length];simp
   refine sorted_ints pl.isList (zQg rv) (by omega) λout ns' a1 a2 a3=>?_;have hms:ns'=zAk ns:=zBc (a2.trans (Nv _ _).symm) a3 (zch _);subst hms;obtain⟨e0,he⟩:=sortedAll_at s.heap hJ out;have hf:=I.hok.fresh (xU s.heap.objs.size);have hW:(zAk ns).length=ns.length:=a2.length_eq;refine⟨.ref (s.heap.objs.size+1),_,I.laid (t':=s.toks) (o:=.lst ((zAk ns).map V.int)) (λ_ _=>sortedAll_old) (xU _) ?_,rfl,k _ _ _ (Ext.push hf) (R.push hf ⟨_,zy,zjf⟩) (.loc (zub R))⟩;exact⟨by simp;rw[Yo];omega,out.toList,e0,zpe a1,by simpa using he⟩
  ·cases e
 ·cases e
def zNl{it t:yf}{items:Qm}(kL:t≠it):∀(n i:Nat)(s:yc)(Q:Qh->yc->Prop),s.heap.IsListIter it t i->s.heap.IsList t items->i+n<=items.size ->
 (∀h',h'.IsListIter it t (i+n)->Yq it s.heap h'->Q ((items.toList.drop i).take n) {s with heap:=h' })->yo (yv prog w) A (draw (.ref it) n) Q E s
 |0,i,s,Q,hit,_,_,hQ=>by
  show yo _ _ (pure []) Q E s;exact ye (by simpa using hQ s.heap hit (Heap.SameBut.refl ..))
 |n+1,i,s,Q,hit,ht,hle,hQ=>by
  have kH:i<items.size:=by omega
  show yo _ _ (xW (.ref it) >>= _) Q E s;refine ya (wpAny_pyNext_list_item hit ht (x:=items[i]) (by simp[kH]) λh₁ hit₁ hs₁=>?_);refine ya (yQ (zNl kL n (i+1) _ _ hit₁ (ht.extBut hs₁.extBut kL) (by omega) λh₂ hit₂ hs₂=>ye ?_));have hd:items.toList.drop i=items[i]::items.toList.drop (i+1):=by simp[Li,kH]
  have:=hQ h₂ (by rw[show i+(n+1)=i+1+n by omega];exact hit₂) (hs₁.trans hs₂);rw[hd,List.take_succ_cons]at this;exact this
def zAi{t:yf}{items:Qm}{Q:Qh->yc->Prop}(hh:A.handled=none)(ht:s.heap.IsList t items)
 (hQ:∀h',Xu s.heap.objs.size s.heap h'->Q items.toList {s with heap:=h' }):yo (yv prog w) A (unpackItems (.ref t) items.size none) Q E s:=by
 have kH:t≠s.heap.objs.size:=by obtain⟨o,ho,_⟩:=ht;exact yu (yn ho)
 unfold unpackItems;refine ya ?_
 ·unfold notIterableAtAll;refine ya (xp ht.typeIs PySem.slot_list_iter.lookup ?_);refine ye ?_;simp only[xZ,if_false];refine ya (yQ (Xl ht ?_));refine ya (yQ (zNl kH items.size 0 _ _ ⟨_,yq _ rfl,rfl,rfl⟩ (ht.push _) (by omega) λh₁ hit₁ hs₁=>?_))
  have hall:List.take items.size (List.drop 0 items.toList)=items.toList:=by
   rw[List.drop_zero];exact List.take_of_length_le (by simp)
  rw[hall];rw[if_neg (by simp)];have ht₁:h₁.IsList t items:=(ht.push _).extBut hs₁.extBut kH;refine ya (yQ (wpAny_pyNext_list_end hh hit₁ ht₁ (by simp) λh₂ he₂=>?_));simp only[Option.isSome_none,xZ,if_false];refine ye (hQ h₂ λb o hb e=>he₂ b o hb (hs₁.extBut b o hb (yb _ e)))
def zQi{env:Env}{elts:Qz}{x1}{pos:xn}{t:yf}{items:Qm}{Q:Unit->yc->Prop}(hh:A.handled=none)(ht:s.heap.IsList t items)
 (hn:(Yy elts env).length=items.size) (hstar:(Yy elts env).findIdx? (·.1)=none)
 (h:∀h',Xu s.heap.objs.size s.heap h'->yo (yv prog w) A (assignInOrder ((Yy elts env).map (·.2)) items.toList) Q E {s with heap:=h' }) :
 yo (yv prog w) A (assign (.Tuple elts x1 pos) env (.ref t)) Q E s:=by
 rw[assign_Tuple];refine ya (YW ?_);unfold unpack;rw[hn,hstar];exact ya (yQ (zAi hh ht h))
def zUz(K:yw)(n:Nat)(t:TGs):TG:=λv Y H Q=>∃a xs,v=.ref a/\SqL K H a xs/\xs.length=n/\t xs Y H Q
def zaw{es:Qz}{k:Nat}{t:TGs}{n:Nat}(hc:X.calm=true)(h:PGs X es t)
 (hn:(Yy es X.env).length=n:=by rfl) (kR:(Yy es X.env).findIdx? (·.1)=none:=by rfl):PG X (.Tuple es k pos) (zUz X.K n t):=by
 intro U s Y H v u Q I r hw;obtain⟨a,xs,e1,hq,hl,hw⟩:=hw;subst e1;cases r;obtain⟨hJ,rv,pl,hz⟩:=I.list hq;refine zQi (I.ok.hd hc) pl.isList (by simp[hn,<-hl,rv.length]) kR λh' hx=>?_;have I1:Inv X U Y H {s with heap:=h' }:=I.kept (t':=s.toks) λb o e=>hx b o (yu (yn e)) e;exact h U _ Y H xs _ Q I1 (by simpa using rv) hw
def gTL(n:Nat)(gs:FGs):FG:=λd J O=>match d with
 |.loc l=>match O[l]? with
  |some (.lst ds)=>bif ds.length==n then gs ds J O else none
  |_=>none
 |_=>none
def zNw{es:Qz}{k n:Nat}{gs:FGs}(h:MGs X es gs)(hc:X.calm=true:=by rfl)(hn:(Yy es X.env).length=n:=by rfl)(kR:(Yy es X.env).findIdx? (·.1)=none:=by rfl):MG X (.Tuple es k pos) (gTL n gs) :=
 mg_of (zaw hc h hn kR) λZ J O d J' O' v Y H Q A q e k=>by
  unfold gTL at e
  split at e
  ·split at e
   ·rename_i hm
    obtain⟨h1,e⟩:=zV e;obtain⟨a,rfl,ea⟩:=q.tw;obtain⟨vs,e3,q2⟩:=A.hp.at_ _ _ _ ea hm;exact⟨a,vs,rfl,SqL.of e3,by rw[<-q2.length];exact beq_iff_eq.mp h1,Z,J,O,_,J',O',A,q2,e,k⟩
   ·cases e
  ·cases e
end
end M
namespace M
open PySem PyProof.Rows
section
variable {prog:yy}{w:yI}{A:yJ}{E:Value->yc->Prop}{s:yc}
end
end M
namespace M
open PySem PySem.Spec PyProof.Rows L2
section
variable {X:Cx}{U:Qb}{Y:L2.St}{H:Hp}{s s':yc}
variable {a b c e:yE}{es:Qz}{G ψ χ:FE}{pos pos2 p1 p2:xn}
variable {prog:yy}{w:yI}{A:yJ}{E:Value->yc->Prop}{T:String}{r d:yf}{n:Nat}{P:Nat->Value->Prop}{OK:yT->Prop}
def zzA(s:yc)(P:Nat->Value->Prop)(n:Nat):Result->yc->Prop:=λrr s'=>∃h' tk hZ' c',rr=.ok (.ret (.ref s.heap.objs.size))/\s' = {s with heap:=h',toks:=tk }/\(∀b o,s.heap.get? b=some o->h'.get? b=some o)/\h'.get? s.heap.objs.size=some {cls:=.type "list",dict:=none,data:=.seq hZ' c',slots:=#[]}/\ItemsOf P hZ' n
def z3o{Q:Qh->yc->Prop}(K:W.KdlSrc prog w T r d n P OK)(hh:A.handled=none)(hok:OK s.heap)(hn:n<=yF)
 (h:∀h' tk hZ',(∀b o,s.heap.get? b=some o->h'.get? b=some o)->s.heap.objs.size<=h'.objs.size->ItemsOf P hZ' n->Q hZ'.toList {s with heap:=h',toks:=tk }) :
 yo (yv prog w) A (collect (.ref r)) Q E s:=by
 have kH:=K.there _ hok;unfold collect;refine ya (wpAny_runValue (YE F.entry_proto_collect ?_));rw[Yw F.plain_proto_collect _];show yo _ A.in1 (newList [] >>= λl=>again (.builtin "list.__iadd__" ⟨[l,.ref r],[]⟩)) _ _ s;refine ya (yY ?_);have hS:(s.heap.push {cls:=.type "list",data:=.seq ([]:Qh).toArray }).get? s.heap.objs.size=some {cls:=.type "list",data:=.seq #[]}:=yq _ rfl;refine ye ⟨xj F.plain_list_iadd _,YI (YE (R:=zzA s P n) F.entry_list_iadd ?_) λrr s' ⟨h',tk,hZ',c',e1,e2,hk,hS',hacc⟩=>?_⟩
 ·rw[Yw F.plain_list_iadd _];show yo _ A.in1 (YA (.ref s.heap.objs.size) (.ref r) (.ref s.heap.objs.size)) _ _ _;exact W.kdl_extend (R:=zzA s P n) (A:=A) (s:={s with heap:=s.heap.push {cls:=.type "list",data:=.seq ([]:Qh).toArray }}) K hh (K.keep _ _ hok λb _ o e=>yb _ e) _ (yX kH.1) (yX kH.2) _ _ hS (λh' tk hZ' c' hk hS' hacc=>⟨h',tk,hZ',c',rfl,rfl,λb o e=>hk b o (yu (yn e)) (yb _ e),hS',hacc⟩) hn
 ·subst e1 e2;dsimp only;refine ya (wpAny_load hS' ?_);exact ye (h h' tk hZ' hk (YQ (yn hS')) hacc)
def zCq{ks:Qg}{Q:Value->yc->Prop}(K:W.KdlSrc prog w T r d n P OK)(hh:A.handled=none)(hok:OK s.heap)(h64:n<64)(hint:∀hZ:Qm,ItemsOf P hZ n->IntsAre hZ.toList ks)(h:∀p s',zDv s ks p s'->Q (.ref p) s') :
 yo (yv prog w) A (call (.builtin "sorted") [.ref r]) Q E s:=by
 refine Calls.call_function_entry kind_sorted plain_sorted entry_sorted (args_sorted1 _) ?_;unfold xi.«sorted»;refine ya (m:=checkCount "sorted" 1 1 _) (ye ?_);refine ya (z3o (A:=A.in1) K hh hok (yG (YQ h64) (by rw[Yo];decide)) λh1 tk hZ hk hsz hacc=>?_);have hI:=hint hZ hacc
 have hl:hZ.toList.length<64:=by
  have:=hacc.1;simp only[Array.length_toList];omega
 refine ya (wpAny_newList ?_ (by rw[Yo];omega));have kO:(h1.push (seqObj "list" hZ.toList.toArray 0)).get? h1.objs.size=some (seqObj "list" hZ.toList.toArray 0):=yq _ rfl;refine ya (yQ (Yc slot_list_sort ⟨_,kO,rfl⟩ entry_list_sort (list_sort_tree kO hI (by simp at hl ⊢;omega) λout ns q1 q2 q3=>⟨_,rfl,?_⟩) (args_list_sort _)));obtain⟨e,he⟩:=sortedHeap_at (out:=out) kO;refine ye ⟨_,rfl,h _ _ ⟨out,ns,e,he,q1,q2,q3,hsz,λb ob eb=>?_,rfl,rfl⟩⟩;have hb1:=hk _ _ eb;have hlt1:b<h1.objs.size:=yn hb1;show(sortedHeap (h1.push (seqObj "list" hZ.toList.toArray 0)) h1.objs.size hZ.toList out).get? b=some ob;rw[sortedHeap_old (yu hlt1) (by rw[size_push'];exact YC hlt1)];exact yb _ hb1
def zag:GL:=λds O=>match ds with
 |[x]=>(ztb O x).bind λhG=>bif decide (hG.length<64) then some (.loc O.length,O++[.lst ((zAk (hG.map (·.1))).map .int)]) else none
 |_=>none
def zLf(hc:X.calm=true):Ta X (.builtin "sorted") zag:=by
 refine Ta.of λU s Y H xs us Q I r Z ds O d O' r1 R e k=>?_;unfold zag at e
 split at e
 ·obtain⟨hG,e1,e⟩:=zj e;obtain⟨h64,e⟩:=zV e;have h64:=of_decide_eq_true h64;cases e;obtain⟨v,rr,rfl,q1,q2⟩:=r1.cons_inv;rw[q2.nil_inv]at r;obtain⟨p,vs,rfl,hq,w1,w2⟩:=zGe R q1 e1;obtain⟨u,rfl,ru⟩:=vals1 r;cases ru;obtain⟨hz,hd,_⟩:=z3g I.hok hq;obtain⟨us',ep,rel,da⟩:=z5r I.hok hq;have hl:=rel.length
  have hkv:(vs.map λp=>kV p.1)=((hG.map (·.1)).map V.int):=by
   have:(vs.map (·.1)).map kV=(hG.map λp=>(yP p.1:Key)).map kV:=by rw[w1]
   rw[Nh,Nh]at this;rw[Nh];exact this
  have gA:hG.length=vs.length:=by
   have:=congrArg List.length w1;simpa using this.symm
  refine zCq (ks:=hG.map (·.1)) (W.kdl_dict hd) (I.ok.hd hc) da (by omega) (λhZ hi=>?_) λq s' ⟨out,ns,e',h1,h2,h3,h4,h5,h6,h7,h8⟩=>?_
  ·obtain⟨hi1,hi2⟩:=hi;have hv:=zjk (P:=X.prog) (w:=X.w) (hJ:=hZ.toList) rel (by simpa using hi1) λj v e=>hi2 j v (by simpa using e);rw[hkv]at hv;exact zQg hv
  ·have hms:ns=zAk (hG.map (·.1)):=zBc (h3.trans (Nv _ _).symm) h4 (zch _);subst hms;have hW:(zAk (hG.map (·.1))).length=(hG.map (·.1)).length:=h3.length_eq;rw[Lv]at hW;have hf:=I.hok.fresh h5;refine⟨.ref q,_,zSp I h7 h8 h6 h5 (show tF X.prog X.w _ s'.heap _ (.lst ((zAk (hG.map (·.1))).map V.int)) from⟨by simp;rw[Yo];omega,out.toList,e',zpe h2,by simpa using h1⟩),rfl,k _ _ _ (Ext.push hf) (R.push hf ⟨_,zy,zjf⟩) (.loc (zub R))⟩
 ·cases e
end
def zKq(K:yw)(c f:yt):Prop:=∀C,Ym K yp c=some (some (.ref C))->Cls K C/\TZ K C f
def zjq{K:yw}{Z:Qv}{H:Hp}{f:yt}{d:D}:∀{fs:Wq} {vs:Wk},vs.map (·.1)=fs.map (·.1)->tf K Z H (fs.map (·.2)) (vs.map (·.2))->fs.lookup f=some d->∃v,vs.lookup f=some v/\tu K Z H d v
 |[],_,_,_,e=>by cases e
 |(g,x)::fs,[],h,_,_=>by cases h
 |(g,x)::fs,(g',y)::vs,h,r,e=>by
  obtain⟨h1,h2⟩:=yd h;have h1:g'=g:=h1;subst h1;obtain⟨v,q,e1,r1,r2⟩:=r.cons_inv;obtain⟨e2,e3⟩:=yd e1;subst e2 e3;rw[Na]at e ⊢
  cases hb:f==g' with
  |true=>rw[hb]at e;cases e;exact⟨_,rfl,r1⟩
  |false=>rw[hb]at e;exact zjq h2 r2 e
def zUp{f:yt}:∀{fs:Wq} {vs:Wk},vs.map (·.1)=fs.map (·.1)->fs.lookup f=none->vs.lookup f=none
 |[],[],_,_=>rfl
 |[],_::_,h,_=>by cases h
 |_::_,[],h,_=>by cases h
 |(g,x)::fs,(g',y)::vs,h,e=>by
  obtain⟨h1,h2⟩:=yd h;have h1:g'=g:=h1;subst h1;rw[Na]at e ⊢
  cases hb:f==g' with
  |true=>rw[hb]at e;cases e
  |false=>rw[hb]at e;exact zUp h2 e
def zOi(f:yt)(d:D):Wq->Wq
 |[]=>[(f,d)]
 |(g,x)::r=>if g=f then(g,d)::r else(g,x)::zOi f d r
def zTr{K:yw}{Z:Qv}{H:Hp}{f:yt}{d:D}{v:V}(rd:tu K Z H d v):∀{fs:Wq} {vs:Wk},vs.map (·.1)=fs.map (·.1)->tf K Z H (fs.map (·.2)) (vs.map (·.2)) ->
 (zXk f v vs).map (·.1)=(zOi f d fs).map (·.1)/\tf K Z H ((zOi f d fs).map (·.2)) ((zXk f v vs).map (·.2))
 |[],[],_,_=>⟨rfl,.cons rd .nil⟩
 |[],_::_,h,_=>by cases h
 |_::_,[],h,_=>by cases h
 |(g,x)::fs,(g',y)::vs,h,r=>by
  obtain⟨h1,h2⟩:=yd h;have h1:g'=g:=h1;subst h1;obtain⟨v',q,e1,r1,r2⟩:=r.cons_inv;obtain⟨e2,e3⟩:=yd e1;subst e2 e3;unfold zXk zOi
  by_cases hg:g'=f
  ·rw[if_pos hg,if_pos hg];exact⟨h,.cons rd r2⟩
  ·rw[if_neg hg,if_neg hg];obtain⟨k1,k2⟩:=zTr rd h2 r2;exact⟨by show g'::_=g'::_;rw[k1],.cons r1 k2⟩
section
variable {X:Cx}{a o e:yE}{es:Qz}{G:FE}{ψ:FA}{pos kA:xn}{c f m:yt}
@[simp] def zmp(c f:yt)(G:FE):FE:=λJ O=>(G J O).bind λp=>match p.1 with
 |.loc n=>match p.2[n]? with
  |some (.ins c' fs)=>bif c'==c then(fs.lookup f).bind λd=>some (d,p.2) else none
  |_=>none
 |_=>none
def zVg(T:zKq X.K c f)(h:ME X a G)(hb:YB a f X.env (Yd a X.env)=Yd a X.env:=by rfl):ME X (.Attribute a f pos) (zmp c f G) :=
 zge (zJy h hb) λZ J O Y H d O' Q A e k=>by
  obtain⟨⟨x,O1⟩,e1,e⟩:=zj e;refine⟨Z,J,O,x,O1,A,e1,λZ1 H1 v x1 R1 r1=>?_⟩;dsimp only at e
  split at e
  ·split at e
   ·rename_i hm
    obtain⟨hc,e3⟩:=zV e;clear e;have hc:=eq_of_beq hc;subst hc;obtain⟨d',e2,e4⟩:=zj e3;cases e4;obtain⟨a,rfl,ea⟩:=r1.tw;obtain⟨C,dx,vs,hn,hH,hk,hv⟩:=R1.at_ _ _ _ ea hm;obtain⟨cl,na⟩:=T C hn;obtain⟨v,hl,rv⟩:=zjq hk hv e2;exact⟨a,C,dx,vs,v,rfl,hH,cl,na,hl,k Z1 H1 v x1 R1 rv⟩
   ·cases e
  ·cases e
@[simp] def zir(c f:yt)(G ψ:FE):FS:=λJ O=>(ψ J O).bind λy=>(G J y.2).bind λp=>match p.1 with
 |.loc n=>match p.2[n]? with
  |some (.ins c' fs)=>bif (c'==c)&&decide (fs.length<1000) then some (.next J (p.2.set n (.ins c (zOi f y.1 fs)))) else none
  |_=>none
 |_=>none
def zks{value:yE}{χ:FE}{pos':xn}(T:zKq X.K c f)(ha:ME X o G)(hv:ME X value χ)(hs:xD value (some (.Attribute o f pos')) pos.line X.env=pure false:=by rfl):MS X (.Assign [.Attribute o f pos'] value pos) (zir c f G χ) :=
 zRk (z6y ha hv hs) λZ J O Y H o E A e k=>by
  obtain⟨⟨y,O1⟩,e1,e⟩:=zj e;refine⟨Z,J,O,y,O1,A,e1,λZ1 H1 vy x1 R1 r1=>?_⟩;obtain⟨⟨x,O2⟩,e2,e⟩:=zj e;refine⟨Z1,J,O1,x,O2,A.ext x1 R1,e2,λZ2 H2 v x2 R2 r2=>?_⟩;dsimp only at e
  split at e
  ·split at e
   ·rename_i n c' fs hm
    obtain⟨hc,e3⟩:=zV e;clear e;rw[yK]at hc;have hl:=of_decide_eq_true hc.2;have hc:=eq_of_beq hc.1;subst hc;cases e3;obtain⟨a,rfl,ea⟩:=r2.tw;obtain⟨C,dx,vs,hn,hH,hk,hvs⟩:=R2.at_ _ _ _ ea hm;obtain⟨cl,na⟩:=T C hn
    have hW:vs.length<1000:=by
     have:=congrArg List.length hk;rw[Lv,Lv]at this;omega
    refine⟨a,C,dx,vs,rfl,hH,cl,na,hW,?_⟩;have kN:Mut (H2 a):=by rw[hH];trivial
    obtain⟨k1,k2⟩:=zTr (f:=f) (r1.ext (x2.trans (Ext.wr (o:=.ins C dx (zXk f vy vs)) kN))) hk (hvs.ext (Ext.wr (o:=.ins C dx (zXk f vy vs)) kN));have R3:=R2.wr (lo:=.ins c' (zOi f y fs)) kN ea ⟨C,dx,zXk f vy vs,hn,zy,k1,k2⟩;exact k Z2 Y _ (x1.trans (x2.trans (Ext.wr kN))) ((A.ext x1 R1).ext (x2.trans (Ext.wr kN)) R3)
   ·cases e
  ·cases e
@[simp] def zNc(c m:yt)(G:FE)(ψ:FA):FA:=λJ O=>(G J O).bind λp=>match p.1 with
 |.loc n=>match p.2[n]? with
  |some (.ins c' fs)=>bif (c'==c)&&(fs.lookup m).isNone then(ψ J p.2).bind λq=>some (.loc n::q.1,q.2) else none
  |_=>none
 |_=>none
def zlp{J:Loc}{O O':Mem}{ds:Wm}(h:zNc c m G ψ J O=some (ds,O')):∃n fs O1 as,G J O=some (.loc n,O1)/\O1[n]?=some (.ins c fs)/\fs.lookup m=none/\ψ J O1=some (as,O')/\ds=.loc n::as:=by
 obtain⟨⟨x,O1⟩,e1,h⟩:=zj h;dsimp only at h
 split at h
 ·split at h
  ·rename_i n c' fs hm
   obtain⟨hc,h3⟩:=zV h;clear h;rw[yK]at hc;have h1:=eq_of_beq hc.1;have h2:=Option.isNone_iff_eq_none.mp hc.2;subst h1;obtain⟨⟨as,O2⟩,e2,h4⟩:=zj h3;cases h4;exact⟨_,fs,O1,as,e1,hm,h2,e2,rfl⟩
  ·cases h
 ·cases h
structure MethAt(K:yw)(c m qual:yt)(st:Yb)(ps:Qx)(C f:yf)(fd:yV):Prop where
 nm:Ym K yp c=some (some (.ref C))
 cl:Cls K C
 me:Meth K C m f
 fn:Fun K m qual st f fd
 bd:Binds K fd ps []
variable {C g:yf}{fd:yV}{ps:Qx}{qual:yt}{st:Yb}{CX:CXT}{sp:Sp}{E:XK}{j k n:Nat}{F:FF}{FXm:FX}
def z2r{t:TA}{Z:Qv}{J:Loc}{O:Mem}{Y:L2.St}{H:Hp}{Q:VK}{ds:Wm}{O1:Mem}(B:MethAt X.K c m qual st ps C g fd)(A:At X.K Z H Y J O)(e1:zNc c m G ψ J O=some (ds,O1))(ht:∀Y H R,tMA X.K ψ Y H R->t Y H R)
 (kk:∀Z' H' vs,Ext Z H Z' H'->tG X.K Z' H' O1->tf X.K Z' H' ds vs->sp (vs++[]) H' Q E):zSw C m sp [] E (tM X.K G) t Y H Q:=by
 obtain⟨n,fs,μo,as,ea,hm,gA,eψ,rfl⟩:=zlp e1;refine⟨Z,J,O,.loc n,μo,A,ea,λZ1 H1 v x1 R1 r1=>?_⟩;obtain⟨a,rfl,ea'⟩:=r1.tw;obtain⟨C',dx,vs,hn',hH,hk,hv⟩:=R1.at_ _ _ _ ea' hm;have hC:=B.nm;rw[hn']at hC;cases hC;refine⟨a,dx,vs,rfl,hH,zUp hk gA,ht _ _ _ ⟨Z1,J,μo,as,O1,A.ext x1 R1,eψ,λZ2 H2 vs2 x2 R2 r2=>?_⟩⟩;exact kk Z2 H2 (.ref a::vs2) (x1.trans x2) R2 (.cons (r1.ext x2) r2)
def zqw{pl:Sem Bool}(B:MethAt X.K c m qual st ps C g fd)(φ:Te X.prog X.w X.K X.mg X.base CX j g fd ps sp)(hr:tQ k X.A)(hx:zei CX X E)(ho:ME X o G)(ha:MAn X (e::es) ψ)(hj:j<=k)
 (kR:yj (e::es) X.env=(false,Yd e X.env)::yj es X.env:=by exact zRc rfl) (kK:(Yl pos (yj es X.env)).any (·.1)=false:=by rfl)
 (ht:Yd (.Call (.Attribute o m kA) (e::es) [] pos) X.env=(do
  let ov <-Yd o X.env
  standAt kA.atName
  let (f,first) <-xt [ov] (getMethod ov m pl)
  callWith pos f first (Yl pos (yj (e::es) X.env)) (xP pos (YT [] X.env))):=by rfl) :
 PE X (.Call (.Attribute o m kA) (e::es) [] pos) (z4s sp [] E (tMA X.K (zNc c m G ψ))):=by
 intro U s Y H Q I h;obtain⟨Z,J,O,ds,O1,A,e1,kk⟩:=h;exact zyw ho B.cl B.me φ (hr.mono hj) B.bd .nil hx ha.ma kR kK ht U s Y H Q I (z2r B A e1 (λ_ _ _ h=>h) kk)
def zHu{pl:Sem Bool}(B:MethAt X.K c m qual st ps C g fd)(φ:Te X.prog X.w X.K X.mg X.base CX j g fd ps sp)(hr:tQ k X.A)(hx:zei CX X E)(ho:ME X o G)(hj:j<=k)
 (ht:Yd (.Call (.Attribute o m kA) [] [] pos) X.env=(do
  let ov <-Yd o X.env
  standAt kA.atName
  let (f,first) <-xt [ov] (getMethod ov m pl)
  callWith pos f first (Yl pos (yj [] X.env)) (xP pos (YT [] X.env))):=by rfl) :
 PE X (.Call (.Attribute o m kA) [] [] pos) (z4s sp [] E (tMA X.K (zNc c m G zI))):=by
 intro U s Y H Q I h;obtain⟨Z,J,O,ds,O1,A,e1,kk⟩:=h
 exact zVt ho B.cl B.me φ (hr.mono hj) B.bd .nil hx ht U s Y H Q I (z2r B A e1 (λY H R h=>by
  obtain⟨Z,J,O,ds,O',A,e,k⟩:=h;cases e;exact k Z H [] Ext.refl A.hp .nil) kk)
def zGj{J:Loc}{O O':Mem}{ds:Wm}(ha:∀J O ds O',ψ J O=some (ds,O')->ds.length+1=n)(h:zNc c m G ψ J O=some (ds,O')):ds.length=n:=by
 obtain⟨_,_,_,as,_,_,_,e,rfl⟩:=zlp h;exact ha _ _ _ _ e
def zLv(h:PE X a (z4s (spM X.K n F) [] E0 (tMA X.K ψ)))(hl:∀J O ds O',ψ J O=some (ds,O')->ds.length=n):ME X a (zx F ψ) :=
 zge h λZ J O Y H d O' Q A eo kk=>by
  obtain⟨⟨ds,O1⟩,e1,eo⟩:=zj eo;refine⟨Z,J,O,ds,O1,A,e1,λZ1 H1 vs x1 R1 r1=>?_⟩;show spM X.K n F (vs++[]) H1 Q E0;rw[Lf];exact⟨by rw[<-r1.length];exact hl _ _ _ _ e1,Z1,ds,O1,d,O',r1,R1,eo,λZ2 H2 v x2 R2 r2=>kk Z2 H2 v (x1.trans x2) R2 r2⟩
abbrev zBn(X:Cx)(o:yE)(m:yt)(es:Qz)(kA pos:xn)(pl:Sem Bool):Prop:=Yd (.Call (.Attribute o m kA) es [] pos) X.env=(do
 let ov <-Yd o X.env
 standAt kA.atName
 let (f,first) <-xt [ov] (getMethod ov m pl)
 callWith pos f first (Yl pos (yj es X.env)) (xP pos (YT [] X.env)))
def sU{pl:Sem Bool}(B:MethAt X.K c m qual st ps C g fd)(φ:Te X.prog X.w X.K X.mg X.base CX0 j g fd ps (spM X.K n F))(hr:tQ k X.A)(ho:ME X o G)(ha:MAn X (e::es) ψ)(hj:j<=k:=by decide)(hn:(e::es).length+1=n:=by rfl)
 (kR:yj (e::es) X.env=(false,Yd e X.env)::yj es X.env:=by exact zRc rfl) (kK:(Yl pos (yj es X.env)).any (·.1)=false:=by rfl) (ht:zBn X o m (e::es) kA pos pl:=by rfl) :
 ME X (.Call (.Attribute o m kA) (e::es) [] pos) (zx F (zNc c m G ψ)) :=
 zLv (zqw B φ hr Sg ho ha hj kR kK ht) λ_ _ _ _ h=>zGj (λ_ _ _ _ h=>by rw[ha.len _ _ _ _ h];exact hn) h
def TB{pl:Sem Bool}(B:MethAt X.K c m qual st ps C g fd)(φ:Te X.prog X.w X.K X.mg X.base CX0 j g fd ps (spM X.K 1 F))(hr:tQ k X.A)(ho:ME X o G)(hj:j<=k:=by decide)(ht:zBn X o m [] kA pos pl:=by rfl) :
 ME X (.Call (.Attribute o m kA) [] [] pos) (zx F (zNc c m G zI)) :=
 zLv (zHu B φ hr Sg ho hj ht) λ_ _ _ _ h=>zGj (λ_ _ _ _ h=>by cases h;rfl) h
def zOx{pl:Sem Bool}(B:MethAt X.K c m qual st ps C g fd)(φ:Te X.prog X.w X.K X.mg X.base (CXq X.prog X.w) j g fd ps (spX X.K n FXm))(hr:tQ k X.A)(ho:ME X.nox o G)(ha:MAn X.nox (e::es) ψ)(hj:j<=k)
 (kR:yj (e::es) X.env=(false,Yd e X.env)::yj es X.env) (kK:(Yl pos (yj es X.env)).any (·.1)=false) (ht:zBn X o m (e::es) kA pos pl)
 {U:Qb} {s:yc} {Y:L2.St} {H:Hp} {Q:VK} {W:XK} (I:Inv X U Y H s) (h:tCX X.K W n FXm (zNc c m G ψ) Y H Q):yo (yv X.prog X.w) X.A (Yd (.Call (.Attribute o m kA) (e::es) [] pos) X.env) (EP X U Y Q) (XP X U Y W) s:=by
 obtain⟨Z,J,O,ds,O1,A,e1,kk⟩:=h;refine PySem.W.methodCall_KW (pl:=pl) (yU (ho U s Y H _ (I.sv _) (z2r (sp:=spX X.K n FXm) (E:=W) (Q:=Q) (t:=tMA X.K ψ) B A e1 (λ_ _ _ h=>h) kk)) (λu s1 h1=>?_) λ_ _ z=>z.elim) ht;obtain⟨x,H1,I1,rx,a,dx,fs,ex,ea,l,q⟩:=h1;have I1:=I1.Tz;subst ex;obtain rfl:u=yH a:=rx;refine zSi I1 ea B.cl B.me l ?_;refine PySem.W.callWith_K (first:=[.ref a]) (h₀:=X.base) I.ok.mod.kin B.me.kp (yU (ha.ma pos U s1 Y H1 _ (I1.sv _) q) (λus s2 h2=>?_) λ_ _ z=>z.elim) kR kK;obtain⟨vs,H2,I2,r,q2⟩:=h2;have I2:=I2.Tz;refine⟨I2.kIn,?_⟩;have r2:Vals (.ref a::(vs++[])) (yH a::us++[]) :=.cons rfl (r.append .nil);have hl:(yH a::us++[]).length=ps.length:=by rw[<-r2.length];exact φ.len _ _ _ _ q2
 refine Xp (YI (φ.run X.A X.stack s2 H2 ⟨.ref a::us,[]⟩ (.ref a::us++[]) (.ref a::(vs++[])) Q W (hr.mono hj) I2.env0 (B.bd s2 (.ref a::us) I2.kIn hl) r2 q2) λrr s' hq=>?_)
 cases rr with
 |error ex=>
  obtain⟨C,dx,H',Fl,hw⟩:=hq;exact⟨H2,s2,C,dx,H',I2,Fl,hw⟩
 |ok fl=>
  cases fl with
  |ret u=>exact I2.after hq
  |next=>exact YD hq
  |brk=>exact YD hq
  |cont=>exact YD hq
def zXt{pl:Sem Bool}{spos:xn}(B:MethAt X.K c m qual st ps C g fd)(φ:Te X.prog X.w X.K X.mg X.base (CXq X.prog X.w) j g fd ps (spX X.K n FXm))(hr:tQ k X.A)(ho:ME X.nox o G)(ha:MAn X.nox (e::es) ψ)(hj:j<=k:=by decide)(hn:(e::es).length+1=n:=by rfl)
 (kR:yj (e::es) X.env=(false,Yd e X.env)::yj es X.env:=by exact zRc rfl) (kK:(Yl pos (yj es X.env)).any (·.1)=false:=by rfl) (ht:zBn X o m (e::es) kA pos pl:=by rfl)
 (hs:xD (.Call (.Attribute o m kA) (e::es) [] pos) none spos.line X.env=pure false:=by rfl):PX1 X (.Expr (.Call (.Attribute o m kA) (e::es) [] pos) spos) (zft FXm (zNc c m G ψ)):=by
 intro U s Y H D W I ⟨Z,J,O,o,A,eo,kk⟩;obtain⟨ds,O1,r,e1,e2,rfl⟩:=z9p eo;refine wpAny_Expr_any (thn (zOx B φ hr ho ha hj kR kK ht I (Q:=λ_ H'=>D.nx Y H') (zHv A e1 (zGj (λ_ _ _ _ h=>by rw[ha.len _ _ _ _ h];exact hn) e1) e2 ?_)) λv s1 ⟨y,H1,I1,r1,q1⟩=>⟨Y,H1,I1,q1⟩) I.quiet hs
 cases r with
 |ok d O'=>exact λZ' H' v x' R r=>kk Z' Y H' x' (A.ext x' R)
 |exc c fs O'=>exact kk
@[simp] def zSq(c:yt)(F:FF)(ψ:FA):FE:=λJ O=>(ψ J O).bind λq=>(F (.loc q.2.length::q.1) (q.2++[.ins c []])).bind λr=>match r.1 with
 |.non=>some (.loc q.2.length,r.2)
 |_=>none
def mmake{p:xn}(mk:Mk X.K C g)(hc:Ym X.K yp c=some (some (.ref C)))(hm:X.mg c=some (.ref C))(bd:Binds X.K fd ps [])(φ:Te X.prog X.w X.K X.mg X.base CX0 j g fd ps (spM X.K n F))(hr:tQ k X.A)(ha:MAn X (e::es) ψ)
 (hj:j+1<=k:=by decide) (hn:(e::es).length+1=n:=by rfl) (hg:Gl X c:=by rfl) (hdb:(c==("__debug__":yt))=false:=by decide) (he:yj (e::es) X.env=(false,Yd e X.env)::yj es X.env:=by exact zRc rfl) (kK:(Yl pos (yj es X.env)).any (·.1)=false:=by rfl) :
 ME X (.Call (.Name c p) (e::es) [] pos) (zSq c F ψ) :=
 zge (zvx mk φ (hr.mono hj) hg hm bd .nil Sg ha.ma hdb he kK) λZ J O Y H d O' Q A eo kk=>by
  obtain⟨⟨ds,O1⟩,e1,eo⟩:=zj eo;refine⟨Z,J,O,ds,O1,A,e1,λZ1 H1 vs x1 R1 r1 x dx nx ndx nex=>?_⟩;obtain⟨⟨r,O2⟩,e2,eo⟩:=zj eo;dsimp only at eo
  split at eo
  ·cases eo;have nx2:(upd H1 dx (.own x)) x=none:=by rw[zE (yR nex)];exact nx
   have R2:tG X.K Z1 (upd H1 dx (.own x)) O1:=R1.Tt ndx;have R3:=R2.push (lo:=.ins c []) nx2 ⟨C,dx,[],hc,zy,rfl,.nil⟩;have X3:=(Ext.new (Z:=Z1) (o:=.own x) ndx).trans (Ext.push (o:=.ins C dx []) nx2);rw[Lf];refine⟨by rw[Ls,<-r1.length,ha.len _ _ _ _ e1];exact hn,Z1++[x],.loc O1.length::ds,O1++[.ins c []],.non,_,.cons (.loc (zub R2)) (r1.ext X3),R3,e2,λZ4 H4 v x4 R4 r4=>⟨r4.tJ,kk Z4 H4 (.ref x) (x1.trans (X3.trans x4)) R4 (.loc (x4.get (zub R2)))⟩⟩
  ·cases eo
def Sc{x x0:yt}{p:xn}{f:yf}(hm:X.mg x=some (.ref f))(B:FnAt X.K X.mg x0 st ps f fd)(φ:Te X.prog X.w X.K X.mg X.base CX0 j f fd ps (spM X.K n F))(hr:tQ k X.A)
 (ha:MAn X (e::es) ψ) (hj:j<=k:=by decide) (hn:(e::es).length=n:=by rfl) (hg:Gl X x:=by rfl) (hdb:(x==("__debug__":yt))=false:=by decide) (he:yj (e::es) X.env=(false,Yd e X.env)::yj es X.env:=by exact zRc rfl) (kK:(Yl pos (yj es X.env)).any (·.1)=false:=by rfl) :
 ME X (.Call (.Name x p) (e::es) [] pos) (zx F ψ):=zEr φ (hr.mono hj) hm B.fn.kp B.bd ha hn hg hdb he kK
@[simp] def z4i(g:GM)(G:FE)(ψ:FA):FE:=λJ O=>(G J O).bind λp=>match p.1 with
 |.loc n=>match p.2[n]? with
  |some (.dct _)=>(ψ J p.2).bind λq=>g (.loc n) q.1 q.2
  |_=>none
 |_=>none
def zyu{o:yE}{ψ:FA}{name:yt}{id:String}{g:GM}{kA:xn}(slot:Slot "dict" name id)(hty:typeOf (.builtin id)=pure (.type "method_descriptor"))(hm:MtG X id g)(ho:ME X o G)(ha:MAn X (e::es) ψ)
 (kE:YB o name X.env (Yd o X.env)=Yd o X.env:=by rfl)
 (kF:((Yl pos (yj (e::es) X.env)).all (λx=>!x.1)&&(xP pos (YT [] X.env)).all (λx=>x.1.isSome)
  && decide ((e::es).length+([]:List xN).length+(if([]:List xN).isEmpty then 0 else 1)<30))=true:=by rfl)
 (kB:(kA.endLine==pos.line)=true:=by rfl) (hs:yj (e::es) X.env=(false,Yd e X.env)::yj es X.env:=by rfl) (kD:(Yl pos (yj es X.env)).any (·.1)=false:=by rfl) :
 ME X (.Call (.Attribute o name kA) (e::es) [] pos) (z4i g G ψ) :=
 zge (zkz PySem.F.plainAttrs_dict slot hty hm ho ha.ma kE kF kB hs kD) λZ J O Y H d O' Q A e k=>by
  obtain⟨⟨x,O1⟩,e1,e⟩:=zj e;refine⟨Z,J,O,x,O1,A,e1,λZ1 H1 v x1 R1 r1=>?_⟩;dsimp only at e
  split at e
  ·split at e
   ·rename_i hm'
    obtain⟨⟨ds,O2⟩,e2,e⟩:=zj e;obtain⟨a,rfl,ea⟩:=r1.tw;obtain⟨vs,e3,q3⟩:=R1.at_ _ _ _ ea hm';refine⟨.inr (.inr (.inl ⟨rfl,.inl ⟨vs,e3⟩⟩)),Z1,J,O1,ds,O2,A.ext x1 R1,e2,λZ2 H2 vs2 x2 R2 r2=>?_⟩;exact⟨Z2,_,ds,O2,d,O',r1.ext x2,r2,R2,e,λZ3 H3 v3 x3 R3 r3=>k Z3 H3 v3 (x1.trans (x2.trans x3)) R3 r3⟩
   ·cases e
  ·cases e
@[simp] def z3m:GM:=λx ds O=>match ds with
 |[.int i]=>(ztb O x).bind λhG=>some ((zPc hG i).getD .non,O)
 |_=>none
def z0t:MtG X "dict.get" z3m:=by
 refine MtG.of λU s Y H x xs v us Q I rx rs Z dx ds O d O' r1 r2 R e k=>?_;unfold z3m at e
 split at e
 ·rename_i i
  obtain⟨hG,e1,e⟩:=zj e;cases e;obtain⟨p,vs,rfl,hq,q1,q2⟩:=zGe R r1 e1;obtain⟨w,r,rfl,q3,q4⟩:=r2.cons_inv;rw[q4.nil_inv,q3.int_inv]at rs;obtain⟨u,rfl,ru⟩:=vals1 rs;cases rx;obtain⟨z,hd,us,rel,dd⟩:=z3g I.hok hq;refine call_meetsIn PySem.F.slot_dict_get dd.typeIs PySem.F.entry_dict_get (PySem.F.args_dict_get_2 _ _) (meets_dict_get (zlb X.prog X.w) p (zyq (k:=yP i) ru) hd) ⟨_,dd.mapOf,?_⟩;have rv:=rel.val (yP i)
  cases e3:zPc hG i with
  |none=>
   rw[(zRh i q1 q2).2 e3]at rv;rw[TQ.none_of rv];exact⟨.non,H,I.tok _,rfl,by have:=k Z H .non Ext.refl R;rw[e3]at this;exact this .non⟩
  |some d'=>
   obtain⟨v',ev,r'⟩:=(zRh i q1 q2).1 d' e3;rw[ev]at rv;obtain⟨u',eu,ru'⟩:=TQ.some_of rv;rw[eu];exact⟨v',H,I.tok _,ru',by have:=k Z H v' Ext.refl R;rw[e3]at this;exact this r'⟩
 ·cases e
def z3l{o:yE}{ψ:FA}{kA:xn}(ho:ME X o G)(ha:MAn X (e::es) ψ)
 (kE:YB o "get" X.env (Yd o X.env)=Yd o X.env:=by rfl)
 (kF:((Yl pos (yj (e::es) X.env)).all (λx=>!x.1)&&(xP pos (YT [] X.env)).all (λx=>x.1.isSome)
  && decide ((e::es).length+([]:List xN).length+(if([]:List xN).isEmpty then 0 else 1)<30))=true:=by rfl)
 (kB:(kA.endLine==pos.line)=true:=by rfl) (hs:yj (e::es) X.env=(false,Yd e X.env)::yj es X.env:=by rfl) (kD:(Yl pos (yj es X.env)).any (·.1)=false:=by rfl) :
 ME X (.Call (.Attribute o "get" kA) (e::es) [] pos) (z4i z3m G ψ):=zyu PySem.F.slot_dict_get PySem.F.type_dict_get z0t ho ha kE kF kB hs kD
end
structure sO(K:yw)(mg:yt->Qi)(c:yt)(st:Yb)(ps:Qx)(C f:yf)(fd:yV):Prop where
 nm:Ym K yp c=some (some (.ref C))
 mgc:mg c=some (.ref C)
 mkc:Mk K C f
 fn:Fun K "__init__" (c ++ ".__init__") st f fd
 bd:Binds K fd ps []
section
variable {X:Cx}{e:yE}{es:Qz}{ψ:FA}{pos p:xn}{c:yt}{C g:yf}{fd:yV}{ps:Qx}{st:Yb}{j k n:Nat}{F:FF}
def mmakeA(B:sO X.K X.mg c st ps C g fd)(φ:Te X.prog X.w X.K X.mg X.base CX0 j g fd ps (spM X.K n F))(hr:tQ k X.A)(ha:MAn X (e::es) ψ)
 (hj:j+1<=k:=by decide) (hn:(e::es).length+1=n:=by rfl) (hg:Gl X c:=by rfl) (hdb:(c==("__debug__":yt))=false:=by decide) (he:yj (e::es) X.env=(false,Yd e X.env)::yj es X.env:=by exact zRc rfl) (kK:(Yl pos (yj es X.env)).any (·.1)=false:=by rfl) :
 ME X (.Call (.Name c p) (e::es) [] pos) (zSq c F ψ):=mmake B.mkc B.nm B.mgc B.bd φ hr ha hj hn hg hdb he kK
def FnAt.al{K:yw}{mg:yt->Qi}{x y:yt}{f:yf}(B:FnAt K mg x st ps f fd)(h:mg y=mg x):mg y=some (.ref f):=h.trans B.at_
end
def zdx:Xq (.type "list") "__getattribute__"=pure (some (.builtin "list.__getattribute__")):=by rfl
def zlx:Xq (.type "list") "keys"=pure none:=by first|rfl|decide +kernel
def zDn{prog:yy}{w:yI}{A:yJ}{E:Value->yc->Prop}{s:yc}{l:yf}{hJ:Qm}{Q:Qi->yc->Prop}(hh:A.handled=none){ol:YS}{nl:Nat}(hol:s.heap.get? l=some ol)(kT:ol.cls=.type "list")(gI:ol.data=.seq hJ nl)(hdn:ol.dict=none)
 (q:∀h' tk,(∀b o,s.heap.get? b=some o->h'.get? b=some o)->Q none {s with heap:=h',toks:=tk }):yo (yv prog w) A (getAttr? (.ref l) "keys") Q E s:=by
 unfold getAttr? getAttrBy? getAttrBy
 wp_walk
 rw[kT];refine wpAny_of_eq zdx ?_;dsimp only;have e1:(onTheHeap (Yx "list")&&(xv "list.__getattribute__" == xv "object.__getattribute__"))=false:=by rfl
 rw[if_neg (by rw[e1];decide)];unfold getAttrByItsOwn hookBefore callGetattribute
 wp_walk
 refine wpAny_of_eq (PySem.F.slot_list_getattribute.bind (.ref l)) ?_;dsimp only[List.append,List.cons_append,Nw];obtain⟨ocls,odict,odata,oslots⟩:=ol;simp only at kT gI hdn;subst kT;subst gI;subst hdn;refine Xp (YI (xl (R:=λr s'=>∃h' tk e,s.heap.NewAttrErr h' e (.ref l) "keys"/\r=.error (.ref e)/\s' = {heap:=h',gens:=s.gens,drawn:=s.drawn,toks:=tk,os:=s.os }) PySem.F.slot_list_getattribute.plain am_entry_list_getattribute (PySem.F.slot_list_getattribute.check _ _ _ _ _ _ _ _ ⟨_,hol,rfl⟩ (PySem.F.args_list_getattribute_2 _ _) ?_)) ?_)
 ·exact meets_getattribute_miss_list l hJ nl oslots "keys" s.toks zlx (by decide +kernel) (by decide +kernel) prog w A (λr s'=>∃h' tk e,s.heap.NewAttrErr h' e (.ref l) "keys"/\r=.error (.ref e)/\s' = {heap:=h',gens:=s.gens,drawn:=s.drawn,toks:=tk,os:=s.os }) {heap:=s.heap,gens:=s.gens,drawn:=s.drawn,toks:=s.toks+1,os:=s.os } ⟨hol,hh,λh' tk e ne=>⟨h',tk,e,ne,rfl,rfl⟩⟩
 rintro r s' ⟨h',tk,e,ne,rfl,rfl⟩;dsimp only;obtain⟨t,u,he⟩:=ne.there;have sub:isSubtype (.type "AttributeError") (.type "AttributeError")=pure true:=by rfl
 unfold getattributeRaised hookBehind hookOrError attributeErrorLeaves;refine ya (Xy (T:="AttributeError") ⟨_,he,rfl⟩ sub ?_);rw[if_pos rfl];refine ya ?_;rw[if_neg (by decide)];refine wpAny_of_eq am_list_getattr_none ?_;dsimp only
 wp_walk
 exact q _ _ ne.keeps
def zUn:entryFor table "dict.update.loop"=some xi.«dict.update.loop»:=by first|rfl|kernel_rfl
def z5h:plainId "dict.update.loop"=true:=by decide +kernel
section
variable {prog:yy}{w:yI}{A:yJ}{R:Result->yc->Prop}{I:yf}{fp wr:Qv}{n:Nat}{P:Nat->Value->Prop}{St:Nat->yT->Prop}
def zmn(kk:Nat->Int)(vv:Nat->Value):Nat->List (Key×Value)
 |0=>[]
 |i+1=>PySem.stored (zmn kk vv i) (yP (kk i)) (vv i)
def zfn(kk:Nat->Int)(vv:Nat->Value):∀i,(zmn kk vv i).length<=i
 |0=>yh _
 |i+1=>yG (stored_length_le _ _ _) (Nat.succ_le_succ (zfn kk vv i))
def zet(W:Walks prog w A.in1 I fp wr n P St)(d:yf)(hdf:d∉fp)(kk:Nat->Int)(vv:Nat->Value)(tt:Nat->yf)(hP:∀i v,P i v->v=.ref (tt i))(hb:n+1<scanBound)(ht:∀i<n,tt i≠d/\tt i∉wr):∀(k i:Nat)(s:yc),n-i=k->i<=n->St i s.heap->s.heap.DictOf (zlb prog w) d (zmn kk vv i)->(∀j<n,∃tk,s.heap.IsTuple (tt j) #[.int (kk j) tk,vv j]) ->
 (∀h' tk,(∀b o,b∉d::wr->s.heap.get? b=some o->h'.get? b=some o)->h'.DictOf (zlb prog w) d (zmn kk vv n)->R (.ok (.ret .none)) {s with heap:=h',toks:=tk })->∀t0:Tok,xM (yv prog w) A (.builtin "dict.update.loop" ⟨[.ref d,.ref I,.int (i:Nat) t0,.none],[]⟩) R s:=by
 have hdw:d∉wr:=λq=>hdf (W.sub _ q);intro k
 induction k with
 |zero=>
  intro i s hk hi st hD hT hR t0;have e:i=n:=by omega
  subst e;refine YE zUn ?_;rw[Yw z5h _];show yo _ A.in1 (xW (.ref I) >>= _) _ _ s;refine ya (W.done s _ _ st λh' tk hk'=>?_);dsimp only;unfold Builtin.Dict.addKeywords
  wp_walk
  refine hR h' tk (λb o hb e=>hk' b o (λq=>hb (No _ q)) e) ?_;obtain⟨o,es,ep,g,r⟩:=hD;exact⟨o,es,ep,hk' _ _ hdw g,r⟩
 |succ k ih=>
  intro i s hk hi st hD hT hR t0;have kH:i<n:=by omega
  refine YE zUn ?_;rw[Yw z5h _];show yo _ A.in1 (xW (.ref I) >>= _) _ _ s;refine ya (W.item i s _ _ kH st λv h1 tk hp st1 hk1=>?_);obtain rfl:=hP i v hp;obtain⟨tki,ot,hot,hct,nt,hdt⟩:=hT i kH;have hot1:h1.get? (tt i)=some ot:=hk1 _ _ (ht i kH).2 hot;show yo _ A.in1 (xt [yH (tt i)] _ >>= _) _ _ _;refine ya (yQ (ya (wpAny_tryCatch ?_)))
  have hD1:Heap.DictOf (zlb prog w) h1 d (zmn kk vv i):=by
   obtain⟨o,es,ep,g,r⟩:=hD;exact⟨o,es,ep,hk1 _ _ hdw g,r⟩
  obtain⟨ocls,odict,odata,oslots⟩:=ot;simp only at hct hdt;subst hct;subst hdt;unfold Builtin.Dict.pairItems seqItems?;refine ya (wpAny_typeOf_ref hot1 ?_);rw[if_pos (show(Yx "tuple" == Yx "list" || Yx "tuple" == Yx "tuple")=true by decide)];refine ya (ya (wpAny_load hot1 (ye (ye ?_))));show yo _ A.in1 (xt [Value.int (kk i) tki,vv i] (dictSet d (Value.int (kk i) tki) (vv i))) _ _ _;refine yQ (wpAny_dictSet_pairs (knd:=zlb prog w) (k:=yP (kk i)) (zyq (k:=.inl (kk i)) ⟨tki,rfl⟩) hD1 (λh2 hD2 sb=>?_) ?_)
  ·refine ye ⟨xj z5h _,?_⟩;refine ih (i+1) _ (by omega) kH (W.frame _ _ _ st1 λc hc o e=>sb.extBut c o (λq=>hdf (q▸hc)) e) hD2 (λj hj=>?_) (λh3 tk3 hk3 hD3=>?_) _
   ·obtain⟨tj,oj,hoj,rj⟩:=hT j hj;exact⟨tj,oj,sb.extBut _ _ (ht j hj).1 (hk1 _ _ (ht j hj).2 hoj),rj⟩
   ·exact hR h3 tk3 (λc o hc e=>hk3 c o hc (sb.extBut c o (λq=>hc (by rw[q];exact Np)) (hk1 c o (λq=>hc (No _ q)) e))) hD3
  ·have:=zfn kk vv i;have:scanBound<=yF:=by decide
   omega
variable {E:Value->yc->Prop}{s:yc}
abbrev zhf:YS:={cls:=.type "dict",data:=.dict #[]}
def z3t(a:Value){Q:Value->yc->Prop}(h:Q (.ref s.heap.objs.size) {s with heap:=s.heap.push zhf }) :
 xM (yv prog w) A (.call (.builtin "dict.__new__") ⟨[.type "dict",a],[]⟩) (wants Q E) s:=by
 refine codeAny_of_tree ?_;show yo _ A.in1 (do checkBuiltinCall "dict.__new__" ⟨[.type "dict",a],[]⟩;again (.builtin "dict.__new__" ⟨[.type "dict",a],[]⟩)) _ _ s;refine ya (wpAny_of_eq (PySem.F.kt_newCall_dict_1 a) (ye ⟨xj PySem.F.kt_plain_dict_new _,YE PySem.F.kt_entry_dict_new ?_⟩));rw[Yw PySem.F.kt_plain_dict_new _];unfold xi.«dict.__new__»;have kU:=PySem.F.kt_called_dict.sub;have hmro:=PySem.F.kt_mro_dict;obtain⟨hp,g,d,tk,os⟩:=s;dsimp only
 wp_walk
 exact h
def zZp(prog:yy)(w:yI)(s:yc)(hG:List (Key×Value))(s':yc):Prop :=
 s'.heap.DictOf (zlb prog w) s.heap.objs.size hG/\(∀b o,s.heap.get? b=some o->s'.heap.get? b=some o)/\∃h' tk,s' = {s with heap:=h',toks:=tk }
set_option maxHeartbeats 3200000 in
def zGn{l:yf}{ol:YS}{nl:Nat}{hJ:Qm}{kk:Nat->Int}{vv:Nat->Value}{tt:Nat->yf}{Q:Value->yc->Prop}(hh:A.handled=none)(hol:s.heap.get? l=some ol)(kT:ol.cls=.type "list")(gI:ol.data=.seq hJ nl)(hdn:ol.dict=none)(hits:∀(i:Nat)(v:Value),hJ[i]?=some v->v=yH (tt i))(hT:∀j<hJ.size,∃tk,s.heap.IsTuple (tt j) #[.int (kk j) tk,vv j])(hb:hJ.size+1<scanBound)
 (h:∀s',zZp prog w s (zmn kk vv hJ.size) s'->Q (.ref s.heap.objs.size) s'):yo (yv prog w) A (call (.type "dict") [.ref l]) Q E s:=by
 obtain⟨c,tl,hmro⟩:=PySem.F.kt_called_dict.mro;have hmade:=PySem.F.kt_called_dict.made;have kU:=PySem.F.kt_called_dict.sub;refine Xp (codeAny_of_tree ?_);show yo _ _ (callAny (.type "dict") _) _ _ _;refine ye ⟨Code.quiet_builtin _ (by decide +kernel),YE PySem.F.entry_type_call ?_⟩;rw[Around.under_plain (weight_type_call_type "dict" [.ref l] []) rfl];have t1:=PySem.F.kt_called_dict.notType;have t2:=PySem.F.kt_called_dict.canCreate;have t3:=PySem.F.kt_typeCall_dict_1 (.ref l)
 repeat (any_goals (first|assumption|wp_step))
 refine YI (z3t (w:=w) (.ref l) (E:=E) (Q:=λob s1=>ob=.ref s.heap.objs.size/\s1 = {s with heap:=s.heap.push zhf }) ⟨rfl,rfl⟩) λr s1 hr=>?_
 cases r with
 |error e=>exact hr
 |ok fl=>
  cases fl with
  |ret ob=>
   obtain⟨rfl,rfl⟩:=hr;have hS:(s.heap.push zhf).get? s.heap.objs.size=some zhf:=yq _ rfl;have hTy:Shared.TypeIs {s with heap:=s.heap.push zhf } (.ref s.heap.objs.size) "dict":=⟨_,hS,rfl⟩
   have i1:=PySem.F.kt_called_dict.init.lookup;have i2:=PySem.F.kt_called_dict.init.bind (.ref s.heap.objs.size)
   repeat (any_goals (first|assumption|wp_step))
   refine YI (xl (R:=wants (λr s2=>r=.none/\zZp prog w s (zmn kk vv hJ.size) s2) E) PySem.F.kt_called_dict.init.plain PySem.F.entry_dict_init (PySem.F.kt_called_dict.init.check _ _ _ _ _ _ _ _ hTy (PySem.F.args_dict_init_2 _ _) ?_)) λr2 s2 hr2=>?_
   ·obtain⟨ocls,odict,odata,oslots⟩:=ol;simp only at kT gI hdn;subst kT;subst gI;subst hdn;have hlS:l<s.heap.objs.size:=yn hol;have hol1:(s.heap.push zhf).get? l=some {cls:=.type "list",dict:=none,data:=.seq hJ nl,slots:=oslots }:=yb _ hol;unfold xi.«dict.__init__» Builtin.Dict.selfAndRest Builtin.Dict.updateCommon Builtin.Dict.updateFrom;generalize hGA:getAttr?=GA
    wp_walk
    subst hGA;refine zDn (by simp[hh]) hol1 rfl rfl rfl λh1 tk1 kp1=>?_;dsimp only;rw[if_pos (show(none:Qi).isNone=true from rfl)];have hS1:=kp1 _ _ hS;have hl1:h1.IsList l hJ:=⟨_,kp1 _ _ hol1,rfl,nl,rfl⟩
    have hlt1:s.heap.objs.size<h1.objs.size:=yn hS1;have kL:l≠h1.objs.size:=yu (Xa hlS hlt1)
    have hSf:s.heap.objs.size∉[h1.objs.size,l]:=by
     simp only[Nn,Nz,or_false,not_or];exact⟨yu hlt1,yX hlS⟩
    generalize hPI:pyIter=PI
    wp_walk
    subst hPI;refine Xl hl1 ?_;refine ye ⟨xj z5h _,?_⟩
    have hD0:Heap.DictOf (zlb prog w) h1 s.heap.objs.size []:=by
     obtain⟨o,es,ep,g,r⟩:=(Heap.DictOf.new (knd:=zlb prog w) s.heap:Heap.DictOf (zlb prog w) (s.heap.push zhf) s.heap.objs.size [])
     exact⟨o,es,ep,kp1 _ _ g,r⟩
    refine zet (Walks.list (by simp[hh]) _ l kL hJ) s.heap.objs.size hSf kk vv tt hits hb (λj hj=>?_) (hJ.size-0) 0 _ (by omega) (Ys _) ⟨⟨_,yq _ rfl,rfl,rfl⟩,hl1.push _⟩ ?_ (λj hj=>?_) (λh2 tk2 hk2 hD2=>?_) _
    ·obtain⟨tk,o,ho, -⟩:=hT j hj;have:=yn ho;simp only[Nn,Nz,or_false];exact⟨yu this,yu (Xa this hlt1)⟩
    ·obtain⟨o,es,ep,g,r⟩:=hD0;exact⟨o,es,ep,yb _ g,r⟩
    ·obtain⟨tk,o,ho,r⟩:=hT j hj;exact⟨tk,o,yb _ (kp1 _ _ (yb _ ho)),r⟩
    ·refine⟨rfl,hD2,λb o e=>?_,h2,tk2,rfl⟩;have kH:b<s.heap.objs.size:=yn e;refine hk2 b o ?_ (yb _ (kp1 _ _ (yb _ e)));simp only[Nn,Nz,or_false,not_or];exact⟨yu kH,yu (Xa kH hlt1)⟩
   ·cases r2 with
    |error e=>exact hr2
    |ok fl2=>
     cases fl2 with
     |ret r=>
      obtain⟨rfl,hm⟩:=hr2
      repeat (any_goals (first|assumption|wp_step))
      exact h _ hm
     |_=>exact hr2.elim
  |_=>exact hr.elim
variable {P:yy}{K:yw}{mg:yt->Qi}{base:yT}{x qual:yt}{st:Yb}{f:yf}{fd:yV}{N ps:Qx}{k:Nat}
variable {X:Cx}{e:yE}{es:Qz}{G ψ:FE}{pos:xn}
def zeo:GL:=λds O=>match ds with
 |[x]=>(ztb O x).bind λhG=>some (.loc O.length,O++[.dct hG])
 |_=>none
def zhp:Ta X (.type "dict") zeo:=by
 refine Ta.of λU s Y H xs us Q I r Z ds O d O' r1 R e k=>?_;unfold zeo at e
 split at e
 ·obtain⟨hG,e1,e⟩:=zj e;cases e;obtain⟨v,rr,rfl,q1,q2⟩:=r1.cons_inv;rw[q2.nil_inv]at r;obtain⟨p,vs,rfl,hq,w1,w2⟩:=zGe R q1 e1;obtain⟨u,rfl,ru⟩:=vals1 r;cases ru;obtain⟨hz,hd,us',rel,dd⟩:=z3g I.hok hq;have hf:=I.hok.fresh (yh s.heap.objs.size);refine kt_call_dict hd dd (by rw[<-rel.length];exact hz) λh' dd' hs=>?_;refine⟨.ref s.heap.objs.size,_,I.laid (a:=s.heap.objs.size) (o:=.dK vs) (t':=s.toks) (λb q hq=>(hs.2 b (yu (yn hq))).trans (yb _ hq)) (yh _) ⟨hz,beq_eq_false_iff_ne.mpr (yR (yu (big I))),us',rel,dd'⟩,rfl,k _ _ _ (Ext.push hf) (R.push hf ⟨vs,zy,w1,w2.ext (Ext.push hf)⟩) (.loc (zub R))⟩
 ·cases e
def zUr:D->Option (Int×D)
 |.tup [.int i,d]=>some (i,d)
 |_=>none
def zbu(kk:Nat->Int)(xx:Nat->V):Nat->Wj
 |0=>[]
 |i+1=>zrd (zbu kk xx i) (yP (kk i)) (xx i)
def zht(kk:Nat->Int)(dd:Nat->D):Nat->Wp
 |0=>[]
 |i+1=>zYk (zht kk dd i) (kk i) (dd i)
def znt{kk:Nat->Int}{xx:Nat->V}{vv:Nat->Value}{n:Nat}(h:∀j<n,RelV (xx j) (vv j)):∀i≤n,KV (zbu kk xx i) (zmn kk vv i)
 |0,_ =>.nil
 |i+1,hi=>(znt h i (by omega)).put _ (h i (by omega))
def zxs{K:yw}{Z:Qv}{H:Hp}{kk:Nat->Int}{xx:Nat->V}{dd:Nat->D}{n:Nat}(h:∀j<n,tu K Z H (dd j) (xx j)):∀i≤n,(zbu kk xx i).map (·.1)=(zht kk dd i).map (λp=>yP p.1)/\tf K Z H ((zht kk dd i).map (·.2)) ((zbu kk xx i).map (·.2))
 |0,_=>⟨rfl,.nil⟩
 |i+1,hi=>by
  obtain⟨h1,h2⟩:=zxs h i (by omega);exact⟨zuh _ _ _ _ _ h1,zDs (h i (by omega)) h1 h2⟩
def pkF(ps:Wp):Nat->Int:=λi=>(ps.getD i (0,.non)).1
def pdF(ps:Wp):Nat->D:=λi=>(ps.getD i (0,.non)).2
def zUl:GL:=λds O=>match ds with
 |[.loc n]=>match O[n]? with
  |some (.lst xs)=>(xs.mapM zUr).bind λps=>bif decide (ps.length<=4000) then some (.loc O.length,O++[.dct (zht (pkF ps) (pdF ps) ps.length)]) else none
  |_=>none
 |_=>none
def zOn:∀{xs:Wm} {ps:Wp},xs.mapM zUr=some ps->xs.length=ps.length/\∀j<ps.length,xs[j]?=some (.tup [.int (pkF ps j),pdF ps j])
 |[],ps,h=>by
  cases (show some []=some ps from h);exact⟨rfl,λj hj=>absurd hj (by simp)⟩
 |x::xs,ps,h=>by
  rw[Nc]at h;obtain⟨p,e1,h⟩:=zj h;obtain⟨r,e2,h⟩:=zj h;cases h;obtain⟨h1,h2⟩:=zOn (show xs.mapM zUr=some r from e2);refine⟨by simp[h1],λj hj=>?_⟩
  cases j with
  |zero=>
   unfold zUr at e1
   split at e1
   ·cases e1;rfl
   ·cases e1
  |succ j=>exact h2 j (by simpa using hj)
def zAp(kk:Nat->Int)(xx:Nat->V):∀i,(zbu kk xx i).length<=i
 |0=>yh _
 |i+1=>by
  have h1:=zAp kk xx i;have h2:=zIk (zbu kk xx i) (yP (kk i)) (xx i);unfold zbu;omega
def zgp(hc:X.calm=true):Ta X (.type "dict") zUl:=by
 refine Ta.of λU s Y H xs us Q I r Z ds O d O' r1 R e k=>?_;unfold zUl at e
 split at e
 ·rename_i n
  split at e
  ·rename_i ys hm
   obtain⟨ps,e1,e⟩:=zj e;obtain⟨hb,e⟩:=zV e;have hb:=of_decide_eq_true hb;cases e;obtain⟨v,rr,rfl,q1,q2⟩:=r1.cons_inv;rw[q2.nil_inv]at r;obtain⟨a,rfl,ea⟩:=q1.tw;obtain⟨u,rfl,ru⟩:=vals1 r;cases ru;obtain⟨vs,hH,rep⟩:=R.at_ _ _ _ ea hm;obtain⟨hJ,rv,⟨o,nn,ho,kT,hdn,kS⟩,hz⟩:=I.list (SqL.of hH);obtain⟨hl,hg⟩:=zOn e1;have hlv:ys.length=vs.length:=rep.length;have kZ:vs.length=hJ.length:=rv.length
   have pick:∀j,∃t:yf×Value×V,j<ps.length->hJ[j]?=some (.ref t.1)/\(∃tk,s.heap.IsTuple t.1 #[.int (pkF ps j) tk,t.2.1])/\RelV t.2.2 t.2.1/\tu X.K Z H (pdF ps j) t.2.2:=by
    intro j
    by_cases hj:j<ps.length
    ·obtain⟨w,ew,rw⟩:=rep.get (hg j hj);obtain⟨t,zs,rfl,ht,rz⟩:=rw.tR;obtain⟨z1,rz1,rfl,r1',rz⟩:=rz.cons_inv;obtain⟨z2,rz2,rfl,r2',rz⟩:=rz.cons_inv;rw[rz.nil_inv,r1'.int_inv]at ht;obtain⟨_,jts,rj,hj'⟩:=(show tF X.prog X.w H s.heap t (.tup [.int (pkF ps j),z2]) from I.hok t _ ht)
     cases rj with
     |cons b1 rj=>
      cases rj with
      |cons b2 rj=>
       cases rj;obtain⟨tk,rfl⟩:=b1
       rename_i b2v
       obtain⟨w',ew',hr⟩:=rv.get ew;cases hr;exact⟨(t,b2v,z2),λ_=>⟨ew',⟨tk,hj'⟩,b2,r2'⟩⟩
    ·exact⟨(0,.none,.non),λh=>absurd h hj⟩
   obtain⟨f,hf⟩:=Classical.axiomOfChoice pick
   have hsz:hJ.toArray.size=ps.length:=by
    have:hJ.toArray.size=hJ.length:=by simp
    omega
   refine zGn (I.ok.hd hc) ho kT kS hdn (kk:=pkF ps) (vv:=λj=>(f j).2.1) (tt:=λj=>(f j).1) (λi v ev=>?_) (λj hj=>(hf j (by omega)).2.1) (by rw[hsz];unfold scanBound;omega) λs' ⟨hD,hk,h',tk,es⟩=>?_
   ·have kH:i<ps.length:=by
     have:=(Array.getElem?_eq_some_iff.mp ev).1;omega
    have ev:hJ[i]?=some v:=by simpa using ev
    rw[(hf i kH).1]at ev;cases ev;rfl
   ·subst es;rw[hsz]at hD;have hF:=I.hok.fresh (yh s.heap.objs.size);have hl1:=zAp (pkF ps) (λj=>(f j).2.2) ps.length;have x1:Ext Z H (Z++[s.heap.objs.size]) (upd H s.heap.objs.size (.dK (zbu (pkF ps) (λj=>(f j).2.2) ps.length))):=Ext.push hF;have hrep:=zxs (K:=X.K) (kk:=pkF ps) (xx:=λj=>(f j).2.2) (dd:=pdF ps) (n:=ps.length) (λj hj=>((hf j hj).2.2.2).ext x1) ps.length (yh _);have hmi:=Yo;refine⟨.ref s.heap.objs.size,_,I.laid (a:=s.heap.objs.size) (o:=.dK (zbu (pkF ps) (λj=>(f j).2.2) ps.length)) (t':=tk) hk (yh _) ⟨by omega,beq_eq_false_iff_ne.mpr (yR (yu (big I))),_,znt (λj hj=>(hf j hj).2.2.1) ps.length (yh _),hD⟩,rfl,k _ _ _ x1 (R.push hF ⟨_,zy,hrep.1,hrep.2⟩) (.loc (zub R))⟩
  ·cases e
 ·cases e
def zVj(hG:Wp):Wm:=hG.map λp =>.tup [.int p.1,p.2]
def zuu{U:Qb}{Y:L2.St}{H:Hp}{s:yc}{p:yf}{o:YS}{vs:Wj}(I:Inv X U Y H s)(hp:H p=some (.frz o (.dK vs)))(h0:∀o u,X.H₀ p≠some (.frz o u)):Inv X U Y (upd H p (.dK vs)) s:=by
 have nn:∀b,H b=none->b≠p:=λb n z=>by subst z;rw[n]at hp;cases hp
 have b:=I.base;refine⟨I.ok,I.os,I.bare,⟨b.keep,b.slot,λc u q n hx=>?_,b.there,λc xs q=>?_,λc u xs q=>?_,λc ps q=>?_⟩,I.loc,I.cell,?_,λx c e=>?_,λq hq=>?_,λc u e=>?_,I.len⟩
 ·rw[zE (nn c (b.free c u q n hx))];exact b.free c u q n hx
 ·have:=b.tups c xs q;rw[zE (by rintro rfl;rw[hp]at this;cases this)];exact this
 ·rw[zE (by rintro rfl;exact h0 _ _ q)];exact b.Tx c u xs q
 ·obtain⟨more,e⟩:=b.TJ c ps q;exact⟨more,by rw[zE (by rintro rfl;rw[hp]at e;cases e)];exact e⟩
 ·rw[zE (nn _ I.free)];exact I.free
 ·rw[zE (nn _ (I.freeC x c e))];exact I.freeC x c e
 ·obtain⟨a1,a2,a3⟩:=I.pin q hq;exact⟨a1,by rw[zE (nn _ a2)];exact a2,a3⟩
 ·by_cases hc:c=p
  ·subst hc;rw[zy]at e;cases e;obtain⟨_,a1,a2,us,rel,dd⟩:=(show tF X.prog X.w H s.heap c (.frz o (.dK vs)) from I.hok c _ hp)
   exact⟨a1,a2,us,rel,dd⟩
  ·rw[zE hc]at e;refine(I.hok c u e).stay (λ_ _ _ r=>r) (λa r=>?_) λa xs r=>?_
   ·rw[zE (by rintro rfl;rw[hp]at r;cases r)];exact r
   ·rw[zE (by rintro rfl;rw[hp]at r;cases r)];exact r
section
variable {K:yw}{Z:Qv}{H H':Hp}
mutual
def tu.sw(h1:∀a vs,H a=some (.tup vs)->H' a=some (.tup vs))(h2:∀a vs,FzL K H a vs->FzL K H' a vs):∀{d:D} {v:V},tu K Z H d v->tu K Z H' d v
 |.non,_,h=>by unfold tu at h ⊢;exact h
 |.bl _,_,h=>by unfold tu at h ⊢;exact h
 |.int _,_,h=>by unfold tu at h ⊢;exact h
 |.str _,_,h=>by unfold tu at h ⊢;exact h
 |.ty _,_,h=>by unfold tu at h ⊢;exact h
 |.tup ds,_,h=>by
  unfold tu at h ⊢;obtain⟨a,vs,e1,e2,r⟩:=h;exact⟨a,vs,e1,h1 _ _ e2,tf.sw h1 h2 r⟩
 |.fz ds,_,h=>by
  unfold tu at h ⊢;obtain⟨a,vs,e1,e2,r⟩:=h;exact⟨a,vs,e1,h2 _ _ e2,tf.sw h1 h2 r⟩
 |.loc n,_,h=>by unfold tu at h ⊢;exact h
 |.own c,_,h=>by unfold tu at h ⊢;exact h
def tf.sw(h1:∀a vs,H a=some (.tup vs)->H' a=some (.tup vs))(h2:∀a vs,FzL K H a vs->FzL K H' a vs):∀{ds:Wm} {vs:Wi},tf K Z H ds vs->tf K Z H' ds vs
 |[],_,h=>by unfold tf at h ⊢;exact h
 |d::ds,_,h=>by
  unfold tf at h ⊢;obtain⟨v,r,e1,q1,q2⟩:=h;exact⟨v,r,e1,tu.sw h1 h2 q1,tf.sw h1 h2 q2⟩
end
def zrr{p a:yf}{o:YS}{vs:Wj}{lo:tx}(hp:H p=some (.frz o (.dK vs)))(hap:a≠p)(h:sF K Z H a lo):sF K Z (upd H p (.dK vs)) a lo:=by
 have h1:∀a xs,H a=some (.tup xs)->(upd H p (.dK vs)) a=some (.tup xs):=λa xs e=>by rw[zE (by rintro rfl;rw[hp]at e;cases e)];exact e
 have h2:∀a xs,FzL K H a xs->FzL K (upd H p (.dK vs)) a xs:=λa xs e=>by
  rcases e with ⟨o',e⟩|e
  ·exact .inl ⟨o',by rw[zE (by rintro rfl;rw[hp]at e;cases e)];exact e⟩
  ·exact .inr e
 have s:upd H p (.dK vs) a=H a:=zE hap
 cases lo with
 |lst ds=>obtain⟨vs,q,r⟩:=h;exact⟨vs,s.trans q,r.sw h1 h2⟩
 |dct hG=>obtain⟨vs,q,q2,r⟩:=h;exact⟨vs,s.trans q,q2,r.sw h1 h2⟩
 |dcf hG=>obtain⟨o,vs,q,q2,r⟩:=h;exact⟨o,vs,s.trans q,q2,r.sw h1 h2⟩
 |exc c fs=>
  obtain⟨C,dx,n,q,r⟩:=h;refine⟨C,dx,n,s.trans q,?_⟩;rcases r with r|⟨p',vs',e1,e2,e3,r⟩
  ·exact .inl r
  ·exact .inr ⟨p',vs',e1,by rw[zE (by rintro rfl;rw[hp]at e2;cases e2)];exact e2,e3,r.sw h1 h2⟩
 |ins c fs=>obtain⟨C,dx,vs,n,q,q2,r⟩:=h;exact⟨C,dx,vs,n,s.trans q,q2,r.sw h1 h2⟩
end
def zAr(n:Nat)(O:Mem):Mem:=match O[n]? with
 |some (.dcf hG)=>O.set n (.dct hG)
 |_=>O
def zjm(i:Nat)(G:FE):FE:=λJ O=>match J[i]? with
 |some (some (.loc n))=>match O[n]? with
  |some (.dct _)=>(G J O).bind λp=>some (p.1,zAr n p.2)
  |_=>G J O
 |_=>G J O
def zdp(i:Nat)(h:ME X e G):ME X e (zjm i G):=by
 intro U s Y H Q I hh;obtain⟨Z,J,O,d,O',A,e,k⟩:=hh;unfold zjm at e
 split at e
 ·rename_i n hd
  split at e
  ·rename_i kv0 hm
   obtain⟨⟨x,O1⟩,e1,e⟩:=zj e;cases e;obtain⟨w,hw,rw⟩:=A.st i _ hd;obtain⟨p,rfl,ep⟩:=rw.tw;obtain⟨vs0,hp0,_⟩:=A.hp.at_ _ _ _ ep hm
   have h0:∀o u,X.H₀ p≠some (.frz o u):=λo u e=>by
    have:=I.base.Tx _ _ _ e;rw[hp0]at this;cases this
   refine thn (h U s Y H (λv H'=>∃Z',Ext Z H Z' H'/\tG X.K Z' H' O1/\tu X.K Z' H' x v) I ⟨Z,J,O,x,O1,A,e1,λZ' H' v x1 R1 r1=>⟨Z',x1,R1,r1⟩⟩) λu s1 ⟨v,H1,I1,rv,Z1,x1,R1,r1⟩=>?_;have ep1:=x1.get ep;unfold zAr at k
   split at k
   ·rename_i hG hm1
    obtain⟨o,vs,hp1,q1,q2⟩:=R1.at_ _ _ _ ep1 hm1;have I2:=zuu I1 hp1 h0;have h1:∀a xs,H1 a=some (.tup xs)->(upd H1 p (.dK vs)) a=some (.tup xs):=λa xs e=>by rw[zE (by rintro rfl;rw[hp1]at e;cases e)];exact e
    have h2:∀a xs,FzL X.K H1 a xs->FzL X.K (upd H1 p (.dK vs)) a xs:=λa xs e=>by
     rcases e with ⟨o',e⟩|e
     ·exact .inl ⟨o',by rw[zE (by rintro rfl;rw[hp1]at e;cases e)];exact e⟩
     ·exact .inr e
    refine⟨v,_,I2,rv,k Z1 _ v ⟨x1.pre,λa xs e=>h1 _ _ (x1.tup _ _ e),λa o' u e=>?_,λa fs e=>?_⟩ ⟨R1.nd,by simp[R1.len],λm a lo e1 e2=>?_⟩ (r1.sw h1 h2)⟩
    ·have kL:a≠p:=by rintro rfl;rw[hp0]at e;cases e
     rw[zE kL];exact x1.frz _ _ _ e
    ·have e':=x1.xd _ _ e;rw[zE (by rintro rfl;rw[hp1]at e';cases e')];exact e'
    ·by_cases hmn:m=n
     ·subst hmn;rw[ep1]at e1;cases e1;rw[yN (List.getElem?_eq_some_iff.mp hm1).1]at e2;cases e2;exact⟨vs,zy,q1,q2.sw h1 h2⟩
     ·rw[yL (yR hmn)]at e2
      have hap:a≠p:=by
       rintro rfl;obtain⟨z1,y1⟩:=List.getElem?_eq_some_iff.mp e1;obtain⟨z2,y2⟩:=List.getElem?_eq_some_iff.mp ep1;exact hmn ((List.getElem_inj R1.nd).mp (y1.trans y2.symm))
      exact zrr hp1 hap (R1.at_ m a lo e1 e2)
   ·exact⟨v,H1,I1,rv,k Z1 H1 v x1 R1 r1⟩
  ·exact h U s Y H Q I ⟨Z,J,O,d,O',A,e,k⟩
 ·exact h U s Y H Q I ⟨Z,J,O,d,O',A,e,k⟩
end
@[simp] def zMr(i:Nat)(t:yt)(F:FX)(G:FA):FS:=zCz F G λd J O =>.next (J.set i (some (.tup [.str t,d]))) O
section
variable {X:Cx}{o e:yE}{es:Qz}{G:FE}{ψ:FA}{pos kA:xn}{c m qual:yt}{C g:yf}{fd:yV}{ps:Qx}{st:Yb}{j k n:Nat}{FXm:FX}
def zAu{pl:Sem Bool}{spos py tpos cp:xn}{y t:yt}{cj}{x1}(i:Nat)(B:MethAt X.K c m qual st ps C g fd)(φ:Te X.prog X.w X.K X.mg X.base (CXq X.prog X.w) j g fd ps (spX X.K n FXm))(hr:tQ k X.A)(ho:ME X.nox o G)(ha:MAn X.nox (e::es) ψ)(hj:j<=k:=by decide)(hn:(e::es).length+1=n:=by rfl)
 (hN:X.N.Nodup:=by first|assumption|decide) (hi:X.N[i]?=some y:=by rfl) (hy:L2.Loc X.env.scope y:=by first|exact Or.inl rfl|exact Or.inr rfl)
 (kR:yj (e::es) X.env=(false,Yd e X.env)::yj es X.env:=by exact zRc rfl) (kK:(Yl pos (yj es X.env)).any (·.1)=false:=by rfl) (ht:zBn X o m (e::es) kA pos pl:=by rfl)
 (hs2:yj [.Constant (.str t) cj cp,.Call (.Attribute o m kA) (e::es) [] pos] X.env=[(false,Yd (.Constant (.str t) cj cp) X.env),(false,Yd (.Call (.Attribute o m kA) (e::es) [] pos) X.env)]:=by rfl)
 (hs:xD (.Tuple [.Constant (.str t) cj cp,.Call (.Attribute o m kA) (e::es) [] pos] x1 tpos) (some (.Name y py)) spos.line X.env=pure false:=by rfl) (hf:X.fn y=true\/X.env.scope.names.lookup y=some .local:=by first|exact .inl rfl|exact .inr rfl|assumption) :
 PX1 X (.Assign [.Name y py] (.Tuple [.Constant (.str t) cj cp,.Call (.Attribute o m kA) (e::es) [] pos] x1 tpos) spos) (zMr i t FXm (zNc c m G ψ)):=by
 intro U s Y H D W I ⟨Z,J,O,o,A,eo,kk⟩;obtain⟨ds,O1,r,e1,e2,rfl⟩:=z9p eo;refine wpAny_Assign_Name (thn (Q:=EP X U Y λv H'=>D.nx (Y.set i (some v)) H') (wpAny_Tuple_spliced ?_) λv s1 ⟨y,H1,I1,r1,q1⟩=>zli I1 hN hi hy r1 (λs2 I2=>⟨_,H1,I2,q1⟩) hf) hs;rw[hs2];show yo _ _ (spliced ((false,Yd (.Constant (.str t) cj cp) X.env)::Yl tpos [(false,Yd (.Call (.Attribute o m kA) (e::es) [] pos) X.env)])) _ _ s;refine Calls.spliced_cons (Calls.Constant_str ?_);show yo _ _ (spliced [(false,_)]) _ _ _;refine Calls.spliced_cons (thn (zOx B φ hr ho ha hj kR kK ht (I.tok _) (Q:=λv H'=>∀p,H' p=none->D.nx (Y.set i (some (.ref p))) (upd H' p (.tup [.str t,v]))) (zHv A e1 (zGj (λ_ _ _ _ h=>by rw[ha.len _ _ _ _ h];exact hn) e1) e2 ?_)) λv s1 ⟨y,H1,I1,r1,q1⟩=>Calls.spliced_nil ⟨?_,?_⟩)
 ·cases r with
  |ok d O'=>
   refine λZ' H' v x' R r p hp=>kk Z' _ _ (x'.trans (Ext.new hp)) ?_;have x2:Ext Z' H' Z' (upd H' p (.tup [.str t,v])):=Ext.new hp;exact(A.ext (x'.trans x2) (R.Tt hp)).set (.tup zy (.cons .str (.cons (r.ext x2) .nil))) i
  |exc c fs O'=>exact kk
 ·simp[Yo]
 ·have hf:H1 s1.heap.objs.size=none:=I1.hok.fresh (yh _);refine⟨.ref s1.heap.objs.size,upd H1 s1.heap.objs.size (.tup [.str t,y]),I1.laid (t':=s1.toks) (λb u e=>yb _ e) (yh _) ?_,rfl,q1 _ hf⟩;exact⟨by simp[Yo],_,.cons ⟨_,rfl⟩ (.cons r1 .nil),⟨_,yq _ rfl,rfl,_,rfl⟩⟩
end
abbrev OkM(P:yy)(w:yI)(K:yw)(mg:yt->Qi)(base:yT)(j:Nat)(f:yf)(fd:yV)(ps:Qx)(n:Nat)(F:FF):Prop:=Te P w K mg base CX0 j f fd ps (spM K n F)
abbrev OkX(P:yy)(w:yI)(K:yw)(mg:yt->Qi)(base:yT)(j:Nat)(f:yf)(fd:yV)(ps:Qx)(n:Nat)(F:FX):Prop:=Te P w K mg base (CXq P w) j f fd ps (spX K n F)
section
variable {P:yy}{w:yI}{K:yw}{mg:yt->Qi}{base:yT}{x qual:yt}{st:Yb}{f:yf}{fd:yV}{N ps:Qx}{k n:Nat}
def tS(φ:Fun K x qual st f fd)(S:tq N ps (zp st))(p:FS)(h:∀{cdv:Value} {A:yJ} {outer:Qp} {s:yc} {H:Hp} {E:XK} (hr:tQ k (A.deeper (envOfC qual (zp st) s.heap.objs.size f cdv))),(A.deeper (envOfC qual (zp st) s.heap.objs.size f cdv)).units+64<cLine ->
 MSs (zUq CX0 P w K mg base N qual (zp st) f cdv A outer s H E).nox (zdc st) p) (hn:ps.length=n:=by rfl):Te P w K mg base CX0 (k+1) f fd ps (spM K n λds O=>zGb (p (zS N ds) O)) :=
 fnM φ S hn λcdv A outer s H E hr=>⟨p,h hr hr.units,λ_ _ _ _ _ e=>e⟩
def fnYi(φ:Fun K x qual st f fd)(S:tq N ps (zp st))(p:FS)(h:∀{cdv:Value} {A:yJ} {outer:Qp} {s:yc} {H:Hp} {E:XK} (hr:tQ k (A.deeper (envOfC qual (zp st) s.heap.objs.size f cdv))),(A.deeper (envOfC qual (zp st) s.heap.objs.size f cdv)).units+64<cLine ->
 MSs (zUq (CXq P w) P w K mg base N qual (zp st) f cdv A outer s H E) (zdc st) p) (hn:ps.length=n:=by rfl):Te P w K mg base (CXq P w) (k+1) f fd ps (spX K n λds O=>ziz (p (zS N ds) O)) :=
 fnX φ S hn λcdv A outer s H E hr=>⟨p,h hr hr.units,λ_ _ _ _ e=>e⟩
def TF{X:Cx}{pos:xn}{G:FE}{scope:xS}{elt tg iter:yE}{ifs:Qz}{i:FI}{g:FG}{ct:FT}(own:Qx)(fr:Qf)(hi:MI X tg iter i)
 (hg:∀{cl C s₀ H₀ fp},MGc (cxC X own fr scope cl C s₀ H₀ fp) own.length tg g) (hq:∀{cl C s₀ H₀ fp},MF (cxC X own fr scope cl C s₀ H₀ fp) ifs ct) (he:∀{cl C s₀ H₀ fp},ME (cxC X own fr scope cl C s₀ H₀ fp) elt G)
 (kP:∀i∈fr,∃x,X.N[i]?=some x/\scope.names.lookup x=some .free) (hok:zNt X.env.scope scope=true:=by rfl) (hc:X.calm=true:=by rfl) (hs:∀x,YH iter X.env x=pure x:=by intro _;rfl) :
 ME X (.ListComp elt [⟨tg,iter,ifs,0⟩] scope pos) (fLC own.length fr i g ct G) :=
 mlc own fr hi (λ_ _ _ _ _=>hg) (λ_ _ _ _ _=>hq) (λ_ _ _ _ _=>he) kP hok hc hs
def mslcI{X:Cx}{pos:xn}{G:FE}{scope:xS}{elt tg iter:yE}{ifs:Qz}{spos py:xn}{y:yt}{fi:FI}{g:FG}{ct:FT}(i:Nat)(own:Qx)(fr:Qf)(hi:MI X tg iter fi)
 (hg:∀{cl C s₀ H₀ fp},MGc (cxC X own fr scope cl C s₀ H₀ fp) own.length tg g) (hq:∀{cl C s₀ H₀ fp},MF (cxC X own fr scope cl C s₀ H₀ fp) ifs ct) (he:∀{cl C s₀ H₀ fp},ME (cxC X own fr scope cl C s₀ H₀ fp) elt G)
 (kP:∀i∈fr,∃x,X.N[i]?=some x/\scope.names.lookup x=some .free) (hN:X.N.Nodup) (hiN:X.N[i]?=some y:=by rfl) (hy:X.env.scope.names.lookup y=some .local:=by rfl)
 (hsw:xD (.ListComp elt [⟨tg,iter,ifs,0⟩] scope pos) (some (.Name y py)) spos.line X.env=pure true:=by rfl) (hok:zNt X.env.scope scope=true:=by rfl) (hc:X.calm=true:=by rfl) (hs:∀x,YH iter X.env x=pure x:=by intro _;rfl) :
 MS X (.Assign [.Name y py] (.ListComp elt [⟨tg,iter,ifs,0⟩] scope pos) spos) (zFb i (fLC own.length fr fi g ct G)) :=
 mslc i own fr hi (λ_ _ _ _ _=>hg) (λ_ _ _ _ _=>hq) (λ_ _ _ _ _=>he) kP hN hiN hy hsw hok hc hs
end
end M
namespace M
open PySem PySem.Spec PyProof.Rows L2
@[simp] theorem z9z{i j:Int}(h1:-18446744073709551616<j)(h2:j<18446744073709551616):zbh i j=true:=by
 unfold zbh;rw[decide_eq_true (p:=-(2^64)<j/\j<2^64) ⟨by omega,by omega⟩];simp
@[simp] theorem zJs{i j:Int}(h1:-18446744073709551616<i)(h2:i<18446744073709551616):zbh i j=true:=by
 unfold zbh;rw[decide_eq_true (p:=-(2^64)<i/\i<2^64) ⟨by omega,by omega⟩];simp
def zUw{O g:Mem}{n:Nat}(h:n<O.length):(O++g)[n]?=O[n]?:=yg h
def zyc{O g:Mem}{n:Nat}{o:tx}(h:O[n]?=some o):(O++g)[n]?=some o:=by
 rw[zUw (List.getElem?_eq_some_iff.mp h).1];exact h
mutual
def zdq:∀p:xQ,p.canLay0=true->Yn p p=true
 |.none,_=>rfl
 |.bool b,_=>by simp[Yn]
 |.int b,_=>by simp[Yn]
 |.str b,_=>by simp[Yn]
 |.list xs,h=>by
  unfold Yn;exact eqvAll_refl xs (by simpa[PyData.canLay0] using h)
 |.tuple xs,h=>by
  unfold Yn;exact eqvAll_refl xs (by simpa[PyData.canLay0] using h)
 |.dict _,h=>by simp[PyData.canLay0]at h
def eqvAll_refl:∀ps:List xQ,Xn ps=true->xL ps ps=true
 |[],_=>rfl
 |p::ps,h=>by
  simp only[Xn,yK]at h;unfold xL;rw[zdq p h.1,eqvAll_refl ps h.2];rfl
end
def zCu{x y:D}{O:Mem}{p:xQ}(h1:toP O 8 x=some p)(h2:toP O 8 y=some p):gNe x y O=some (.bl false,O):=by
 unfold gNe;rw[h1,h2];simp[zdq p (z5j 8 x p h1).1]
def zJx{K:yw}{F:FF}{H:Hp}{a:yf}{ns:Qg}(hF:∃O',F [.fz (ns.map D.int)] []=some (.bl true,O'))(hO:zpz H)(hS:SqL K H a (ns.map V.int)):spM K 1 F [.ref a] H (λv _=>v=.bl true) λ_ _ _=>False:=by
 obtain⟨O',e⟩:=hF
 have fz:FzL K H a (ns.map V.int):=by
  rcases hS with (h|⟨o,h⟩)|h
  ·rcases hO a with z|⟨o,xs,z⟩
   ·rw[h]at z;cases z
   ·rw[h]at z;cases z
  ·exact .inl ⟨o,h⟩
  ·exact .inr h
 have hints:∀ns:Qg,tf K [] H (ns.map D.int) (ns.map V.int):=λns=>by
  induction ns with
  |nil=>exact .nil
  |cons i r ih=>exact .cons .int ih
 exact⟨rfl,[],[.fz (ns.map D.int)],[],.bl true,O',.cons (.fz fz (hints ns)) .nil,⟨List.nodup_nil,rfl,λn a o h1 _=>by simp at h1⟩,e,λZ' H' v _ _ r=>r.tU⟩
structure WE(G:FE)(J:Loc)(O:Mem)(Q:Wr):Prop where
 ex:∃d O',G J O=some (d,O')/\Q d O'
structure WT(G:FT)(J:Loc)(O:Mem)(Q:Bool->Mem->Prop):Prop where
 ex:∃d O',G J O=some (d,O')/\Q d O'
structure WA(G:FA)(J:Loc)(O:Mem)(Q:Wm->Mem->Prop):Prop where
 ex:∃d O',G J O=some (d,O')/\Q d O'
structure WO(G:FO)(J:Loc)(O:Mem)(Q:Qk->Mem->Prop):Prop where
 ex:∃d O',G J O=some (d,O')/\Q d O'
structure W2(g:φ2)(x y:D)(O:Mem)(Q:Wr):Prop where
 ex:∃d O',g x y O=some (d,O')/\Q d O'
structure WF(F:FF)(ds:Wm)(O:Mem)(Q:Wr):Prop where
 ex:∃d O',F ds O=some (d,O')/\Q d O'
structure WM(g:GM)(x:D)(ds:Wm)(O:Mem)(Q:Wr):Prop where
 ex:∃d O',g x ds O=some (d,O')/\Q d O'
structure WI(i:FI)(J:Loc)(O:Mem)(Q:Wm->(Mem->Bool)->Mem->Prop):Prop where
 ex:∃ds ok O',i J O=some (ds,ok,O')/\Q ds ok O'
structure WG(g:FG)(d:D)(J:Loc)(O:Mem)(Q:Loc->Mem->Prop):Prop where
 ex:∃J' O',g d J O=some (J',O')/\Q J' O'
structure WGs(g:FGs)(ds:Wm)(J:Loc)(O:Mem)(Q:Loc->Mem->Prop):Prop where
 ex:∃J' O',g ds J O=some (J',O')/\Q J' O'
structure WL(g:FG)(c:FT)(G:FE)(ok:Mem->Bool)(J:Loc)(xs ys:Wm)(O:Mem)(Q:Wr):Prop where
 ex:∃d O',zMt g c G ok J xs ys O=some (d,O')/\Q d O'
def Ek(nx:Loc->Mem->Prop)(rt:Wr)(bk ct:Loc->Mem->Prop):Out->Prop
 |.next J O=>nx J O
 |.ret d O=>rt d O
 |.brk J O=>bk J O
 |.cont J O=>ct J O
 |.exc _ _ _=>False
structure WS(ψ:FS)(J:Loc)(O:Mem)(nx:Loc->Mem->Prop)(rt:Wr)(bk ct:Loc->Mem->Prop):Prop where
 ex:∃o,ψ J O=some o/\Ek nx rt bk ct o
structure WFor(g:FG)(body:FS)(ok:Mem->Bool)(xs:Wm)(J:Loc)(O:Mem)(nx:Loc->Mem->Prop)(rt:Wr):Prop where
 ex:∃o,zKi g body ok xs J O=some o/\Ek nx rt (λ_ _=>False) (λ_ _=>False) o
def tm(O O':Mem):Prop:=∀(n:Nat)(o:tx),O[n]?=some o->O'[n]?=some o
def tm.refl{O:Mem}:tm O O:=λ_ _ h=>h
def tm.trans{O O1 O2:Mem}(a:tm O O1)(b:tm O1 O2):tm O O2:=λn o h=>b n o (a n o h)
def tm.app{O g:Mem}:tm O (O++g):=λ_ _ h=>zyc h
def tm.to{O O1 g:Mem}(a:tm O O1):tm O (O1++g):=a.trans .app
def tm.len{O O':Mem}(a:tm O O'):O.length<=O'.length:=by
 rcases Nat.lt_or_ge O'.length O.length with h|h
 ·have:=a O'.length O[O'.length] (by simp[h]);simp at this
 ·exact h
def zr{O:Mem}{o:tx}:(O++[o])[O.length]?=some o:=by simp
def zF{O:Mem}{n:Nat}{o:tx}(h:O[n]?=some o):n<O.length:=(List.getElem?_eq_some_iff.mp h).1
def z7{O:Mem}{n m:Nat}{o o':tx}(h:O[n]?=some o)(kL:m≠n):(O.set m o')[n]?=some o:=by
 rw[yL kL];exact h
def zY{O:Mem}{n:Nat}{o o':tx}(h:O[n]?=some o):(O.set n o')[n]?=some o':=by
 rw[yN (zF h)]
def zB{O:Mem}{n:Nat}{ds:Wm}(h:O[n]?=some (.lst ds)):items O (.loc n)=some ds:=by simp[h]
section
variable {G ψ χ:FE}{g g2:φ2}{J:Loc}{O:Mem}{Q:Wr}{i j:Int}{d x y:D}{ds xs:Wm}
def WE.mono{Q':Wr}(h:WE G J O Q)(k:∀d O',Q d O'->Q' d O'):WE G J O Q':=let ⟨d,O',e,q⟩:=h;⟨d,O',e,k d O' q⟩
def zd{n:Nat}(h:J[n]?=some (some d))(q:Q d O):WE (zm n) J O Q:=⟨d,O,by simp[h],q⟩
def w_c(q:Q d O):WE (fC d) J O Q:=⟨d,O,rfl,q⟩
def zo(h:WE G J O λx O1=>WE ψ J O1 λy O2=>W2 g x y O2 Q):WE (zD g G ψ) J O Q:=by
 obtain⟨x,O1,e1,y,O2,e2,d,O3,e3,q⟩:=h;exact⟨d,O3,by simp[e1,e2,e3],q⟩
def ztz(h:WE G J O λx O1=>∃b,x=.bl b/\(b=true->WE ψ J O1 Q)/\(b=false->Q (.bl false) O1)):WE (zOA G ψ) J O Q:=by
 obtain⟨x,O1,e1,b,rfl,h1,h2⟩:=h
 cases b with
 |true=>obtain⟨d,O2,e2,q⟩:=h1 rfl;exact⟨d,O2,by simp[e1,e2],q⟩
 |false=>exact⟨_,O1,by simp[e1],h2 rfl⟩
def zxA(h:WE G J O λx O1=>∃b,x=.bl b/\(b=false->WE ψ J O1 Q)/\(b=true->Q (.bl true) O1)):WE (fOr G ψ) J O Q:=by
 obtain⟨x,O1,e1,b,rfl,h1,h2⟩:=h
 cases b with
 |false=>obtain⟨d,O2,e2,q⟩:=h1 rfl;exact⟨d,O2,by simp[e1,e2],q⟩
 |true=>exact⟨_,O1,by simp[e1],h2 rfl⟩
def w_not(h:WE G J O λx O1=>∃b,x=.bl b/\Q (.bl (!b)) O1):WE (zHA G) J O Q:=by
 obtain⟨x,O1,e1,b,rfl,q⟩:=h;exact⟨_,O1,by simp[e1],q⟩
def zTz(h:WE G J O λx O1=>∃i,x=.int i/\Q (.int (-i)) O1):WE (zaB G) J O Q:=by
 obtain⟨x,O1,e1,b,rfl,q⟩:=h;exact⟨_,O1,by simp[e1],q⟩
def zbg{α:FA}(h:WA α J O λds O1=>Q (.tup ds) O1):WE (zYj α) J O Q:=by
 obtain⟨x,O1,e1,q⟩:=h;exact⟨_,O1,by simp[e1],q⟩
def z1f{α:FA}(h:WA α J O λds O1=>Q (.loc O1.length) (O1++[.lst ds])):WE (zpk α) J O Q:=by
 obtain⟨x,O1,e1,q⟩:=h;exact⟨_,_,by simp[e1]<;>rfl,q⟩
def zcw(h:Q (.loc O.length) (O++[.dct []])):WE z7x J O Q:=⟨_,_,rfl,h⟩
def zfy{R:Qk->Mem->Prop}(q:R none O):WO pNo J O R:=⟨_,_,rfl,q⟩
def zAv{R:Qk->Mem->Prop}(h:WE G J O λx O1=>∃i,x=.int i/\R (some i) O1):WO (zBz G) J O R:=by
 obtain⟨x,O1,e1,i,rfl,q⟩:=h;exact⟨_,_,by simp[e1]<;>rfl,q⟩
def zu{F:FF}{α:FA}(h:WA α J O λds O1=>WF F ds O1 Q):WE (zx F α) J O Q:=by
 obtain⟨ds,O1,e1,d,O2,e2,q⟩:=h;exact⟨d,O2,by simp[e1,e2],q⟩
def zdk{m:GM}{α:FA}(h:WE G J O λx O1=>∃n xs,x=.loc n/\O1[n]?=some (.lst xs)/\WA α J O1 λds O2=>WM m (.loc n) ds O2 Q):WE (zji m G α) J O Q:=by
 obtain⟨x,O1,e1,n,xs,rfl,e2,ds,O2,e3,d,O3,e4,q⟩:=h;exact⟨d,O3,by simp[e1,e2,e3,e4],q⟩
def zcn{n:Nat}{fr:Qf}{it:FI}{tg:FG}{c:FT}(h:WI it J O λds ok O1=>few ds=true/\WL tg c G ok (δC n fr J) ds [] O1 Q):WE (fLC n fr it tg c G) J O Q:=by
 obtain⟨ds,ok,O1,e1,hf,d,O2,e2,q⟩:=h;exact⟨d,O2,by unfold fLC;simp only[e1,ym,hf,cond_true];exact e2,q⟩
def zvv(h:WE G J O λx O1=>∃n ns,x=.loc n/\O1[n]?=some (.lst (ns.map .int))/\ns.length<=4000/\(uqL ns).length<64/\Q (.loc O1.length) (O1++[.lst ((zOu ns).map .int)])):WE (zgr G) J O Q:=by
 obtain⟨x,O1,e1,n,ns,rfl,e2,h1,h2,q⟩:=h;exact⟨_,_,by simp[zgr,e1,e2,h1,h2]<;>rfl,q⟩
def zG{R:Bool->Mem->Prop}(h:WE G J O λx O1=>∃b,x=.bl b/\R b O1):WT (zM G) J O R:=by
 obtain⟨x,O1,e1,b,rfl,q⟩:=h;exact⟨_,_,by simp[e1]<;>rfl,q⟩
def zpl{c e:FT}{R:Bool->Mem->Prop}(h:WT c J O λb O1=>(b=true->WT e J O1 R)/\(b=false->R false O1)):WT (z6l c e) J O R:=by
 obtain⟨b,O1,e1,h1,h2⟩:=h
 cases b with
 |true=>obtain⟨d,O2,e2,q⟩:=h1 rfl;exact⟨d,O2,by simp[e1,e2],q⟩
 |false=>exact⟨_,O1,by simp[e1],h2 rfl⟩
def zSe{c e:FT}{R:Bool->Mem->Prop}(h:WT c J O λb O1=>(b=false->WT e J O1 R)/\(b=true->R true O1)):WT (zkj c e) J O R:=by
 obtain⟨b,O1,e1,h1,h2⟩:=h
 cases b with
 |false=>obtain⟨d,O2,e2,q⟩:=h1 rfl;exact⟨d,O2,by simp[e1,e2],q⟩
 |true=>exact⟨_,O1,by simp[e1],h2 rfl⟩
def z8g{c:FT}{R:Bool->Mem->Prop}(h:WT c J O λb O1=>R (!b) O1):WT (zMi c) J O R:=by
 obtain⟨b,O1,e1,q⟩:=h;exact⟨_,_,by simp[e1]<;>rfl,q⟩
def zTv{R:Bool->Mem->Prop}(q:R true O):WT z3j J O R:=⟨_,_,rfl,q⟩
def zt{R:Wm->Mem->Prop}(q:R [] O):WA zI J O R:=⟨_,_,rfl,q⟩
def ze{α:FA}{R:Wm->Mem->Prop}(h:WE G J O λx O1=>WA α J O1 λxs O2=>R (x::xs) O2):WA (zh G α) J O R:=by
 obtain⟨x,O1,e1,xs,O2,e2,q⟩:=h;exact⟨_,_,by simp[e1,e2]<;>rfl,q⟩
def zSg(q:Q (.int (i+j)) O):W2 zsg (.int i) (.int j) O Q:=⟨_,_,rfl,q⟩
def zJp{l m:Nat}{as bs:Wm}(h1:O[l]?=some (.lst as))(h2:O[m]?=some (.lst bs))(h:as.length+bs.length<=1000000)(q:Q (.loc O.length) (O++[.lst (as++bs)])):W2 zsg (.loc l) (.loc m) O Q:=⟨_,_,by simp[h1,h2,h]<;>rfl,q⟩
def zkt(q:Q (.int (i-j)) O):W2 zZs (.int i) (.int j) O Q:=⟨_,_,rfl,q⟩
def z1k(h:zbh i j=true)(q:Q (.int (i*j)) O):W2 zjj (.int i) (.int j) O Q:=⟨_,_,by simp[zjj,h]<;>rfl,q⟩
def zlj(h:0<j)(q:Q (.int (i%j)) O):W2 z6m (.int i) (.int j) O Q:=⟨_,_,by simp[h]<;>rfl,q⟩
def z2u(h:0<j)(h':j<1606938044258990275541962092341162602522202993782792835301376)(q:Q (.int (i / j)) O):W2 zYw (.int i) (.int j) O Q:=⟨_,_,by simp[h,h']<;>rfl,q⟩
def z3y(h:0<=j)(h1:j<=100000)(h2:i.natAbs<1606938044258990275541962092341162602522202993782792835301376)(q:Q (.int (i^j.toNat)) O):W2 zEx (.int i) (.int j) O Q:=⟨_,_,by simp only[zEx];rw[decide_eq_true ⟨h,h1,h2⟩];rfl,q⟩
def zJi{r:Int->Int->Bool}(q:Q (.bl (r i j)) O):W2 (zBl r) (.int i) (.int j) O Q:=⟨_,_,rfl,q⟩
def zmc(h:items O x=some xs)(h2:atI xs i=some d)(q:Q d O):W2 gIx x (.int i) O Q:=⟨_,_,by show((items O x).bind λds=>(atI ds i).bind λd=>some (d,O))=_;rw[h,ym,h2,ym],q⟩
def zeh(q:Q (.bl (i==j)) O):W2 gEq (.int i) (.int j) O Q:=⟨_,_,by simp[gEq,toP,Yn]<;>rfl,q⟩
def ztt(q:Q (.bl (!(i==j))) O):W2 gNe (.int i) (.int j) O Q:=⟨_,_,by simp[gNe,toP,Yn]<;>rfl,q⟩
def zcv{p:xQ}(h1:toP O 8 x=some p)(h2:toP O 8 y=some p)(q:Q (.bl false) O):W2 gNe x y O Q:=⟨_,_,zCu h1 h2,q⟩
def znz{p p':xQ}(h1:toP O 8 x=some p)(h2:toP O 8 y=some p')(q:Q (.bl (Yn p p')) O):W2 gEq x y O Q:=⟨_,_,by simp[gEq,h1,h2]<;>rfl,q⟩
def z3z{p p':xQ}(h1:toP O 8 x=some p)(h2:toP O 8 y=some p')(q:Q (.bl (!PyData.eqv p p')) O):W2 gNe x y O Q:=⟨_,_,by simp[gNe,h1,h2]<;>rfl,q⟩
def z1z{a b:Bool}(q:Q (.bl (a==b)) O):W2 gIs (.bl a) (.bl b) O Q:=⟨_,_,rfl,q⟩
def zEp{a b:Bool}(q:Q (.bl (a != b)) O):W2 zGh (.bl a) (.bl b) O Q:=⟨_,_,rfl,q⟩
def zQA(h:items O y=some xs)(h1:zVc x=true)(h2:xs.all zVc=true)(q:Q (.bl (xs.any λd=>eqF d x)) O):W2 gIn x y O Q:=⟨_,_,by simp only[gIn,h,ym,h1,h2,Xh,cond_true],q⟩
def zHt(h:items O y=some xs)(h1:zVc x=true)(h2:xs.all zVc=true)(q:Q (.bl (!xs.any λd=>eqF d x)) O):W2 z9g x y O Q:=⟨_,_,by simp only[z9g,h,ym,h1,h2,Xh,cond_true],q⟩
def zMe(h:items O x=some xs)(q:Q (.int xs.length) O):WF z8i [x] O Q:=⟨_,_,by show((items O x).bind λxs=>some (D.int xs.length,O))=_;rw[h,ym],q⟩
def zxp(h:items O x=some xs)(q:Q (.loc O.length) (O++[.lst xs])):WF zGq [x] O Q:=⟨_,_,by show((items O x).bind λxs=>some (D.loc O.length,O++[tx.lst xs]))=_;rw[h,ym],q⟩
def z4j(h:items O x=some xs)(q:Q (.tup xs) O):WF zXg [x] O Q:=by
 refine⟨_,_,?_,q⟩;cases x<;>first|(cases h;rfl)|(simp only[zXg,h];rfl)
def zcu{c t:Ty}(h:zqz O x=some t)(q:Q (.bl (zfA t c)) O):WF (zzp c) [x,.ty c.name] O Q:=⟨_,_,by simp only[zzp,beq_self_eq_true,cond_true,h,ym],q⟩
def zdA{n:Nat}{ns:Qg}(h:O[n]?=some (.lst (ns.map .int)))(q:Q (.int ns.sum) O):WF zoy [.loc n] O Q:=⟨_,_,by simp[h]<;>rfl,q⟩
def zrj{n:Nat}(h:O[n]?=some (.lst xs))(hl:xs.length<=1000000)(q:Q .non (O.set n (.lst (xs++[d])))):WM zfg (.loc n) [d] O Q:=⟨_,_,by simp[h,hl]<;>rfl,q⟩
def zNx{n:Nat}(h:O[n]?=some (.lst xs))(hl:xs.length+ds.length<=1000000)(q:Q .non (O.set n (.lst (xs++ds)))):WM z9v (.loc n) [.tup ds] O Q:=⟨_,_,by simp[h,hl]<;>rfl,q⟩
def zLb{F:FF}{N:Qx}{p:FS}(hF:F=λds O=>zGb (p (zS N ds) O))(h:WS p (zS N ds) O (λ_ O'=>Q .non O') Q (λ_ _=>False) λ_ _=>False):WF F ds O Q:=by
 subst hF;obtain⟨o,e,k⟩:=h
 cases o with
 |next J' O'=>exact⟨_,_,by rw[e];rfl,k⟩
 |ret d O'=>exact⟨_,_,by rw[e];rfl,k⟩
 |brk _ _=>exact k.elim
 |cont _ _=>exact k.elim
 |exc _ _ _=>exact k.elim
def zMk{α:FA}{R:Wm->(Mem->Bool)->Mem->Prop}(h:WA α J O λds O1=>∃j:Int,ds=[.int j]/\-(2^62)<=j/\j<2^62/\R ((yB j.toNat).map λ(k:Nat) =>.int k) yes O1):WI (zWh α) J O R:=by
 obtain⟨ds,O1,e1,j,rfl,h1,h2,q⟩:=h;refine⟨_,_,_,?_,q⟩;unfold zWh;simp only[e1,ym];rw[decide_eq_true ⟨h1,h2⟩];rfl
def zFd{R:Wm->(Mem->Bool)->Mem->Prop}(h:WE G J O λx O1=>(∃ds,x=.tup ds/\R ds yes O1)\/(∃ds,x=.fz ds/\R ds yes O1)\/∃n ds,x=.loc n/\O1[n]?=some (.lst ds)/\R ds (z5n n ds) O1):WI (zZf G) J O R:=by
 obtain⟨x,O1,e1,⟨ds,rfl,q⟩|⟨ds,rfl,q⟩|⟨n,ds,rfl,e2,q⟩⟩:=h
 ·exact⟨_,_,_,by simp[e1]<;>rfl,q⟩
 ·exact⟨_,_,_,by simp[e1]<;>rfl,q⟩
 ·exact⟨_,_,_,by simp[e1,e2]<;>rfl,q⟩
def zsd{n:Nat}{R:Loc->Mem->Prop}(q:R (J.set n (some d)) O):WG (gN n) d J O R:=⟨_,_,rfl,q⟩
def zAA{n:Nat}{gs:FGs}{R:Loc->Mem->Prop}(hl:ds.length=n)(h:WGs gs ds J O R):WG (gT n gs) (.tup ds) J O R:=by
 obtain⟨J',O',e,q⟩:=h;exact⟨J',O',by simp[hl,e],q⟩
def zbl{gs:FGs}{R:Loc->Mem->Prop}{a b:D}(h:WGs gs [a,b] J O R):WG (gT 2 gs) (.tup [a,b]) J O R:=zAA rfl h
def zWz{gs:FGs}{R:Loc->Mem->Prop}{a b c:D}(h:WGs gs [a,b,c] J O R):WG (gT 3 gs) (.tup [a,b,c]) J O R:=zAA rfl h
def zzk{R:Loc->Mem->Prop}(q:R J O):WGs zqf [] J O R:=⟨_,_,rfl,q⟩
def z0d{t:FG}{gs:FGs}{R:Loc->Mem->Prop}(h:WG t d J O λJ1 O1=>WGs gs ds J1 O1 R):WGs (zmb t gs) (d::ds) J O R:=by
 obtain⟨J1,O1,e1,J2,O2,e2,q⟩:=h;exact⟨J2,O2,by simp[e1,e2],q⟩
variable {nx:Loc->Mem->Prop}{rt:Wr}{bk ct:Loc->Mem->Prop}{p q:FS}
def zfb(h:nx J O):WS zDb J O nx rt bk ct:=⟨.next J O,rfl,h⟩
def zw(h:WS p J O (λJ' O'=>WS q J' O' nx rt bk ct) rt bk ct):WS (zX p q) J O nx rt bk ct:=by
 obtain⟨o,e,k⟩:=h
 cases o with
 |next J' O'=>obtain⟨o2,e2,k2⟩:=k;exact⟨o2,by simp[e,e2],k2⟩
 |ret d O'=>exact⟨.ret d O',by simp only[zX,e],k⟩
 |brk d O'=>exact⟨.brk d O',by simp only[zX,e],k⟩
 |cont d O'=>exact⟨.cont d O',by simp only[zX,e],k⟩
 |exc _ _ _=>exact k.elim
def z5{n:Nat}(h:WE G J O λd O'=>nx (J.set n (some d)) O'):WS (zFb n G) J O nx rt bk ct:=by
 obtain⟨d,O',e,k⟩:=h;exact⟨.next _ _,by simp only[zFb,e,ym],k⟩
def zqh{g:FG}(h:WE G J O λd O1=>WG g d J O1 nx):WS (zPm G g) J O nx rt bk ct:=by
 obtain⟨d,O1,e,J',O2,e2,k⟩:=h;exact⟨.next _ _,by simp only[zPm,e,ym,e2],k⟩
def z6i(h:WE G J O λ_ O'=>nx J O'):WS (zhj G) J O nx rt bk ct:=by
 obtain⟨d,O',e,k⟩:=h;exact⟨.next _ _,by simp only[zhj,e,ym],k⟩
def zEb(h:WE G J O rt):WS (zYb G) J O nx rt bk ct:=by
 obtain⟨d,O',e,k⟩:=h;exact⟨.ret _ _,by simp only[zYb,e,ym],k⟩
def zEf{c:FT}(h:WT c J O λb O1=>(b=true->WS p J O1 nx rt bk ct)/\(b=false->WS q J O1 nx rt bk ct)):WS (sIf c p q) J O nx rt bk ct:=by
 obtain⟨b,O1,e,h1,h2⟩:=h
 cases b with
 |true=>obtain⟨o,e2,k⟩:=h1 rfl;exact⟨o,by simp[e,e2],k⟩
 |false=>obtain⟨o,e2,k⟩:=h2 rfl;exact⟨o,by simp[e,e2],k⟩
def z0f{it:FI}{g:FG}{body:FS}(h:WI it J O λds ok O1=>WFor g body ok ds J O1 nx rt):WS (z1j it g body) J O nx rt bk ct:=by
 obtain⟨ds,ok,O1,e,o,e2,k⟩:=h;refine⟨o,by simp only[z1j,e,ym];exact e2,?_⟩
 cases o with
 |next _ _=>exact k
 |ret _ _=>exact k
 |brk _ _=>exact k.elim
 |cont _ _=>exact k.elim
 |exc _ _ _=>exact k.elim
def zPr{g:FG}{body:FS}{ok:Mem->Bool}{nx:Loc->Mem->Prop}{rt:Wr}(I:Nat->Loc->Mem->Prop):∀{xs:Wm} {n:Nat} {J:Loc} {O:Mem},I n J O->(∀m J O,I m J O->ok O=true) ->
 (∀(m:Nat)(x:D)(J:Loc)(O:Mem),xs[m]?=some x->I (n+m) J O->WG g x J O λJ1 O1=>WS body J1 O1 (I (n+m+1)) rt nx (I (n+m+1)))->(∀J O,I (n+xs.length) J O->nx J O)->WFor g body ok xs J O nx rt
 |[],n,J,O,h0,hok,_,hend=>⟨.next J O,by simp only[zKi,hok _ _ _ h0,cond_true],hend J O h0⟩
 |x::xs,n,J,O,h0,hok,hs,hend=>by
  obtain⟨J1,O1,e1,o,e2,k⟩:=hs 0 x J O rfl h0
  cases o with
  |next J2 O2=>
   obtain⟨o3,e3,k3⟩:=zPr I (xs:=xs) (n:=n+1) (J:=J2) (O:=O2) k hok (λm y J O hy hI=>by
    have:=hs (m+1) y J O (by simpa using hy) (by rw[show n+(m+1)=n+1+m by omega];exact hI);rw[show n+(m+1)=n+1+m by omega]at this;exact this) (λJ O hI=>hend J O (by rw[Ls,show n+(xs.length+1)=n+1+xs.length by omega];exact hI))
   exact⟨o3,by simp only[zKi,hok _ _ _ h0,cond_true,e1,ym,e2];exact e3,k3⟩
  |cont J2 O2=>
   obtain⟨o3,e3,k3⟩:=zPr I (xs:=xs) (n:=n+1) (J:=J2) (O:=O2) k hok (λm y J O hy hI=>by
    have:=hs (m+1) y J O (by simpa using hy) (by rw[show n+(m+1)=n+1+m by omega];exact hI);rw[show n+(m+1)=n+1+m by omega]at this;exact this) (λJ O hI=>hend J O (by rw[Ls,show n+(xs.length+1)=n+1+xs.length by omega];exact hI))
   exact⟨o3,by simp only[zKi,hok _ _ _ h0,cond_true,e1,ym,e2];exact e3,k3⟩
  |brk J2 O2=>exact⟨.next J2 O2,by simp only[zKi,hok _ _ _ h0,cond_true,e1,ym,e2],k⟩
  |ret d O2=>exact⟨.ret d O2,by simp only[zKi,hok _ _ _ h0,cond_true,e1,ym,e2],k⟩
  |exc _ _ _=>exact k.elim
end
def zuv{g:FG}{c:FT}{G:FE}{ok:Mem->Bool}{J:Loc}{Q:Wr}(I:Nat->Wm->Mem->Prop):∀{xs ys:Wm} {n:Nat} {O:Mem},I n ys O->(∀m ys O,I m ys O->ok O=true) ->
 (∀(m:Nat)(x:D)(ys:Wm)(O:Mem),xs[m]?=some x->I (n+m) ys O->WG g x J O λJ1 O1=>WT c J1 O1 λb O2=>(b=true->WE G J1 O2 λd O3=>I (n+m+1) (ys++[d]) O3)/\(b=false->I (n+m+1) ys O2)) ->
 (∀ys O,I (n+xs.length) ys O->Q (.loc O.length) (O++[.lst ys]))->WL g c G ok J xs ys O Q
 |[],ys,n,O,h0,hok,_,hend=>⟨_,_,by simp only[zMt,hok _ _ _ h0,cond_true],hend ys O h0⟩
 |x::xs,ys,n,O,h0,hok,hs,hend=>by
  obtain⟨J1,O1,e1,b,O2,e2,ht,hf⟩:=hs 0 x ys O rfl h0
  have step:∀ys2 O3,I (n+1) ys2 O3->WL g c G ok J xs ys2 O3 Q:=λys2 O3 h=>zuv I (n:=n+1) h hok (λm y ys O hy hI=>by
   have:=hs (m+1) y ys O (by simpa using hy) (by rw[show n+(m+1)=n+1+m by omega];exact hI);rw[show n+(m+1)=n+1+m by omega]at this;exact this) (λys O hI=>hend ys O (by rw[Ls,show n+(xs.length+1)=n+1+xs.length by omega];exact hI))
  cases b with
  |true=>
   obtain⟨d,O3,e3,h3⟩:=ht rfl;obtain⟨d',O4,e4,q⟩:=step _ _ h3;exact⟨d',O4,by simp only[zMt,hok _ _ _ h0,cond_true,e1,ym,e2,e3];exact e4,q⟩
  |false=>
   obtain⟨d',O4,e4,q⟩:=step _ _ (hf rfl);exact⟨d',O4,by simp only[zMt,hok _ _ _ h0,cond_true,e1,ym,e2,cond_false];exact e4,q⟩
def z7b{g:FG}{body:FS}{ok:Mem->Bool}{nx:Loc->Mem->Prop}{rt:Wr}{xs:Wm}{J:Loc}{O:Mem}(I:Nat->Loc->Mem->Prop)(h0:I 0 J O)(hok:∀m J O,I m J O->ok O=true)
 (hs:∀(m:Nat)(x:D)(J:Loc)(O:Mem),xs[m]?=some x->I m J O->WG g x J O λJ1 O1=>WS body J1 O1 (I (m+1)) rt nx (I (m+1))) (hend:∀J O,I xs.length J O->nx J O):WFor g body ok xs J O nx rt :=
 zPr I (n:=0) h0 hok (λm x J O hx h=>by
  rw[Nat.zero_add]at h ⊢;exact hs m x J O hx h) (λJ O h=>hend J O (by rw[Nat.zero_add]at h;exact h))
def zSo{g:FG}{c:FT}{G:FE}{ok:Mem->Bool}{J:Loc}{Q:Wr}{xs:Wm}{O:Mem}(I:Nat->Wm->Mem->Prop)(h0:I 0 [] O)(hok:∀m ys O,I m ys O->ok O=true)
 (hs:∀(m:Nat)(x:D)(ys:Wm)(O:Mem),xs[m]?=some x->I m ys O->WG g x J O λJ1 O1=>WT c J1 O1 λb O2=>(b=true->WE G J1 O2 λd O3=>I (m+1) (ys++[d]) O3)/\(b=false->I (m+1) ys O2))
 (hend:∀ys O,I xs.length ys O->Q (.loc O.length) (O++[.lst ys])):WL g c G ok J xs [] O Q :=
 zuv I (n:=0) h0 hok (λm x ys O hx h=>by
  rw[Nat.zero_add]at h ⊢;exact hs m x ys O hx h) (λys O h=>hend ys O (by rw[Nat.zero_add]at h;exact h))
def zOj{j m:Nat}{x:D}(h:((yB j).map λ(k:Nat)=>D.int k)[m]?=some x):m<j/\x=.int m:=by
 have h1:=(List.getElem?_eq_some_iff.mp h).1;simp at h1;refine⟨h1,?_⟩;simp[h1]at h;exact h.symm
def z8d{α:Type}{g:FG}{c:FT}{G:FE}{ok:Mem->Bool}{J:Loc}{Q:Wr}{O:Mem}(e:α->D)(l:List α)(f:α->D)(p:α->Bool)(hok:∀O',tm O O'->ok O'=true)
 (hs:∀x∈l,∀O',tm O O'->WG g (e x) J O' λJ1 O1=>WT c J1 O1 λb O2=>b=p x/\tm O O2/\(b=true->WE G J1 O2 λd O3=>d=f x/\tm O O3))
 (hq:∀O',tm O O'->Q (.loc O'.length) (O'++[.lst ((l.filter p).map f)])):WL g c G ok J (l.map e) [] O Q:=by
 refine zSo (λm ys O'=>tm O O'/\ys=((l.take m).filter p).map f) ⟨.refl,by simp⟩ (λm ys O' h=>hok O' h.1) (λm x ys O' hx h=>?_) (λys O' h=>?_)
 ·rw[yi]at hx
  cases hy:l[m]? with
  |none=>rw[hy]at hx;cases hx
  |some y=>
   rw[hy]at hx;cases hx;obtain⟨J1,O1,e1,b,O2,e2,hb,k2,h3⟩:=hs y (Nt hy) O' h.1
   have ht:l.take (m+1)=l.take m++[y]:=by
    rw[Vj,hy];rfl
   refine⟨J1,O1,e1,b,O2,e2,λhb1=>?_,λhb1=>⟨k2,?_⟩⟩
   ·obtain⟨d,O3,e3,rfl,k3⟩:=h3 hb1;refine⟨_,_,e3,k3,?_⟩;rw[ht,List.filter_append,Nd,<-h.2,List.filter_cons_of_pos (by rw[<-hb,hb1])];rfl
   ·rw[ht,List.filter_append,Nd,<-h.2,List.filter_cons_of_neg (by rw[<-hb,hb1];exact yA)];simp
 ·rw[Lv,Vh]at h;rw[h.2];exact hq O' h.1
def zgg{α:Type}{g:FG}{G:FE}{ok:Mem->Bool}{J:Loc}{Q:Wr}{O:Mem}(e:α->D)(l:List α)(f:α->D)(hok:∀O',tm O O'->ok O'=true)
 (hs:∀x∈l,∀O',tm O O'->WG g (e x) J O' λJ1 O1=>WE G J1 O1 λd O3=>d=f x/\tm O O3/\tm O O1)
 (hq:∀O',tm O O'->Q (.loc O'.length) (O'++[.lst (l.map f)])):WL g z3j G ok J (l.map e) [] O Q :=
 z8d e l f (λ_=>true) hok (λx hx O' k=>by
  obtain⟨J1,O1,e1,d,O3,e3,h1,h2,h3⟩:=hs x hx O' k;exact⟨J1,O1,e1,true,O1,rfl,rfl,h3,λ_=>⟨d,O3,e3,h1,h2⟩⟩) (λO' k=>by rw[List.filter_eq_self.mpr (λ_ _=>rfl)];exact hq O' k)
def zfc{ds:Wm}(h:ds.length<=1000000):few ds=true:=decide_eq_true h
def zdb{n:Nat}{ds:Wm}{O O':Mem}(h:O[n]?=some (.lst ds))(k:tm O O'):z5n n ds O'=true:=TD.mpr (k n _ h)
def zow{ns:Qg}{k:Int}:k∈uqL ns↔k∈ns:=by
 unfold uqL;rw[zes,List.mem_iff_getElem];constructor
 ·rintro⟨j,hj,h⟩;exact⟨j,hj,by simpa[hj] using h⟩
 ·rintro⟨j,hj,h⟩;exact⟨j,hj,by simpa[hj] using h⟩
def zem{ns l:Qg}(h1:∀k,k∈l↔k∈ns)(h2:l.Pairwise (· < ·)):(uqL ns).Perm l:=by
 refine(xB (z9n _ _) (h2.imp λh=>Int.ne_of_lt h)).mpr λk=>?_;rw[h1];exact zow
def z1p{ns l:Qg}(h1:∀k,k∈l↔k∈ns)(h2:l.Pairwise (· < ·)):zOu ns=l :=
 zBc ((Nv _ _).trans (zem h1 h2)) (zch _) (h2.imp λh=>Int.le_of_lt h)
end M
namespace M
open PySem PySem.Spec PyProof.Rows L2
structure KB(L:Qf)(O O':Mem):Prop where
 len:O.length<=O'.length
 at_:∀(n:Nat)(o:tx),n∉L->O[n]?=some o->O'[n]?=some o
section
variable {L:Qf}{O O1 O2 O':Mem}{n:Nat}{o:tx}
def KB.refl:KB L O O:=⟨yh _,λ_ _ _ h=>h⟩
def KB.trans(a:KB L O O1)(b:KB L O1 O2):KB L O O2:=⟨yG a.len b.len,λn o h e=>b.at_ n o h (a.at_ n o h e)⟩
def KB.app{g:Mem}(a:KB L O O1):KB L O (O1++g):=⟨by simp;have:=a.len;omega,λn o h e=>zyc (a.at_ n o h e)⟩
def KB.set{m:Nat}(a:KB L O O1)(h:m∈L\/O.length<=m):KB L O (O1.set m o):=⟨by simp;exact a.len,λn o' hn e=>by
 rw[yL]
 ·exact a.at_ n o' hn e
 ·rintro rfl;rcases h with h|h
  ·exact hn h
  ·exact absurd (zF e) (by omega)⟩
def KB.keep(a:KB [] O O'):tm O O':=λn o e=>a.at_ n o (by simp) e
def KB.of_keep(a:tm O O'):KB L O O':=⟨a.len,λn o _ e=>a n o e⟩
def KB.step{L':Qf}(a:KB L O O1)(b:KB L' O1 O2)(h:∀n∈L',n∈L\/O.length<=n):KB L O O2:=⟨yG a.len b.len,λn o hn e=>b.at_ n o (λq=>by
 rcases h n q with h|h
 ·exact hn h
 ·exact absurd (zF e) (by omega)) (a.at_ n o hn e)⟩
variable {G ψ χ:FE}{g g2:φ2}{J:Loc}{Q:Wr}{i j:Int}{d x y:D}{ds xs:Wm}
def zGp(h:WE G J O λx O1=>∃j:Int,x=.int j/\(-(2^62)<=j/\j<=1000000)/\Q (.loc O1.length) (O1++[.lst ((yB j.toNat).map λ(k:Nat) =>.int k)])):WE (zan G) J O Q:=by
 obtain⟨x,O1,e1,j,rfl,h1,q⟩:=h;exact⟨_,_,by simp only[zan,e1,ym];rw[decide_eq_true h1];rfl,q⟩
def zFy(q:Q (.int i) O):WF zrA [.int i] O Q:=⟨_,_,rfl,q⟩
def zxy{b:Bool}(q:Q (.int (if b then 1 else 0)) O):WF zrA [.bl b] O Q:=⟨_,_,rfl,q⟩
def zny(q:Q (.int (if j<i then j else i)) O):WF zMz [.int i,.int j] O Q:=⟨_,_,rfl,q⟩
def zCy(q:Q (.int (if j>i then j else i)) O):WF zPz [.int i,.int j] O Q:=⟨_,_,rfl,q⟩
def zwz{c:FT}(h:WT c J O λb O1=>(b=true->WE G J O1 Q)/\(b=false->WE ψ J O1 Q)):WE (fIf c G ψ) J O Q:=by
 obtain⟨b,O1,e,h1,h2⟩:=h
 cases b with
 |true=>obtain⟨d,O2,e2,k⟩:=h1 rfl;exact⟨d,O2,by simp[e,e2],k⟩
 |false=>obtain⟨d,O2,e2,k⟩:=h2 rfl;exact⟨d,O2,by simp[e,e2],k⟩
def zfz{l:Nat}{n:Int}(h:O[l]?=some (.lst xs))(h1:n<=1000)(h2:-(2^62)<=n)(h3:xs.length<=1000)(q:Q (.loc O.length) (O++[.lst (yD n.toNat xs).flatten])):W2 zjj (.loc l) (.int n) O Q :=
 ⟨_,_,by simp only[zjj,h];rw[decide_eq_true ⟨h1,h2,h3⟩];rfl,q⟩
def zDz{lo hi:FO}(h:WE G J O λx O1=>WO lo J O1 λl O2=>WO hi J O2 λu O3=>∃n ds,x=.loc n/\O3[n]?=some (.lst ds)/\Q (.loc O3.length) (O3++[.lst (cutD ds l u)])):WE (fSl G lo hi) J O Q:=by
 obtain⟨x,O1,e1,l,O2,e2,u,O3,e3,n,ds,rfl,e4,q⟩:=h;exact⟨_,_,by simp[e1,e2,e3,e4]<;>rfl,q⟩
def zpu{R:Loc->Mem->Prop}(h:WE G J O λx O1=>WE ψ J O1 λy O2=>∃(n:Nat)(i:Int)(zs:Wm),x=.loc n/\y=.int i/\O2[n]?=some (.lst zs)/\(0<=i/\i<zs.length)/\R J (O2.set n (.lst (zs.set i.toNat d)))):WG (gAt G ψ) d J O R:=by
 obtain⟨x,O1,e1,y,O2,e2,n,i,zs,rfl,rfl,e3,hi,q⟩:=h;have e4:ixN zs.length i=some i.toNat:=by unfold ixN;rw[if_pos hi.1,if_pos hi.2]
 exact⟨_,_,by simp[e1,e2,e3,e4]<;>rfl,q⟩
end
abbrev nat(S:Qf):Wm:=S.map λ(k:Nat)=>D.int k
def zHc(a b:Qf):nat (a++b)=nat a++nat b:=Nd
def znh{α:Type}(f:α->Nat)(l:List α):nat (l.map f)=l.map λa=>D.int (f a:Nat):=Nh
class Enc(α:Type) where
 d:α->D
 p:α->xQ
 dep:Nat
 rd:∀(O:Mem)(n:Nat)(a:α),toP O (n+dep) (d a)=some (p a)
 eq:∀a b:α,Yn (p a) (p b)=true↔a=b
instance:Enc Int:=⟨.int,.int,1,λ_ _ _=>rfl,λa b=>by simp[Yn]⟩
instance:Enc Nat:=⟨λ(k:Nat) =>.int k,λ(k:Nat) =>.int k,1,λ_ _ _=>rfl,λa b=>by simp[Yn];omega⟩
instance:Enc Bool:=⟨.bl,.bool,1,λ_ _ _=>rfl,λa b=>by simp[Yn]⟩
abbrev onD:Qj->D
 |none =>.non
 |some k =>.int k
instance:Enc (Qj):=⟨onD,fun|none =>.none|some k =>.int k,1,λ_ _ a=>by cases a<;>rfl,λa b=>by cases a<;>cases b<;>simp[Yn];omega⟩
def zvg{α:Type}[Enc α]:∀xs ys:List α,xL (xs.map Enc.p) (ys.map Enc.p)=true↔xs=ys
 |[],[]=>by simp[xL]
 |[],y::ys=>by simp[xL]
 |x::xs,[]=>by simp[xL]
 |x::xs,y::ys=>by
  rw[Ng,Ng,xL,yK,Enc.eq,zvg xs ys,xF]
def Sk{α:Type}[Enc α](O:Mem)(n:Nat):∀xs:List α,(xs.map Enc.d).mapM (toP O (n+Enc.dep α))=some (xs.map Enc.p)
 |[]=>rfl
 |x::xs=>by rw[Ng,Nc,Sk O n xs,Enc.rd];rfl
instance instEncList{α:Type}[Enc α]:Enc (List α):=⟨λxs =>.tup (xs.map Enc.d),λxs =>.tuple (xs.map Enc.p),Enc.dep α+1,λO n xs=>by
 show((xs.map Enc.d).mapM (toP O (n+Enc.dep α))).bind (λps=>some (PyData.tuple ps))=_;rw[Sk];rfl,λa b=>by rw[Yn];exact zvg a b⟩
def zJj{O:Mem}{α:Type}[Enc α](a:α)(h:Enc.dep α<=8):toP O 8 (Enc.d a)=some (Enc.p a):=by
 have:=Enc.rd O (8-Enc.dep α) a;rw[Nat.sub_add_cancel h]at this;exact this
def zwg{b:Bool}{p:Prop}[Decidable p](h:b=true↔p):b=decide p:=by
 cases b<;>simp_all
section
variable {G ψ χ:FE}{g g2:φ2}{J:Loc}{O:Mem}{Q:Wr}{i j:Int}{d x y:D}{ds xs:Wm}{α:Type}[Enc α][DecidableEq α]
def zVu(a b:α)(q:Q (.bl (decide (a=b))) O)(hx:x=Enc.d a:=by rfl)(hy:y=Enc.d b:=by rfl)(h:Enc.dep α<=8:=by decide):W2 gEq x y O Q:=by
 subst hx hy;exact znz (zJj a h) (zJj b h) (by rw[zwg (Enc.eq a b)];exact q)
def z8y(a b:α)(q:Q (.bl (!decide (a=b))) O)(hx:x=Enc.d a:=by rfl)(hy:y=Enc.d b:=by rfl)(h:Enc.dep α<=8:=by decide):W2 gNe x y O Q:=by
 subst hx hy;exact z3z (zJj a h) (zJj b h) (by rw[zwg (Enc.eq a b)];exact q)
def z0h{n:Nat}(as:List α)(e:O[n]?=some (.lst (as.map Enc.d)))(h:Enc.dep α<=7):toP O 8 (.loc n)=some (.list (as.map Enc.p)):=by
 show(match O[n]? with
  |some (.lst ds)=>(ds.mapM (toP O 7)).bind λps=>some (PyData.list ps)
  |_=>none)=_
 rw[e];show((as.map Enc.d).mapM (toP O 7)).bind (λps=>some (PyData.list ps))=_;have:=Sk O (7-Enc.dep α) as;rw[Nat.sub_add_cancel h]at this;rw[this];rfl
def zIz(as bs:List α){m n:Nat}(e1:O[m]?=some (.lst (as.map Enc.d)))(e2:O[n]?=some (.lst (bs.map Enc.d)))(q:Q (.bl (decide (as=bs))) O)(h:Enc.dep α<=7:=by decide):W2 gEq (.loc m) (.loc n) O Q :=
 znz (z0h as e1 h) (z0h bs e2 h) (by rw[Yn,zwg (zvg as bs)];exact q)
def zKw(as bs:List α){m n:Nat}(e1:O[m]?=some (.lst (as.map Enc.d)))(e2:O[n]?=some (.lst (bs.map Enc.d)))(q:Q (.bl (!decide (as=bs))) O)(h:Enc.dep α<=7:=by decide):W2 gNe (.loc m) (.loc n) O Q :=
 z3z (z0h as e1 h) (z0h bs e2 h) (by rw[Yn,zwg (zvg as bs)];exact q)
def zXm(S:Qf):(nat S).all zVc=true:=List.all_eq_true.mpr λx hx=>by
 obtain⟨k,_,rfl⟩:=List.mem_map.mp hx;rfl
def zuo(k:Nat):∀S:Qf,((nat S).any λd=>eqF d (.int k))=decide (k∈S):=λS=>by
 refine zwg ?_;rw[Lc];constructor
 ·rintro⟨x,hx,e⟩;obtain⟨j,hj,rfl⟩:=List.mem_map.mp hx;have h1:(j:Int)=k:=beq_iff_eq.mp (show((j:Int)==(k:Int))=true from e);have h2:j=k:=by omega
  exact h2▸hj
 ·intro h;exact⟨.int k,List.mem_map.mpr ⟨k,h,rfl⟩,(show((k:Int)==(k:Int))=true from beq_self_eq_true _)⟩
def zgy{k:Nat}{S:Qf}(h:items O y=some (nat S))(q:Q (.bl (decide (k∈S))) O):W2 gIn (.int k) y O Q:=zQA h rfl (zXm S) (by rw[zuo];exact q)
def zYh{k:Nat}{S:Qf}(h:items O y=some (nat S))(q:Q (.bl (!decide (k∈S))) O):W2 z9g (.int k) y O Q:=zHt h rfl (zXm S) (by rw[zuo];exact q)
def zos(S:Qc):(S.map onD).all zVc=true:=List.all_eq_true.mpr λx hx=>by
 obtain⟨k,_,rfl⟩:=List.mem_map.mp hx;cases k<;>rfl
def z8x(a b:Qj):eqF (onD a) (onD b)=decide (a=b):=by
 cases a<;>cases b<;>try rfl
 rename_i a b
 show(((a:Nat):Int)==(b:Nat))=decide (some a=some b);rw[Bool.eq_iff_iff,beq_iff_eq,decide_eq_true_iff,xG,Int.natCast_inj]
def zlz{n:Nat}{S:Qf}(h:O[n]?=some (.lst (nat S)))(q:Q (.int (S.sum:Nat)) O):WF zoy [.loc n] O Q:=by
 refine zdA (ns:=S.map λ(k:Nat)=>(k:Int)) (by rw[h];simp) ?_
 have:(S.map λ(k:Nat)=>(k:Int)).sum=((S.sum:Nat):Int):=by
  clear h q
  induction S with
  |nil=>rfl
  |cons a S ih=>rw[Ng,Ve,Ve,ih];omega
 rw[this];exact q
def zxh{S:Qf}{i:Nat}(h:i<S.length):atI (nat S) (i:Int)=some (.int (S.getD i 0:Nat)):=zXb (by simp[h])
end
section
variable {G ψ χ:FE}{g g2:φ2}{J:Loc}{O:Mem}{Q:Wr}{i j:Int}{d x y:D}{ds xs:Wm}
def zZi{R:Wm->(Mem->Bool)->Mem->Prop}(h:WE G J O λx O1=>(∃ds,x=.tup ds/\R (zRg ds) yes O1)\/(∃ds,x=.fz ds/\R (zRg ds) yes O1)\/∃n ds,x=.loc n/\O1[n]?=some (.lst ds)/\R (zRg ds) (z5n n ds) O1):WI (z1m G) J O R:=by
 obtain⟨x,O1,e1,⟨ds,rfl,q⟩|⟨ds,rfl,q⟩|⟨n,ds,rfl,e2,q⟩⟩:=h
 ·exact⟨_,_,_,by simp[e1]<;>rfl,q⟩
 ·exact⟨_,_,_,by simp[e1]<;>rfl,q⟩
 ·exact⟨_,_,_,by simp[e1,e2]<;>rfl,q⟩
def zwr{α:Type}(f:α->D)(xs:List α):zRg (xs.map f)=xs.zipIdx.map λp =>.tup [.int (p.2:Nat),f p.1]:=by
 refine Lj λi=>?_;unfold zRg;simp only[yi,Xw];cases xs[i]?<;>rfl
def z6q{α:Type}{f:α->D}{xs:List α}{m:Nat}{x:D}(h:(zRg (xs.map f))[m]?=some x):∃y,xs[m]?=some y/\x=.tup [.int m,f y]:=by
 obtain⟨z,hz,rfl⟩:=zrm h;rw[yi]at hz
 cases e:xs[m]? with
 |none=>rw[e]at hz;cases hz
 |some y=>rw[e]at hz;cases hz;exact⟨y,rfl,rfl⟩
def z3w{m:GM}(h:WE G J O λx O1=>∃n xs,x=.loc n/\O1[n]?=some (.lst xs)/\WM m (.loc n) [] O1 Q):WE (zZn m G) J O Q:=by
 obtain⟨x,O1,e1,n,xs,rfl,e2,d,O3,e4,q⟩:=h;exact⟨d,O3,by simp[e1,e2,e4],q⟩
def zXw{n:Nat}(h:O[n]?=some (.lst xs))(q:Q .non (O.set n (.lst []))):WM zSl (.loc n) [] O Q:=⟨_,_,by simp[h]<;>rfl,q⟩
def zss{n:Nat}(h:O[n]?=some (.lst xs))(h1:zVc d=true)(h2:xs.all zVc=true)(q:Q (.int (xs.countP λy=>eqF y d:Nat)) O):WM zwk (.loc n) [d] O Q:=⟨_,_,by simp only[zwk,h,h1,h2,Xh,cond_true],q⟩
def zWr{n k:Nat}{S:Qf}(h:O[n]?=some (.lst (nat S)))(hk:k∈S)(q:Q .non (O.set n (.lst (nat (S.erase k))))):WM zPi (.loc n) [.int k] O Q:=by
 have e1:nat S=(S.map λ(k:Nat)=>(k:Int)).map D.int:=by simp
 have e2:∀T:Qf,(T.map λ(k:Nat)=>(k:Int)).erase (k:Int)=(T.erase k).map λ(k:Nat)=>(k:Int):=λT=>by
  induction T with
  |nil=>rfl
  |cons t T ih=>
   rw[Ng]
   by_cases ht:t=k
   ·subst ht;simp
   ·rw[List.erase_cons_tail (by simp;omega),List.erase_cons_tail (by simpa using ht),ih];rfl
 have e3:(S.map λ(k:Nat)=>(k:Int)).contains (k:Int)=true:=by
  rw[List.contains_iff_mem];exact List.mem_map.mpr ⟨k,hk,rfl⟩
 refine⟨.non,_,?_,q⟩;simp only[zPi,h];rw[e1,z8h];simp only[ym,e3,cond_true,e2];rw[Nh];rfl
variable {nx:Loc->Mem->Prop}{rt:Wr}{bk ct:Loc->Mem->Prop}{p q:FS}
def zgA{i:Nat}{g:φ2}{x:D}(hx:J[i]?=some (some x))(h:WE G J O λy O1=>W2 g x y O1 λd O2=>nx (J.set i (some d)) O2):WS (zYx i g G) J O nx rt bk ct:=by
 obtain⟨y,O1,e1,d,O2,e2,k⟩:=h;exact⟨.next _ _,by simp only[zYx,hx,e1,ym,e2],k⟩
def z2x{i j:Int}{Q:Wr}(q:Q (.int (i+j)) O):W2 z9t (.int i) (.int j) O Q:=⟨_,_,rfl,q⟩
def zyk{c:FT}{body:FS}(I:Nat->Loc->Mem->Prop):∀{n m:Nat} {J:Loc} {O:Mem},m<n->I m J O ->
 (∀m J O,I m J O->WT c J O λb O1=>(b=true->WS body J O1 (λJ' O'=>∃m',m'<m/\I m' J' O') rt nx (λJ' O'=>∃m',m'<m/\I m' J' O'))/\(b=false->nx J O1))->WS (zTl n c body) J O nx rt bk ct
 |0,m,J,O,h,_,_=>absurd h (Nat.not_lt_zero _)
 |n+1,m,J,O,h,h0,hs=>by
  obtain⟨b,O1,e1,ht,hf⟩:=hs m J O h0
  cases b with
  |false=>exact⟨.next J O1,by show zbc c body (n+1) J O=_;simp only[zbc,e1,ym,cond_false],hf rfl⟩
  |true=>
   obtain⟨o,e2,k⟩:=ht rfl
   have step:∀J' O',(∃m',m'<m/\I m' J' O')->∃o,zbc c body n J' O'=some o/\Ek nx rt bk ct o:=λJ' O' ⟨m',hm',hI⟩=>by
    obtain⟨o,e,k⟩:=zyk I (n:=n) (m:=m') (by omega) hI hs;exact⟨o,e,k⟩
   cases o with
   |next J' O'=>obtain⟨o,e3,k3⟩:=step J' O' k;exact⟨o,by show zbc c body (n+1) J O=_;simp only[zbc,e1,ym,cond_true,e2];exact e3,k3⟩
   |cont J' O'=>obtain⟨o,e3,k3⟩:=step J' O' k;exact⟨o,by show zbc c body (n+1) J O=_;simp only[zbc,e1,ym,cond_true,e2];exact e3,k3⟩
   |brk J' O'=>exact⟨.next J' O',by show zbc c body (n+1) J O=_;simp only[zbc,e1,ym,cond_true,e2],k⟩
   |ret d O'=>exact⟨.ret d O',by show zbc c body (n+1) J O=_;simp only[zbc,e1,ym,cond_true,e2],k⟩
   |exc _ _ _=>exact k.elim
end
def zde{α:Type}(f:α->D)(xs:List α)(d:α):zRg (xs.map f)=(yB xs.length).map λ(k:Nat) =>.tup [.int k,f (xs.getD k d)]:=by
 refine Lj λi=>?_;unfold zRg;simp only[yi,Xw]
 by_cases h:i<xs.length
 ·simp[h]
 ·simp[h]
def zOv{n:Nat}{xs:Wm}{O:Mem}{Q:Wr}(h:O[n]?=some (.lst xs))(q:Q (.bl true) O):WF (zzp .lst) [.loc n,.ty "list"] O Q:=zcu (c:=.lst) (t:=.lst) (by simp[h]) q
def zMy{xs:Wm}{O:Mem}{Q:Wr}(q:Q (.bl true) O):WF (zzp .tup) [.tup xs,.ty "tuple"] O Q:=zcu (c:=.tup) (t:=.tup) rfl q
def zly{i:Int}{O:Mem}{Q:Wr}(q:Q (.bl true) O):WF (zzp .int) [.int i,.ty "int"] O Q:=zcu (c:=.int) (t:=.int) rfl q
def zPs{i:Int}{O:Mem}{Q:Wr}(q:Q (.bl false) O):WF (zzp .bl) [.int i,.ty "bool"] O Q:=zcu (c:=.bl) (t:=.int) rfl q
abbrev oiD:Qk->D
 |none =>.non
 |some k =>.int k
instance:Enc (Qk):=⟨oiD,fun|none =>.none|some k =>.int k,1,λ_ _ a=>by cases a<;>rfl,λa b=>by cases a<;>cases b<;>simp[Yn]⟩
def zpx:D->Bool
 |.non=>true
 |_=>false
def zvw{d:D}{O:Mem}{Q:Wr}(h:zVc d=true)(q:Q (.bl (zpx d)) O):W2 gIs d .non O Q:=by
 cases d<;>first|exact⟨_,_,rfl,q⟩|cases h
def zMj{d:D}{O:Mem}{Q:Wr}(h:zVc d=true)(q:Q (.bl (!zpx d)) O):W2 zGh d .non O Q:=by
 cases d<;>first|exact⟨_,_,rfl,q⟩|cases h
def zxj(a:Qj):zVc (onD a)=true:=by cases a<;>rfl
def zww(ds:Wm)(h:Nat):Nat:=ds.countP λy=>eqF y (.int h)
def zGs(hU:Qc)(h:Nat):zww (hU.map onD) h=hU.count (some h):=by
 unfold zww List.count;rw[List.countP_map]
 congr 1
 funext a
 have:=z8x a (some h);show eqF (onD a) (onD (some h))=_;rw[this];exact(Bool.beq_eq_decide_eq a (some h)).symm
def zfs{n:Nat}{hU:Qc}{h:Nat}{O:Mem}{Q:Wr}(e:O[n]?=some (.lst (hU.map onD)))(q:Q (.int (hU.count (some h):Nat)) O):WM zwk (.loc n) [.int h] O Q :=
 zss e rfl (zos hU) (by rw[show(hU.map onD).countP (λy=>eqF y (.int h))=hU.count (some h) from zGs hU h];exact q)
def zGl{n m:Nat}{p:Nat->Bool}(h:p m=true)(kH:m<n)(hb:∀j<m,p j=false):(yB n).find? p=some m:=by
 rw[List.find?_eq_some_iff_append];refine⟨h,yB m,(List.range' (m+1) (n-m-1)),?_,λa ha=>by simp[hb a (by simpa using ha)]⟩
 have:yB n=yB m++List.range' m (n-m):=by
  have e:n=m+(n-m):=by omega
  have:=List.range'_append_1 (s:=0) (m:=m) (n:=n-m);rw[<-e]at this;rw[List.range_eq_range',List.range_eq_range',<-this];simp
 rw[this,show n-m=(n-m-1)+1 by omega,List.range'_succ];simp
def z8f{n:Nat}{p:Nat->Bool}(h:∀j<n,p j=false):(yB n).find? p=none:=by
 rw[List.find?_eq_none];intro x hx;rw[h x (by simpa using hx)];exact yA
section
variable {G ψ χ:FE}{g g2:φ2}{J:Loc}{O:Mem}{Q:Wr}{i j:Int}{d x y:D}{ds xs:Wm}{hG:Wp}{n:Nat}
def zZ(h:O[n]?=some (.dct hG)):ztb O (.loc n)=some hG:=by simp[h]
def zZc(h:O[n]?=some (.dcf hG)):ztb O (.loc n)=some hG:=by simp[h]
def zNn(h:ztb O x=some hG)(h2:zPc hG i=some d)(q:Q d O):W2 zdr x (.int i) O Q:=⟨_,_,by simp only[zdr,h,ym,h2],q⟩
def zho(h:ztb O y=some hG)(q:Q (.bl (zPc hG i).isSome) O):W2 z9k (.int i) y O Q:=⟨_,_,by simp only[z9k,h,ym],q⟩
def zMx(h:ztb O y=some hG)(h2:hG.all (λp=>decide (0<=p.1/\p.1<1000))=true)(q:Q (.bl false) O):W2 z9k .non y O Q:=⟨_,_,by simp only[z9k,h,ym,h2,cond_true],q⟩
def zSu(h:ztb O y=some hG)(q:Q (.bl (!(zPc hG i).isSome)) O):W2 zik (.int i) y O Q:=⟨_,_,by simp only[zik,h,ym],q⟩
def zJn{R:Loc->Mem->Prop}(h:WE G J O λx O1=>WE ψ J O1 λy O2=>∃(n:Nat)(i:Int)(hG:Wp),x=.loc n/\y=.int i/\O2[n]?=some (.dct hG)/\hG.length<=1000000/\R J (O2.set n (.dct (zYk hG i d)))):WG (zRw G ψ) d J O R:=by
 obtain⟨x,O1,e1,y,O2,e2,n,i,hG,rfl,rfl,e3,hi,q⟩:=h;exact⟨_,_,by simp[e1,e2,e3,hi]<;>rfl,q⟩
def zsx(h:ztb O x=some hG)(q:Q (.loc O.length) (O++[.lst (z2f hG)])):WF zSn [x] O Q:=⟨_,_,by simp only[zSn,h,ym],q⟩
def zzo{R:Wm->(Mem->Bool)->Mem->Prop}(h:WE G J O λx O1=>∃n hG,x=.loc n/\O1[n]?=some (.dct hG)/\R (z2f hG) yes (O1.set n (.dcf hG))):WI (zRi G) J O R:=by
 obtain⟨x,O1,e1,n,hG,rfl,e2,q⟩:=h;exact⟨_,_,_,by simp[e1,e2]<;>rfl,q⟩
def z4x(h:WE G J O λx O1=>∃n ds,x=.loc n/\O1[n]?=some (.lst ds)/\Q (.loc O1.length) (O1++[.lst ds.reverse])):WE (z0u G) J O Q:=by
 obtain⟨x,O1,e1,n,ds,rfl,e2,q⟩:=h;exact⟨_,_,by simp[z0u,e1,e2]<;>rfl,q⟩
variable {ψ:FA}{c f m:yt}
def z7k(h:WE G J O λx O1=>∃n fs d,x=.loc n/\O1[n]?=some (.ins c fs)/\fs.lookup f=some d/\Q d O1):WE (zmp c f G) J O Q:=by
 obtain⟨x,O1,e,n,fs,d,rfl,h1,h2,q⟩:=h;exact⟨d,O1,by simp only[zmp,e,ym,h1,beq_self_eq_true,cond_true,h2],q⟩
def zxr{nx:Loc->Mem->Prop}{rt:Wr}{bk ct:Loc->Mem->Prop}(h:WE χ J O λy O1=>WE G J O1 λx O2=>∃n fs,x=.loc n/\O2[n]?=some (.ins c fs)/\fs.length<1000/\nx J (O2.set n (.ins c (zOi f y fs)))):WS (zir c f G χ) J O nx rt bk ct:=by
 obtain⟨y,O1,e1,x,O2,e2,n,fs,rfl,h1,h2,q⟩:=h;exact⟨.next J _,by simp only[zir,e1,e2,ym,h1,beq_self_eq_true,decide_eq_true h2,Xh,cond_true],q⟩
def znd{R:Wm->Mem->Prop}(h:WE G J O λx O1=>∃n fs,x=.loc n/\O1[n]?=some (.ins c fs)/\fs.lookup m=none/\WA ψ J O1 λds O2=>R (.loc n::ds) O2):WA (zNc c m G ψ) J O R:=by
 obtain⟨x,O1,e,n,fs,rfl,h1,h2,ds,O2,e2,q⟩:=h;exact⟨_,O2,by simp only[zNc,e,ym,h1,h2,beq_self_eq_true,Option.isNone_none,Xh,cond_true,e2],q⟩
def zty{F:FF}(h:WA ψ J O λds O1=>WF F (.loc O1.length::ds) (O1++[.ins c []]) λd O2=>d=.non/\Q (.loc O1.length) O2):WE (zSq c F ψ) J O Q:=by
 obtain⟨ds,O1,e,d,O2,e2,rfl,q⟩:=h;exact⟨_,O2,by simp only[zSq,e,ym,e2],q⟩
def z2m{g:GM}(h:WE G J O λx O1=>∃n hG,x=.loc n/\O1[n]?=some (.dct hG)/\WA ψ J O1 λds O2=>WM g (.loc n) ds O2 Q):WE (z4i g G ψ) J O Q:=by
 obtain⟨x,O1,e,n,hG,rfl,h1,ds,O2,e2,d,O3,e3,q⟩:=h;exact⟨d,O3,by simp only[z4i,e,ym,h1,e2,e3],q⟩
def z5p{x:D}{i:Int}{hG:Wp}(h:ztb O x=some hG)(q:Q ((zPc hG i).getD .non) O):WM z3m x [.int i] O Q:=⟨_,_,by simp only[z3m,h,ym],q⟩
def zzw(h:ztb O x=some hG)(q:Q (.loc O.length) (O++[.dct hG])):WF zeo [x] O Q:=⟨_,_,by simp only[zeo,h,ym],q⟩
def zuA(ps:Wp):Wp:=ps.foldl (λkv p=>zYk kv p.1 p.2) []
def zXp(ps:Wp):∀i≤ps.length,zht (pkF ps) (pdF ps) i=(ps.take i).foldl (λkv p=>zYk kv p.1 p.2) []
 |0,_=>rfl
 |i+1,h=>by
  have hi:i<ps.length:=by omega
  rw[Vf,List.foldl_append,<-zXp ps i (by omega),yk hi];show zYk _ _ _=zYk _ _ _;unfold pkF pdF;rw[Lp,yk hi];rfl
def zFl:∀ps:Wp,(zVj ps).mapM zUr=some ps
 |[]=>rfl
 |(i,d)::ps=>by
  have:=zFl ps;unfold zVj at this ⊢;rw[Ng,Nc,this];rfl
def zmx{n:Nat}(ps:Wp)(h:O[n]?=some (.lst (zVj ps)))(hl:ps.length<=4000)(q:Q (.loc O.length) (O++[.dct (zuA ps)])):WF zUl [.loc n] O Q:=by
 refine⟨_,_,?_,q⟩;simp only[zUl,h,zFl,ym,decide_eq_true hl,cond_true];rw[zXp ps ps.length (yh _),Vh];rfl
def zMv{i n:Nat}(hd:J[i]?=some (some (.loc n)))(hm:O[n]?=some (.dct hG))(h:WE G J O λd O1=>Q d (zAr n O1)):WE (zjm i G) J O Q:=by
 obtain⟨d,O1,e,q⟩:=h;exact⟨_,_,by simp only[zjm,hd,hm,e,ym],q⟩
def zFs{n:Nat}{O1:Mem}(h:O1[n]?=some (.dcf hG)):zAr n O1=O1.set n (.dct hG):=by unfold zAr;rw[h]
def zKu{R:Wm->(Mem->Bool)->Mem->Prop}(h:WE G J O λx O1=>∃n hG,x=.loc n/\ztb O1 x=some hG/\∀O2,KB [n] O1 O2->O2[n]?=some (.dcf hG)->R (z2f hG) yes O2):WI (zRi G) J O R:=by
 obtain⟨d,O1,e,n,hG,rfl,h1,q⟩:=h;unfold ztb at h1;dsimp only at h1
 split at h1
 ·rename_i hm
  cases h1;exact⟨_,_,_,by simp only[zRi,e,hm,ym],q _ (KB.refl.set (.inl (by simp))) (zY hm)⟩
 ·rename_i hm
  cases h1;exact⟨_,_,_,by simp only[zRi,e,hm,ym],q _ KB.refl hm⟩
 ·cases h1
def zvu{R:Wm->(Mem->Bool)->Mem->Prop}(h:WE G J O λx O1=>∃n hG,x=.loc n/\O1[n]?=some (.dcf hG)/\R (z2f hG) yes O1):WI (zRi G) J O R:=by
 obtain⟨d,O1,e,n,hG,rfl,h1,q⟩:=h;exact⟨_,_,_,by simp only[zRi,e,h1,ym],q⟩
end
end M
namespace M
open PySem PySem.W PyProof.Rows L2
def zKo{h:yT}:∀{as:Qv} {a:yf} {o:YS},(kOf as h).lookup a=some o->h.get? a=some o
 |[],a,o,e=>by cases e
 |b::as,a,o,e=>by
  unfold kOf at e;rw[Lk]at e
  cases hb:h.get? b with
  |none=>rw[hb]at e;exact zKo (as:=as) e
  |some u=>
   rw[hb]at e
   change YM a ((b,u)::kOf as h)=some o at e
   rw[Na]at e
   by_cases q:a==b
   ·rw[q]at e;cases e;rw[eq_of_beq q];exact hb
   ·rw[Bool.not_eq_true]at q;rw[q]at e;exact zKo (as:=as) e
def zxw{h:yT}:(z6x h).In h:=λ_ _ e=>zKo e
def zYu(s:Yb):zzx s=zyd s:=by cases s<;>rfl
def z7u(s:Yb):zLw s=zdc s:=by cases s<;>rfl
def zbt(s:Yb):zms s=zp s:=by cases s<;>rfl
def zxc{K:Frag}{a:yf}{nm qual:yt}{st:Yb}(e:zae K a qual=zze nm qual st):∃(oc:Value)(od:Qw)(sl:Array (Qi)) (kV dc pm:Value) (an:Qw) (cd ct:Value),
 K.lookup a=some ⟨oc,od,.func (fnOf nm qual (zyd st) (zdc st) (zp st) .none kV dc pm an cd ct),sl⟩/\codeIn K cd qual=true/\keepIn K (.ref a)=true:=by
 rw[<-zYu,<-z7u,<-zbt];unfold zae at e
 split at e
 ·rename_i oc od fd sl hl
  obtain⟨x1,x2,x3,x4,x5,x6,x7,x8,x9,x10,x11,x12,x13,x14,x15⟩:=fd;have e:=Yj e;simp only[se.mk.injEq]at e;obtain⟨rfl,rfl,rfl,rfl,rfl,rfl,rfl,rfl,rfl,h1,h2⟩:=e;exact⟨_,_,_,_,_,_,_,_,_,hl,h1,h2⟩
 ·cases e
def fnl{K:Frag}{nm:yt}{st:Yb}{l l':List (Option se)}(e:zhb K nm::l=znb nm st::l'):(∃(f:yf)(oc:Value)(od:Qw)(sl:Array (Qi)) (kV dc pm:Value) (an:Qw) (cd ct:Value),
 nsIn K yp nm=some (some (.ref f))/\K.lookup f=some ⟨oc,od,.func (fnOf nm nm (zyd st) (zdc st) (zp st) .none kV dc pm an cd ct),sl⟩/\codeIn K cd nm=true/\keepIn K (.ref f)=true)/\l=l':=by
 obtain⟨h1,h2⟩:=yd e;refine⟨?_,h2⟩;unfold zhb at h1
 split at h1
 ·rename_i a ha
  obtain⟨oc,od,sl,kV,dc,pm,an,cd,ct,q⟩:=zxc (show zae K a nm=zze nm nm st from h1);exact⟨a,oc,od,sl,kV,dc,pm,an,cd,ct,ha,q⟩
 ·cases h1
def fnc{K:Frag}{nm:yt}{st:Yb}{l l':List (Option se)}(e:zhb K nm::l=znb nm st::l'):(∃(f:yf)(fd:yV),nsIn K yp nm=some (some (.ref f))/\Fun K nm nm st f fd)/\l=l':=by
 obtain⟨⟨f,oc,od,sl,kV,dc,pm,an,cd,ct,a,l,c,k⟩,e⟩:=fnl e;exact⟨⟨f,_,a,zue l c k⟩,e⟩
def zen{K:Frag}{nm:yt}{i:Int}(e:zam K nm=some i):∃t,nsIn K yp nm=some (some (.int i t)):=by
 unfold zam at e
 split at e
 ·rename_i h
  cases e;exact⟨_,h⟩
 ·cases e
def SB{l:OpenLaw}{q:yy}{loose:Qx}{d:DefRec}{α:Type}{obs:Frag->α}{good:α}{N:Nat}(said:l.wellSaid=true)
 (left:LeftO l.prog q loose (λ_=>true) (λs=>obs (z6x s.heap)) (λ_=>good) N) (hdef:defOf q l.name=some (d,[])) (hp:l.prog.theDef l.name=some (d.params,d.body,d.scope))
 (hk:kwWritten? d.params.kwonlyargs d.params.kw_defaults=some []) (ok:(chainsOk q&&opensWell l.prog&&(frees l.row.toRowW&&l.row.within.isEmpty))=true) (hb:l.prog.bare) (hw:l.row.toRowW.promised)
 (walk:∀K:Frag,obs K=good->WalkO q loose (λ_ _=>True) (λ_ h=>K.In h) l.row.toRowW d [] λf vs=>PySem.call f vs):l.Holds:=by
 refine holds_law said λsaid=>?_
 refine holds_open (r:=l.row) (q:=q) (loose:=loose) (Xt:=λ_=>true) (XP:=λ_ _=>True) (Yf:=λs=>obs (z6x s.heap)) (Ya:=λ_=>good) (YP:=λ_ h=>∃K:Frag,obs K=good/\K.In h) (N:=N) left
  (λw s e=>⟨_,e,zxw⟩) (λw h h' ⟨K,e,k⟩ x=>⟨K,e,k.keeps x⟩) (λ_ _=>trivial) (λ_ _ _ _ _=>trivial) hdef hp hk (λs _=>?_) ?_ said ok hb hw (λw s₀ s₁ mg mb φ σ=>?_)
 ·exact(show RecFacts [] s.heap from⟨λx h=>(nomatch h),λx h=>(nomatch h),λc c' a hc=>(nomatch hc),λc fs hf=>(nomatch hf)⟩)
 ·show(!l.row.writes||true)=true;exact Bool.or_true _
 ·obtain⟨K,e,k⟩:=σ;exact walk K e w s₀ s₁ mg mb φ k
end M
namespace M
open PySem PySem.W PyProof.Rows L2
def zFu{K:Frag}{C:yf}{n:String}{bm:Qh}(e:zJr K C=some (.type "type",n,.ref C::bm,true,false)) :
 ∃(nm q:yt)(N:yf)(bs:Qh)(sn:Qx)(sub:Qh)(ab:Bool)(col:Qq)(dd:Qw)(k0 k1 k2 k3 k5:Qi),K.lookup C=some (xm nm q C N bs bm true sn sub ab col dd k0 k1 k2 k3 k5 n):=by
 unfold zJr at e
 split at e
 ·rename_i c dd cd sl hl
  split at e
  ·rename_i k0 k1 k2 k3 m k5 hs
   obtain⟨x1,x2,x3,x4,x5,x6,x7,x8,x9,x10,x11⟩:=cd;have e:=Yj e;simp only[Prod.mk.injEq]at e;obtain⟨rfl,rfl,rfl,rfl,rfl⟩:=e;have:sl = #[k0,k1,k2,k3,some (.builtin m),k5]:=Array.toList_inj.mp hs;subst this;exact⟨_,_,_,_,_,_,_,_,_,_,_,_,_,_,hl⟩
  ·cases e
 ·cases e
def zVs{K:Frag}{C:yf}(e:(clsIn K C).isSome=true):∃cd,clsIn K C=some cd:=Option.isSome_iff_exists.mp e
end M
namespace P
local macro_rules | `(tactic| walk_at "s") => `(tactic| exact ⟨rfl, rfl, rfl, by decide +kernel, rfl, by decide +kernel, by decide +kernel⟩)
open PySem PySem.Spec PyProof.Rows L2 M
def top(i:Nat):Yb:=PySem.Challenge.pw_keynests_k50_keys_put_in.main.body.getD i (.Pass ⟨0,0,0,0⟩)
def zul:Qx:=["_law_script"]
def zOg:FS:=(zYb (zpk (zh (zm 0) (zh (fOr (zD gEq (zx z8i (zh (zm 0) zI)) (fC (.int 0))) (zD gEq (zD z6m (zD gIx (zm 0) (fC (.int 0))) (fC (.int 2))) (fC (.int 0)))) (zh (fC (.int 0)) (zh (fC (.int 0)) zI))))))
def zHg:FF:=λds O=>zGb (zOg (zS zul ds) O)
def z0i:Qx:=["_law_script","_law_k","_law_cell","_law_one","_law_two"]
def zye:FS:=(zX (zFb 2 (fC (.int 29))) (zX (sIf (zM (zD (zBl λi j=>decide (j<i)) (zx z8i (zh (zm 0) zI)) (fC (.int 0)))) (zFb 2 (zD gIx (zm 0) (zD z6m (zm 1) (zx z8i (zh (zm 0) zI))))) zDb) (zX (zFb 3 (zD z6m (zD zsg (zD zjj (zD zsg (zD zsg (zm 2) (zD zjj (fC (.int 40503)) (zm 1))) (fC (.int 1))) (fC (.int 48271))) (zD zjj (zm 1) (zm 1))) (fC (.int 2147483647)))) (zX (zFb 4 (zD z6m (zD zsg (zD zsg (zD zjj (zm 3) (zm 3)) (zD zjj (fC (.int 69621)) (zm 3))) (zD zjj (fC (.int 31)) (zm 1))) (fC (.int 2147483629)))) (zYb (zD z6m (zD zsg (zD zsg (zD zjj (zm 4) (zm 4)) (zD zjj (fC (.int 16807)) (zm 4))) (zm 1)) (fC (.int 1073741789))))))))
def zDe:FF:=λds O=>zGb (zye (zS z0i ds) O)
def zTk:Qx:=["_law_pen_here","_law_many","_law_script","_law_is_mixed","_law_k","_law_rest"]
def zJf:FS:=(zX (zPm (zm 0) (gTL 4 (zmb (gN 2) (zmb (gN 3) (zmb (gN 4) (zmb (gN 5) zqf)))))) (zX (zPm (zD zsg (zm 4) (fC (.int 1))) (gAt (zm 0) (fC (.int 2)))) (zX (sIf (zM (zm 3)) (zYb (zD z6m (zx zDe (zh (zm 2) (zh (zm 4) zI))) (zm 1))) zDb) (zX (sIf (zM (zD gEq (zD z6m (zm 4) (fC (.int 60))) (fC (.int 0)))) (zX (zFb 5 (fC (.int 0))) (sIf (zM (zD (zBl λi j=>decide (i<j)) (zD zsg (zD zYw (zm 4) (fC (.int 60))) (fC (.int 1))) (zx z8i (zh (zm 2) zI)))) (zFb 5 (zD gIx (zm 2) (zD zsg (zD zYw (zm 4) (fC (.int 60))) (fC (.int 1))))) zDb)) zDb) (zX (zPm (zD zYw (zm 5) (zm 1)) (gAt (zm 0) (fC (.int 3)))) (zYb (zD z6m (zm 5) (zm 1))))))))
def zJ:FF:=λds O=>zGb (zJf (zS zTk ds) O)
def zxf:FE:=(zYj (zh (zx zJ (zh (zm 1) (zh (zm 2) zI))) (zh (zx zJ (zh (zm 1) (zh (zm 2) zI))) zI)))
def zsf:FE:=(zx zJ (zh (zm 1) (zh (zm 2) zI)))
def zhk:Qx:=["_law_pen_here","_law_nests","_law_wide","_law_rooms","_law_far"]
def zIf:FS:=(zX (zFb 1 (zD zsg (fC (.int 1)) (zx zJ (zh (zm 0) (zh (fC (.int 6)) zI))))) (zX (sIf (zM (zD gEq (zx zJ (zh (zm 0) (zh (fC (.int 8)) zI))) (fC (.int 5)))) (zFb 1 (zD zsg (fC (.int 5)) (zx zJ (zh (zm 0) (zh (fC (.int 6)) zI))))) zDb) (zX (zFb 2 (zD gIx (zpk (zh (fC (.int 2)) (zh (fC (.int 3)) (zh (fC (.int 3)) (zh (fC (.int 10)) zI))))) (zx zJ (zh (zm 0) (zh (fC (.int 4)) zI))))) (zX (zFb 3 (zx zXg (zh (fLC 1 [0,2] (zWh (zh (zm 1) zI)) (gN 0) z3j zsf) zI))) (zX (zFb 4 (zD gIx (zpk (zh (fC (.int 10007)) (zh (fC (.int 10007)) (zh (fC (.int 12)) zI)))) (zx zJ (zh (zm 0) (zh (fC (.int 3)) zI))))) (zYb (zYj (zh (zm 3) (zh (zx zXg (zh (fLC 1 [0,4] (zWh (zh (zD zsg (fC (.int 2)) (zx zJ (zh (zm 0) (zh (fC (.int 2)) zI)))) zI)) (gN 0) z3j zxf) zI)) zI)))))))))
def z4d:FF:=λds O=>zGb (zIf (zS zhk ds) O)
def zOf:Qx:=["self","rule"]
def zwc:FS:=(zX (zir "Shelf" "kept_rule" (zm 0) (zm 1)) (zir "Shelf" "nest_of" (zm 0) z7x))
def zZb:FF:=λds O=>zGb (zwc (zS zOf ds) O)
def zIl:Qx:=["_law_pen_here","_law_keys","_law_way"]
def zAg:FS:=(zX (zFb 2 (zx zJ (zh (zm 0) (zh (fC (.int 8)) zI)))) (zX (sIf (z6l (zM (zD (zBl λi j=>decide (i<j)) (zm 2) (fC (.int 3)))) (zM (zD gNe (zm 1) (zpk zI)))) (zYb (zD gIx (zm 1) (zx zJ (zh (zm 0) (zh (zx z8i (zh (zm 1) zI)) zI))))) zDb) (zX (sIf (zM (zD gEq (zm 2) (fC (.int 3)))) (zYb (zx zJ (zh (zm 0) (zh (zD zEx (fC (.int 10)) (fC (.int 59))) zI)))) zDb) (zYb (zx zJ (zh (zm 0) (zh (fC (.int 40)) zI)))))))
def z6e:FF:=λds O=>zGb (zAg (zS zIl ds) O)
def z7g:FS:=(zhj (zji zfg (zm 2) (zh (zD z6m (zD z6m (zD zsg (zD zjj (zm 3) (zm 1)) (zm 4)) (fC (.int 10007))) (zx z8i (zh (zD gIx (zm 0) (fC (.int 0))) zI))) zI)))
def zaj:Qx:=["_law_rule_here","_law_key_here","_law_found","_law_factor","_law_shift"]
def zqe:FS:=(zX (zFb 2 (zpk zI)) (zX (z1j (zZf (zD gIx (zm 0) (fC (.int 1)))) (gT 2 (zmb (gN 3) (zmb (gN 4) zqf))) z7g) (zYb (zm 2))))
def zSb:FF:=λds O=>zGb (zqe (zS zaj ds) O)
def zEe:FE:=(zm 0)
def zCe:FT:=(zM (zD gEq (zD zdr (zm 1) (zm 0)) (zm 2)))
def zVf:Qx:=["_law_rule_here","_law_lying_there","_law_nest"]
def zAc:FS:=(zYb (zD zZs (zD gIx (zD gIx (zm 0) (fC (.int 0))) (zm 2)) (zx z8i (zh (fLC 1 [1,2] (zRi (zm 1)) (gN 0) zCe zEe) zI))))
def zqb:FF:=λds O=>zGb (zAc (zS zVf ds) O)
def zAd:FE:=(zm 0)
def zzd:FT:=(z6l (zM (zD gIn (zD zdr (zm 1) (zm 0)) (zm 2))) (zM (zD z9g (zm 0) (zm 3))))
def zYf:FE:=(zm 0)
def zTf:FT:=(zM (zD (zBl λi j=>decide (j<i)) (zjm 2 (zx zqb (zh (zm 1) (zh (zm 2) (zh (zm 0) zI))))) (fC (.int 0))))
def zXf:FE:=(zm 0)
def zUf:FT:=(zM (zD gNe (zm 0) (z4i z3m (zm 1) (zh (zm 2) zI))))
def zQf:FS:=(zFb 7 (zD zsg (zm 7) (fLC 1 [1,8] (zZf (zx zSb (zh (zm 0) (zh (zm 8) zI)))) (gN 0) zUf zXf)))
def zxd:FS:=(zX (zFb 6 (zD zsg (zm 6) (fC (.int 1)))) (zX (zFb 7 (zpk zI)) (zX (z1j (zZf (zm 4)) (gN 8) zQf) (zX (sIf (zM (zD (zBl λi j=>decide (j<i)) (zx z8i (zh (fLC 1 [0,1] (zZf (zm 7)) (gN 0) zTf zYf) zI)) (fC (.int 0)))) (zFb 5 (zm 6)) zDb) (zX (zFb 4 (fLC 1 [1,7,3] (zZf (zx zag (zh (zm 1) zI))) (gN 0) zzd zAd)) (zFb 3 (zD zsg (zm 3) (zm 4))))))))
def z1g:Qx:=["_law_rule_here","_law_lying_there","_law_key_here","_law_found","_law_fresh","_law_fewest","_law_count","_law_nests","_law_one"]
def zcd:FS:=(zX (zFb 3 (zpk (zh (zm 2) zI))) (zX (zFb 4 (zpk (zh (zm 2) zI))) (zX (zFb 5 (fC .non)) (zX (zFb 6 (fC (.int 0))) (zX (zTl 100000 (z6l (zM (zD gNe (zm 4) (zpk zI))) (zM (zD gIs (zm 5) (fC .non)))) zxd) (zYb (zYj (zh (zx z9f (zh (zm 3) zI)) (zh (zm 5) zI)))))))))
def ztc:FF:=λds O=>zGb (zcd (zS z1g ds) O)
def zrk:Qx:=["self","key"]
def z9e:FS:=(zYb (zD z9k (zm 1) (zmp "Shelf" "nest_of" (zm 0))))
def z0c:FF:=λds O=>zGb (z9e (zS zrk ds) O)
def zXn:FE:=(zm 0)
def zNr:FT:=(zM (zD gEq (zm 1) (zm 2)))
def zmt:Qx:=["laying","nest"]
def zDm:FS:=(zYb (fLC 2 [1] (z1m (zm 0)) (gT 2 (zmb (gN 0) (zmb (gN 1) zqf))) zNr zXn))
def zfm:FF:=λds O=>zGb (zDm (zS zmt ds) O)
def zci:FS:=(sIf (zM (zD zik (zm 4) (zm 3))) (zX (zPm (zYj (zh (zm 7) (zh (zD gIx (zm 5) (zm 6)) zI))) (zRw (zm 3) (zm 4))) (zhj (zji zfg (zm 5) (zh (zm 4) zI)))) zDb)
def zmf:FS:=(z1j (zZf (zD gIx (zD gIx (zm 0) (fC (.int 1))) (zm 7))) (gN 4) zci)
def zVh:FS:=(zX (z1j (zZf (zx zfm (zh (zm 1) (zh (zD gIx (zm 5) (zm 6)) zI)))) (gN 7) zmf) (zYx 6 z9t (fC (.int 1))))
def zAh:FS:=(zPm (zYj (zh (zm 2) (zh (fC .non) zI))) (zRw (zm 3) (zm 4)))
def z2j:Qx:=["web","laying","key","pushes","nest","nests","at","other"]
def zMf:FS:=(zX (zFb 3 z7x) (zX (z1j (zZf (zD gIx (zD gIx (zm 0) (fC (.int 1))) (zm 2))) (gN 4) zAh) (zX (zFb 5 (zx zSn (zh (zm 3) zI))) (zX (zFb 6 (fC (.int 0))) (zX (zTl 100000 (zM (zD (zBl λi j=>decide (i<j)) (zm 6) (zx z8i (zh (zm 5) zI)))) zVh) (zYb (zm 3)))))))
def zvf:FF:=λds O=>zGb (zMf (zS z2j ds) O)
def zZt:FE:=(zD zZs (zm 1) (zji zwk (zm 2) (zh (zm 0) zI)))
def zKv:Qx:=["web","laying"]
def zMl:FS:=(zYb (fLC 2 [1] (z1m (zD gIx (zm 0) (fC (.int 0)))) (gT 2 (zmb (gN 0) (zmb (gN 1) zqf))) z3j zZt))
def zJh:FF:=λds O=>zGb (zMl (zS zKv ds) O)
def zjl:FS:=(zX (zhj (zji zfg (zm 2) (zh (zYj (zh (zD gIx (zD zdr (zm 0) (zm 1)) (fC (.int 0))) (zh (zm 1) zI))) zI))) (zFb 1 (zD gIx (zD zdr (zm 0) (zm 1)) (fC (.int 1)))))
def z6p:Qx:=["pushes","nest","row"]
def zFj:FS:=(zX (zFb 2 (zpk zI)) (zX (zTl 100000 (zM (zD zGh (zm 1) (fC .non))) zjl) (zYb (z0u (zm 2)))))
def zKj:FF:=λds O=>zGb (zFj (zS z6p ds) O)
def z1l:FE:=(zm 0)
def zol:FT:=(zkj (zM (zD gEq (zm 0) (zm 2))) (zM (zD z9k (zm 1) (zm 3))))
def zxl:FS:=(sIf (zM (zD (zBl λi j=>decide (j<i)) (zD gIx (zm 4) (zm 5)) (fC (.int 0)))) (zYb (zYj (zh (fC (.str "put")) (zh (zx zKj (zh (zm 3) (zh (zm 5) zI))) zI)))) zDb)
def zWp:Qx:=["web","laying","key","pushes","room","nest"]
def zIj:FS:=(zX (zFb 3 (zx zvf (zh (zm 0) (zh (zm 1) (zh (zm 2) zI))))) (zX (zFb 4 (zx zJh (zh (zm 0) (zh (zm 1) zI)))) (zX (z1j (zRi (zm 3)) (gN 5) zxl) (zYb (zYj (zh (fC (.str "full")) (zh (fLC 2 [2,3] (z1m (zm 1)) (gT 2 (zmb (gN 0) (zmb (gN 1) zqf))) zol z1l) zI)))))))
def zgf:FF:=λds O=>zGb (zIj (zS zWp ds) O)
def zYe:Qx:=["self"]
def zgc:FS:=(zYb (zx zag (zh (zmp "Shelf" "nest_of" (zm 0)) zI)))
def zK:FF:=λds O=>zGb (zgc (zS zYe ds) O)
def zdn:FE:=(zD z6m (zD z6m (zD zsg (zD zjj (zD gIx (zm 0) (fC (.int 0))) (zm 1)) (zD gIx (zm 0) (fC (.int 1)))) (fC (.int (10007)))) (zm 2))
def z9r:Qx:=["rule","key","nests"]
def zSm:FS:=(zX (zFb 2 (zx z8i (zh (zD gIx (zm 0) (fC (.int 0))) zI))) (zYb (zx zXg (zh (fLC 1 [1,2] (zZf (zD gIx (zm 0) (fC (.int 1)))) (gN 0) z3j zdn) zI))))
def z8l:FF:=λds O=>zGb (zSm (zS z9r ds) O)
def zKl:FE:=(zx z8l (zh (zm 1) (zh (zm 0) zI)))
def zLp:Qx:=["rule","keys"]
def zoj:FS:=(zYb (zYj (zh (zD gIx (zm 0) (fC (.int 0))) (zh (zx zXg (zh (fLC 1 [0] (zZf (zm 1)) (gN 0) z3j zKl) zI)) zI))))
def zDd:FF:=λds O=>zGb (zoj (zS zLp ds) O)
def zWf:FE:=(zD zdr (zmp "Shelf" "nest_of" (zm 1)) (zm 0))
def zYg:Qx:=["self"]
def zbd:FS:=(zYb (fLC 1 [0] (zZf (zx zK (zNc "Shelf" "all_there" (zm 0) zI))) (gN 0) z3j zWf))
def zKb:FF:=λds O=>zGb (zbd (zS zYg ds) O)
def zTd:FS:=(zPm (zD gIx (zm 5) (fC (.int 1))) (zRw (zmp "Shelf" "nest_of" (zm 0)) (zD gIx (zm 5) (fC (.int 0)))))
def zHd:FE:=(zYj (zh (zD gIx (zm 1) (zD gIx (zm 0) (fC (.int 0)))) (zh (zD gIx (zm 0) (fC (.int 1))) zI)))
def zSd:FE:=(zD gIx (zm 1) (zm 0))
def zlk:Qx:=["self","key","keys","told","row","push"]
def zdf:FS:=(zX (sIf (zM (zx z0c (zNc "Shelf" "has" (zm 0) (zh (zm 1) zI)))) (zDp "Twice" (zh (fC (.str "the key is there already")) zI)) zDb) (zX (zFb 2 (zD zsg (zx zK (zNc "Shelf" "all_there" (zm 0) zI)) (zpk (zh (zm 1) zI)))) (zX (sIf (zM (zD (zBl λi j=>decide (j<i)) (zx z8i (zh (zm 2) zI)) (fC (.int (30))))) (zRe "Full" "some" (zh (zx z9f (zh (zm 2) zI)) zI)) zDb) (zX (zFb 3 (zx zgf (zh (zx zDd (zh (zmp "Shelf" "kept_rule" (zm 0)) (zh (zm 2) zI))) (zh (zD zsg (zx zKb (zNc "Shelf" "laying" (zm 0) zI)) (zpk (zh (fC .non) zI))) (zh (zD zZs (zx z8i (zh (zm 2) zI)) (fC (.int 1))) zI))))) (zX (sIf (zM (zD gEq (zD gIx (zm 3) (fC (.int 0))) (fC (.str "full")))) (zRe "Full" "some" (zh (zx z9f (zh (fLC 1 [2] (zZf (zD gIx (zm 3) (fC (.int 1)))) (gN 0) z3j zSd) zI)) zI)) zDb) (zX (zFb 4 (fLC 1 [2] (zZf (zD gIx (zm 3) (fC (.int 1)))) (gN 0) z3j zHd)) (zX (z1j (zZf (zm 4)) (gN 5) zTd) (zYb (zm 4)))))))))
def z9d:FX:=λds O=>ziz (zdf (zS zlk ds) O)
def zUi:Qx:=["_law_shelf","_law_key_here","_law_found","e"]
def zFe:FS:=(zX (zFb 2 (zYj (zh (fC (.str "put")) (zh (fC .non) zI)))) (zX (zcs (zMr 2 "put" z9d (zNc "Shelf" "put" (zm 0) (zh (zm 1) zI))) (zOk [("Twice",true),("Full",false)] (zFb 2 (zYj (zh (fC (.str "twice")) (zh (fC .non) zI)))) (hAs 3 [("Twice",false),("Full",true)] (zFb 2 (zYj (zh (fC (.str "full")) (zh (fAt "Full" "some" (zm 3)) zI)))) zUv))) (zYb (zm 2))))
def zpd:FF:=λds O=>zGb (zFe (zS zUi ds) O)
def zct:FS:=(sIf (zM (zD (zBl λi j=>decide (i<j)) (zm 4) (fC (.int 0)))) (zYb (zYj (zh (fC (.str "room")) (zh (zm 3) zI)))) zDb)
def z2s:FS:=(sIf (z6l (zM (zD zGh (zm 3) (fC .non))) (zM (zD z9g (zm 3) (zD gIx (zD gIx (zm 0) (fC (.int 1))) (zm 2))))) (zYb (zYj (zh (fC (.str "home")) (zh (zm 2) zI)))) zDb)
def zWs:Qx:=["web","laying","key","nest","room"]
def zAm:FS:=(zX (z1j (z1m (zm 1)) (gT 2 (zmb (gN 2) (zmb (gN 3) zqf))) z2s) (zX (z1j (z1m (zx zJh (zh (zm 0) (zh (zm 1) zI)))) (gT 2 (zmb (gN 3) (zmb (gN 4) zqf))) zct) (zYb (fC .non))))
def zbm:FF:=λds O=>zGb (zAm (zS zWs ds) O)
def zEk:FE:=(zD gIx (zm 0) (fC (.int 0)))
def zno:Qx:=["web","laying","row","at","key"]
def z9h:FS:=(zX (zFb 4 (zD gIx (zD gIx (zm 2) (zm 3)) (fC (.int 0)))) (zX (sIf (zkj (zM (zD (zBl λi j=>decide (i<j)) (zm 4) (fC (.int 0)))) (zM (zD (zBl λi j=>decide (j<=i)) (zm 4) (zx z8i (zh (zm 1) zI))))) (zYb (fC (.bl false))) zDb) (zX (sIf (zkj (zM (zD z9g (zD gIx (zD gIx (zm 2) (zm 3)) (fC (.int 1))) (zD gIx (zD gIx (zm 0) (fC (.int 1))) (zm 4)))) (zM (zD gEq (zD gIx (zD gIx (zm 2) (zm 3)) (fC (.int 1))) (zD gIx (zm 1) (zm 4))))) (zYb (fC (.bl false))) zDb) (zYb (zD z9g (zm 4) (fLC 1 [] (zZf (fSl (zm 2) pNo (zBz (zm 3)))) (gN 0) z3j zEk))))))
def z2h:FF:=λds O=>zGb (z9h (zS zno ds) O)
def zCn:Qx:=["laying","key","row","at"]
def z7h:FS:=(zX (sIf (zM (zD gEq (zm 3) (fC (.int 0)))) (zYb (zD gEq (zD gIx (zD gIx (zm 2) (fC (.int 0))) (fC (.int 0))) (zm 1))) zDb) (zYb (zD gEq (zD gIx (zm 0) (zD gIx (zD gIx (zm 2) (zm 3)) (fC (.int 0)))) (zD gIx (zD gIx (zm 2) (zD zZs (zm 3) (fC (.int 1)))) (fC (.int 1))))))
def zki:FF:=λds O=>zGb (z7h (zS zCn ds) O)
def zXl:FS:=(zX (sIf (zMi (z6l (zM (zx z2h (zh (zm 0) (zh (zm 1) (zh (zm 3) (zh (zm 5) zI)))))) (zM (zx zki (zh (zm 1) (zh (zm 2) (zh (zm 3) (zh (zm 5) zI)))))))) z5s zDb) (zPm (zD gIx (zm 6) (fC (.int 1))) (gAt (zm 4) (zD gIx (zm 6) (fC (.int 0))))))
def ziq:Qx:=["web","laying","key","row","behind","at","push"]
def zuj:FS:=(zX (zFb 4 (zx zGq (zh (zm 1) zI))) (zX (z1j (z1m (zm 3)) (gT 2 (zmb (gN 5) (zmb (gN 6) zqf))) zXl) (zX (sIf (zkj (zM (zD gEq (zx z8i (zh (zm 3) zI)) (fC (.int 0)))) (zM (zD zGh (zx zbm (zh (zm 0) (zh (zm 4) zI))) (fC .non)))) z5s zDb) (zYb (zm 4)))))
def zLj:FF:=λds O=>zGb (zuj (zS ziq ds) O)
def zai:FS:=(zX (zFb 5 (zx zgf (zh (zm 0) (zh (zm 1) (zh (zm 4) zI))))) (sIf (zM (zD gEq (zD gIx (zm 5) (fC (.int 0))) (fC (.str "put")))) (zFb 1 (zx zLj (zh (zm 0) (zh (zm 1) (zh (zm 4) (zh (zD gIx (zm 5) (fC (.int 1))) zI)))))) (zhj (zji z9v (zm 3) (zh (zD gIx (zm 5) (fC (.int 1))) zI)))))
def zUk:Qx:=["web","laying","keys","crowded","key","told"]
def zCf:FS:=(zX (zFb 3 (zpk zI)) (zX (z1j (zZf (zm 2)) (gN 4) zai) (zYb (zYj (zh (zm 1) (zh (zgr (zm 3)) zI))))))
def zcf:FF:=λds O=>zGb (zCf (zS zUk ds) O)
def z1h:Qx:=["web"]
def zJd:FS:=(zYb (zx zcf (zh (zm 0) (zh (zD zjj (zpk (zh (fC .non) zI)) (zx z8i (zh (zD gIx (zm 0) (fC (.int 1))) zI))) (zh (zan (zx z8i (zh (zD gIx (zm 0) (fC (.int 1))) zI))) zI)))))
def zMd:FF:=λds O=>zGb (zJd (zS z1h ds) O)
def zvk:FE:=(zD gIx (zD gIx (zm 1) (fC (.int 0))) (zm 0))
def zQn:Qx:=["web","nests"]
def zdi:FS:=(zYb (zx zoy (zh (fLC 1 [0] (zZf (zm 1)) (gN 0) z3j zvk) zI)))
def zEh:FF:=λds O=>zGb (zdi (zS zQn ds) O)
def zbj:FS:=(zhj (zji z9v (zm 2) (zh (zD gIx (zD gIx (zm 0) (fC (.int 1))) (zm 3)) zI)))
def znl:Qx:=["web","some","found","key"]
def zGg:FS:=(zX (zFb 2 (zpk zI)) (zX (z1j (zZf (zm 1)) (gN 3) zbj) (zYb (zgr (zm 2)))))
def zyg:FF:=λds O=>zGb (zGg (zS znl ds) O)
def zJl:Qx:=["web","some"]
def zFg:FS:=(zYb (zD (zBl λi j=>decide (i<j)) (zx zEh (zh (zm 0) (zh (zx zyg (zh (zm 0) (zh (zm 1) zI))) zI))) (zx z8i (zh (zm 1) zI))))
def zDg:FF:=λds O=>zGb (zFg (zS zJl ds) O)
def zOh:FE:=(zm 0)
def zom:FT:=(zM (zD gNe (zm 0) (zm 1)))
def zhi:FS:=(sIf (zM (zx zDg (zh (zm 0) (zh (fLC 1 [2] (zZf (zm 1)) (gN 0) zom zOh) zI)))) (zYb (zm 2)) zDb)
def zZj:Qx:=["web","some","key"]
def zaf:FS:=(zX (z1j (zZf (zm 1)) (gN 2) zhi) (zYb (fC .non)))
def zfe:FF:=λds O=>zGb (zaf (zS zZj ds) O)
def znk:FS:=(zX (zhj (zji zPi (zm 2) (zh (zm 3) zI))) (zFb 3 (zx zfe (zh (zm 0) (zh (zm 2) zI)))))
def zgo:Qx:=["web","some","rest","spare"]
def zLh:FS:=(zX (zFb 2 (zx zGq (zh (zm 1) zI))) (zX (zFb 3 (zx zfe (zh (zm 0) (zh (zm 2) zI)))) (zX (zTl 100000 (zM (zD zGh (zm 3) (fC .non))) znk) (zYb (zm 2)))))
def zHh:FF:=λds O=>zGb (zLh (zS zgo ds) O)
def zYp:Qx:=["web","told"]
def zEj:FS:=(zX (zFb 1 (zx zMd (zh (zm 0) zI))) (zX (sIf (zM (zD gEq (zD gIx (zm 1) (fC (.int 1))) (zpk zI))) (zYb (zYj (zh (fC (.str "fits")) (zh (zD gIx (zm 1) (fC (.int 0))) zI)))) zDb) (zYb (zYj (zh (fC (.str "crowd")) (zh (zx zHh (zh (zm 0) (zh (zD gIx (zm 1) (fC (.int 1))) zI))) zI))))))
def zDj:FF:=λds O=>zGb (zEj (zS zYp ds) O)
def zog:FS:=(zPm (zD gIx (zD gIx (zm 3) (fC (.int 1))) (zm 4)) (zRw (zmp "Shelf" "nest_of" (zm 0)) (zm 5)))
def z3f:FE:=(zD gIx (zm 1) (zm 0))
def zSh:Qx:=["self","rule","keys","told","place","key"]
def zEd:FS:=(zX (zFb 2 (zx zK (zNc "Shelf" "all_there" (zm 0) zI))) (zX (zFb 3 (zx zDj (zh (zx zDd (zh (zm 1) (zh (zm 2) zI))) zI))) (zX (sIf (zM (zD gEq (zD gIx (zm 3) (fC (.int 0))) (fC (.str "crowd")))) (zRe "Full" "some" (zh (fLC 1 [2] (zZf (zD gIx (zm 3) (fC (.int 1)))) (gN 0) z3j z3f) zI)) zDb) (zX (zir "Shelf" "kept_rule" (zm 0) (zm 1)) (z1j (z1m (zm 2)) (gT 2 (zmb (gN 4) (zmb (gN 5) zqf))) zog)))))
def zKd:FX:=λds O=>ziz (zEd (zS zSh ds) O)
def z6g:Qx:=["_law_shelf","_law_rule_here","_law_taken"]
def z9c:FS:=(zX (zFb 2 (fC (.bl true))) (zX (zcs (zft zKd (zNc "Shelf" "renew" (zm 0) (zh (zm 1) zI))) (zOk [("Twice",false),("Full",true)] (zFb 2 (fC (.bl false))) zUv)) (zYb (zm 2))))
def zrc:FF:=λds O=>zGb (z9c (zS z6g ds) O)
def zlg:FE:=(zm 0)
def zng:FT:=(zkj (zMi (zM (zx (zzp .int) (zh (zm 0) (zh (fC (.ty "int")) zI))))) (zM (zx (zzp .bl) (zh (zm 0) (zh (fC (.ty "bool")) zI)))))
def zQh:Qx:=["_law_found","_law_due"]
def zUd:FS:=(zX (sIf (zkj (zMi (zM (zx (zzp .lst) (zh (zm 0) (zh (fC (.ty "list")) zI))))) (zM (zD gNe (zm 0) (zm 1)))) (zYb (fC (.bl false))) zDb) (zYb (zD gEq (zx z8i (zh (fLC 1 [] (zZf (zm 0)) (gN 0) zng zlg) zI)) (fC (.int 0)))))
def zkb:FF:=λds O=>zGb (zUd (zS zQh ds) O)
def z7i:Qx:=["self"]
def zle:FS:=(zYb (zx zJh (zh (zx zDd (zh (zmp "Shelf" "kept_rule" (zm 0)) (zh (zx zK (zNc "Shelf" "all_there" (zm 0) zI)) zI))) (zh (zx zKb (zNc "Shelf" "laying" (zm 0) zI)) zI))))
def zne:FF:=λds O=>zGb (zle (zS z7i ds) O)
def zWi:Qx:=["self"]
def zwe:FS:=(zYb (zmp "Shelf" "kept_rule" (zm 0)))
def zte:FF:=λds O=>zGb (zwe (zS zWi ds) O)
def zNh:Qx:=["self","key"]
def zNd:FS:=(zYb (z4i z3m (zmp "Shelf" "nest_of" (zm 0)) (zh (zm 1) zI)))
def zlc:FF:=λds O=>zGb (zNd (zS zNh ds) O)
def z5g:FE:=(zm 0)
def z4g:FT:=(zM (zD gEq (zD zdr (zmp "Shelf" "nest_of" (zm 1)) (zm 0)) (zm 2)))
def z2i:Qx:=["self","h"]
def zke:FS:=(zYb (fLC 1 [0,1] (zZf (zx zK (zNc "Shelf" "all_there" (zm 0) zI))) (gN 0) z4g z5g))
def zse:FF:=λds O=>zGb (zke (zS z2i ds) O)
def zPf:FE:=(zm 0)
def zSf:FT:=(zM (zD gEq (zD zdr (zm 1) (zm 0)) (zm 2)))
def zwd:FS:=(zX (zFb 6 (zx z9f (zh (fLC 1 [2,5] (zRi (zm 2)) (gN 0) zSf zPf) zI))) (sIf (zkj (zM (zD (zBl λi j=>decide (i<j)) (zD gIx (zm 3) (zm 5)) (fC (.int 0)))) (zMi (zM (zx zkb (zh (zx zse (zNc "Shelf" "nest" (zm 0) (zh (zm 5) zI))) (zh (zm 6) zI)))))) (zYb (fC (.bl false))) zDb))
def zvd:FS:=(zX (zFb 5 (zD zdr (zm 2) (zm 4))) (zX (sIf (zkj (zM (zD zGh (zx z0c (zNc "Shelf" "has" (zm 0) (zh (zm 4) zI))) (fC (.bl true)))) (zkj (zM (zD gNe (zx zlc (zNc "Shelf" "where" (zm 0) (zh (zm 4) zI))) (zm 5))) (zM (zD z9g (zm 5) (zx zSb (zh (zm 1) (zh (zm 4) zI))))))) (zYb (fC (.bl false))) zDb) (zPm (zD zZs (zD gIx (zm 3) (zm 5)) (fC (.int 1))) (gAt (zm 3) (zm 5)))))
def zTg:Qx:=["_law_shelf","_law_rule_here","_law_lying_there","_law_room","_law_key_here","_law_nest","_law_due"]
def zid:FS:=(zX (sIf (zkj (zMi (zM (zx zkb (zh (zx zK (zNc "Shelf" "all_there" (zm 0) zI)) (zh (zx zag (zh (zm 2) zI)) zI))))) (zM (zD gNe (zx zte (zNc "Shelf" "rule" (zm 0) zI)) (zm 1)))) (zYb (fC (.bl false))) zDb) (zX (zFb 3 (zx zGq (zh (zD gIx (zm 1) (fC (.int 0))) zI))) (zX (z1j (zRi (zm 2)) (gN 4) zvd) (zX (z1j (zWh (zh (zx z8i (zh (zm 3) zI)) zI)) (gN 5) zwd) (zYb (zx zkb (zh (zx zne (zNc "Shelf" "left" (zm 0) zI)) (zh (zm 3) zI))))))))
def zuc:FF:=λds O=>zGb (zid (zS zTg ds) O)
def zmg:FS:=(zX (sIf (zkj (zMi (zM (zx (zzp .tup) (zh (zm 7) (zh (fC (.ty "tuple")) zI))))) (zkj (zM (zD gNe (zx z8i (zh (zm 7) zI)) (fC (.int 2)))) (zkj (zM (zx (zzp .bl) (zh (zD gIx (zm 7) (fC (.int 1))) (zh (fC (.ty "bool")) zI)))) (zM (zD gIn (zD gIx (zm 7) (fC (.int 0))) (zm 5)))))) (zYb (fC .non)) zDb) (zX (zPm (zm 7) (gT 2 (zmb (gN 8) (zmb (gN 9) zqf)))) (zX (sIf (zkj (zM (zD z9g (zm 9) (zx zSb (zh (zm 0) (zh (zm 8) zI))))) (zkj (zM (zD gNe (z4i z3m (zm 1) (zh (zm 8) zI)) (zm 6))) (zM (zD gEq (z4i z3m (zm 1) (zh (zm 8) zI)) (zm 9))))) (zYb (fC .non)) zDb) (zX (zhj (zji zfg (zm 5) (zh (zm 8) zI))) (zX (zPm (zm 9) (zRw (zm 4) (zm 8))) (zFb 6 (zm 9)))))))
def zii:Qx:=["_law_rule_here","_law_lying_there","_law_key_here","_law_row","_law_found","_law_keys","_law_last","_law_step","_law_one","_law_nest"]
def zGd:FS:=(zX (zFb 4 (zx zeo (zh (zm 1) zI))) (zX (sIf (zkj (zMi (zM (zx (zzp .lst) (zh (zm 3) (zh (fC (.ty "list")) zI))))) (zM (zD gEq (zm 3) (zpk zI)))) (zYb (fC .non)) zDb) (zX (zFb 5 (zpk zI)) (zX (zFb 6 (fC .non)) (zX (z1j (zZf (zm 3)) (gN 7) zmg) (zX (sIf (zkj (zM (zD gNe (zD gIx (zm 5) (fC (.int 0))) (zm 2))) (zM (zD (zBl λi j=>decide (i<j)) (zjm 1 (zx zqb (zh (zm 0) (zh (zm 1) (zh (zm 6) zI))))) (fC (.int 1))))) (zYb (fC .non)) zDb) (zYb (zm 4))))))))
def zQc:FF:=λds O=>zGb (zGd (zS zii ds) O)
def zNo:FE:=(zYj (zh (zm 0) (zh (zx zlc (zNc "Shelf" "where" (zm 1) (zh (zm 0) zI))) zI)))
def zyo:FS:=(zX (zFb 6 (zm 2)) (zX (sIf (zM (zD gEq (zx zJ (zh (zm 1) (zh (fC (.int 6)) zI))) (fC (.int 4)))) (zFb 6 (zx z4d (zh (zm 1) zI))) zDb) (zX (sIf (z6l (zM (zD gNe (zm 6) (zm 2))) (zM (zx zrc (zh (zm 3) (zh (zm 6) zI))))) (zX (zFb 2 (zm 6)) (zFb 4 (zx zUl (zh (fLC 1 [3] (zRi (zm 4)) (gN 0) z3j zNo) zI)))) zDb) (zX (zFb 7 (zx z6e (zh (zm 1) (zh (zx zag (zh (zm 4) zI)) zI)))) (zX (zPm (zx ztc (zh (zm 2) (zh (zm 4) (zh (zm 7) zI)))) (gT 2 (zmb (gN 8) (zmb (gN 9) zqf)))) (zX (zPm (zx zpd (zh (zm 3) (zh (zm 7) zI))) (gT 2 (zmb (gN 10) (zmb (gN 11) zqf)))) (zX (sIf (zM (zD z9k (zm 7) (zm 4))) (sIf (zM (zD gNe (zm 10) (fC (.str "twice")))) (zYb (fC (.bl false))) zDb) (sIf (zM (zD gIs (zm 9) (fC .non))) (sIf (zkj (zM (zD gNe (zm 10) (fC (.str "full")))) (zMi (zM (zx zkb (zh (zm 11) (zh (zm 8) zI)))))) (zYb (fC (.bl false))) zDb) (zX (zFb 12 (zx zQc (zh (zm 2) (zh (zm 4) (zh (zm 7) (zh (zm 11) zI)))))) (zX (sIf (zkj (zM (zD gNe (zm 10) (fC (.str "put")))) (zkj (zM (zD gIs (zm 12) (fC .non))) (zM (zD gNe (zx z8i (zh (zm 11) zI)) (zm 9))))) (zYb (fC (.bl false))) zDb) (zX (zFb 4 (zm 12)) (zhj (zZn zSl (zm 11)))))))) (sIf (zMi (zM (zjm 4 (zx zuc (zh (zm 3) (zh (zm 2) (zh (zm 4) zI))))))) (zYb (fC (.bl false))) zDb))))))))
def ziy:Qx:=["_law_script","_law_pen_here","_law_rule_here","_law_shelf","_law_lying_there","_law_k","_law_other","_law_key_here","_law_reached_here","_law_fewest","_law_word","_law_row","_law_behind_here"]
def zTu:FS:=(zX (zFb 1 (zx zHg (zh (zm 0) zI))) (zX (zFb 2 (zx z4d (zh (zm 1) zI))) (zX (zFb 3 (zSq "Shelf" zZb (zh (zm 2) zI))) (zX (zFb 4 z7x) (zX (z1j (zWh (zh (zx zJ (zh (zm 1) (zh (fC (.int 21)) zI))) zI)) (gN 5) zyo) (zYb (fC (.bl true))))))))
def zHq:FF:=λds O=>zGb (zTu (zS ziy ds) O)
structure Txt(K:yw)(mg:yt->Qi):Prop where
 SC:∃C,Ym K yp "Full"=some (some (.ref C))/\mg "Full"=some (.ref C)/\W.ktsIn K C "BaseException"=true
 x_NestError:∃C,Ym K yp "NestError"=some (some (.ref C))/\mg "NestError"=some (.ref C)/\W.ktsIn K C "BaseException"=true
 Sl:∃C,Ym K yp "Twice"=some (some (.ref C))/\mg "Twice"=some (.ref C)/\W.ktsIn K C "BaseException"=true
 e_Twice:∀C,Ym K yp "Twice"=some (some (.ref C))->W.excIn K C [.type "ValueError",.type "Exception",.type "BaseException",.type "object"] "ValueError.__new__"=true
 SD:∀C,Ym K yp "Full"=some (some (.ref C))->sd K C [("Twice",false),("Full",true)]
 s_Twice:∀C,Ym K yp "Twice"=some (some (.ref C))->sd K C [("Twice",true),("Full",false)]
 tE:zKq K "Shelf" "nest_of"
 tI:zKq K "Shelf" "kept_rule"
 tY:mg "left_layings"=mg "left"
 a_Full:AtC K "Full" "some"
 SE:mg "bool"=none
 SG:mg "dict"=none
 Tb:mg "enumerate"=none
 n_int:mg "int"=none
 Tf:mg "isinstance"=none
 Ti:mg "len"=none
 TL:mg "list"=none
 sg:mg "range"=none
 Sd:mg "reversed"=none
 n_set:mg "set"=none
 Tj:mg "sorted"=none
 n_sum:mg "sum"=none
 si:mg "tuple"=none
 Ss:∃t,mg "DIVISOR"=some (.int 10007 t)
 sV:∃t,mg "MOST_KEYS"=some (.int 30 t)
def zJt:yM "bool"=some (.type "bool"):=by decide +kernel
def zdt:yM "dict"=some (.type "dict"):=by decide +kernel
def zcc:yM "enumerate"=some (.type "enumerate"):=by decide +kernel
def z5x:yM "int"=some (.type "int"):=by decide +kernel
def zkc:yM "isinstance"=some (.builtin "isinstance"):=by decide +kernel
def zpc:yM "len"=some (.builtin "len"):=by decide +kernel
def ztf:yM "list"=some (.type "list"):=by decide +kernel
def zZo:yM "reversed"=some (.type "reversed"):=by decide +kernel
def zsv:yM "set"=some (.type "set"):=by decide +kernel
def zsc:yM "sorted"=some (.builtin "sorted"):=by decide +kernel
def zdz:yM "sum"=some (.builtin "sum"):=by decide +kernel
def zvh:yM "tuple"=some (.type "tuple"):=by decide +kernel
section
variable {P:yy}{w:yI}{K:yw}{mg:yt->Qi}{base:yT}
set_option maxHeartbeats 4000000
variable {f C f0 C0 f1 C1 f2 C2 f3 C3 f4 C4 f5 C5 f6 C6 f7 C7 f8 C8 f9 C9 f10 C10 f11 C11 f12 C12 f13 C13 f14 C14 f15 C15:yf}{fd d0 d1 d2 d3 d4 d5 d6 d7 d8 d9 d10 d11 d12 d13 d14 d15:yV}
abbrev zCc:Yb:=zBw (top 4)
abbrev zzb:Qx:=["self","some"]
def z3n:tq zzb zzb (zp zCc):=by walk_at "s"
def z7m(T:Txt K mg){C NE fI:yf}{fd:yV}(B:Sj K mg "Full" "some" "Full.__init__" zCc zzb C NE fI fd):Te P w K mg base CX0 1 fI fd zzb (spL C "some"):=by
 refine B.fn.ok (k:=0) z3n (λvs H Q E ⟨e,a,ns,h,_⟩=>by rw[h];rfl) (λcdv A outer s H vs Q E hr ⟨e,a,ns,hv,hsm,ha,he,hq⟩=>⟨_,zwp (zSs (z6w B.ex B.ne (zPe (pv 0) (zPe (zjv (pv 1) hr.gd hr.units) zti)))) (zLt (zTs B.ex (pv 0) (z6f zXi rfl T.TL ztf (zPe (pv 1) zti)))),?_⟩);subst hv
 exact⟨_,rfl,_,rfl,a,ns,rfl,ha,hsm,λy=>⟨e,_,rfl,he,_,rfl,a,_,rfl,.inl (SqL.of ha),λl hl=>⟨_,rfl,e,rfl,by rw[zE (zH he hl)];exact he,λp hp hpe=>by
  have kK:p≠l:=λz=>by rw[z,zy]at hp;cases hp
  exact hq l p hl (yR (zH he hl)) (by rwa [zE kK]at hp) hpe kK⟩⟩⟩
abbrev zCg:Yb:=top 36
abbrev z4c:Qx:=["_law_script"]
def zIo:tq zul z4c (zp zCg):=by walk_at "s"
def z2n(T:Txt K mg)(B:FnAt K mg "_law_pen" zCg z4c f fd):OkM P w K mg base 1 f fd z4c 1 zHg:=by
 exact tS B.fn zIo zOg λhr hu=>(zn (zP (zXc (zb (mv 0) (zb (z2z (zYi (zec hu) (zQ z8 T.Ti zpc (zb (mv 0) zf)) zq) (zhz (zYi (zec hu) (zob zud (zT (mv 0) zq) zq) zq))) (zb zq (zb zq zf)))))))
abbrev zIe:Yb:=top 37
abbrev zhc:Qx:=["_law_script","_law_k"]
def Tk:tq z0i zhc (zp zIe):=by walk_at "s"
def zil(T:Txt K mg)(B:FnAt K mg "_law_mixed" zIe zhc f fd):OkM P w K mg base 1 f fd zhc 2 zDe:=by
 exact tS B.fn Tk zye λhr hu=>(zi (zL 2 zq (hN:=Tk.nd)) (zi (zRb (zO zlo (zQ z8 T.Ti zpc (zb (mv 0) zf)) zq) (zn (zL 2 (zT (mv 0) (zob zud (mv 1) (zQ z8 T.Ti zpc (zb (mv 0) zf)))) (hN:=Tk.nd))) zW) (zi (zL 3 (zob zud (zob zPb (zob zie (zob zPb (zob zPb (mv 2) (zob zie zq (mv 1))) zq) zq) (zob zie (mv 1) (mv 1))) zq) (hN:=Tk.nd)) (zi (zL 4 (zob zud (zob zPb (zob zPb (zob zie (mv 3) (mv 3)) (zob zie zq (mv 3))) (zob zie zq (mv 1))) zq) (hN:=Tk.nd)) (zn (zP (zob zud (zob zPb (zob zPb (zob zie (mv 4) (mv 4)) (zob zie zq (mv 4))) (mv 1)) zq)))))))
abbrev z2c:Yb:=top 38
abbrev zyb:Qx:=["_law_pen_here","_law_many"]
def tV:tq zTk zyb (zp z2c):=by walk_at "s"
def zzm(T:Txt K mg)(zHe:FnAt K mg "_law_mixed" zIe zhc f0 d0)(zbf:OkM P w K mg base 1 f0 d0 zhc 2 zDe)(B:FnAt K mg "_law_take" z2c zyb f fd):OkM P w K mg base 2 f fd zyb 2 zJ:=by
 exact tS B.fn tV zJf λhr hu=>(zi (z5e (mv 0) (zNw (zpb (z6 2 (hN:=tV.nd)) (zpb (z6 3 (hN:=tV.nd)) (zpb (z6 4 (hN:=tV.nd)) (zpb (z6 5 (hN:=tV.nd)) zef)))))) (zi (z5e (zob zPb (mv 4) zq) (zhv (mv 0) zq)) (zi (zRb (zBd (mv 3)) (zn (zP (zob zud (tz zHe zbf hr (zb (mv 2) (zb (mv 4) zf))) (mv 1)))) zW) (zi (zRb (zO (zec hu) (zob zud (mv 4) zq) zq) (zi (zL 5 zq (hN:=tV.nd)) (zn (zRb (zO z5i (zob zPb (zob zwo (mv 4) zq) zq) (zQ z8 T.Ti zpc (zb (mv 2) zf))) (zn (zL 5 (zT (mv 2) (zob zPb (zob zwo (mv 4) zq) zq)) (hN:=tV.nd))) zW))) zW) (zi (z5e (zob zwo (mv 5) (mv 1)) (zhv (mv 0) zq)) (zn (zP (zob zud (mv 5) (mv 1)))))))))
abbrev zof:Yb:=top 39
abbrev zKc:Qx:=["_law_pen_here"]
def Tg:tq zhk zKc (zp zof):=by walk_at "s"
def zhm(T:Txt K mg)(zR:FnAt K mg "_law_take" z2c zyb f0 d0)(zN:OkM P w K mg base 2 f0 d0 zyb 2 zJ)(B:FnAt K mg "_law_rule" zof zKc f fd):OkM P w K mg base 3 f fd zKc 1 z4d:=by
 exact tS B.fn Tg zIf λhr hu=>(zi (zL 1 (zob zPb zq (tz zR zN hr (zb (mv 0) (zb zq zf)))) (hN:=Tg.nd)) (zi (zRb (zO (zec hu) (tz zR zN hr (zb (mv 0) (zb zq zf))) zq) (zn (zL 1 (zob zPb zq (tz zR zN hr (zb (mv 0) (zb zq zf)))) (hN:=Tg.nd))) zW) (zi (zL 2 (zT (zXc (zb zq (zb zq (zb zq (zb zq zf))))) (tz zR zN hr (zb (mv 0) (zb zq zf)))) (hN:=Tg.nd)) (zi (zL 3 (zfd zif T.si zvh (zb (TF ["_law_nest"] [0,2] (zyj T.sg (zb (mv 1) zf)) (zab 0 (hN:=z9 (by rfl))) zRf (tz zR zN hr (zb (mv 1) (zb (mv 2) zf))) (zbb ⟨_,rfl,rfl⟩ (zbb ⟨_,rfl,rfl⟩ zoc))) zf)) (hN:=Tg.nd)) (zi (zL 4 (zT (zXc (zb zq (zb zq (zb zq zf)))) (tz zR zN hr (zb (mv 0) (zb zq zf)))) (hN:=Tg.nd)) (zn (zP (zOc (zb (mv 3) (zb (zfd zif T.si zvh (zb (TF ["_law_k"] [0,4] (zyj T.sg (zb (zob zPb zq (tz zR zN hr (zb (mv 0) (zb zq zf)))) zf)) (zab 0 (hN:=z9 (by rfl))) zRf (zOc (zb (tz zR zN hr (zb (mv 1) (zb (mv 2) zf))) (zb (tz zR zN hr (zb (mv 1) (zb (mv 2) zf))) zf))) (zbb ⟨_,rfl,rfl⟩ (zbb ⟨_,rfl,rfl⟩ zoc))) zf)) zf))))))))))
abbrev z0b:Yb:=zJe (top 34) 0
abbrev zgb:Qx:=["self","rule"]
def zyi:tq zOf zgb (zp z0b):=by walk_at "s"
def zoh(T:Txt K mg)(B:sO K mg "Shelf" z0b zgb C f fd):OkM P w K mg base 1 f fd zgb 2 zZb:=by
 exact tS B.fn zyi zwc λhr hu=>(zi (zks T.tI (mv 0) (mv 1)) (zn (zks T.tE (mv 0) zqs)))
abbrev zrg:Yb:=top 41
abbrev z3c:Qx:=["_law_pen_here","_law_keys"]
def su:tq zIl z3c (zp zrg):=by walk_at "s"
def zyn(T:Txt K mg)(zR:FnAt K mg "_law_take" z2c zyb f0 d0)(zN:OkM P w K mg base 2 f0 d0 zyb 2 zJ)(B:FnAt K mg "_law_key" zrg z3c f fd):OkM P w K mg base 3 f fd z3c 2 z6e:=by
 exact tS B.fn su zAg λhr hu=>(zi (zL 2 (tz zR zN hr (zb (mv 0) (zb zq zf))) (hN:=su.nd)) (zi (zRb (MW.mt (zzl (zO z5i (mv 2) zq) (zIi (zO (zZd hu) (mv 1) (zXc zf))))) (zn (zP (zT (mv 1) (tz zR zN hr (zb (mv 0) (zb (zQ z8 T.Ti zpc (zb (mv 1) zf)) zf)))))) zW) (zi (zRb (zO (zec hu) (mv 2) zq) (zn (zP (tz zR zN hr (zb (mv 0) (zb (zob zew zq zq) zf))))) zW) (zn (zP (tz zR zN hr (zb (mv 0) (zb zq zf))))))))
abbrev zEc:Yb:=top 40
abbrev zib:Qx:=["_law_rule_here","_law_key_here"]
def Tr:tq zaj zib (zp zEc):=by walk_at "s"
def zdl(T:Txt K mg)(B:FnAt K mg "_law_homes" zEc zib f fd):OkM P w K mg base 1 f fd zib 2 zSb:=by
 exact tS B.fn Tr zqe λhr hu=>(zi (zL 2 (zXc zf) (hN:=Tr.nd)) (zi (zWc (z9b (zT (mv 0) zq)) (z1i (zpb (z6 3 (hN:=Tr.nd)) (zpb (z6 4 (hN:=Tr.nd)) zef))) (zn (zig (zui (mv 2) (zb (zob zud (zob zud (zob zPb (zob zie (mv 3) (mv 1)) (mv 4)) zq) (zQ z8 T.Ti zpc (zb (zT (mv 0) zq) zf))) zf))))) (zn (zP (mv 2)))))
abbrev z1b:Yb:=top 44
abbrev zcb:Qx:=["_law_rule_here","_law_lying_there","_law_nest"]
def zxi:tq zVf zcb (zp z1b):=by walk_at "s"
def zri(T:Txt K mg)(B:FnAt K mg "_law_room_left" z1b zcb f fd):OkM P w K mg base 1 f fd zcb 3 zqb:=by
 exact tS B.fn zxi zAc λhr hu=>(zn (zP (zob zBk (zT (zT (mv 0) zq) (mv 2)) (zQ z8 T.Ti zpc (zb (TF ["_law_key_here"] [1,2] (zWk (mv 1)) (zab 0 (hN:=z9 (by rfl))) (zUg (zO (zec hu) (zdj (mv 1) (mv 0)) (mv 2))) (mv 0) (zbb ⟨_,rfl,rfl⟩ (zbb ⟨_,rfl,rfl⟩ zoc))) zf)))))
abbrev z8c:Yb:=top 45
abbrev zMb:Qx:=["_law_rule_here","_law_lying_there","_law_key_here"]
def tD:tq z1g zMb (zp z8c):=by walk_at "s"
def zij(T:Txt K mg)(zxb:FnAt K mg "_law_homes" zEc zib f0 d0)(zvb:OkM P w K mg base 1 f0 d0 zib 2 zSb)(zrb:FnAt K mg "_law_room_left" z1b zcb f1 d1)(zCb:OkM P w K mg base 1 f1 d1 zcb 3 zqb)(B:FnAt K mg "_law_reached" z8c zMb f fd):OkM P w K mg base 2 f fd zMb 3 ztc:=by
 exact tS B.fn tD zcd λhr hu=>(zi (zL 3 (zXc (zb (mv 2) zf)) (hN:=tD.nd)) (zi (zL 4 (zXc (zb (mv 2) zf)) (hN:=tD.nd)) (zi (zL 5 zGc (hN:=tD.nd)) (zi (zL 6 zq (hN:=tD.nd)) (zi (zwj 100000 (MW.mt (zzl (zO (zZd hu) (mv 4) (zXc zf)) (zIi (zO zXr (mv 5) zGc)))) (zi (zL 6 (zob zPb (mv 6) zq) (hN:=tD.nd)) (zi (zL 7 (zXc zf) (hN:=tD.nd)) (zi (zWc (z9b (mv 4)) (z6 8 (hN:=tD.nd)) (zn (zL 7 (zob zPb (mv 7) (TF ["_law_nest"] [1,8] (z9b (tz zxb zvb hr (zb (mv 0) (zb (mv 8) zf)))) (zab 0 (hN:=z9 (by rfl))) (zUg (zO (zZd hu) (mv 0) (z3l (mv 1) (zb (mv 2) zf)))) (mv 0) (zbb ⟨_,rfl,rfl⟩ (zbb ⟨_,rfl,rfl⟩ zoc)))) (hN:=tD.nd)))) (zi (zRb (zO zlo (zQ z8 T.Ti zpc (zb (TF ["_law_nest"] [0,1] (z9b (mv 7)) (zab 0 (hN:=z9 (by rfl))) (zUg (zO zlo (zdp 2 (tz zrb zCb hr (zb (mv 1) (zb (mv 2) (zb (mv 0) zf))))) zq)) (mv 0) (zbb ⟨_,rfl,rfl⟩ (zbb ⟨_,rfl,rfl⟩ zoc))) zf)) zq) (zn (zL 5 (mv 6) (hN:=tD.nd))) zW) (zi (mslcI 4 ["_law_one"] [1,7,3] (z9b (zQ (zLf rfl) T.Tj zsc (zb (mv 1) zf))) (zab 0 (hN:=z9 (by rfl))) (zUg (MW.mt (zzl (zO zGv (zdj (mv 1) (mv 0)) (mv 2)) (zIi (zO zXe (mv 0) (mv 3)))))) (mv 0) (zbb ⟨_,rfl,rfl⟩ (zbb ⟨_,rfl,rfl⟩ (zbb ⟨_,rfl,rfl⟩ zoc))) tD.nd) (zn (zL 3 (zob zPb (mv 3) (mv 4)) (hN:=tD.nd))))))))) (zn (zP (zOc (zb (zQ (zlf rfl) T.Tj zsc (zb (mv 3) zf)) (zb (mv 5) zf))))))))))
abbrev zYc:Yb:=zJe (top 34) 3
abbrev zHb:Qx:=["self","key"]
def zon:tq zrk zHb (zp zYc):=by walk_at "s"
def zEm(T:Txt K mg)(B:MethAt K "Shelf" "has" "Shelf.has" zYc zHb C f fd):OkM P w K mg base 1 f fd zHb 2 z0c:=by
 exact tS B.fn zon z9e λhr hu=>(zn (zP (zYi z4m (mv 1) (zVg T.tE (mv 0)))))
abbrev zlm:Yb:=top 10
abbrev zLg:Qx:=["laying","nest"]
def zGu:tq zmt zLg (zp zlm):=by walk_at "s"
def zEt(T:Txt K mg)(B:FnAt K mg "lying" zlm zLg f fd):OkM P w K mg base 1 f fd zLg 2 zfm:=by
 exact tS B.fn zGu zDm λhr hu=>(zn (zP (TF ["key","place"] [1] (zih T.Tb zcc (mv 0)) (zGo (zUe (zab 0 (hN:=z9 (by rfl))) (zUe (zab 1 (hN:=z9 (by rfl))) zFm))) (zUg (zO (zec hu) (mv 1) (mv 2))) (mv 0) (zbb ⟨_,rfl,rfl⟩ zoc))))
abbrev zDf:Yb:=top 15
abbrev zMc:Qx:=["web","laying","key"]
def tO:tq z2j zMc (zp zDf):=by walk_at "s"
def zTm(T:Txt K mg)(zBm:FnAt K mg "lying" zlm zLg f0 d0)(zLm:OkM P w K mg base 1 f0 d0 zLg 2 zfm)(B:FnAt K mg "pushes_to" zDf zMc f fd):OkM P w K mg base 2 f fd zMc 3 zvf:=by
 exact tS B.fn tO zMf λhr hu=>(zi (zL 3 zqs (hN:=tO.nd)) (zi (zWc (z9b (zT (zT (mv 0) zq) (mv 2))) (z6 4 (hN:=tO.nd)) (zn (z5e (zOc (zb (mv 2) (zb zGc zf))) (z4n (mv 3) (mv 4))))) (zi (zL 5 (zfd (zfp rfl) T.TL ztf (zb (mv 3) zf)) (hN:=tO.nd)) (zi (zL 6 zq (hN:=tO.nd)) (zi (zwj 100000 (zO z5i (mv 6) (zQ z8 T.Ti zpc (zb (mv 5) zf))) (zi (zWc (z9b (tz zBm zLm hr (zb (mv 1) (zb (zT (mv 5) (mv 6)) zf)))) (z6 7 (hN:=tO.nd)) (zn (zWc (z9b (zT (zT (mv 0) zq) (mv 7))) (z6 4 (hN:=tO.nd)) (zn (zRb (zO z5q (mv 4) (mv 3)) (zi (z5e (zOc (zb (mv 7) (zb (zT (mv 5) (mv 6)) zf))) (z4n (mv 3) (mv 4))) (zn (zig (zui (mv 5) (zb (mv 4) zf))))) zW))))) (zn (zby 6 zhw zq (hN:=tO.nd))))) (zn (zP (mv 3))))))))
abbrev zAl:Yb:=top 7
abbrev zKe:Qx:=["web","laying"]
def z2v:tq zKv zKe (zp zAl):=by walk_at "s"
def z8t(T:Txt K mg)(B:FnAt K mg "left" zAl zKe f fd):OkM P w K mg base 1 f fd zKe 2 zJh:=by
 exact tS B.fn z2v zMl λhr hu=>(zn (zP (TF ["nest","room"] [1] (zih T.Tb zcc (zT (mv 0) zq)) (zGo (zUe (zab 0 (hN:=z9 (by rfl))) (zUe (zab 1 (hN:=z9 (by rfl))) zFm))) zRf (zob zBk (mv 1) (z9u (mv 2) (zb (mv 0) zf))) (zbb ⟨_,rfl,rfl⟩ zoc))))
abbrev zqj:Yb:=top 16
abbrev z4e:Qx:=["pushes","nest"]
def ss:tq z6p z4e (zp zqj):=by walk_at "s"
def zjr(T:Txt K mg)(B:FnAt K mg "row_to" zqj z4e f fd):OkM P w K mg base 1 f fd z4e 2 zKj:=by
 exact tS B.fn ss zFj λhr hu=>(zi (zL 2 (zXc zf) (hN:=ss.nd)) (zi (zwj 100000 (zO z7f (mv 1) zGc) (zi (zig (zui (mv 2) (zb (zOc (zb (zT (zdj (mv 0) (mv 1)) zq) (zb (mv 1) zf))) zf))) (zn (zL 1 (zT (zdj (mv 0) (mv 1)) zq) (hN:=ss.nd))))) (zn (zP (zZv T.TL ztf T.Sd zZo (mv 2))))))
abbrev zZh:Yb:=top 17
abbrev zmd:Qx:=["web","laying","key"]
def TW:tq zWp zmd (zp zZh):=by walk_at "s"
def zzq(T:Txt K mg)(zGf:FnAt K mg "pushes_to" zDf zMc f0 d0)(zeg:OkM P w K mg base 2 f0 d0 zMc 3 zvf)(Tp:FnAt K mg "left" zAl zKe f1 d1)(zyf:OkM P w K mg base 1 f1 d1 zKe 2 zJh)(zCj:FnAt K mg "row_to" zqj z4e f2 d2)(zgk:OkM P w K mg base 1 f2 d2 z4e 2 zKj)(B:FnAt K mg "put_in" zZh zmd f fd):OkM P w K mg base 3 f fd zmd 3 zgf:=by
 exact tS B.fn TW zIj λhr hu=>(zi (zL 3 (tz zGf zeg hr (zb (mv 0) (zb (mv 1) (zb (mv 2) zf)))) (hN:=TW.nd)) (zi (zL 4 (Sc (Tp.al T.tY) Tp zyf hr (zb (mv 0) (zb (mv 1) zf))) (hN:=TW.nd)) (zi (zWc (zWk (mv 3)) (z6 5 (hN:=TW.nd)) (zn (zRb (zO zlo (zT (mv 4) (mv 5)) zq) (zn (zP (zOc (zb zCd (zb (tz zCj zgk hr (zb (mv 3) (zb (mv 5) zf))) zf))))) zW))) (zn (zP (zOc (zb zCd (zb (TF ["other","nest"] [2,3] (zih T.Tb zcc (mv 1)) (zGo (zUe (zab 0 (hN:=z9 (by rfl))) (zUe (zab 1 (hN:=z9 (by rfl))) zFm))) (zUg (MW.mt (z1e (zO (zec hu) (mv 0) (mv 2)) (zce (zO z4m (mv 1) (mv 3)))))) (mv 0) (zbb ⟨_,rfl,rfl⟩ (zbb ⟨_,rfl,rfl⟩ zoc))) zf))))))))
abbrev zU:Yb:=zJe (top 34) 5
abbrev zC:Qx:=["self"]
def zph:tq zYe zC (zp zU):=by walk_at "s"
def zgh(T:Txt K mg)(B:MethAt K "Shelf" "all_there" "Shelf.all_there" zU zC C f fd):OkM P w K mg base 1 f fd zC 1 zK:=by
 exact tS B.fn zph zgc λhr hu=>(zn (zP (zQ (zLf rfl) T.Tj zsc (zb (zVg T.tE (mv 0)) zf))))
abbrev zsm:Yb:=top 22
abbrev zqg:Qx:=["rule","key"]
def sW:tq z9r zqg (zp zsm):=by walk_at "s"
def zpr(T:Txt K mg)(B:FnAt K mg "homes" zsm zqg f fd):OkM P w K mg base 1 f fd zqg 2 z8l:=by
 exact tS B.fn sW zSm λhr hu=>(zi (zL 2 (zQ z8 T.Ti zpc (zb (zT (mv 0) zq) zf)) (hN:=sW.nd)) (zn (zP (zfd zif T.si zvh (zb (TF ["way"] [1,2] (z9b (zT (mv 0) zq)) (zab 0 (hN:=z9 (by rfl))) zRf (zob zud (zob zud (zob zPb (zob zie (zT (mv 0) zq) (mv 1)) (zT (mv 0) zq)) (z8s T.Ss)) (mv 2)) (zbb ⟨_,rfl,rfl⟩ (zbb ⟨_,rfl,rfl⟩ zoc))) zf)))))
abbrev zPg:Yb:=top 25
abbrev zqc:Qx:=["rule","keys"]
def z7r:tq zLp zqc (zp zPg):=by walk_at "s"
def zVq(T:Txt K mg)(z9m:FnAt K mg "homes" zsm zqg f0 d0)(zIm:OkM P w K mg base 1 f0 d0 zqg 2 z8l)(B:FnAt K mg "web_of" zPg zqc f fd):OkM P w K mg base 2 f fd zqc 2 zDd:=by
 exact tS B.fn z7r zoj λhr hu=>(zn (zP (zOc (zb (zT (mv 0) zq) (zb (zfd zif T.si zvh (zb (TF ["key"] [0] (z9b (mv 1)) (zab 0 (hN:=z9 (by rfl))) zRf (tz z9m zIm hr (zb (mv 1) (zb (mv 0) zf))) (zbb ⟨_,rfl,rfl⟩ zoc)) zf)) zf)))))
abbrev z3b:Yb:=zJe (top 34) 7
abbrev zeb:Qx:=["self"]
def zck:tq zYg zeb (zp z3b):=by walk_at "s"
def zmj(T:Txt K mg)(zA:MethAt K "Shelf" "all_there" "Shelf.all_there" zU zC C0 f0 d0)(zz:OkM P w K mg base 1 f0 d0 zC 1 zK)(B:MethAt K "Shelf" "laying" "Shelf.laying" z3b zeb C f fd):OkM P w K mg base 2 f fd zeb 1 zKb:=by
 exact tS B.fn zck zbd λhr hu=>(zn (zP (TF ["key"] [0] (z9b (TB zA zz hr (mv 0))) (zab 0 (hN:=z9 (by rfl))) zRf (zdj (zVg T.tE (mv 1)) (mv 0)) (zbb ⟨_,rfl,rfl⟩ zoc))))
abbrev zbe:Yb:=zJe (top 34) 1
abbrev zac:Qx:=["self","key"]
def Tl:tq zlk zac (zp zbe):=by walk_at "s"
def z2l(T:Txt K mg)(zDc:MethAt K "Shelf" "has" "Shelf.has" zYc zHb C0 f0 d0)(zJc:OkM P w K mg base 1 f0 d0 zHb 2 z0c)(zuf:FnAt K mg "put_in" zZh zmd f1 d1)(zZe:OkM P w K mg base 3 f1 d1 zmd 3 zgf)(zA:MethAt K "Shelf" "all_there" "Shelf.all_there" zU zC C2 f2 d2)(zz:OkM P w K mg base 1 f2 d2 zC 1 zK)(zed:FnAt K mg "web_of" zPg zqc f3 d3)(zSc:OkM P w K mg base 2 f3 d3 zqc 2 zDd)(zIb:MethAt K "Shelf" "laying" "Shelf.laying" z3b zeb C4 f4 d4)(zQb:OkM P w K mg base 2 f4 d4 zeb 1 zKb){zmi zUo z6j:yf}{Tm:yV}(tH:Sj K mg "Full" "some" "Full.__init__" zCc zzb zmi zUo z6j Tm)(tW:Te P w K mg base CX0 1 z6j Tm zzb (spL zmi "some"))(B:MethAt K "Shelf" "put" "Shelf.put" zbe zac C f fd):OkX P w K mg base 4 f fd zac 2 z9d:=by
 obtain⟨zAo,n_Twice,m_Twice,k_Twice⟩:=T.Sl;exact fnYi B.fn Tl zdf λhr hu=>(zi (zRb (zBd (sU zDc zJc hr (mv 0) (zb (mv 1) zf))) (zn (zLu n_Twice (T.e_Twice zAo n_Twice) Xv (zb zCd zf))) zW) (zi (zL 2 (zob zPb (TB zA zz hr (mv 0)) (zXc (zb (mv 1) zf))) (hN:=Tl.nd)) (zi (zRb (zO zlo (zQ z8 T.Ti zpc (zb (mv 2) zf)) (z8s T.sV)) (zn (zRj tH.nm tH.ex tW tH.bd hr (zb (zQ (zlf rfl) T.Tj zsc (zb (mv 2) zf)) zf))) zW) (zi (zL 3 (tz zuf zZe hr (zb (tz zed zSc hr (zb (zVg T.tI (mv 0)) (zb (mv 2) zf))) (zb (zob zPb (TB zIb zQb hr (mv 0)) (zXc (zb zGc zf))) (zb (zob zBk (zQ z8 T.Ti zpc (zb (mv 2) zf)) zq) zf)))) (hN:=Tl.nd)) (zi (zRb (zO (zec hu) (zT (mv 3) zq) zCd) (zn (zRj tH.nm tH.ex tW tH.bd hr (zb (zQ (zlf rfl) T.Tj zsc (zb (TF ["place"] [2] (z9b (zT (mv 3) zq)) (zab 0 (hN:=z9 (by rfl))) zRf (zT (mv 1) (mv 0)) (zbb ⟨_,rfl,rfl⟩ zoc)) zf)) zf))) zW) (zi (mslcI 4 ["push"] [2] (z9b (zT (mv 3) zq)) (zab 0 (hN:=z9 (by rfl))) zRf (zOc (zb (zT (mv 1) (zT (mv 0) zq)) (zb (zT (mv 0) zq) zf))) (zbb ⟨_,rfl,rfl⟩ zoc) Tl.nd) (zi (zWc (z9b (mv 4)) (z6 5 (hN:=Tl.nd)) (zn (z5e (zT (mv 5) zq) (z4n (zVg T.tE (mv 0)) (zT (mv 5) zq))))) (zn (zP (mv 4))))))))))
abbrev zAe:Yb:=top 47
abbrev zic:Qx:=["_law_shelf","_law_key_here"]
def tZ:tq zUi zic (zp zAe):=by walk_at "s"
def z6k(T:Txt K mg)(zkf:MethAt K "Shelf" "put" "Shelf.put" zbe zac C0 f0 d0)(zcg:OkX P w K mg base 4 f0 d0 zac 2 z9d)(B:FnAt K mg "_law_heard" zAe zic f fd):OkM P w K mg base 5 f fd zic 2 zpd:=by
 obtain⟨zmi,n_Full,m_Full,k_Full⟩:=T.SC;obtain⟨zAo,n_Twice,m_Twice,k_Twice⟩:=T.Sl;exact tS B.fn tZ zFe λhr hu=>(zi (zL 2 (zOc (zb zCd (zb zGc zf))) (hN:=tZ.nd)) (zi (zwv (zRv (zAu 2 zkf zcg hr (mv 0) (zb (mv 1) zf) (hN:=tZ.nd))) (zKs [("Twice",true),("Full",false)] n_Twice k_Twice (T.s_Twice zAo n_Twice) (λ_=>(zn (zL 2 (zOc (zb zCd (zb zGc zf))) (hN:=tZ.nd)))) (znA 3 [("Twice",false),("Full",true)] n_Full k_Full (T.SD zmi n_Full) (λ_=>(zn (zL 2 (zOc (zb zCd (zb (zRz T.a_Full (mv 3)) zf))) (hN:=tZ.nd)))) zzs (hN:=tZ.nd)))) (zn (zP (mv 2)))))
abbrev zQm:Yb:=top 9
abbrev zug:Qx:=["web","laying"]
def TU:tq zWs zug (zp zQm):=by walk_at "s"
def zus(T:Txt K mg)(Tp:FnAt K mg "left" zAl zKe f0 d0)(zyf:OkM P w K mg base 1 f0 d0 zKe 2 zJh)(B:FnAt K mg "fault" zQm zug f fd):OkM P w K mg base 2 f fd zug 2 zbm:=by
 exact tS B.fn TU zAm λhr hu=>(zi (zWc (zih T.Tb zcc (mv 1)) (z1i (zpb (z6 2 (hN:=TU.nd)) (zpb (z6 3 (hN:=TU.nd)) zef))) (zn (zRb (MW.mt (zzl (zO z7f (mv 3) zGc) (zIi (zO zXe (mv 3) (zT (zT (mv 0) zq) (mv 2)))))) (zn (zP (zOc (zb zCd (zb (mv 2) zf))))) zW))) (zi (zWc (zih T.Tb zcc (Sc (Tp.al T.tY) Tp zyf hr (zb (mv 0) (zb (mv 1) zf)))) (z1i (zpb (z6 3 (hN:=TU.nd)) (zpb (z6 4 (hN:=TU.nd)) zef))) (zn (zRb (zO z5i (mv 4) zq) (zn (zP (zOc (zb zCd (zb (mv 3) zf))))) zW))) (zn (zP zGc))))
abbrev zMh:Yb:=top 12
abbrev zYd:Qx:=["web","laying","row","at"]
def sD:tq zno zYd (zp zMh):=by walk_at "s"
def zcp(T:Txt K mg)(B:FnAt K mg "is_push" zMh zYd f fd):OkM P w K mg base 1 f fd zYd 4 z2h:=by
 exact tS B.fn sD z9h λhr hu=>(zi (zL 4 (zT (zT (mv 2) (mv 3)) zq) (hN:=sD.nd)) (zi (zRb (MW.mt (z1e (zO z5i (mv 4) zq) (zce (zO zdy (mv 4) (zQ z8 T.Ti zpc (zb (mv 1) zf)))))) (zn (zP zni)) zW) (zi (zRb (MW.mt (z1e (zO zXe (zT (zT (mv 2) (mv 3)) zq) (zT (zT (mv 0) zq) (mv 4))) (zce (zO (zec hu) (zT (zT (mv 2) (mv 3)) zq) (zT (mv 1) (mv 4)))))) (zn (zP zni)) zW) (zn (zP (zYi zXe (mv 4) (TF ["push"] [] (z9b (zZz (mv 2) zLz (z0x (mv 3)))) (zab 0 (hN:=z9 (by rfl))) zRf (zT (mv 0) zq) zoc)))))))
abbrev zCh:Yb:=top 13
abbrev zVd:Qx:=["laying","key","row","at"]
def zlq:tq zCn zVd (zp zCh):=by walk_at "s"
def zap(T:Txt K mg)(B:FnAt K mg "follows" zCh zVd f fd):OkM P w K mg base 1 f fd zVd 4 zki:=by
 exact tS B.fn zlq z7h λhr hu=>(zi (zRb (zO (zec hu) (mv 3) zq) (zn (zP (zYi (zec hu) (zT (zT (mv 2) zq) zq) (mv 1)))) zW) (zn (zP (zYi (zec hu) (zT (mv 0) (zT (zT (mv 2) (mv 3)) zq)) (zT (zT (mv 2) (zob zBk (mv 3) zq)) zq)))))
abbrev zzj:Yb:=top 14
abbrev zVe:Qx:=["web","laying","key","row"]
def TX:tq ziq zVe (zp zzj):=by walk_at "s"
def zkq(T:Txt K mg)(zUm:FnAt K mg "fault" zQm zug f0 d0)(zWm:OkM P w K mg base 2 f0 d0 zug 2 zbm)(zfi:FnAt K mg "is_push" zMh zYd f1 d1)(zLi:OkM P w K mg base 1 f1 d1 zYd 4 z2h)(zsi:FnAt K mg "follows" zCh zVd f2 d2)(zHi:OkM P w K mg base 1 f2 d2 zVd 4 zki)(B:FnAt K mg "pushed" zzj zVe f fd):OkM P w K mg base 3 f fd zVe 4 zLj:=by
 exact tS B.fn TX zuj λhr hu=>(zi (zL 4 (zfd zFi T.TL ztf (zb (mv 1) zf)) (hN:=TX.nd)) (zi (zWc (zih T.Tb zcc (mv 3)) (z1i (zpb (z6 5 (hN:=TX.nd)) (zpb (z6 6 (hN:=TX.nd)) zef))) (zi (zRb (zTh (MW.mt (zzl (zBd (tz zfi zLi hr (zb (mv 0) (zb (mv 1) (zb (mv 3) (zb (mv 5) zf)))))) (zIi (zBd (tz zsi zHi hr (zb (mv 1) (zb (mv 2) (zb (mv 3) (zb (mv 5) zf)))))))))) (zn zTp) zW) (zn (z5e (zT (mv 6) zq) (zhv (mv 4) (zT (mv 6) zq)))))) (zi (zRb (MW.mt (z1e (zO (zec hu) (zQ z8 T.Ti zpc (zb (mv 3) zf)) zq) (zce (zO z7f (tz zUm zWm hr (zb (mv 0) (zb (mv 4) zf))) zGc)))) (zn zTp) zW) (zn (zP (mv 4))))))
abbrev zNf:Yb:=top 18
abbrev zFc:Qx:=["web","laying","keys"]
def Tn:tq zUk zFc (zp zNf):=by walk_at "s"
def zmm(T:Txt K mg)(zuf:FnAt K mg "put_in" zZh zmd f0 d0)(zZe:OkM P w K mg base 3 f0 d0 zmd 3 zgf)(zpj:FnAt K mg "pushed" zzj zVe f1 d1)(zFk:OkM P w K mg base 3 f1 d1 zVe 4 zLj)(B:FnAt K mg "laid_more" zNf zFc f fd):OkM P w K mg base 4 f fd zFc 3 zcf:=by
 exact tS B.fn Tn zCf λhr hu=>(zi (zL 3 (zXc zf) (hN:=Tn.nd)) (zi (zWc (z9b (mv 2)) (z6 4 (hN:=Tn.nd)) (zi (zL 5 (tz zuf zZe hr (zb (mv 0) (zb (mv 1) (zb (mv 4) zf)))) (hN:=Tn.nd)) (zn (zRb (zO (zec hu) (zT (mv 5) zq) zCd) (zn (zL 1 (tz zpj zFk hr (zb (mv 0) (zb (mv 1) (zb (mv 4) (zb (zT (mv 5) zq) zf))))) (hN:=Tn.nd))) (zn (zig (zEn (mv 3) (zb (zT (mv 5) zq) zf)))))))) (zn (zP (zOc (zb (mv 1) (zb (zMs T.Tj zsc T.n_set zsv (mv 3)) zf)))))))
abbrev zOd:Yb:=top 19
abbrev z4b:Qx:=["web"]
def z3k:tq z1h z4b (zp zOd):=by walk_at "s"
def z0j(T:Txt K mg)(zwf:FnAt K mg "laid_more" zNf zFc f0 d0)(z4f:OkM P w K mg base 4 f0 d0 zFc 3 zcf)(B:FnAt K mg "laid_at_all" zOd z4b f fd):OkM P w K mg base 5 f fd z4b 1 zMd:=by
 exact tS B.fn z3k zJd λhr hu=>(zn (zP (tz zwf z4f hr (zb (mv 0) (zb (zob zie (zXc (zb zGc zf)) (zQ z8 T.Ti zpc (zb (zT (mv 0) zq) zf))) (zb (zyt T.TL ztf T.sg (zQ z8 T.Ti zpc (zb (zT (mv 0) zq) zf))) zf))))))
abbrev zqi:Yb:=top 27
abbrev zWd:Qx:=["web","nests"]
def zIq:tq zQn zWd (zp zqi):=by walk_at "s"
def zso(T:Txt K mg)(B:FnAt K mg "room_of" zqi zWd f fd):OkM P w K mg base 1 f fd zWd 2 zEh:=by
 exact tS B.fn zIq zdi λhr hu=>(zn (zP (zQ (zCr rfl) T.n_sum zdz (zb (TF ["nest"] [0] (z9b (mv 1)) (zab 0 (hN:=z9 (by rfl))) zRf (zT (zT (mv 1) zq) (mv 0)) (zbb ⟨_,rfl,rfl⟩ zoc)) zf))))
abbrev zzg:Yb:=top 26
abbrev z5c:Qx:=["web","some"]
def TV:tq znl z5c (zp zzg):=by walk_at "s"
def ztn(T:Txt K mg)(B:FnAt K mg "homes_of" zzg z5c f fd):OkM P w K mg base 1 f fd z5c 2 zyg:=by
 exact tS B.fn TV zGg λhr hu=>(zi (zL 2 (zXc zf) (hN:=TV.nd)) (zi (zWc (z9b (mv 1)) (z6 3 (hN:=TV.nd)) (zn (zig (zEn (mv 2) (zb (zT (zT (mv 0) zq) (mv 3)) zf))))) (zn (zP (zMs T.Tj zsc T.n_set zsv (mv 2))))))
abbrev zNg:Yb:=top 29
abbrev z6c:Qx:=["web","some"]
def zvo:tq zJl z6c (zp zNg):=by walk_at "s"
def z0n(T:Txt K mg)(zwh:FnAt K mg "room_of" zqi zWd f0 d0)(zGi:OkM P w K mg base 1 f0 d0 zWd 2 zEh)(zBg:FnAt K mg "homes_of" zzg z5c f1 d1)(zlh:OkM P w K mg base 1 f1 d1 z5c 2 zyg)(B:FnAt K mg "is_crowd" zNg z6c f fd):OkM P w K mg base 2 f fd z6c 2 zDg:=by
 exact tS B.fn zvo zFg λhr hu=>(zn (zP (zYi z5i (tz zwh zGi hr (zb (mv 0) (zb (tz zBg zlh hr (zb (mv 0) (zb (mv 1) zf))) zf))) (zQ z8 T.Ti zpc (zb (mv 1) zf)))))
abbrev zBf:Yb:=top 30
abbrev zIc:Qx:=["web","some"]
def sj:tq zZj zIc (zp zBf):=by walk_at "s"
def zGm(T:Txt K mg)(zxg:FnAt K mg "is_crowd" zNg z6c f0 d0)(zah:OkM P w K mg base 2 f0 d0 z6c 2 zDg)(B:FnAt K mg "spare_key" zBf zIc f fd):OkM P w K mg base 3 f fd zIc 2 zfe:=by
 exact tS B.fn sj zaf λhr hu=>(zi (zWc (z9b (mv 1)) (z6 2 (hN:=sj.nd)) (zn (zRb (zBd (tz zxg zah hr (zb (mv 0) (zb (TF ["other"] [2] (z9b (mv 1)) (zab 0 (hN:=z9 (by rfl))) (zUg (zO (zZd hu) (mv 0) (mv 1))) (mv 0) (zbb ⟨_,rfl,rfl⟩ zoc)) zf)))) (zn (zP (mv 2))) zW))) (zn (zP zGc)))
abbrev zth:Yb:=top 31
abbrev zXd:Qx:=["web","some"]
def TM:tq zgo zXd (zp zth):=by walk_at "s"
def z0o(T:Txt K mg)(zee:FnAt K mg "spare_key" zBf zIc f0 d0)(zve:OkM P w K mg base 3 f0 d0 zIc 2 zfe)(B:FnAt K mg "trimmed" zth zXd f fd):OkM P w K mg base 4 f fd zXd 2 zHh:=by
 exact tS B.fn TM zLh λhr hu=>(zi (zL 2 (zfd zFi T.TL ztf (zb (mv 1) zf)) (hN:=TM.nd)) (zi (zL 3 (tz zee zve hr (zb (mv 0) (zb (mv 2) zf))) (hN:=TM.nd)) (zi (zwj 100000 (zO z7f (mv 3) zGc) (zi (zig (zFr (mv 2) (zb (mv 3) zf))) (zn (zL 3 (tz zee zve hr (zb (mv 0) (zb (mv 2) zf))) (hN:=TM.nd))))) (zn (zP (mv 2))))))
abbrev zNj:Yb:=top 32
abbrev z2e:Qx:=["web"]
def sJ:tq zYp z2e (zp zNj):=by walk_at "s"
def z1q(T:Txt K mg)(zRd:FnAt K mg "laid_at_all" zOd z4b f0 d0)(zLe:OkM P w K mg base 5 f0 d0 z4b 1 zMd)(zpi:FnAt K mg "trimmed" zth zXd f1 d1)(zNi:OkM P w K mg base 4 f1 d1 zXd 2 zHh)(B:FnAt K mg "fitted" zNj z2e f fd):OkM P w K mg base 6 f fd z2e 1 zDj:=by
 exact tS B.fn sJ zEj λhr hu=>(zi (zL 1 (tz zRd zLe hr (zb (mv 0) zf)) (hN:=sJ.nd)) (zi (zRb (zO (zec hu) (zT (mv 1) zq) (zXc zf)) (zn (zP (zOc (zb zCd (zb (zT (mv 1) zq) zf))))) zW) (zn (zP (zOc (zb zCd (zb (tz zpi zNi hr (zb (mv 0) (zb (zT (mv 1) zq) zf))) zf)))))))
abbrev zUc:Yb:=zJe (top 34) 9
abbrev zJb:Qx:=["self","rule"]
def Tc:tq zSh zJb (zp zUc):=by walk_at "s"
def zLk(T:Txt K mg)(zA:MethAt K "Shelf" "all_there" "Shelf.all_there" zU zC C0 f0 d0)(zz:OkM P w K mg base 1 f0 d0 zC 1 zK)(zBj:FnAt K mg "fitted" zNj z2e f1 d1)(zJk:OkM P w K mg base 6 f1 d1 z2e 1 zDj)(zed:FnAt K mg "web_of" zPg zqc f2 d2)(zSc:OkM P w K mg base 2 f2 d2 zqc 2 zDd){zmi zUo z6j:yf}{Tm:yV}(tH:Sj K mg "Full" "some" "Full.__init__" zCc zzb zmi zUo z6j Tm)(tW:Te P w K mg base CX0 1 z6j Tm zzb (spL zmi "some"))(B:MethAt K "Shelf" "renew" "Shelf.renew" zUc zJb C f fd):OkX P w K mg base 7 f fd zJb 2 zKd:=by
 exact fnYi B.fn Tc zEd λhr hu=>(zi (zL 2 (TB zA zz hr (mv 0)) (hN:=Tc.nd)) (zi (zL 3 (tz zBj zJk hr (zb (tz zed zSc hr (zb (mv 1) (zb (mv 2) zf))) zf)) (hN:=Tc.nd)) (zi (zRb (zO (zec hu) (zT (mv 3) zq) zCd) (zn (zRj tH.nm tH.ex tW tH.bd hr (zb (TF ["place"] [2] (z9b (zT (mv 3) zq)) (zab 0 (hN:=z9 (by rfl))) zRf (zT (mv 1) (mv 0)) (zbb ⟨_,rfl,rfl⟩ zoc)) zf))) zW) (zi (zks T.tI (mv 0) (mv 1)) (zn (zWc (zih T.Tb zcc (mv 2)) (z1i (zpb (z6 4 (hN:=Tc.nd)) (zpb (z6 5 (hN:=Tc.nd)) zef))) (zn (z5e (zT (zT (mv 3) zq) (mv 4)) (z4n (zVg T.tE (mv 0)) (mv 5))))))))))
abbrev zhd:Yb:=top 48
abbrev zOb:Qx:=["_law_shelf","_law_rule_here"]
def Tu:tq z6g zOb (zp zhd):=by walk_at "s"
def zgj(T:Txt K mg)(zQd:MethAt K "Shelf" "renew" "Shelf.renew" zUc zJb C0 f0 d0)(zNe:OkX P w K mg base 7 f0 d0 zJb 2 zKd)(B:FnAt K mg "_law_renewed" zhd zOb f fd):OkM P w K mg base 8 f fd zOb 2 zrc:=by
 obtain⟨zmi,n_Full,m_Full,k_Full⟩:=T.SC;exact tS B.fn Tu z9c λhr hu=>(zi (zL 2 zni (hN:=Tu.nd)) (zi (zwv (zRv (zXt zQd zNe hr (mv 0) (zb (mv 1) zf))) (zKs [("Twice",false),("Full",true)] n_Full k_Full (T.SD zmi n_Full) (λ_=>(zn (zL 2 zni (hN:=Tu.nd)))) zzs)) (zn (zP (mv 2)))))
abbrev zTc:Yb:=top 42
abbrev zAb:Qx:=["_law_found","_law_due"]
def z8k:tq zQh zAb (zp zTc):=by walk_at "s"
def zSj(T:Txt K mg)(B:FnAt K mg "_law_wholes" zTc zAb f fd):OkM P w K mg base 1 f fd zAb 2 zkb:=by
 exact tS B.fn z8k zUd λhr hu=>(zi (zRb (MW.mt (z1e (zTh (zBd (zQ (z7e .lst) T.Tf zkc (zb (mv 0) (zb (zQl T.TL ztf) zf))))) (zce (zO (zZd hu) (mv 0) (mv 1))))) (zn (zP zni)) zW) (zn (zP (zYi (zec hu) (zQ z8 T.Ti zpc (zb (TF ["_law_one"] [] (z9b (mv 0)) (zab 0 (hN:=z9 (by rfl))) (zUg (MW.mt (z1e (zTh (zBd (zQ (z7e .int) T.Tf zkc (zb (mv 0) (zb (zQl T.n_int z5x) zf))))) (zce (zBd (zQ (z7e .bl) T.Tf zkc (zb (mv 0) (zb (zQl T.SE zJt) zf)))))))) (mv 0) zoc) zf)) zq))))
abbrev zkd:Yb:=zJe (top 34) 8
abbrev zVb:Qx:=["self"]
def zNm:tq z7i zVb (zp zkd):=by walk_at "s"
def z2k(T:Txt K mg)(Tp:FnAt K mg "left" zAl zKe f0 d0)(zyf:OkM P w K mg base 1 f0 d0 zKe 2 zJh)(zed:FnAt K mg "web_of" zPg zqc f1 d1)(zSc:OkM P w K mg base 2 f1 d1 zqc 2 zDd)(zIb:MethAt K "Shelf" "laying" "Shelf.laying" z3b zeb C2 f2 d2)(zQb:OkM P w K mg base 2 f2 d2 zeb 1 zKb)(zA:MethAt K "Shelf" "all_there" "Shelf.all_there" zU zC C3 f3 d3)(zz:OkM P w K mg base 1 f3 d3 zC 1 zK)(B:MethAt K "Shelf" "left" "Shelf.left" zkd zVb C f fd):OkM P w K mg base 3 f fd zVb 1 zne:=by
 exact tS B.fn zNm zle λhr hu=>(zn (zP (Sc (Tp.al T.tY) Tp zyf hr (zb (tz zed zSc hr (zb (zVg T.tI (mv 0)) (zb (TB zA zz hr (mv 0)) zf))) (zb (TB zIb zQb hr (mv 0)) zf)))))
abbrev zqd:Yb:=zJe (top 34) 10
abbrev zUb:Qx:=["self"]
def zqm:tq zWi zUb (zp zqd):=by walk_at "s"
def zZk(T:Txt K mg)(B:MethAt K "Shelf" "rule" "Shelf.rule" zqd zUb C f fd):OkM P w K mg base 1 f fd zUb 1 zte:=by
 exact tS B.fn zqm zwe λhr hu=>(zn (zP (zVg T.tI (mv 0))))
abbrev znc:Yb:=zJe (top 34) 4
abbrev zjb:Qx:=["self","key"]
def zel:tq zNh zjb (zp znc):=by walk_at "s"
def zxk(T:Txt K mg)(B:MethAt K "Shelf" "where" "Shelf.where" znc zjb C f fd):OkM P w K mg base 1 f fd zjb 2 zlc:=by
 exact tS B.fn zel zNd λhr hu=>(zn (zP (z3l (zVg T.tE (mv 0)) (zb (mv 1) zf))))
abbrev zod:Yb:=zJe (top 34) 6
abbrev zTb:Qx:=["self","h"]
def z4l:tq z2i zTb (zp zod):=by walk_at "s"
def zgl(T:Txt K mg)(zA:MethAt K "Shelf" "all_there" "Shelf.all_there" zU zC C0 f0 d0)(zz:OkM P w K mg base 1 f0 d0 zC 1 zK)(B:MethAt K "Shelf" "nest" "Shelf.nest" zod zTb C f fd):OkM P w K mg base 2 f fd zTb 2 zse:=by
 exact tS B.fn z4l zke λhr hu=>(zn (zP (TF ["key"] [0,1] (z9b (TB zA zz hr (mv 0))) (zab 0 (hN:=z9 (by rfl))) (zUg (zO (zec hu) (zdj (zVg T.tE (mv 1)) (mv 0)) (mv 2))) (mv 0) (zbb ⟨_,rfl,rfl⟩ (zbb ⟨_,rfl,rfl⟩ zoc)))))
abbrev zjd:Yb:=top 43
abbrev zNb:Qx:=["_law_shelf","_law_rule_here","_law_lying_there"]
def tN:tq zTg zNb (zp zjd):=by walk_at "s"
def zej(T:Txt K mg)(zwb:FnAt K mg "_law_wholes" zTc zAb f0 d0)(zBb:OkM P w K mg base 1 f0 d0 zAb 2 zkb)(zoe:MethAt K "Shelf" "left" "Shelf.left" zkd zVb C1 f1 d1)(zHf:OkM P w K mg base 3 f1 d1 zVb 1 zne)(zme:MethAt K "Shelf" "rule" "Shelf.rule" zqd zUb C2 f2 d2)(znf:OkM P w K mg base 1 f2 d2 zUb 1 zte)(zA:MethAt K "Shelf" "all_there" "Shelf.all_there" zU zC C3 f3 d3)(zz:OkM P w K mg base 1 f3 d3 zC 1 zK)(zDc:MethAt K "Shelf" "has" "Shelf.has" zYc zHb C4 f4 d4)(zJc:OkM P w K mg base 1 f4 d4 zHb 2 z0c)(zWb:MethAt K "Shelf" "where" "Shelf.where" znc zjb C5 f5 d5)(z5b:OkM P w K mg base 1 f5 d5 zjb 2 zlc)(zxb:FnAt K mg "_law_homes" zEc zib f6 d6)(zvb:OkM P w K mg base 1 f6 d6 zib 2 zSb)(zre:MethAt K "Shelf" "nest" "Shelf.nest" zod zTb C7 f7 d7)(zpf:OkM P w K mg base 2 f7 d7 zTb 2 zse)(B:FnAt K mg "_law_is_kept" zjd zNb f fd):OkM P w K mg base 4 f fd zNb 3 zuc:=by
 exact tS B.fn tN zid λhr hu=>(zi (zRb (MW.mt (z1e (zTh (zBd (tz zwb zBb hr (zb (TB zA zz hr (mv 0)) (zb (zQ (zLf rfl) T.Tj zsc (zb (mv 2) zf)) zf))))) (zce (zO (zZd hu) (TB zme znf hr (mv 0)) (mv 1))))) (zn (zP zni)) zW) (zi (zL 3 (zfd zFi T.TL ztf (zb (zT (mv 1) zq) zf)) (hN:=tN.nd)) (zi (zWc (zWk (mv 2)) (z6 4 (hN:=tN.nd)) (zi (zL 5 (zdj (mv 2) (mv 4)) (hN:=tN.nd)) (zi (zRb (MW.mt (z1e (zO z7f (sU zDc zJc hr (mv 0) (zb (mv 4) zf)) zni) (z1e (zO (zZd hu) (sU zWb z5b hr (mv 0) (zb (mv 4) zf)) (mv 5)) (zce (zO zXe (mv 5) (tz zxb zvb hr (zb (mv 1) (zb (mv 4) zf)))))))) (zn (zP zni)) zW) (zn (z5e (zob zBk (zT (mv 3) (mv 5)) zq) (zhv (mv 3) (mv 5))))))) (zi (zWc (zyj T.sg (zb (zQ z8 T.Ti zpc (zb (mv 3) zf)) zf)) (z6 5 (hN:=tN.nd)) (zi (zL 6 (zQ (zlf rfl) T.Tj zsc (zb (TF ["_law_key_here"] [2,5] (zWk (mv 2)) (zab 0 (hN:=z9 (by rfl))) (zUg (zO (zec hu) (zdj (mv 1) (mv 0)) (mv 2))) (mv 0) (zbb ⟨_,rfl,rfl⟩ (zbb ⟨_,rfl,rfl⟩ zoc))) zf)) (hN:=tN.nd)) (zn (zRb (MW.mt (z1e (zO z5i (zT (mv 3) (mv 5)) zq) (zce (zTh (zBd (tz zwb zBb hr (zb (sU zre zpf hr (mv 0) (zb (mv 5) zf)) (zb (mv 6) zf)))))))) (zn (zP zni)) zW)))) (zn (zP (tz zwb zBb hr (zb (TB zoe zHf hr (mv 0)) (zb (mv 3) zf)))))))))
abbrev zPd:Yb:=top 46
abbrev z6b:Qx:=["_law_rule_here","_law_lying_there","_law_key_here","_law_row"]
def tL:tq zii z6b (zp zPd):=by walk_at "s"
def zHk(T:Txt K mg)(zrb:FnAt K mg "_law_room_left" z1b zcb f0 d0)(zCb:OkM P w K mg base 1 f0 d0 zcb 3 zqb)(zxb:FnAt K mg "_law_homes" zEc zib f1 d1)(zvb:OkM P w K mg base 1 f1 d1 zib 2 zSb)(B:FnAt K mg "_law_behind" zPd z6b f fd):OkM P w K mg base 2 f fd z6b 4 zQc:=by
 exact tS B.fn tL zGd λhr hu=>(zi (zL 4 (zfd zhp T.SG zdt (zb (mv 1) zf)) (hN:=tL.nd)) (zi (zRb (MW.mt (z1e (zTh (zBd (zQ (z7e .lst) T.Tf zkc (zb (mv 3) (zb (zQl T.TL ztf) zf))))) (zce (zO (zec hu) (mv 3) (zXc zf))))) (zn (zP zGc)) zW) (zi (zL 5 (zXc zf) (hN:=tL.nd)) (zi (zL 6 zGc (hN:=tL.nd)) (zi (zWc (z9b (mv 3)) (z6 7 (hN:=tL.nd)) (zi (zRb (MW.mt (z1e (zTh (zBd (zQ (z7e .tup) T.Tf zkc (zb (mv 7) (zb (zQl T.si zvh) zf))))) (z1e (zO (zZd hu) (zQ z8 T.Ti zpc (zb (mv 7) zf)) zq) (z1e (zBd (zQ (z7e .bl) T.Tf zkc (zb (zT (mv 7) zq) (zb (zQl T.SE zJt) zf)))) (zce (zO zGv (zT (mv 7) zq) (mv 5))))))) (zn (zP zGc)) zW) (zi (z5e (mv 7) (z1i (zpb (z6 8 (hN:=tL.nd)) (zpb (z6 9 (hN:=tL.nd)) zef)))) (zi (zRb (MW.mt (z1e (zO zXe (mv 9) (tz zxb zvb hr (zb (mv 0) (zb (mv 8) zf)))) (z1e (zO (zZd hu) (z3l (mv 1) (zb (mv 8) zf)) (mv 6)) (zce (zO (zec hu) (z3l (mv 1) (zb (mv 8) zf)) (mv 9)))))) (zn (zP zGc)) zW) (zi (zig (zui (mv 5) (zb (mv 8) zf))) (zi (z5e (mv 9) (z4n (mv 4) (mv 8))) (zn (zL 6 (mv 9) (hN:=tL.nd))))))))) (zi (zRb (MW.mt (z1e (zO (zZd hu) (zT (mv 5) zq) (mv 2)) (zce (zO z5i (zdp 1 (tz zrb zCb hr (zb (mv 0) (zb (mv 1) (zb (mv 6) zf))))) zq)))) (zn (zP zGc)) zW) (zn (zP (mv 4)))))))))
abbrev z5o:Yb:=top 49
abbrev zeq:Qx:=["_law_script"]
def Td:tq ziy zeq (zp z5o):=by walk_at "s"
def z5v(T:Txt K mg)(zKg:FnAt K mg "_law_pen" zCg z4c f0 d0)(zjh:OkM P w K mg base 1 f0 d0 z4c 1 zHg)(z1d:FnAt K mg "_law_rule" zof zKc f1 d1)(zxe:OkM P w K mg base 3 f1 d1 zKc 1 z4d)(zzc:sO K mg "Shelf" z0b zgb C2 f2 d2)(z1c:OkM P w K mg base 1 f2 d2 zgb 2 zZb)(zR:FnAt K mg "_law_take" z2c zyb f3 d3)(zN:OkM P w K mg base 2 f3 d3 zyb 2 zJ)(zMg:FnAt K mg "_law_key" zrg z3c f4 d4)(zmh:OkM P w K mg base 3 f4 d4 z3c 2 z6e)(zad:FnAt K mg "_law_reached" z8c zMb f5 d5)(z5d:OkM P w K mg base 2 f5 d5 zMb 3 ztc)(zje:FnAt K mg "_law_heard" zAe zic f6 d6)(zFf:OkM P w K mg base 5 f6 d6 zic 2 zpd)(zgd:FnAt K mg "_law_renewed" zhd zOb f7 d7)(z3d:OkM P w K mg base 8 f7 d7 zOb 2 zrc)(zdd:FnAt K mg "_law_is_kept" zjd zNb f8 d8)(z2d:OkM P w K mg base 4 f8 d8 zNb 3 zuc)(zLd:FnAt K mg "_law_behind" zPd z6b f9 d9)(zOe:OkM P w K mg base 2 f9 d9 z6b 4 zQc)(zWb:MethAt K "Shelf" "where" "Shelf.where" znc zjb C10 f10 d10)(z5b:OkM P w K mg base 1 f10 d10 zjb 2 zlc)(zwb:FnAt K mg "_law_wholes" zTc zAb f11 d11)(zBb:OkM P w K mg base 1 f11 d11 zAb 2 zkb)(B:FnAt K mg "law" z5o zeq f fd):OkM P w K mg base 9 f fd zeq 1 zHq:=by
 exact tS B.fn Td zTu λhr hu=>(zi (zL 1 (tz zKg zjh hr (zb (mv 0) zf)) (hN:=Td.nd)) (zi (zL 2 (tz z1d zxe hr (zb (mv 1) zf)) (hN:=Td.nd)) (zi (zL 3 (mmakeA zzc z1c hr (zb (mv 2) zf)) (hN:=Td.nd)) (zi (zL 4 zqs (hN:=Td.nd)) (zi (zWc (zyj T.sg (zb (tz zR zN hr (zb (mv 1) (zb zq zf))) zf)) (z6 5 (hN:=Td.nd)) (zi (zL 6 (mv 2) (hN:=Td.nd)) (zi (zRb (zO (zec hu) (tz zR zN hr (zb (mv 1) (zb zq zf))) zq) (zn (zL 6 (tz z1d zxe hr (zb (mv 1) zf)) (hN:=Td.nd))) zW) (zi (zRb (MW.mt (zzl (zO (zZd hu) (mv 6) (mv 2)) (zIi (zBd (tz zgd z3d hr (zb (mv 3) (zb (mv 6) zf))))))) (zi (zL 2 (mv 6) (hN:=Td.nd)) (zn (zL 4 (zfd (zgp rfl) T.SG zdt (zb (TF ["_law_key_here"] [3] (zWk (mv 4)) (zab 0 (hN:=z9 (by rfl))) zRf (zOc (zb (mv 0) (zb (sU zWb z5b hr (mv 1) (zb (mv 0) zf)) zf))) (zbb ⟨_,rfl,rfl⟩ zoc)) zf)) (hN:=Td.nd)))) zW) (zi (zL 7 (tz zMg zmh hr (zb (mv 1) (zb (zQ (zLf rfl) T.Tj zsc (zb (mv 4) zf)) zf))) (hN:=Td.nd)) (zi (z5e (tz zad z5d hr (zb (mv 2) (zb (mv 4) (zb (mv 7) zf)))) (z1i (zpb (z6 8 (hN:=Td.nd)) (zpb (z6 9 (hN:=Td.nd)) zef)))) (zi (z5e (tz zje zFf hr (zb (mv 3) (zb (mv 7) zf))) (z1i (zpb (z6 10 (hN:=Td.nd)) (zpb (z6 11 (hN:=Td.nd)) zef)))) (zi (zRb (zO z4m (mv 7) (mv 4)) (zn (zRb (zO (zZd hu) (mv 10) zCd) (zn (zP zni)) zW)) (zn (zRb (zO zXr (mv 9) zGc) (zn (zRb (MW.mt (z1e (zO (zZd hu) (mv 10) zCd) (zce (zTh (zBd (tz zwb zBb hr (zb (mv 11) (zb (mv 8) zf)))))))) (zn (zP zni)) zW)) (zi (zL 12 (tz zLd zOe hr (zb (mv 2) (zb (mv 4) (zb (mv 7) (zb (mv 11) zf))))) (hN:=Td.nd)) (zi (zRb (MW.mt (z1e (zO (zZd hu) (mv 10) zCd) (z1e (zO zXr (mv 12) zGc) (zce (zO (zZd hu) (zQ z8 T.Ti zpc (zb (mv 11) zf)) (mv 9)))))) (zn (zP zni)) zW) (zi (zL 4 (mv 12) (hN:=Td.nd)) (zn (zig (zBu (mv 11)))))))))) (zn (zRb (zTh (zBd (zdp 4 (tz zdd z2d hr (zb (mv 3) (zb (mv 2) (zb (mv 4) zf))))))) (zn (zP zni)) zW)))))))))) (zn (zP zni)))))))
end
end P
namespace P
open PySem PySem.Spec PyProof.Rows L2 M
set_option maxHeartbeats 4000000
variable {R:Qf}{K:Qd}{O:Mem}{Q:Wr}{l i L B k a m n h x:Nat}{ds:Wm}{O':Mem}{J:M.Loc}{G:FA}{S C A Fd Fr:Qf}{row hG ts:Qe}{nx bk ct:M.Loc->Mem->Prop}{rt:Wr}{r:D}{lay0:Qc}
def zfx{o o':tx}(h:O[l]?=some o):(O.set l o')[l]?=some o':=by
 rw[yN (List.getElem?_eq_some_iff.mp h).1]
def zGt{xs:Wm}:M.cutD xs none (some (i:Int))=xs.take i:=by
 unfold M.cutD;rw[HT.Sv,HT.sIx_nat,List.drop_zero,Nat.sub_zero];rcases Nat.le_total i xs.length with h|h
 ·rw[Nat.min_eq_left h]
 ·rw[Nat.min_eq_right h,Vh,List.take_of_length_le h]
local macro_rules | `(tactic| walk_at "w") => `(tactic| first
  | refine zw ?_ | refine z5 ?_ | refine zqh ?_ | refine zEb ?_ | refine z6i ?_ | refine zEf ?_ | refine zfb ?_ | refine z0f ?_
  | refine zd rfl ?_ | refine w_c ?_ | refine zo ?_ | refine zu ?_ | refine ze ?_ | refine zt ?_ | refine zbg ?_ | refine z1f ?_ | refine zcw ?_ | refine zfy ?_ | refine zAv ?_ | refine ztz ?_ | refine zxA ?_ | refine w_not ?_ | refine zTz ?_ | refine zdk ?_ | refine zcn ?_ | refine zGp ?_ | refine zwz ?_
  | refine zG ?_ | refine zpl ?_ | refine zSe ?_ | refine z8g ?_ | refine zTv ?_ | refine zMk ?_ | refine zsd ?_ | refine zbl ?_ | refine zWz ?_ | refine z0d ?_ | refine zzk ?_
  | refine zSg ?_ | refine zkt ?_ | refine zlj (by first | decide | omega) ?_ | refine z2u (by first | decide | omega) (by first | decide | omega) ?_ | refine zJi ?_ | refine zeh ?_ | refine ztt ?_ | refine z1z ?_ | refine zEp ?_ | refine z3y (by decide) (by decide) (by decide) ?_ | refine zFy ?_ | refine zxy ?_ | refine zny ?_ | refine zCy ?_
  | refine zMe rfl ?_ | refine zxp rfl ?_ | refine z4j rfl ?_ | with_reducible refine ⟨_,rfl,?_⟩)
local macro_rules | `(tactic| walk_at "om") => `(tactic| first | omega | (simp only [Lv, Lw, Int.toNat_natCast, Lr, Ls, List.length_nil] at *; omega) | (simp <;> omega))
structure WebA(L:Int)(rooms:Qg)(ks:List (Qg)):Prop where
 rl:1<=rooms.length/\rooms.length<=10
 rn:∀r∈rooms,0<=r
 kl:ks.length<=L
 kn:∀k∈ks,(2<=k.length/\k.length<=3)/\∀i∈k,0<=i/\i<rooms.length
def zBv{i:Int}(h0:0<=i)(h1:i<ds.length):∃d,d∈ds/\ds[i.toNat]?=some d/\atI ds i=some d:=by
 have hi:i.toNat<ds.length:=by omega
 refine⟨ds[i.toNat],Lq hi,by simp[hi],?_⟩;have:=zXb (xs:=ds) (j:=i.toNat) (v:=ds[i.toNat]) (by simp[hi]);rw[Int.toNat_of_nonneg h0]at this;exact this
def Th(ns:Qg)(O:Mem)(l B:Nat):Prop:=∃(b:Bool)(k:Nat)(r:Int),k<=B/\O[l]?=some (.lst [.fz (ns.map .int),.bl b,.int (k:Nat),.int r])
section
variable {ns:Qg}
def Th.kb{O:Mem}{L:Qf}(h:Th ns O l B)(k:KB L O O')(hl:l∉L):Th ns O' l B:=by
 obtain⟨b,j,r,hj,e⟩:=h;exact⟨b,j,r,hj,k.at_ _ _ hl e⟩
def Th.app{O g:Mem}(h:Th ns O l B):Th ns (O++g) l B:=h.kb (L:=[]) (KB.refl.app) (by simp)
def Th.keep{O:Mem}(h:Th ns O l B)(k:tm O O'):Th ns O' l B:=h.kb (L:=[]) (KB.of_keep k) (by simp)
def Th.lt(h:Th ns O l B):l<O.length:=by
 obtain⟨b,j,r,hj,e⟩:=h;exact zF e
def Th.up{B':Nat}(h:Th ns O l B)(hb:B<=B'):Th ns O l B':=by
 obtain⟨b,j,r,hj,e⟩:=h;exact⟨b,j,r,by omega,e⟩
def zMw(q:∀O',tm O O'->Th ns O' O.length 0->O'.length=O.length+1->Q (.loc O.length) O'):WF zHg [.fz (ns.map .int)] O Q:=by
 refine zLb rfl ?_;show WS zOg [some (.fz (ns.map .int))] O _ _ _ _;unfold zOg;refine zEb (z1f (ze (zd rfl (ze (zxA (zo (zu (ze (zd rfl (zt (zMe rfl (w_c (zeh ⟨_,rfl,λh=>?_,λh=>?_⟩)))))))))))))
 ·have h0:ns≠[]:=by
   rintro rfl;simp at h
  obtain⟨n,ns',rfl⟩:=List.exists_cons_of_ne_nil h0;refine zo (zo (zo (zd rfl (w_c (zmc rfl (zXb (j:=0) (v:=D.int n) rfl) (w_c (zlj (by omega) (w_c (zeh ?_)))))))));exact ze (w_c (ze (w_c (zt (q _ .app ⟨_,0,0,yh _,zr⟩ (by simp))))))
 ·exact ze (w_c (ze (w_c (zt (q _ .app ⟨_,0,0,yh _,zr⟩ (by simp))))))
def zlt(hk:k<=1000000)(q:∀v:Int,Q (.int v) O):WF zDe [.fz (ns.map .int),.int (k:Nat)] O Q:=by
 refine zLb rfl ?_;show WS zye [some (.fz (ns.map .int)),some (.int (k:Nat)),none,none,none] O _ _ _ _;unfold zye
 have mk:∀{i:Int},zbh i (k:Nat)=true:=λ{i}=>by
  unfold zbh;rw[decide_eq_true (show -(2^64)<((k:Nat):Int)/\((k:Nat):Int)<2^64 by omega)];simp
 have rest:∀c:Int,WS (zX (zFb 3 (zD z6m (zD zsg (zD zjj (zD zsg (zD zsg (zm 2) (zD zjj (fC (.int 40503)) (zm 1))) (fC (.int 1))) (fC (.int 48271))) (zD zjj (zm 1) (zm 1))) (fC (.int 2147483647)))) (zX (zFb 4 (zD z6m (zD zsg (zD zsg (zD zjj (zm 3) (zm 3)) (zD zjj (fC (.int 69621)) (zm 3))) (zD zjj (fC (.int 31)) (zm 1))) (fC (.int 2147483629)))) (zYb (zD z6m (zD zsg (zD zsg (zD zjj (zm 4) (zm 4)) (zD zjj (fC (.int 16807)) (zm 4))) (zm 1)) (fC (.int 1073741789)))))) [some (.fz (ns.map .int)),some (.int (k:Nat)),some (.int c),none,none] O (λ_ O'=>Q .non O') Q (λ_ _=>False) (λ_ _=>False):=λc=>by
  refine zw (z5 (zo (zo (zo (zo (zo (zd rfl (zo (w_c (zd rfl (z1k mk (zSg (w_c (zSg (w_c (z1k (by unfold zbh;simp) (zo (zd rfl (zd rfl (z1k mk (zSg (w_c (zlj (by omega) ?_)))))))))))))))))))))));have h1:∀x:Int,0<=x%2147483647/\x%2147483647<2147483647:=λx=>⟨Int.emod_nonneg _ (by omega),Xc _ (by omega)⟩
  obtain⟨a1,b1⟩:=h1 ((c+40503*(k:Nat)+1)*48271+(k:Nat)*(k:Nat));generalize ((c+40503*((k:Nat):Int)+1)*48271+((k:Nat):Int)*((k:Nat):Int))%2147483647=x at a1 b1
  have mx:∀{i:Int},zbh i x=true:=λ{i}=>by
   unfold zbh;rw[decide_eq_true (show -(2^64)<x/\x<2^64 by omega)];simp
  refine zw (z5 (zo (zo (zo (zo (zd rfl (zd rfl (z1k mx (zo (w_c (zd rfl (z1k mx (zSg (zo (w_c (zd rfl (z1k mk (zSg (w_c (zlj (by omega) ?_))))))))))))))))))));have h2:∀y:Int,0<=y%2147483629/\y%2147483629<2147483629:=λy=>⟨Int.emod_nonneg _ (by omega),Xc _ (by omega)⟩
  obtain⟨a2,b2⟩:=h2 (x*x+69621*x+31*(k:Nat));generalize (x*x+69621*x+31*((k:Nat):Int))%2147483629=y at a2 b2
  have my:∀{i:Int},zbh i y=true:=λ{i}=>by
   unfold zbh;rw[decide_eq_true (show -(2^64)<y/\y<2^64 by omega)];simp
  exact zEb (zo (zo (zo (zo (zd rfl (zd rfl (z1k my (zo (w_c (zd rfl (z1k my (zSg (zd rfl (zSg (w_c (zlj (by omega) (q _)))))))))))))))))
 refine zw (z5 (w_c ?_));refine zw (zEf (zG (zo (zu (ze (zd rfl (zt (zMe rfl (w_c (zJi ⟨_,rfl,λh2=>?_,λh2=>zfb (rest _)⟩))))))))));have h2:=of_decide_eq_true h2;obtain⟨d,hm,_,ha⟩:=zBv (ds:=ns.map .int) (i:=(k:Nat)%((ns.map D.int).length:Int)) (Int.emod_nonneg _ (by omega)) (Xc _ h2);obtain⟨v,_,rfl⟩:=List.mem_map.mp hm;exact z5 (zo (zd rfl (zo (zd rfl (zu (ze (zd rfl (zt (zMe rfl (zlj h2 (zmc rfl ha (rest _))))))))))))
def zTy{gs:FGs}{P:M.Loc->Mem->Prop}{a b c d:D}(e:O[l]?=some (.lst [a,b,c,d]))(h:WGs gs [a,b,c,d] J O P):WG (gTL 4 gs) (.loc l) J O P:=by
 obtain⟨J1,O1,e1,q⟩:=h;refine⟨J1,O1,?_,q⟩;unfold gTL;dsimp only;rw[e];exact e1
def zvj{s:Int}(h:Th ns O l B)(hB:B<=1000000)(h0:0<s)(h1:s<1606938044258990275541962092341162602522202993782792835301376)
 (q:∀v O',0<=v->v<s->KB [l] O O'->O'.length=O.length->Th ns O' l (B+1)->Q (.int v) O'):WF zJ [.loc l,.int s] O Q:=by
 obtain⟨b,k,r,hk,e⟩:=h;have kH:=zF e;refine zLb rfl ?_;show WS zJf [some (.loc l),some (.int s),none,none,none,none] O _ _ _ _;unfold zJf;refine zw (zqh (zd rfl (zTy e (z0d (zsd (z0d (zsd (z0d (zsd (z0d (zsd (zzk ?_))))))))))));refine zw (zqh (zo (zd rfl (w_c (zSg ?_)))));refine zpu (zd rfl (w_c ⟨_,_,_,rfl,rfl,e,⟨by omega,by simp⟩,?_⟩));show WS _ _ (O.set l (.lst [.fz (ns.map .int),.bl b,.int (((k:Nat):Int)+1),.int r])) _ _ _ _;have e2:(O.set l (tx.lst [.fz (ns.map .int),.bl b,.int (((k:Nat):Int)+1),.int r]))[l]?=some (.lst [.fz (ns.map .int),.bl b,.int ((k+1:Nat):Int),.int r]):=zY e;have k2:KB [l] O (O.set l (tx.lst [.fz (ns.map .int),.bl b,.int (((k:Nat):Int)+1),.int r])):=KB.refl.set (.inl (by simp));have l2:(O.set l (tx.lst [.fz (ns.map .int),.bl b,.int (((k:Nat):Int)+1),.int r])).length=O.length:=by simp
 generalize O.set l (tx.lst [.fz (ns.map .int),.bl b,.int (((k:Nat):Int)+1),.int r])=O2 at e2 k2 l2;refine zw (zEf (zG (zd rfl ⟨_,rfl,λhb=>?_,λhb=>zfb ?_⟩)))
 ·refine zEb (zo (zu (ze (zd rfl (ze (zd rfl (zt ?_))))))) ;refine zlt (by omega) λv=>zd rfl (zlj h0 ?_);exact q _ _ (Int.emod_nonneg _ (by omega)) (Xc _ h0) k2 l2 ⟨b,k+1,r,by omega,e2⟩
 ·have last:∀r':Int,WS (zX (zPm (zD zYw (zm 5) (zm 1)) (gAt (zm 0) (fC (.int 3)))) (zYb (zD z6m (zm 5) (zm 1)))) [some (.loc l),some (.int s),some (.fz (ns.map .int)),some (.bl b),some (.int (k:Nat)),some (.int r')] O2 (λ_ O'=>Q .non O') Q (λ_ _=>False) (λ_ _=>False):=λr'=>by
   refine zw (zqh (zo (zd rfl (zd rfl (z2u h0 h1 ?_)))));refine zpu (zd rfl (w_c ⟨_,_,_,rfl,rfl,e2,⟨by omega,by simp⟩,?_⟩));show WS _ _ (O2.set l (.lst [.fz (ns.map .int),.bl b,.int ((k+1:Nat):Int),.int (r' / s)])) _ _ _ _;refine zEb (zo (zd rfl (zd rfl (zlj h0 ?_))));exact q _ _ (Int.emod_nonneg _ (by omega)) (Xc _ h0) (k2.trans (KB.refl.set (.inl (by simp)))) (by simp[l2]) ⟨b,k+1,r' / s,by omega,zY e2⟩
  refine zw (zEf (zG (zo (zo (zd rfl (w_c (zlj (by omega) (w_c (zeh ⟨_,rfl,λhz=>?_,λhz=>zfb (last r)⟩)))))))));refine zw (z5 (w_c ?_));refine zEf (zG (zo (zo (zo (zd rfl (w_c (z2u (by omega) (by omega) (w_c (zSg (zu (ze (zd rfl (zt (zMe rfl (zJi ⟨_,rfl,λh2=>?_,λh2=>zfb (last 0)⟩)))))))))))))));have h2:=of_decide_eq_true h2;obtain⟨d,hm,_,ha⟩:=zBv (ds:=ns.map .int) (i:=((k:Nat):Int) / 60+1) (by omega) h2;obtain⟨v,_,rfl⟩:=List.mem_map.mp hm;exact z5 (zo (zd rfl (zo (zo (zd rfl (w_c (z2u (by omega) (by omega) (w_c (zSg (zmc rfl ha (last v)))))))))))
def zNu{s:Nat}{G:FE}(hp:Th ns O l B)
 (he:∀(k:Nat)(O':Mem)(Q':Wr),k<m->Th ns O' l (B+k)->KB [l] O O'->(∀v O'',0<=v->v<(s:Int)->KB [l] O' O''->Th ns O'' l (B+k+1)->Q' (.int v) O'')->WE G (J.set 0 (some (.int k))) O' Q')
 (q:∀(S:Qf)(O':Mem),S.length=m->(∀h∈S,h<s)->KB [l] O O'->Th ns O' l (B+m)->Q (.loc O'.length) (O'++[.lst (nat S)])) :
 WL (gN 0) z3j G yes J ((yB m).map λ(k:Nat) =>.int k) [] O Q:=by
 refine zSo (λi ys O'=>∃S:Qf,ys=nat S/\S.length=i/\(∀h∈S,h<s)/\KB [l] O O'/\Th ns O' l (B+i)) ⟨[],rfl,rfl,by simp,.refl,hp⟩ (λ_ _ _ _=>rfl) ?_ ?_
 ·rintro i x ys O' hx ⟨S,rfl,hl,hS,k,p⟩;obtain⟨hi,rfl⟩:=zOj hx;refine zsd (zTv ⟨λ_=>?_,λhf=>(by cases hf)⟩);refine he i O' _ hi p k λv O'' a b k' p'=>?_;obtain⟨v,rfl⟩:=xo a;refine⟨S++[v],by rw[zHc];rfl,by simp[hl],λh hh=>?_,k.trans k',p'⟩;rcases List.mem_append.mp hh with hh|hh
  ·exact hS h hh
  ·rw[List.mem_singleton.mp hh];omega
 ·rintro ys O' ⟨S,rfl,hl,hS,k,p⟩;simp only[Lv,Lw]at hl p;exact q S O' hl hS k p
end
def zvc{ns:Qg}{s:Nat}(h:Th ns O l B)(hB:B<=1000000)(h0:0<s)(h1:s<=1000)(q:∀(v:Nat)(O':Mem),v<s->KB [l] O O'->Th ns O' l (B+1)->Q (.int (v:Nat)) O'):WF zJ [.loc l,.int (s:Nat)] O Q :=
 zvj h hB (by omega) (by omega) λv O' a b k _ p=>by
  obtain⟨v,rfl⟩:=xo a;exact q v O' (by omega) k p
def Se(h:l≠a):a∉[l]:=λhm=>h (List.mem_singleton.mp hm).symm
abbrev tn(ns:Qf):D:=.tup (nat ns)
abbrev wn(R:Qf)(K:Qd):D:=.tup [tn R,.tup (K.map tn)]
structure Wb(L:Nat)(R:Qf)(K:Qd):Prop where
 rl:1<=R.length/\R.length<=10
 kl:K.length<=L
 kn:∀k∈K,(2<=k.length/\k.length<=3)/\∀h∈k,h<R.length
def Wb.key(w:Wb L R K){k:Nat}(h:k<K.length):(2<=(K.getD k []).length/\(K.getD k []).length<=3)/\∀x∈K.getD k [],x<R.length:=by
 have:K.getD k []=K[k]:=by simp[h]
 rw[this];exact w.kn _ (Lq h)
def z4o(q:Q (tn R) O):W2 gIx (wn R K) (.int 0) O Q:=zmc rfl (show atI [tn R,.tup (K.map tn)] 0=some (tn R) from rfl) q
def zsk(q:Q (.tup (K.map tn)) O):W2 gIx (wn R K) (.int 1) O Q:=zmc rfl (show atI [tn R,.tup (K.map tn)] 1=some (.tup (K.map tn)) from rfl) q
def zUs(h:k<K.length)(q:Q (tn (K.getD k [])) O):W2 gIx (.tup (K.map tn)) (.int k) O Q :=
 zmc rfl (zXb (v:=tn (K.getD k [])) (by simp[h])) q
def zov(h:k<R.length)(q:Q (.int (R.getD k 0:Nat)) O):W2 gIx (tn R) (.int k) O Q:=zmc rfl (zxh h) q
structure To(R:Qf)(K:Qd)(hU:Qc):Prop where
 len:hU.length=K.length
 home:∀k h,hU[k]?=some (some h)->h∈K.getD k []
 room:∀h,hU.count (some h)<=R.getD h 0
def z4k(K:Qd)(S:Qf):Qf:=S.flatMap λk=>K.getD k []
def zbi(n:Nat)(K:Qd)(S:Qf):Qf:=(yB n).filter λh=>decide (∃k∈S,h∈K.getD k [])
def ztw(R:Qf)(N:Qf):Nat:=(N.map λh=>R.getD h 0).sum
def zoi(w:Wb L R K)(h:Nat):h∈zbi R.length K S↔∃k∈S,h∈K.getD k []:=by
 unfold zbi;rw[Nq,Nu,decide_eq_true_iff];constructor
 ·exact λq=>q.2
 ·rintro⟨k,hk,hh⟩;refine⟨?_,k,hk,hh⟩;rw[Lp]at hh
  cases e:K[k]? with
  |none=>rw[e]at hh;simp at hh
  |some x=>rw[e]at hh;exact(w.kn x (Nt e)).2 h hh
def zeu :∀h∈zbi n K S,h<n:=λh hh=>by
 have:=(List.mem_filter.mp hh).1;simpa using this
def z7t(n:Nat)(K:Qd)(S:Qf):(zbi n K S).Pairwise (· < ·):=List.pairwise_lt_range.filter _
def znn(n:Nat)(K:Qd)(S:Qf):(zbi n K S).length<=n:=by
 unfold zbi;refine yG (Lu _ _) ?_;simp
def zak{L:Nat}{R:Qf}{K:Qd}(w:Wb L R K):∀S:Qf,(z4k K S).length<=3*S.length
 |[]=>by simp[z4k]
 |k::S=>by
  have ih:=zak w S
  have h1:(K.getD k []).length<=3:=by
   rw[Lp]
   cases e:K[k]? with
   |none=>simp
   |some x=>exact(w.kn x (Nt e)).1.2
  unfold z4k at ih ⊢;rw[List.flatMap_cons,Lr,Ls];omega
def zpg(R:Qf)(K:Qd)(S:Qf):Bool:=decide (ztw R (zbi R.length K S)<S.length)
def zXq(w:Wb L R K)(hn:O[n]?=some (.lst (nat S)))(hS:∀k∈S,k<K.length)(hl:S.length<=1000)
 (q:∀(l:Nat)(O':Mem),tm O O'->O.length<=l->O'[l]?=some (.lst (nat (zbi R.length K S)))->Q (.loc l) O'):WF zyg [wn R K,.loc n] O Q:=by
 refine zLb rfl ?_;show WS zGg [some (wn R K),some (.loc n),none,none] O _ _ _ _;unfold zGg
 repeat walk_at "w"
 have gH:=zF hn;refine zFd (zd rfl (.inr (.inr ⟨n,_,rfl,zyc hn,?_⟩)));refine z7b (λm J O'=>∃a:Wn,J=[some (wn R K),some (.loc n),some (.loc O.length),a]/\tm O O'/\O'[O.length]?=some (.lst (nat (z4k K (S.take m))))) ⟨none,rfl,.app,by simp[z4k]⟩ (λm J O' ⟨a,_,k,_⟩=>zdb hn k) ?_ ?_
 ·rintro m x J O1 hx ⟨a,rfl,k,hg⟩;rw[yi]at hx
  cases hy:S[m]? with
  |none=>rw[hy]at hx;cases hx
  |some kk=>
   rw[hy]at hx;cases hx;have hkk:=hS kk (Nt hy)
   walk_at "w"
   unfold zbj
   repeat walk_at "w"
   refine⟨O.length,_,rfl,hg,?_⟩
   repeat walk_at "w"
   refine zsk ?_
   repeat walk_at "w"
   refine zUs hkk ?_
   repeat walk_at "w"
   have hfl:=zak w (S.take m);have hks:=(w.key hkk).1;have htl:(S.take m).length<=1000:=yG (by simp;omega) hl;refine zNx hg (by simp only[Lv];omega) ?_;refine⟨_,rfl,λi o e=>z7 (k i o e) (yX (zF e)),?_⟩;rw[zY hg];have ht:S.take (m+1)=S.take m++[kk]:=by rw[Vj,hy];rfl
   have e2:z4k K (S.take (m+1))=z4k K (S.take m)++K.getD kk []:=by
    unfold z4k;rw[ht,List.flatMap_append];simp
   rw[e2,zHc]
 ·rintro J O1 ⟨a,rfl,k,hg⟩;rw[Lv,Vh]at hg
  have kJ:∀i:Int,i∈(zbi R.length K S).map (λ(k:Nat)=>(k:Int))↔i∈(z4k K S).map (λ(k:Nat)=>(k:Int)):=λi=>by
   simp only[Nr];constructor
   ·rintro⟨h,hh,rfl⟩;obtain⟨k,hk,hh⟩:=(zoi w h).mp hh;exact⟨h,List.mem_flatMap.mpr ⟨k,hk,hh⟩,rfl⟩
   ·rintro⟨h,hh,rfl⟩;obtain⟨k,hk,hh⟩:=List.mem_flatMap.mp hh;exact⟨h,(zoi w h).mpr ⟨k,hk,hh⟩,rfl⟩
  have hpw:((zbi R.length K S).map (λ(k:Nat)=>(k:Int))).Pairwise (· < ·):=by
   rw[Vb];exact(z7t R.length K S).imp λh=>by omega
  have hp:=zem kJ hpw;have hsort:=z1p kJ hpw;have hfl:=zak w S;have kX:=w.rl;have hnl2:=znn R.length K S;refine zEb (zvv (zd rfl ⟨_,(z4k K S).map (λ(k:Nat)=>(k:Int)),rfl,by rw[hg,Nh];rfl,by rw[Lv];omega,by rw[hp.length_eq,Lv];omega,?_⟩));rw[hsort,Nh];exact q _ _ k.to k.len zr
def zxt(hn:O[n]?=some (.lst (nat S)))(hS:∀k∈S,k<R.length)(hl:S.length<=1000)
 (q:∀(O':Mem),tm O O'->Q (.int (ztw R S:Nat)) O'):WF zEh [wn R K,.loc n] O Q:=by
 refine zLb rfl ?_;show WS zdi [some (wn R K),some (.loc n)] O _ _ _ _;unfold zdi
 repeat walk_at "w"
 refine zFd (zd rfl (.inr (.inr ⟨n,_,rfl,hn,zfc (by simp;omega),?_⟩)));refine zgg (λ(k:Nat)=>D.int k) S (λk =>.int (R.getD k 0:Nat)) (λO' k=>zdb hn k) (λk hk O' kp=>?_) (λO' kp=>?_)
 ·have hkk:=hS k hk
  walk_at "w"
  unfold zvk
  repeat walk_at "w"
  refine z4o ?_
  repeat walk_at "w"
  exact zov hkk ⟨rfl,kp,kp⟩
 ·repeat walk_at "w"
  refine zlz (S:=S.map λk=>R.getD k 0) (by rw[zr,znh]) ?_;exact q _ kp.to
def zcr(w:Wb L R K)(hn:O[n]?=some (.lst (nat S)))(hS:∀k∈S,k<K.length)(hl:S.length<=1000)
 (q:∀O',tm O O'->Q (.bl (zpg R K S)) O'):WF zDg [wn R K,.loc n] O Q:=by
 refine zLb rfl ?_;show WS zFg [some (wn R K),some (.loc n)] O _ _ _ _;unfold zFg
 repeat walk_at "w"
 refine zXq w hn hS hl λl O1 k1 hl1 g1=>?_
 repeat walk_at "w"
 have gH:=znn R.length K S;have kX:=w.rl;refine zxt g1 zeu (by omega) λO2 k2=>?_
 repeat walk_at "w"
 refine zMe (zB (k2 _ _ (k1 _ _ hn))) ?_
 repeat walk_at "w"
 have:=q O2 (k1.trans k2);unfold zpg at this;simp only[Lv,Int.ofNat_lt];exact this
def zHo(hU:Qc)(a:Qj):hU.count a=((yB hU.length).filter λk=>decide (hU.getD k none=a)).length:=by
 have e:hU=(yB hU.length).map λk=>hU.getD k none:=by
  refine Lj λi=>?_
  by_cases h:i<hU.length
  ·simp[h]
  ·simp[h]
 conv=>lhs;rw[e]
 rw[List.count,List.countP_map,List.countP_eq_length_filter]
 congr 1
 refine Lm λk _=>?_;simp only[Function.comp];exact Bool.beq_eq_decide_eq _ _
def lyN(hU:Qc)(N:Qf):Qf:=(yB hU.length).filter λk=>decide (∃h∈N,hU.getD k none=some h)
def Sm{hU:Qc}{N:Qf}:k∈lyN hU N↔∃h∈N,hU.getD k none=some h:=by
 unfold lyN;rw[Nq,Nu,decide_eq_true_iff];constructor
 ·exact λq=>q.2
 ·rintro⟨h,hh,e⟩;refine⟨?_,h,hh,e⟩;refine Nat.lt_of_not_le λhle=>?_;rw[Lp,Yr hle]at e;cases e
def zQy(hU:Qc)(N:Qf):(lyN hU N).Nodup:=List.nodup_range.sublist Ln
def z3h{α:Type}(p q:α->Bool)(h:∀x,p x=true->q x=false):∀l:List α,(l.filter λx=>p x||q x).length=(l.filter p).length+(l.filter q).length
 |[]=>rfl
 |x::l=>by
  have ih:=z3h p q h l
  cases hp:p x with
  |true=>simp[List.filter_cons,hp,h x hp,ih];omega
  |false=>
   cases hq:q x with
   |true=>simp[List.filter_cons,hp,hq,ih];omega
   |false=>simp[List.filter_cons,hp,hq,ih]
def zYs{hU:Qc}:∀{N:Qf},N.Nodup->(lyN hU N).length=(N.map λh=>hU.count (some h)).sum
 |[],_=>by simp[lyN]
 |h::N,nd=>by
  obtain⟨h1,h2⟩:=List.nodup_cons.mp nd;rw[Ng,Ve,<-zYs h2,zHo]
  have:=z3h (λk=>decide (hU.getD k none=some h)) (λk=>decide (∃g∈N,hU.getD k none=some g)) (λk hk=>by
   have hk:=of_decide_eq_true hk;refine decide_eq_false ?_;rintro⟨g,hg,e⟩;rw[hk]at e;cases e;exact h1 hg) (yB hU.length)
  rw[show lyN hU N=(yB hU.length).filter λk=>decide (∃g∈N,hU.getD k none=some g) from rfl,<-this];unfold lyN
  congr 1
  refine Lm λk _=>?_;rw[<-Bool.decide_or];refine decide_eq_decide.mpr ?_;simp only[Nn];constructor
  ·rintro⟨g,rfl|hg,e⟩
   ·exact .inl e
   ·exact .inr ⟨g,hg,e⟩
  ·rintro(e|⟨g,hg,e⟩)
   ·exact⟨h,.inl rfl,e⟩
   ·exact⟨g,.inr hg,e⟩
def zFv{α:Type}{f g:α->Nat}:∀{l:List α},(∀x∈l,f x<=g x)->(l.map f).sum<=(l.map g).sum
 |[],_=>yh _
 |x::l,h=>by
  rw[Ng,Ng,Ve,Ve];have h1:=h x Np;have h2:=zFv (l:=l) λy hy=>h y (No _ hy);omega
def zjc{α:Type}[DecidableEq α]:∀{l m:List α},l.Nodup->(∀x∈l,x∈m)->l.length<=m.length
 |[],_,_,_=>Ys _
 |x::l,m,nd,h=>by
  obtain⟨h1,h2⟩:=List.nodup_cons.mp nd;have hx:=h x Np;have ih:=zjc (l:=l) (m:=m.erase x) h2 λy hy=>(List.mem_erase_of_ne (by rintro rfl;exact h1 hy)).mpr (h y (No _ hy));rw[List.length_erase_of_mem hx]at ih;have:=List.length_pos_of_mem hx;rw[Ls];omega
structure TH(R:Qf)(K:Qd)(hU:Qc)(C:Qf):Prop where
 keys:∀k∈C,k<K.length
 full:∀k∈C,∀h∈K.getD k [],R.getD h 0<=hU.count (some h)
 lies:∀k∈C,∀h∈K.getD k [],∀o,hU.getD o none=some h->o∈C
def TH.nil{hU:Qc}:TH R K hU []:=⟨by simp,by simp,by simp⟩
def TH.app{hU:Qc}{E:Qf}(a:TH R K hU C)(b:TH R K hU E):TH R K hU (C++E):=by
 refine⟨λk hk=>?_,λk hk=>?_,λk hk h hh o e=>?_⟩
 ·rcases List.mem_append.mp hk with hk|hk
  ·exact a.keys k hk
  ·exact b.keys k hk
 ·rcases List.mem_append.mp hk with hk|hk
  ·exact a.full k hk
  ·exact b.full k hk
 ·rcases List.mem_append.mp hk with hk|hk
  ·exact Nk _ (a.lies k hk h hh o e)
  ·exact Nm _ (b.lies k hk h hh o e)
def TH.congr{hU:Qc}{E:Qf}(a:TH R K hU C)(h:∀k,k∈E↔k∈C):TH R K hU E :=
 ⟨λk hk=>a.keys k ((h k).mp hk),λk hk=>a.full k ((h k).mp hk),λk hk g hg o e=>(h o).mpr (a.lies k ((h k).mp hk) g hg o e)⟩
def zwq{hU:Qc}(w:Wb L R K)(s:TH R K hU C)(hl:hU.length=K.length){k0:Nat}(hk0:k0∈C)(hn:hU.getD k0 none=none):zpg R K C=true:=by
 refine decide_eq_true ?_;have hN:(zbi R.length K C).Nodup:=List.nodup_range.sublist Ln
 have h1:ztw R (zbi R.length K C)<=((zbi R.length K C).map λh=>hU.count (some h)).sum:=zFv λh hh=>by
  obtain⟨k,hk,hm⟩:=(zoi w h).mp hh;exact s.full k hk h hm
 rw[<-zYs hN]at h1
 have h2:(k0::lyN hU (zbi R.length K C)).length<=C.length:=zjc (List.nodup_cons.mpr ⟨λhm=>(by
  obtain⟨h,_,e⟩:=Sm.mp hm;rw[hn]at e;cases e),zQy _ _⟩) λx hx=>by
  rcases List.mem_cons.mp hx with rfl|hx
  ·exact hk0
  ·obtain⟨h,hh,e⟩:=Sm.mp hx;obtain⟨k,hk,hm⟩:=(zoi w h).mp hh;exact s.lies k hk h hm x e
 rw[Ls]at h2;omega
structure tT(K:Qd)(hU:Qc)(key:Nat)(row:Qe):Prop where
 first:∃h r,row=(key,h)::r
 mem:∀p∈row,p.1<K.length/\p.2∈K.getD p.1 []/\hU.getD p.1 none≠some p.2
 link:∀i p q,row[i]?=some p->row[i+1]?=some q->hU.getD q.1 none=some p.2
 nd:(row.map (·.1)).Nodup
def zhe(hU:Qc)(row:Qe):Qc:=row.foldl (λl p=>l.set p.1 (some p.2)) hU
def zUh(row:Qe):∀hU:Qc,(zhe hU row).length=hU.length:=by
 induction row with
 |nil=>intro hU;rfl
 |cons p row ih=>intro hU;show(zhe (hU.set p.1 (some p.2)) row).length=_;rw[ih];simp
def zsl(hU:Qc)(row:Qe)(p:Nat×Nat):zhe hU (row++[p])=(zhe hU row).set p.1 (some p.2):=by
 unfold zhe;rw[List.foldl_append];rfl
def z8e :∀{hU:Qc} {k:Nat},k∉row.map (·.1)->(zhe hU row).getD k none=hU.getD k none:=by
 induction row with
 |nil=>intro hU k _;rfl
 |cons p row ih=>
  intro hU k hk;rw[Ng,Nn,not_or]at hk;show(zhe (hU.set p.1 (some p.2)) row).getD k none=_;rw[ih hk.2];simp only[Lp];rw[yL (yR hk.1)]
def zvm(nd:(row.map (·.1)).Nodup):∀{hU:Qc} {p:Nat×Nat},p∈row->p.1<hU.length->(zhe hU row).getD p.1 none=some p.2:=by
 induction row with
 |nil=>intro hU p hp;cases hp
 |cons q row ih=>
  intro hU p hp hl;rw[Ng,Ny]at nd;show(zhe (hU.set q.1 (some q.2)) row).getD p.1 none=_;rcases List.mem_cons.mp hp with rfl|hp
  ·rw[z8e nd.1];simp[hl]
  ·exact ih nd.2 hp (by simpa using hl)
def zdo{hU:Qc}{a b:Qj}(hk:k<hU.length)(ha:hU.getD k none=a)(x:Qj):(hU.set k b).count x+(if a=x then 1 else 0)=hU.count x+(if b=x then 1 else 0):=by
 have e1:hU=hU.take k++a::hU.drop (k+1):=by
  have:hU[k]=a:=by simpa[hk] using ha
  rw[<-this,List.getElem_cons_drop,Vg]
 have e2:hU.set k b=hU.take k++b::hU.drop (k+1):=by rw[List.set_eq_take_append_cons_drop,if_pos hk]
 rw[e2]
 conv=>rhs;rw[e1]
 rw[Lh,Lh,List.count_cons,List.count_cons];simp only[beq_iff_eq]
 split<;>split<;>omega
def zSk{hU:Qc}{key:Nat}(r:tT K hU key row)(hl:hU.length=K.length)(kG:hU.getD key none=none):∀i,i<row.length->∀h:Nat,(zhe hU (row.take (i+1))).count (some h)=hU.count (some h)+(if(row.getD i (0,0)).2=h then 1 else 0):=by
 intro i
 induction i with
 |zero=>
  intro hi h;obtain⟨h0,r0,e⟩:=r.first
  have hm:=r.mem (key,h0) (by rw[e];simp);subst e;have:=zdo (hU:=hU) (k:=key) (b:=some h0) (by rw[hl];exact hm.1) kG (some h);show(hU.set key (some h0)).count (some h)=_;simpa using this
 |succ i ih=>
  intro hi h;have ih:=ih (by omega) h;have hp:row[i]?=some row[i]:=by simp[show i<row.length by omega]
  have hq:row[i+1]?=some row[i+1]:=by simp[hi]
  have hlink:=r.link i _ _ hp hq;have hm:=r.mem row[i+1] (Lq hi);have et:row.take (i+1+1)=row.take (i+1)++[row[i+1]]:=by simp
  have hnot:(row[i+1]).1∉(row.take (i+1)).map (·.1):=by
   intro kJ;have nd:=r.nd;rw[<-Vg (i+1) row,Nd,Nx]at nd;refine nd.2.2 _ kJ _ ?_ rfl;refine List.mem_map.mpr ⟨row[i+1],?_,rfl⟩;rw[Li hi];exact Np
  have hcur:(zhe hU (row.take (i+1))).getD (row[i+1]).1 none=some (row[i]).2:=by rw[z8e hnot];exact hlink
  rw[et,zsl];have:=zdo (hU:=zhe hU (row.take (i+1))) (k:=(row[i+1]).1) (b:=some (row[i+1]).2) (by rw[zUh,hl];exact hm.1) hcur (some h);have e1:row.getD i (0,0)=row[i]:=by simp[show i<row.length by omega]
  have e2:row.getD (i+1) (0,0)=row[i+1]:=by simp[hi]
  rw[e1]at ih;rw[e2];simp only[xG]at this;omega
def zfh{hU:Qc}{key:Nat}(rt:To R K hU)(r:tT K hU key row)(kG:hU.getD key none=none)(kI:hU.count (some (row.getD (row.length-1) (0,0)).2)<R.getD (row.getD (row.length-1) (0,0)).2 0):To R K (zhe hU row):=by
 have kW:0<row.length:=by
  obtain⟨h,q,e⟩:=r.first
  rw[e];simp
 refine⟨by rw[zUh];exact rt.len,λk h e=>?_,λh=>?_⟩
 ·have e':(zhe hU row).getD k none=some h:=by rw[Lp,e];rfl
  by_cases hk:k∈row.map (·.1)
  ·obtain⟨p,hp,rfl⟩:=List.mem_map.mp hk;have hm:=r.mem p hp;rw[zvm r.nd hp (by rw[rt.len];exact hm.1)]at e';cases e';exact hm.2.1
  ·rw[z8e hk]at e';refine rt.home k h ?_;rw[Lp]at e'
   cases q:hU[k]? with
   |none=>rw[q]at e';cases e'
   |some z=>rw[q]at e';exact congrArg some e'
 ·have:=zSk r rt.len kG (row.length-1) (by omega) h;rw[show row.length-1+1=row.length by omega,Vh]at this;rw[this];have hr:=rt.room h
  split
  ·rename_i e
   rw[e]at kI;omega
  ·omega
def zZw{hU:Qc}{key:Nat}(s:TH R K hU C)(r:tT K hU key row)(kI:hU.count (some (row.getD (row.length-1) (0,0)).2)<R.getD (row.getD (row.length-1) (0,0)).2 0) :
 ∀p∈row,∀k∈C,p.2∉K.getD k []:=by
 have key1:∀(j i:Nat),i+j+1=row.length->∀k∈C,(row.getD i (0,0)).2∉K.getD k []:=by
  intro j
  induction j with
  |zero=>
   intro i hi k hk hm;have:=s.full k hk _ hm;rw[show row.length-1=i by omega]at kI;omega
  |succ j ih=>
   intro i hi k hk hm;have hp:row[i]?=some row[i]:=by simp[show i<row.length by omega]
   have hq:row[i+1]?=some row[i+1]:=by simp[show i+1<row.length by omega]
   have e1:row.getD i (0,0)=row[i]:=by simp[show i<row.length by omega]
   have e2:row.getD (i+1) (0,0)=row[i+1]:=by simp[show i+1<row.length by omega]
   rw[e1]at hm;have hin:=s.lies k hk _ hm _ (r.link i _ _ hp hq);refine ih (i+1) (by omega) _ hin ?_;rw[e2];exact(r.mem _ (Lq _)).2.1
 intro p hp k hk;obtain⟨i,hi,rfl⟩:=List.mem_iff_getElem.mp hp;have:=key1 (row.length-1-i) i (by omega) k hk
 rwa [show row.getD i (0,0)=row[i] by simp[hi]]at this
def TH.push{hU:Qc}{key:Nat}(s:TH R K hU C)(rt:To R K hU)(r:tT K hU key row)(kG:hU.getD key none=none)
 (kI:hU.count (some (row.getD (row.length-1) (0,0)).2)<R.getD (row.getD (row.length-1) (0,0)).2 0):TH R K (zhe hU row) C:=by
 have kW:0<row.length:=by
  obtain⟨h,q,e⟩:=r.first
  rw[e];simp
 have hout:=zZw s r kI;refine⟨s.keys,λk hk h hh=>?_,λk hk h hh o e=>?_⟩
 ·have:=zSk r rt.len kG (row.length-1) (by omega) h;rw[show row.length-1+1=row.length by omega,Vh]at this;have h1:=s.full k hk h hh;omega
 ·by_cases ho:o∈row.map (·.1)
  ·obtain⟨p,hp,rfl⟩:=List.mem_map.mp ho;rw[zvm r.nd hp (by rw[rt.len];exact(r.mem p hp).1)]at e;cases e;exact absurd hh (hout p hp k hk)
  ·rw[z8e ho]at e;exact s.lies k hk h hh o e
def zOl(hU:Qc)(h:Nat):Qf:=(yB hU.length).filter λk=>decide (hU.getD k none=some h)
def ztd(R:Qf)(hU:Qc):Qg:=(yB R.length).map λh=>(R.getD h 0:Int)-(hU.count (some h):Nat)
def zav{hU:Qc}(hn:O[n]?=some (.lst (hU.map onD)))(hl:hU.length<=1000)(q:∀(l:Nat)(O':Mem),tm O O'->O.length<=l->O'[l]?=some (.lst (nat (zOl hU h)))->Q (.loc l) O'):WF zfm [.loc n,.int h] O Q:=by
 refine zLb rfl ?_;show WS zDm [some (.loc n),some (.int h)] O _ _ _ _;unfold zDm
 repeat walk_at "w"
 refine zZi (zd rfl (.inr (.inr ⟨n,_,rfl,hn,zfc (by rw[zld,Lv];omega),?_⟩)));rw[zde onD hU none];refine z8d (λ(k:Nat) =>.tup [.int k,onD (hU.getD k none)]) (yB hU.length) (λ(k:Nat)=>D.int k) (λk=>decide (hU.getD k none=some h)) (λO' k=>zdb hn k) (λk hk O' kp=>?_) (λO' kp=>?_)
 ·repeat walk_at "w"
  refine zVu (α:=Qj) (hU.getD k none) (some h) ?_
  repeat walk_at "w"
  refine⟨rfl,kp,λ_=>?_⟩;unfold zXn;exact zd rfl ⟨rfl,kp⟩
 ·exact q _ _ kp.to kp.len zr
def zit{hU:Qc}(w:Wb L R K)(hn:O[n]?=some (.lst (hU.map onD)))(q:∀(l:Nat)(O':Mem),tm O O'->O.length<=l->O'[l]?=some (.lst ((ztd R hU).map .int))->Q (.loc l) O'):WF zJh [wn R K,.loc n] O Q:=by
 have kX:=w.rl;refine zLb rfl ?_;show WS zMl [some (wn R K),some (.loc n)] O _ _ _ _;unfold zMl
 repeat walk_at "w"
 refine zZi ?_
 repeat walk_at "w"
 refine z4o (.inl ⟨_,rfl,zfc (by rw[zld,Lv];omega),?_⟩);rw[zde (λ(k:Nat)=>D.int k) R 0];refine zgg (λ(k:Nat) =>.tup [.int k,.int (R.getD k 0:Nat)]) (yB R.length) (λ(k:Nat)=>D.int ((R.getD k 0:Int)-(hU.count (some k):Nat))) (λ_ _=>rfl) (λk hk O' kp=>?_) (λO' kp=>?_)
 ·repeat walk_at "w"
  refine⟨_,_,rfl,kp _ _ hn,?_⟩
  repeat walk_at "w"
  refine zfs (kp _ _ hn) ?_
  repeat walk_at "w"
  exact⟨rfl,kp,kp⟩
 ·refine q _ _ kp.to kp.len ?_;rw[zr];unfold ztd;rw[Nh];rfl
def z8m(K:Qd)(ds:Wm)(k:Nat):Bool:=!zpx (ds.getD k .non) && !((nat (K.getD k [])).any λy=>eqF y (ds.getD k .non))
def zhs(R:Qf)(ds:Wm)(h:Nat):Bool:=decide ((R.getD h 0:Nat)<(zww ds h:Int))
def zWl(R:Qf)(K:Qd)(ds:Wm):D:=match(yB K.length).find? (z8m K ds) with
 |some k =>.tup [.str "home",.int k]
 |none=>match(yB R.length).find? (zhs R ds) with
  |some h =>.tup [.str "room",.int h]
  |none =>.non
def zqu(w:Wb L R K)(hf:ds.all zVc=true)(hn:O[n]?=some (.lst ds))(q:∀(l:Nat)(O':Mem),tm O O'->O.length<=l->O'[l]?=some (.lst (((yB R.length).map λh=>(R.getD h 0:Int)-(zww ds h:Nat)).map .int))->Q (.loc l) O'):WF zJh [wn R K,.loc n] O Q:=by
 have kX:=w.rl;refine zLb rfl ?_;show WS zMl [some (wn R K),some (.loc n)] O _ _ _ _;unfold zMl
 repeat walk_at "w"
 refine zZi ?_
 repeat walk_at "w"
 refine z4o (.inl ⟨_,rfl,zfc (by rw[zld,Lv];omega),?_⟩);rw[zde (λ(k:Nat)=>D.int k) R 0];refine zgg (λ(k:Nat) =>.tup [.int k,.int (R.getD k 0:Nat)]) (yB R.length) (λ(k:Nat)=>D.int ((R.getD k 0:Int)-(zww ds k:Nat))) (λ_ _=>rfl) (λk hk O' kp=>?_) (λO' kp=>?_)
 ·repeat walk_at "w"
  refine⟨_,_,rfl,kp _ _ hn,?_⟩
  repeat walk_at "w"
  refine zss (kp _ _ hn) rfl hf ?_
  repeat walk_at "w"
  exact⟨rfl,kp,kp⟩
 ·refine q _ _ kp.to kp.len ?_;rw[zr,Nh];rfl
def zIu(hf:ds.all zVc=true){k:Nat}{d:D}(h:ds[k]?=some d):zVc d=true:=List.all_eq_true.mp hf d (Nt h)
def zTt(w:Wb L R K)(hf:ds.all zVc=true)(hl:ds.length=K.length)(hn:O[n]?=some (.lst ds))(q:∀(O':Mem),tm O O'->Q (zWl R K ds) O'):WF zbm [wn R K,.loc n] O Q:=by
 have kX:=w.rl;refine zLb rfl ?_;show WS zAm [some (wn R K),some (.loc n),none,none,none] O _ _ _ _;unfold zAm;refine zw (z0f (zZi (zd rfl (.inr (.inr ⟨n,_,rfl,hn,?_⟩)))));refine z7b (λm J O'=>∃a b:Wn,J=[some (wn R K),some (.loc n),a,b,none]/\O'=O/\∀j<m,z8m K ds j=false) ⟨_,_,rfl,rfl,by simp⟩ (λm J O' h=>by obtain⟨_,_,_,rfl,_⟩:=h;exact zdb hn .refl) ?_ ?_
 ·rintro m x J O' hx ⟨a,b,rfl,rfl,hb⟩;obtain⟨y,hy,rfl⟩:=zrm hx;have hm:m<ds.length:=(List.getElem?_eq_some_iff.mp hy).1;have hfy:=zIu hf hy;have hgy:ds.getD m .non=y:=by rw[Lp,hy];rfl
  have hgo:z8m K ds m=false->∀j<m+1,z8m K ds j=false:=λh j hj=>by
   by_cases e:j=m
   ·subst e;exact h
   ·exact hb j (by omega)
  repeat walk_at "w"
  refine zMj hfy ?_
  repeat walk_at "w"
  refine⟨λh1=>?_,λh1=>⟨λhc=>(by cases hc),λ_=>?_⟩⟩
  ·repeat walk_at "w"
   refine zsk ?_
   repeat walk_at "w"
   refine zUs (by omega) ?_;refine zHt rfl hfy (zXm _) ?_
   repeat walk_at "w"
   refine⟨λh2=>?_,λh2=>?_⟩
   ·repeat walk_at "w"
    have hh:z8m K ds m=true:=by
     unfold z8m;rw[hgy,h1,h2];rfl
    have:=q O' .refl;unfold zWl at this;rw[zGl hh (by omega) hb]at this;exact this
   ·repeat walk_at "w"
    refine⟨_,_,rfl,rfl,hgo ?_⟩;unfold z8m;rw[hgy,h2,Bool.and_false]
  ·repeat walk_at "w"
   refine⟨_,_,rfl,rfl,hgo ?_⟩;unfold z8m;rw[hgy,h1,Bool.false_and]
 ·rintro J O' ⟨a,b,rfl,rfl,hb⟩;rw[zld,hl]at hb;refine zw (z0f (zZi (zu (ze (zd rfl (ze (zd rfl (zt ?_))))))));refine zqu w hf hn λl O1 k1 hl1 g1 =>.inr (.inr ⟨l,_,rfl,g1,?_⟩);rw[zde D.int _ 0];refine z7b (λm J O'=>∃a b c:Wn,J=[some (wn R K),some (.loc n),a,b,c]/\O'=O1/\∀j<m,zhs R ds j=false) ⟨_,_,_,rfl,rfl,by simp⟩ (λm J O' h=>by obtain⟨_,_,_,_,rfl,_⟩:=h;exact zdb g1 .refl) ?_ ?_
  ·rintro m x J O2 hx ⟨a,b,c,rfl,rfl,hr⟩
   have hm:m<R.length:=by
    have:=(List.getElem?_eq_some_iff.mp hx).1;simpa using this
   have ex:x=.tup [.int m,.int ((R.getD m 0:Int)-(zww ds m:Nat))]:=by
    rw[yi]at hx;simp[hm]at hx;rw[<-hx];simp[hm]
   subst ex
   repeat walk_at "w"
   have hdec:decide ((R.getD m 0:Int)-(zww ds m:Nat)<0)=zhs R ds m:=by
    unfold zhs;exact decide_eq_decide.mpr (by omega)
   rw[hdec];refine⟨λh1=>?_,λh1=>?_⟩
   ·repeat walk_at "w"
    have:=q O2 k1;unfold zWl at this;rw[z8f hb,zGl h1 hm hr]at this;exact this
   ·repeat walk_at "w"
    refine⟨_,_,_,rfl,rfl,λj hj=>?_⟩
    by_cases e:j=m
    ·subst e;exact h1
    ·exact hr j (by omega)
  ·rintro J O2 ⟨a,b,c,rfl,rfl,hr⟩;simp only[Lv,Lw]at hr
   repeat walk_at "w"
   have:=q O2 k1;unfold zWl at this;rw[z8f hb,z8f hr]at this;exact this
def zpp{hU:Qc}(hh:h<R.length):atI ((ztd R hU).map D.int) (h:Int)=some (.int ((R.getD h 0:Int)-(hU.count (some h):Nat))):=zXb (by unfold ztd;simp[hh])
def z6v(R:Qf):nat R=(ztd R []).map D.int:=by
 refine Lj λi=>?_;unfold ztd
 by_cases hi:i<R.length
 ·simp[hi]
 ·rw[Yr (by simp;omega),Yr (by simp;omega)]
def zYq{hU:Qc}(hh:h<R.length):((ztd R hU).map D.int).set h (.int ((R.getD h 0:Int)-(hU.count (some h):Nat)-1))=(ztd R (hU++[some h])).map D.int:=by
 refine Lj λi=>?_;unfold ztd
 by_cases hi:i<R.length
 ·by_cases e:h=i
  ·subst e;rw[yN (by simpa using hh)];simp only[yi,List.getElem?_range hi,Xe,Lh,List.count_singleton_self]
   congr 2
   omega
  ·rw[yL e];simp only[yi,List.getElem?_range hi,Xe,Lh];rw[List.count_cons_of_ne (by simpa using e)];simp
 ·rw[Yr (by simp;omega),Yr (by simp;omega)]
abbrev PT:=List (Nat×Nat×Qj)
def dkP(P:PT):Wp:=P.map λp=>((p.1:Int),.tup [.int (p.2.1:Nat),onD p.2.2])
def z3p(P:PT):z2f (dkP P)=nat (P.map (·.1)):=by
 unfold z2f dkP;rw[Nh,znh];rfl
def zxo(P:PT)(h:Nat):((dkP P).any λp=>decide (p.1=(h:Int)))=decide (h∈P.map (·.1)):=by
 refine zwg ?_;unfold dkP;rw[Ld,Lc];simp only[Function.comp,decide_eq_true_iff,Nr];constructor
 ·rintro⟨p,hp,e⟩;exact⟨p,hp,by omega⟩
 ·rintro⟨p,hp,e⟩;exact⟨p,hp,by omega⟩
def zok{P:PT}:(zPc (dkP P) (h:Int)).isSome=decide (h∈P.map (·.1)):=by
 rw[<-zxo,Bool.eq_iff_iff];unfold zPc;rw[Option.isSome_map,List.find?_isSome,Lc]
def z4v{P:PT}(nd:(P.map (·.1)).Nodup){p:Nat×Nat×Qj}(hp:p∈P):zPc (dkP P) (p.1:Int)=some (.tup [.int (p.2.1:Nat),onD p.2.2]):=by
 induction P with
 |nil=>cases hp
 |cons q P ih=>
  rw[Ng,Ny]at nd
  have e:zPc (dkP (q::P)) (p.1:Int)=if(q.1:Int)=p.1 then some (.tup [.int (q.2.1:Nat),onD q.2.2]) else zPc (dkP P) (p.1:Int):=by
   unfold zPc dkP;rw[Ng,Xf]
   by_cases h:(q.1:Int)=p.1
   ·simp[h]
   ·simp[h]
  rw[e];rcases List.mem_cons.mp hp with rfl|hp
  ·rw[if_pos rfl]
  ·rw[if_neg,ih nd.2 hp];intro h;refine nd.1 (List.mem_map.mpr ⟨p,hp,by omega⟩)
def zNs{P:PT}{f:Qj}(hn:h∉P.map (·.1)):zYk (dkP P) (h:Int) (.tup [.int k,onD f])=dkP (P++[(h,k,f)]):=by
 unfold zYk;rw[zxo,decide_eq_false hn,if_neg yA];simp[dkP]
def z8v{P:PT}{f:Qj}(hn:h∈P.map (·.1))(ha:∀p∈P,p.2=(k,f)):zYk (dkP P) (h:Int) (.tup [.int k,onD f])=dkP P:=by
 unfold zYk;rw[zxo,decide_eq_true hn,if_pos rfl];unfold dkP;rw[Nh];refine Nf λp hp=>?_;simp only[Function.comp]
 split
 ·rw[ha p hp]
 ·rfl
def PR(P:PT)(f:Qj)(r:Nat):Prop:=(f=none/\r=0)\/∃(i:Nat)(p:Nat×Nat×Qj),P[i]?=some p/\f=some p.1/\r=i+1
def Rk(P:PT)(b:Nat):Prop:=∀(i:Nat) p a,P[i]?=some p->PR P p.2.2 a->a<=b
structure Tree(R:Qf)(K:Qd)(hU:Qc)(key:Nat)(P:PT):Prop where
 nd:(P.map (·.1)).Nodup
 lt:∀p∈P,p.1<R.length
 ok:∀(i:Nat) p,P[i]?=some p->p.2.1<K.length/\p.1∈K.getD p.2.1 []/\((p.2.2=none/\p.2.1=key)\/∃(j:Nat)(q:Nat×Nat×Qj),j<i/\P[j]?=some q/\p.2.2=some q.1/\hU.getD p.2.1 none=some q.1)
 mono:∀(i j:Nat) p q a b,i<j->P[i]?=some p->P[j]?=some q->PR P p.2.2 a->PR P q.2.2 b->a<=b
def zoq{P:PT}(nd:(P.map (·.1)).Nodup){i j:Nat}{p q:Nat×Nat×Qj}(e1:P[i]?=some p)(e2:P[j]?=some q)(h:p.1=q.1):i=j:=by
 have h1:(P.map (·.1))[i]?=some p.1:=by rw[yi,e1];rfl
 have h2:(P.map (·.1))[j]?=some p.1:=by rw[yi,e2,h];rfl
 obtain⟨a,h1⟩:=List.getElem?_eq_some_iff.mp h1;obtain⟨b,h2⟩:=List.getElem?_eq_some_iff.mp h2;have pw:=List.pairwise_iff_getElem.mp nd;rcases Nat.lt_trichotomy i j with h|h|h
 ·exact absurd (h1.trans h2.symm) (pw i j a b h)
 ·exact h
 ·exact absurd (h2.trans h1.symm) (pw j i b a h)
def PR.uniq{P:PT}(nd:(P.map (·.1)).Nodup){f:Qj}{a b:Nat}(h1:PR P f a)(h2:PR P f b):a=b:=by
 rcases h1 with ⟨e1,rfl⟩|⟨i,p,ep,e1,rfl⟩
 ·rcases h2 with ⟨_,rfl⟩|⟨j,q,eq,e2,rfl⟩
  ·rfl
  ·rw[e1]at e2;cases e2
 ·rcases h2 with ⟨e2,_⟩|⟨j,q,eq,e2,rfl⟩
  ·rw[e2]at e1;cases e1
  ·rw[e1]at e2;rw[zoq nd ep eq (by injection e2)]
def PR.app{P E:PT}{f:Qj}(h:PR P f a):PR (P++E) f a:=by
 rcases h with h|⟨i,p,ep,e1,rfl⟩
 ·exact .inl h
 ·exact .inr ⟨i,p,by rw[yg (List.getElem?_eq_some_iff.mp ep).1];exact ep,e1,rfl⟩
def Tree.rank{hU:Qc}{key:Nat}{P:PT}(t:Tree R K hU key P){i:Nat}{p:Nat×Nat×Qj}(e:P[i]?=some p):∃a,PR P p.2.2 a/\a<=i:=by
 rcases(t.ok i p e).2.2 with ⟨h,_⟩|⟨j,q,hj,eq,h,_⟩
 ·exact⟨0,.inl ⟨h,rfl⟩,Ys _⟩
 ·exact⟨j+1,.inr ⟨j,q,eq,h,rfl⟩,hj⟩
def Tree.len{hU:Qc}{key:Nat}{P:PT}(t:Tree R K hU key P):P.length<=R.length:=by
 have:=zjc t.nd (m:=yB R.length) λx hx=>by
  obtain⟨p,hp,rfl⟩:=List.mem_map.mp hx;simpa using t.lt p hp
 simpa using this
def Tree.add{hU:Qc}{key:Nat}{P:PT}(t:Tree R K hU key P){h k:Nat}{f:Qj}(hn:h∉P.map (·.1))(hr:h<R.length)(hk:k<K.length)(hm:h∈K.getD k []){b:Nat}(hb:Rk P b)(hp:PR P f b)
 (hf:(f=none/\k=key)\/∃(j:Nat)(q:Nat×Nat×Qj),P[j]?=some q/\f=some q.1/\hU.getD k none=some q.1):Tree R K hU key (P++[(h,k,f)]):=by
 have nd':((P++[(h,k,f)]).map (·.1)).Nodup:=by
  rw[Nd,Nx];refine⟨t.nd,by simp,λa ha b hb=>?_⟩;simp at hb;subst hb;exact λe=>hn (e▸ha)
 refine⟨nd',λp hp=>?_,λi p e=>?_,λi j p q a c hij ei ej ha hc=>?_⟩
 ·rcases List.mem_append.mp hp with hp|hp
  ·exact t.lt p hp
  ·rw[List.mem_singleton.mp hp];exact hr
 ·by_cases hi:i<P.length
  ·rw[yg hi]at e;obtain⟨h1,h2,h3⟩:=t.ok i p e;refine⟨h1,h2,?_⟩;rcases h3 with h3|⟨j,q,hj,eq,h4⟩
   ·exact .inl h3
   ·exact .inr ⟨j,q,hj,by rw[yg (by omega)];exact eq,h4⟩
  ·rw[yC (by omega)]at e
   have hi0:i-P.length=0:=by
    have:=(List.getElem?_eq_some_iff.mp e).1;simp at this;omega
   rw[hi0]at e;have e:(h,k,f)=p:=by simpa using e
   subst e;refine⟨hk,hm,?_⟩;rcases hf with hf|⟨j,q,eq,h4⟩
   ·exact .inl hf
   ·have hj:=(List.getElem?_eq_some_iff.mp eq).1;exact .inr ⟨j,q,by omega,by rw[yg hj];exact eq,h4⟩
 ·have hi:i<P.length:=by
   have:=(List.getElem?_eq_some_iff.mp ej).1;simp at this;omega
  rw[yg hi]at ei;obtain⟨a',ha',_⟩:=t.rank ei;have ea:=PR.uniq nd' ha ha'.app;subst ea
  by_cases hj:j<P.length
  ·rw[yg hj]at ej;obtain⟨c',hc',_⟩:=t.rank ej;have ec:=PR.uniq nd' hc hc'.app;subst ec;exact t.mono i j p q _ _ hij ei ej ha' hc'
  ·rw[yC (by omega)]at ej
   have hj0:j-P.length=0:=by
    have:=(List.getElem?_eq_some_iff.mp ej).1;simp at this;omega
   rw[hj0]at ej;have ej:(h,k,f)=q:=by simpa using ej
   subst ej;have ec:=PR.uniq nd' hc hp.app;subst ec;exact hb i p _ ei ha'
def Rk.add{hU:Qc}{key:Nat}{P:PT}(t:Tree R K hU key P){h k:Nat}{f:Qj}{b:Nat}(t2:Tree R K hU key (P++[(h,k,f)]))(hb:Rk P b)(hp:PR P f b):Rk (P++[(h,k,f)]) b:=by
 intro i p a e ha
 by_cases hi:i<P.length
 ·rw[yg hi]at e;obtain⟨a',ha',_⟩:=t.rank e;have ea:=PR.uniq t2.nd ha ha'.app;subst ea;exact hb i p _ e ha'
 ·rw[yC (by omega)]at e
  have hi0:i-P.length=0:=by
   have:=(List.getElem?_eq_some_iff.mp e).1;simp at this;omega
  rw[hi0]at e;have e:(h,k,f)=p:=by simpa using e
  subst e;rw[PR.uniq t2.nd ha hp.app];exact yh _
structure Bfs(R:Qf)(K:Qd)(hU:Qc)(key:Nat)(P:PT):Prop where
 tree:Tree R K hU key P
 home:∀h∈K.getD key [],∃(i:Nat)(p:Nat×Nat×Qj),P[i]?=some p/\p.1=h/\p.2.2=none
 next:∀(i:Nat) p,P[i]?=some p->∀o,hU.getD o none=some p.1->∀h∈K.getD o [],∃(j:Nat)(q:Nat×Nat×Qj)(a:Nat),P[j]?=some q/\q.1=h/\PR P q.2.2 a/\a<=i+1
def ztr(d l:Nat)(O ν:Mem):Prop:=∀i o,i≠d->i≠l->O[i]?=some o->ν[i]?=some o
def zMu{hU:Qc}{key d l2 at_ o:Nat}{P0:PT}{q:Nat×Nat×Qj}{x4:Wn}{ν:Mem}(w:Wb L R K)(t:Tree R K hU key P0)(ho:o<K.length)(hq:P0[at_]?=some q)(hlo:hU.getD o none=some q.1)
 (hrk:Rk P0 (at_+1)) (hl2:d<l2) (gd:ν[d]?=some (.dct (dkP P0))) (gl:ν[l2]?=some (.lst (nat (P0.map (·.1)))))
 (k:∀(P:PT)(x:Wn)(ν':Mem),(∃E,P=P0++E)->Tree R K hU key P->Rk P (at_+1)->(∀h∈K.getD o [],h∈P.map (·.1))->ztr d l2 ν ν'->ν'[d]?=some (.dct (dkP P))->ν'[l2]?=some (.lst (nat (P.map (·.1))))->nx [some (wn R K),some (.loc n),some (.int key),some (.loc d),x,some (.loc l2),some (.int at_),some (.int o)] ν') :
 WS zmf [some (wn R K),some (.loc n),some (.int key),some (.loc d),x4,some (.loc l2),some (.int at_),some (.int o)] ν nx rt bk ct:=by
 unfold zmf;refine z0f (zFd (zo (zo (zd rfl (w_c (zsk (zd rfl (zUs ho (.inl ⟨_,rfl,?_⟩)))))))));refine z7b (λm J ν'=>∃(P:PT)(x:Wn),J=[some (wn R K),some (.loc n),some (.int key),some (.loc d),x,some (.loc l2),some (.int at_),some (.int o)]/\(∃E,P=P0++E)/\Tree R K hU key P/\Rk P (at_+1)/\(∀h∈(K.getD o []).take m,h∈P.map (·.1))/\ztr d l2 ν ν'/\ν'[d]?=some (.dct (dkP P))/\ν'[l2]?=some (.lst (nat (P.map (·.1))))) ⟨P0,_,rfl,⟨[],by simp⟩,t,hrk,by simp,λ_ _ _ _ e=>e,gd,gl⟩ (λ_ _ _ _=>rfl) ?_ ?_
 ·rintro m x J ν1 hx ⟨P,y,rfl,⟨E,hE⟩,tP,rP,hm,k1,g1,g2⟩;rw[yi]at hx
  cases hy:(K.getD o [])[m]? with
  |none=>rw[hy]at hx;cases hx
  |some h=>
   rw[hy]at hx;cases hx;have kJ:=Nt hy;have htk:(K.getD o []).take (m+1)=(K.getD o []).take m++[h]:=by rw[Vj,hy];rfl
   have kK:=tP.len;have kX:=w.rl
   have hat:(P.map (·.1))[at_]?=some q.1:=by
    have kH:=(List.getElem?_eq_some_iff.mp hq).1;rw[hE,Nd,yg (by simpa using kH),yi,hq];rfl
   refine zsd ?_;unfold zci;refine zEf (zG (zo (zd rfl (zd rfl (zSu (zZ g1) ⟨_,rfl,λhb=>?_,λhb=>zfb ?_⟩)))))
   ·have kO:h∉P.map (·.1):=by
     rw[zok]at hb;simpa using hb
    refine zw (zqh (zbg (ze (zd rfl (ze (zo (zd rfl (zd rfl (zmc (zB g2) (zXb (v:=.int (q.1:Nat)) (by rw[yi,hat];rfl)) (zt ?_))))))))));refine zJn (zd rfl (zd rfl ⟨_,_,_,rfl,rfl,g1,by simp[dkP];omega,?_⟩));rw[show(D.tup [.int (o:Nat),.int (q.1:Nat)])=.tup [.int (o:Nat),onD (some q.1)] from rfl,zNs kO];have g1':=zY (o':=tx.dct (dkP (P++[(h,o,some q.1)]))) g1;have g2':=z7 (o':=tx.dct (dkP (P++[(h,o,some q.1)]))) g2 (by omega:d≠l2);refine z6i (zdk (zd rfl ⟨_,_,rfl,g2',?_⟩));refine ze (zd rfl (zt ?_));refine zrj g2' (by rw[Lv,Lv];omega) ?_
    have hatP:P[at_]?=some q:=by
     have kH:=(List.getElem?_eq_some_iff.mp hq).1;rw[hE,yg kH];exact hq
    have hpr:PR P (some q.1) (at_+1) :=.inr ⟨at_,q,hatP,rfl,rfl⟩;have tP2:=tP.add kO ((w.key ho).2 h kJ) ho kJ rP hpr (.inr ⟨at_,q,hatP,rfl,hlo⟩);refine⟨P++[(h,o,some q.1)],_,rfl,⟨E++[(h,o,some q.1)],by rw[hE];simp⟩,tP2,Rk.add tP tP2 rP hpr,λg hg=>?_,λi o' hi1 hi2 e'=>z7 (z7 (k1 i o' hi1 hi2 e') (yR hi1)) (yR hi2),z7 g1' (by omega),?_⟩
    ·rw[htk]at hg;rw[Nd,Nj];rcases List.mem_append.mp hg with hg|hg
     ·exact .inl (hm g hg)
     ·rw[List.mem_singleton.mp hg];exact .inr (by simp)
    ·rw[zY g2',Nd,zHc];rfl
   ·have hold:h∈P.map (·.1):=by
     rw[zok]at hb;simpa using hb
    refine⟨P,_,rfl,⟨E,hE⟩,tP,rP,λg hg=>?_,k1,g1,g2⟩;rw[htk]at hg;rcases List.mem_append.mp hg with hg|hg
    ·exact hm g hg
    ·rw[List.mem_singleton.mp hg];exact hold
 ·rintro J ν1 ⟨P,y,rfl,hE,tP,rP,hm,k1,g1,g2⟩;rw[Lv,Vh]at hm;exact k P y ν1 hE tP rP hm k1 g1 g2
def zRo{hU:Qc}{key:Nat}(w:Wb L R K)(hW:hU.length=K.length)(hL:L<=1000)(hn:O[n]?=some (.lst (hU.map onD)))(hk:key<K.length)
 (q:∀(P:PT)(d:Nat)(O':Mem),Bfs R K hU key P->tm O O'->O.length<=d->O'[d]?=some (.dct (dkP P))->Q (.loc d) O'):WF zvf [wn R K,.loc n,.int key] O Q:=by
 have kX:=w.rl;have kY:=w.kl;refine zLb rfl ?_;show WS zMf [some (wn R K),some (.loc n),some (.int key),none,none,none,none,none] O _ _ _ _;unfold zMf;refine zw (z5 (zcw (zw (z0f (zFd (zo (zo (zd rfl (w_c (zsk (zd rfl (zUs hk (.inl ⟨_,rfl,?_⟩))))))))))))) ;refine z7b (λm J ν=>∃(P:PT)(x:Wn),J=[some (wn R K),some (.loc n),some (.int key),some (.loc O.length),x,none,none,none]/\Tree R K hU key P/\(∀p∈P,p.2=(key,none))/\(∀h∈(K.getD key []).take m,h∈P.map (·.1))/\tm O ν/\ν[O.length]?=some (.dct (dkP P))) ⟨[],_,rfl,⟨by simp,by simp,λi p e=>by simp at e,λi j p q a b _ e=>by simp at e⟩,by simp,by simp,.app,zr⟩ (λ_ _ _ _=>rfl) ?_ ?_
 ·rintro m x J ν1 hx ⟨P,y,rfl,tP,ha,hm,k1,g1⟩;rw[yi]at hx
  cases hy:(K.getD key [])[m]? with
  |none=>rw[hy]at hx;cases hx
  |some h=>
   rw[hy]at hx;cases hx;have kJ:=Nt hy;have htk:(K.getD key []).take (m+1)=(K.getD key []).take m++[h]:=by rw[Vj,hy];rfl
   have kK:=tP.len;refine zsd ?_;unfold zAh;refine zqh (zbg (ze (zd rfl (ze (w_c (zt ?_))))));refine zJn (zd rfl (zd rfl ⟨_,_,_,rfl,rfl,g1,by simp[dkP];omega,?_⟩));rw[show(D.tup [.int (key:Nat),.non])=.tup [.int (key:Nat),onD none] from rfl];have kk:∀o':tx,tm O (ν1.set O.length o'):=λo' i o e=>z7 (k1 i o e) (yX (zF e));have ha0:∀p∈P,p.2.2=none:=λp hp=>by rw[ha p hp]
   by_cases hin:h∈P.map (·.1)
   ·rw[z8v hin ha];refine⟨P,_,rfl,tP,ha,λg hg=>?_,kk _,zY g1⟩;rw[htk]at hg;rcases List.mem_append.mp hg with hg|hg
    ·exact hm g hg
    ·rw[List.mem_singleton.mp hg];exact hin
   ·rw[zNs hin]
    have r0:Rk P 0:=λi p a e ha=>by
     rw[ha0 p (Nt e)]at ha;rcases ha with ⟨_,rfl⟩|⟨_,_,_,h,_⟩
     ·exact yh _
     ·cases h
    refine⟨P++[(h,key,none)],_,rfl,tP.add hin ((w.key hk).2 h kJ) hk kJ r0 (.inl ⟨rfl,rfl⟩) (.inl ⟨rfl,rfl⟩),λp hp=>?_,λg hg=>?_,kk _,zY g1⟩
    ·rcases List.mem_append.mp hp with hp|hp
     ·exact ha p hp
     ·rw[List.mem_singleton.mp hp]
    ·rw[htk]at hg;rw[Nd,Nj];rcases List.mem_append.mp hg with hg|hg
     ·exact .inl (hm g hg)
     ·rw[List.mem_singleton.mp hg];exact .inr (by simp)
 ·rintro J ν1 ⟨P0,y,rfl,tP0,ha0,hm0,k1,g1⟩;rw[Lv,Vh]at hm0;refine zw (z5 (zu (ze (zd rfl (zt (zsx (zZ g1) ?_))))));rw[z3p];have hl2:O.length<ν1.length:=zF g1
  have hm1:∀h∈K.getD key [],∃(i:Nat)(p:Nat×Nat×Qj),P0[i]?=some p/\p.1=h/\p.2.2=none:=λh hh=>by
   obtain⟨p,hp,e⟩:=List.mem_map.mp (hm0 h hh);obtain⟨i,hi,e2⟩:=List.mem_iff_getElem.mp hp;exact⟨i,p,by rw[<-e2];simp[hi],e,by rw[ha0 p hp]⟩
  have r0:Rk P0 0:=λi p a e ha=>by
   rw[show p.2.2=none by rw[ha0 p (Nt e)]]at ha;rcases ha with ⟨_,rfl⟩|⟨_,_,_,h,_⟩
   ·exact yh _
   ·cases h
  refine zw (z5 (w_c (zw ?_)));refine zyk (λm J ν=>∃(P:PT)(at_:Nat)(x y:Wn),m=R.length-at_/\at_<=P.length/\J=[some (wn R K),some (.loc n),some (.int key),some (.loc O.length),x,some (.loc ν1.length),some (.int at_),y]/\Tree R K hU key P/\Rk P at_/\(∀h∈K.getD key [],∃(i:Nat)(p:Nat×Nat×Qj),P[i]?=some p/\p.1=h/\p.2.2=none)/\(∀(i:Nat) p,i<at_->P[i]?=some p->∀o,hU.getD o none=some p.1->∀h∈K.getD o [],∃(j:Nat)(q:Nat×Nat×Qj)(a:Nat),P[j]?=some q/\q.1=h/\PR P q.2.2 a/\a<=i+1)/\tm O ν/\ν[O.length]?=some (.dct (dkP P))/\ν[ν1.length]?=some (.lst (nat (P.map (·.1))))) (m:=R.length) (by omega) ⟨P0,0,_,_,by simp,by simp,rfl,tP0,r0,hm1,by simp,k1.to,zyc g1,zr⟩ ?_;rintro m J ν2 ⟨P,at_,x,y,rfl,hat,rfl,tP,rP,kG,kT,k2,g2,g3⟩;have kK:=tP.len
  repeat walk_at "w"
  refine zMe (zB g3) ?_;refine zJi ⟨_,rfl,λh1=>?_,λh1=>?_⟩
  ·have h1:at_<P.length:=by
    have:=of_decide_eq_true h1;simp only[Lv]at this;omega
   have hq:P[at_]?=some P[at_]:=by simp[h1]
   generalize P[at_]=q0 at hq;have hat':(P.map (·.1))[at_]?=some q0.1:=by rw[yi,hq];rfl
   unfold zVh;refine zw (z0f (zFd (zu (ze (zd rfl (ze (zo (zd rfl (zd rfl (zmc (zB g3) (zXb (v:=.int (q0.1:Nat)) (by rw[yi,hat'];rfl)) (zt ?_)))))))))));refine zav (h:=q0.1) (k2 _ _ hn) (by omega) λl4 ν4 k4 hl4 g4 =>.inr (.inr ⟨l4,_,rfl,g4,?_⟩);have hν2:=zF g3;refine z7b (λj J ν=>∃(P':PT)(x y:Wn),J=[some (wn R K),some (.loc n),some (.int key),some (.loc O.length),x,some (.loc ν1.length),some (.int at_),y]/\(∃E,P'=P++E)/\Tree R K hU key P'/\Rk P' (at_+1)/\(∀o∈(zOl hU q0.1).take j,∀h∈K.getD o [],h∈P'.map (·.1))/\tm O ν/\ν[O.length]?=some (.dct (dkP P'))/\ν[ν1.length]?=some (.lst (nat (P'.map (·.1))))/\ν[l4]?=some (.lst (nat (zOl hU q0.1)))) ⟨P,_,_,rfl,⟨[],by simp⟩,tP,λi p a e h=>Nat.le_succ_of_le (rP i p a e h),by simp,k2.trans k4,k4 _ _ g2,k4 _ _ g3,g4⟩ (λj J ν ⟨_,_,_,_,_,_,_,_,_,_,_,h⟩=>zdb h .refl) ?_ ?_
   ·rintro j z J ν5 hz ⟨P',x',y',rfl,⟨E,hE⟩,tP',rP',hdone,k5,g5,g6,g7⟩;rw[yi]at hz
    cases ho:(zOl hU q0.1)[j]? with
    |none=>rw[ho]at hz;cases hz
    |some o=>
     rw[ho]at hz;cases hz;have hom:=Nt ho;have hom':=List.mem_filter.mp hom;have hol:o<K.length:=by rw[<-hW];simpa using hom'.1
     have hlo:=of_decide_eq_true hom'.2;have htk:(zOl hU q0.1).take (j+1)=(zOl hU q0.1).take j++[o]:=by rw[Vj,ho];rfl
     have hq':P'[at_]?=some q0:=by rw[hE,yg h1];exact hq
     refine zsd ?_;have hl5:=zF g6;refine zMu w tP' hol hq' hlo rP' hl2 g5 g6 λP'' x'' ν6 ⟨E',hE'⟩ tP'' rP'' hall k6 g8 g9=>⟨P'',_,_,rfl,⟨E++E',by rw[hE',hE,Le]⟩,tP'',rP'',λo' ho' h hh=>?_,λi o' e'=>k6 i o' (yu (zF e')) (by have:=zF e';omega) (k5 i o' e'),g8,g9,k6 l4 _ (by omega) (by omega) g7⟩
     rw[htk]at ho';rcases List.mem_append.mp ho' with ho'|ho'
     ·rw[hE',Nd,Nj];exact .inl (hdone o' ho' h hh)
     ·rw[List.mem_singleton.mp ho']at hh;exact hall h hh
   ·rintro J ν5 ⟨P',x',y',rfl,⟨E,hE⟩,tP',rP',hdone,k5,g5,g6,g7⟩;rw[nat,Lv,Vh]at hdone;have kK':=tP'.len;refine zgA rfl (w_c (z2x ?_))
    have up:∀{j:Nat} {q:Nat×Nat×Qj},P[j]?=some q->P'[j]?=some q:=λ{j q} e=>by
     rw[hE,yg (List.getElem?_eq_some_iff.mp e).1];exact e
    refine⟨R.length-(at_+1),by omega,P',at_+1,_,_,rfl,by rw[hE];simp;omega,rfl,tP',rP',λh hh=>?_,λi p hi e o ho h hh=>?_,k5,g5,g6⟩
    ·obtain⟨i,p,e1,e2⟩:=kG h hh;exact⟨i,p,up e1,e2⟩
    ·by_cases hia:i<at_
     ·rw[hE,yg (by omega)]at e;obtain⟨j,q',a,e1,e2,e3,e4⟩:=kT i p hia e o ho h hh;exact⟨j,q',a,up e1,e2,by rw[hE];exact e3.app,e4⟩
     ·have:i=at_:=by omega
      subst this;rw[hE,yg h1,hq]at e;cases e
      have hin:=hdone o (by
       refine List.mem_filter.mpr ⟨?_,decide_eq_true ho⟩;rw[Nu];refine Nat.lt_of_not_le λhle=>?_;rw[Lp,Yr hle]at ho;cases ho) h hh
      obtain⟨q',hq1,hq2⟩:=List.mem_map.mp hin;obtain⟨j,hj,ej⟩:=List.mem_iff_getElem.mp hq1;have ej':P'[j]?=some q':=by rw[<-ej];simp[hj]
      obtain⟨a,ha,_⟩:=tP'.rank ej';exact⟨j,q',a,ej',hq2,ha,rP' j q' a ej' ha⟩
  ·refine zEb (zd rfl ?_)
   have h1:at_=P.length:=by
    have:=of_decide_eq_false h1;simp only[Lv]at this;omega
   refine q P _ ν2 ⟨tP,kG,λi p e o ho h hh=>kT i p ?_ e o ho h hh⟩ k2 (yh _) g2;have:=(List.getElem?_eq_some_iff.mp e).1;omega
abbrev pD(p:Nat×Nat):D:=.tup [.int (p.1:Nat),.int (p.2:Nat)]
inductive Path(P:PT)(hU:Qc):Nat->Qe->Prop
 |one {i:Nat} {p:Nat×Nat×Qj} (e:P[i]?=some p):Path P hU i [(p.2.1,p.1)]
 |up {i j:Nat} {p q:Nat×Nat×Qj} {row:Qe} (h:Path P hU i row) (e:P[i]?=some p) (eq:P[j]?=some q) (hj:j<i) (hf:p.2.2=some q.1) (hl:hU.getD p.2.1 none=some q.1):Path P hU j ((q.2.1,q.1)::row)
def Path.head{P:PT}{hU:Qc}(h:Path P hU i row):∃p r,P[i]?=some p/\row=(p.2.1,p.1)::r:=by
 cases h with
 |one e=>exact⟨_,_,e,rfl⟩
 |up h e eq hj hf hl=>exact⟨_,_,eq,rfl⟩
def Path.idx{P:PT}{hU:Qc}(h:Path P hU i row):∀x∈row,∃j p,i<=j/\P[j]?=some p/\x=(p.2.1,p.1):=by
 induction h with
 |one e=>intro x hx;rw[List.mem_singleton.mp hx];exact⟨_,_,yh _,e,rfl⟩
 |up h e eq hj hf hl ih=>
  intro x hx;rcases List.mem_cons.mp hx with rfl|hx
  ·exact⟨_,_,yh _,eq,rfl⟩
  ·obtain⟨m,p,hm,e',r⟩:=ih x hx;exact⟨m,p,by omega,e',r⟩
def Path.tail{P:PT}{hU:Qc}(h:Path P hU i row):∀x∈row.tail,∃j p,i<=j/\P[j]?=some p/\hU.getD x.1 none=some p.1:=by
 induction h with
 |one e=>intro x hx;cases hx
 |up h e eq hj hf hl ih=>
  intro x hx;obtain⟨p',r,e',er⟩:=h.head;rw[e]at e';cases e';rw[List.tail_cons,er]at hx;rcases List.mem_cons.mp hx with rfl|hx
  ·exact⟨_,_,yh _,eq,hl⟩
  ·obtain⟨m,p,hm,e',r⟩:=ih x (by rw[er];exact hx);exact⟨m,p,by omega,e',r⟩
def Path.link{P:PT}{hU:Qc}(h:Path P hU i row):∀n p q,row[n]?=some p->row[n+1]?=some q->hU.getD q.1 none=some p.2:=by
 induction h with
 |one e=>intro n p q _ e2;simp at e2
 |up h e eq hj hf hl ih=>
  intro n p q e1 e2
  cases n with
  |zero=>
   obtain⟨p',r,e',er⟩:=h.head;rw[e]at e';cases e';rw[er]at e2;simp at e1 e2;subst e1 e2;exact hl
  |succ n=>exact ih n p q (by simpa using e1) (by simpa using e2)
def Path.ndk{P:PT}{hU:Qc}{key:Nat}(t:Tree R K hU key P)(kG:hU.getD key none=none)(h:Path P hU i row):(row.map (·.1)).Nodup:=by
 induction h with
 |one e=>simp
 |@up i j p q row h e eq hj hf hl ih=>
  rw[Ng,Ny];refine⟨λhm=>?_,ih⟩;obtain⟨x,hx,ex⟩:=List.mem_map.mp hm;have ht:=(Path.up h e eq hj hf hl).tail x hx;obtain⟨m,p',hm',e',el⟩:=ht;rw[ex]at el;obtain⟨_,_,h3⟩:=t.ok j q eq;rcases h3 with ⟨_,h3⟩|⟨j',q',hj',eq',_,h4⟩
  ·simp only at el;rw[h3,kG]at el;cases el
  ·simp only at el;rw[h4]at el;have:=zoq t.nd eq' e' (by injection el);omega
def Path.ok{P:PT}{hU:Qc}{key:Nat}{p:Nat×Nat×Qj}(t:Tree R K hU key P)(kG:hU.getD key none=none)(h:Path P hU i row)(e:P[i]?=some p)(hp:p.2.2=none):tT K hU key row:=by
 refine⟨?_,λx hx=>?_,h.link,h.ndk t kG⟩
 ·obtain⟨p',r,e',er⟩:=h.head;rw[e]at e';cases e';rcases(t.ok i p e).2.2 with ⟨_,h3⟩|⟨_,_,_,_,h3,_⟩
  ·exact⟨p.1,r,by rw[er,h3]⟩
  ·rw[hp]at h3;cases h3
 ·obtain⟨j,q,_,eq,rfl⟩:=h.idx x hx;obtain⟨h1,h2,h3⟩:=t.ok j q eq;refine⟨h1,h2,?_⟩;rcases h3 with ⟨_,h3⟩|⟨j',q',hj',eq',_,h4⟩
  ·simp only;rw[h3,kG];exact λh=>by cases h
  ·simp only;rw[h4];intro h;have:=zoq t.nd eq' eq (by injection h);omega
inductive Dep(P:PT):Nat->Nat->Prop
 |base {i:Nat} {p:Nat×Nat×Qj} (e:P[i]?=some p) (h:p.2.2=none):Dep P i 1
 |step {i j d:Nat} {p q:Nat×Nat×Qj} (e:P[i]?=some p) (eq:P[j]?=some q) (h:p.2.2=some q.1) (hd:Dep P j d):Dep P i (d+1)
def Dep.pos{P:PT}{d:Nat}(h:Dep P i d):1<=d:=by cases h<;>omega
def Dep.ex{R:Qf}{K:Qd}{P:PT}{hU:Qc}{key:Nat}(t:Tree R K hU key P):∀(n i:Nat)(p:Nat×Nat×Qj),i<n->P[i]?=some p->∃d,Dep P i d
 |0,i,p,h,_=>absurd h (Nat.not_lt_zero _)
 |n+1,i,p,h,e=>by
  rcases(t.ok i p e).2.2 with ⟨h1,_⟩|⟨j,q,hj,eq,h1,_⟩
  ·exact⟨1,.base e h1⟩
  ·obtain⟨d,hd⟩:=Dep.ex t n j q (by omega) eq;exact⟨d+1,.step e eq h1 hd⟩
def Dep.mono{R:Qf}{K:Qd}{P:PT}{hU:Qc}{key:Nat}(t:Tree R K hU key P):∀(n i j a b:Nat),j<n->i<=j->Dep P i a->Dep P j b->a<=b
 |0,i,j,a,b,h,_,_,_=>absurd h (Nat.not_lt_zero _)
 |n+1,i,j,a,b,h,hij,ha,hb=>by
  cases ha with
  |base e he=>exact hb.pos
  |@step _ i' a' p p' e ep he hd=>
   have ra:PR P p.2.2 (i'+1) :=.inr ⟨i',p',ep,he,rfl⟩
   cases hb with
   |@base _ q eq hq=>
    exfalso;have rb:PR P q.2.2 0:=.inl ⟨hq,rfl⟩;rcases Nat.lt_or_eq_of_le hij with kH|rfl
    ·have:=t.mono i j p q _ _ kH e eq ra rb;omega
    ·rw[e]at eq;cases eq;rw[hq]at he;cases he
   |@step _ j' b' q q' eq eq' hq hd'=>
    have rb:PR P q.2.2 (j'+1) :=.inr ⟨j',q',eq',hq,rfl⟩
    have hle:i'+1<=j'+1:=by
     rcases Nat.lt_or_eq_of_le hij with kH|rfl
     ·exact t.mono i j p q _ _ kH e eq ra rb
     ·rw[e]at eq;cases eq;rw[PR.uniq t.nd ra rb];exact yh _
    have hj':j'<j:=by
     rcases(t.ok j q eq).2.2 with ⟨h1,_⟩|⟨j2,q2,hj2,eq2,h1,_⟩
     ·rw[hq]at h1;cases h1
     ·rw[hq]at h1;rw[zoq t.nd eq' eq2 (by injection h1)];exact hj2
    have:=Dep.mono t n i' j' a' b' (by omega) (by omega) hd hd';omega
def Path.dep{P:PT}{hU:Qc}(h:Path P hU i row):∀{d:Nat},Dep P i d->∃(il:Nat)(pl:Nat×Nat×Qj),P[il]?=some pl/\Dep P il (d+row.length-1)/\(row.getD (row.length-1) (0,0)).2=pl.1:=by
 induction h with
 |@one i p e=>intro d hd;exact⟨i,p,e,by simpa using hd,rfl⟩
 |@up i j p q row h e eq hj hf hl ih=>
  intro d hd;obtain⟨il,pl,el,dl,hl'⟩:=ih (.step e eq hf hd)
  have kW:0<row.length:=by
   obtain⟨_,r,_,er⟩:=h.head;rw[er];simp
  refine⟨il,pl,el,?_,?_⟩
  ·rw[Ls,show d+(row.length+1)-1=d+1+row.length-1 by omega];exact dl
  ·rw[<-hl',Ls,show row.length+1-1=(row.length-1)+1 by omega,List.getD_cons_succ]
structure Walk(K:Qd)(hU:Qc)(key:Nat)(row:Qe):Prop where
 first:∃h r,row=(key,h)::r
 mem:∀p∈row,p.2∈K.getD p.1 []
 link:∀i p q,row[i]?=some p->row[i+1]?=some q->hU.getD q.1 none=some p.2
def tT.walk{hU:Qc}{key:Nat}(r:tT K hU key row):Walk K hU key row:=⟨r.first,λp hp=>(r.mem p hp).2.1,r.link⟩
def Bfs.walk{R:Qf}{K:Qd}{P:PT}{hU:Qc}{key:Nat}{row:Qe}(b:Bfs R K hU key P)(w:Walk K hU key row):∀(n:Nat)(x:Nat×Nat),row[n]?=some x->∃(i:Nat)(p:Nat×Nat×Qj)(d:Nat),P[i]?=some p/\p.1=x.2/\Dep P i d/\d<=n+1
 |0,x,e=>by
  obtain⟨h,r,er⟩:=w.first
  have hx:x=(key,h):=by rw[er]at e;simpa using e.symm
  obtain⟨i,p,e1,e2,e3⟩:=b.home x.2 (by
   have:=w.mem x (Nt e);rw[hx]at this ⊢;exact this)
  exact⟨i,p,1,e1,e2,.base e1 e3,yh _⟩
 |n+1,x,e=>by
  have hn:n<row.length:=by
   have:=(List.getElem?_eq_some_iff.mp e).1;omega
  have ey:row[n]?=some row[n]:=by simp[hn]
  obtain⟨i,p,d,e1,e2,e3,e4⟩:=Bfs.walk b w n _ ey;have hl:=w.link n _ _ ey e;rw[<-e2]at hl;obtain⟨j,q,a,f1,f2,f3,f4⟩:=b.next i p e1 x.1 hl x.2 (w.mem x (Nt e));rcases f3 with ⟨g1,_⟩|⟨i',p',g1,g2,rfl⟩
  ·exact⟨j,q,1,f1,f2,.base f1 g1,by omega⟩
  ·obtain⟨d',hd'⟩:=Dep.ex b.tree (i'+1) i' p' (Ye _) g1;have:=Dep.mono b.tree (i+1) i' i d' d (Ye _) (by omega) hd' e3;exact⟨j,q,d'+1,f1,f2,.step f1 g1 g2 hd',by omega⟩
def z5t{hU:Qc}{key d i0:Nat}{p0:Nat×Nat×Qj}{P:PT}(t:Tree R K hU key P)(hR:R.length<=10)(kG:hU.getD key none=none)(hd:ztb O (.loc d)=some (dkP P))(hp0:P[i0]?=some p0)
 (q:∀(row:Qe) (l:Nat) (O':Mem),tT K hU key row->(row.getD (row.length-1) (0,0)).2=p0.1->Dep P i0 row.length->row.length<=P.length->tm O O'->O.length<=l->O'[l]?=some (.lst (row.map pD))->Q (.loc l) O'):WF zKj [.loc d,.int p0.1] O Q:=by
 have kK:=t.len;refine zLb rfl ?_;show WS zFj [some (.loc d),some (.int p0.1),none] O _ _ _ _;unfold zFj;refine zw (z5 (z1f (zt (zw ?_))));have hi0:=(List.getElem?_eq_some_iff.mp hp0).1
 have hdk:∀{O':Mem},tm O O'->ztb O' (.loc d)=some (dkP P):=λ{O'} kp=>by
  cases e:O[d]? with
  |none=>simp[e]at hd
  |some o=>
   have e':=kp _ _ e;simp only[ztb,e]at hd;simp only[ztb,e'];exact hd
 refine zyk (λm J ν=>∃(hZ:Qe) (f:Qj),J=[some (.loc d),some (onD f),some (.loc O.length)]/\tm O ν/\ν[O.length]?=some (.lst (hZ.map pD))/\hZ.length+m<=P.length /\
  ((f=none∧(∃ k,hZ[0]?=some (k,p0.1))∧∃ i p,Path P hU i hZ.reverse∧P[i]?=some p∧p.2.2=none) ∨
   (∃i p,m=i+1/\P[i]?=some p/\f=some p.1/\((hZ=[]/\p=p0)\/((∃k,hZ[0]?=some (k,p0.1))/\∃i' p',i<i'/\Path P hU i' hZ.reverse/\P[i']?=some p'/\p'.2.2=some p.1/\hU.getD p'.2.1 none=some p.1))))) (m:=i0+1) (by omega)
  ⟨[],some p0.1,rfl,.app,zr,by simp;omega,.inr ⟨i0,p0,rfl,hp0,rfl,.inl ⟨rfl,rfl⟩⟩⟩ ?_
 rintro m J ν ⟨hZ,f,rfl,kp,g,hW,h⟩;refine zG (zo (zd rfl (w_c (zMj (zxj _) ⟨_,rfl,λh1=>?_,λh1=>?_⟩))))
 ·rcases h with ⟨rfl,_⟩|⟨i,p,rfl,ep,rfl,h⟩
  ·cases h1
  ·have hlook:=z4v t.nd (Nt ep)
   have kO:Path P hU i ((p.2.1,p.1)::hZ.reverse):=by
    rcases h with ⟨rfl,rfl⟩|⟨_,i',p',hi',hpa,ep',hf,hl⟩
    ·exact .one ep
    ·exact .up hpa ep' ep hi' hf hl
   have hac:∃k,(hZ++[(p.2.1,p.1)])[0]?=some (k,p0.1):=by
    rcases h with ⟨rfl,rfl⟩|⟨⟨k,hk⟩,_⟩
    ·exact⟨p.2.1,rfl⟩
    ·refine⟨k,?_⟩;rw[yg (List.getElem?_eq_some_iff.mp hk).1];exact hk
   unfold zjl;refine zw (z6i (zdk (zd rfl ⟨_,_,rfl,g,?_⟩)));refine ze (zbg (ze (zo (zo (zd rfl (zd rfl (zNn (hdk kp) hlook (w_c (zmc rfl rfl (ze (zd rfl (zt (zt ?_)))))))))))));refine zrj g (by rw[Lv];omega) ?_;have kp2:tm O (ν.set O.length (.lst (hZ.map pD++[pD (p.2.1,p.1)]))):=λa o e=>z7 (kp a o e) (yX (zF e));refine z5 (zo (zo (zd rfl (zd rfl (zNn (hdk kp2) hlook (w_c (zmc rfl rfl ?_)))))));obtain⟨_,_,h3⟩:=t.ok i p ep;rcases h3 with ⟨h3,_⟩|⟨j,q',hj,eq',h3,h4⟩
   ·refine⟨0,by omega,hZ++[(p.2.1,p.1)],none,?_,kp2,?_,by rw[Lr];simp;omega,.inl ⟨rfl,hac,i,p,?_,ep,h3⟩⟩
    ·rw[h3];rfl
    ·rw[zY g,Nd];rfl
    ·rw[List.reverse_append];exact kO
   ·refine⟨j+1,by omega,hZ++[(p.2.1,p.1)],some q'.1,?_,kp2,?_,by rw[Lr];simp;omega,.inr ⟨j,q',rfl,eq',rfl,.inr ⟨hac,i,p,hj,?_,ep,h3,h4⟩⟩⟩
    ·rw[h3];rfl
    ·rw[zY g,Nd];rfl
    ·rw[List.reverse_append];exact kO
 ·rcases h with ⟨rfl,⟨k,hk⟩,i,p,hpa,ep,hn⟩|⟨i,p,rfl,ep,rfl,h⟩
  ·refine zEb (z4x (zd rfl ⟨_,_,rfl,g,?_⟩))
   have kQ:(hZ.reverse.getD (hZ.reverse.length-1) (0,0)).2=p0.1:=by
    have h0:=(List.getElem?_eq_some_iff.mp hk).1
    have:hZ.reverse[hZ.reverse.length-1]?=some (k,p0.1):=by
     rw[List.length_reverse,List.getElem?_reverse (by omega),show hZ.length-1-(hZ.length-1)=0 by omega];exact hk
    rw[Lp,this];rfl
   refine q hZ.reverse _ _ (hpa.ok t kG ep hn) kQ ?_ (by rw[List.length_reverse];omega) kp.to kp.len ?_
   ·obtain⟨il,pl,el,dl,hl'⟩:=hpa.dep (.base ep hn);rw[kQ]at hl';have:=zoq t.nd hp0 el hl';subst this;rw[show 1+hZ.reverse.length-1=hZ.reverse.length by omega]at dl;exact dl
   ·rw[zr,List.map_reverse]
  ·cases h1
def Path.ndn{P:PT}{hU:Qc}{key:Nat}(t:Tree R K hU key P)(h:Path P hU i row):(row.map (·.2)).Nodup:=by
 induction h with
 |one e=>simp
 |@up i j p q row h e eq hj hf hl ih=>
  rw[Ng,Ny];refine⟨λhm=>?_,ih⟩;obtain⟨x,hx,ex⟩:=List.mem_map.mp hm;obtain⟨m,p',hm',e',rfl⟩:=h.idx x hx;have:=zoq t.nd e' eq ex;omega
def zat{R:Qf}{K:Qd}{P:PT}{hU:Qc}{key:Nat}(t:Tree R K hU key P)(kG:hU.getD key none=none):∀(n i:Nat)(row:Qe),i<n->Path P hU i row->∃row',tT K hU key row'/\(row'.map (·.2)).Nodup/\(row'.getD (row'.length-1) (0,0)).2=(row.getD (row.length-1) (0,0)).2
 |0,i,row,h,_=>absurd h (Nat.not_lt_zero _)
 |n+1,i,row,h,hp=>by
  obtain⟨p,r,e,er⟩:=hp.head;rcases(t.ok i p e).2.2 with ⟨h1,_⟩|⟨j,q,hj,eq,h1,h2⟩
  ·exact⟨row,hp.ok t kG e h1,hp.ndn t,rfl⟩
  ·obtain⟨row',ok,nn,el⟩:=zat t kG n j _ (by omega) (.up hp e eq hj h1 h2);refine⟨row',ok,nn,?_⟩;have kW:0<row.length:=by rw[er];simp
   rw[el,Ls,show row.length+1-1=(row.length-1)+1 by omega,List.getD_cons_succ]
def zZu{P:PT}{hU:Qc}{key:Nat}(t:Tree R K hU key P)(kG:hU.getD key none=none){p:Nat×Nat×Qj}(hp:p∈P):∃row,tT K hU key row/\(row.map (·.2)).Nodup/\(row.getD (row.length-1) (0,0)).2=p.1:=by
 obtain⟨i,hi,e⟩:=List.mem_iff_getElem.mp hp;exact zat t kG (i+1) i _ (Ye _) (.one (by rw[<-e];simp[hi]))
def zWx(P:PT)(hU:Qc)(key:Nat):Qf:=(yB hU.length).filter λo=>decide (o=key)||decide (∃p∈P,hU.getD o none=some p.1)
def zbq{hU:Qc}{key:Nat}(w:Wb L R K)(hW:hU.length=K.length)(hL:L<=1000)(hn:O[n]?=some (.lst (hU.map onD)))(hk:key<K.length)(kG:hU.getD key none=none)
 (q1:∀(row:Qe) (l:Nat) (O':Mem),tT K hU key row->hU.count (some (row.getD (row.length-1) (0,0)).2)<R.getD (row.getD (row.length-1) (0,0)).2 0->(∀row',Walk K hU key row'->hU.count (some (row'.getD (row'.length-1) (0,0)).2)<R.getD (row'.getD (row'.length-1) (0,0)).2 0->row.length<=row'.length)->row.length<=10->tm O O'->O.length<=l->O'[l]?=some (.lst (row.map pD))->Q (.tup [.str "put",.loc l]) O')
 (q2:∀(S:Qf)(l:Nat)(O':Mem),S.Sublist (yB K.length)->key∈S->TH R K hU S->(∀o∈S,o=key\/∃row,tT K hU key row/\(row.map (·.2)).Nodup/\hU.getD o none=some (row.getD (row.length-1) (0,0)).2)->tm O O'->O.length<=l->O'[l]?=some (.lst (nat S))->Q (.tup [.str "full",.loc l]) O'):WF zgf [wn R K,.loc n,.int key] O Q:=by
 have kX:=w.rl;have kY:=w.kl;refine zLb rfl ?_;show WS zIj [some (wn R K),some (.loc n),some (.int key),none,none,none] O _ _ _ _;unfold zIj;refine zw (z5 (zu (ze (zd rfl (ze (zd rfl (ze (zd rfl (zt ?_)))))))));refine zRo w hW hL hn hk λP d O1 b k1 hd g1=>?_;have t:=b.tree;refine zw (z5 (zu (ze (zd rfl (ze (zd rfl (zt ?_)))))));refine zit w (k1 _ _ hn) λl2 O2 k2 hl2 g2=>?_;have g1':=k2 _ _ g1;have kK:=t.len;refine zw (z0f (zzo (zd rfl ⟨_,_,rfl,g1',?_⟩)));have hd1:d<O1.length:=zF g1;have kf:tm O (O2.set d (.dcf (dkP P))):=λi o e=>z7 ((k1.trans k2) i o e) (by have:=zF e;omega);have gd:=zY (o':=tx.dcf (dkP P)) g1';have gl:=z7 (o':=tx.dcf (dkP P)) g2 (by omega:d≠l2);generalize O2.set d (.dcf (dkP P))=O3 at kf gd gl;rw[z3p];refine z7b (λm J ν=>∃x:Wn,J=[some (wn R K),some (.loc n),some (.int key),some (.loc d),some (.loc l2),x]/\ν=O3/\∀(i:Nat) p,i<m->P[i]?=some p->R.getD p.1 0<=hU.count (some p.1)) ⟨_,rfl,rfl,by simp⟩ (λ_ _ _ _=>rfl) ?_ ?_
 ·rintro m x J ν hx ⟨y,rfl,rfl,hb⟩;rw[yi,yi]at hx
  cases ep:P[m]? with
  |none=>rw[ep]at hx;cases hx
  |some p=>
   rw[ep]at hx;cases hx;have kH:=t.lt p (Nt ep);refine zsd ?_;unfold zxl;refine zEf (zG (zo (zo (zd rfl (zd rfl (zmc (zB gl) (zXb (v:=.int ((R.getD p.1 0:Int)-(hU.count (some p.1):Nat))) (by unfold ztd;simp[kH])) (w_c (zJi ⟨_,rfl,λh1=>?_,λh1=>?_⟩))))))))
   ·have h1:=of_decide_eq_true h1;refine zEb (zbg (ze (w_c (ze (zu (ze (zd rfl (ze (zd rfl (zt ?_))))))))));refine z5t t kX.2 kG (zZc gd) ep λrow l O4 hrow kQ hdep hrl4 k4 hl4 g4=>zt ?_;refine q1 row l O4 hrow ?_ (λrow' hw kI=>?_) (by omega) (kf.trans k4) (by have:=kf.len;omega) g4
    ·rw[kQ];omega
    ·have kW:0<row'.length:=by
      obtain⟨h,r,e⟩:=hw.first
      rw[e];simp
     have ex:row'[row'.length-1]?=some (row'.getD (row'.length-1) (0,0)):=by
      rw[Lp,yk (by omega)];rfl
     obtain⟨i,p',d',f1,f2,f3,f4⟩:=b.walk hw _ _ ex;rw[<-f2]at kI
     have him:m<=i:=Nat.le_of_not_lt λkH=>by
      have:=hb i p' kH f1;omega
     have:=Dep.mono t (i+1) m i _ _ (Ye _) him hdep f3;omega
   ·have h1:=of_decide_eq_false h1;refine zfb ⟨_,rfl,rfl,λi p' hi e'=>?_⟩
    by_cases hm:i=m
    ·subst hm;rw[ep]at e';cases e';omega
    ·exact hb i p' (by omega) e'
 ·rintro J ν ⟨y,rfl,rfl,hb⟩;rw[nat,Lv,Lv]at hb
  have hfull:∀p∈P,R.getD p.1 0<=hU.count (some p.1):=λp hp=>by
   obtain⟨i,hi,rfl⟩:=List.mem_iff_getElem.mp hp;exact hb i P[i] hi (by simp[hi])
  refine zEb (zbg (ze (w_c (ze (zcn ?_)))));refine zZi (zd rfl (.inr (.inr ⟨n,_,rfl,kf _ _ hn,zfc (by rw[zld,Lv];omega),?_⟩)));rw[zde onD hU none];refine z8d (λ(k:Nat) =>.tup [.int k,onD (hU.getD k none)]) (yB hU.length) (λ(k:Nat)=>D.int k) (λo=>decide (o=key)||decide (∃p∈P,hU.getD o none=some p.1)) (λO' k'=>zdb (kf _ _ hn) k') (λk hk' O' kp=>?_) (λO' kp=>?_)
  ·have gd':=kp _ _ gd;refine zbl (z0d (zsd (z0d (zsd (zzk ?_)))));unfold zol z1l;refine zSe (zG (zo (zd rfl (zd rfl (zeh ⟨_,rfl,λh1=>?_,λh1=>?_⟩)))))
   ·have h1:k≠key:=by
     intro e;rw[e]at h1;simp at h1
    rw[decide_eq_false h1,Bool.false_or]
    cases e:hU.getD k none with
    |none=>
     refine zG (zo (zd rfl (zd rfl (zMx (zZc gd') ?_ ⟨_,rfl,?_,kp,λhb=>(by cases hb)⟩))))
     ·rw[List.all_eq_true];intro x hx;obtain⟨p,hp,rfl⟩:=List.mem_map.mp hx;have:=t.lt p hp;exact decide_eq_true (by simp only;omega)
     ·symm
      refine decide_eq_false ?_;rintro⟨p,_,e⟩;cases e
    |some h=>
     refine zG (zo (zd rfl (zd rfl (zho (zZc gd') ⟨_,rfl,?_,kp,λhb=>zd rfl ⟨rfl,kp⟩⟩))));rw[zok];refine decide_eq_decide.mpr ?_;rw[Nr];constructor
     ·rintro⟨p,hp,rfl⟩;exact⟨p,hp,rfl⟩
     ·rintro⟨p,hp,e⟩;cases e;exact⟨p,hp,rfl⟩
   ·have h1:k=key:=by
     have:=beq_iff_eq.mp h1;omega
    rw[decide_eq_true h1,Bool.true_or];exact⟨rfl,kp,λ_=>zd rfl ⟨rfl,kp⟩⟩
  ·refine zt (q2 (zWx P hU key) _ _ ?_ ?_ ?_ ?_ (kf.trans kp.to) (kf.trans kp).len zr)
   ·rw[<-hW];exact Ln
   ·exact List.mem_filter.mpr ⟨by simpa[hW] using hk,by simp⟩
   ·have hin:∀k∈zWx P hU key,∀h∈K.getD k [],∃p∈P,p.1=h:=λk hkm h hh=>by
     have hm:=(List.mem_filter.mp hkm).2;rw[Bool.or_eq_true,decide_eq_true_iff,decide_eq_true_iff]at hm;rcases hm with rfl|⟨p,hp,e⟩
     ·obtain⟨i,p,e1,e2,_⟩:=b.home h hh;exact⟨p,Nt e1,e2⟩
     ·obtain⟨i,hi,e1⟩:=List.mem_iff_getElem.mp hp;obtain⟨j,q',a,f1,f2,_⟩:=b.next i p (by rw[<-e1];simp[hi]) k e h hh;exact⟨q',Nt f1,f2⟩
    refine⟨λk hkm=>?_,λk hkm h hh=>?_,λk hkm h hh o e=>?_⟩
    ·have:=(List.mem_filter.mp hkm).1;rw[<-hW];simpa using this
    ·obtain⟨p,hp,rfl⟩:=hin k hkm h hh;exact hfull p hp
    ·obtain⟨p,hp,rfl⟩:=hin k hkm h hh;refine List.mem_filter.mpr ⟨?_,?_⟩
     ·rw[Nu];refine Nat.lt_of_not_le λhle=>?_;rw[Lp,Yr hle]at e;cases e
     ·rw[Bool.or_eq_true];exact .inr (decide_eq_true ⟨p,hp,e⟩)
   ·intro o ho;have hm:=(List.mem_filter.mp ho).2;rw[Bool.or_eq_true,decide_eq_true_iff,decide_eq_true_iff]at hm;rcases hm with h|⟨p,hp,e⟩
    ·exact .inl h
    ·obtain⟨row,ok,nn,el⟩:=zZu t kG hp;exact .inr ⟨row,ok,nn,by rw[el];exact e⟩
def zXx{xs ys:Wm}(h:O[n]?=some (.lst xs))(h2:O[m]?=some (.lst ys))(hl:xs.length+ys.length<=1000000)(q:Q .non (O.set n (.lst (xs++ys)))):WM z9v (.loc n) [.loc m] O Q:=⟨_,_,by simp[h,h2,hl]<;>rfl,q⟩
def zQx{hU:Qc}(h:k<hU.length):atI (hU.map onD) (k:Int)=some (onD (hU.getD k none)):=zXb (by simp[h])
def z2q{p:Nat×Nat}(e:row[i]?=some p):atI (row.map pD) (i:Int)=some (pD p):=zXb (by rw[yi,e];rfl)
def zor{hU:Qc}{key r:Nat}{p:Nat×Nat}(w:Wb L R K)(hW:hU.length=K.length)(hn:O[n]?=some (.lst (hU.map onD)))(hr:O[r]?=some (.lst (row.map pD)))(kX:row.length<=1000)(ok:tT K hU key row)(e:row[i]?=some p)
 (q:∀O',tm O O'->Q (.bl true) O'):WF z2h [wn R K,.loc n,.loc r,.int i] O Q:=by
 have hm:=ok.mem p (Nt e);have hi:=(List.getElem?_eq_some_iff.mp e).1;refine zLb rfl ?_;show WS z9h [some (wn R K),some (.loc n),some (.loc r),some (.int i),none] O _ _ _ _;unfold z9h;refine zw (z5 (zo (zo (zd rfl (zd rfl (zmc (zB hr) (z2q e) (w_c (zmc rfl rfl ?_))))))));refine zw (zEf (zSe (zG (zo (zd rfl (w_c (zJi ⟨_,rfl,λh1=>?_,λh1=>?_⟩)))))))
 case refine_2=>have:=of_decide_eq_true h1;omega
 refine zG (zo (zd rfl (zu (ze (zd rfl (zt (zMe (zB hn) (zJi ⟨_,rfl,λh2=>?_,λh2=>zfb ?_⟩))))))))
 ·have:=of_decide_eq_true h2;rw[Lv]at this;omega
 refine zw (zEf (zSe (zG (zo (zo (zo (zd rfl (zd rfl (zmc (zB hr) (z2q e) (w_c (zmc rfl rfl (zo (zo (zd rfl (w_c (zsk (zd rfl (zUs hm.1 (zYh rfl ⟨_,rfl,λh3=>?_,λh3=>?_⟩)))))))))))))))))))
 case refine_2=>rw[decide_eq_true hm.2.1]at h3;cases h3
 refine zG (zo (zo (zo (zd rfl (zd rfl (zmc (zB hr) (z2q e) (w_c (zmc rfl rfl (zo (zd rfl (zd rfl (zmc (zB hn) (zQx (by omega)) (zVu (α:=Qj) (some p.2) (hU.getD p.1 none) ⟨_,rfl,λh4=>?_,λh4=>zfb ?_⟩)))))))))))))
 ·exact absurd (of_decide_eq_true h4).symm hm.2.2
 refine zEb (zo (zd rfl (zcn (zFd (zDz (zd rfl (zfy (zAv (zd rfl ⟨_,rfl,_,_,rfl,hr,.inr (.inr ⟨_,_,rfl,zr,?_,?_⟩)⟩)))))))))
 ·rw[zGt];exact zfc (by rw[Lz,Lv];omega)
 rw[zGt,<-List.map_take];refine zgg pD (row.take i) (λx =>.int (x.1:Nat)) (λO' k=>zdb zr k) (λx hx O' kp=>?_) (λO' kp=>?_)
 ·unfold zEk;exact zsd (zo (zd rfl (w_c (zmc rfl rfl ⟨rfl,kp,kp⟩))))
 ·have e2:((row.take i).map λx=>D.int (x.1:Nat))=nat ((row.take i).map (·.1)):=(znh _ _).symm;rw[e2];refine zYh (zB zr) ?_
  have hnot:p.1∉(row.take i).map (·.1):=by
   intro kJ;have nd:=ok.nd;rw[<-Vg i row,Nd,Nx]at nd;refine nd.2.2 _ kJ _ ?_ rfl;refine List.mem_map.mpr ⟨p,?_,rfl⟩;rw[Li hi,(List.getElem?_eq_some_iff.mp e).2];exact Np
  rw[decide_eq_false hnot];exact q _ (tm.app.trans (kp.to))
def zkr{hU:Qc}{key r:Nat}{p:Nat×Nat}(hW:hU.length=K.length)(hn:O[n]?=some (.lst (hU.map onD)))(hr:O[r]?=some (.lst (row.map pD)))(ok:tT K hU key row)(e:row[i]?=some p)
 (q:Q (.bl true) O):WF zki [.loc n,.int key,.loc r,.int i] O Q:=by
 refine zLb rfl ?_;show WS z7h [some (.loc n),some (.int key),some (.loc r),some (.int i)] O _ _ _ _;unfold z7h;refine zw (zEf (zG (zo (zd rfl (w_c (zeh ⟨_,rfl,λh1=>?_,λh1=>zfb ?_⟩))))))
 ·obtain⟨h,r0,e0⟩:=ok.first
  refine zEb (zo (zo (zo (zd rfl (w_c (zmc (zB hr) (z2q (i:=0) (p:=(key,h)) (by rw[e0];rfl)) (w_c (zmc rfl rfl (zd rfl (zeh ?_))))))))));rw[beq_self_eq_true];exact q
 ·cases i with
  |zero=>exact absurd h1 (by decide)
  |succ j=>
   have hj:j<row.length:=by
    have:=(List.getElem?_eq_some_iff.mp e).1;omega
   have ej:row[j]?=some row[j]:=by simp[hj]
   have hl:=ok.link j _ _ ej e;have hm:=ok.mem p (Nt e);refine zEb (zo (zo (zd rfl (zo (zo (zd rfl (zd rfl (zmc (zB hr) (z2q e) (w_c (zmc rfl rfl (zmc (zB hn) (zQx (by omega)) (zo (zo (zd rfl (zo (zd rfl (w_c (zkt ?_))))))))))))))))));rw[show((j+1:Nat):Int)-1=(j:Int) by omega];refine zmc (zB hr) (z2q ej) (w_c (zmc rfl rfl (zVu (α:=Qj) (hU.getD p.1 none) (some (row[j]).2) ?_)));rw[decide_eq_true hl];exact q
def zMo{hU:Qc}(r:To R K hU):zWl R K (hU.map onD)=.non:=by
 unfold zWl;rw[z8f λk hk=>?_,z8f λh hh=>?_]
 ·unfold zhs;rw[zGs];have:=r.room h;exact decide_eq_false (by omega)
 ·unfold z8m
  have e:(hU.map onD).getD k .non=onD (hU.getD k none):=by
   have hk':k<hU.length:=by rw[r.len];exact hk
   simp[hk']
  rw[e]
  cases e2:hU.getD k none with
  |none=>rfl
  |some h=>
   have hm:h∈K.getD k []:=r.home k h (by
    have hk':k<hU.length:=by rw[r.len];exact hk
    simp[hk']at e2;simp[hk',e2])
   show(_ && !((nat (K.getD k [])).any λy=>eqF y (.int h)))=false;rw[zuo,decide_eq_true hm,Bool.not_true,Bool.and_false]
def zYy(hU:Qc)(k h:Nat):(hU.set k (some h)).map onD=(hU.map onD).set k (.int h):=List.map_set
def zvr{hU:Qc}{key r:Nat}(w:Wb L R K)(hL:L<=1000)(rt:To R K hU)(hn:O[n]?=some (.lst (hU.map onD)))(hr:O[r]?=some (.lst (row.map pD)))(kX:row.length<=1000)(ok:tT K hU key row)(kG:hU.getD key none=none)(kI:hU.count (some (row.getD (row.length-1) (0,0)).2)<R.getD (row.getD (row.length-1) (0,0)).2 0)
 (q:∀(l:Nat)(O':Mem),tm O O'->O.length<=l->O'[l]?=some (.lst ((zhe hU row).map onD))->Q (.loc l) O'):WF zLj [wn R K,.loc n,.int key,.loc r] O Q:=by
 have kY:=w.kl;have hW:=rt.len;refine zLb rfl ?_;show WS zuj [some (wn R K),some (.loc n),some (.int key),some (.loc r),none,none,none] O _ _ _ _;unfold zuj;refine zw (z5 (zu (ze (zd rfl (zt (zxp (zB hn) ?_))))));refine zw (z0f (zZi (zd rfl (.inr (.inr ⟨r,_,rfl,zyc hr,?_⟩)))));refine z7b (λm J ν=>∃x y:Wn,J=[some (wn R K),some (.loc n),some (.int key),some (.loc r),some (.loc O.length),x,y]/\tm O ν/\ν[O.length]?=some (.lst ((zhe hU (row.take m)).map onD))) ⟨_,_,rfl,.app,zr⟩ (λm J ν ⟨_,_,_,k,_⟩=>zdb hr k) ?_ ?_
 ·rintro m x J ν hx ⟨a,b,rfl,kp,g⟩;obtain⟨p,ep,rfl⟩:=z6q hx;have hm:=ok.mem p (Nt ep);have htk:row.take (m+1)=row.take m++[p]:=by rw[Vj,ep];rfl
  refine zbl (z0d (zsd (z0d (zsd (zzk ?_)))));unfold zXl;refine zw (zEf (z8g (zpl (zG (zu (ze (zd rfl (ze (zd rfl (ze (zd rfl (ze (zd rfl (zt ?_))))))))))))));refine zor w hW (kp _ _ hn) (kp _ _ hr) kX ok ep λO1 k1=>⟨_,rfl,λ_=>?_,λh=>(by cases h)⟩
  refine zG (zu (ze (zd rfl (ze (zd rfl (ze (zd rfl (ze (zd rfl (zt ?_))))))))));refine zkr hW ((kp.trans k1) _ _ hn) ((kp.trans k1) _ _ hr) ok ep ⟨_,rfl,λh=>(by cases h),λ_=>zfb ?_⟩;refine zqh (zo (zd rfl (w_c (zmc rfl rfl ?_))));have g1:=k1 _ _ g;refine zpu (zd rfl (zo (zd rfl (w_c (zmc rfl rfl ⟨_,_,_,rfl,rfl,g1,?_,?_⟩)))))
  ·rw[Lv,zUh];omega
  ·refine⟨_,_,rfl,λi o e=>z7 (k1 _ _ (kp i o e)) (yX (zF e)),?_⟩;rw[zY g1,htk,zsl,zYy];rfl
 ·rintro J ν ⟨a,b,rfl,kp,g⟩;rw[zld,Lv,Vh]at g
  have kW:0<row.length:=by
   obtain⟨h,q,e⟩:=ok.first
   rw[e];simp
  refine zw (zEf (zSe (zG (zo (zu (ze (zd rfl (zt (zMe (zB (kp _ _ hr)) (w_c (zeh ⟨_,rfl,λh1=>?_,λh1=>?_⟩)))))))))))
  case refine_2=>
   have:=beq_iff_eq.mp h1;rw[Lv]at this;omega
  have hr2:=zfh rt ok kG kI;refine zG (zo (zu (ze (zd rfl (ze (zd rfl (zt ?_)))))));refine zTt w (zos _) (by rw[Lv,zUh];exact hW) g λO1 k1=>?_;rw[zMo hr2];refine w_c (zMj rfl ⟨_,rfl,λh=>(by cases h),λ_=>zfb (zEb (zd rfl ?_))⟩);exact q _ _ (kp.trans k1) (yh _) (k1 _ _ g)
def zdh(S:Qf)(k:Nat):Qf:=S.filter λo=>!decide (o=k)
def zLc(R:Qf)(K:Qd)(S:Qf):Qj:=S.find? λk=>zpg R K (zdh S k)
def zCi(h:zLc R K S=some k):k∈S:=List.mem_of_find?_eq_some h
def zbo(h:zLc R K S=some k):zpg R K (zdh S k)=true:=List.find?_some (p:=λk=>zpg R K (zdh S k)) h
def z0e(S:Qf)(k:Nat):(zdh S k).Sublist S:=Ln
def zXj(h:S.Nodup)(k:Nat):S.erase k=zdh S k:=by
 rw[h.erase_eq_filter];unfold zdh;refine Lm λx _=>?_
 by_cases e:x=k<;>simp[e]
def z9j(h:S.Nodup){k:Nat}(hk:k∈S):(zdh S k).length+1=S.length:=by
 rw[<-zXj h,List.length_erase_of_mem hk];have:=List.length_pos_of_mem hk;omega
def z0k(R:Qf)(K:Qd):Nat->Qf->Qf
 |0,S=>S
 |n+1,S=>match zLc R K S with
  |none=>S
  |some k=>z0k R K n (zdh S k)
def zTn(R:Qf)(K:Qd)(S:Qf):Qf:=z0k R K S.length S
def zNq(h:zLc R K S=none):zTn R K S=S:=by
 unfold zTn
 cases S with
 |nil=>rfl
 |cons a S=>rw[Ls,z0k,h]
def zhr(hd:S.Nodup)(h:zLc R K S=some k):zTn R K S=zTn R K (zdh S k):=by
 have h1:=z9j hd (zCi h);unfold zTn
 conv=>lhs;rw[<-h1,z0k,h]
def zjn{R:Qf}{K:Qd}:∀(n:Nat)(S:Qf),(z0k R K n S).Sublist S
 |0,S=>List.Sublist.refl _
 |n+1,S=>by
  unfold z0k
  cases zLc R K S with
  |none=>exact List.Sublist.refl _
  |some k=>exact(zjn n _).trans (z0e S k)
def zPn{R:Qf}{K:Qd}:∀(n:Nat)(S:Qf),S.Nodup->S.length<=n->zLc R K (z0k R K n S)=none
 |0,S,_,h=>by
  have:S=[]:=List.length_eq_zero_iff.mp (by omega);subst this;rfl
 |n+1,S,hd,h=>by
  unfold z0k
  cases e:zLc R K S with
  |none=>exact e
  |some k=>
   have:=z9j hd (zCi e);exact zPn n _ (hd.sublist (z0e S k)) (by omega)
def zkk{R:Qf}{K:Qd}:∀(n:Nat)(S:Qf),zpg R K S=true->zpg R K (z0k R K n S)=true
 |0,S,h=>h
 |n+1,S,h=>by
  unfold z0k
  cases e:zLc R K S with
  |none=>exact h
  |some k=>exact zkk n _ (zbo e)
def zTj(w:Wb L R K)(hn:O[n]?=some (.lst (nat S)))(hS:∀k∈S,k<K.length)(hl:S.length<=1000)
 (q:∀O',tm O O'->Q (onD (zLc R K S)) O'):WF zfe [wn R K,.loc n] O Q:=by
 refine zLb rfl ?_;show WS zaf [some (wn R K),some (.loc n),none] O _ _ _ _;unfold zaf;refine zw (z0f (zFd (zd rfl (.inr (.inr ⟨n,_,rfl,hn,?_⟩)))));refine z7b (λm J O'=>∃a:Wn,J=[some (wn R K),some (.loc n),a]/\tm O O'/\∀k∈S.take m,zpg R K (zdh S k)=false) ⟨_,rfl,.refl,by simp⟩ (λm J O' ⟨a,_,k,_⟩=>zdb hn k) ?_ ?_
 ·rintro m x J O1 hx ⟨a,rfl,k1,hb⟩;rw[yi]at hx
  cases hy:S[m]? with
  |none=>rw[hy]at hx;cases hx
  |some kk=>
   rw[hy]at hx;cases hx;have ht:S.take (m+1)=S.take m++[kk]:=by rw[Vj,hy];rfl
   refine zsd ?_;unfold zhi;refine zEf (zG (zu (ze (zd rfl (ze (zcn ?_))))));refine zFd (zd rfl (.inr (.inr ⟨n,_,rfl,k1 _ _ hn,zfc (by rw[Lv];omega),?_⟩)));refine z8d (λ(k:Nat)=>D.int k) S (λ(k:Nat)=>D.int k) (λo=>!decide (o=kk)) (λO' k'=>zdb (k1 _ _ hn) k') (λj hj O' kp=>?_) (λO2 k2=>?_)
   ·repeat walk_at "w"
    refine⟨?_,kp,λ_=>?_⟩
    ·congr 1
     by_cases e:j=kk
     ·subst e;simp
     ·simp[e];omega
    ·unfold zOh;exact zd rfl ⟨rfl,kp⟩
   ·refine zt ?_;have hls:(zdh S kk).length<=S.length:=(z0e S kk).length_le;refine zcr w (S:=zdh S kk) zr (λk hk=>hS k ((z0e S kk).subset hk)) (by omega) λO3 k3=>⟨_,rfl,λh1=>?_,λh1=>?_⟩
    ·refine zEb (zd rfl ?_);have:=q O3 (k1.trans (k2.to.trans k3))
     have e:zLc R K S=some kk:=by
      unfold zLc;rw[List.find?_eq_some_iff_append];refine⟨h1,S.take m,S.drop (m+1),?_,λa ha=>by rw[hb a ha];rfl⟩;have kH:=(List.getElem?_eq_some_iff.mp hy).1
      have e1:S.drop m=kk::S.drop (m+1):=by
       rw[Li kH,(List.getElem?_eq_some_iff.mp hy).2]
      rw[<-e1,Vg]
     rw[e]at this;exact this
    ·refine zfb ⟨_,rfl,k1.trans (k2.to.trans k3),λk hk=>?_⟩;rw[ht]at hk;rcases List.mem_append.mp hk with hk|hk
     ·exact hb k hk
     ·rw[List.mem_singleton.mp hk];exact h1
 ·rintro J O1 ⟨a,rfl,k1,hb⟩;rw[Lv,Vh]at hb;refine zEb (w_c ?_);have:=q O1 k1
  have e:zLc R K S=none:=by
   unfold zLc;rw[List.find?_eq_none];intro k hk;rw[hb k hk];exact yA
  rw[e]at this;exact this
def zTq(w:Wb L R K)(hn:O[n]?=some (.lst (nat S)))(hS:∀k∈S,k<K.length)(hl:S.length<=1000)(hd:S.Nodup)
 (q:∀(l:Nat)(O':Mem),tm O O'->O.length<=l->O'[l]?=some (.lst (nat (zTn R K S)))->Q (.loc l) O'):WF zHh [wn R K,.loc n] O Q:=by
 refine zLb rfl ?_;show WS zLh [some (wn R K),some (.loc n),none,none] O _ _ _ _;unfold zLh;refine zw (z5 (zu (ze (zd rfl (zt (zxp (zB hn) ?_))))));refine zw (z5 (zu (ze (zd rfl (ze (zd rfl (zt ?_)))))));refine zTj w zr hS hl λO1 k1=>?_;refine zw ?_;refine zyk (λm J O'=>∃T:Qf,m=T.length/\J=[some (wn R K),some (.loc n),some (.loc O.length),some (onD (zLc R K T))]/\tm O O'/\O'[O.length]?=some (.lst (nat T))/\T.Sublist S/\zTn R K S=zTn R K T) (m:=S.length) (by omega) ⟨S,rfl,rfl,tm.app.trans k1,k1 _ _ zr,List.Sublist.refl _,rfl⟩ ?_;rintro m J O' ⟨T,rfl,rfl,k2,g2,hT,ht⟩;have hTd:=hd.sublist hT;have hTl:=hT.length_le
 repeat walk_at "w"
 refine zMj (zxj _) ⟨_,rfl,λh1=>?_,λh1=>?_⟩
 ·cases e:zLc R K T with
  |none=>rw[e]at h1;cases h1
  |some k=>
   have hk:=zCi e;have hle:=z9j hTd hk;unfold znk;refine zw (z6i (zdk (zd rfl ⟨_,_,rfl,g2,?_⟩)));refine ze (zd rfl (zt ?_));refine zWr g2 hk ?_;rw[zXj hTd];refine z5 (zu (ze (zd rfl (ze (zd rfl (zt ?_))))));have g3:=zY (o':=tx.lst (nat (zdh T k))) g2;refine zTj w g3 (λx hx=>hS x (hT.subset ((z0e T k).subset hx))) (by omega) λO3 k3=>?_;exact⟨(zdh T k).length,by omega,zdh T k,rfl,rfl,λi o e'=>k3 _ _ (z7 (k2 _ _ e') (yX (zF e'))),k3 _ _ g3,(z0e T k).trans hT,by rw[ht,zhr hTd e]⟩
 ·refine zEb (zd rfl ?_)
  have e:zLc R K T=none:=by
   cases e:zLc R K T with
   |none=>rfl
   |some k=>rw[e]at h1;cases h1
  refine q _ _ k2 (yh _) ?_;rw[ht,zNq e];exact g2
def zWt{hU:Qc}{key:Nat}(ok:tT K hU key row){k:Nat}(h:k∈row.map (·.1)):k=key\/(hU.getD k none).isSome=true:=by
 obtain⟨p,hp,rfl⟩:=List.mem_map.mp h;obtain⟨i,hi,rfl⟩:=List.mem_iff_getElem.mp hp
 cases i with
 |zero=>
  obtain⟨h,r,e⟩:=ok.first
  subst e;exact .inl rfl
 |succ j=>
  have:=ok.link j row[j] row[j+1] (by simp[show j<row.length by omega]) (by simp[hi]);exact .inr (by rw[this];rfl)
def zfk{hU:Qc}{key:Nat}(hW:hU.length=K.length)(ok:tT K hU key row){k:Nat}(h:k=key\/(hU.getD k none).isSome=true):((zhe hU row).getD k none).isSome=true:=by
 by_cases hm:k∈row.map (·.1)
 ·obtain⟨p,hp,rfl⟩:=List.mem_map.mp hm;rw[zvm ok.nd hp (by rw[hW];exact(ok.mem p hp).1)];rfl
 ·rcases h with rfl|h
  ·obtain⟨h,r,e⟩:=ok.first
   subst e;exact absurd (by simp) hm
  ·rw[z8e hm];exact h
def zqk{hU:Qc}{key:Nat}(ok:tT K hU key row){k:Nat}(h:hU.getD k none=none)(hk:k≠key):(zhe hU row).getD k none=none:=by
 rw[z8e λhm=>?_]
 ·exact h
 ·rcases zWt ok hm with e|e
  ·exact hk e
  ·rw[h]at e;cases e
def zhg{s:yt}(h:PyData.strOk s=true):toP O 8 (.str s)=some (.str s):=by
 show(bif PyData.strOk s then some (PyData.str s) else none)=_;rw[h];rfl
def zvi{a b:yt}(q:Q (.bl (Yn (.str a) (.str b))) O)(ha:PyData.strOk a=true:=by decide +kernel)(hb:PyData.strOk b=true:=by decide +kernel):W2 gEq (.str a) (.str b) O Q:=znz (zhg ha) (zhg hb) q
structure Done(R:Qf)(K:Qd)(lay0 hU:Qc)(ks C:Qf):Prop where
 right:To R K hU
 sG:TH R K hU C
 old:∀k,(lay0.getD k none).isSome=true->(hU.getD k none).isSome=true
 non:∀k,k∉ks->lay0.getD k none=none->hU.getD k none=none
 all:∀k∈ks,(hU.getD k none).isSome=true\/(k∈C/\hU.getD k none=none)
 out:C≠[]->∃k∈C,k∈ks/\hU.getD k none=none
def Done.put{hU:Qc}{ks:Qf}{key:Nat}(d:Done R K lay0 hU ks C)(hk:key∉ks)(kG:hU.getD key none=none)(ok:tT K hU key row)
 (kI:hU.count (some (row.getD (row.length-1) (0,0)).2)<R.getD (row.getD (row.length-1) (0,0)).2 0):Done R K lay0 (zhe hU row) (ks++[key]) C:=by
 have hW:=d.right.len;refine⟨zfh d.right ok kG kI,d.sG.push d.right ok kG kI,λk h=>zfk hW ok (.inr (d.old k h)),λk h h0=>?_,λk h=>?_,λhC=>?_⟩
 ·rw[Nj,not_or]at h;exact zqk ok (d.non k h.1 h0) (by simpa using h.2)
 ·rcases List.mem_append.mp h with h'|h
  ·rcases d.all k h' with h1|⟨h1,h2⟩
   ·exact .inl (zfk hW ok (.inr h1))
   ·exact .inr ⟨h1,zqk ok h2 (by rintro rfl;exact hk h')⟩
  ·rw[List.mem_singleton.mp h];exact .inl (zfk hW ok (.inl rfl))
 ·obtain⟨k,h1,h2,h3⟩:=d.out hC;exact⟨k,h1,Nk _ h2,zqk ok h3 (by rintro rfl;exact hk h2)⟩
def Done.full{hU:Qc}{ks:Qf}{key:Nat}(d:Done R K lay0 hU ks C)(kG:hU.getD key none=none)(hS:key∈S)(s:TH R K hU S):Done R K lay0 hU (ks++[key]) (C++S):=by
 refine⟨d.right,d.sG.app s,d.old,λk h h0=>?_,λk h=>?_,λhC=>⟨key,Nm _ hS,by simp,kG⟩⟩
 ·rw[Nj,not_or]at h;exact d.non k h.1 h0
 ·rcases List.mem_append.mp h with h|h
  ·rcases d.all k h with h1|⟨h1,h2⟩
   ·exact .inl h1
   ·exact .inr ⟨Nk _ h1,h2⟩
  ·rw[List.mem_singleton.mp h];exact .inr ⟨Nm _ hS,kG⟩
def zrq(m:Nat)(C:Qf):Qf:=(yB m).filter λk=>decide (k∈C)
def zzh(h:∀k∈C,k<m)(k:Nat):k∈zrq m C↔k∈C:=by
 unfold zrq;rw[Nq,Nu,decide_eq_true_iff];exact⟨λq=>q.2,λq=>⟨h k q,q⟩⟩
def ziw{G:FE}(hC:∀k∈C,k<m)(hm:m<64)(hl:C.length<=4000)(h:WE G J O λx O1=>x=.loc n/\O1[n]?=some (.lst (nat C))/\Q (.loc O1.length) (O1++[.lst (nat (zrq m C))])):WE (zgr G) J O Q:=by
 have kJ:∀i:Int,i∈(zrq m C).map (λ(k:Nat)=>(k:Int))↔i∈C.map (λ(k:Nat)=>(k:Int)):=λi=>by
  simp only[Nr];constructor
  ·rintro⟨k,hk,rfl⟩;exact⟨k,(zzh hC k).mp hk,rfl⟩
  ·rintro⟨k,hk,rfl⟩;exact⟨k,(zzh hC k).mpr hk,rfl⟩
 have hpw:((zrq m C).map (λ(k:Nat)=>(k:Int))).Pairwise (· < ·):=by
  rw[Vb];exact(List.pairwise_lt_range.filter _).imp λh=>by omega
 have hp:=zem kJ hpw;have hsort:=z1p kJ hpw;have hsl:(zrq m C).length<=m:=by unfold zrq;simpa using(Ln (l:=yB m) (p:=λk=>decide (k∈C))).length_le
 refine zvv (h.mono ?_);rintro x O1 ⟨rfl,g,q⟩;refine⟨_,C.map (λ(k:Nat)=>(k:Int)),rfl,by rw[g,Nh];rfl,by rw[Lv];omega,by rw[hp.length_eq,Lv];omega,?_⟩;rw[hsort,Nh];exact q
def zFo{ks:Qf}(w:Wb L R K)(hL:L<=60)(rt:To R K lay0)(hn:O[n]?=some (.lst (lay0.map onD)))(hm:O[m]?=some (.lst (nat ks)))(hks:∀k∈ks,k<K.length)(hnd:ks.Nodup)(hnon:∀k∈ks,lay0.getD k none=none)
 (q:∀(hU:Qc) (C:Qf) (l l2:Nat) (O':Mem),Done R K lay0 hU ks C->tm O O'->(l=n/\hU=lay0\/O.length<=l)->O.length<=l2->l≠l2->O'[l]?=some (.lst (hU.map onD))->O'[l2]?=some (.lst (nat (zrq K.length C)))->Q (.tup [.loc l,.loc l2]) O'):WF zcf [wn R K,.loc n,.loc m] O Q:=by
 have kY:=w.kl
 have hkn:ks.length<=K.length:=by
  have:=zjc hnd (m:=yB K.length) λx hx=>by simpa using hks x hx
  simpa using this
 refine zLb rfl ?_;show WS zCf [some (wn R K),some (.loc n),some (.loc m),none,none,none] O _ _ _ _;unfold zCf;refine zw (z5 (z1f (zt (zw (z0f (zFd (zd rfl (.inr (.inr ⟨m,_,rfl,zyc hm,?_⟩)))))))));have gH:=zF hn
 refine z7b (λi J ν=>∃(hU:Qc) (C:Qf) (l:Nat) (x y:Wn),J=[some (wn R K),some (.loc l),some (.loc m),some (.loc O.length),x,y]/\Done R K lay0 hU (ks.take i) C/\C.length<=i*K.length/\tm O ν/\(l=n/\hU=lay0\/O.length<l)/\ν[O.length]?=some (.lst (nat C))/\ν[l]?=some (.lst (hU.map onD)))
  ⟨lay0,[],n,_,_,rfl,⟨rt,.nil,λ_ h=>h,λ_ _ h=>h,by simp,λh=>absurd rfl h⟩,by simp,.app,.inl ⟨rfl,rfl⟩,zr,zyc hn⟩ (λi J ν ⟨_,_,_,_,_,_,_,_,k,_⟩=>zdb hm k) ?_ ?_
 ·rintro i z J ν hz ⟨hU,C,l,x,y,rfl,d,hCl,kp,hl,gC,gl⟩;rw[yi]at hz
  cases ek:ks[i]? with
  |none=>rw[ek]at hz;cases hz
  |some key=>
   rw[ek]at hz;cases hz;have hkm:=Nt ek;have hil:=(List.getElem?_eq_some_iff.mp ek).1;have htk:ks.take (i+1)=ks.take i++[key]:=by rw[Vj,ek];rfl
   have hkt:key∉ks.take i:=by
    intro kJ;have nd:=hnd;rw[<-Vg i ks,Nx]at nd;refine nd.2.2 _ kJ _ ?_ rfl;rw[Li hil,(List.getElem?_eq_some_iff.mp ek).2];exact Np
   have kG:=d.non key hkt (hnon key hkm);have hCb:i*K.length<=60*60:=Nat.mul_le_mul (by omega) (by omega);refine zsd ?_;unfold zai;refine zw (z5 (zu (ze (zd rfl (ze (zd rfl (ze (zd rfl (zt ?_)))))))));refine zbq w d.right.len (by omega) gl (hks key hkm) kG (λrow r O1 ok kI _ kX k1 hr gr=>?_) (λS r O1 hS hkS s _ k1 hr gr=>?_)
   ·refine zEf (zG (zo (zo (zd rfl (w_c (zmc rfl rfl (w_c (zvi ⟨_,rfl,λ_=>?_,λh=>absurd h (by decide +kernel)⟩))))))));refine z5 (zu (ze (zd rfl (ze (zd rfl (ze (zd rfl (ze (zo (zd rfl (w_c (zmc rfl rfl (zt ?_)))))))))))));refine zvr w (by omega) d.right (k1 _ _ gl) gr (by omega) ok kG kI λl' O2 k2 hl' g2=>?_;refine⟨zhe hU row,C,l',_,_,rfl,by rw[htk];exact d.put hkt kG ok kI,by rw[Nat.succ_mul];omega,kp.trans (k1.trans k2),.inr ?_,(k1.trans k2) _ _ gC,g2⟩;have:=(kp.trans k1).len;have:=k1.len;have:=zF gC;omega
   ·refine zEf (zG (zo (zo (zd rfl (w_c (zmc rfl rfl (w_c (zvi ⟨_,rfl,λh=>?_,λ_=>?_⟩))))))))
    ·exact absurd h (by decide +kernel)
    have hSl:S.length<=K.length:=by simpa using hS.length_le
    refine z6i (zdk (zd rfl ⟨_,_,rfl,k1 _ _ gC,?_⟩));refine ze (zo (zd rfl (w_c (zmc rfl rfl (zt ?_)))));refine zXx (k1 _ _ gC) gr (by simp only[Lv];omega) ?_;have kH:=zF gC;refine⟨hU,C++S,l,_,_,rfl,by rw[htk];exact d.full kG hkS s,by rw[Nat.succ_mul,Lr];omega,λa o e=>z7 (k1 _ _ (kp a o e)) (yX (zF e)),hl,?_,z7 (k1 _ _ gl) (by rcases hl with ⟨h,_⟩|h<;>omega)⟩;rw[zY (k1 _ _ gC),zHc]
 ·rintro J ν ⟨hU,C,l,x,y,rfl,d,hCl,kp,hl,gC,gl⟩;rw[Lv,Vh]at d;rw[Lv]at hCl;have hCb:ks.length*K.length<=60*60:=Nat.mul_le_mul (by omega) (by omega);refine zEb (zbg (ze (zd rfl (ze ?_))));refine ziw (n:=O.length) (m:=K.length) d.sG.keys (by omega) (by omega) (zd rfl ⟨rfl,gC,zt ?_⟩);have:=zF gl;exact q hU C l _ _ d kp.to (by rcases hl with h|h;exact .inl h;exact .inr (by omega)) kp.len (by omega) (zyc gl) zr
def zkn(w:Wb L R K)(hL:L<=60)
 (q:∀(hU:Qc) (C:Qf) (l l2:Nat) (O':Mem),Done R K (yD K.length none) hU (yB K.length) C->tm O O'->O.length<=l->O.length<=l2->l≠l2->O'[l]?=some (.lst (hU.map onD))->O'[l2]?=some (.lst (nat (zrq K.length C)))->Q (.tup [.loc l,.loc l2]) O'):WF zMd [wn R K] O Q:=by
 have kY:=w.kl;refine zLb rfl ?_;show WS zJd [some (wn R K)] O _ _ _ _;unfold zJd;refine zEb (zu (ze (zd rfl (ze (zo (z1f (ze (w_c (zt (zu (ze (zo (zd rfl (w_c (zsk (zt (zMe rfl ?_)))))))))))))))));refine zfz zr (by rw[Lv];omega) (by omega) (by simp) ?_;refine ze (zGp (zu (ze (zo (zd rfl (w_c (zsk (zt (zMe rfl ⟨_,rfl,?_,zt ?_⟩)))))))))
 ·rw[Lv];omega
 have e1:(yD (((K.map tn).length:Nat):Int).toNat [D.non]).flatten=(yD K.length (none:Qj)).map onD:=by
  rw[Yv,Lv,List.map_replicate,List.flatten_replicate_singleton]
 rw[e1,Yv,Lv]
 have hrep:∀k,(yD K.length (none:Qj)).getD k none=none:=λk=>by
  rw[Lp,YU]
  split<;>rfl
 refine zFo (ks:=yB K.length) w hL ⟨by simp,λk h e=>?_,λh=>?_⟩ (zyc zr) zr (by simp) List.nodup_range (λk _=>hrep k) λhU C l l2 O' d k hl hl2 kL g g2=>?_
 ·rw[YU]at e
  split at e
  ·cases e
  ·cases e
 ·rw[List.count_replicate];simp
 ·have k':=(tm.to (tm.to (tm.app (O:=O) (g:=[.lst [.non]])))).trans k;refine q hU C l l2 O' d k' ?_ ?_ kL g g2
  ·rcases hl with ⟨rfl,_⟩|hl
   ·simp
   ·simp at hl;omega
  ·simp at hl2;omega
def zws(w:Wb L R K)(hL:L<=60)
 (q1:∀(hU:Qc) (l:Nat) (O':Mem),To R K hU->(∀k<K.length,(hU.getD k none).isSome=true)->tm O O'->O.length<=l->O'[l]?=some (.lst (hU.map onD))->Q (.tup [.str "fits",.loc l]) O')
 (q2:∀(T:Qf)(l:Nat)(O':Mem),T.Sublist (yB K.length)->zpg R K T=true->zLc R K T=none->tm O O'->O.length<=l->O'[l]?=some (.lst (nat T))->Q (.tup [.str "crowd",.loc l]) O'):WF zDj [wn R K] O Q:=by
 have kY:=w.kl;refine zLb rfl ?_;show WS zEj [some (wn R K),none] O _ _ _ _;unfold zEj;refine zw (z5 (zu (ze (zd rfl (zt ?_)))));refine zkn w hL λhU C l l2 O1 d k1 hl hl2 kL g g2=>?_;refine zw (zEf (zG (zo (zo (zd rfl (w_c (zmc rfl rfl (z1f (zt ?_)))))))));refine zIz (α:=Nat) (zrq K.length C) [] (zyc g2) zr ⟨_,rfl,λh1=>?_,λh1=>zfb ?_⟩
 ·have h1:=of_decide_eq_true h1;refine zEb (zbg (ze (w_c (ze (zo (zd rfl (w_c (zmc rfl rfl (zt ?_)))))))));refine q1 hU l _ d.right (λk hk=>?_) k1.to hl (zyc g);rcases d.all k (by simpa using hk) with h|⟨h,_⟩
  ·exact h
  ·have:=(zzh d.sG.keys k).mpr h;rw[h1]at this;cases this
 ·have h1:=of_decide_eq_false h1
  have hC:C≠[]:=by
   rintro rfl;exact h1 (by unfold zrq;simp)
  obtain⟨k0,hk0,_,hn0⟩:=d.out hC;have kU:(zrq K.length C).Sublist (yB K.length):=Ln;have hcr:=zwq w (d.sG.congr (zzh d.sG.keys)) d.right.len ((zzh d.sG.keys k0).mpr hk0) hn0;have hsl:(zrq K.length C).length<=K.length:=by simpa using kU.length_le
  have hnd:=List.nodup_range.sublist kU;refine zEb (zbg (ze (w_c (ze (zu (ze (zd rfl (ze (zo (zd rfl (w_c (zmc rfl rfl (zt ?_)))))))))))));refine zTq w (zyc g2) (λk hk=>by simpa using kU.subset hk) (by omega) hnd λl3 O3 k3 hl3 g3=>zt ?_;exact q2 _ l3 O3 ((zjn _ _).trans kU) (zkk _ _ hcr) (zPn _ _ hnd (yh _)) (k1.to.trans k3) (by have:=k1.len;simp at hl3;omega) g3
def z5l{T:Qf}(h:O[n]?=some (.lst (nat S)))(hp:T.Perm S)(hT:T.Pairwise (· < ·))(hl:S.length<64)(q:Q (.loc O.length) (O++[.lst (nat T)])):WF z9f [.loc n] O Q:=by
 have e1:nat S=(S.map λ(k:Nat)=>(k:Int)).map D.int:=by rw[Nh];rfl
 have e2:nat T=(T.map λ(k:Nat)=>(k:Int)).map D.int:=by rw[Nh];rfl
 have e3:zAk (S.map λ(k:Nat)=>(k:Int))=T.map λ(k:Nat)=>(k:Int):=by
  refine zBc ((Nv _ _).trans (hp.symm.map _)) (zch _) ?_;rw[Vb];exact hT.imp λh=>by omega
 refine⟨_,_,?_,q⟩;simp only[z9f,h];rw[e1,z8h,ym,Lv,decide_eq_true hl,cond_true,e3,<-e2]
def dkN(hG:Qe):Wp:=hG.map λp=>((p.1:Int),D.int (p.2:Nat))
def z8b(k:Nat):∀hG:Qe,zPc (dkN hG) (k:Int)=(hG.lookup k).map λh=>D.int (h:Nat)
 |[]=>rfl
 |(j,h)::hG=>by
  have ih:=z8b k hG;unfold zPc dkN at ih ⊢;rw[Ng,Xf,Na]
  by_cases hj:j=k
  ·subst hj;simp
  ·have h1:(decide (((j:Nat):Int)=(k:Int)))=false:=decide_eq_false (by omega);have h2:(k==j)=false:=beq_eq_false_iff_ne.mpr (yR hj);simp only[h1,h2];exact ih
abbrev fsD(r:D)(m:Nat):Wq:=[("kept_rule",r),("nest_of",.loc m)]
structure Sh(O:Mem)(n m:Nat)(r:D)(hG:Qe):Prop where
 at_:O[n]?=some (.ins "Shelf" (fsD r m))
 dc:O[m]?=some (.dct (dkN hG))
 nd:(hG.map (·.1)).Nodup
 few:hG.length<=30
def Sh.keep{O:Mem}(s:Sh O n m r hG)(k:tm O O'):Sh O' n m r hG:=⟨k _ _ s.at_,k _ _ s.dc,s.nd,s.few⟩
section
variable {O:Mem}{n m:Nat}{r:D}{hG:Qe}{Q:Wr}
def zbv(s:Sh O n m r hG)(q:Q r O):WF zte [.loc n] O Q:=by
 refine zLb rfl ?_;show WS zwe [some (.loc n)] O _ _ _ _;unfold zwe;exact zEb (z7k (zd rfl ⟨n,_,r,rfl,s.at_,rfl,q⟩))
def z6d(r:D)(m:Nat):(fsD r m).lookup ("nest_of":yt)=some (D.loc m):=by
 have h1:(("nest_of":yt) == "kept_rule")=false:=by decide +kernel
 have h2:(("nest_of":yt) == "nest_of")=true:=by decide +kernel
 simp only[fsD,Na,h1,h2]
def ztg(r:D)(m:Nat):(fsD r m).lookup ("all_there":yt)=none:=by
 have h1:(("all_there":yt) == "kept_rule")=false:=by decide +kernel
 have h2:(("all_there":yt) == "nest_of")=false:=by decide +kernel
 simp only[fsD,Na,h1,h2,Nb]
def zqv(s:Sh O n m r hG)(q:Q (.bl (hG.lookup k).isSome) O):WF z0c [.loc n,.int k] O Q:=by
 refine zLb rfl ?_;show WS z9e [some (.loc n),some (.int k)] O _ _ _ _;unfold z9e;refine zEb (zo (zd rfl (z7k (zd rfl ⟨n,_,.loc m,rfl,s.at_,z6d r m,zho (zZ s.dc) ?_⟩))));rw[z8b,Option.isSome_map];exact q
def zyp(s:Sh O n m r hG)(q:Q (onD (hG.lookup k)) O):WF zlc [.loc n,.int k] O Q:=by
 refine zLb rfl ?_;show WS zNd [some (.loc n),some (.int k)] O _ _ _ _;unfold zNd;refine zEb (z2m (z7k (zd rfl ⟨n,_,.loc m,rfl,s.at_,z6d r m,m,_,rfl,s.dc,ze (zd rfl (zt (z5p (zZ s.dc) ?_)))⟩)));rw[z8b]
 cases e:hG.lookup k with
 |none=>rw[e]at q;exact q
 |some h=>rw[e]at q;exact q
structure tX(hG:Qe)(S:Qf):Prop where
 pm:S.Perm (hG.map (·.1))
 pw:S.Pairwise (· < ·)
def tX.ex(nd:(hG.map (·.1)).Nodup):∃S,tX hG S:=by
 refine⟨(hG.map (·.1)).mergeSort (λa b=>decide (a<=b)),Nv _ _,?_⟩;have h1:=List.pairwise_mergeSort (le:=λa b:Nat=>decide (a<=b)) (λa b c h1 h2=>by simp at h1 h2 ⊢;omega) (λa b=>by simp;omega) (hG.map (·.1));have h2:((hG.map (·.1)).mergeSort (λa b=>decide (a<=b))).Pairwise (·≠·):=(Nv _ _).nodup_iff.mpr nd;refine(h1.and h2).imp λh=>?_;have:=of_decide_eq_true h.1;have:=h.2;omega
def tX.len(k:tX hG S):S.length=hG.length:=by rw[k.pm.length_eq,Lv]
def z7c(s:Sh O n m r hG)(k:tX hG S)(q:Q (.loc O.length) (O++[.lst (nat S)])):WF zK [.loc n] O Q:=by
 have hf:=s.few;refine zLb rfl ?_;show WS zgc [some (.loc n)] O _ _ _ _;unfold zgc;refine zEb (zu (ze (z7k (zd rfl ⟨n,_,.loc m,rfl,s.at_,z6d r m,zt ?_⟩))));have e0:(dkN hG).map (·.1)=(hG.map (·.1)).map λ(k:Nat)=>(k:Int):=by unfold dkN;rw[Nh,Nh];rfl
 have e2:nat S=(S.map λ(k:Nat)=>(k:Int)).map D.int:=by rw[Nh];rfl
 have e3:zAk ((hG.map (·.1)).map λ(k:Nat)=>(k:Int))=S.map λ(k:Nat)=>(k:Int):=by
  refine zBc ((Nv _ _).trans (k.pm.symm.map _)) (zch _) ?_;rw[Vb];exact k.pw.imp λh=>by omega
 have e4:(dkN hG).length<64:=by unfold dkN;rw[Lv];omega
 refine⟨_,_,?_,q⟩;simp only[zag,zZ s.dc,ym];rw[decide_eq_true e4,cond_true,e0,e3,<-e2]
def tX.look(k:tX hG S){x:Nat}(h:x∈S):∃v,hG.lookup x=some v:=by
 have h1:x∈hG.map (·.1):=k.pm.mem_iff.mp h;obtain⟨p,hp,rfl⟩:=List.mem_map.mp h1
 cases e:hG.lookup p.1 with
 |some v=>exact⟨v,rfl⟩
 |none=>
  rw[List.lookup_eq_none_iff]at e;exact absurd (e p hp) (by simp)
def z6n(s:Sh O n m r hG)(k:tX hG S)(q:∀l O',tm O O'->O.length<=l->O'[l]?=some (.lst (S.map λx=>onD (hG.lookup x)))->Q (.loc l) O'):WF zKb [.loc n] O Q:=by
 have hf:=s.few;have hl:=k.len;refine zLb rfl ?_;show WS zbd [some (.loc n)] O _ _ _ _;unfold zbd;refine zEb (zcn (zFd (zu (znd (zd rfl ⟨n,_,rfl,s.at_,ztg r m,zt (z7c s k (.inr (.inr ⟨_,_,rfl,zr,zfc (by rw[Lv];omega),?_⟩)))⟩)))));refine zgg (λ(x:Nat)=>D.int x) S (λx=>onD (hG.lookup x)) (λO' k=>zdb zr k) (λx hx O' kp=>?_) (λO' kp=>?_)
 ·have s':=s.keep (tm.app.trans kp);obtain⟨v,hv⟩:=k.look hx;refine zsd ?_;unfold zWf;exact zo (z7k (zd rfl ⟨n,_,.loc m,rfl,s'.at_,z6d r m,zd rfl (zNn (zZ s'.dc) (by rw[z8b,hv];rfl) ⟨by rw[hv],kp,kp⟩)⟩))
 ·exact q _ _ (tm.app.trans kp.to) (yG (by simp) kp.len) zr
end
def hmN(n k:Nat)(t:Nat×Nat):Nat:=(t.1*k+t.2)%10007%n
def pr2(t:Nat×Nat):D:=.tup [.int (t.1:Nat),.int (t.2:Nat)]
abbrev rlN(R:Qf)(ts:Qe):D:=.tup [tn R,.tup (ts.map pr2)]
structure Rl(R:Qf)(ts:Qe):Prop where
 rl:1<=R.length/\R.length<=10
 tl:2<=ts.length/\ts.length<=3
 tn:∀t∈ts,t.1<=10006/\t.2<=10006
def zQt(h:Rl R ts)(q:∀O',tm O O'->Q (tn (ts.map (hmN R.length k))) O'):WF z8l [rlN R ts,.int k] O Q:=by
 have kX:=h.rl;have htl:=h.tl;refine zLb rfl ?_;show WS zSm [some (rlN R ts),some (.int k),none] O _ _ _ _;unfold zSm
 repeat walk_at "w"
 refine zmc rfl (show atI [tn R,.tup (ts.map pr2)] 0=some (tn R) from rfl) ?_
 repeat walk_at "w"
 refine zFd ?_
 repeat walk_at "w"
 refine zmc rfl (show atI [tn R,.tup (ts.map pr2)] 1=some (.tup (ts.map pr2)) from rfl) (.inl ⟨_,rfl,zfc (by rw[Lv];omega),?_⟩);refine zgg pr2 ts (λt=>D.int (hmN R.length k t:Nat)) (λ_ _=>rfl) (λt ht O' kp=>?_) (λO' kp=>?_)
 ·have hb:=h.tn t ht;refine zsd ?_;unfold zdn
  repeat walk_at "w"
  refine zmc (x:=pr2 t) rfl (show atI [D.int (t.1:Nat),D.int (t.2:Nat)] 0=some (D.int (t.1:Nat)) from rfl) ?_
  repeat walk_at "w"
  refine z1k (zJs (by omega) (by omega)) ?_
  repeat walk_at "w"
  refine zmc (x:=pr2 t) rfl (show atI [D.int (t.1:Nat),D.int (t.2:Nat)] 1=some (D.int (t.2:Nat)) from rfl) ?_
  repeat walk_at "w"
  have e:((nat R).length:Int)=R.length:=by rw[Lv]
  rw[e];refine zlj (by omega) ⟨?_,kp,kp⟩;unfold hmN
  push_cast
  rfl
 ·refine zt (z4j (zB zr) ?_);have e:ts.map (λt=>D.int (hmN R.length k t:Nat))=nat (ts.map (hmN R.length k)):=by rw[znh]
  rw[e];exact q _ kp.to
abbrev z0g(R:Qf)(ts:Qe)(S:Qf):Qd:=S.map λk=>ts.map (hmN R.length k)
def Rl.wb(h:Rl R ts){S:Qf}{L:Nat}(hS:S.length<=L):Wb L R (z0g R ts S) where
 rl:=h.rl
 kl:=by rw[Lv];exact hS
 kn:=λk hk=>by
  obtain⟨x, -,rfl⟩:=List.mem_map.mp hk;refine⟨by rw[Lv];exact h.tl,λy hy=>?_⟩;obtain⟨t, -,rfl⟩:=List.mem_map.mp hy;exact Nat.mod_lt _ h.rl.1
def zcm(h:Rl R ts)(hl:O[l]?=some (.lst (nat S)))(hS:S.length<=1000)(q:∀O',tm O O'->Q (wn R (z0g R ts S)) O'):WF zDd [rlN R ts,.loc l] O Q:=by
 refine zLb rfl ?_;show WS zoj [some (rlN R ts),some (.loc l)] O _ _ _ _;unfold zoj
 repeat walk_at "w"
 refine zmc rfl (show atI [tn R,.tup (ts.map pr2)] 0=some (tn R) from rfl) ?_
 repeat walk_at "w"
 refine zFd ?_
 repeat walk_at "w"
 refine .inr (.inr ⟨_,_,rfl,hl,zfc (by rw[Lv];omega),?_⟩);refine zgg (λ(x:Nat)=>D.int x) S (λk=>tn (ts.map (hmN R.length k))) (λO' k=>zdb hl k) (λx hx O' kp=>?_) (λO' kp=>?_)
 ·refine zsd ?_;unfold zKl
  repeat walk_at "w"
  exact zQt h λO2 k2=>⟨rfl,kp.trans k2,kp⟩
 ·refine zt (z4j (zB zr) ?_)
  repeat walk_at "w"
  have e:S.map (λk=>tn (ts.map (hmN R.length k)))=(z0g R ts S).map tn:=by rw[Nh];rfl
  rw[e];exact q _ kp.to
section
variable {O:Mem}{n m:Nat}{R:Qf}{ts:Qe}{hG:Qe}{Q:Wr}
def zKp(r:D)(m:Nat):(fsD r m).lookup ("laying":yt)=none:=by
 have h1:(("laying":yt) == "kept_rule")=false:=by decide +kernel
 have h2:(("laying":yt) == "nest_of")=false:=by decide +kernel
 simp only[fsD,Na,h1,h2,Nb]
def zwt(h:Rl R ts)(s:Sh O n m (rlN R ts) hG)(k:tX hG S)(q:∀l O',tm O O'->O.length<=l->O'[l]?=some (.lst ((ztd R (S.map λx=>hG.lookup x)).map .int))->Q (.loc l) O'):WF zne [.loc n] O Q:=by
 have hf:=s.few;have hl:=k.len;refine zLb rfl ?_;show WS zle [some (.loc n)] O _ _ _ _;unfold zle;refine zEb (zu (ze (zu (ze (z7k (zd rfl ⟨n,_,rlN R ts,rfl,s.at_,rfl,?_⟩))))));refine ze (zu (znd (zd rfl ⟨n,_,rfl,s.at_,ztg _ m,zt (z7c s k ?_)⟩)));refine zt (zcm h zr (by omega) λO1 k1=>?_);have s1:=s.keep (tm.app.trans k1);refine ze (zu (znd (zd rfl ⟨n,_,rfl,s1.at_,zKp _ m,zt (z6n s1 k λl2 O2 k2 g2 e2=>?_)⟩)));have e3:(S.map λx=>onD (hG.lookup x))=(S.map λx=>hG.lookup x).map onD:=by rw[Nh];rfl
 rw[e3]at e2;exact zt (zit (L:=30) (h.wb (by omega)) e2 λl3 O3 k3 g3 e4=>q _ _ ((tm.app.trans k1).trans (k2.trans k3)) (yG (tm.app.trans (k1.trans k2)).len g3) e4)
end
structure WX(F:FX)(ds:Wm)(O:Mem)(Q:Wr):Prop where
 ex:∃d O',F ds O=some (.ok d O')/\Q d O'
def zpA(nx:M.Loc->Mem->Prop)(rt:Wr)(ex:yt->Wq->Mem->Prop):Out->Prop
 |.next J O=>nx J O
 |.ret d O=>rt d O
 |.exc c fs O=>ex c fs O
 |_=>False
structure WXs(p:FS)(J:M.Loc)(O:Mem)(nx:M.Loc->Mem->Prop)(rt:Wr)(ex:yt->Wq->Mem->Prop):Prop where
 ex:∃o,p J O=some o/\zpA nx rt ex o
section
variable {p q:FS}{J:M.Loc}{O:Mem}{nx:M.Loc->Mem->Prop}{rt:Wr}{ex:yt->Wq->Mem->Prop}
def zSr(h:WS p J O nx rt (λ_ _=>False) λ_ _=>False):WXs p J O nx rt ex:=by
 obtain⟨o,e,k⟩:=h
 cases o with
 |next _ _=>exact⟨_,e,k⟩
 |ret _ _=>exact⟨_,e,k⟩
 |brk _ _=>exact k.elim
 |cont _ _=>exact k.elim
 |exc _ _ _=>exact k.elim
def zdg(h:WXs p J O (λJ' O'=>WXs q J' O' nx rt ex) rt ex):WXs (zX p q) J O nx rt ex:=by
 obtain⟨o,e,k⟩:=h
 cases o with
 |next J' O'=>obtain⟨o2,e2,k2⟩:=k;exact⟨o2,by simp[e,e2],k2⟩
 |ret d O'=>exact⟨.ret d O',by simp only[zX,e],k⟩
 |exc c fs O'=>exact⟨.exc c fs O',by simp only[zX,e],k⟩
 |brk _ _=>exact k.elim
 |cont _ _=>exact k.elim
def zGx{c:FT}(h:WT c J O λb O1=>(b=true->WXs p J O1 nx rt ex)/\(b=false->WXs q J O1 nx rt ex)):WXs (sIf c p q) J O nx rt ex:=by
 obtain⟨b,O1,e,h1,h2⟩:=h
 cases b with
 |true=>obtain⟨o,e2,k⟩:=h1 rfl;exact⟨o,by simp[e,e2],k⟩
 |false=>obtain⟨o,e2,k⟩:=h2 rfl;exact⟨o,by simp[e,e2],k⟩
end
structure WXr(F:FX)(ds:Wm)(O:Mem)(Q:Wr)(ex:yt->Wq->Mem->Prop):Prop where
 ex:(∃d O',F ds O=some (.ok d O')/\Q d O')\/∃c fs O',F ds O=some (.exc c fs O')/\ex c fs O'
def zvy{F:FX}{N:Qx}{p:FS}{ex:yt->Wq->Mem->Prop}(hF:F=λds O=>ziz (p (zS N ds) O))(h:WXs p (zS N ds) O (λ_ O'=>Q .non O') Q ex):WXr F ds O Q ex:=by
 subst hF;obtain⟨o,e,k⟩:=h
 cases o with
 |next J' O'=>exact⟨.inl ⟨_,_,by rw[e];rfl,k⟩⟩
 |ret d O'=>exact⟨.inl ⟨_,_,by rw[e];rfl,k⟩⟩
 |exc c fs O'=>exact⟨.inr ⟨_,_,_,by rw[e];rfl,k⟩⟩
 |brk _ _=>exact k.elim
 |cont _ _=>exact k.elim
def zVz{c f:yt}{G:FE}(h:WE G J O λx O1=>∃n fs d,x=.loc n/\O1[n]?=some (.exc c fs)/\fs.lookup f=some d/\Q d O1):WE (fAt c f G) J O Q:=by
 obtain⟨x,O1,e1,n,fs,d,rfl,e2,e3,q⟩:=h;exact⟨d,O1,by simp only[fAt,e1,ym,e2,if_true,e3],q⟩
def Sh.ne(s:Sh O n m r hG):n≠m:=by
 rintro rfl;have h1:=s.at_;rw[s.dc]at h1;cases h1
def Sh.set{hG':Qe}(s:Sh O n m r hG)(nd:(hG'.map (·.1)).Nodup)(few:hG'.length<=30):Sh (O.set m (.dct (dkN hG'))) n m r hG' where
 at_:=by rw[yL (yR s.ne)];exact s.at_
 dc:=by
  have hm:m<O.length:=by
   obtain⟨h, -⟩:=List.getElem?_eq_some_iff.mp s.dc;exact h
  rw[yN hm]
 nd:=nd
 few:=few
def zUu{c:yt}{ex:yt->Wq->Mem->Prop}(h:WA G J O λ_ O1=>ex c [] O1):WXs (zDp c G) J O nx rt ex:=by
 obtain⟨ds,O1,e,k⟩:=h;exact⟨.exc c [] O1,by simp only[zDp,e,ym],k⟩
def zaq(r:D)(m:Nat):(fsD r m).lookup ("has":yt)=none:=by
 have h1:(("has":yt) == "kept_rule")=false:=by decide +kernel
 have h2:(("has":yt) == "nest_of")=false:=by decide +kernel
 simp only[fsD,Na,h1,h2,Nb]
def zkx(h:O[n]?=some (.ins "Shelf" []))(q:Q .non (O.set n (.ins "Shelf" (fsD r O.length))++[.dct []])):WF zZb [.loc n,r] O Q:=by
 have hn:n<O.length:=(List.getElem?_eq_some_iff.mp h).1;refine zLb rfl ?_;show WS zwc [some (.loc n),some r] O _ _ _ _;unfold zwc;refine zw (zxr (zd rfl (zd rfl ⟨n,_,rfl,h,by decide,?_⟩)));refine zxr ?_
 repeat walk_at "w"
 have g1:∀(X σ:tx),(List.set O n X++[σ])[n]?=some X:=λX σ=>by rw[yg (by rw[Lx];exact hn),yN hn]
 have h2:¬("kept_rule":yt)="nest_of":=by decide +kernel
 have e:∀l:Nat,zOi "nest_of" (.loc l) (zOi "kept_rule" r [])=fsD r l:=λl=>by simp only[zOi,h2,if_false]
 refine⟨n,_,rfl,g1 _ _,by simp[zOi],?_⟩;rw[e,Lx,List.set_append_left _ _ (by rw[Lx];exact hn),List.set_set];exact q
def zKx:Sh ((O++[tx.ins "Shelf" []]).set O.length (.ins "Shelf" (fsD r (O++[tx.ins "Shelf" []]).length))++[.dct []]) O.length (O++[tx.ins "Shelf" []]).length r [] where
 at_:=by rw[yg (by simp),yN (by simp)]
 dc:=by rw[yC (by simp)];simp[dkN]
 nd:=List.nodup_nil
 few:=Ys _
def z4t{c f:yt}{ex:yt->Wq->Mem->Prop}(h:WA G J O λds O1=>∃(n:Nat)(ns:Qg),ds=[.loc n]/\O1[n]?=some (.lst (ns.map D.int))/\z2g ns/\ex c [(f,.loc O1.length)] (O1++[.lst (ns.map D.int)])):WXs (zRe c f G) J O nx rt ex:=by
 obtain⟨ds,O1,e,n,ns,rfl,hm,hs,k⟩:=h;exact⟨Out.exc c [(f,D.loc O1.length)] (O1++[tx.lst (ns.map D.int)]),by simp only[zRe,e,ym,hm,z8h,decide_eq_true hs,cond_true],k⟩
def zCp(T:Qf):nat T=(T.map λ(k:Nat)=>(k:Int)).map D.int:=by rw[Nh];rfl
def zzr{xs:Qf}(nd:xs.Nodup):∃T:Qf,T.Perm xs/\T.Pairwise (· < ·):=by
 have e:(xs.map λx=>(x,0)).map (·.1)=xs:=by rw[Nh];exact List.map_id' xs
 obtain⟨T,h⟩:=tX.ex (hG:=xs.map λx=>(x,0)) (by rw[e];exact nd);exact⟨T,by have:=h.pm;rw[e]at this;exact this,h.pw⟩
def tX.not(K:tX hG S){k:Nat}(h:hG.lookup k=none):k∉S:=λhm=>by
 obtain⟨v,hv⟩:=K.look hm;rw[h]at hv;cases hv
def tX.nd(K:tX hG S){k:Nat}(h:hG.lookup k=none):(S++[k]).Nodup:=by
 rw[Nx];refine⟨K.pw.imp λh=>yu h,by simp,λa ha b hb e=>K.not h ?_⟩;rw[List.mem_singleton]at hb;subst hb e;exact ha
def zIr{ex:yt->Wq->Mem->Prop}(h:WA G J O λds O1=>∃(l:Nat)(T:Qf),ds=[.loc l]/\O1[l]?=some (.lst (nat T))/\T.length<=31/\(∀x∈T,x<10^60)/\ex "Full" [("some",.loc O1.length)] (O1++[.lst (nat T)])):WXs (zRe "Full" "some" G) J O nx rt ex:=by
 obtain⟨ds,O1,e,l,T,rfl,hm,hl,hs,k⟩:=h;refine z4t ⟨_,O1,e,l,T.map λ(k:Nat)=>(k:Int),rfl,by rw[<-zCp];exact hm,⟨by rw[Lv];omega,λn hn=>?_⟩,by rw[<-zCp];exact k⟩;obtain⟨x,hx,rfl⟩:=List.mem_map.mp hn;have:=hs x hx;omega
def zjA:FS:=(zX (zFb 3 (zx zgf (zh (zx zDd (zh (zmp "Shelf" "kept_rule" (zm 0)) (zh (zm 2) zI))) (zh (zD zsg (zx zKb (zNc "Shelf" "laying" (zm 0) zI)) (zpk (zh (fC .non) zI))) (zh (zD zZs (zx z8i (zh (zm 2) zI)) (fC (.int 1))) zI))))) (zX (sIf (zM (zD gEq (zD gIx (zm 3) (fC (.int 0))) (fC (.str "full")))) (zRe "Full" "some" (zh (zx z9f (zh (fLC 1 [2] (zZf (zD gIx (zm 3) (fC (.int 1)))) (gN 0) z3j zSd) zI)) zI)) zDb) (zX (zFb 4 (fLC 1 [2] (zZf (zD gIx (zm 3) (fC (.int 1)))) (gN 0) z3j zHd)) (zX (z1j (zZf (zm 4)) (gN 5) zTd) (zYb (zm 4))))))
def ztx{ex:yt->Wq->Mem->Prop}(s:Sh O n m r hG)(K:tX hG S)(hS:∀x∈S,x<10^60)(hk:k<10^60)
 (qt:∀h:Nat,hG.lookup k=some h->ex "Twice" [] O)
 (qf:∀(T:Qf)(l:Nat)(O':Mem),hG.lookup k=none->S.length=30->T.Perm (S++[k])->T.Pairwise (· < ·)->tm O O'->O.length<=l->O'[l]?=some (.lst (nat T))->ex "Full" [("some",.loc l)] O')
 (qb:∀(l:Nat)(O':Mem),hG.lookup k=none->S.length<30->tm O O'->O.length<=l->O'[l]?=some (.lst (nat (S++[k])))->WXs zjA [some (.loc n),some (.int k),some (.loc l),none,none,none] O' (λ_ O''=>Q .non O'') Q ex):WXr z9d [.loc n,.int k] O Q ex:=by
 have hf:=s.few;have hl:=K.len;refine zvy rfl ?_;show WXs zdf [some (.loc n),some (.int k),none,none,none,none] O _ _ _;unfold zdf;refine zdg (zGx (zG (zu (znd (zd rfl ⟨n,_,rfl,s.at_,zaq _ m,ze (zd rfl (zt (zqv s ⟨_,rfl,λhb=>?_,λhb=>?_⟩)))⟩)))))
 ·cases e:hG.lookup k with
  |none=>rw[e]at hb;cases hb
  |some v=>exact zUu (ze (w_c (zt (qt v e))))
 ·have h0:hG.lookup k=none:=by
   cases e:hG.lookup k with
   |none=>rfl
   |some v=>rw[e]at hb;cases hb
  refine zSr (zfb ?_);have g1:((O++[tx.lst (nat S)])++[tx.lst [D.int k]])[O.length]?=some (.lst (nat S)):=by rw[yg (by simp)];exact zr
  refine zdg (zSr (z5 (zo (zu (znd (zd rfl ⟨n,_,rfl,s.at_,ztg _ m,zt (z7c s K (z1f (ze (zd rfl (zt (zJp g1 zr ?_ ?_))))))⟩))))))
  ·simp;omega
  ·have e1:nat S++[D.int k]=nat (S++[k]):=by simp[nat]
   have e2:(nat (S++[k])).length=S.length+1:=by rw[Lv,Lr,Ly]
   rw[e1];refine zdg (zGx (zG (zo (zu (ze (zd rfl (zt (zMe (zB zr) (w_c (zJi ⟨_,rfl,λhb=>?_,λhb=>?_⟩))))))))))
   ·have hb':=of_decide_eq_true hb;rw[e2]at hb';obtain⟨T,hT,pT⟩:=zzr (K.nd h0);have lT:=hT.length_eq;rw[Lr,Ly]at lT;refine zIr (ze (zu (ze (zd rfl (zt (z5l zr hT pT ?_ (zt ⟨_,T,rfl,zr,?_,λx hx=>?_,?_⟩)))))))
    ·rw[Lr,Ly];omega
    ·omega
    ·rcases List.mem_append.mp (hT.mem_iff.mp hx) with h|h
     ·exact hS x h
     ·rw[List.mem_singleton]at h;subst h;exact hk
    ·refine qf T _ _ h0 (by omega) hT pT ?_ ?_ zr
     ·exact(((tm.app.trans tm.app).trans tm.app).trans tm.app).trans tm.app
     ·simp
   ·have hb':=of_decide_eq_false hb;rw[e2]at hb';refine zSr (zfb ?_);exact qb _ _ h0 (by omega) ((tm.app.trans tm.app).trans tm.app) (by simp) zr
def zCx:FS:=(zX (sIf (zM (zD gEq (zD gIx (zm 3) (fC (.int 0))) (fC (.str "full")))) (zRe "Full" "some" (zh (zx z9f (zh (fLC 1 [2] (zZf (zD gIx (zm 3) (fC (.int 1)))) (gN 0) z3j zSd) zI)) zI)) zDb) (zX (zFb 4 (fLC 1 [2] (zZf (zD gIx (zm 3) (fC (.int 1)))) (gN 0) z3j zHd)) (zX (z1j (zZf (zm 4)) (gN 5) zTd) (zYb (zm 4)))))
def zIx{ex:yt->Wq->Mem->Prop}(h:Rl R ts)(s:Sh O n m (rlN R ts) hG)(K:tX hG S)(h30:S.length<30)(hl:O[l]?=some (.lst (nat (S++[k]))))
 (q1:∀(row:Qe) (l':Nat) (O':Mem),tT (z0g R ts (S++[k])) ((S.map λx=>hG.lookup x)++[none]) S.length row->((S.map λx=>hG.lookup x)++[none]).count (some (row.getD (row.length-1) (0,0)).2)<R.getD (row.getD (row.length-1) (0,0)).2 0->(∀row',Walk (z0g R ts (S++[k])) ((S.map λx=>hG.lookup x)++[none]) S.length row'->((S.map λx=>hG.lookup x)++[none]).count (some (row'.getD (row'.length-1) (0,0)).2)<R.getD (row'.getD (row'.length-1) (0,0)).2 0->row.length<=row'.length)->row.length<=10->tm O O'->O'[l']?=some (.lst (row.map pD))->WXs zCx [some (.loc n),some (.int k),some (.loc l),some (.tup [.str "put",.loc l']),none,none] O' nx rt ex)
 (q2:∀(T:Qf)(l':Nat)(O':Mem),T.Sublist (yB (S.length+1))->S.length∈T->TH R (z0g R ts (S++[k])) ((S.map λx=>hG.lookup x)++[none]) T->(∀o∈T,o=S.length\/∃row,tT (z0g R ts (S++[k])) ((S.map λx=>hG.lookup x)++[none]) S.length row/\(row.map (·.2)).Nodup/\((S.map λx=>hG.lookup x)++[none]).getD o none=some (row.getD (row.length-1) (0,0)).2)->tm O O'->O'[l']?=some (.lst (nat T))->WXs zCx [some (.loc n),some (.int k),some (.loc l),some (.tup [.str "full",.loc l']),none,none] O' nx rt ex) :
 WXs zjA [some (.loc n),some (.int k),some (.loc l),none,none,none] O nx rt ex:=by
 have hW:(S++[k]).length=S.length+1:=by simp
 have hK:(z0g R ts (S++[k])).length=S.length+1:=by rw[Lv,hW]
 have hy:((S.map λx=>hG.lookup x)++[none]).length=S.length+1:=by simp
 unfold zjA;refine zdg (zSr (z5 (zu (ze (zu (ze (z7k (zd rfl ⟨n,_,rlN R ts,rfl,s.at_,rfl,ze (zd rfl (zt (zcm h hl (by omega) λO1 k1=>?_)))⟩))))))));have s1:=s.keep k1;refine ze (zo (zu (znd (zd rfl ⟨n,_,rfl,s1.at_,zKp _ m,zt (z6n s1 K λl2 O2 k2 g2 e2=>z1f (ze (w_c (zt (zJp (tm.app _ _ e2) zr ?_ ?_)))))⟩))))
 ·simp;omega
 ·have e3:(S.map λx=>onD (hG.lookup x))++[D.non]=((S.map λx=>hG.lookup x)++[none]).map onD:=by rw[Nd,Nh];rfl
  rw[e3];have kk:tm O ((O2++[tx.lst [D.non]])++[tx.lst (((S.map λx=>hG.lookup x)++[none]).map onD)]):=((k1.trans k2).trans tm.app).trans tm.app;refine ze (zo (zu (ze (zd rfl (zt (zMe (zB (kk _ _ hl)) (w_c (zkt (zt ?_)))))))));have e4:(((nat (S++[k])).length:Nat):Int)-1=((S.length:Nat):Int):=by rw[Lv,hW];omega
  rw[e4];refine zbq (L:=30) (h.wb (by omega)) (by rw[hK,hy]) (by omega) zr (by omega) (by simp) (λrow l' O' ro hr hf r10 k' _ e'=>?_) (λT l' O' sb hm sh rc k' _ e'=>?_)
  ·exact q1 row l' O' ro hr hf r10 (kk.trans k') e'
  ·exact q2 T l' O' (by rw[hK]at sb;exact sb) hm sh rc (kk.trans k') e'
def zIy{l':Nat}{T:Qf}{ex:yt->Wq->Mem->Prop}(hS:∀x∈S++[k],x<10^60)(nd:(S++[k]).Nodup)(h30:S.length<30)(hl:O[l]?=some (.lst (nat (S++[k]))))(sb:T.Sublist (yB (S.length+1)))(hm:S.length∈T)(hl':O[l']?=some (.lst (nat T)))
 (q:∀(V:Qf)(l2:Nat)(O':Mem),V.Pairwise (· < ·)->k∈V->V.Perm (T.map λi=>(S++[k]).getD i 0)->tm O O'->O.length<=l2->O'[l2]?=some (.lst (nat V))->ex "Full" [("some",.loc l2)] O') :
 WXs zCx [some (.loc n),some (.int k),some (.loc l),some (.tup [.str "full",.loc l']),none,none] O nx rt ex:=by
 have hW:(S++[k]).length=S.length+1:=by simp
 have lT:T.length<=S.length+1:=by have:=sb.length_le;rw[Lw]at this;exact this
 have hT:∀i∈T,i<(S++[k]).length:=λi hi=>by have:=List.mem_range.mp (sb.subset hi);omega
 have g:∀(i:Nat)(h:i<(S++[k]).length),(S++[k]).getD i 0=(S++[k])[i]:=λi h=>by rw[Lp,yk h,Option.getD_some]
 have hc:Yn (.str ("full":yt)) (.str ("full":yt))=true:=by decide +kernel
 unfold zCx;refine zdg (zGx (zG (zo (zo (zd rfl (w_c (zmc rfl rfl (w_c (zvi ⟨_,rfl,λ_=>?_,λhb=>?_⟩)))))))))
 ·have ndV:(T.map λi=>(S++[k]).getD i 0).Nodup:=by
   rw[List.Nodup,Vb];refine List.Pairwise.imp_of_mem (λ{a b} ha hb hab e=>?_) (List.Nodup.sublist sb List.nodup_range);have h1:=hT a ha;have h2:=hT b hb;rw[g a h1,g b h2]at e;exact hab ((List.getElem?_inj h1 nd).mp (by rw[yk h1,yk h2,e]))
  obtain⟨V,hV,pV⟩:=zzr ndV;have lV:=hV.length_eq;rw[Lv]at lV;refine zIr (ze (zu (ze (zcn (zFd (zo (zd rfl (w_c (zmc rfl rfl (.inr (.inr ⟨_,_,rfl,hl',zfc (by rw[Lv];omega),?_⟩)))))))))));refine zgg (λ(x:Nat)=>D.int x) T (λi=>D.int ((S++[k]).getD i 0:Nat)) (λO' k=>zdb hl' k) (λi hi O' kp=>?_) (λO' kp=>?_)
  ·refine zsd ?_;unfold zSd;exact zo (zd rfl (zd rfl (zmc (zB (kp _ _ hl)) (zxh (hT i hi)) ⟨rfl,kp,kp⟩)))
  ·have e:(T.map λi=>D.int ((S++[k]).getD i 0:Nat))=nat (T.map λi=>(S++[k]).getD i 0):=by rw[znh]
   rw[e];refine zt (z5l zr hV pV (by rw[Lv];omega) (zt ⟨_,V,rfl,zr,by omega,λx hx=>?_,?_⟩))
   ·obtain⟨i,hi,rfl⟩:=List.mem_map.mp (hV.mem_iff.mp hx);have:=hT i hi;rw[g i this];exact hS _ (Lq this)
   ·refine q V _ _ pV ?_ hV ((kp.to.trans tm.app).trans tm.app) ?_ zr
    ·refine hV.mem_iff.mpr (List.mem_map.mpr ⟨S.length,hm,by simp⟩)
    ·have:=kp.len;simp;omega
 ·rw[hc]at hb;cases hb
def zfj(hG:Qe)(k h:Nat):Qe:=if k∈hG.map (·.1) then hG.map (λp=>if p.1=k then(p.1,h) else p) else hG++[(k,h)]
def z9l(k h:Nat)(hG:Qe):zYk (dkN hG) (k:Int) (.int (h:Nat))=dkN (zfj hG k h):=by
 have e:((dkN hG).any λp=>decide (p.1=(k:Int)))=decide (k∈hG.map (·.1)):=by
  unfold dkN;rw[Ld];apply Bool.eq_iff_iff.mpr;rw[Lc,decide_eq_true_iff,Nr];constructor
  ·rintro⟨p,hp,h⟩;have h:((p.1:Nat):Int)=k:=of_decide_eq_true h;exact⟨p,hp,by omega⟩
  ·rintro⟨p,hp,h⟩;refine⟨p,hp,decide_eq_true (show((p.1:Nat):Int)=k from ?_)⟩;omega
 unfold zYk zfj;rw[e]
 by_cases hk:k∈hG.map (·.1)
 ·rw[if_pos (decide_eq_true hk),if_pos hk];unfold dkN;rw[Nh,Nh];refine Nf λp _=>?_;show(if((p.1:Nat):Int)=k then _ else _)=_
  by_cases hp:p.1=k
  ·rw[if_pos (by omega)];show _=((((if p.1=k then(p.1,h) else p).1:Nat):Int),D.int ((if p.1=k then(p.1,h) else p).2:Nat));rw[if_pos hp]
  ·rw[if_neg (by omega)];show _=((((if p.1=k then(p.1,h) else p).1:Nat):Int),D.int ((if p.1=k then(p.1,h) else p).2:Nat));rw[if_neg hp]
 ·rw[if_neg (by rw[decide_eq_true_iff];exact hk),if_neg hk];unfold dkN;rw[Nd];rfl
def z7j(hG:Qe)(k h:Nat):(zfj hG k h).map (·.1)=if k∈hG.map (·.1) then hG.map (·.1) else hG.map (·.1)++[k]:=by
 unfold zfj
 by_cases hk:k∈hG.map (·.1)
 ·rw[if_pos hk,if_pos hk,Nh];refine Nf λp _=>?_;show(if p.1=k then(p.1,h) else p).1=p.1
  by_cases hp:p.1=k
  ·rw[if_pos hp]
  ·rw[if_neg hp]
 ·rw[if_neg hk,if_neg hk,Nd];rfl
def zAw(nd:(hG.map (·.1)).Nodup):((zfj hG k h).map (·.1)).Nodup:=by
 rw[z7j]
 by_cases hk:k∈hG.map (·.1)
 ·rw[if_pos hk];exact nd
 ·rw[if_neg hk,Nx];refine⟨nd,by simp,λa ha b hb e=>hk ?_⟩;rw[List.mem_singleton]at hb;subst hb e;exact ha
def zEu:x∈(zfj hG k h).map (·.1)↔x∈hG.map (·.1)\/x=k:=by
 rw[z7j]
 by_cases hk:k∈hG.map (·.1)
 ·rw[if_pos hk];exact⟨.inl,λh=>h.elim id λh=>h▸hk⟩
 ·rw[if_neg hk,Nj,List.mem_singleton]
def zKh{k h x:Nat}(hx:x≠k):∀hG:Qe,(hG.map (λp=>if p.1=k then(p.1,h) else p)).lookup x=hG.lookup x
 |[]=>rfl
 |(j,v)::hG=>by
  have ih:=zKh (h:=h) hx hG;rw[Ng]
  by_cases hj:j=k
  ·have e:(x==j)=false:=beq_eq_false_iff_ne.mpr (by omega);rw[if_pos hj,Na,Na,e];exact ih
  ·rw[if_neg hj,Na,Na,ih]
def zyh{k h:Nat}:∀hG:Qe,k∈hG.map (·.1)->(hG.map (λp=>if p.1=k then(p.1,h) else p)).lookup k=some h
 |[],hk=>absurd hk (by simp)
 |(j,v)::hG,hk=>by
  rw[Ng]
  by_cases hj:j=k
  ·rw[if_pos hj,Na,hj,beq_self_eq_true]
  ·have e:(k==j)=false:=beq_eq_false_iff_ne.mpr (by omega);rw[if_neg hj,Na,e];rw[Ng,Nn]at hk;exact zyh hG (hk.resolve_left (yR hj))
def zXh(hG:Qe)(k h x:Nat):(zfj hG k h).lookup x=if x=k then some h else hG.lookup x:=by
 unfold zfj
 by_cases hk:k∈hG.map (·.1)
 ·rw[if_pos hk]
  by_cases hx:x=k
  ·subst hx;rw[if_pos rfl];exact zyh hG hk
  ·rw[if_neg hx];exact zKh hx hG
 ·rw[if_neg hk,List.lookup_append]
  by_cases hx:x=k
  ·subst hx
   have e:hG.lookup x=none:=List.lookup_eq_none_iff.mpr λp hp=>by
    apply bne_iff_ne.mpr;intro e;exact hk (List.mem_map.mpr ⟨p,hp,e.symm⟩)
   rw[if_pos rfl,e,Option.none_or,Na,beq_self_eq_true]
  ·have e:(x==k)=false:=beq_eq_false_iff_ne.mpr hx;rw[if_neg hx,Na,e];exact Option.or_none
def zrd(hG row:Qe):Qe:=row.foldl (λkv p=>zfj kv p.1 p.2) hG
def zUj(hG row:Qe)(p:Nat×Nat):zrd hG (row++[p])=zfj (zrd hG row) p.1 p.2:=by
 unfold zrd;rw[List.foldl_append];rfl
def zhh(row:Qe):∀hG:Qe,(hG.map (·.1)).Nodup->((zrd hG row).map (·.1)).Nodup:=by
 induction row with
 |nil=>exact λ_ h=>h
 |cons p row ih=>exact λhG h=>ih _ (zAw h)
def zMm(row:Qe):∀(hG:Qe) (x:Nat),x∈(zrd hG row).map (·.1)↔x∈hG.map (·.1)\/x∈row.map (·.1):=by
 induction row with
 |nil=>intro hG x;simp[zrd]
 |cons p row ih=>
  intro hG x;show x∈(zrd (zfj hG p.1 p.2) row).map (·.1)↔_;rw[ih,zEu,Ng,Nn,or_assoc]
def z7l(nd:(hG.map (·.1)).Nodup)(h1:∀x∈hG.map (·.1),x∈A)(h2:∀x∈row.map (·.1),x∈A):(zrd hG row).length<=A.length:=by
 have h:((zrd hG row).map (·.1)).length<=A.length:=by
  refine zjc (zhh row hG nd) λx hx=>?_;rcases(zMm row hG x).mp hx with h|h
  ·exact h1 x h
  ·exact h2 x h
 rw[Lv]at h;exact h
abbrev z5k(A:Qf)(row:Qe):Qe:=row.map λp=>(A.getD p.1 0,p.2)
def zdm(hm:∀p∈row,p.1<A.length):∀p∈z5k A row,p.1∈A:=λp hp=>by
 obtain⟨q,hq,rfl⟩:=List.mem_map.mp hp;have h:=hm q hq;show A.getD q.1 0∈A;rw[Lp,yk h,Option.getD_some];exact Lq h
abbrev JPt(n m k l l' lr:Nat)(r:D)(hG gG:Qe)(O:Mem):Nat->M.Loc->Mem->Prop:=λi J O'=>∃x5:Wn,J=[some (.loc n),some (.int k),some (.loc l),some (.tup [.str "put",.loc l']),some (.loc lr),x5]/\KB [m] O O'/\Sh O' n m r (zrd hG (gG.take i))
def zjy{l':Nat}{ex:yt->Wq->Mem->Prop}(s:Sh O n m r hG)(K:tX hG S)(h30:S.length<30)(hl:O[l]?=some (.lst (nat (S++[k]))))(hm:∀p∈row,p.1<S.length+1)(r10:row.length<=10)(hl':O[l']?=some (.lst (row.map pD)))
 (q:∀(lr:Nat)(O':Mem),KB [m] O O'->O.length<=lr->O'[lr]?=some (.lst ((z5k (S++[k]) row).map pD))->Sh O' n m r (zrd hG (z5k (S++[k]) row))->rt (.loc lr) O') :
 WXs zCx [some (.loc n),some (.int k),some (.loc l),some (.tup [.str "put",.loc l']),none,none] O nx rt ex:=by
 have hW:(S++[k]).length=S.length+1:=by simp
 have hm':∀p∈row,p.1<(S++[k]).length:=λp hp=>by have:=hm p hp;omega
 have hc:Yn (.str ("put":yt)) (.str ("full":yt))=false:=by decide +kernel
 have gB:=zF s.dc;unfold zCx;refine zdg (zGx (zG (zo (zo (zd rfl (w_c (zmc rfl rfl (w_c (zvi ⟨_,rfl,λhb=>?_,λ_=>?_⟩)))))))))
 ·rw[hc]at hb;cases hb
 refine zSr (zfb ?_);refine zdg (zSr (z5 (zcn (zFd (zo (zd rfl (w_c (zmc rfl rfl (.inr (.inr ⟨_,_,rfl,hl',zfc (by rw[Lv];omega),?_⟩))))))))));refine zgg pD row (λp=>pD ((S++[k]).getD p.1 0,p.2)) (λO' k=>zdb hl' k) (λp hp O' kp=>?_) (λO' kp=>?_)
 ·refine zsd ?_;unfold zHd;refine zbg (ze (zo (zd rfl (zo (zd rfl (w_c (zmc (x:=pD p) rfl (show atI [D.int (p.1:Nat),D.int (p.2:Nat)] 0=some (D.int (p.1:Nat)) from rfl) (zmc (zB (kp _ _ hl)) (zxh (hm' p hp)) ?_))))))));exact ze (zo (zd rfl (w_c (zmc (x:=pD p) rfl (show atI [D.int (p.1:Nat),D.int (p.2:Nat)] 1=some (D.int (p.2:Nat)) from rfl) (zt ⟨rfl,kp,kp⟩)))))
 ·have e:(row.map λp=>pD ((S++[k]).getD p.1 0,p.2))=(z5k (S++[k]) row).map pD:=by rw[Nh];rfl
  rw[e];have k2:tm O (O'++[tx.lst ((z5k (S++[k]) row).map pD)]):=kp.to;have gl:(O'++[tx.lst ((z5k (S++[k]) row).map pD)])[O'.length]?=some (.lst ((z5k (S++[k]) row).map pD)):=zr;have hle:=kp.len;have rl:(z5k (S++[k]) row).length<=10:=by rw[Lv];exact r10
  have rm:=zdm hm';generalize z5k (S++[k]) row=gG at k2 gl rl rm q;generalize O'++[tx.lst (gG.map pD)]=O2 at k2 gl;generalize O'.length=lr at gl hle;have kL:lr≠m:=by omega
  refine zSr (zw (z0f (zFd (zd rfl (.inr (.inr ⟨_,_,rfl,gl,?_⟩))))));refine z7b (JPt n m k l l' lr r hG gG O2) ⟨_,rfl,.refl,s.keep k2⟩ ?_ ?_ ?_
  ·rintro i J O3 ⟨x5,rfl,k3,s3⟩;exact TD.mpr (k3.at_ _ _ (by simp;exact kL) gl)
  ·rintro i x J O3 hx ⟨x5,rfl,k3,s3⟩;rw[yi]at hx
   cases hp:gG[i]? with
   |none=>rw[hp]at hx;cases hx
   |some p=>
    rw[hp]at hx;obtain rfl:pD p=x:=by simpa using hx
    refine zsd ?_;unfold zTd;refine zqh (zo (zd rfl (w_c (zmc (x:=pD p) rfl (show atI [D.int (p.1:Nat),D.int (p.2:Nat)] 1=some (D.int (p.2:Nat)) from rfl) (zJn (z7k (zd rfl ⟨n,_,.loc m,rfl,s3.at_,z6d r m,?_⟩)))))));have ht:gG.take (i+1)=gG.take i++[p]:=by rw[Vf,hp];rfl
    have ekv:=zUj hG (gG.take i) p;rw[<-ht]at ekv;refine zo (zd rfl (w_c (zmc (x:=pD p) rfl (show atI [D.int (p.1:Nat),D.int (p.2:Nat)] 0=some (D.int (p.1:Nat)) from rfl) ⟨m,_,_,rfl,rfl,s3.dc,?_,_,rfl,k3.trans (KB.refl.set (.inl (by simp))),?_⟩)))
    ·have:=s3.few;unfold dkN;rw[Lv];omega
    ·rw[z9l,<-ekv];refine s3.set (zhh _ _ s.nd) ?_;refine yG (z7l (A:=S++[k]) s.nd (λx hx=>Nk _ (K.pm.mem_iff.mpr hx)) λx hx=>?_) (by omega);obtain⟨y,hy,rfl⟩:=List.mem_map.mp hx;exact rm y (List.mem_of_mem_take hy)
  ·rintro J O3 ⟨x5,rfl,k3,s3⟩;rw[Lv,Vh]at s3;have k4:=(KB.of_keep (L:=[m]) k2).trans k3;exact zEb (zd rfl (q lr O3 k4 hle (k3.at_ _ _ (by simp;exact kL) gl) s3))
abbrev Can(R:Qf)(ts:Qe)(hG:Qe)(S:Qf)(k:Nat)(row:Qe):Prop:=tT (z0g R ts (S++[k])) ((S.map λx=>hG.lookup x)++[none]) S.length row/\((S.map λx=>hG.lookup x)++[none]).count (some (row.getD (row.length-1) (0,0)).2)<R.getD (row.getD (row.length-1) (0,0)).2 0
abbrev Few(R:Qf)(ts:Qe)(hG:Qe)(S:Qf)(k:Nat)(row:Qe):Prop:=∀row',Walk (z0g R ts (S++[k])) ((S.map λx=>hG.lookup x)++[none]) S.length row'->((S.map λx=>hG.lookup x)++[none]).count (some (row'.getD (row'.length-1) (0,0)).2)<R.getD (row'.getD (row'.length-1) (0,0)).2 0->row.length<=row'.length
abbrev zzz(R:Qf)(ts:Qe)(hG:Qe)(S:Qf)(k:Nat)(V:Qf):Prop:=∀x∈V,x=k\/∃row,tT (z0g R ts (S++[k])) ((S.map λx=>hG.lookup x)++[none]) S.length row/\hG.lookup x=some (row.getD (row.length-1) (0,0)).2
abbrev zux(R:Qf)(ts hG:Qe)(S:Qf)(k:Nat)(V:Qf):Prop:=∃T:Qf,T.Sublist (yB (S.length+1))/\S.length∈T/\TH R (z0g R ts (S++[k])) ((S.map λx=>hG.lookup x)++[none]) T/\V.Perm (T.map λi=>(S++[k]).getD i 0)
def zHz{T:Qf}(sb:T.Sublist (yB (S.length+1)))(rc:∀o∈T,o=S.length\/∃row,tT (z0g R ts (S++[k])) ((S.map λx=>hG.lookup x)++[none]) S.length row/\(row.map (·.2)).Nodup/\((S.map λx=>hG.lookup x)++[none]).getD o none=some (row.getD (row.length-1) (0,0)).2)(hx:x∈T.map λi=>(S++[k]).getD i 0) :
 x=k\/∃row,tT (z0g R ts (S++[k])) ((S.map λx=>hG.lookup x)++[none]) S.length row/\hG.lookup x=some (row.getD (row.length-1) (0,0)).2:=by
 obtain⟨i,hi,rfl⟩:=List.mem_map.mp hx;have kH:=List.mem_range.mp (sb.subset hi);rcases rc i hi with rfl|⟨row,ro,_,e⟩
 ·exact .inl (by simp)
 ·by_cases hS:i<S.length
  ·refine .inr ⟨row,ro,?_⟩;rw[Lp,yg (by simpa using hS),yi,yk hS]at e;rw[Lp,yg hS,yk hS];exact e
  ·have:i=S.length:=by omega
   subst this;exact .inl (by simp)
def zSy{ex:yt->Wq->Mem->Prop}(h:Rl R ts)(s:Sh O n m (rlN R ts) hG)(K:tX hG S)(hS:∀x∈S,x<10^60)(hk:k<10^60)
 (qt:∀h:Nat,hG.lookup k=some h->ex "Twice" [] O)
 (qf:∀(V:Qf)(l:Nat)(O':Mem),hG.lookup k=none->V.Pairwise (· < ·)->k∈V->(S.length=30/\V.Perm (S++[k])\/S.length<30/\zux R ts hG S k V/\zzz R ts hG S k V)->tm O O'->O.length<=l->O'[l]?=some (.lst (nat V))->ex "Full" [("some",.loc l)] O')
 (q:∀(row:Qe) (lr:Nat) (O':Mem),hG.lookup k=none->S.length<30->Can R ts hG S k row->Few R ts hG S k row->KB [m] O O'->O.length<=lr->O'[lr]?=some (.lst ((z5k (S++[k]) row).map pD))->Sh O' n m (rlN R ts) (zrd hG (z5k (S++[k]) row))->Q (.loc lr) O'):WXr z9d [.loc n,.int k] O Q ex:=by
 refine ztx s K hS hk qt (λT l O' h0 h30 hT pT k' g e=>qf T l O' h0 pT (hT.mem_iff.mpr (by simp)) (.inl ⟨h30,hT⟩) k' g e) λl O1 h0 h30 k1 g1 e1=>?_
 have hSk:∀x∈S++[k],x<10^60:=λx hx=>by
  rcases List.mem_append.mp hx with hx|hx
  ·exact hS x hx
  ·rw[List.mem_singleton.mp hx];exact hk
 refine zIx h (s.keep k1) K h30 e1 (λrow l' O2 ro hr hf r10 k2 e2=>?_) (λT l' O2 sb hm sh rc k2 e2=>?_)
 ·refine zjy (s.keep (k1.trans k2)) K h30 (k2 _ _ e1) (λp hp=>?_) r10 e2 λlr O3 k3 g3 e3 s3=>?_
  ·have:=(ro.mem p hp).1;rw[Lv,Lr,Ly]at this;exact this
  ·exact q row lr O3 h0 h30 ⟨ro,hr⟩ hf ((KB.of_keep (k1.trans k2)).trans k3) (yG (k1.trans k2).len g3) e3 s3
 ·exact zIy hSk (K.nd h0) h30 (k2 _ _ e1) sb hm e2 λV l2 O3 pV hV pm k3 g3 e3=>qf V l2 O3 h0 pV hV (.inr ⟨h30,⟨T,sb,hm,sh,pm⟩,λx hx=>zHz sb rc (pm.mem_iff.mp hx)⟩) ((k1.trans k2).trans k3) (yG (k1.trans k2).len g3) e3
def zuh(K:tX hG S)(ro:tT (z0g R ts (S++[k])) ((S.map λx=>hG.lookup x)++[none]) S.length row):x∈(zrd hG (z5k (S++[k]) row)).map (·.1)↔x∈S\/x=k:=by
 have hm:∀p∈row,p.1<(S++[k]).length:=λp hp=>by
  have:=(ro.mem p hp).1;rw[Lv]at this;exact this
 rw[zMm];constructor
 ·rintro(h|h)
  ·exact .inl (K.pm.mem_iff.mpr h)
  ·obtain⟨p,hp,rfl⟩:=List.mem_map.mp h;simpa using zdm hm p hp
 ·rintro(h|rfl)
  ·exact .inl (K.pm.mem_iff.mp h)
  ·obtain⟨h,r,e⟩:=ro.first
   refine .inr ?_;rw[e];simp
def zFw{F:FX}{ex:yt->Wq->Mem->Prop}(h:WA G J O λds O1=>WXr F ds O1 (λ_ O'=>nx J O') ex):WXs (zft F G) J O nx rt ex:=by
 obtain⟨ds,O1,e1,⟨d,O',e2,k⟩|⟨c,fs,O',e2,k⟩⟩:=h
 ·exact⟨.next J O',by simp[e1,e2],k⟩
 ·exact⟨.exc c fs O',by simp[e1,e2],k⟩
def pick4:∀v:Nat,v<4->∃s:Nat,atI [D.int 2,.int 3,.int 3,.int 10] (v:Int)=some (.int (s:Nat))/\0<s/\s<=1000
 |0,_=>⟨2,zXb (j:=0) rfl,by decide,by decide⟩
 |1,_=>⟨3,zXb (j:=1) rfl,by decide,by decide⟩
 |2,_=>⟨3,zXb (j:=2) rfl,by decide,by decide⟩
 |3,_=>⟨10,zXb (j:=3) rfl,by decide,by decide⟩
 |v+4,h=>absurd h (by omega)
def pick3:∀v:Nat,v<3->∃s:Nat,atI [D.int 10007,.int 10007,.int 12] (v:Int)=some (.int (s:Nat))/\0<s/\s<=10007
 |0,_=>⟨10007,zXb (j:=0) rfl,by decide,by decide⟩
 |1,_=>⟨10007,zXb (j:=1) rfl,by decide,by decide⟩
 |2,_=>⟨12,zXb (j:=2) rfl,by decide,by decide⟩
 |v+3,h=>absurd h (by omega)
section
variable {ns:Qg}
def zQj(hp:Th ns O l B)(hB:B<=100000)(q:∀(R:Qf)(ts:Qe) (O':Mem),Rl R ts->KB [l] O O'->Th ns O' l (B+30)->Q (rlN R ts) O'):WF z4d [.loc l] O Q:=by
 refine zLb rfl ?_;show WS zIf [some (.loc l),none,none,none,none] O _ _ _ _;unfold zIf;refine zw (z5 (zo (w_c (zu (ze (zd rfl (ze (w_c (zt (zvc (s:=6) hp (by omega) (by decide) (by decide) λv1 O1 b1 k1 p1=>zSg ?_))))))))))
 have rest:∀(N:Nat)(ν:Mem),1<=N->N<=10->KB [l] O ν->Th ns ν l (B+3)->WS (zX (zFb 2 (zD gIx (zpk (zh (fC (.int 2)) (zh (fC (.int 3)) (zh (fC (.int 3)) (zh (fC (.int 10)) zI))))) (zx zJ (zh (zm 0) (zh (fC (.int 4)) zI))))) (zX (zFb 3 (zx zXg (zh (fLC 1 [0,2] (zWh (zh (zm 1) zI)) (gN 0) z3j zsf) zI))) (zX (zFb 4 (zD gIx (zpk (zh (fC (.int 10007)) (zh (fC (.int 10007)) (zh (fC (.int 12)) zI)))) (zx zJ (zh (zm 0) (zh (fC (.int 3)) zI))))) (zYb (zYj (zh (zm 3) (zh (zx zXg (zh (fLC 1 [0,4] (zWh (zh (zD zsg (fC (.int 2)) (zx zJ (zh (zm 0) (zh (fC (.int 2)) zI)))) zI)) (gN 0) z3j zxf) zI)) zI))))))) [some (.loc l),some (.int (N:Nat)),none,none,none] ν (λ_ O'=>Q .non O') Q (λ_ _=>False) (λ_ _=>False):=λN ν hN1 hN k0 p0=>by
  have hlc:l≠ν.length:=yu p0.lt;refine zw (z5 (zo (z1f (ze (w_c (ze (w_c (ze (w_c (ze (w_c (zt ?_))))))))))));refine zu (ze (zd rfl (ze (w_c (zt (zvc (s:=4) p0.app (by omega) (by decide) (by decide) λv2 O2 b2 k2 p2=>?_))))));obtain⟨s,es,hs1,hs2⟩:=pick4 v2 b2;refine zmc (zB (k2.at_ _ _ (Se hlc) zr)) es ?_;have k02:KB [l] O O2:=(k0.app).trans k2;refine zw (z5 (zu (ze (zcn (zMk (ze (zd rfl (zt ⟨_,rfl,by omega,by omega,zfc (by simp;omega),?_⟩)))))))) ;rw[Yv];refine zNu (s:=s) p2 (λj O' Q' hj p' k' hq=>?_) λR O3 hl hR k3 p3=>?_
  ·unfold zsf;exact zu (ze (zd rfl (ze (zd rfl (zt (zvc p' (by omega) hs1 hs2 λv O'' b k'' p''=>hq _ _ (by omega) (by omega) k'' p''))))))
  refine zt (z4j (zB zr) ?_);have p4:=(p3.up (B':=B+14) (by omega)).app (g:=[tx.lst (nat R)]);have k4:KB [l] O (O3++[tx.lst (nat R)]):=(k02.trans k3).app;generalize O3++[tx.lst (nat R)]=O4 at p4 k4;have hlc4:l≠O4.length:=yu p4.lt;refine zw (z5 (zo (z1f (ze (w_c (ze (w_c (ze (w_c (zt ?_))))))))));refine zu (ze (zd rfl (ze (w_c (zt (zvc (s:=3) p4.app (by omega) (by decide) (by decide) λv5 O5 b5 k5 p5=>?_))))));obtain⟨f,ef,hf1,hf2⟩:=pick3 v5 b5;refine zmc (zB (k5.at_ _ _ (Se hlc4) zr)) ef ?_;have k05:KB [l] O O5:=(k4.app).trans k5;refine zEb (zbg (ze (zd rfl (ze (zu (ze (zcn (zMk (ze (zo (w_c (zu (ze (zd rfl (ze (w_c (zt (zvc (s:=2) p5 (by omega) (by decide) (by decide) λv6 O6 b6 k6 p6=>zSg (zt ?_)))))))))))))))))));have e4:(2:Int)+(v6:Nat)=((2+v6:Nat):Int):=by omega
  rw[e4];refine⟨_,rfl,by omega,by omega,zfc (by simp;omega),?_⟩;rw[Yv];refine zSo (λi ys O'=>∃ts:Qe,ys=ts.map pr2/\ts.length=i/\(∀t∈ts,t.1<=10006/\t.2<=10006)/\KB [l] O6 O'/\Th ns O' l (B+16+2*i)) ⟨[],rfl,rfl,by simp,.refl,p6⟩ (λ_ _ _ _=>rfl) ?_ ?_
  ·rintro i x ys O' hx ⟨ts,rfl,hl,hS,k,p⟩;obtain⟨hi,rfl⟩:=zOj hx;refine zsd (zTv ⟨λ_=>?_,λhf=>(by cases hf)⟩);unfold zxf;refine zbg (ze (zu (ze (zd rfl (ze (zd rfl (zt (zvj p (by omega) (by omega) (by omega) λv7 O7 a7 b7 k7 _ p7=>?_))))))));refine ze (zu (ze (zd rfl (ze (zd rfl (zt (zvj p7 (by omega) (by omega) (by omega) λv8 O8 a8 b8 k8 _ p8=>zt ?_)))))));obtain⟨v7,rfl⟩:=xo a7;obtain⟨v8,rfl⟩:=xo a8;refine⟨ts++[(v7,v8)],by rw[Nd];rfl,by simp[hl],λt ht=>?_,k.trans (k7.trans k8),p8.up (by omega)⟩;rcases List.mem_append.mp ht with ht|ht
   ·exact hS t ht
   ·rw[List.mem_singleton.mp ht];exact⟨by show v7<=10006;omega,by show v8<=10006;omega⟩
  ·rintro ys O' ⟨ts,rfl,ht,hS,k,p⟩;simp only[Lv,Lw]at ht p;refine zt (z4j (zB zr) (zt ?_));exact q R ts _ ⟨by omega,by omega,hS⟩ ((k05.trans (k6.trans k)).app) ((p.up (by omega)).app)
 refine zw (zEf (zG (zo (zu (ze (zd rfl (ze (w_c (zt (zvc (s:=8) p1 (by omega) (by decide) (by decide) λv2 O2 b2 k2 p2=>w_c (zeh ⟨_,rfl,λ_=>?_,λ_=>zfb ?_⟩)))))))))))
 ·refine z5 (zo (w_c (zu (ze (zd rfl (ze (w_c (zt (zvc (s:=6) p2 (by omega) (by decide) (by decide) λv3 O3 b3 k3 p3=>zSg ?_)))))))));have e:(5:Int)+(v3:Nat)=((5+v3:Nat):Int):=by omega
  rw[e];exact rest (5+v3) O3 (by omega) (by omega) (k1.trans (k2.trans k3)) p3
 ·have e:(1:Int)+(v1:Nat)=((1+v1:Nat):Int):=by omega
  rw[e];exact rest (1+v1) O2 (by omega) (by omega) (k1.trans k2) (p2.up (by omega))
variable {O:Mem}{n m:Nat}{r:D}{hG:Qe}{S:Qf}{Q:Wr}
abbrev inN(hG:Qe)(S:Qf)(h:Nat):Qf:=S.filter λx=>decide (hG.lookup x=some h)
def zTw(s:Sh O n m r hG)(k:tX hG S)(q:∀l O',tm O O'->O.length<=l->O'[l]?=some (.lst (nat (inN hG S h)))->Q (.loc l) O'):WF zse [.loc n,.int h] O Q:=by
 have hf:=s.few;have hl:=k.len;refine zLb rfl ?_;show WS zke [some (.loc n),some (.int h)] O _ _ _ _;unfold zke;refine zEb (zcn (zFd (zu (znd (zd rfl ⟨n,_,rfl,s.at_,ztg r m,zt (z7c s k (.inr (.inr ⟨_,_,rfl,zr,zfc (by rw[Lv];omega),?_⟩)))⟩)))));refine z8d (λ(x:Nat)=>D.int x) S (λx=>D.int (x:Nat)) (λx=>decide (hG.lookup x=some h)) (λO' k=>zdb zr k) (λx hx O' kp=>?_) (λO' kp=>?_)
 ·have s':=s.keep (tm.app.trans kp);obtain⟨v,hv⟩:=k.look hx;refine zsd ?_;unfold z4g;refine zG (zo (zo (z7k (zd rfl ⟨n,_,.loc m,rfl,s'.at_,z6d r m,zd rfl (zNn (zZ s'.dc) (by rw[z8b,hv];rfl) (zd rfl (zeh ⟨_,rfl,?_,kp,λ_=>?_⟩)))⟩))))
  ·rw[hv];apply Bool.eq_iff_iff.mpr;rw[decide_eq_true_iff,beq_iff_eq,xG];omega
  ·unfold z5g;exact zd rfl ⟨rfl,kp⟩
 ·exact q _ _ (tm.app.trans kp.to) (yG (by simp) kp.len) zr
end
def zUy{hU:Qc}{hs:Qf}(e:hU=hs.map some)(hi:hs[i]?=some h):atI (hU.map onD) (i:Int)=some (.int (h:Nat)):=zXb (by rw[e,yi,yi,hi];rfl)
abbrev JRn(n m a l:Nat)(r:D)(S:Qf)(hG gG:Qe)(O:Mem):Nat->M.Loc->Mem->Prop:=λi J O'=>∃x4 x5:Wn,J=[some (.loc n),some r,some (.loc a),some (.tup [.str "fits",.loc l]),x4,x5]/\KB [n,m] O O'/\Sh O' n m r (zrd hG (gG.take i))
def zdv{R':Qf}{ts':Qe}{ex:yt->Wq->Mem->Prop}(h:Rl R' ts')(s:Sh O n m r hG)(K:tX hG S)(hS:∀x∈S,x<10^60)
 (qf:∀(T:Qf)(l:Nat)(O':Mem),T.Sublist (yB S.length)->zpg R' (z0g R' ts' S) T=true->zLc R' (z0g R' ts' S) T=none->tm O O'->O.length<=l->O'[l]?=some (.lst (nat (T.map λi=>S.getD i 0)))->ex "Full" [("some",.loc l)] O')
 (q:∀(hs:Qf)(O':Mem),hs.length=S.length->To R' (z0g R' ts' S) (hs.map some)->KB [n,m] O O'->Sh O' n m (rlN R' ts') (zrd hG (S.zip hs))->Q .non O'):WXr zKd [.loc n,rlN R' ts'] O Q ex:=by
 have hf:=s.few;have hl:=K.len;have hK:(z0g R' ts' S).length=S.length:=by rw[Lv]
 have hcc:Yn (.str ("crowd":yt)) (.str ("crowd":yt))=true:=by decide +kernel
 have hfc:Yn (.str ("fits":yt)) (.str ("crowd":yt))=false:=by decide +kernel
 refine zvy rfl ?_;show WXs zEd [some (.loc n),some (rlN R' ts'),none,none,none,none] O _ _ _;unfold zEd;refine zdg (zSr (z5 (zu (znd (zd rfl ⟨n,_,rfl,s.at_,ztg _ m,zt (z7c s K ?_)⟩)))));have e0:(O++[tx.lst (nat S)])[O.length]?=some (.lst (nat S)):=zr;have k0:tm O (O++[tx.lst (nat S)]):=tm.app;generalize O++[tx.lst (nat S)]=O0 at e0 k0;refine zdg (zSr (z5 (zu (ze (zu (ze (zd rfl (ze (zd rfl (zt (zcm h e0 (by omega) λO1 k1=>zt ?_)))))))))));have k01:=k0.trans k1;refine zws (L:=30) (h.wb (by omega)) (by omega) (λhU l O2 rt hsm k2 g2 e2=>?_) (λT l O2 sb hc hsp k2 g2 e2=>?_)
 ·refine zdg (zGx (zG (zo (zo (zd rfl (w_c (zmc rfl rfl (w_c (zvi ⟨_,rfl,λhb=>?_,λ_=>zSr (zfb ?_)⟩)))))))))
  ·rw[hfc]at hb;cases hb
  have hlay:hU.length=S.length:=by rw[rt.len,hK]
  have elay:hU=(hU.map λo=>o.getD 0).map some:=by
   rw[Nh];refine Lj λi=>?_;rw[yi]
   by_cases hi:i<hU.length
   ·have:=hsm i (by omega);rw[Lp]at this
    cases e:hU[i]? with
    |none=>rfl
    |some o=>
     rw[e]at this
     cases o with
     |none=>cases this
     |some v=>rfl
   ·rw[Yr (by omega)];rfl
  have hhs:(hU.map λo=>o.getD 0).length=S.length:=by rw[Lv,hlay]
  have k02:=k01.trans k2;have s2:=s.keep k02;have ea:=k2 _ _ (k1 _ _ e0);have q':=q (hU.map λo=>o.getD 0);generalize (hU.map λo=>o.getD 0)=hs at hhs elay q';have rt':To R' (z0g R' ts' S) (hs.map some):=by rw[<-elay];exact rt
  refine zSr (zw (zxr (zd rfl (zd rfl ⟨n,_,rfl,s2.at_,by simp[fsD],?_⟩))));have h2:zOi "kept_rule" (rlN R' ts') (fsD r m)=fsD (rlN R' ts') m:=by simp only[zOi,if_true]
  rw[h2];have kL:=s2.ne;have kn:KB [n,m] O2 (O2.set n (.ins "Shelf" (fsD (rlN R' ts') m))):=KB.refl.set (.inl (by simp));have s3:Sh (O2.set n (.ins "Shelf" (fsD (rlN R' ts') m))) n m (rlN R' ts') hG:=⟨zfx s2.at_,by rw[yL kL];exact s2.dc,s2.nd,s2.few⟩
  have al:O.length≠n:=yX (zF s.at_);have am:O.length≠m:=yX (zF s.dc);have ln:l≠n:=by have:=zF s.at_;have:=k01.len;omega
  have lm:l≠m:=by have:=zF s.dc;have:=k01.len;omega
  have ea3:=kn.at_ _ _ (by simp;exact⟨al,am⟩) ea;have el3:=kn.at_ _ _ (by simp;exact⟨ln,lm⟩) e2;have k03:KB [n,m] O (O2.set n (.ins "Shelf" (fsD (rlN R' ts') m))):=(KB.of_keep k02).trans kn;generalize O2.set n (.ins "Shelf" (fsD (rlN R' ts') m))=O3 at s3 ea3 el3 k03;have zl:(S.zip hs).length=S.length:=by rw[List.length_zip,hhs,Nat.min_self]
  have zk:∀x∈(S.zip hs).map (·.1),x∈S:=λx hx=>by
   obtain⟨p,hp,rfl⟩:=List.mem_map.mp hx;exact(Va hp).1
  refine z0f (zZi (zd rfl (.inr (.inr ⟨_,_,rfl,ea3,?_⟩))));rw[zwr];refine z7b (JRn n m O.length l (rlN R' ts') S hG (S.zip hs) O3) ⟨_,_,rfl,.refl,s3⟩ ?_ ?_ ?_
  ·rintro i J O4 ⟨x4,x5,rfl,k4,s4⟩;exact TD.mpr (k4.at_ _ _ (by simp;exact⟨al,am⟩) ea3)
  ·rintro i x J O4 hx ⟨x4,x5,rfl,k4,s4⟩;rw[yi,Xw]at hx
   cases hp:S[i]? with
   |none=>rw[hp]at hx;cases hx
   |some key=>
    rw[hp]at hx;have hi:i<hs.length:=by rw[hhs];exact(List.getElem?_eq_some_iff.mp hp).1
    obtain⟨v,hv⟩:∃v,hs[i]?=some v:=⟨_,yk hi⟩
    have hz:(S.zip hs)[i]?=some (key,v):=by rw[List.getElem?_zip_eq_some];exact⟨hp,hv⟩
    simp only[Xe,xG,Nat.zero_add]at hx;subst hx;refine zbl (z0d (zsd (z0d (zsd (zzk ?_)))));unfold zog;refine zqh (zo (zo (zd rfl (w_c (zmc rfl rfl (zd rfl (zmc (zB (k4.at_ _ _ (by simp;exact⟨ln,lm⟩) el3)) (zUy elay hv) ?_)))))));refine zJn (z7k (zd rfl ⟨n,_,.loc m,rfl,s4.at_,z6d _ m,?_⟩));have ht:(S.zip hs).take (i+1)=(S.zip hs).take i++[(key,v)]:=by rw[Vf,hz];rfl
    have ekv:=zUj hG ((S.zip hs).take i) (key,v);rw[<-ht]at ekv;refine zd rfl ⟨m,_,_,rfl,rfl,s4.dc,?_,_,_,rfl,k4.trans (KB.refl.set (.inl (by simp))),?_⟩
    ·have:=s4.few;unfold dkN;rw[Lv];omega
    ·rw[z9l];show Sh _ _ _ _ (zrd hG (List.take (i+1) (S.zip hs)));rw[ekv];refine s4.set (by rw[<-ekv];exact zhh _ _ s.nd) ?_;rw[<-ekv];refine yG (z7l (A:=S) s.nd (λx hx=>K.pm.mem_iff.mpr hx) λx hx=>?_) (by omega);obtain⟨y,hy,rfl⟩:=List.mem_map.mp hx;exact zk _ (List.mem_map.mpr ⟨y,List.mem_of_mem_take hy,rfl⟩)
  ·rintro J O4 ⟨x4,x5,rfl,k4,s4⟩;rw[Lv,List.length_zipIdx,<-zl,Vh]at s4;exact q' O4 hhs rt' (k03.trans k4) s4
 ·refine zdg (zGx (zG (zo (zo (zd rfl (w_c (zmc rfl rfl (w_c (zvi ⟨_,rfl,λ_=>?_,λhb=>?_⟩)))))))))
  ·rw[hK]at sb;have lT:T.length<=S.length:=by have:=sb.length_le;rw[Lw]at this;exact this
   have hT:∀i∈T,i<S.length:=λi hi=>List.mem_range.mp (sb.subset hi);refine zIr (ze (zcn (zFd (zo (zd rfl (w_c (zmc rfl rfl (.inr (.inr ⟨_,_,rfl,e2,zfc (by rw[Lv];omega),?_⟩)))))))));have ea:=k2 _ _ (k1 _ _ e0);refine zgg (λ(x:Nat)=>D.int x) T (λi=>D.int (S.getD i 0:Nat)) (λO' k=>zdb e2 k) (λi hi O' kp=>?_) (λO' kp=>?_)
   ·refine zsd ?_;unfold z3f;exact zo (zd rfl (zd rfl (zmc (zB (kp _ _ ea)) (zxh (hT i hi)) ⟨rfl,kp,kp⟩)))
   ·have e:(T.map λi=>D.int (S.getD i 0:Nat))=nat (T.map λi=>S.getD i 0):=by rw[znh]
    rw[e];refine zt ⟨_,_,rfl,zr,by rw[Lv];omega,λx hx=>?_,?_⟩
    ·obtain⟨i,hi,rfl⟩:=List.mem_map.mp hx;have:=hT i hi;rw[Lp,yk this,Option.getD_some];exact hS _ (Lq this)
    ·refine qf T _ _ sb hc hsp (((k01.trans k2).trans kp.to).trans tm.app) ?_ zr;have:=(k01.trans (k2.trans kp)).len;simp;omega
  ·rw[hcc]at hb;cases hb
structure WH(η:FH)(c:yt)(fs:Wq)(J:M.Loc)(O:Mem)(nx:M.Loc->Mem->Prop)(rt:Wr):Prop where
 ex:∃o,η c fs J O=some o/\zpA nx rt (λ_ _ _=>False) o
section
variable {p q:FS}{i:Nat}{tb:List (yt×Bool)}{η:FH}{c:yt}{fs:Wq}{J:M.Loc}{O:Mem}{nx:M.Loc->Mem->Prop}{rt:Wr}{bk ct:M.Loc->Mem->Prop}{ex:yt->Wq->Mem->Prop}
def zmz(h:WXs p J O nx rt (λc fs O'=>WH η c fs J O' nx rt)):WS (zcs p η) J O nx rt bk ct:=by
 obtain⟨o,e,k⟩:=h
 cases o with
 |next J' O'=>exact⟨.next J' O',by simp only[zcs,e],k⟩
 |ret d O'=>exact⟨.ret d O',by simp only[zcs,e],k⟩
 |brk _ _=>exact k.elim
 |cont _ _=>exact k.elim
 |exc c fs O'=>
  obtain⟨o,e3,k⟩:=k
  cases o with
  |next J' O2=>exact⟨.next J' O2,by simp only[zcs,e,e3],k⟩
  |ret d O2=>exact⟨.ret d O2,by simp only[zcs,e,e3],k⟩
  |brk _ _=>exact k.elim
  |cont _ _=>exact k.elim
  |exc _ _ _=>exact k.elim
def z7A(ht:tb.lookup c=some true)(h:WS q (J.set i (some (.loc O.length))) (O++[.exc c fs]) (λJ' O'=>nx (J'.set i none) O') rt (λ_ _=>False) (λ_ _=>False)):WH (hAs i tb q η) c fs J O nx rt:=by
 obtain⟨o,e,k⟩:=h
 cases o with
 |next J' O2=>exact⟨.next _ O2,by simp only[hAs,ht,e,behind],k⟩
 |ret d O2=>exact⟨.ret d O2,by simp only[hAs,ht,e,behind],k⟩
 |brk _ _=>exact k.elim
 |cont _ _=>exact k.elim
 |exc _ _ _=>exact k.elim
def zPv(ht:tb.lookup c=some true)(h:WS q J O nx rt (λ_ _=>False) (λ_ _=>False)):WH (zOk tb q η) c fs J O nx rt:=by
 obtain⟨o,e,k⟩:=h
 cases o with
 |next J' O2=>exact⟨.next _ O2,by simp only[zOk,ht,e],k⟩
 |ret d O2=>exact⟨.ret d O2,by simp only[zOk,ht,e],k⟩
 |brk _ _=>exact k.elim
 |cont _ _=>exact k.elim
 |exc _ _ _=>exact k.elim
def zgw(ht:tb.lookup c=some false)(h:WH η c fs J O nx rt):WH (zOk tb q η) c fs J O nx rt:=by
 obtain⟨o,e,k⟩:=h;exact⟨o,by simp only[zOk,ht,e],k⟩
end
structure Tq(R:Qf)(ts hG:Qe):Prop where
 home:∀p∈hG,p.2∈ts.map (hmN R.length p.1)
 room:∀h,(hG.map λp=>some p.2).count (some h)<=R.getD h 0
def zAf:∀{hG:Qe},(hG.map (·.1)).Nodup->∀p∈hG,hG.lookup p.1=some p.2
 |[],_,p,hp=>absurd hp (by simp)
 |(j,v)::hG,nd,p,hp=>by
  rw[Ng,Ny]at nd;rw[Na];rcases List.mem_cons.mp hp with rfl|hp
  ·rw[beq_self_eq_true]
  ·have:p.1≠j:=λe=>nd.1 (e▸List.mem_map.mpr ⟨p,hp,rfl⟩);rw[beq_eq_false_iff_ne.mpr this];exact zAf nd.2 p hp
def zBh:hG.lookup x=some h->(x,h)∈hG:=by
 induction hG with
 |nil=>intro e;cases e
 |cons p hG ih=>
  intro e;rw[Na]at e
  by_cases hx:x=p.1
  ·subst hx;rw[beq_self_eq_true]at e;cases e;exact Np
  ·rw[beq_eq_false_iff_ne.mpr hx]at e;exact No _ (ih e)
def zAj(nd:(hG.map (·.1)).Nodup)(h:A.Perm (hG.map (·.1))):(A.map λx=>hG.lookup x).Perm (hG.map λp=>some p.2):=by
 have e:(hG.map λp=>some p.2)=(hG.map (·.1)).map λx=>hG.lookup x:=by
  rw[Nh];exact Nf λp hp=>(zAf nd p hp).symm
 rw[e];exact h.map _
def Tq.lay(r:Tq R ts hG)(nd:(hG.map (·.1)).Nodup)(h:A.Perm (hG.map (·.1))):To R (z0g R ts A) (A.map λx=>hG.lookup x) where
 len:=by rw[Lv,Lv]
 home:=λk v e=>by
  rw[yi]at e
  cases ea:A[k]? with
  |none=>rw[ea]at e;cases e
  |some x=>
   rw[ea]at e;have e':hG.lookup x=some v:=by simpa using e
   rw[Lp,yi,ea];exact r.home _ (zBh e')
 room:=λv=>by rw[(zAj nd h).count_eq];exact r.room v
def Tq.of(r:To R (z0g R ts A) (A.map λx=>hG.lookup x))(nd:(hG.map (·.1)).Nodup)(h:A.Perm (hG.map (·.1))):Tq R ts hG where
 home:=λp hp=>by
  have hm:p.1∈A:=h.mem_iff.mpr (List.mem_map.mpr ⟨p,hp,rfl⟩);obtain⟨i,hi⟩:=List.mem_iff_getElem?.mp hm;have:=r.home i p.2 (by rw[yi,hi];simp[zAf nd p hp]);rw[Lp,yi,hi]at this;exact this
 room:=λv=>by rw[<-(zAj nd h).count_eq];exact r.room v
def zix(row:Qe):∀hG:Qe,x∉row.map (·.1)->(zrd hG row).lookup x=hG.lookup x:=by
 induction row with
 |nil=>intro hG _;rfl
 |cons p row ih=>
  intro hG hx;rw[Ng,Nn,not_or]at hx;show(zrd (zfj hG p.1 p.2) row).lookup x=_;rw[ih _ hx.2,zXh,if_neg hx.1]
def zmv(nd:A.Nodup)(row:Qe):∀(hG:Qe),(∀p∈row,p.1<A.length)->zhe (A.map λx=>hG.lookup x) row=A.map λx=>(zrd hG (z5k A row)).lookup x:=by
 induction row with
 |nil=>intro hG _;rfl
 |cons p row ih=>
  intro hG hm;have hp:=hm p Np
  have e:(A.map fun x=>hG.lookup x).set p.1 (some p.2)=A.map fun x=>(zfj hG (A.getD p.1 0) p.2).lookup x:=by
   refine Lj λi=>?_;rw[yi]
   by_cases hi:i=p.1
   ·subst hi;rw[yN (by rw[Lv];exact hp),yk hp];simp[zXh,hp]
   ·rw[yL (yR hi),yi]
    cases ea:A[i]? with
    |none=>rfl
    |some x=>
     have hx:x≠A.getD p.1 0:=by
      intro ex;have h1:A[p.1]?=some x:=by rw[ex,Lp,yk hp];rfl
      have hi':=(List.getElem?_eq_some_iff.mp ea).1;exact hi ((List.getElem?_inj hi' nd).mp (by rw[ea,h1]))
     simp only[Xe];rw[zXh,if_neg hx]
  show zhe ((A.map λx=>hG.lookup x).set p.1 (some p.2)) row=_;rw[e];exact ih _ λq hq=>hm q (No _ hq)
def ziu :∀{hs:Qf} (hG:Qe),A.Nodup->hs.length=A.length->(A.map λx=>(zrd hG (A.zip hs)).lookup x)=hs.map some:=by
 induction A with
 |nil=>intro hs hG _ hl;cases hs with
  |nil=>rfl
  |cons _ _=>cases hl
 |cons x A ih=>
  intro hs hG nd hl
  cases hs with
  |nil=>cases hl
  |cons v hs=>
   rw[Ny]at nd
   have hx:x∉(A.zip hs).map (·.1):=λhm=>by
    obtain⟨p,hp,e⟩:=List.mem_map.mp hm;exact nd.1 (e▸(Va hp).1)
   have e2:=ih (hs:=hs) (zfj hG x v) nd.2 (by simpa using hl);show(zrd (zfj hG x v) (A.zip hs)).lookup x::(A.map λx_1=>(zrd (zfj hG x v) (A.zip hs)).lookup x_1)=some v::hs.map some;rw[e2,zix _ _ hx,zXh,if_pos rfl]
def zipp{hs:Qf}(hl:hs.length=A.length):(A.zip hs).map (·.1)=A:=by
 rw[List.map_fst_zip (by omega)]
section
variable {R:Qf}{ts hG row:Qe}{S:Qf}{k:Nat}
def zrh(h0:hG.lookup k=none):(S.map λx=>hG.lookup x)++[none]=(S++[k]).map λx=>hG.lookup x:=by rw[Nd,Ng,Ni,h0]
def zur(r:Tq R ts hG)(nd:(hG.map (·.1)).Nodup)(K:tX hG S)(h0:hG.lookup k=none)(c:Can R ts hG S k row):Tq R ts (zrd hG (z5k (S++[k]) row)):=by
 have hW:(S++[k]).length=S.length+1:=by simp
 have hm:∀p∈row,p.1<(S++[k]).length:=λp hp=>by
  have:=(c.1.mem p hp).1;rw[Lv]at this;exact this
 have r1:To R (z0g R ts (S++[k])) ((S++[k]).map λx=>hG.lookup x):=by
  have r0:=r.lay nd K.pm;rw[<-zrh h0];refine⟨by simp,λi v e=>?_,λv=>?_⟩
  ·by_cases hi:i<S.length
   ·rw[yg (by simpa using hi)]at e;have:=r0.home i v e;rw[Lp,yi]at this ⊢;rw[yg hi];exact this
   ·rw[yC (by simp;omega)]at e;have:=Nt e;simp at this
  ·rw[Lh];have:=r0.room v;simp;exact this
 have r2:=zfh r1 (by rw[<-zrh h0];exact c.1) (by rw[<-zrh h0];simp) (by rw[<-zrh h0];exact c.2);rw[zmv (K.nd h0) row hG hm]at r2;refine Tq.of r2 (zhh _ _ nd) ((xB (K.nd h0) (zhh _ _ nd)).mpr λx=>?_);rw[zuh K c.1];simp
end
def zcz{α:Type}[Enc α]{n:Nat}(f:Nat)(as:List α)(e:O[n]?=some (.lst (as.map Enc.d)))(h:Enc.dep α<=f):toP O (f+1) (.loc n)=some (.list (as.map Enc.p)):=by
 show(match O[n]? with
  |some (.lst ds)=>(ds.mapM (toP O f)).bind λps=>some (PyData.list ps)
  |_=>none)=_
 rw[e];show((as.map Enc.d).mapM (toP O f)).bind (λps=>some (PyData.list ps))=_;have:=Sk O (f-Enc.dep α) as;rw[Nat.sub_add_cancel h]at this;rw[this];rfl
def zMp(f:Nat)(R:Qf)(ts:Qe):toP O (f+4) (rlN R ts)=some (.tuple [Enc.p R,Enc.p (ts.map λt=>[t.1,t.2])]):=by
 have h4:toP O (f+3) (tn R)=some (Enc.p R):=Enc.rd O (f+1) R
 have h5:toP O (f+3) (.tup (ts.map pr2))=some (Enc.p (ts.map λt=>[t.1,t.2])):=by
  have e:(D.tup (ts.map pr2))=Enc.d (ts.map λt=>[t.1,t.2]):=by
   show _=D.tup ((ts.map λt=>[t.1,t.2]).map Enc.d);rw[Nh];rfl
  rw[e];exact Enc.rd O f (ts.map λt=>[t.1,t.2])
 show([tn R,D.tup (ts.map pr2)].mapM (toP O (f+3))).bind (λps=>some (PyData.tuple ps))=_;simp only[Nc,List.mapM_nil,h4,h5];rfl
def zml(r:D)(m:Nat)(x:yt)(h1:(x == "kept_rule")=false)(h2:(x == "nest_of")=false):(fsD r m).lookup x=none:=by
 simp only[fsD,Na,h1,h2,Nb]
def zWu(r:D)(m:Nat):(fsD r m).lookup ("put":yt)=none:=zml r m _ (by decide +kernel) (by decide +kernel)
def zPq(r:D)(m:Nat):(fsD r m).lookup ("renew":yt)=none:=zml r m _ (by decide +kernel) (by decide +kernel)
def zZl(r:D)(m:Nat):(fsD r m).lookup ("where":yt)=none:=zml r m _ (by decide +kernel) (by decide +kernel)
def zis(r:D)(m:Nat):(fsD r m).lookup ("left":yt)=none:=zml r m _ (by decide +kernel) (by decide +kernel)
def zsr(r:D)(m:Nat):(fsD r m).lookup ("rule":yt)=none:=zml r m _ (by decide +kernel) (by decide +kernel)
def zRq(r:D)(m:Nat):(fsD r m).lookup ("nest":yt)=none:=zml r m _ (by decide +kernel) (by decide +kernel)
def z4w{ψ:FA}(h:WA ψ J O λds O1=>∃r,ds=[r]/\∀n m O',tm O1 O'->O1.length<=n->O1.length<=m->n<O'.length->m<O'.length->Sh O' n m r []->Q (.loc n) O'):WE (zSq "Shelf" zZb ψ) J O Q:=by
 obtain⟨ds,O1,e,r,rfl,q⟩:=h;refine zty ⟨_,O1,e,zkx zr ⟨rfl,?_⟩⟩;refine q O1.length (O1++[tx.ins "Shelf" []]).length _ (λi o ei=>?_) (yh _) (by simp) (by simp) (by simp) zKx;exact tm.app _ _ (z7 (tm.app _ _ ei) (yX (zF ei)))
def zYo(h:x∈hG.map (·.1)):(hG.lookup x).isSome=true:=by
 cases e:hG.lookup x with
 |some v=>rfl
 |none=>
  rw[List.lookup_eq_none_iff]at e;obtain⟨p,hp,rfl⟩:=List.mem_map.mp h;exact absurd (e p hp) (by simp)
def zwl{S:Qg}{b:Nat}(hS:S.length<=1000)(ga:O[a]?=some (.lst (S.map .int)))(gb:O[b]?=some (.lst (S.map .int)))(q:∀O',tm O O'->Q (.bl true) O'):WF zkb [.loc a,.loc b] O Q:=by
 refine zLb rfl ?_;show WS zUd [some (.loc a),some (.loc b)] O _ _ _ _;unfold zUd;refine zw (zEf (zSe (z8g (zG (zu (ze (zd rfl (ze (w_c (zt (zOv ga ⟨_,rfl,λ_=>?_,λh=>(by cases h)⟩)))))))))));refine zG (zo (zd rfl (zd rfl (zKw S S ga gb ⟨_,rfl,λh=>?_,λ_=>zfb ?_⟩))))
 ·simp at h
 refine zEb (zo (zu (ze (zcn (zFd (zd rfl (.inr (.inr ⟨a,_,rfl,ga,zfc (by rw[Lv];omega),?_⟩))))))));refine z8d D.int S D.int (λ_=>false) (λO' k=>zdb ga k) (λk hk O' kp=>?_) (λO' kp=>?_)
 ·refine zsd ?_;unfold zng zlg;refine zSe (z8g (zG (zu (ze (zd rfl (ze (w_c (zt (zly ⟨_,rfl,λ_=>?_,λh=>(by cases h)⟩)))))))));exact zG (zu (ze (zd rfl (ze (w_c (zt (zPs ⟨_,rfl,rfl,kp,λh=>(by cases h)⟩)))))))
 ·refine zt (zMe (zB zr) (w_c (zeh ?_)));have e:(S.filter λ_=>false)=[]:=by simp
  rw[e];exact q _ kp.to
def zbp(S:Qf):nat S=(S.map λ(k:Nat)=>(k:Int)).map D.int:=by rw[Nh];rfl
def zBi{b:Nat}(hS:S.length<=1000)(ga:O[a]?=some (.lst (nat S)))(gb:O[b]?=some (.lst (nat S)))(q:∀O',tm O O'->Q (.bl true) O'):WF zkb [.loc a,.loc b] O Q :=
 zwl (S:=S.map λ(k:Nat)=>(k:Int)) (by simpa using hS) (by rw[<-zbp];exact ga) (by rw[<-zbp];exact gb) q
def ztk(h:Rl R ts)(q:∀l O',tm O O'->O.length<=l->O'[l]?=some (.lst (nat (ts.map (hmN R.length k))))->Q (.loc l) O'):WF zSb [rlN R ts,.int k] O Q:=by
 have kX:=h.rl;have htl:=h.tl;refine zLb rfl ?_;show WS zqe [some (rlN R ts),some (.int k),none,none,none] O _ _ _ _;unfold zqe;refine zw (z5 (z1f (zt ?_)));refine zw (z0f (zFd (zo (zd rfl (w_c (zmc rfl (show atI [tn R,.tup (ts.map pr2)] 1=some (.tup (ts.map pr2)) from rfl) (.inl ⟨_,rfl,?_⟩)))))));refine z7b (λi J O'=>∃x3 x4:Wn,J=[some (rlN R ts),some (.int k),some (.loc O.length),x3,x4]/\tm O O'/\O'[O.length]?=some (.lst (nat ((ts.take i).map (hmN R.length k))))) ⟨_,_,rfl,tm.app,zr⟩ (λ_ _ _ _=>rfl) ?_ ?_
 ·rintro i x J O' hx ⟨x3,x4,rfl,kp,e⟩;rw[yi]at hx
  cases ht:ts[i]? with
  |none=>rw[ht]at hx;cases hx
  |some t=>
   rw[ht]at hx;cases hx;have hb:=h.tn t (Nt ht);have hi:=(List.getElem?_eq_some_iff.mp ht).1;refine zbl (z0d (zsd (z0d (zsd (zzk ?_)))));unfold z7g;refine z6i (zdk (zd rfl ⟨_,_,rfl,e,ze (zo (zo (zo (zo (zd rfl (zd rfl (z1k (zJs (by omega) (by omega)) (zd rfl (zSg (w_c (zlj (by decide) (zu (ze (zo (zd rfl (w_c (zmc rfl (show atI [tn R,.tup (ts.map pr2)] 0=some (tn R) from rfl) (zt (zMe rfl (zlj ?_ (zt (zrj e ?_ ?_))))))))))))))))))))))⟩))
   ·rw[Lv];omega
   ·rw[Lv,Lv,Lz];omega
   ·refine⟨_,_,rfl,?_,?_⟩
    ·refine(KB.keep ((KB.of_keep kp).set (L:=[]) (.inr (yh _))))
    ·rw[zY e,Vf,ht,Nd,zHc,Lv];have e1:((t.1:Int)*(k:Int)+(t.2:Int))%10007%((R.length:Nat):Int)=((hmN R.length k t:Nat):Int):=by unfold hmN;push_cast;rfl
     rw[e1];rfl
 ·rintro J O' ⟨x3,x4,rfl,kp,e⟩;rw[Lv,Vh]at e;exact zEb (zd rfl (q _ _ kp (yh _) e))
def zpm{kvl:Qe}{x:D}(h:ztb O x=some (dkN kvl))(hp:S.Perm (kvl.map (·.1)))(hS:S.Pairwise (· < ·))(hl:kvl.length<64)(q:Q (.loc O.length) (O++[.lst (nat S)])):WF zag [x] O Q:=by
 have e1:(dkN kvl).map (·.1)=(kvl.map (·.1)).map λ(k:Nat)=>(k:Int):=by unfold dkN;rw[Nh,Nh];rfl
 have e3:zAk ((dkN kvl).map (·.1))=S.map λ(k:Nat)=>(k:Int):=by
  rw[e1];refine zBc ((Nv _ _).trans (hp.symm.map _)) (zch _) ?_;rw[Vb];exact hS.imp λh=>by omega
 have hl':(dkN kvl).length<64:=by unfold dkN;rw[Lv];exact hl
 refine⟨_,_,?_,q⟩;simp only[zag,h,ym,decide_eq_true hl',cond_true,e3];rw[zbp]
def zsj(hG:Qe):z2f (dkN hG)=hG.map λp=>D.int (p.1:Nat):=by unfold z2f dkN;rw[Nh];rfl
section
variable {O:Mem}{n m dl:Nat}{R:Qf}{ts hG kvl:Qe}{S:Qf}{Q:Wr}
def Sh.kb{L:Qf}(s:Sh O n m r hG)(k:KB L O O')(h1:n∉L)(h2:m∉L):Sh O' n m r hG:=⟨k.at_ _ _ h1 s.at_,k.at_ _ _ h2 s.dc,s.nd,s.few⟩
def Sh.nd_of(s:Sh O n m r hG)(hd:ztb O (.loc dl)=some (dkN kvl)):n≠dl:=by
 rintro rfl;simp[s.at_]at hd
def zqn{kv:Wp}(hd:ztb O (.loc dl)=some kv)(k:tm O O'):ztb O' (.loc dl)=some kv:=by
 unfold ztb at hd;dsimp only at hd
 split at hd
 ·rename_i h;cases hd;exact zZ (k _ _ h)
 ·rename_i h;cases hd;exact zZc (k _ _ h)
 ·cases hd
def zRs{a b:Qc}(h:a.Perm b):ztd R a=ztd R b:=by
 unfold ztd;exact Nf λh' _=>by rw[h.count_eq]
def zbx(nd:(hG.map (·.1)).Nodup)(K:tX hG S)(hp:kvl.Perm hG)(h:Nat):(inN hG S h).Perm ((kvl.filter λp=>decide (p.2=h)).map (·.1)):=by
 have nd':(kvl.map (·.1)).Nodup:=(hp.map _).nodup_iff.mpr nd
 have e:(kvl.filter λp=>decide (p.2=h)).map (·.1)=(kvl.map (·.1)).filter λx=>decide (hG.lookup x=some h):=by
  rw[List.filter_map]
  congr 1
  refine Lm λp hm=>?_;have:=zAf nd _ (hp.mem_iff.mp hm);show decide (p.2=h)=decide (hG.lookup p.1=some h);rw[this];exact decide_eq_decide.mpr (by simp)
 rw[e];exact(K.pm.trans (hp.map _).symm).filter _
abbrev JK1(n dl rl:Nat)(R:Qf)(ts kvl:Qe)(O:Mem):Nat->M.Loc->Mem->Prop:=λi J O'=>∃x4 x5:Wn,J=[some (.loc n),some (rlN R ts),some (.loc dl),some (.loc rl),x4,x5,none]/\KB [rl] O O'/\O'[rl]?=some (.lst ((ztd R ((kvl.take i).map λp=>some p.2)).map .int))
def zev{rl:Nat}{p:Nat×Nat}{x5:Wn}(h:Rl R ts)(s:Sh O' n m (rlN R ts) hG)(r:Tq R ts hG)(hp:kvl.Perm hG)(hd:O'[dl]?=some (.dcf (dkN kvl)))(hi:kvl[i]?=some p)
 (e:O'[rl]?=some (.lst ((ztd R ((kvl.take i).map λp=>some p.2)).map .int))) (q:∀O2,KB [rl] O' O2->O2[rl]?=some (.lst ((ztd R ((kvl.take (i+1)).map λp=>some p.2)).map .int))->nx [some (.loc n),some (rlN R ts),some (.loc dl),some (.loc rl),some (.int (p.1:Nat)),some (.int (p.2:Nat)),none] O2) :
 WS zvd [some (.loc n),some (rlN R ts),some (.loc dl),some (.loc rl),some (.int (p.1:Nat)),x5,none] O' nx rt bk ct:=by
 have nd':(kvl.map (·.1)).Nodup:=(hp.map _).nodup_iff.mpr s.nd;have hm:=Nt hi;have hk:=zAf s.nd _ (hp.mem_iff.mp hm);have hhome:=r.home p (hp.mem_iff.mp hm)
 have kH:p.2<R.length:=by
  obtain⟨t,_,et⟩:=List.mem_map.mp hhome;have:=h.rl;rw[<-et];exact Nat.mod_lt _ (by omega)
 unfold zvd;refine zw (z5 (zo (zd rfl (zd rfl (zNn (zZc hd) (by rw[z8b,zAf nd' _ hm];rfl) ?_)))));refine zw (zEf (zSe (zG (zo (zu (znd (zd rfl ⟨n,_,rfl,s.at_,zaq _ m,ze (zd rfl (zt (zqv s (w_c (zEp ⟨_,rfl,λ_=>?_,λhb=>?_⟩)))))⟩)))))))
 ·refine zSe (zG (zo (zu (znd (zd rfl ⟨n,_,rfl,s.at_,zZl _ m,ze (zd rfl (zt (zyp s (zd rfl ?_))))⟩)))));rw[hk];refine ztt ⟨_,rfl,λ_=>?_,λhb=>?_⟩
  ·refine zG (zo (zd rfl (zu (ze (zd rfl (ze (zd rfl (zt (ztk h λl O2 k2 g2 e2=>zYh (zB e2) ⟨_,rfl,λhb=>?_,λ_=>zfb ?_⟩)))))))))
   ·rw[decide_eq_true hhome]at hb;cases hb
   ·have e':=k2 _ _ e;refine zqh (zo (zo (zd rfl (zd rfl (zmc (zB e') (zpp kH) (w_c (zkt ?_)))))));refine zpu (zd rfl (zd rfl ⟨_,_,_,rfl,rfl,e',⟨by omega,by simp[ztd];omega⟩,?_⟩));refine q _ ((KB.of_keep k2).set (.inl (by simp))) ?_;rw[zY e',Yv,zYq kH,Vf,hi];simp
  ·simp at hb
 ·rw[hk]at hb;cases hb
def z6u{rl:Nat}{x4 x6:Wn}(h:Rl R ts)(s:Sh O' n m (rlN R ts) hG)(K:tX hG S)(r:Tq R ts hG)(hp:kvl.Perm hG)(hd:O'[dl]?=some (.dcf (dkN kvl)))(hi:i<R.length)
 (e:O'[rl]?=some (.lst ((ztd R (kvl.map λp=>some p.2)).map .int))) (q:∀(x6:Wn) O2,tm O' O2->nx [some (.loc n),some (rlN R ts),some (.loc dl),some (.loc rl),x4,some (.int (i:Nat)),x6] O2) :
 WS zwd [some (.loc n),some (rlN R ts),some (.loc dl),some (.loc rl),x4,some (.int (i:Nat)),x6] O' nx rt bk ct:=by
 have nd':(kvl.map (·.1)).Nodup:=(hp.map _).nodup_iff.mpr s.nd;have hf:=s.few;have gA:=hp.length_eq;have hl:=K.len;have pm:=zbx s.nd K hp i;unfold zwd;refine zw (z5 (zu (ze (zcn (zvu (zd rfl ⟨dl,_,rfl,hd,zfc (by unfold z2f dkN;simp;omega),?_⟩))))));rw[zsj];refine z8d (λp:Nat×Nat=>D.int (p.1:Nat)) kvl (λp=>D.int (p.1:Nat)) (λp=>decide (p.2=i)) (λ_ _=>rfl) (λp hm O2 kp=>?_) (λO2 kp=>?_)
 ·refine zsd ?_;unfold zSf;refine zG (zo (zo (zd rfl (zd rfl (zNn (zZc (kp _ _ hd)) (by rw[z8b,zAf nd' _ hm];rfl) (zd rfl (zeh ⟨_,rfl,?_,kp,λ_=>?_⟩)))))))
  ·apply Bool.eq_iff_iff.mpr;rw[decide_eq_true_iff,beq_iff_eq];omega
  ·unfold zPf;exact zd rfl ⟨rfl,kp⟩
 ·have e1:((kvl.filter λp=>decide (p.2=i)).map λp=>D.int (p.1:Nat))=nat ((kvl.filter λp=>decide (p.2=i)).map (·.1)):=by rw[znh]
  rw[e1]
  have hW:((kvl.filter λp=>decide (p.2=i)).map (·.1)).length<64:=by
   rw[Lv];have:=Lu (λp:Nat×Nat=>decide (p.2=i)) kvl;omega
  refine zt (z5l zr pm (K.pw.filter _) hW ?_);have k3:tm O' ((O2++[tx.lst (nat ((kvl.filter λp=>decide (p.2=i)).map (·.1)))])++[tx.lst (nat (inN hG S i))]):=kp.to.to;have e3:((O2++[tx.lst (nat ((kvl.filter λp=>decide (p.2=i)).map (·.1)))])++[tx.lst (nat (inN hG S i))])[(O2++[tx.lst (nat ((kvl.filter λp=>decide (p.2=i)).map (·.1)))]).length]?=some (.lst (nat (inN hG S i))):=zr;generalize (O2++[tx.lst (nat ((kvl.filter λp=>decide (p.2=i)).map (·.1)))]).length=l3 at e3 ⊢;generalize (O2++[tx.lst (nat ((kvl.filter λp=>decide (p.2=i)).map (·.1)))])++[tx.lst (nat (inN hG S i))]=O3 at k3 e3 ⊢;have s3:=s.keep k3;have kI:=r.room i;have hcnt:(kvl.map λp=>some p.2).count (some i)=(hG.map λp=>some p.2).count (some i):=(hp.map _).count_eq _;refine zEf (zSe (zG (zo (zo (zd rfl (zd rfl (zmc (zB (k3 _ _ e)) (zpp hi) (w_c (zJi ⟨_,rfl,λ_=>?_,λhb=>?_⟩)))))))))
  ·refine z8g (zG (zu (ze (zu (znd (zd rfl ⟨n,_,rfl,s3.at_,zRq _ m,ze (zd rfl (zt (zTw s3 K λl4 O4 k4 g4 e4=>ze (zd rfl (zt (zBi ?_ e4 (k4 _ _ e3) λO5 k5=>⟨_,rfl,λhb=>(by cases hb),λ_=>zfb (q _ _ (k3.trans (k4.trans k5)))⟩))))))⟩))))));have:(inN hG S i).length<=S.length:=Lu _ _;omega
  ·have:=of_decide_eq_true hb;omega
def zIt(h:Rl R ts)(s:Sh O n m (rlN R ts) hG)(r:Tq R ts hG)(hp:kvl.Perm hG)(hd:ztb O (.loc dl)=some (dkN kvl))(kL:dl≠m)(q:∀O',KB [dl] O O'->O'[dl]?=some (.dcf (dkN kvl))->Q (.bl true) O'):WF zuc [.loc n,rlN R ts,.loc dl] O Q:=by
 obtain⟨S,K⟩:=tX.ex s.nd;have hf:=s.few;have gA:=hp.length_eq;have hl:=K.len;have kX:=h.rl;have hn:=s.nd_of hd;refine zLb rfl ?_;show WS zid [some (.loc n),some (rlN R ts),some (.loc dl),none,none,none,none] O _ _ _ _;unfold zid;refine zw (zEf (zSe (z8g (zG (zu (ze (zu (znd (zd rfl ⟨n,_,rfl,s.at_,ztg _ m,zt (z7c s K (ze (zu (ze (zd rfl (zt (zpm (zqn hd tm.app) (K.pm.trans (hp.map _).symm) K.pw (by omega) ?_)))))))⟩)))))))));refine zt (zBi (S:=S) (by omega) (tm.app _ _ zr) zr λO1 k1=>⟨_,rfl,λ_=>?_,λhb=>(by cases hb)⟩);have k01:tm O O1:=(tm.app.trans tm.app).trans k1;clear k1;have s1:=s.keep k01;refine zG (zo (zu (znd (zd rfl ⟨n,_,rfl,s1.at_,zsr _ m,zt (zbv s1 (zd rfl (zcv (zMp 4 R ts) (zMp 4 R ts) ⟨_,rfl,λhb=>(by cases hb),λ_=>zfb ?_⟩)))⟩))));refine zw (z5 (zu (ze (zo (zd rfl (w_c (zmc rfl (show atI [tn R,.tup (ts.map pr2)] 0=some (tn R) from rfl) (zt (zxp rfl ?_)))))))));have k02:tm O (O1++[tx.lst (nat R)]):=k01.to;have e2:(O1++[tx.lst (nat R)])[O1.length]?=some (.lst (nat R)):=zr;have g2:O.length<=O1.length:=k01.len;generalize O1++[tx.lst (nat R)]=O2 at k02 e2 ⊢;generalize O1.length=rl at g2 e2 ⊢;have hd2:=zqn hd k02;have s2:=s.keep k02
 have gI:dl<O.length:=by
  unfold ztb at hd;dsimp only at hd
  split at hd
  ·rename_i h;exact zF h
  ·rename_i h;exact zF h
  ·cases hd
 have gH:n<O.length:=zF s.at_;have gJ:m<O.length:=zF s.dc;refine zw (z0f (zKu (zd rfl ⟨dl,_,rfl,hd2,λO3 k3 e3=>?_⟩)));have s3:Sh O3 n m (rlN R ts) hG:=s2.kb k3 (by simp;exact hn) (by simp;exact yR kL);have r3:O3[rl]?=some (.lst (nat R)):=k3.at_ _ _ (by simp;omega) e2;rw[zsj];refine z7b (JK1 n dl rl R ts kvl O3) ⟨_,_,rfl,.refl,by rw[r3];show _=some (tx.lst ((ztd R []).map .int));rw[<-z6v]⟩ (λ_ _ _ _=>rfl) ?_ ?_
 ·rintro i x J O' hx ⟨x4,x5,rfl,kp,e⟩;rw[yi]at hx
  cases hi:kvl[i]? with
  |none=>rw[hi]at hx;cases hx
  |some p=>
   rw[hi]at hx;cases hx;refine zsd ?_;refine zev (m:=m) (hG:=hG) (kvl:=kvl) h (s3.kb kp (by simp;omega) (by simp;omega)) r hp (kp.at_ _ _ (by simp;omega) e3) hi e λO4 k4 e4=>⟨_,_,rfl,kp.trans k4,e4⟩
 ·rintro J O4 ⟨x4,x5,rfl,k4,e4⟩;rw[Lv,Vh]at e4;have s4:Sh O4 n m (rlN R ts) hG:=s3.kb k4 (by simp;omega) (by simp;omega);have d4:O4[dl]?=some (.dcf (dkN kvl)):=k4.at_ _ _ (by simp;omega) e3;have k04:KB [dl] O O4:=((KB.of_keep k02).trans k3).step k4 λi hi =>.inr (by rw[List.mem_singleton.mp hi];exact g2);refine zw (z0f (zMk (ze (zu (ze (zd rfl (zt (zMe (zB e4) (zt ?_)))))))));have ll:((ztd R (kvl.map λp=>some p.2)).map D.int).length=R.length:=by simp[ztd]
  rw[ll];refine⟨_,rfl,by omega,by omega,?_⟩;rw[Yv];refine z7b (λi J O'=>∃x5 x6:Wn,J=[some (.loc n),some (rlN R ts),some (.loc dl),some (.loc rl),x4,x5,x6]/\tm O4 O') ⟨_,_,rfl,.refl⟩ (λ_ _ _ _=>rfl) ?_ ?_
  ·rintro i x J O' hx ⟨x5,x6,rfl,kp⟩;obtain⟨hi,rfl⟩:=zOj hx;refine zsd ?_;exact z6u (m:=m) (hG:=hG) (kvl:=kvl) (S:=S) h (s4.keep kp) K r hp (kp _ _ d4) hi (kp _ _ e4) λx6 O5 k5=>⟨_,_,rfl,kp.trans k5⟩
  ·rintro J O5 ⟨x5,x6,rfl,k5⟩;have s5:=s4.keep k5;refine zEb (zu (ze (zu (znd (zd rfl ⟨n,_,rfl,s5.at_,zis _ m,zt (zwt h s5 K λl6 O6 k6 g6 e6=>ze (zd rfl (zt ?_)))⟩)))));have el:ztd R (S.map λx=>hG.lookup x)=ztd R (kvl.map λp=>some p.2):=zRs ((zAj s.nd K.pm).trans (hp.map _).symm);rw[el]at e6;refine zwl (by simp[ztd];omega) e6 (k6 _ _ (k5 _ _ e4)) λO7 k7=>?_;exact q _ (k04.trans (KB.of_keep (k5.trans (k6.trans k7)))) (k7 _ _ (k6 _ _ (k5 _ _ d4)))
end
structure S55(O:Mem)(n m:Nat)(R:Qf)(ts hG:Qe):Prop where
 rl:Rl R ts
 sh:Sh O n m (rlN R ts) hG
 rs:Tq R ts hG
 bd:∀x∈hG.map (·.1),x<10^60
section
variable {O O':Mem}{n m k a:Nat}{R:Qf}{ts hG:Qe}{S:Qf}{Q:Wr}
def S55.keep(s:S55 O n m R ts hG)(k:tm O O'):S55 O' n m R ts hG:=⟨s.rl,s.sh.keep k,s.rs,s.bd⟩
def S55.key(s:S55 O n m R ts hG)(K:tX hG S):∀x∈S,x<10^60:=λx hx=>s.bd x (K.pm.mem_iff.mp hx)
def z6t{ns:Qg}{pl:Nat}(hp:Th ns O pl B)(hB:B<=100000)(ea:O[a]?=some (.lst (nat S)))(ha:a≠pl)(hS:S.length<=30)(hbd:∀x∈S,x<10^60)
 (q:∀(k:Nat)(O':Mem),k<10^60->KB [pl] O O'->Th ns O' pl (B+2)->Q (.int (k:Nat)) O'):WF z6e [.loc pl,.loc a] O Q:=by
 refine zLb rfl ?_;show WS zAg [some (.loc pl),some (.loc a),none] O _ _ _ _;unfold zAg;refine zw (z5 (zu (ze (zd rfl (ze (w_c (zt (zvc (s:=8) hp (by omega) (by decide) (by decide) λv1 O1 b1 k1 p1=>?_))))))));have e1:=k1.at_ _ _ (Se (yR ha)) ea
 have rest:∀O2,KB [pl] O O2->Th ns O2 pl (B+1)->WS (zX (sIf (zM (zD gEq (zm 2) (fC (.int 3)))) (zYb (zx zJ (zh (zm 0) (zh (zD zEx (fC (.int 10)) (fC (.int 59))) zI)))) zDb) (zYb (zx zJ (zh (zm 0) (zh (fC (.int 40)) zI))))) [some (.loc pl),some (.loc a),some (.int (v1:Nat))] O2 (λ_ O'=>Q .non O') Q (λ_ _=>False) (λ_ _=>False):=λO2 k2 p2=>by
  have p59:((10:Int)^(59:Int).toNat)=100000000000000000000000000000000000000000000000000000000000:=by decide
  refine zw (zEf (zG (zo (zd rfl (w_c (zeh ⟨_,rfl,λ_=>?_,λ_=>zfb ?_⟩))))))
  ·refine zEb (zu (ze (zd rfl (ze (zo (w_c (w_c (z3y (by decide) (by decide) (by decide) (zt ?_)))))))));rw[p59];refine zvj p2 (by omega) (by omega) (by omega) λv O3 a3 b3 k3 _ p3=>?_;obtain⟨v,rfl⟩:=xo a3;exact q v O3 (by omega) (k2.trans k3) (p3.up (by omega))
  ·exact zEb (zu (ze (zd rfl (ze (w_c (zt (zvc (s:=40) p2 (by omega) (by decide) (by decide) λv O3 b3 k3 p3=>q v O3 (by omega) (k2.trans k3) (p3.up (by omega)))))))))
 refine zw (zEf (zpl (zG (zo (zd rfl (w_c (zJi ⟨_,rfl,λ_=>?_,λ_=>⟨λhb=>(by cases hb),λ_=>zfb (rest O1 k1 p1)⟩⟩)))))));refine zG (zo (zd rfl (z1f (zt (zKw (α:=Nat) S [] (tm.app _ _ e1) zr ⟨_,rfl,λhb=>?_,λ_=>zfb (rest _ k1.app p1.app)⟩)))))
 have kL:0<S.length:=by
  rcases Nat.eq_zero_or_pos S.length with h0|h0
  ·rw[decide_eq_true (List.length_eq_zero_iff.mp h0)]at hb;cases hb
  ·exact h0
 have e2:(O1++[tx.lst []])[a]?=some (.lst (nat S)):=tm.app _ _ e1;have p2:=p1.app (g:=[tx.lst []]);have k2:KB [pl] O (O1++[tx.lst []]):=k1.app;generalize O1++[tx.lst []]=O2 at e2 p2 k2;have lS:((nat S).length:Int)=((S.length:Nat):Int):=by rw[Lv]
 refine zEb (zo (zd rfl (zu (ze (zd rfl (ze (zu (ze (zd rfl (zt (zMe (zB e2) (zt ?_))))))))))));rw[lS];refine zvc p2 (by omega) kL (by omega) λv O3 b3 k3 p3=>?_;have e3:=k3.at_ _ _ (Se (yR ha)) e2;refine zmc (zB e3) (zxh b3) (q _ _ ?_ (k2.trans k3) p3);rw[Lp,yk b3,Option.getD_some];exact hbd _ (Lq b3)
def zBo{R':Qf}{ts':Qe}{hs:Qf}(nd:(hG.map (·.1)).Nodup)(K:tX hG S)(hl:hs.length=S.length)(rt:To R' (z0g R' ts' S) (hs.map some)):Tq R' ts' (zrd hG (S.zip hs))/\S.Perm ((zrd hG (S.zip hs)).map (·.1)):=by
 have ndS:S.Nodup:=K.pw.imp λh=>yu h
 have pm:S.Perm ((zrd hG (S.zip hs)).map (·.1)):=by
  refine(xB ndS (zhh _ _ nd)).mpr λx=>?_;rw[zMm,zipp hl];exact⟨λh =>.inr h,λh=>h.elim (λh=>K.pm.mem_iff.mpr h) id⟩
 exact⟨Tq.of (A:=S) (by rw[ziu hG ndS hl];exact rt) (zhh _ _ nd) pm,pm⟩
end
def zyx(row:Qe):∀hG:Qe,(dkN row).foldl (λkv p=>zYk kv p.1 p.2) (dkN hG)=dkN (zrd hG row):=by
 induction row with
 |nil=>exact λ_=>rfl
 |cons p row ih=>
  intro hG;show(dkN row).foldl (λkv p=>zYk kv p.1 p.2) (zYk (dkN hG) (p.1:Int) (.int (p.2:Nat)))=_;rw[z9l,ih];rfl
def z2t :∀pre:Qe,((pre++hG).map (·.1)).Nodup->zrd pre hG=pre++hG:=by
 induction hG with
 |nil=>intro pre _;simp[zrd]
 |cons p hG ih=>
  intro pre nd
  have hn:p.1∉pre.map (·.1):=λhm=>by
   rw[Nd,Nx]at nd;exact nd.2.2 _ hm _ (by simp) rfl
  have e:zfj pre p.1 p.2=pre++[p]:=by unfold zfj;rw[if_neg hn]
  show zrd (zfj pre p.1 p.2) hG=_;rw[e,ih (pre++[p]) (by simpa using nd)];simp
def zkw(nd:(hG.map (·.1)).Nodup):zuA (dkN hG)=dkN hG:=by
 show(dkN hG).foldl (λkv p=>zYk kv p.1 p.2) (dkN [])=_;rw[zyx,z2t [] (by simpa using nd)];rfl
def zYt(row:Qe):∀hG:Qe,(zrd hG row).length<=hG.length+row.length:=by
 induction row with
 |nil=>exact λ_=>yh _
 |cons p row ih=>
  intro hG;have h1:=ih (zfj hG p.1 p.2)
  have h2:(zfj hG p.1 p.2).length<=hG.length+1:=by
   unfold zfj
   split<;>simp
  show(zrd (zfj hG p.1 p.2) row).length<=_;simp only[Ls];omega
def z0p(hG:Qe):(dkN hG).length=hG.length:=by unfold dkN;rw[Lv]
abbrev hmK(R:Qf)(ts:Qe)(x:Nat):Qf:=ts.map (hmN R.length x)
inductive Rch(R:Qf)(ts hG:Qe)(k:Nat):Nat->Nat->Prop
 |first {h:Nat}:h∈hmK R ts k->Rch R ts hG k 1 h
 |next {n h x h':Nat}:Rch R ts hG k n h->hG.lookup x=some h->h'∈hmK R ts x->Rch R ts hG k (n+1) h'
section
variable {R:Qf}{ts hG:Qe}{S:Qf}{k:Nat}
def zRp(hi:i<S.length):(z0g R ts (S++[k])).getD i []=hmK R ts (S.getD i 0):=by
 rw[Lp,yi,yg hi,yk hi,Lp,yk hi];rfl
def zHj:(z0g R ts (S++[k])).getD S.length []=hmK R ts k:=by
 rw[Lp,yi,yC (yh _)];simp
def zPy(e:((S.map λx=>hG.lookup x)++[none]).getD i none=some h):i<S.length/\hG.lookup (S.getD i 0)=some h:=by
 by_cases hi:i<S.length
 ·refine⟨hi,?_⟩;rw[Lp,yg (by simpa using hi),yi,yk hi]at e;rw[Lp,yk hi];exact e
 ·rw[Lp,yC (by simp;omega)]at e;simp only[Lv]at e
  cases hj:i-S.length with
  |zero=>rw[hj]at e;cases e
  |succ j=>rw[hj]at e;cases e
def Walk.rch(w:Walk (z0g R ts (S++[k])) ((S.map λx=>hG.lookup x)++[none]) S.length row):∀(i:Nat) p,row[i]?=some p->Rch R ts hG k (i+1) p.2:=by
 intro i
 induction i with
 |zero=>
  intro p hp;obtain⟨h,r,e⟩:=w.first
  have hm:=w.mem p (Nt hp);rw[e]at hp;cases hp;rw[zHj]at hm;exact .first hm
 |succ i ih=>
  intro q hq;have hi:i<row.length:=by have:=(List.getElem?_eq_some_iff.mp hq).1;omega
  obtain⟨p,hp⟩:∃p,row[i]?=some p:=⟨_,yk hi⟩
  have hl:=w.link i p q hp hq;obtain⟨h1,h2⟩:=zPy hl;have hm:=w.mem q (Nt hq);rw[zRp h1]at hm;exact .next (ih p hp) h2 hm
def zNp(h:0<row.length):row[row.length-1]?=some (row.getD (row.length-1) (0,0)):=by
 rw[Lp,yk (by omega)];rfl
def Walk.last(w:Walk (z0g R ts (S++[k])) ((S.map λx=>hG.lookup x)++[none]) S.length row):0<row.length/\Rch R ts hG k row.length (row.getD (row.length-1) (0,0)).2:=by
 obtain⟨h,r,e⟩:=w.first
 have hp:0<row.length:=by rw[e];simp
 refine⟨hp,?_⟩;have:=w.rch (row.length-1) _ (zNp hp);rw[show row.length-1+1=row.length by omega]at this;exact this
def Rch.walk(K:tX hG S){n h:Nat}(r:Rch R ts hG k n h):∃row,Walk (z0g R ts (S++[k])) ((S.map λx=>hG.lookup x)++[none]) S.length row/\row.length=n/\(row.getD (row.length-1) (0,0)).2=h:=by
 induction r with
 |@first h hh=>
  refine⟨[(S.length,h)],⟨⟨h,[],rfl⟩,λp hp=>?_,λi p q e1 e2=>?_⟩,rfl,rfl⟩
  ·rw[List.mem_singleton.mp hp,zHj];exact hh
  ·cases i<;>simp at e2
 |@next n h x h' r hx hh ih=>
  obtain⟨row,w,hl,he⟩:=ih;have hxS:x∈S:=K.pm.mem_iff.mpr (List.mem_map.mpr ⟨_,zBh hx,rfl⟩);obtain⟨i,hi⟩:=List.mem_iff_getElem?.mp hxS;have kH:=(List.getElem?_eq_some_iff.mp hi).1;have hgi:S.getD i 0=x:=by rw[Lp,hi];rfl
  obtain⟨h0,r0,e0⟩:=w.first
  have kW:0<row.length:=by rw[e0];simp
  refine⟨row++[(i,h')],⟨⟨h0,r0++[(i,h')],by rw[e0];rfl⟩,λp hp=>?_,λj p q e1 e2=>?_⟩,by simp[hl],by simp⟩
  ·rcases List.mem_append.mp hp with hp|hp
   ·exact w.mem p hp
   ·rw[List.mem_singleton.mp hp,zRp kH,hgi];exact hh
  ·by_cases hj:j+1<row.length
   ·rw[yg (by omega)]at e1;rw[yg hj]at e2;exact w.link j p q e1 e2
   ·have hj2:j+1=row.length:=by
     have:=(List.getElem?_eq_some_iff.mp e2).1;simp at this;omega
    rw[yC (by omega),show j+1-row.length=0 by omega]at e2;rw[yg (by omega),show j=row.length-1 by omega,zNp kW]at e1;cases e1;cases e2;rw[he,Lp,yg (by simpa using kH),yi,hi];exact hx
def rmI(R:Qf)(hG:Qe)(h:Nat):Int:=(R.getD h 0:Int)-((hG.map λp=>some p.2).count (some h):Nat)
def z8p(nd:(hG.map (·.1)).Nodup)(K:tX hG S)(h:Nat):((S.map λx=>hG.lookup x)++[none]).count (some h)=(hG.map λp=>some p.2).count (some h):=by
 rw[Lh,(zAj nd K.pm).count_eq];simp
def Cov(R:Qf)(hG:Qe)(Fd:Qf)(h:Nat):Prop:=rmI R hG h<=0/\∀y,hG.lookup y=some h->y∈Fd
def Cov.more{Fd':Qf}(c:Cov R hG Fd h)(s:∀y∈Fd,y∈Fd'):Cov R hG Fd' h:=⟨c.1,λy e=>s y (c.2 y e)⟩
structure Lev(R:Qf)(ts hG:Qe)(k i:Nat)(Fd Fr:Qf):Prop where
 k0:k∈Fd
 sub:∀x∈Fr,x∈Fd
 fr0:i=0->k∈Fr
 fr:∀x∈Fr,(i=0/\x=k)\/∃h,hG.lookup x=some h/\Rch R ts hG k i h
 fd:∀x∈Fd,x=k\/∃j h,hG.lookup x=some h/\Rch R ts hG k j h
 cov:∀j h,j<=i->Rch R ts hG k j h->Cov R hG Fd h
 old:∀x∈Fd,x∉Fr->∀h∈hmK R ts x,Cov R hG Fd h
def Rch.pos(r:Rch R ts hG k n h):1<=n:=by cases r<;>omega
def Lev.init:Lev R ts hG k 0 [k] [k] where
 k0:=by simp
 sub:=λx hx=>hx
 fr0:=λ_=>by simp
 fr:=λx hx =>.inl ⟨rfl,by simpa using hx⟩
 fd:=λx hx =>.inl (by simpa using hx)
 cov:=λj h hj r=>by have:=r.pos;omega
 old:=λx hx hn=>absurd hx hn
def ngh(R:Qf)(ts hG:Qe)(Fr:Qf):Qf:=(Fr.map λx=>(hmK R ts x).filter λh=>decide (hG.lookup x≠some h)).flatten
def sP:h∈ngh R ts hG Fr↔∃x∈Fr,h∈hmK R ts x/\hG.lookup x≠some h:=by
 unfold ngh;rw[List.mem_flatten];constructor
 ·rintro⟨l,hl,hh⟩;obtain⟨x,hx,rfl⟩:=List.mem_map.mp hl;obtain⟨h1,h2⟩:=List.mem_filter.mp hh;exact⟨x,hx,h1,of_decide_eq_true h2⟩
 ·rintro⟨x,hx,h1,h2⟩;exact⟨_,List.mem_map.mpr ⟨x,hx,rfl⟩,List.mem_filter.mpr ⟨h1,decide_eq_true h2⟩⟩
def Lev.rch(l:Lev R ts hG k i Fd Fr){h:Nat}(hh:h∈ngh R ts hG Fr):Rch R ts hG k (i+1) h:=by
 obtain⟨x,hx,h1,_⟩:=sP.mp hh;rcases l.fr x hx with ⟨rfl,rfl⟩|⟨h',e,r⟩
 ·exact .first h1
 ·exact .next r e h1
def Lev.step{Fr':Qf}(h0:hG.lookup k=none)(l:Lev R ts hG k i Fd Fr)(hr:∀h∈ngh R ts hG Fr,rmI R hG h<=0)(hF:∀y,y∈Fr'↔(∃h,hG.lookup y=some h/\h∈ngh R ts hG Fr)/\y∉Fd):Lev R ts hG k (i+1) (Fd++Fr') Fr':=by
 have s:∀y∈Fd,y∈Fd++Fr':=λy hy=>Nk _ hy
 have cn:∀h∈ngh R ts hG Fr,Cov R hG (Fd++Fr') h:=λh hh=>⟨hr h hh,λy e=>by
  by_cases hy:y∈Fd
  ·exact s y hy
  ·exact Nm _ ((hF y).mpr ⟨⟨h,e,hh⟩,hy⟩)⟩
 have cf:∀x∈Fd,∀h∈hmK R ts x,Cov R hG (Fd++Fr') h:=λx hx h hh=>by
  by_cases hf:x∈Fr
  ·by_cases ho:hG.lookup x=some h
   ·rcases l.fr x hf with ⟨_,rfl⟩|⟨h',e,r⟩
    ·rw[h0]at ho;cases ho
    ·rw[e]at ho;cases ho;exact(l.cov i h (yh _) r).more s
   ·exact cn h (sP.mpr ⟨x,hf,hh,ho⟩)
  ·exact(l.old x hx hf h hh).more s
 refine⟨s k l.k0,λx hx=>Nm _ hx,λh=>absurd h (by omega),λx hx =>.inr ?_,λx hx=>?_,λj h hj r=>?_,λx hx hn h hh=>?_⟩
 ·obtain⟨⟨h,e,hh⟩,_⟩:=(hF x).mp hx;exact⟨h,e,l.rch hh⟩
 ·rcases List.mem_append.mp hx with hx|hx
  ·exact l.fd x hx
  ·obtain⟨⟨h,e,hh⟩,_⟩:=(hF x).mp hx;exact .inr ⟨_,h,e,l.rch hh⟩
 ·by_cases hji:j<=i
  ·exact(l.cov j h hji r).more s
  ·cases r with
   |first hh=>exact cf k l.k0 h hh
   |@next n h' x _ r e hh=>exact cf x ((l.cov n h' (by omega) r).2 x e) h hh
 ·rcases List.mem_append.mp hx with hx|hx
  ·exact cf x hx h hh
  ·exact absurd hx hn
def Lev.sG(l:Lev R ts hG k i Fd []):∀{n h:Nat},Rch R ts hG k n h->Cov R hG Fd h:=by
 intro n h r
 induction r with
 |first hh=>exact l.old k l.k0 (by simp) _ hh
 |next r e hh ih=>exact l.old _ (ih.2 _ e) (by simp) _ hh
variable {O O':Mem}{dl:Nat}{Q:Wr}
def zLn{O1:Mem}{kv:Wp}(k:KB [dl] O O1)(hd:O[dl]?=some (.dct kv))(e1:O1[dl]?=some (.dcf kv)):tm O (O1.set dl (.dct kv)):=λn o e=>by
 by_cases hn:n=dl
 ·subst hn;rw[hd]at e;cases e;exact zY e1
 ·exact z7 (k.at_ n o (by simp;exact hn) e) (yR hn)
def zVo(hh:h<R.length)(hf:hG.length<=100)(nd:(hG.map (·.1)).Nodup)(hd:O[dl]?=some (.dct (dkN hG)))(q:∀O',KB [dl] O O'->O'[dl]?=some (.dcf (dkN hG))->Q (.int (rmI R hG h)) O'):WF zqb [rlN R ts,.loc dl,.int (h:Nat)] O Q:=by
 refine zLb rfl ?_;show WS zAc [some (rlN R ts),some (.loc dl),some (.int (h:Nat))] O _ _ _ _;unfold zAc;refine zEb (zo (zo (zo (zd rfl (w_c (zmc rfl (show atI [tn R,.tup (ts.map pr2)] 0=some (tn R) from rfl) (zd rfl (zov hh (zu (ze (zcn (zzo (zd rfl ⟨dl,_,rfl,hd,zfc (by unfold z2f;rw[Lv,z0p];omega),?_⟩)))))))))))));have k2:KB [dl] O (O.set dl (.dcf (dkN hG))):=KB.refl.set (.inl (by simp));have d2:(O.set dl (.dcf (dkN hG)))[dl]?=some (.dcf (dkN hG)):=zY hd;generalize O.set dl (.dcf (dkN hG))=O2 at k2 d2;rw[zsj];refine z8d (λp:Nat×Nat=>D.int (p.1:Nat)) hG (λp=>D.int (p.1:Nat)) (λp=>decide (p.2=h)) (λ_ _=>rfl) (λp hm O3 kp=>?_) (λO3 k3=>?_)
 ·refine zsd ?_;unfold zCe;refine zG (zo (zo (zd rfl (zd rfl (zNn (zZc (kp _ _ d2)) (by rw[z8b,zAf nd _ hm];rfl) (zd rfl (zeh ⟨_,rfl,?_,kp,λ_=>?_⟩)))))))
  ·apply Bool.eq_iff_iff.mpr;rw[decide_eq_true_iff,beq_iff_eq];omega
  ·unfold zEe;exact zd rfl ⟨rfl,kp⟩
 ·refine zt (zMe (zB zr) (zkt ?_))
  have e:((hG.filter λp=>decide (p.2=h)).map λp=>D.int (p.1:Nat)).length=(hG.map λp=>some p.2).count (some h):=by
   rw[Lv,List.count_eq_length_filter,List.filter_map,Lv]
   have hc:(hG.filter λp=>decide (p.2=h))=hG.filter ((λx=>x==some h)∘λp=>some p.2):=Lm λp _=>by
    apply Bool.eq_iff_iff.mpr;simp
   rw[hc]
  rw[e];exact q _ (k2.trans (KB.of_keep k3.to)) (tm.app _ _ (k3 _ _ d2))
def zBp{b:Nat}(hi:J[i]?=some (some (.loc dl)))(ha:J[a]?=some (some (rlN R ts)))(hb:J[b]?=some (some (.int (h:Nat))))(hh:h<R.length)(hf:hG.length<=100)(nd:(hG.map (·.1)).Nodup)(hd:O[dl]?=some (.dct (dkN hG)))(q:∀O',tm O O'->Q (.int (rmI R hG h)) O') :
 WE (zjm i (zx zqb (zh (zm a) (zh (zm i) (zh (zm b) zI))))) J O Q:=by
 refine zMv hi hd (zu (ze (zd ha (ze (zd hi (ze (zd hb (zt (zVo hh hf nd hd λO1 k1 e1=>?_)))))))));rw[zFs e1];exact q _ (zLn k1 hd e1)
def z5u(Fr:Qf)(x:Nat):ngh R ts hG (Fr++[x])=ngh R ts hG Fr++(hmK R ts x).filter λh=>decide (hG.lookup x≠some h):=by
 unfold ngh;rw[Nd,List.flatten_append];simp
def zqo(htl:ts.length<=3):∀Fr:Qf,(ngh R ts hG Fr).length<=3*Fr.length
 |[]=>by simp[ngh]
 |x::Fr=>by
  have ih:=zqo htl Fr;have h1:((hmK R ts x).filter λh=>decide (hG.lookup x≠some h)).length<=3:=yG (Lu _ _) (by rw[Lv];exact htl);have e:ngh R ts hG (x::Fr)=((hmK R ts x).filter λh=>decide (hG.lookup x≠some h))++ngh R ts hG Fr:=by unfold ngh;rw[Ng,Lo]
  rw[e,Lr,Ls];omega
def zZy(h:Rl R ts){x y:Nat}(hy:y∈hmK R ts x):y<R.length:=by
 obtain⟨t,_,et⟩:=List.mem_map.mp hy;have:=h.rl;rw[<-et];exact Nat.mod_lt _ (by omega)
structure SH(R:Qf)(ts hG:Qe)(k:Nat)(fw:Qj)(Fd:Qf):Prop where
 none:fw=none->∃i,Lev R ts hG k i Fd []
 some:∀c,fw=some c->(∃h,Rch R ts hG k c h/\0<rmI R hG h)/\∀j h,j<c->Rch R ts hG k j h->rmI R hG h<=0
structure SI(R:Qf)(ts hG:Qe)(S:Qf)(k i:Nat)(fw:Qj)(Fd Fr:Qf):Prop where
 nd:Fd.Nodup
 fs:∀x∈Fd,x∈k::S
 nr:Fr.Nodup
 rs:∀x∈Fr,x∈k::S
 lev:hG.lookup k=xV->fw=xV->Lev R ts hG k i Fd Fr
 out:hG.lookup k=xV->∀c,fw=some c->(∃h,Rch R ts hG k c h/\0<rmI R hG h)/\∀j h,j<c->Rch R ts hG k j h->rmI R hG h<=0
abbrev δ50(rl:D)(dl:Nat)(R:Qf)(ts hG:Qe)(S:Qf)(k:Nat)(O:Mem):Nat->M.Loc->Mem->Prop:=λm J O'=>∃(Fd Fr:Qf)(i fl gl:Nat)(fw:Qj)(x7 x8:Wn),J=[yr rl,yr (.loc dl),yr (.int (k:Nat)),yr (.loc fl),yr (.loc gl),yr (onD fw),yr (.int (i:Nat)),x7,x8]/\tm O O'/\O'[fl]?=yr (.lst (nat Fd))/\O'[gl]?=yr (.lst (nat Fr))/\SI R ts hG S k i fw Fd Fr/\m=40-Fd.length+(if Fr=[] then 0 else 1)
def SI.len{fw:Qj}(h:SI R ts hG S k i fw Fd Fr):Fd.length<=S.length+1/\Fr.length<=S.length+1:=⟨zjc h.nd h.fs,zjc h.nr h.rs⟩
def zRu{fl gl:Nat}{x7 x8:Wn}(h:Rl R ts)(nd:(hG.map (·.1)).Nodup)(K:tX hG S)(hS:S.length<=30)(hd:O[dl]?=yr (.dct (dkN hG)))(e1:O[fl]?=yr (.lst (nat Fd)))(e2:O[gl]?=yr (.lst (nat Fr)))(I:SI R ts hG S k i xV Fd Fr)(kL:Fr≠[])
 (q:∀(Fd' Fr':Qf)(fl' gl':Nat)(fw:Qj)(y7 y8:Wn)(O':Mem),tm O O'->O'[fl']?=yr (.lst (nat Fd'))->O'[gl']?=yr (.lst (nat Fr'))->SI R ts hG S k (i+1) fw Fd' Fr'->40-Fd'.length+(if Fr'=[] then 0 else 1)<40-Fd.length+1->nx [yr (rlN R ts),yr (.loc dl),yr (.int (k:Nat)),yr (.loc fl'),yr (.loc gl'),yr (onD fw),yr (.int ((i+1:Nat):Nat)),y7,y8] O') :
 WS zxd [yr (rlN R ts),yr (.loc dl),yr (.int (k:Nat)),yr (.loc fl),yr (.loc gl),yr .non,yr (.int (i:Nat)),x7,x8] O nx rt bk ct:=by
 have hl:=K.len;have htl:=h.tl;have kX:=h.rl;obtain⟨l1,l2⟩:=I.len;unfold zxd;refine zw (z5 (zo (zd rfl (w_c (zSg ?_)))));refine zw (z5 (z1f (zt ?_)));refine zw (z0f (zFd (zd rfl (.inr (.inr ⟨_,_,rfl,tm.app _ _ e2,?_⟩)))));refine z7b (λj J O'=>∃(nl:Nat)(y8:Wn),J=[yr (rlN R ts),yr (.loc dl),yr (.int (k:Nat)),yr (.loc fl),yr (.loc gl),yr .non,yr (.int ((i:Int)+1)),yr (.loc nl),y8]/\tm O O'/\O'[nl]?=yr (.lst (nat (ngh R ts hG (Fr.take j))))) ⟨_,_,rfl,tm.app,zr⟩ (λ_ _ _ ⟨_,_,_,kp,_⟩=>zdb e2 kp) ?_ ?_
 ·rintro j z J O1 hz ⟨nl,y8,rfl,k1,en⟩;rw[yi]at hz
  cases hx:Fr[j]? with
  |none=>rw[hx]at hz;cases hz
  |some x=>
   rw[hx]at hz;cases hz;refine zsd ?_;unfold zQf;refine z5 (zo (zd rfl (zcn (zFd (zu (ze (zd rfl (ze (zd rfl (zt (ztk h λl O2 k2 g2 eh =>.inr (.inr ⟨_,_,rfl,eh,zfc (by rw[Lv,Lv];omega),?_⟩))))))))))));refine z8d (λ(y:Nat)=>D.int y) (hmK R ts x) (λ(y:Nat)=>D.int y) (λy=>decide (hG.lookup x≠yr y)) (λO' k'=>zdb eh k') (λy hy O3 k3=>?_) (λO3 k3=>?_)
   ·refine zsd ?_;unfold zUf;have d3:=(k1.trans (k2.trans k3)) _ _ hd;refine zG (zo (zd rfl (z2m (zd rfl ⟨dl,_,rfl,d3,ze (zd rfl (zt (z5p (zZ d3) ?_)))⟩))))
    have eo:((zPc (dkN hG) ((x:Nat):Int)).getD .non)=onD (hG.lookup x):=by
     rw[z8b];cases hG.lookup x<;>rfl
    rw[eo];refine z8y (α:=Qj) (yr y) (hG.lookup x) ⟨_,rfl,?_,k3,λ_=>?_⟩
    ·apply Bool.eq_iff_iff.mpr;rw[decide_eq_true_iff,Bool.not_eq_true',decide_eq_false_iff_not];exact⟨λa b=>a b.symm,λa b=>a b.symm⟩
    ·unfold zXf;exact zd rfl ⟨rfl,k3⟩
   ·have k4:tm O (O3++[tx.lst (((hmK R ts x).filter λy=>decide (hG.lookup x≠yr y)).map λ(y:Nat)=>D.int y)]):=((k1.trans k2).trans k3).to;refine zJp (tm.app _ _ ((k2.trans k3) _ _ en)) zr ?_ ?_
    ·have a1:=zqo (R:=R) (ts:=ts) (hG:=hG) (by omega) (Fr.take j);have a2:=(Vi j Fr).length_le;have a3:=Lu (λy=>decide (hG.lookup x≠yr y)) (hmK R ts x);rw[Lv,Lv];rw[Lv]at a3;omega
    ·refine⟨_,_,rfl,k4.to,?_⟩;rw[zr,Vf,hx];show _=yr (tx.lst (nat (ngh R ts hG (Fr.take j++[x]))));rw[z5u,zHc]
 ·rintro J O1 ⟨nl,y8,rfl,k1,en⟩;rw[Lv,Vh]at en;have gH:(ngh R ts hG Fr).length<=93:=by have:=zqo (R:=R) (ts:=ts) (hG:=hG) (by omega) Fr;omega
  have kH:∀y∈ngh R ts hG Fr,y<R.length:=λy hy=>by
   obtain⟨x,_,hh,_⟩:=sP.mp hy;exact zZy h hh
  have d1:=k1 _ _ hd
  have behind:∀(fw:Qj)(O2:Mem),tm O1 O2->(fw=xV->∀y∈ngh R ts hG Fr,rmI R hG y<=0)->(∀c,fw=yr c->c=i+1/\∃y∈ngh R ts hG Fr,0<rmI R hG y)->WS (zX (zFb 4 (fLC 1 [1,7,3] (zZf (zx zag (zh (zm 1) zI))) (gN 0) zzd zAd)) (zFb 3 (zD zsg (zm 3) (zm 4)))) [yr (rlN R ts),yr (.loc dl),yr (.int (k:Nat)),yr (.loc fl),yr (.loc gl),yr (onD fw),yr (.int ((i:Int)+1)),yr (.loc nl),y8] O2 nx rt bk ct:=λfw O2 k2 f1 f2=>by
   have d2:=k2 _ _ d1;have n2:=k2 _ _ en;have a2:=k2 _ _ (k1 _ _ e1);refine zw (z5 (zcn (zFd (zu (ze (zd rfl (zt (zpm (zZ d2) K.pm K.pw (by omega) (.inr (.inr ⟨_,_,rfl,zr,zfc (by rw[Lv];omega),?_⟩))))))))));obtain⟨Fr',hFr'⟩:∃Fr',Fr'=S.filter λx=>decide ((∃y,hG.lookup x=yr y/\y∈ngh R ts hG Fr)/\x∉Fd):=⟨_,rfl⟩
   refine z8d (λ(y:Nat)=>D.int y) S (λ(y:Nat)=>D.int y) (λx=>decide ((∃y,hG.lookup x=yr y/\y∈ngh R ts hG Fr)/\x∉Fd)) (λO' k'=>zdb zr k') (λx hx O3 k3=>?_) (λO3 k3=>?_)
   ·obtain⟨v,hv⟩:=K.look hx;have k3':tm O2 O3:=tm.app.trans k3;refine zsd ?_;unfold zzd;refine zpl (zG (zo (zo (zd rfl (zd rfl (zNn (zZ (k3' _ _ d2)) (by rw[z8b,hv];rfl) (zd rfl (zgy (zB (k3' _ _ n2)) ⟨_,rfl,λhb=>?_,λhb=>?_⟩))))))))
    ·refine zG (zo (zd rfl (zd rfl (zYh (zB (k3' _ _ a2)) ⟨_,rfl,?_,k3,λ_=>?_⟩))))
     ·have hb:=of_decide_eq_true hb;apply Bool.eq_iff_iff.mpr;rw[decide_eq_true_iff,Bool.not_eq_true',decide_eq_false_iff_not];exact⟨λa=>⟨⟨v,hv,hb⟩,a⟩,λa=>a.2⟩
     ·unfold zAd;exact zd rfl ⟨rfl,k3⟩
    ·refine⟨?_,k3,λhb=>(by cases hb)⟩;have hb:=of_decide_eq_false hb
     symm
     apply decide_eq_false;rintro⟨⟨y,hy,hm⟩,_⟩;rw[hv]at hy;cases hy;exact hb hm
   ·rw[<-hFr'];have k3':tm O2 (O3++[tx.lst (Fr'.map λ(y:Nat)=>D.int y)]):=tm.app.trans k3.to;have hFrl:Fr'.length<=S.length:=by rw[hFr'];exact Lu _ _
    refine z5 (zo (zd rfl (zd rfl (zJp (k3' _ _ a2) zr (by rw[Lv,Lv];omega) ?_))));have e5:nat Fd++(Fr'.map λ(y:Nat)=>D.int y)=nat (Fd++Fr'):=by rw[zHc]
    rw[e5]
    have kJ:∀y,y∈Fr'↔(∃z,hG.lookup y=yr z/\z∈ngh R ts hG Fr)/\y∉Fd:=λy=>by
     rw[hFr',Nq,decide_eq_true_iff];refine⟨λa=>a.2,λa=>⟨?_,a⟩⟩;obtain⟨⟨z,hz,_⟩,_⟩:=a;exact K.pm.mem_iff.mpr (List.mem_map.mpr ⟨_,zBh hz,rfl⟩)
    have ndF:Fr'.Nodup:=by rw[hFr'];exact(K.pw.imp λh=>yu h).filter _
    have ek:(D.int ((i:Int)+1))=D.int ((i+1:Nat):Int):=by congr 1
    rw[ek];refine q (Fd++Fr') Fr' _ _ fw _ _ _ ((k1.trans k2).trans k3'.to) zr (tm.app _ _ zr) ⟨?_,λx hx=>?_,ndF,λx hx=>?_,λh0 hf=>(I.lev h0 rfl).step h0 (f1 hf) kJ,λh0 c hc=>?_⟩ ?_
    ·rw[Nx];exact⟨I.nd,ndF,λa ha b hb=>by rintro rfl;exact((kJ a).mp hb).2 ha⟩
    ·rcases List.mem_append.mp hx with hx|hx
     ·exact I.fs x hx
     ·rw[hFr']at hx;exact No _ (List.mem_filter.mp hx).1
    ·rw[hFr']at hx;exact No _ (List.mem_filter.mp hx).1
    ·obtain⟨rfl,y,hy,hr⟩:=f2 c hc;have L:=I.lev h0 rfl;exact⟨⟨y,L.rch hy,hr⟩,λj h' hj r=>(L.cov j h' (by omega) r).1⟩
    ·have hW:(Fd++Fr').length<=S.length+1:=by
      refine zjc (m:=k::S) ?_ λx hx=>?_
      ·rw[Nx];exact⟨I.nd,ndF,λa ha b hb=>by rintro rfl;exact((kJ a).mp hb).2 ha⟩
      ·rcases List.mem_append.mp hx with hx|hx
       ·exact I.fs x hx
       ·rw[hFr']at hx;exact No _ (List.mem_filter.mp hx).1
     rw[Lr]at hW ⊢
     by_cases hz:Fr'=[]
     ·rw[if_pos hz,hz];simp
     ·rw[if_neg hz];have:=List.length_pos_iff.mpr hz;omega
  refine zw (zEf (zG (zo (zu (ze (zcn (zFd (zd rfl (.inr (.inr ⟨_,_,rfl,en,zfc (by rw[Lv];omega),?_⟩))))))))));refine z8d (λ(y:Nat)=>D.int y) (ngh R ts hG Fr) (λ(y:Nat)=>D.int y) (λy=>decide (0<rmI R hG y)) (λO' k'=>zdb en k') (λy hy O3 k3=>?_) (λO3 k3=>?_)
  ·refine zsd ?_;unfold zTf;refine zG (zo (zBp rfl rfl rfl (kH y hy) (by omega) nd (k3 _ _ d1) λO4 k4=>w_c (zJi ⟨_,rfl,rfl,k3.trans k4,λ_=>?_⟩)));unfold zYf;exact zd rfl ⟨rfl,k3.trans k4⟩
  ·refine zt (zMe (zB zr) (w_c (zJi ⟨_,rfl,λhb=>?_,λhb=>zfb ?_⟩)))
   ·have hb:=of_decide_eq_true hb;rw[Lv]at hb;have kW:0<((ngh R ts hG Fr).filter λy=>decide (0<rmI R hG y)).length:=by omega
    have hm:=Lq kW;obtain⟨m1,m2⟩:=List.mem_filter.mp hm;refine z5 (zd rfl ?_);exact behind (yr (i+1)) _ k3.to (λhf=>(by cases hf)) λc hc=>⟨by cases hc;rfl,_,m1,of_decide_eq_true m2⟩
   ·have hb:=of_decide_eq_false hb;rw[Lv]at hb;have hz:((ngh R ts hG Fr).filter λy=>decide (0<rmI R hG y))=[]:=List.length_eq_zero_iff.mp (by omega);refine behind xV _ k3.to (λ_ y hy=>?_) λc hc=>(by cases hc)
    rcases Int.lt_or_le 0 (rmI R hG y) with z|z
    ·have:y∈((ngh R ts hG Fr).filter λy=>decide (0<rmI R hG y)):=List.mem_filter.mpr ⟨hy,decide_eq_true z⟩;rw[hz]at this;cases this
    ·exact z
def zuq(h:Rl R ts)(nd:(hG.map (·.1)).Nodup)(K:tX hG S)(hS:S.length<=30)(hd:O[dl]?=yr (.dct (dkN hG)))
 (q:∀(V:Qf)(l:Nat)(fw:Qj)(O':Mem),tm O O'->O'[l]?=yr (.lst (nat V))->V.Pairwise (· < ·)->V.length<=31->(hG.lookup k=xV->∃Fd,SH R ts hG k fw Fd/\∀x,x∈V↔x∈Fd)->Q (.tup [.loc l,onD fw]) O'):WF ztc [rlN R ts,.loc dl,.int (k:Nat)] O Q:=by
 refine zLb rfl ?_;show WS zcd [yr (rlN R ts),yr (.loc dl),yr (.int (k:Nat)),none,none,none,none,none,none] O _ _ _ _;unfold zcd;refine zw (z5 (z1f (ze (zd rfl (zt ?_)))));refine zw (z5 (z1f (ze (zd rfl (zt ?_)))));refine zw (z5 (w_c (zw (z5 (w_c ?_)))));have e1:((O++[tx.lst [D.int (k:Nat)]])++[tx.lst [D.int (k:Nat)]])[O.length]?=yr (.lst (nat [k])):=tm.app _ _ zr;have e2:((O++[tx.lst [D.int (k:Nat)]])++[tx.lst [D.int (k:Nat)]])[(O++[tx.lst [D.int (k:Nat)]]).length]?=yr (.lst (nat [k])):=zr;have k0:tm O ((O++[tx.lst [D.int (k:Nat)]])++[tx.lst [D.int (k:Nat)]]):=tm.app.to;generalize (O++[tx.lst [D.int (k:Nat)]]).length=gl at e2 ⊢;generalize (O++[tx.lst [D.int (k:Nat)]])++[tx.lst [D.int (k:Nat)]]=O1 at e1 e2 k0 ⊢;refine zw (zyk (δ50 (rlN R ts) dl R ts hG S k O) (m:=40) (by decide) ⟨[k],[k],0,_,_,xV,_,_,rfl,k0,e1,e2,⟨by simp,by simp,by simp,by simp,λ_ _ =>.init,λ_ c hc=>(by cases hc)⟩,by simp⟩ ?_);rintro m J O2 ⟨Fd,Fr,i,fl,gl,fw,x7,x8,rfl,k2,e1,e2,I,rfl⟩
 have last:(Fr=[]\/fw≠xV)->∀O3,tm O2 O3->WS (zYb (zYj (zh (zx z9f (zh (zm 3) zI)) (zh (zm 5) zI)))) [yr (rlN R ts),yr (.loc dl),yr (.int (k:Nat)),yr (.loc fl),yr (.loc gl),yr (onD fw),yr (.int (i:Nat)),x7,x8] O3 (λ_ O'=>Q .non O') Q (λ_ _=>False) (λ_ _=>False):=λhF O3 k3=>by
  obtain⟨V,hV,pV⟩:=zzr I.nd;have l1:=I.len.1;refine zEb (zbg (ze (zu (ze (zd rfl (zt (z5l (k3 _ _ e1) hV pV (by omega) (ze (zd rfl (zt ?_))))))))));refine q V _ fw _ ((k2.trans k3).to) zr pV (by rw[hV.length_eq];omega) λh0=>⟨Fd,⟨λhf=>?_,I.out h0⟩,λx=>hV.mem_iff⟩
  rcases hF with rfl|hF
  ·exact⟨i,I.lev h0 hf⟩
  ·exact absurd hf hF
 refine zpl (zG (zo (zd rfl (z1f (zt (zKw (α:=Nat) Fr [] (tm.app _ _ e2) zr ⟨_,rfl,λhb=>?_,λhb=>⟨λz=>(by cases z),λ_=>last (.inl ?_) _ tm.app⟩⟩))))))
 ·have kL:Fr≠[]:=λz=>by rw[decide_eq_true z]at hb;cases hb
  refine zG (zo (zd rfl (w_c (zvw (zxj fw) ⟨_,rfl,λhb=>?_,λhb=>?_⟩))))
  ·cases fw with
   |some c=>cases hb
   |none=>
    have kk:tm O2 (O2++[tx.lst []]):=tm.app;rw[if_neg kL];refine zRu h nd K hS (kk _ _ (k2 _ _ hd)) (kk _ _ e1) (kk _ _ e2) I kL λFd' Fr' fl' gl' fw y7 y8 O' k' a1 a2 I' hm=>⟨_,hm,Fd',Fr',i+1,fl',gl',fw,y7,y8,rfl,(k2.trans kk).trans k',a1,a2,I',rfl⟩
  ·refine last (.inr λz=>?_) _ tm.app;rw[z]at hb;cases hb
 ·by_cases z:Fr=[]
  ·exact z
  ·rw[decide_eq_false z]at hb;cases hb
end
def zHw(e:O[l]?=some (.lst (row.map pD))):toP O 8 (.loc l)=some (.list ((row.map λp=>[p.1,p.2]).map Enc.p)):=by
 refine zcz (α:=Qf) 7 _ ?_ (by decide);rw[e,Nh];rfl
section
variable {R:Qf}{ts hG row:Qe}{S V:Qf}{k:Nat}
def zrp{T:Qf}(K:tX hG S)(sh:TH R (z0g R ts (S++[k])) ((S.map λx=>hG.lookup x)++[none]) T)(hk:S.length∈T){n h:Nat}(r:Rch R ts hG k n h):∃o∈T,h∈(z0g R ts (S++[k])).getD o []:=by
 induction r with
 |first hh=>exact⟨S.length,hk,by rw[zHj];exact hh⟩
 |@next n h x h' r hx hh ih=>
  obtain⟨o,ho,hm⟩:=ih;have hxS:x∈S:=K.pm.mem_iff.mpr (List.mem_map.mpr ⟨_,zBh hx,rfl⟩);obtain⟨i,hi⟩:=List.mem_iff_getElem?.mp hxS;have kH:=(List.getElem?_eq_some_iff.mp hi).1;refine⟨i,sh.lies o ho h hm i ?_,?_⟩
  ·rw[Lp,yg (by simpa using kH),yi,hi];exact hx
  ·rw[zRp kH,Lp,hi];exact hh
def full50{fw:Qj}(nd:(hG.map (·.1)).Nodup)(K:tX hG S)(hf:zux R ts hG S k V)(hr:zzz R ts hG S k V)(hkV:k∈V)(o:SH R ts hG k fw Fd):fw=none/\∀x,x∈V↔x∈Fd:=by
 obtain⟨T,sb,hm,sh,pm⟩:=hf
 have h1:fw=none:=by
  cases fw with
  |none=>rfl
  |some c=>
   obtain⟨⟨h,r,hp⟩,_⟩:=o.some c rfl;obtain⟨i,hi,hh⟩:=zrp K sh hm r;have:=sh.full i hi h hh;rw[z8p nd K]at this;unfold rmI at hp;omega
 obtain⟨i,L⟩:=o.none h1;refine⟨h1,λx=>⟨λhx=>?_,λhx=>?_⟩⟩
 ·rcases hr x hx with rfl|⟨row,ro,e⟩
  ·exact L.k0
  ·exact(L.sG ro.walk.last.2).2 x e
 ·rcases L.fd x hx with rfl|⟨j,h,e,r⟩
  ·exact hkV
  ·obtain⟨i,hi,hh⟩:=zrp K sh hm r;have hxS:x∈S:=K.pm.mem_iff.mpr (List.mem_map.mpr ⟨_,zBh e,rfl⟩);obtain⟨a,ha⟩:=List.mem_iff_getElem?.mp hxS;have kH:=(List.getElem?_eq_some_iff.mp ha).1;have hT:a∈T:=sh.lies i hi h hh a (by rw[Lp,yg (by simpa using kH),yi,ha];exact e);refine pm.mem_iff.mpr (List.mem_map.mpr ⟨a,hT,?_⟩);rw[Lp,yg kH,ha];rfl
def put50{fw:Qj}(nd:(hG.map (·.1)).Nodup)(K:tX hG S)(c:Can R ts hG S k row)(f:Few R ts hG S k row)(o:SH R ts hG k fw Fd):fw=some row.length:=by
 have hc:=c.2;rw[z8p nd K]at hc;obtain⟨hp,hl⟩:=c.1.walk.last
 cases fw with
 |none=>
  obtain⟨i,L⟩:=o.none rfl;have:=(L.sG hl).1;unfold rmI at this;omega
 |some n=>
  obtain⟨⟨h,r,hr⟩,hm⟩:=o.some n rfl;obtain⟨row',w',l',e'⟩:=r.walk K;have h1:=f row' w' (by rw[e',z8p nd K];unfold rmI at hr;omega)
  have h2:¬row.length<n:=λkH=>by
   have:=hm _ _ kH hl;unfold rmI at this;omega
  rw[show n=row.length by omega]
structure RowG(R:Qf)(ts hG:Qe)(k:Nat)(gG:Qe):Prop where
 first:∃h r,gG=(k,h)::r
 mem:∀p∈gG,p.2∈hmK R ts p.1/\hG.lookup p.1≠some p.2
 link:∀i p q,gG[i]?=some p->gG[i+1]?=some q->hG.lookup q.1=some p.2
 nd:(gG.map (·.1)).Nodup
def zEv(h0:hG.lookup k=none){i:Nat}(hi:i<S.length+1):((S.map λx=>hG.lookup x)++[none]).getD i none=hG.lookup ((S++[k]).getD i 0):=by
 by_cases h:i<S.length
 ·rw[Lp,yg (by simpa using h),yi,yk h,Lp,yg h,yk h];rfl
 ·have:i=S.length:=by omega
  subst this;rw[Lp,yC (by simp),Lp,yC (yh _)];simp[h0]
def zvz(K:tX hG S)(h0:hG.lookup k=none)(c:Can R ts hG S k row):RowG R ts hG k (z5k (S++[k]) row):=by
 have kH:∀p∈row,p.1<S.length+1:=λp hp=>by
  have:=(c.1.mem p hp).1;rw[Lv,Lr,Ly]at this;exact this
 have hom:∀i,i<S.length+1->(z0g R ts (S++[k])).getD i []=hmK R ts ((S++[k]).getD i 0):=λi hi=>by
  by_cases h:i<S.length
  ·rw[zRp h,Lp,Lp,yg h]
  ·have:i=S.length:=by omega
   subst this;rw[zHj];simp
 have ndA:=K.nd h0;refine⟨?_,λp hp=>?_,λi p q e1 e2=>?_,?_⟩
 ·obtain⟨h,r,e⟩:=c.1.first
  exact⟨h,z5k (S++[k]) r,by rw[e];simp⟩
 ·obtain⟨a,ha,rfl⟩:=List.mem_map.mp hp;have:=kH a ha;obtain⟨_,m2,m3⟩:=c.1.mem a ha;rw[hom _ this]at m2;rw[zEv h0 this]at m3;exact⟨m2,m3⟩
 ·rw[yi]at e1 e2
  cases ha:row[i]? with
  |none=>rw[ha]at e1;cases e1
  |some a=>
   cases hb:row[i+1]? with
   |none=>rw[hb]at e2;cases e2
   |some b=>
    rw[ha]at e1;rw[hb]at e2;cases e1;cases e2;have:=c.1.link i a b ha hb;rw[zEv h0 (kH b (Nt hb))]at this;exact this
 ·rw[Nh];have e:((λp:Nat×Nat=>p.1)∘λp:Nat×Nat=>((S++[k]).getD p.1 0,p.2))=(λi=>(S++[k]).getD i 0)∘λp:Nat×Nat=>p.1:=rfl;rw[e,<-Nh,List.Nodup,Vb];refine List.Pairwise.imp_of_mem (λ{a b} ha hb hab e=>?_) c.1.nd;obtain⟨a',ha',rfl⟩:=List.mem_map.mp ha;obtain⟨b',hb',rfl⟩:=List.mem_map.mp hb;have h1:=kH a' ha';have h2:=kH b' hb';have l1:a'.1<(S++[k]).length:=by simp;omega
  have l2:b'.1<(S++[k]).length:=by simp;omega
  rw[Lp,Lp,yk l1,yk l2]at e;exact hab ((List.getElem?_inj l1 ndA).mp (by rw[yk l1,yk l2];exact congrArg some e))
variable {i:Nat}{t:yt}{J:M.Loc}{O:Mem}{nx:M.Loc->Mem->Prop}{rt:Wr}{ex:yt->Wq->Mem->Prop}
def zSv{F:FX}(h:WA G J O λds O1=>WXr F ds O1 (λd O'=>nx (J.set i (some (.tup [.str t,d]))) O') ex):WXs (zMr i t F G) J O nx rt ex:=by
 obtain⟨ds,O1,e1,⟨d,O',e2,k⟩|⟨c,fs,O',e2,k⟩⟩:=h
 ·exact⟨.next _ O',by simp[e1,e2],k⟩
 ·exact⟨.exc c fs O',by simp[e1,e2],k⟩
variable {O':Mem}{n m dl:Nat}{Q:Wr}
def zer(s:S55 O n m R ts hG)(K:tX hG S)(h30:S.length<30)(hk:k<10^60)
 (qt:∀h,hG.lookup k=some h->Q (.tup [.str "twice",.non]) O)
 (qf:∀(V:Qf)(l:Nat)(O':Mem),hG.lookup k=none->V.Pairwise (· < ·)->k∈V->zux R ts hG S k V->zzz R ts hG S k V->tm O O'->O'[l]?=some (.lst (nat V))->Q (.tup [.str "full",.loc l]) O')
 (q:∀(row:Qe) (lr:Nat) (O':Mem),hG.lookup k=none->Can R ts hG S k row->Few R ts hG S k row->KB [m] O O'->O.length<=lr->O'[lr]?=some (.lst ((z5k (S++[k]) row).map pD))->S55 O' n m R ts (zrd hG (z5k (S++[k]) row))->Q (.tup [.str "put",.loc lr]) O'):WF zpd [.loc n,.int (k:Nat)] O Q:=by
 refine zLb rfl ?_;show WS zFe [some (.loc n),some (.int (k:Nat)),none,none] O _ _ _ _;unfold zFe;refine zw (z5 (zbg (ze (w_c (ze (w_c (zt ?_)))))));refine zw (zmz (zSv (znd (zd rfl ⟨n,_,rfl,s.sh.at_,zWu _ m,ze (zd rfl (zt (zSy s.rl s.sh K (s.key K) hk (λh e=>?_) (λV l O2 h0 pV hV hT k2 g2 e2=>?_) λrow lr O2 h0 _ c cf k2 g2 e2 s2=>?_)))⟩))))
 ·exact zPv (by decide +kernel) (z5 (zbg (ze (w_c (ze (w_c (zt (zEb (zd rfl (qt h e))))))))))
 ·refine zgw (by decide +kernel) (z7A (by decide +kernel) (z5 (zbg (ze (w_c (ze (zVz (zd rfl ⟨_,_,D.loc l,rfl,zr,by rw[Na,beq_self_eq_true],zt (zEb (zd rfl ?_))⟩))))))));rcases hT with ⟨hT,_⟩|⟨_,hT,hr⟩
  ·omega
  ·exact qf V l _ h0 pV hV hT hr k2.to (tm.app _ _ e2)
 ·refine zEb (zd rfl (q row lr O2 h0 c cf k2 g2 e2 ⟨s.rl,s2,zur s.rs s.sh.nd K h0 c,λx hx=>?_⟩));rcases(zuh K c.1).mp hx with hx|rfl
  ·exact s.key K x hx
  ·exact hk
def zst(x:Nat):((zPc (dkN hG) ((x:Nat):Int)).getD .non)=onD (hG.lookup x):=by
 rw[z8b];cases hG.lookup x<;>rfl
def zZq(gG:Qe)(i:Nat):Qj:=match i with
 |0=>none
 |i+1=>(gG[i]?).map (·.2)
def zWo{lr:Nat}{gG:Qe}(h:Rl R ts)(nd:(hG.map (·.1)).Nodup)(hf:hG.length<=100)(hd:O[dl]?=some (.dct (dkN hG)))(h0:hG.lookup k=none)(g:RowG R ts hG k gG)(hl:gG.length<=100)(kI:1<=rmI R hG (gG.getD (gG.length-1) (0,0)).2)(er:O[lr]?=some (.lst (gG.map pD)))
 (q:∀(d':Nat)(O':Mem),tm O O'->O.length<=d'->O'[d']?=some (.dct (dkN (zrd hG gG)))->Q (.loc d') O'):WF zQc [rlN R ts,.loc dl,.int (k:Nat),.loc lr] O Q:=by
 obtain⟨h1,r1,e1⟩:=g.first
 have kW:0<gG.length:=by rw[e1];simp
 have gI:=zF hd;have hlr:=zF er;refine zLb rfl ?_;show WS zGd [some (rlN R ts),some (.loc dl),some (.int (k:Nat)),some (.loc lr),none,none,none,none,none,none] O _ _ _ _;unfold zGd;refine zw (z5 (zu (ze (zd rfl (zt (zzw (zZ hd) ?_))))));have k1:tm O (O++[tx.dct (dkN hG)]):=tm.app;have f1:(O++[tx.dct (dkN hG)])[O.length]?=some (.dct (dkN hG)):=zr;have g1:(O++[tx.dct (dkN hG)]).length=O.length+1:=by simp
 generalize O++[tx.dct (dkN hG)]=O1 at k1 f1 g1;refine zw (zEf (zSe (z8g (zG (zu (ze (zd rfl (ze (w_c (zt (zOv (k1 _ _ er) ⟨_,rfl,λ_=>?_,λhb=>(by cases hb)⟩)))))))))));refine zG (zo (zd rfl (z1f (zt (znz (zHw (tm.app _ _ (k1 _ _ er))) (z0h (α:=Nat) [] zr (by decide)) ⟨_,rfl,λhb=>?_,λ_=>zfb ?_⟩)))))
 ·rw[e1]at hb;exact absurd hb (by simp[Yn,xL])
 refine zw (z5 (z1f (zt ?_)));refine zw (z5 (w_c ?_));have k2:tm O1 ((O1++[tx.lst []])++[tx.lst []]):=tm.app.to;have f2:((O1++[tx.lst []])++[tx.lst []])[(O1++[tx.lst []]).length]?=some (.lst (nat [])):=zr;have g2:(O1++[tx.lst []]).length=O.length+2:=by simp[g1]
 generalize (O1++[tx.lst []]).length=kl at f2 g2 ⊢;generalize (O1++[tx.lst []])++[tx.lst []]=O2 at k2 f2 ⊢;have k02:=k1.trans k2;refine zw (z0f (zFd (zd rfl (.inr (.inr ⟨_,_,rfl,k02 _ _ er,?_⟩)))));refine z7b (λi J O'=>∃x7 x8 x9:Wn,J=[some (rlN R ts),some (.loc dl),some (.int (k:Nat)),some (.loc lr),some (.loc O.length),some (.loc kl),some (onD (zZq gG i)),x7,x8,x9]/\tm O O'/\O'[O.length]?=some (.dct (dkN (zrd hG (gG.take i))))/\O'[kl]?=some (.lst (nat ((gG.take i).map (·.1))))) ⟨_,_,_,rfl,k02,k2 _ _ f1,f2⟩ (λ_ _ _ ⟨_,_,_,_,kp,_⟩=>zdb er kp) ?_ ?_
 ·rintro i z J O3 hz ⟨x7,x8,x9,rfl,k3,e3,e4⟩;rw[yi]at hz
  cases hp:gG[i]? with
  |none=>rw[hp]at hz;cases hz
  |some p=>
   rw[hp]at hz;cases hz;have hm:=Nt hp;obtain⟨m1,m2⟩:=g.mem p hm;have hi:=(List.getElem?_eq_some_iff.mp hp).1;have ht:gG.take (i+1)=gG.take i++[p]:=by rw[Vf,hp];rfl
   have kO:p.1∉(gG.take i).map (·.1):=λhx=>by
    have nd1:=List.Nodup.sublist ((Vi (i+1) gG).map (·.1)) g.nd;rw[ht,Nd,Nx]at nd1;exact nd1.2.2 _ hx p.1 (by simp) rfl
   have kQ:hG.lookup p.1=zZq gG i:=by
    cases i with
    |zero=>
     rw[e1]at hp;cases hp;exact h0
    |succ i=>
     obtain⟨p',hp'⟩:∃p',gG[i]?=some p':=⟨_,yk (by omega)⟩
     rw[g.link i p' p hp' hp];show _=(gG[i]?).map (·.2);rw[hp'];rfl
   refine zsd ?_;unfold zmg;refine zw (zEf (zSe (z8g (zG (zu (ze (zd rfl (ze (w_c (zt (zMy ⟨_,rfl,λ_=>?_,λhb=>(by cases hb)⟩)))))))))));refine zSe (zG (zo (zu (ze (zd rfl (zt (zMe rfl (w_c (ztt ⟨_,rfl,λ_=>?_,λhb=>(by cases hb)⟩)))))))));refine zSe (zG (zu (ze (zo (zd rfl (w_c (zmc (x:=pD p) rfl (show atI [D.int (p.1:Nat),D.int (p.2:Nat)] 1=some (.int (p.2:Nat)) from rfl) (ze (w_c (zt (zPs ⟨_,rfl,λ_=>?_,λhb=>(by cases hb)⟩)))))))))));refine zG (zo (zo (zd rfl (w_c (zmc (x:=pD p) rfl (show atI [D.int (p.1:Nat),D.int (p.2:Nat)] 0=some (.int (p.1:Nat)) from rfl) (zd rfl (zgy (zB e4) ⟨_,rfl,λhb=>?_,λ_=>zfb ?_⟩)))))))
   ·exact absurd (of_decide_eq_true hb) kO
   refine zw (zqh (zd rfl (zbl (z0d (zsd (z0d (zsd (zzk ?_))))))));refine zw (zEf (zSe (zG (zo (zd rfl (zu (ze (zd rfl (ze (zd rfl (zt (ztk h λl O4 k4 g4 e5=>zYh (zB e5) ⟨_,rfl,λ_=>?_,λhb=>?_⟩))))))))))))
   ·have d4:=k4 _ _ (k3 _ _ hd);refine zSe (zG (zo (z2m (zd rfl ⟨dl,_,rfl,d4,ze (zd rfl (zt (z5p (zZ d4) ?_)))⟩))));rw[zst];refine zd rfl (z8y (α:=Qj) (hG.lookup p.1) (zZq gG i) ⟨_,rfl,λ_=>?_,λhb=>?_⟩)
    ·refine zG (zo (z2m (zd rfl ⟨dl,_,rfl,d4,ze (zd rfl (zt (z5p (zZ d4) ?_)))⟩)));rw[zst];refine zd rfl (zVu (α:=Qj) (hG.lookup p.1) (some p.2) ⟨_,rfl,λhb=>?_,λ_=>zfb ?_⟩)
     ·exact absurd (of_decide_eq_true hb) m2
     ·have e4':=k4 _ _ e4;refine zw (z6i (zdk (zd rfl ⟨_,_,rfl,e4',ze (zd rfl (zt (zrj e4' ?_ ?_)))⟩)))
      ·rw[Lv,Lv,Lz];omega
      ·have e3':(O4.set kl (.lst (nat ((gG.take i).map (·.1))++[D.int (p.1:Nat)])))[O.length]?=some (.dct (dkN (zrd hG (gG.take i)))):=z7 (k4 _ _ e3) (by omega)
       have e5':(O4.set kl (.lst (nat ((gG.take i).map (·.1))++[D.int (p.1:Nat)])))[kl]?=some (.lst (nat ((gG.take (i+1)).map (·.1)))):=by
        rw[zY e4',ht,Nd,zHc];rfl
       have k5:tm O (O4.set kl (.lst (nat ((gG.take i).map (·.1))++[D.int (p.1:Nat)]))):=KB.keep ((KB.of_keep (L:=[]) (k3.trans k4)).set (.inr (by omega)));generalize O4.set kl (.lst (nat ((gG.take i).map (·.1))++[D.int (p.1:Nat)]))=O5 at e3' e5' k5;refine zw (zqh (zd rfl (zJn (zd rfl (zd rfl ⟨_,_,_,rfl,rfl,e3',?_,?_⟩)))))
       ·rw[z0p];have a1:=zYt (gG.take i) hG;have a2:=(Vi i gG).length_le;omega
       ·refine z5 (zd rfl ⟨some (pD p),some (.int (p.1:Nat)),some (.int (p.2:Nat)),?_,KB.keep ((KB.of_keep (L:=[]) k5).set (.inr (yh _))),?_,z7 e5' (by omega)⟩)
        ·have:zZq gG (i+1)=some p.2:=by show(gG[i]?).map (·.2)=_;rw[hp];rfl
         rw[this];rfl
        ·rw[zY e3',z9l,ht,zUj]
    ·rw[decide_eq_true kQ]at hb;cases hb
   ·rw[decide_eq_true m1]at hb;cases hb
 ·rintro J O3 ⟨x7,x8,x9,rfl,k3,e3,e4⟩;rw[Lv,Vh]at e3 e4
  have hlastE:zZq gG (gG.map pD).length=some (gG.getD (gG.length-1) (0,0)).2:=by
   rw[Lv]
   cases hz:gG.length with
   |zero=>omega
   |succ j=>
    show(gG[j]?).map (·.2)=_;rw[Lp];have:j<gG.length:=by omega
    simp[yk this]
  have gE:(gG.getD (gG.length-1) (0,0)).2<R.length:=by
   have hm:gG.getD (gG.length-1) (0,0)∈gG:=by
    rw[Lp,yk (by omega)];exact Lq _
   exact zZy h (g.mem _ hm).1
  have h00:atI (nat (gG.map (·.1))) 0=some (.int (k:Nat)):=zXb (xs:=nat (gG.map (·.1))) (j:=0) (by rw[e1];rfl);refine zw (zEf (zSe (zG (zo (zo (zd rfl (w_c (zmc (zB e4) h00 (zd rfl (ztt ⟨_,rfl,λ_=>?_,λhb=>?_⟩))))))))))
  ·refine zG (zo (zBp (h:=(gG.getD (gG.length-1) (0,0)).2) rfl rfl (by show some (some (onD (zZq gG (gG.map pD).length)))=_;rw[hlastE]) gE hf nd (k3 _ _ hd) λO4 k4=>w_c (zJi ⟨_,rfl,λhb=>?_,λ_=>zfb ?_⟩)))
   ·have:=of_decide_eq_true hb;omega
   ·exact zEb (zd rfl (q _ _ (k3.trans k4) (yh _) (k4 _ _ e3)))
  ·simp at hb
variable {R':Qf}{ts':Qe}
def zqr(row:Qe):∀hG:Qe,(∀p∈row,p.1∈hG.map (·.1))->(zrd hG row).map (·.1)=hG.map (·.1):=by
 induction row with
 |nil=>exact λ_ _=>rfl
 |cons p row ih=>
  intro hG h;have e:(zfj hG p.1 p.2).map (·.1)=hG.map (·.1):=by rw[z7j,if_pos (h p (by simp))]
  show(zrd (zfj hG p.1 p.2) row).map (·.1)=_;rw[ih _ (λq hq=>by rw[e];exact h q (by simp[hq])),e]
def zrn(h':Rl R' ts')(s:S55 O n m R ts hG)(K:tX hG S)
 (qf:∀(O':Mem),tm O O'->Q (.bl false) O')
 (q:∀(hG':Qe) (O':Mem),S55 O' n m R' ts' hG'->hG'.map (·.1)=hG.map (·.1)->KB [n,m] O O'->Q (.bl true) O'):WF zrc [.loc n,rlN R' ts'] O Q:=by
 refine zLb rfl ?_;show WS z9c [some (.loc n),some (rlN R' ts'),none] O _ _ _ _;unfold z9c;refine zw (z5 (w_c ?_));refine zw (zmz (zFw (znd (zd rfl ⟨n,_,rfl,s.sh.at_,zPq _ m,ze (zd rfl (zt (zdv h' s.sh K (s.key K) (λT l O3 sb hc hs k3 g3 e3=>?_) λhs O3 hl' rt k3 s3=>?_)))⟩))))
 ·exact zPv (by decide +kernel) (z5 (w_c (zEb (zd rfl (qf O3 k3)))))
 ·obtain⟨rs',pm⟩:=zBo s.sh.nd K hl' rt;refine zEb (zd rfl (q _ O3 ⟨h',s3,rs',λx hx=>s.key K x (pm.mem_iff.mpr hx)⟩ (zqr _ _ λp hp=>?_) k3));exact K.pm.mem_iff.mp (Va hp).1
end
structure T50(ns:Qg)(O:Mem)(pl B n m dl N:Nat)(R:Qf)(ts hG:Qe):Prop where
 s:S55 O n m R ts hG
 p:Th ns O pl B
 d:O[dl]?=some (.dct (dkN hG))
 dm:dl≠m
 l:hG.length<=N
section
variable {ns:Qg}{O O':Mem}{pl B B' n m dl N:Nat}{R:Qf}{ts hG:Qe}{x0 x5 x6 x7 x8 x9 x10 x11 x12:Wn}{nx:M.Loc->Mem->Prop}{rt:Wr}{bk ct:M.Loc->Mem->Prop}
def T50.ne(t:T50 ns O pl B n m dl N R ts hG):pl≠n/\pl≠m/\pl≠dl:=by
 obtain⟨b,j,r,hj,e⟩:=t.p;refine⟨?_,?_,?_⟩
 ·rintro rfl;rw[t.s.sh.at_]at e;cases e
 ·rintro rfl;rw[t.s.sh.dc]at e;cases e
 ·rintro rfl;rw[t.d]at e;cases e
def T50.nd(t:T50 ns O pl B n m dl N R ts hG):n≠dl:=t.s.sh.nd_of (zZ t.d)
def T50.take(t:T50 ns O pl B n m dl N R ts hG)(k:KB [pl] O O')(p:Th ns O' pl B'):T50 ns O' pl B' n m dl N R ts hG:=by
 obtain⟨h1,h2,h3⟩:=t.ne;exact⟨⟨t.s.rl,t.s.sh.kb k (Se h1) (Se h2),t.s.rs,t.s.bd⟩,p,k.at_ _ _ (Se h3) t.d,t.dm,t.l⟩
def T50.keep(t:T50 ns O pl B n m dl N R ts hG)(k:tm O O'):T50 ns O' pl B n m dl N R ts hG:=⟨t.s.keep k,t.p.keep k,k _ _ t.d,t.dm,t.l⟩
def T50.up{N':Nat}(t:T50 ns O pl B n m dl N R ts hG)(h:B<=B')(hN:N<=N'):T50 ns O pl B' n m dl N' R ts hG:=⟨t.s,t.p.up h,t.d,t.dm,yG t.l hN⟩
def znp:FS:=(sIf (zMi (zM (zjm 4 (zx zuc (zh (zm 3) (zh (zm 2) (zh (zm 4) zI))))))) (zYb (fC (.bl false))) zDb)
def zgs(t:T50 ns O pl B n m dl N R ts hG)(q:∀O',T50 ns O' pl B n m dl N R ts hG->nx [x0,some (.loc pl),some (rlN R ts),some (.loc n),some (.loc dl),x5,x6,x7,x8,x9,x10,x11,x12] O'):WS znp [x0,some (.loc pl),some (rlN R ts),some (.loc n),some (.loc dl),x5,x6,x7,x8,x9,x10,x11,x12] O nx rt bk ct:=by
 unfold znp;refine zEf (z8g (zG (zMv rfl t.d (zu (ze (zd rfl (ze (zd rfl (ze (zd rfl (zt (zIt t.s.rl t.s.sh t.s.rs (List.Perm.refl _) (zZ t.d) t.dm λO1 k1 e1=>?_))))))))))));rw[zFs e1];exact⟨_,rfl,λhb=>(by cases hb),λ_=>zfb (q _ (t.keep (zLn k1 t.d e1)))⟩
def zut{V V':Qf}(h1:V.Pairwise (· < ·))(h2:V'.Pairwise (· < ·))(h:∀x,x∈V↔x∈V'):V=V':=by
 have p:V.Perm V':=(xB (h1.imp λh=>yu h) (h2.imp λh=>yu h)).mpr h;exact p.eq_of_pairwise (λa b _ _ h3 h4=>by omega) h1 h2
def zju:FS:=(zX (zFb 7 (zx z6e (zh (zm 1) (zh (zx zag (zh (zm 4) zI)) zI)))) (zX (zPm (zx ztc (zh (zm 2) (zh (zm 4) (zh (zm 7) zI)))) (gT 2 (zmb (gN 8) (zmb (gN 9) zqf)))) (zX (zPm (zx zpd (zh (zm 3) (zh (zm 7) zI))) (gT 2 (zmb (gN 10) (zmb (gN 11) zqf)))) (zX (sIf (zM (zD z9k (zm 7) (zm 4))) (sIf (zM (zD gNe (zm 10) (fC (.str "twice")))) (zYb (fC (.bl false))) zDb) (sIf (zM (zD gIs (zm 9) (fC .non))) (sIf (zkj (zM (zD gNe (zm 10) (fC (.str "full")))) (zMi (zM (zx zkb (zh (zm 11) (zh (zm 8) zI)))))) (zYb (fC (.bl false))) zDb) (zX (zFb 12 (zx zQc (zh (zm 2) (zh (zm 4) (zh (zm 7) (zh (zm 11) zI)))))) (zX (sIf (zkj (zM (zD gNe (zm 10) (fC (.str "put")))) (zkj (zM (zD gIs (zm 12) (fC .non))) (zM (zD gNe (zx z8i (zh (zm 11) zI)) (zm 9))))) (zYb (fC (.bl false))) zDb) (zX (zFb 4 (zm 12)) (zhj (zZn zSl (zm 11)))))))) znp))))
def ztp(t:T50 ns O pl B n m dl N R ts hG)(hB:B<=10000)(hN:N<29)
 (q:∀(y7 y8 y9 y10 y11 y12:Wn)(dl':Nat)(hG':Qe) (O':Mem),T50 ns O' pl (B+2) n m dl' (N+1) R ts hG'->nx [x0,some (.loc pl),some (rlN R ts),some (.loc n),some (.loc dl'),x5,x6,y7,y8,y9,y10,y11,y12] O'):WS zju [x0,some (.loc pl),some (rlN R ts),some (.loc n),some (.loc dl),x5,x6,x7,x8,x9,x10,x11,x12] O nx rt bk ct:=by
 obtain⟨S,K⟩:=tX.ex t.s.sh.nd;have hlN:=t.l;have hl:=K.len;unfold zju;refine zw (z5 (zu (ze (zd rfl (ze (zu (ze (zd rfl (zt (zpm (zZ t.d) K.pm K.pw (by omega) ?_))))))))));have t1:=t.keep (O':=O++[tx.lst (nat S)]) tm.app;have e1:(O++[tx.lst (nat S)])[O.length]?=some (.lst (nat S)):=zr;have ha:O.length≠pl:=by have:=t.p.lt;omega
 generalize O++[tx.lst (nat S)]=O1 at t1 e1 ⊢;generalize O.length=a at e1 ha ⊢;refine zt (z6t t1.p (by omega) e1 ha (by omega) (t1.s.key K) λk O2 hk k2 p2=>?_);have t2:=t1.take k2 p2;refine zw (zqh (zu (ze (zd rfl (ze (zd rfl (ze (zd rfl (zt (zuq t2.s.rl t2.s.sh.nd K (by omega) t2.d λV l fw O3 k3 e3 pV lV ho=>zbl (z0d (zsd (z0d (zsd (zzk ?_)))))))))))))));have t3:=t2.keep k3;have kQ:∀{dl':Nat} {hG':Qe} {O':Mem} {y7 y8 y9 y10 y11 y12:Wn},T50 ns O' pl (B+2) n m dl' (N+1) R ts hG'->WS znp [x0,some (.loc pl),some (rlN R ts),some (.loc n),some (.loc dl'),x5,x6,y7,y8,y9,y10,y11,y12] O' nx rt bk ct:=λt'=>zgs t' λO2 t2=>q _ _ _ _ _ _ _ _ _ t2;refine zw (zqh (zu (ze (zd rfl (ze (zd rfl (zt (zer t3.s K (by omega) hk (λh e=>?_) (λV' l' O4 h0 pV' hkV hT hr k4 e4=>?_) λrow lr O4 h0 c cf k4 g4 e4 s4=>?_))))))))
 ·refine zbl (z0d (zsd (z0d (zsd (zzk ?_)))));refine zw (zEf (zG (zo (zd rfl (zd rfl (zho (zZ t3.d) ⟨_,rfl,λ_=>?_,λhb=>?_⟩))))))
  ·refine zEf (zG (zo (zd rfl (w_c (zcv (p:=.str "twice") (zhg (by decide +kernel)) (zhg (by decide +kernel)) ⟨_,rfl,λhb=>(by cases hb),λ_=>zfb ?_⟩)))));exact kQ (t3.up (yh _) (by omega))
  ·rw[z8b,e]at hb;cases hb
 ·obtain⟨Fd,o,hv⟩:=ho h0;obtain⟨hfw,hV'⟩:=full50 t3.s.sh.nd K hT hr hkV o;have hVV:V'=V:=zut pV' pV λx=>(hV' x).trans (hv x).symm;subst hfw;rw[hVV]at e4;refine zbl (z0d (zsd (z0d (zsd (zzk ?_)))));have t4:=t3.keep k4;refine zw (zEf (zG (zo (zd rfl (zd rfl (zho (zZ t4.d) ⟨_,rfl,λhb=>?_,λ_=>?_⟩))))))
  ·rw[z8b,h0]at hb;cases hb
  ·refine zEf (zG (zo (zd rfl (w_c (zvw rfl ⟨_,rfl,λ_=>?_,λhb=>(by cases hb)⟩)))));refine zEf (zSe (zG (zo (zd rfl (w_c (zcv (p:=.str "full") (zhg (by decide +kernel)) (zhg (by decide +kernel)) ⟨_,rfl,λ_=>?_,λhb=>(by cases hb)⟩))))));refine z8g (zG (zu (ze (zd rfl (ze (zd rfl (zt (zBi (by omega) e4 (k4 _ _ e3) λO5 k5=>⟨_,rfl,λhb=>(by cases hb),λ_=>zfb ?_⟩))))))));exact kQ ((t4.keep k5).up (yh _) (by omega))
 ·obtain⟨Fd,o,hv⟩:=ho h0;have hfw:=put50 t3.s.sh.nd K c cf o;subst hfw;have g:=zvz K h0 c;have hcr:=c.2;rw[z8p t3.s.sh.nd K]at hcr;obtain⟨kW,_⟩:=c.1.walk.last
  have kX:row.length<=S.length+1:=by
   have h1:=zjc (l:=row.map (·.1)) (m:=yB (S.length+1)) c.1.nd λx hx=>by
    obtain⟨p,hp,rfl⟩:=List.mem_map.mp hx;have:=(c.1.mem p hp).1;rw[Lv,Lr,Ly]at this;exact List.mem_range.mpr this
   rw[Lv,Lw]at h1;exact h1
  have elast:((z5k (S++[k]) row).getD ((z5k (S++[k]) row).length-1) (0,0)).2=(row.getD (row.length-1) (0,0)).2:=by
   rw[Lv,Lp,yi,Lp,yk (by omega)];rfl
  refine zbl (z0d (zsd (z0d (zsd (zzk ?_)))));have d4:O4[dl]?=some (.dct (dkN hG)):=k4.at_ _ _ (by simp;exact t.dm) t3.d;have hlrm:lr≠m:=by have:=zF t3.s.sh.dc;omega
  refine zw (zEf (zG (zo (zd rfl (zd rfl (zho (zZ d4) ⟨_,rfl,λhb=>?_,λ_=>?_⟩))))))
  ·rw[z8b,h0]at hb;cases hb
  ·refine zEf (zG (zo (zd rfl (w_c (zvw (zxj _) ⟨_,rfl,λhb=>(by cases hb),λ_=>?_⟩)))));refine zw (z5 (zu (ze (zd rfl (ze (zd rfl (ze (zd rfl (ze (zd rfl (zt (zWo t.s.rl t3.s.sh.nd (by omega) d4 h0 g (by rw[Lv];omega) (by rw[elast];unfold rmI;omega) e4 λd' O5 k5 g5 e5=>?_))))))))))));have e4':=k5 _ _ e4;refine zw (zEf (zSe (zG (zo (zd rfl (w_c (zcv (p:=.str "put") (zhg (by decide +kernel)) (zhg (by decide +kernel)) ⟨_,rfl,λ_=>?_,λhb=>(by cases hb)⟩)))))));refine zSe (zG (zo (zd rfl (w_c ⟨_,_,rfl,_,rfl,λ_=>?_,λhb=>(by cases hb)⟩))));refine zG (zo (zu (ze (zd rfl (zt (zMe (zB e4') (zd rfl (ztt ⟨_,rfl,λhb=>?_,λ_=>zfb ?_⟩))))))))
   ·rw[Lv,Lv]at hb;simp at hb
   ·refine zw (z5 (zd rfl ?_));refine z6i (z3w (zd rfl ⟨lr,_,rfl,e4',zXw e4' ?_⟩));have k6:KB [lr] O5 (O5.set lr (.lst [])):=KB.refl.set (.inl (by simp));have hn5:=zF s4.sh.at_;have hm5:=zF s4.sh.dc;have s5:=s4.keep k5;have hlr3:O3.length<=lr:=g4;have gH:n≠lr:=by have:=zF t3.s.sh.at_;omega
    have kK:pl≠lr:=by have:=t3.p.lt;omega
    have hd':d'≠lr:=by have:=zF e4;omega
    refine kQ ⟨⟨t.s.rl,s5.sh.kb k6 (by simp;exact gH) (by simp;exact yR hlrm),s5.rs,s5.bd⟩,((t3.p.kb k4 (by simp;exact t3.ne.2.1)).keep k5).kb k6 (by simp;exact kK),z7 e5 (yR hd'),by omega,?_⟩
    have:=z7l (hG:=hG) (row:=z5k (S++[k]) row) (A:=S++[k]) t3.s.sh.nd (λx hx=>Nk _ (K.pm.mem_iff.mpr hx)) λx hx=>by
     obtain⟨p,hp,rfl⟩:=List.mem_map.mp hx;exact zdm (λp hp=>by have:=(c.1.mem p hp).1;rw[Lv]at this;exact this) p hp
    rw[Lr,Ly]at this;omega
def zvs(t:T50 ns O pl B n m dl N R ts hG)(hB:B<=9000)(hN:N<29)
 (q:∀(y6 y7 y8 y9 y10 y11 y12:Wn)(dl':Nat)(R':Qf)(ts' hG':Qe) (O':Mem),T50 ns O' pl (B+40) n m dl' (N+1) R' ts' hG'->nx [x0,some (.loc pl),some (rlN R' ts'),some (.loc n),some (.loc dl'),x5,y6,y7,y8,y9,y10,y11,y12] O'):WS zyo [x0,some (.loc pl),some (rlN R ts),some (.loc n),some (.loc dl),x5,x6,x7,x8,x9,x10,x11,x12] O nx rt bk ct:=by
 obtain⟨S,K⟩:=tX.ex t.s.sh.nd;have hlN:=t.l;have hl:=K.len
 have main:∀{R':Qf} {ts':Qe} {O1:Mem},Rl R' ts'->T50 ns O1 pl (B+31) n m dl N R ts hG->WS (zX (sIf (z6l (zM (zD gNe (zm 6) (zm 2))) (zM (zx zrc (zh (zm 3) (zh (zm 6) zI))))) (zX (zFb 2 (zm 6)) (zFb 4 (zx zUl (zh (fLC 1 [3] (zRi (zm 4)) (gN 0) z3j zNo) zI)))) zDb) zju) [x0,some (.loc pl),some (rlN R ts),some (.loc n),some (.loc dl),x5,some (rlN R' ts'),x7,x8,x9,x10,x11,x12] O1 nx rt bk ct:=λ{R' ts' O1} h' t1=>by
  have skip:∀{O2:Mem},tm O1 O2->WS zju [x0,some (.loc pl),some (rlN R ts),some (.loc n),some (.loc dl),x5,some (rlN R' ts'),x7,x8,x9,x10,x11,x12] O2 nx rt bk ct:=λk2=>ztp (t1.keep k2) (by omega) hN λy7 y8 y9 y10 y11 y12 dl' hG' O' t'=>q _ _ _ _ _ _ _ _ _ _ _ _ (t'.up (by omega) (yh _));refine zw (zEf (zpl (zG (zo (zd rfl (zd rfl (z3z (zMp 4 R' ts') (zMp 4 R ts) ⟨_,rfl,λ_=>?_,λ_=>⟨λhb=>(by cases hb),λ_=>zfb (skip .refl)⟩⟩)))))));refine zG (zu (ze (zd rfl (ze (zd rfl (zt (zrn h' t1.s K (λO2 k2=>⟨_,rfl,λhb=>(by cases hb),λ_=>zfb (skip k2)⟩) λhG' O2 s2 hks k2=>⟨_,rfl,λ_=>?_,λhb=>(by cases hb)⟩)))))));have d2:O2[dl]?=some (.dct (dkN hG)):=k2.at_ _ _ (by simp;exact⟨yR t1.nd,t1.dm⟩) t1.d;have gA:hG'.length=hG.length:=by have:=congrArg List.length hks;simpa using this
  refine zw (z5 (zd rfl ?_));refine z5 (zu (ze (zcn (zzo (zd rfl ⟨dl,_,rfl,d2,zfc (by unfold z2f;rw[Lv,z0p];omega),?_⟩)))));have k3:KB [dl] O2 (O2.set dl (.dcf (dkN hG))):=KB.refl.set (.inl (by simp));have s3:Sh (O2.set dl (.dcf (dkN hG))) n m (rlN R' ts') hG':=s2.sh.kb k3 (by simp;exact t1.nd) (by simp;exact yR t1.dm);have p3:Th ns (O2.set dl (.dcf (dkN hG))) pl (B+31):=(t1.p.kb k2 (by simp;exact⟨t1.ne.1,t1.ne.2.1⟩)).kb k3 (by simp;exact t1.ne.2.2);generalize O2.set dl (.dcf (dkN hG))=O3 at k3 s3 p3;rw[zsj];refine zgg (λp:Nat×Nat=>D.int (p.1:Nat)) hG (λp=>D.tup [.int (p.1:Nat),.int ((hG'.lookup p.1).getD 0:Nat)]) (λ_ _=>rfl) (λp hp O4 k4=>?_) (λO4 k4=>?_)
  ·have s4:=s3.keep k4;have hm:p.1∈hG'.map (·.1):=by rw[hks];exact List.mem_map.mpr ⟨p,hp,rfl⟩
   have hs:=zYo hm;refine zsd ?_;unfold zNo;refine zbg (ze (zd rfl (ze (zu (znd (zd rfl ⟨n,_,rfl,s4.at_,zZl _ m,ze (zd rfl (zt (zyp s4 ?_)))⟩))))))
   cases hv:hG'.lookup p.1 with
   |none=>rw[hv]at hs;cases hs
   |some v=>exact zt ⟨by rfl,k4,k4⟩
  ·have ei:(hG.map λp=>D.tup [.int (p.1:Nat),.int ((hG'.lookup p.1).getD 0:Nat)])=zVj (dkN hG'):=by
    have e1:hG'=(hG'.map (·.1)).map λx=>(x,(hG'.lookup x).getD 0):=by
     rw[Nh]
     conv=>lhs;rw[<-List.map_id hG']
     refine Nf λp hp=>?_;show p=(p.1,(hG'.lookup p.1).getD 0);rw[zAf s2.sh.nd p hp];rfl
    unfold zVj dkN
    conv=>rhs;rw[e1,hks]
    rw[Nh,Nh,Nh];rfl
   rw[ei];refine zt (zmx (dkN hG') zr (by rw[z0p];omega) ?_);rw[zkw s2.sh.nd];have k5:tm O3 ((O4++[tx.lst (zVj (dkN hG'))])++[tx.dct (dkN hG')]):=k4.to.to;have gJ:=zF s3.dc;have g5:O3.length<=(O4++[tx.lst (zVj (dkN hG'))]).length:=k4.to.len;refine ztp ⟨⟨h',s3.keep k5,s2.rs,s2.bd⟩,p3.keep k5,zr,by omega,by omega⟩ (by omega) hN λy7 y8 y9 y10 y11 y12 dl' kvs2 O' t'=>q _ _ _ _ _ _ _ _ _ _ _ _ (t'.up (by omega) (yh _))
 unfold zyo;refine zw (z5 (zd rfl ?_));refine zw (zEf (zG (zo (zu (ze (zd rfl (ze (w_c (zt (zvc (s:=6) t.p (by omega) (by decide) (by decide) λv O1 hv k1 p1=>w_c (zeh ⟨_,rfl,λ_=>?_,λ_=>zfb ?_⟩)))))))))))
 ·have t1:=t.take k1 p1;refine z5 (zu (ze (zd rfl (zt (zQj t1.p (by omega) λR' ts' O2 hr' k2 p2=>?_)))));exact main hr' ((t1.take k2 p2).up (by omega) (yh _))
 ·exact main t.s.rl ((t.take k1 p1).up (by omega) (yh _))
end
def zPt(ns:Qg)(_hn:ns.length<=63):∃O',zHq [.fz (ns.map .int)] []=some (.bl true,O'):=by
 have main:WF zHq [.fz (ns.map .int)] [] λd _=>d=.bl true:=by
  refine zLb rfl ?_;show WS zTu [some (.fz (ns.map .int)),none,none,none,none,none,none,none,none,none,none,none,none] [] _ _ _ _;unfold zTu;refine zw (z5 (zu (ze (zd rfl (zt (zMw λO1 k1 p1 _=>?_))))));generalize ([]:Mem).length=pl at p1;refine zw (z5 (zu (ze (zd rfl (zt (zQj p1 (by omega) λR ts O2 hr k2 p2=>?_))))));refine zw (z5 (z4w (ze (zd rfl (zt ⟨_,rfl,λn m O3 k3 _ _ _ hm s3=>?_⟩)))));refine zw (z5 (zcw ?_));have t4:T50 ns (O3++[tx.dct []]) pl (0+30) n m O3.length 0 R ts []:=⟨⟨hr,s3.keep tm.app,⟨by simp,by simp⟩,by simp⟩,(p2.keep k3).app,zr,by omega,by simp⟩
  generalize O3++[tx.dct []]=O4 at t4 ⊢;generalize O3.length=dl at t4 ⊢;refine zw (z0f (zMk (ze (zu (ze (zd rfl (ze (w_c (zt (zvc (s:=21) t4.p (by omega) (by decide) (by decide) λv O5 hv k5 p5=>zt ⟨_,rfl,by omega,by omega,?_⟩))))))))));rw[Yv];have t5:=t4.take k5 p5;refine z7b (λi J O=>∃(x5 x6 x7 x8 x9 x10 x11 x12:Wn)(dl:Nat)(R:Qf)(ts hG:Qe),J=[some (.fz (ns.map .int)),some (.loc pl),some (rlN R ts),some (.loc n),some (.loc dl),x5,x6,x7,x8,x9,x10,x11,x12]/\T50 ns O pl (31+40*i) n m dl i R ts hG) ⟨_,_,_,_,_,_,_,_,_,_,_,_,rfl,t5⟩ (λ_ _ _ _=>rfl) ?_ ?_
  ·rintro i x J O hx ⟨x5,x6,x7,x8,x9,x10,x11,x12,dl,R,ts,hG,rfl,t⟩;obtain⟨hi,rfl⟩:=zOj hx;refine zsd ?_;exact zvs t (by omega) (by omega) λy6 y7 y8 y9 y10 y11 y12 dl' R' ts' hG' O' t'=>⟨_,_,_,_,_,_,_,_,_,_,_,_,rfl,t'⟩
  ·rintro J O ⟨x5,x6,x7,x8,x9,x10,x11,x12,dl,R,ts,hG,rfl,t⟩;exact zEb (w_c rfl)
 obtain⟨d,O',e,rfl⟩:=main;exact⟨O',e⟩
end P
namespace P
open PySem PySem.Spec PyProof.Rows L2 M
set_option maxHeartbeats 4000000
def ln1{α:Type}:∀{us:List α},us.length=1->∃a0,us=[a0]
 |[a0],_=>⟨a0,rfl⟩
def fa1{K:yw}{mg:yt->Qi}{h:yT}{x p0:yt}{st:Yb}{f:yf}{fd:yV}(X:K.In h)(φ:h.Ns yp mg)(a:Ym K yp x=some (some (.ref f)))(u:Fun K x x st f fd)
 (b:∀(kV doc pm:Value)(an:Qw)(cdv ct a0:Value),bindArgs (W.fnOf x x (zyd st) (zdc st) (zp st) .none kV doc pm an cdv ct) ⟨[a0],[]⟩=pure [(p0,a0)]):FnAt K mg x st [p0] f fd :=
 ⟨u,xH X φ a,u.binds λkV doc pm an cdv ct us hl=>by obtain⟨a0,rfl⟩:=ln1 hl;exact b kV doc pm an cdv ct a0⟩
def ln2{α:Type}:∀{us:List α},us.length=2->∃a0 a1,us=[a0,a1]
 |[a0,a1],_=>⟨a0,a1,rfl⟩
def fa2{K:yw}{mg:yt->Qi}{h:yT}{x p0 p1:yt}{st:Yb}{f:yf}{fd:yV}(X:K.In h)(φ:h.Ns yp mg)(a:Ym K yp x=some (some (.ref f)))(u:Fun K x x st f fd)
 (b:∀(kV doc pm:Value)(an:Qw)(cdv ct a0 a1:Value),bindArgs (W.fnOf x x (zyd st) (zdc st) (zp st) .none kV doc pm an cdv ct) ⟨[a0,a1],[]⟩=pure [(p0,a0),(p1,a1)]):FnAt K mg x st [p0,p1] f fd :=
 ⟨u,xH X φ a,u.binds λkV doc pm an cdv ct us hl=>by obtain⟨a0,a1,rfl⟩:=ln2 hl;exact b kV doc pm an cdv ct a0 a1⟩
def ln3{α:Type}:∀{us:List α},us.length=3->∃a0 a1 a2,us=[a0,a1,a2]
 |[a0,a1,a2],_=>⟨a0,a1,a2,rfl⟩
def fa3{K:yw}{mg:yt->Qi}{h:yT}{x p0 p1 p2:yt}{st:Yb}{f:yf}{fd:yV}(X:K.In h)(φ:h.Ns yp mg)(a:Ym K yp x=some (some (.ref f)))(u:Fun K x x st f fd)
 (b:∀(kV doc pm:Value)(an:Qw)(cdv ct a0 a1 a2:Value),bindArgs (W.fnOf x x (zyd st) (zdc st) (zp st) .none kV doc pm an cdv ct) ⟨[a0,a1,a2],[]⟩=pure [(p0,a0),(p1,a1),(p2,a2)]):FnAt K mg x st [p0,p1,p2] f fd :=
 ⟨u,xH X φ a,u.binds λkV doc pm an cdv ct us hl=>by obtain⟨a0,a1,a2,rfl⟩:=ln3 hl;exact b kV doc pm an cdv ct a0 a1 a2⟩
def ln4{α:Type}:∀{us:List α},us.length=4->∃a0 a1 a2 a3,us=[a0,a1,a2,a3]
 |[a0,a1,a2,a3],_=>⟨a0,a1,a2,a3,rfl⟩
def fa4{K:yw}{mg:yt->Qi}{h:yT}{x p0 p1 p2 p3:yt}{st:Yb}{f:yf}{fd:yV}(X:K.In h)(φ:h.Ns yp mg)(a:Ym K yp x=some (some (.ref f)))(u:Fun K x x st f fd)
 (b:∀(kV doc pm:Value)(an:Qw)(cdv ct a0 a1 a2 a3:Value),bindArgs (W.fnOf x x (zyd st) (zdc st) (zp st) .none kV doc pm an cdv ct) ⟨[a0,a1,a2,a3],[]⟩=pure [(p0,a0),(p1,a1),(p2,a2),(p3,a3)]):FnAt K mg x st [p0,p1,p2,p3] f fd :=
 ⟨u,xH X φ a,u.binds λkV doc pm an cdv ct us hl=>by obtain⟨a0,a1,a2,a3,rfl⟩:=ln4 hl;exact b kV doc pm an cdv ct a0 a1 a2 a3⟩
def all_of{l:W.OpenLaw}{w:yI}{K:yw}{h:yT}{mg:yt->Qi}{fa:yf}(X:K.In h)(φ:h.Ns yp mg)(hfa:mg "law"=some (.ref fa))(e:Hd.obs K=Hd.good)
 : ∃fd:yV,(∀(s:yc)(v:Value),BindsTo s fd ⟨[v],[]⟩ [("_law_script",v)])/\∀base:yT,K.In base->base.Ns yp mg->Te l.prog w K mg base CX0 9 fa fd ["_law_script"] (spM K 1 zHq):=by
 have e_fn:=congrArg (·.1) e;have e_vv:=congrArg (·.2.1) e;have e_it:=congrArg (·.2.2.1) e;have e_bb:=congrArg (·.2.2.2.1) e;have e_ob:=congrArg (·.2.2.2.2.1) e;have e_ov:=congrArg (·.2.2.2.2.2.1) e;have e_cf:=congrArg (·.2.2.2.2.2.2.1) e;have e_ex:=congrArg (·.2.2.2.2.2.2.2) e;obtain⟨⟨_,_,a0,u0⟩,e_fn⟩:=fnc e_fn;have zKg:FnAt K mg "_law_pen" zCg z4c _ _:=fa1 X φ a0 u0 λ_ _ _ _ _ _ _=>rfl;obtain⟨⟨_,_,a1,u1⟩,e_fn⟩:=fnc e_fn;have zHe:FnAt K mg "_law_mixed" zIe zhc _ _:=fa2 X φ a1 u1 λ_ _ _ _ _ _ _ _=>rfl;obtain⟨⟨_,_,a2,u2⟩,e_fn⟩:=fnc e_fn;have zR:FnAt K mg "_law_take" z2c zyb _ _:=fa2 X φ a2 u2 λ_ _ _ _ _ _ _ _=>rfl;obtain⟨⟨_,_,a3,u3⟩,e_fn⟩:=fnc e_fn;have z1d:FnAt K mg "_law_rule" zof zKc _ _:=fa1 X φ a3 u3 λ_ _ _ _ _ _ _=>rfl;obtain⟨pn_Shelf,e_vv⟩:=yd e_vv;obtain⟨pg_Shelf,e_bb⟩:=yd e_bb;obtain⟨ph_Shelf,e_bb⟩:=yd e_bb;obtain⟨po_Shelf,e_bb⟩:=yd e_bb;obtain⟨ps0_Shelf,e_vv⟩:=yd e_vv;have cl_Shelf:Cls K 280:=⟨pg_Shelf,ph_Shelf,po_Shelf,ps0_Shelf⟩
 obtain⟨na,e_vv⟩:=yd e_vv;have tE:zKq K "Shelf" "nest_of":=λC h=>by rw[pn_Shelf]at h;cases h;exact⟨cl_Shelf,na⟩
 obtain⟨na,e_vv⟩:=yd e_vv;have tI:zKq K "Shelf" "kept_rule":=λC h=>by rw[pn_Shelf]at h;cases h;exact⟨cl_Shelf,na⟩
 obtain⟨ma,e_vv⟩:=yd e_vv;obtain⟨mb,e_bb⟩:=yd e_bb;obtain⟨_,_,_,_,_,_,_,_,_,ml,mc,mk⟩:=zxc (yd e_fn).1;replace e_fn:=(yd e_fn).2;have u4:=zue (st:=z0b) ml mc mk;obtain⟨mm,e_bb⟩:=yd e_bb;obtain⟨mq,e_bb⟩:=yd e_bb;have zzc:sO K mg "Shelf" z0b zgb _ _ _:=⟨pn_Shelf,xH X φ pn_Shelf,⟨mm,ma,mb,mq⟩,u4,(u4.binds (ps:=zgb) λ_ _ _ _ _ _ us hl=>by obtain⟨_,_,rfl⟩:=ln2 hl;rfl)⟩
 obtain⟨⟨_,_,a5,u5⟩,e_fn⟩:=fnc e_fn;have zMg:FnAt K mg "_law_key" zrg z3c _ _:=fa2 X φ a5 u5 λ_ _ _ _ _ _ _ _=>rfl;obtain⟨⟨_,_,a6,u6⟩,e_fn⟩:=fnc e_fn;have zxb:FnAt K mg "_law_homes" zEc zib _ _:=fa2 X φ a6 u6 λ_ _ _ _ _ _ _ _=>rfl;obtain⟨⟨_,_,a7,u7⟩,e_fn⟩:=fnc e_fn;have zrb:FnAt K mg "_law_room_left" z1b zcb _ _:=fa3 X φ a7 u7 λ_ _ _ _ _ _ _ _ _=>rfl;obtain⟨⟨_,_,a8,u8⟩,e_fn⟩:=fnc e_fn;have zad:FnAt K mg "_law_reached" z8c zMb _ _:=fa3 X φ a8 u8 λ_ _ _ _ _ _ _ _ _=>rfl;obtain⟨ma,e_vv⟩:=yd e_vv;obtain⟨mb,e_bb⟩:=yd e_bb;obtain⟨_,_,_,_,_,_,_,_,_,ml,mc,mk⟩:=zxc (yd e_fn).1;replace e_fn:=(yd e_fn).2;have u9:=zue (st:=zYc) ml mc mk;have zDc:MethAt K "Shelf" "has" "Shelf.has" zYc zHb _ _ _:=⟨pn_Shelf,cl_Shelf,⟨ma,mb,mk⟩,u9,(u9.binds (ps:=zHb) λ_ _ _ _ _ _ us hl=>by obtain⟨_,_,rfl⟩:=ln2 hl;rfl)⟩
 obtain⟨⟨_,_,a10,u10⟩,e_fn⟩:=fnc e_fn;have zBm:FnAt K mg "lying" zlm zLg _ _:=fa2 X φ a10 u10 λ_ _ _ _ _ _ _ _=>rfl;obtain⟨⟨_,_,a11,u11⟩,e_fn⟩:=fnc e_fn;have zGf:FnAt K mg "pushes_to" zDf zMc _ _:=fa3 X φ a11 u11 λ_ _ _ _ _ _ _ _ _=>rfl;obtain⟨⟨_,_,a12,u12⟩,e_fn⟩:=fnc e_fn;have Tp:FnAt K mg "left" zAl zKe _ _:=fa2 X φ a12 u12 λ_ _ _ _ _ _ _ _=>rfl;obtain⟨⟨_,_,a13,u13⟩,e_fn⟩:=fnc e_fn;have zCj:FnAt K mg "row_to" zqj z4e _ _:=fa2 X φ a13 u13 λ_ _ _ _ _ _ _ _=>rfl;obtain⟨⟨_,_,a14,u14⟩,e_fn⟩:=fnc e_fn;have zuf:FnAt K mg "put_in" zZh zmd _ _:=fa3 X φ a14 u14 λ_ _ _ _ _ _ _ _ _=>rfl;obtain⟨ma,e_vv⟩:=yd e_vv;obtain⟨mb,e_bb⟩:=yd e_bb;obtain⟨_,_,_,_,_,_,_,_,_,ml,mc,mk⟩:=zxc (yd e_fn).1;replace e_fn:=(yd e_fn).2;have u15:=zue (st:=zU) ml mc mk;have zA:MethAt K "Shelf" "all_there" "Shelf.all_there" zU zC _ _ _:=⟨pn_Shelf,cl_Shelf,⟨ma,mb,mk⟩,u15,(u15.binds (ps:=zC) λ_ _ _ _ _ _ us hl=>by obtain⟨_,rfl⟩:=ln1 hl;rfl)⟩
 obtain⟨⟨_,_,a16,u16⟩,e_fn⟩:=fnc e_fn;have z9m:FnAt K mg "homes" zsm zqg _ _:=fa2 X φ a16 u16 λ_ _ _ _ _ _ _ _=>rfl;obtain⟨⟨_,_,a17,u17⟩,e_fn⟩:=fnc e_fn;have zed:FnAt K mg "web_of" zPg zqc _ _:=fa2 X φ a17 u17 λ_ _ _ _ _ _ _ _=>rfl;obtain⟨ma,e_vv⟩:=yd e_vv;obtain⟨mb,e_bb⟩:=yd e_bb;obtain⟨_,_,_,_,_,_,_,_,_,ml,mc,mk⟩:=zxc (yd e_fn).1;replace e_fn:=(yd e_fn).2;have u18:=zue (st:=z3b) ml mc mk;have zIb:MethAt K "Shelf" "laying" "Shelf.laying" z3b zeb _ _ _:=⟨pn_Shelf,cl_Shelf,⟨ma,mb,mk⟩,u18,(u18.binds (ps:=zeb) λ_ _ _ _ _ _ us hl=>by obtain⟨_,rfl⟩:=ln1 hl;rfl)⟩
 obtain⟨ma,e_vv⟩:=yd e_vv;obtain⟨mb,e_bb⟩:=yd e_bb;obtain⟨_,_,_,_,_,_,_,_,_,ml,mc,mk⟩:=zxc (yd e_fn).1;replace e_fn:=(yd e_fn).2;have u19:=zue (st:=zbe) ml mc mk;have zkf:MethAt K "Shelf" "put" "Shelf.put" zbe zac _ _ _:=⟨pn_Shelf,cl_Shelf,⟨ma,mb,mk⟩,u19,(u19.binds (ps:=zac) λ_ _ _ _ _ _ us hl=>by obtain⟨_,_,rfl⟩:=ln2 hl;rfl)⟩
 obtain⟨⟨_,_,a20,u20⟩,e_fn⟩:=fnc e_fn;have zje:FnAt K mg "_law_heard" zAe zic _ _:=fa2 X φ a20 u20 λ_ _ _ _ _ _ _ _=>rfl;obtain⟨⟨_,_,a21,u21⟩,e_fn⟩:=fnc e_fn;have zUm:FnAt K mg "fault" zQm zug _ _:=fa2 X φ a21 u21 λ_ _ _ _ _ _ _ _=>rfl;obtain⟨⟨_,_,a22,u22⟩,e_fn⟩:=fnc e_fn;have zfi:FnAt K mg "is_push" zMh zYd _ _:=fa4 X φ a22 u22 λ_ _ _ _ _ _ _ _ _ _=>rfl;obtain⟨⟨_,_,a23,u23⟩,e_fn⟩:=fnc e_fn;have zsi:FnAt K mg "follows" zCh zVd _ _:=fa4 X φ a23 u23 λ_ _ _ _ _ _ _ _ _ _=>rfl;obtain⟨⟨_,_,a24,u24⟩,e_fn⟩:=fnc e_fn;have zpj:FnAt K mg "pushed" zzj zVe _ _:=fa4 X φ a24 u24 λ_ _ _ _ _ _ _ _ _ _=>rfl;obtain⟨⟨_,_,a25,u25⟩,e_fn⟩:=fnc e_fn;have zwf:FnAt K mg "laid_more" zNf zFc _ _:=fa3 X φ a25 u25 λ_ _ _ _ _ _ _ _ _=>rfl;obtain⟨⟨_,_,a26,u26⟩,e_fn⟩:=fnc e_fn;have zRd:FnAt K mg "laid_at_all" zOd z4b _ _:=fa1 X φ a26 u26 λ_ _ _ _ _ _ _=>rfl;obtain⟨⟨_,_,a27,u27⟩,e_fn⟩:=fnc e_fn;have zwh:FnAt K mg "room_of" zqi zWd _ _:=fa2 X φ a27 u27 λ_ _ _ _ _ _ _ _=>rfl;obtain⟨⟨_,_,a28,u28⟩,e_fn⟩:=fnc e_fn;have zBg:FnAt K mg "homes_of" zzg z5c _ _:=fa2 X φ a28 u28 λ_ _ _ _ _ _ _ _=>rfl;obtain⟨⟨_,_,a29,u29⟩,e_fn⟩:=fnc e_fn;have zxg:FnAt K mg "is_crowd" zNg z6c _ _:=fa2 X φ a29 u29 λ_ _ _ _ _ _ _ _=>rfl;obtain⟨⟨_,_,a30,u30⟩,e_fn⟩:=fnc e_fn;have zee:FnAt K mg "spare_key" zBf zIc _ _:=fa2 X φ a30 u30 λ_ _ _ _ _ _ _ _=>rfl;obtain⟨⟨_,_,a31,u31⟩,e_fn⟩:=fnc e_fn;have zpi:FnAt K mg "trimmed" zth zXd _ _:=fa2 X φ a31 u31 λ_ _ _ _ _ _ _ _=>rfl;obtain⟨⟨_,_,a32,u32⟩,e_fn⟩:=fnc e_fn;have zBj:FnAt K mg "fitted" zNj z2e _ _:=fa1 X φ a32 u32 λ_ _ _ _ _ _ _=>rfl;obtain⟨ma,e_vv⟩:=yd e_vv;obtain⟨mb,e_bb⟩:=yd e_bb;obtain⟨_,_,_,_,_,_,_,_,_,ml,mc,mk⟩:=zxc (yd e_fn).1;replace e_fn:=(yd e_fn).2;have u33:=zue (st:=zUc) ml mc mk;have zQd:MethAt K "Shelf" "renew" "Shelf.renew" zUc zJb _ _ _:=⟨pn_Shelf,cl_Shelf,⟨ma,mb,mk⟩,u33,(u33.binds (ps:=zJb) λ_ _ _ _ _ _ us hl=>by obtain⟨_,_,rfl⟩:=ln2 hl;rfl)⟩
 obtain⟨⟨_,_,a34,u34⟩,e_fn⟩:=fnc e_fn;have zgd:FnAt K mg "_law_renewed" zhd zOb _ _:=fa2 X φ a34 u34 λ_ _ _ _ _ _ _ _=>rfl;obtain⟨⟨_,_,a35,u35⟩,e_fn⟩:=fnc e_fn;have zwb:FnAt K mg "_law_wholes" zTc zAb _ _:=fa2 X φ a35 u35 λ_ _ _ _ _ _ _ _=>rfl;obtain⟨ma,e_vv⟩:=yd e_vv;obtain⟨mb,e_bb⟩:=yd e_bb;obtain⟨_,_,_,_,_,_,_,_,_,ml,mc,mk⟩:=zxc (yd e_fn).1;replace e_fn:=(yd e_fn).2;have u36:=zue (st:=zkd) ml mc mk;have zoe:MethAt K "Shelf" "left" "Shelf.left" zkd zVb _ _ _:=⟨pn_Shelf,cl_Shelf,⟨ma,mb,mk⟩,u36,(u36.binds (ps:=zVb) λ_ _ _ _ _ _ us hl=>by obtain⟨_,rfl⟩:=ln1 hl;rfl)⟩
 obtain⟨ma,e_vv⟩:=yd e_vv;obtain⟨mb,e_bb⟩:=yd e_bb;obtain⟨_,_,_,_,_,_,_,_,_,ml,mc,mk⟩:=zxc (yd e_fn).1;replace e_fn:=(yd e_fn).2;have u37:=zue (st:=zqd) ml mc mk;have zme:MethAt K "Shelf" "rule" "Shelf.rule" zqd zUb _ _ _:=⟨pn_Shelf,cl_Shelf,⟨ma,mb,mk⟩,u37,(u37.binds (ps:=zUb) λ_ _ _ _ _ _ us hl=>by obtain⟨_,rfl⟩:=ln1 hl;rfl)⟩
 obtain⟨ma,e_vv⟩:=yd e_vv;obtain⟨mb,e_bb⟩:=yd e_bb;obtain⟨_,_,_,_,_,_,_,_,_,ml,mc,mk⟩:=zxc (yd e_fn).1;replace e_fn:=(yd e_fn).2;have u38:=zue (st:=znc) ml mc mk;have zWb:MethAt K "Shelf" "where" "Shelf.where" znc zjb _ _ _:=⟨pn_Shelf,cl_Shelf,⟨ma,mb,mk⟩,u38,(u38.binds (ps:=zjb) λ_ _ _ _ _ _ us hl=>by obtain⟨_,_,rfl⟩:=ln2 hl;rfl)⟩
 obtain⟨ma,e_vv⟩:=yd e_vv;obtain⟨mb,e_bb⟩:=yd e_bb;obtain⟨_,_,_,_,_,_,_,_,_,ml,mc,mk⟩:=zxc (yd e_fn).1;replace e_fn:=(yd e_fn).2;have u39:=zue (st:=zod) ml mc mk;have zre:MethAt K "Shelf" "nest" "Shelf.nest" zod zTb _ _ _:=⟨pn_Shelf,cl_Shelf,⟨ma,mb,mk⟩,u39,(u39.binds (ps:=zTb) λ_ _ _ _ _ _ us hl=>by obtain⟨_,_,rfl⟩:=ln2 hl;rfl)⟩
 obtain⟨⟨_,_,a40,u40⟩,e_fn⟩:=fnc e_fn;have zdd:FnAt K mg "_law_is_kept" zjd zNb _ _:=fa3 X φ a40 u40 λ_ _ _ _ _ _ _ _ _=>rfl;obtain⟨⟨_,_,a41,u41⟩,e_fn⟩:=fnc e_fn;have zLd:FnAt K mg "_law_behind" zPd z6b _ _:=fa4 X φ a41 u41 λ_ _ _ _ _ _ _ _ _ _=>rfl;obtain⟨⟨f42,oc42,od42,sl42,kV42,dc42,pm42,an42,cd42,ct42,a42,l42,c42,k42⟩,e_fn⟩:=fnl e_fn;have u42:=zue (st:=z5o) l42 c42 k42;have zQz:FnAt K mg "law" z5o zeq _ _:=fa1 X φ a42 u42 λ_ _ _ _ _ _ _=>rfl;have e:=hfa.symm.trans (xH X φ a42);cases e;obtain⟨za,e_vv⟩:=yd e_vv;obtain⟨zc,e_vv⟩:=yd e_vv;have tY:mg "left_layings"=mg "left":=(xH X φ za).trans (xH X φ zc).symm;obtain⟨zcy,e_vv⟩:=yd e_vv;obtain⟨zPx,e_vv⟩:=yd e_vv;obtain⟨zOo,e_vv⟩:=yd e_vv;obtain⟨zaA,e_vv⟩:=yd e_vv;obtain⟨zKn,e_vv⟩:=yd e_vv;obtain⟨z6z,e_vv⟩:=yd e_vv;obtain⟨zDy,e_vv⟩:=yd e_vv;obtain⟨zfw,e_vv⟩:=yd e_vv;obtain⟨zar,e_vv⟩:=yd e_vv;obtain⟨zYz,e_vv⟩:=yd e_vv;obtain⟨zhu,e_vv⟩:=yd e_vv;obtain⟨z7z,e_vv⟩:=yd e_vv;obtain⟨zWw,e_vv⟩:=yd e_vv;obtain⟨t_DIVISOR,v_DIVISOR⟩:=zen (yd e_it).1;replace e_it:=(yd e_it).2;obtain⟨t_MOST_KEYS,v_MOST_KEYS⟩:=zen (yd e_it).1;replace e_it:=(yd e_it).2;obtain⟨zkh,e_vv⟩:=yd e_vv;obtain⟨zPo,e_bb⟩:=yd e_bb;obtain⟨z5f,e_vv⟩:=yd e_vv;obtain⟨zFn,e_bb⟩:=yd e_bb;obtain⟨zIg,e_vv⟩:=yd e_vv;obtain⟨zwm,e_bb⟩:=yd e_bb;obtain⟨xe_Twice,e_bb⟩:=yd e_bb;obtain⟨ztm,e_ob⟩:=yd e_ob;obtain⟨zal,e_ob⟩:=yd e_ob;obtain⟨zun,e_ob⟩:=yd e_ob;obtain⟨zZm,e_ob⟩:=yd e_ob;obtain⟨i4,e_bb⟩:=yd e_bb;obtain⟨i7,e_vv⟩:=yd e_vv;obtain⟨i8,e_bb⟩:=yd e_bb;obtain⟨i9,e_cf⟩:=yd e_cf;obtain⟨_,_,_,_,_,_,_,_,_,_,_,_,_,_,z5w⟩:=zFu (yd e_ex).1;replace e_ex:=(yd e_ex).2;obtain⟨zXv,e_vv⟩:=yd e_vv;obtain⟨zcx,e_ov⟩:=yd e_ov;obtain⟨zCw,e_vv⟩:=yd e_vv;obtain⟨zCs,e_vv⟩:=yd e_vv;obtain⟨zqx,e_bb⟩:=yd e_bb;obtain⟨_,_,_,_,_,_,_,_,_,zZr,zOs,zGr⟩:=zxc (yd e_fn).1;replace e_fn:=(yd e_fn).2;obtain⟨_,zGw⟩:=zVs (yd e_bb).1;replace e_bb:=(yd e_bb).2;obtain⟨zAx,e_vv⟩:=yd e_vv;obtain⟨zlw,e_vv⟩:=yd e_vv;obtain⟨znw,e_ob⟩:=yd e_ob;obtain⟨zsw,e_vv⟩:=yd e_vv;obtain⟨z0v,e_ob⟩:=yd e_ob;obtain⟨q4,e_vv⟩:=yd e_vv;obtain⟨q5,e_ob⟩:=yd e_ob;have T:Txt K mg:=⟨⟨63,zkh,xH X φ zkh,zPo⟩,⟨31,z5f,xH X φ z5f,zFn⟩,⟨44,zIg,xH X φ zIg,zwm⟩,(λC h=>by rw[zIg]at h;cases h;exact xe_Twice),(λC h=>by rw[zkh]at h;cases h;exact(sd.cons zIg zwm ztm (sd.cons zkh zPo zun sd.nil))),(λC h=>by rw[zIg]at h;cases h;exact(sd.cons zIg zwm zal (sd.cons zkh zPo zZm sd.nil))),tE,tI,tY,⟨λC h=>by rw[zkh]at h;cases h;exact⟨⟨by rw[zGw];rfl,zAx,zlw,znw,zsw,q4,q5,z0v⟩,zCs,zqx⟩⟩,YR X φ zcy,YR X φ zPx,YR X φ zOo,YR X φ zaA,YR X φ zKn,YR X φ z6z,YR X φ zDy,YR X φ zfw,YR X φ zar,YR X φ zYz,YR X φ zhu,YR X φ z7z,YR X φ zWw,⟨t_DIVISOR,xH X φ v_DIVISOR⟩,⟨t_MOST_KEYS,xH X φ v_MOST_KEYS⟩⟩
 refine⟨W.fnOf "law" "law" (zyd z5o) (zdc z5o) (zp z5o) .none kV42 dc42 pm42 an42 cd42 ct42,λs v =>.of_eq rfl,λbase _ _=>?_⟩;have tH:Sj K mg "Full" "some" "Full.__init__" zCc zzb _ _ _ _:=⟨zkh,xH X φ z5f,⟨⟨_,_,_,_,_,_,_,_,_,_,_,_,_,_,z5w⟩,zXv,zcx,i4,zCw,zCs,i7,i8,i9⟩,(zue (st:=zCc) zZr zOs zGr),(zue (st:=zCc) zZr zOs zGr).binds (ps:=zzb) λ_ _ _ _ _ _ us hl=>by obtain⟨_,_,rfl⟩:=ln2 hl;rfl⟩
 have tW:=z7m (P:=l.prog) (w:=w) (base:=base) T tH;have zjh:=z2n (P:=l.prog) (w:=w) (base:=base) T zKg;have zbf:=zil (P:=l.prog) (w:=w) (base:=base) T zHe;have zN:=zzm T zHe zbf zR;have zxe:=zhm T zR zN z1d;have z1c:=zoh (P:=l.prog) (w:=w) (base:=base) T zzc;have zmh:=zyn T zR zN zMg;have zvb:=zdl (P:=l.prog) (w:=w) (base:=base) T zxb;have zCb:=zri (P:=l.prog) (w:=w) (base:=base) T zrb;have z5d:=zij T zxb zvb zrb zCb zad;have zJc:=zEm (P:=l.prog) (w:=w) (base:=base) T zDc;have zLm:=zEt (P:=l.prog) (w:=w) (base:=base) T zBm;have zeg:=zTm T zBm zLm zGf;have zyf:=z8t (P:=l.prog) (w:=w) (base:=base) T Tp;have zgk:=zjr (P:=l.prog) (w:=w) (base:=base) T zCj;have zZe:=zzq T zGf zeg Tp zyf zCj zgk zuf;have zz:=zgh (P:=l.prog) (w:=w) (base:=base) T zA;have zIm:=zpr (P:=l.prog) (w:=w) (base:=base) T z9m;have zSc:=zVq T z9m zIm zed;have zQb:=zmj T zA zz zIb;have zcg:=z2l T zDc zJc zuf zZe zA zz zed zSc zIb zQb tH tW zkf;have zFf:=z6k T zkf zcg zje;have zWm:=zus T Tp zyf zUm;have zLi:=zcp (P:=l.prog) (w:=w) (base:=base) T zfi;have zHi:=zap (P:=l.prog) (w:=w) (base:=base) T zsi;have zFk:=zkq T zUm zWm zfi zLi zsi zHi zpj;have z4f:=zmm T zuf zZe zpj zFk zwf;have zLe:=z0j T zwf z4f zRd;have zGi:=zso (P:=l.prog) (w:=w) (base:=base) T zwh;have zlh:=ztn (P:=l.prog) (w:=w) (base:=base) T zBg;have zah:=z0n T zwh zGi zBg zlh zxg;have zve:=zGm T zxg zah zee;have zNi:=z0o T zee zve zpi;have zJk:=z1q T zRd zLe zpi zNi zBj;have zNe:=zLk T zA zz zBj zJk zed zSc tH tW zQd;have z3d:=zgj T zQd zNe zgd;have zBb:=zSj (P:=l.prog) (w:=w) (base:=base) T zwb;have zHf:=z2k T Tp zyf zed zSc zIb zQb zA zz zoe;have znf:=zZk (P:=l.prog) (w:=w) (base:=base) T zme;have z5b:=zxk (P:=l.prog) (w:=w) (base:=base) T zWb;have zpf:=zgl T zA zz zre;have z2d:=zej T zwb zBb zoe zHf zme znf zA zz zDc zJc zWb z5b zxb zvb zre zpf zdd;have zOe:=zHk T zrb zCb zxb zvb zLd;exact z5v T zKg zjh z1d zxe zzc z1c zR zN zMg zmh zad z5d zje zFf zgd z3d zdd z2d zLd zOe zWb z5b zwb zBb zQz
def walk{l:W.OpenLaw}{q:yy}{loose:Qx}{XP:(yt->Qi)->yT->Prop}{YP:yI->yT->Prop}{d:DefRec}{K:Params->yw}(hn:l.most=some 63)(hdf:d.params.defaults=[])
 (hY:∀(w:yI)(h:yT),YP w h->(K w.params).In h)
 (F:∀(w:yI)(mg:yt->Qi)(fa:yf)(h:yT),(K w.params).In h->h.Ns yp mg->mg d.name=some (.ref fa) ->
  ∃fd:yV,(∀(s:yc)(u:Value),BindsTo s fd ⟨[u],[]⟩ [("_law_script",u)])/\∀base:yT,(K w.params).In base->base.Ns yp mg->Te l.prog w (K w.params) mg base CX0 9 fa fd ["_law_script"] (spM (K w.params) 1 zHq)) :
 W.WalkO q loose XP YP l.row.toRowW d [] (λf vs=>PySem.call f vs) :=
 L2.walk_of (n:=63) (k:=9) (x:="_law_script") (CX:=λ_=>CX0) (sp:=λw=>spM (K w.params) 1 zHq) hn (by decide) hdf (by first|exact⟨rfl,by decide,by decide,rfl⟩|exact⟨rfl,by decide,by decide⟩) hY F (λ_ _ a ns hl hO hS=>zJx (zPt ns hl) hO hS) λ_ _ _ _ _ z=>z
end P
open PySem PySem.W PyProof.Rows
set_option maxRecDepth 100000 in
set_option maxHeartbeats 0 in
theorem PySem.Challenge.cw_keynests_k50_keys_put_in_holds : PySem.Challenge.rw_keynests_k50_keys_put_in.Holds := by
 refine M.SB (l:=xR) (q:=Hd.qv) (loose:=Hd.lse) (d:=Hd.dl) (obs:=Hd.obs) (good:=Hd.good) (N:=60000) Hd.hd1 Hd.hd2 Hd.hd3 Hd.hd4 Hd.hd5 Hd.hd6 Hd.hd7 ?hw λK e=>?_
 case hw=>w_witness2
 exact P.walk (l:=xR) (K:=λ_=>K) (by rfl) (by rfl) (λw h σ=>σ) λw mg fa h KX φ hmg=>P.all_of KX φ hmg e
