import PyProof.Rows.All
import Wide.All
import OpenK.AllK
import Wide.FinOn
import Lean
import PyProof.EqAt
import PyProof.EqKinds
import PyProof.TupleCall
import OpenK.KRaise
import PySem.SetOps
import PyProof.SetKind
import PyProof.DictStraight
import PyProof.CollectWalk
import PyProof.Seq
import PyProof.Walks
import PyProof.FactsAll.set
import PyProof.Rows.SortShell
import PyProof.Rows.SortWalk
import PyProof.Rows.SetFrom
import PyProof.SumAny
import PyProof.InstSpecial
import PyProof.InstStoreFacts
import PyProof.ReprBulk
import PyProof.ReprRoads
import PyProof.ListRange
import PyProof.EnumMake
import KE.KDictList
import KE.KRevIter
import KE.BitLaws
import PyProof.Rows.MinMaxN
import PyProof.DictDisplay
import KE.KRevSl
import PyProof.PureInt
import PyProof.MeetsDictList
import PyProof.AttrMissHeap
import KE.KEqDict
import KE.KItemsList
import KE.KDictOf
import PySem.Challenge.RW_keynests_k52_keys_taken_out
set_option autoImplicit false
open List (all_cons any_cons any_eq_true any_map append_assoc append_nil countP_cons count_append ext_getElem? filterMap_cons flatten_cons getD_eq_getElem?_getD getElem_mem length_append length_cons length_map length_range length_set length_singleton lookup_cons lookup_nil mapM_cons map_append map_congr_left map_cons map_map map_nil mem_append mem_append_right mem_cons mem_cons_of_mem mem_cons_self mem_of_getElem? mergeSort_perm nil_append nodup_append nodup_cons not_mem_nil replicate_succ size_toArray take_add_one take_length take_succ)
set_option maxRecDepth 100000
set_option linter.all false
set_option Elab.async false
open PySem renaming wpAny_bind→ya,Addr→yb,Shared→yd,starEach→yf,mainGlobals→yi,FuncData→yj,wpAny_pure→yp,wpAny→yq,Str→yr,Program→yu,model→yy,Expr→yz,sizeLine→yC,World→yI,Around→yJ,bootBuiltins→yL,Heap→yR,mem_of_lookup→yS,wpAny_mono→yT,eval→yV,Stmt→yX,wpAny_holding→yY,backTo→yZ,cellsFrom→Yd,assignEach→Yg,sizeLine_eq→Yh,compareOp→Yn,wpAny_loadPart_at→Ys,attributeBase→Yt,Obj→Yw,wpAny_standAt→Yx,foldedSetIterable→Yy,keywordEach→Yz,wpAny_field→YA,NameKind→YI,excClassObj→YJ,wpAny_isSubtype_exc→YM,codeAny_mono→YO,Pos→YR,wpAny_call_entry→YS,binaryOp→YT,wpAny_Call_Name_kw→YU,holding→YX,wpAny_passesOwn→YZ,wpAny_specialOf→xa,wpAny_newObj_type→xb,swapsWith→xk,PyData→xm,wpAny_callSpecial?_slot→xn,wpAny_setField_rec→xt,wpAny_execs_nil→xv,backToKw→xw,codeAny_builtin→xz,Scope→xG,wpAny_truthy_bool→xH,Keyword→xI,codeAny_call_builtin→xK
open List.cons renaming inj→yc,injEq→YC
open PySem.Heap renaming get?_push_of_some→ye,lt_size→ym,get?_push_size→yx,get?_update_other→Ye,get?_update_self→Yi,SameBut→Yq,size_push→YH
open Option renaming bind_some→yg
open Nat renaming le_refl→yh,lt_of_lt_of_le→yv,ne_of_lt→yw,le_trans→yA,lt_irrefl→yQ,ne_of_gt→Ym,zero_le→Yo,lt_succ_self→YE,le_of_lt→YN
open List renaming getElem?_append_left→yk,getElem?_map→yn,replicate→yD,getElem?_append_right→yE,getElem?_eq_getElem→yG,getElem?_set_self→yO,getElem?_set_ne→yP,range→Yc,getElem?_eq_none→Yp,lookup→Yu,drop_eq_getElem_cons→YY,getElem?_replicate→xl,filter_cons_of_neg→xo,length→xq,find?_cons→xy,length_replicate→xC,length_filter_le→xF
open PySem.NameKind renaming free→yo,cell→yK
open PySem.W renaming Frag→yt,nsIn→yW,findIn→Yb,mg_none_of→YG,mg_of→xc,emptyDict→xp,kia_one→xA
open Bool renaming false_ne_true→yB,and_eq_true→yN
open Sum renaming inl→yF
open PySem.Value renaming ref→yH,none→Yk,type→YD
open Ne renaming symm→yM
open Option.some renaming inj→yU
open PySem.PyData renaming eqv→Yj,int→xh,eqvAll→xB,canLayAll0→xJ
open False renaming elim→Yl
open PySem.Builtin.SmallTypes renaming nextOf→Yr
open PyProof.Rows renaming callWith_type1→Yv
open ForInStep renaming yield→YB
open PySem.Obj renaming data_mapFields→YF,mapFields→xg,isFreed_of_fields→xD
open Int renaming toNat_natCast→YK,eq_ofNat_of_zero_le→YL,emod_lt_of_pos→xu
open PySem.Builtin.List renaming listExtendWith→YQ
open PySem.F renaming excBase_ValueError→YV,slot_tuple_iterator_next→YW,slot_enumerate_next→xE
open PySem.Around renaming under_plainId→xf
open PySem.AutoSeq1 renaming wpAny_loadPart'→xi
open PySem.Challenge renaming rw_keynests_k52_keys_taken_out→xj
open True renaming intro→xr
noncomputable section
namespace M
open PySem PySem.W PyProof.Rows
def kOf(as:List yb)(h:yR):Frag:=as.filterMap λa=>(h.get? a).map λo=>(a,o)
def zlu(h:yR):Frag:=kOf (Yc h.objs.size) h
def zSr(s:yX):Arguments:=match s with
 |.FunctionDef _ a _ _ _ _ _ _ _ _=>a
 |_=>{posonlyargs:=[],args:=[],vararg:=none,kwonlyargs:=[],kw_defaults:=[],kwarg:=none,defaults:=[]}
def zKs(s:yX):List yX:=match s with
 |.FunctionDef _ _ b _ _ _ _ _ _ _=>b
 |_=>[]
def zmp(s:yX):xG:=match s with
 |.FunctionDef _ _ _ _ _ _ sc _ _ _=>sc
 |_=>{kind:=.function,names:=[],isGenerator:=false,isCoroutine:=false }
def z8v(s:yX):YR:=match s with
 |.FunctionDef _ _ _ _ _ _ _ _ _ p=>p
 |_=>⟨0,0,0,0⟩
structure TM where
 name:yr
 qual:yr
 params:Arguments
 body:FuncBody
 scope:xG
 globals:yb
 closure:List (yr×yb)
 defaults:Value
 builtins:yb
 code:Bool
 keep:Bool
def zqd(K:Frag)(a:yb)(qual:yr):Option TM:=match K.lookup a with
 |some ⟨_,_,.func fd,_⟩=>some ⟨fd.name,fd.qualname,fd.params,fd.body,fd.scope,fd.globals,fd.closure,fd.defaults,fd.builtins,codeIn K fd.code qual,keepIn K (.ref a)⟩
 |_=>none
def zdc(K:Frag)(nm:yr):Option TM:=match nsIn K yi nm with
 |some (some (.ref a))=>zqd K a nm
 |_=>none
def zKd(nm qual:yr)(st:yX):Option TM:=some ⟨nm,qual,zSr st,.stmts (zKs st),zmp st,yi,[],.none,builtinsNs,true,true⟩
def zic(nm:yr)(st:yX):Option TM:=zKd nm nm st
def zRj(K:Frag)(nm:yr):Option Int:=match nsIn K yi nm with
 |some (some (.int i _))=>some i
 |_=>none
def zPo(K:Frag)(C:yb):Option (Value×String×List Value×Bool×Bool):=match K.lookup C with
 |some ⟨c,_,.cls cd,sl⟩=>(match sl.toList with | [_,_,_,_,some (.builtin n),_]=>some (c,n,cd.mro,cd.hasDict,cd.hasDel)|_=>none)
 |_=>none
def zzq{p q:yu}{loose:List yr}{α:Type}{Yf:yd->α}{y:α}{N:Nat}(h1:LeftO p q loose (λ_=>true) (λ_=>()) (λ_=>()) N)(h2:∀w,(openEnds treeTable p w N).map Yf=some y):LeftO p q loose (λ_=>true) Yf (λ_=>y) N:=λw=>by
 obtain⟨s,e,a⟩:=Option.map_eq_some_iff.mp (h1 w);obtain⟨s',e',b⟩:=Option.map_eq_some_iff.mp (h2 w);rw[e]at e';cases e';rw[e];show some (_,Yf s)=some (_,y);rw[b];exact congrArg (λz=>some (z.1,y)) a
end M
namespace Hd
open PySem PySem.Spec PyProof.Rows M
def top(i:Nat):yX:=PySem.Challenge.pw_keynests_k52_keys_taken_out.main.body.getD i (.Pass ⟨0,0,0,0⟩)
def zfi(s:yX)(j:Nat):yX:=match s with
 |.ClassDef _ _ _ body _ _ _ _ _ _ _=>body.getD j (.Pass ⟨0,0,0,0⟩)
 |_ =>.Pass ⟨0,0,0,0⟩
def zYr(s:yX):yX:=zfi s 0
def qv:yu:={PySem.Challenge.pw_keynests_k52_keys_taken_out with main:={PySem.Challenge.pw_keynests_k52_keys_taken_out.main with body:=[top 34]}}
def lse:List yr:=(PySem.Challenge.pw_keynests_k52_keys_taken_out.main.scope.names.map (·.1)).filter λx=>!(x == "law")
def dl:DefRec:={name:="law",params:=zSr (top 34),body:=zKs (top 34),scope:=zmp (top 34),pos:=z8v (top 34)}
def obs(K:yt):List (Option TM)×List (Option (Option Value))×List (Option Int)×List (Bool)×List (Option Bool)×List (Option Value)×List (Option W.CFound)×List (Option (Value×String×List Value×Bool×Bool)):=([zdc K "_law_pen",zdc K "_law_mixed",zdc K "_law_take",zdc K "_law_rule",zqd K 130 "Shelf.__init__",zdc K "_law_key",zdc K "_law_wholes",zdc K "left",zdc K "homes",zdc K "web_of",zqd K 163 "Shelf.all_there",zqd K 173 "Shelf.laying",zqd K 180 "Shelf.left",zqd K 194 "Shelf.rule",zqd K 149 "Shelf.has",zqd K 156 "Shelf.where",zdc K "_law_homes",zqd K 168 "Shelf.nest",zdc K "_law_is_kept",zqd K 142 "Shelf.out",zdc K "lying",zdc K "pushes_to",zdc K "row_to",zdc K "put_in",zqd K 135 "Shelf.put",zdc K "_law_no_key",zdc K "_law_out",zdc K "_law_put",zdc K "law",zqd K 72 "Full.__init__"],[yW K yi "Shelf",Yb K (.ref 197) "__setattr__",Yb K (.ref 197) "nest_of",Yb K (.ref 197) "kept_rule",Yb K (.ref 197) "__init__",Yb K (.ref 197) "all_there",Yb K (.ref 197) "laying",Yb K (.ref 197) "left",Yb K (.ref 197) "rule",Yb K (.ref 197) "has",Yb K (.ref 197) "where",Yb K (.ref 197) "nest",Yb K (.ref 197) "out",Yb K (.ref 197) "put",yW K yi "left_layings",yW K yi "left",yW K yi "bool",yW K yi "dict",yW K yi "enumerate",yW K yi "int",yW K yi "isinstance",yW K yi "len",yW K yi "list",yW K yi "range",yW K yi "reversed",yW K yi "sorted",yW K yi "tuple",yW K yi "NoKey",yW K yi "Full",yW K yi "NestError",yW K yi "Twice",W.specialIn K (.ref 31) "__getattribute__",Yb K (.ref 75) "__init__",Yb K (.ref 75) "__setattr__",Yb K (.ref 75) "some"],[zRj K "DIVISOR",zRj K "MOST_KEYS"],[W.plainGet K 197 PySem.Str.empty,W.hasDictIn K 197,W.plainOver K 197,W.isFn K (.ref 130),W.makesIn K 197,W.keepIn K (.ref 197),W.isFn K (.ref 163),W.isFn K (.ref 173),W.isFn K (.ref 180),W.isFn K (.ref 194),W.isFn K (.ref 149),W.isFn K (.ref 156),W.isFn K (.ref 168),W.isFn K (.ref 142),W.isFn K (.ref 135),W.ktsIn K 56 "BaseException",W.ktsIn K 75 "BaseException",W.ktsIn K 31 "BaseException",W.ktsIn K 44 "BaseException",W.excIn K 56 [.type "ValueError",.type "Exception",.type "BaseException",.type "object"] "ValueError.__new__",W.excIn K 44 [.type "ValueError",.type "Exception",.type "BaseException",.type "object"] "ValueError.__new__",W.excIn K 31 [.type "ValueError",.type "Exception",.type "BaseException",.type "object"] "ValueError.__new__",W.readsIn K 31 (.type "type"),W.hasDictIn K 75],[W.mroIn K 56 (.ref 56),W.mroIn K 56 (.ref 75),W.mroIn K 56 (.ref 44),W.mroIn K 44 (.ref 56),W.mroIn K 44 (.ref 75),W.mroIn K 44 (.ref 44),W.mroIn K 75 (.ref 56),W.mroIn K 75 (.ref 75),W.mroIn K 75 (.ref 44)],[W.typeIn K (.ref 72)],[W.findCls K (.ref 31) (.type "type") "__init__"],[zPo K 75])
def good:List (Option TM)×List (Option (Option Value))×List (Option Int)×List (Bool)×List (Option Bool)×List (Option Value)×List (Option W.CFound)×List (Option (Value×String×List Value×Bool×Bool)):=([zic "_law_pen" (top 23),zic "_law_mixed" (top 24),zic "_law_take" (top 25),zic "_law_rule" (top 26),zKd "__init__" "Shelf.__init__" (zfi (top 21) 0),zic "_law_key" (top 28),zic "_law_wholes" (top 29),zic "left" (top 7),zic "homes" (top 16),zic "web_of" (top 19),zKd "all_there" "Shelf.all_there" (zfi (top 21) 5),zKd "laying" "Shelf.laying" (zfi (top 21) 7),zKd "left" "Shelf.left" (zfi (top 21) 8),zKd "rule" "Shelf.rule" (zfi (top 21) 10),zKd "has" "Shelf.has" (zfi (top 21) 3),zKd "where" "Shelf.where" (zfi (top 21) 4),zic "_law_homes" (top 27),zKd "nest" "Shelf.nest" (zfi (top 21) 6),zic "_law_is_kept" (top 30),zKd "out" "Shelf.out" (zfi (top 21) 2),zic "lying" (top 9),zic "pushes_to" (top 11),zic "row_to" (top 12),zic "put_in" (top 13),zKd "put" "Shelf.put" (zfi (top 21) 1),zic "_law_no_key" (top 32),zic "_law_out" (top 33),zic "_law_put" (top 31),zic "law" (top 34),zKd "__init__" "Full.__init__" (zYr (top 5))],[some (some (.ref 197)),some (some (.builtin "object.__setattr__")),some none,some none,some (some (.ref 130)),some (some (.ref 163)),some (some (.ref 173)),some (some (.ref 180)),some (some (.ref 194)),some (some (.ref 149)),some (some (.ref 156)),some (some (.ref 168)),some (some (.ref 142)),some (some (.ref 135)),some (some (.ref 82)),some (some (.ref 82)),some none,some none,some none,some none,some none,some none,some none,some none,some none,some none,some none,some (some (.ref 56)),some (some (.ref 75)),some (some (.ref 31)),some (some (.ref 44)),some (some (.builtin "type.__getattribute__")),some (some (.ref 72)),some (some (.builtin "object.__setattr__")),some none],[some 10007,some 30],[true,true,true,true,true,true,true,true,true,true,true,true,true,true,true,true,true,true,true,true,true,true,true,true],[some true,some false,some false,some false,some false,some true,some false,some true,some false],[some (.type "function")],[some (.val (.builtin "ValueError.__init__"))],[some (.type "type","ValueError.__new__",.ref 75::(.ref 31::[.type "ValueError",.type "Exception",.type "BaseException",.type "object"]),true,false)])
set_option maxHeartbeats 0
def hd21:W.LeftO PySem.Challenge.rw_keynests_k52_keys_taken_out.prog qv lse (λ_=>true) (λ_=>()) (λ_=>()) 60000:=λw=>by kernel_rfl
def hd22:∀w,(W.openEnds treeTable PySem.Challenge.rw_keynests_k52_keys_taken_out.prog w 60000).map (λs=>obs (zlu s.heap))=some good:=λw=>by kernel_rfl
def hd2:W.LeftO PySem.Challenge.rw_keynests_k52_keys_taken_out.prog qv lse (λ_=>true) (λs=>obs (zlu s.heap)) (λ_=>good) 60000:=zzq hd21 hd22
def hd1:PySem.Challenge.rw_keynests_k52_keys_taken_out.wellSaid=true:=by kernel_rfl
def hd3:W.defOf qv PySem.Challenge.rw_keynests_k52_keys_taken_out.name=some (dl,[]):=by kernel_rfl
def hd4:PySem.Challenge.rw_keynests_k52_keys_taken_out.prog.theDef PySem.Challenge.rw_keynests_k52_keys_taken_out.name=some (dl.params,dl.body,dl.scope):=by kernel_rfl
def hd5:W.kwWritten? dl.params.kwonlyargs dl.params.kw_defaults=some []:=by kernel_rfl
def hd6:(W.chainsOk qv&&W.opensWell PySem.Challenge.rw_keynests_k52_keys_taken_out.prog&&(W.frees PySem.Challenge.rw_keynests_k52_keys_taken_out.row.toRowW&&PySem.Challenge.rw_keynests_k52_keys_taken_out.row.within.isEmpty))=true:=by kernel_rfl
def hd7:PySem.Challenge.rw_keynests_k52_keys_taken_out.prog.bare:=⟨rfl,rfl,rfl,rfl,rfl,by decide +kernel⟩
end Hd
namespace L2
open PySem PySem.Spec PyProof.Rows
abbrev Key:=Sum Int yr
def zpl:Key->Value->Bool
 |.inl k,v=>Value.isInt k v
 |.inr x,v=>Value.isStrOf x v
def z4v(w:yI):Key->Int
 |.inl k=>hashInt k
 |.inr x=>hashStr w x
def zX:∀{k:Key} {v:Value},zpl k v=true->(∃i t,k=yF i/\v=Value.int i t)\/(∃x t,k=Sum.inr x/\v=Value.str x t)
 |.inl i,v,h=>by
  obtain⟨t,e⟩:=Value.isInt_shape (k:=i) (v:=v) h;exact .inl ⟨i,t,rfl,e⟩
 |.inr x,v,h=>by
  obtain⟨t,e⟩:=Value.isStrOf_shape (x:=x) (v:=v) h;exact .inr ⟨x,t,rfl,e⟩
def zqo(i:Int)(t:Tok):zpl (.inl i) (.int i t)=true:=by simp[zpl,Value.isInt]
def zDo(x:yr)(t:Tok):zpl (.inr x) (.str x t)=true:=by simp[zpl,Value.isStrOf]
def zGt(a b:Int):decide ((yF a:Key)=yF b)=(a==b):=by
 by_cases e:a=b
 ·subst e;simp
 ·have h:¬(yF a:Key)=yF b:=λq=>e (Sum.inl.inj q);rw[decide_eq_false h];exact(beq_eq_false_iff_ne.mpr e).symm
def ziu(a b:yr):decide ((Sum.inr a:Key)=Sum.inr b)=decide (a=b):=by
 by_cases e:a=b
 ·subst e;simp
 ·have h:¬(Sum.inr a:Key)=Sum.inr b:=λq=>e (Sum.inr.inj q);rw[decide_eq_false h,decide_eq_false e]
def zau(a:Int)(b:yr):decide ((yF a:Key)=Sum.inr b)=false:=decide_eq_false (λq=>nomatch q)
def zPu(a:yr)(b:Int):decide ((Sum.inr a:Key)=yF b)=false:=decide_eq_false (λq=>nomatch q)
def z7(prog:yu)(w:yI):PySem.KeyKind prog w Key where
 is:=zpl
 hash:=z4v w
 inj:=λv a b ha hb=>by
  rcases zX ha with ⟨i,t,rfl,rfl⟩|⟨x,t,rfl,rfl⟩
  ·rcases zX hb with ⟨j,u,rfl,e⟩|⟨y,u,rfl,e⟩
   ·injection e with e1 _;rw[e1]
   ·exact nomatch e
  ·rcases zX hb with ⟨j,u,rfl,e⟩|⟨y,u,rfl,e⟩
   ·exact nomatch e
   ·injection e with e1 _;rw[e1]
 byValue:=λk v h=>by
  rcases zX h with ⟨i,t,rfl,rfl⟩|⟨x,t,rfl,rfl⟩<;>rfl
 pyHash:=λhv h=>by
  rcases zX hv with ⟨i,t,rfl,rfl⟩|⟨x,t,rfl,rfl⟩
  ·exact wpAny_pyHash_int h
  ·exact wpAny_pyHash_str h
 eqBool:=λhu hv h=>by
  rcases zX hu with ⟨i,t,rfl,rfl⟩|⟨x,t,rfl,rfl⟩
  ·rcases zX hv with ⟨j,u,rfl,rfl⟩|⟨y,u,rfl,rfl⟩
   ·rw[zGt]at h;exact wpAny_eqBool_int h
   ·rw[zau]at h;exact SeqAt.EqAt.int_str i t y u _ _ _ _ h
  ·rcases zX hv with ⟨j,u,rfl,rfl⟩|⟨y,u,rfl,rfl⟩
   ·rw[zPu]at h;exact SeqAt.EqAt.str_int x t j u _ _ _ _ h
   ·rw[ziu]at h;exact wpAny_eqBool_str h
 «strs»:=λk x t v h=>by
  rcases zX h with ⟨i,u,rfl,e⟩|⟨y,u,rfl,e⟩
  ·exact nomatch e
  ·injection e with e1 _;subst e1;cases v<;>rfl
def z0d(prog:yu)(w:yI)(k:Key)(v:Value):(z7 prog w).is k v=zpl k v:=rfl
def zAl(prog:yu)(w:yI)(i:Int)(t:Tok):(z7 prog w).is (.inl i) (.int i t)=true:=zqo i t
def zDl(prog:yu)(w:yI)(x:yr)(t:Tok):(z7 prog w).is (.inr x) (.str x t)=true:=zDo x t
inductive V where
 |non|bl (b:Bool)|int (i:Int)|str (x:yr)|byt (b:Array UInt8)|flt (b:UInt64)|ref (a:yb)|ty (n:String)
 deriving DecidableEq
def RelV:V->Value->Prop
 |.non,u=>u=Yk
 |.bl b,u=>u=Value.bool b
 |.int i,u=>∃t,u=Value.int i t
 |.str x,u=>∃t,u=Value.str x t
 |.byt b,u=>∃t,u=Value.bytes b t
 |.flt b,u=>∃t,u=Value.float b t
 |.ref a,u=>u=yH a
 |.ty n,u=>u=YD n
abbrev Vals:List V->List Value->Prop:=Paired RelV
def Vals.length{xs:List V}{us:List Value}(r:Vals xs us):xs.length=us.length:=Paired.length r
def Vals.get:∀{xs:List V} {us:List Value} {i:Nat} {x:V},Vals xs us->xs[i]?=some x->∃u,us[i]?=some u/\RelV x u
 |_,_,_,_,.nil,e=>by simp at e
 |_,_,0,_,.cons r _,e=>by simp at e;subst e;exact⟨_,rfl,r⟩
 |_,_,i+1,x,.cons _ t,e=>by
  obtain⟨u,h1,h2⟩:=Vals.get (i:=i) (x:=x) t (by simpa using e);exact⟨u,by simpa using h1,h2⟩
def Vals.set{x:V}{u:Value}(r:RelV x u):∀{xs:List V} {us:List Value} (i:Nat),Vals xs us->Vals (xs.set i x) (us.set i u)
 |_,_,_,.nil =>.nil
 |_,_,0,.cons _ t =>.cons r t
 |_,_,i+1,.cons q t =>.cons q (Vals.set r i t)
def Vals.append:∀{xs ys:List V} {us ws:List Value},Vals xs us->Vals ys ws->Vals (xs++ys) (us++ws)
 |_,_,_,_,.nil,s=>s
 |_,_,_,_,.cons r t,s =>.cons r (Vals.append t s)
def Vals.take:∀{xs:List V} {us:List Value} (n:Nat),Vals xs us->Vals (xs.take n) (us.take n)
 |_,_,0,_ =>.nil
 |_,_,_+1,.nil =>.nil
 |_,_,n+1,.cons r t =>.cons r (Vals.take n t)
def Vals.drop:∀{xs:List V} {us:List Value} (n:Nat),Vals xs us->Vals (xs.drop n) (us.drop n)
 |_,_,0,r=>r
 |_,_,_+1,.nil =>.nil
 |_,_,n+1,.cons _ t=>Vals.drop n t
def Tv:Option V->Option Value->Prop
 |some v,some u=>RelV v u
 |none,none=>True
 |_,_=>False
def KV{κ:Type}:List (κ×V)->List (κ×Value)->Prop:=Paired λ(p:κ×V) (q:κ×Value)=>p.1=q.1/\RelV p.2 q.2
def kV:Key->V
 |.inl i =>.int i
 |.inr x =>.str x
inductive HO where
 |lst (xs:List V)
 |tup (xs:List V)
 |dK (kvs:List (Key×V))|dT (kvs:List (List Key×V))
 |set (S:Int->Bool) (n:Nat)
 |ins (C dx:yb) (fs:List (yr×V))
 |own (x:yb)
 |xd (fs:List (yr×V))
 |met (f x:yb)
 |rng (lo hi:Int)
 |frz (o:Yw) (u:HO)
 |tbl (ps:Array Value)
 |ext (φ:yR->Prop)
abbrev Hp:=yb->Option HO
def upd(H:Hp)(a:yb)(o:HO):Hp:=λb=>if b=a then some o else H b
def zt{H:Hp}{a:yb}{o:HO}:upd H a o a=some o:=by unfold upd;rw[if_pos rfl]
def zr{H:Hp}{a b:yb}{o:HO}(h:b≠a):upd H a o b=H b:=by unfold upd;rw[if_neg h]
def zE{H:Hp}{a b:yb}{o:HO}(h:H a=some o)(h':H b=none):a≠b:=by
 intro e;subst e;rw[h]at h';cases h'
section
variable (P:yu)(w:yI)
def tF(H:Hp)(h:yR)(a:yb):HO->Prop
 |.lst xs=>xs.length<=yC/\∃(its:List Value)(n:Nat),Vals xs its/\h.get? a=some {cls:=.type "list",data:=.seq its.toArray n }
 |.tup xs=>xs.length<=yC/\∃its:List Value,Vals xs its/\IsTup h a its.toArray
 |.dK kvs=>kvs.length<=yC/\(a==sysModules)=false/\∃vs,KV kvs vs/\h.DictOf (z7 P w) a vs
 |.dT kvs=>kvs.length<=yC/\(a==sysModules)=false/\∃xs:List (List Key×yb×Value),
  Paired (λ(p:List Key×V) (q:List Key×yb×Value)=>p.1=q.1/\H q.2.1=some (.tup (p.1.map kV))/\RelV p.2 q.2.2) kvs xs /\
  ∃o es ep,h.get? a=some o/\o.ExactDict/\o.data=.dict es ep/\es.toList=xs.map (entryOfKey (tupleKind (z7 P w)))/\(xs.map (·.1)).Nodup
 |.set S n=>h.SetOf (intKind P w) a S n
 |.ins C dx fs=>H dx=some (.own a)/\fs.length<=1000/\dx≠a/\h.get? a=some (W.instObj C dx) /\
  ∃mA,h.Ns1 dx mA/\(∀f,Tv (fs.lookup f) (mA f))/\PySem.Within mA (fs.map (·.1))
 |.own _=>∃o,h.get? a=some o
 |.xd fs=>∃mA,h.Ns1 a mA/\∀f,Tv (fs.lookup f) (mA f)
 |.rng lo hi=>∃t u v,h.get? a=some {cls:=.type "range",data:=.fields #[.int lo t,.int hi u,.int 1 v]}
 |.frz o u=>h.get? a=some o/\tF H h a u
 |.tbl ps=>h.get? a=some {cls:=.none,data:=.fields ps }
 |.met f x=>h.get? a=some (W.methodObj (.ref f) (.ref x))
 |.ext φ=>φ h/\(∃o,h.get? a=some o)/\∀h1 h2:yR,φ h1->(∀o,h1.get? a=some o->h2.get? a=some o)->φ h2
def HOk(H:Hp)(h:yR):Prop:=∀a o,H a=some o->tF P w H h a o
end
section
variable {P:yu}{w:yI}{H H':Hp}{h h':yR}{a:yb}{o:HO}
def tF.lt(x:tF P w H h a o):a<h.objs.size:=by
 cases o with
 |lst xs=>obtain⟨_,_,_,_,e⟩:=x;exact ym e
 |tup xs=>obtain⟨_,_,_,p⟩:=x;exact p.lt
 |dK kvs=>obtain⟨_,_,_,_,o,_,_,e,_⟩:=x;exact ym e
 |dT kvs=>obtain⟨_,_,_,_,o,_,_,e,_⟩:=x;exact ym e
 |set S n=>obtain⟨o,_,_,_,e,_⟩:=x;exact ym e
 |ins C dx fs=>obtain⟨_,_,_,e,_⟩:=x;exact ym e
 |own y=>obtain⟨_,e⟩:=x;exact ym e
 |xd fs=>obtain⟨_,⟨_,_,_,e,_⟩,_⟩:=x;exact ym e
 |rng lo hi=>obtain⟨_,_,_,e⟩:=x;exact ym e
 |frz ob u=>obtain⟨e,_⟩:=x;exact ym e
 |tbl ps=>exact ym (show h.get? a=some _ from x)
 |met f y=>exact ym (show h.get? a=some _ from x)
 |ext φ=>obtain⟨_,⟨_,e⟩,_⟩:=x;exact ym e
def Paired.mapP{α β:Type}{F G:α->β->Prop}:∀{l₁:List α} {l₂:List β},Paired F l₁ l₂->(∀a b,F a b->G a b)->Paired G l₁ l₂
 |_,_,.nil,_ =>.nil
 |_,_,.cons r t,f =>.cons (f _ _ r) (Paired.mapP t f)
def tF.stay(x:tF P w H h a o)(k:∀b u,(b=a\/H b=some (.own a))->h.get? b=some u->h'.get? b=some u)
 (ho:∀b,H b=some (.own a)->H' b=some (.own a)) (ht:∀b xs,H b=some (.tup xs)->H' b=some (.tup xs)):tF P w H' h' a o:=by
 induction o with
 |lst xs=>obtain⟨z,its,n,r,e⟩:=x;exact⟨z,its,n,r,k _ _ (.inl rfl) e⟩
 |tup xs=>obtain⟨z,its,r,ob,e,c⟩:=x;exact⟨z,its,r,ob,k _ _ (.inl rfl) e,c⟩
 |dK kvs=>obtain⟨z,y,vs,r,ob,es,ep,e,c⟩:=x;exact⟨z,y,vs,r,ob,es,ep,k _ _ (.inl rfl) e,c⟩
 |dT kvs=>
  obtain⟨z,y,xs,r,ob,es,ep,e,c⟩:=x;exact⟨z,y,xs,Paired.mapP r λp q z=>⟨z.1,ht _ _ z.2.1,z.2.2⟩,ob,es,ep,k _ _ (.inl rfl) e,c⟩
 |set S n=>obtain⟨ob,es,ep,t,e,c⟩:=x;exact⟨ob,es,ep,t,k _ _ (.inl rfl) e,c⟩
 |ins C dx fs=>
  obtain⟨d,z,ne,e,mA,⟨od,es,ep,e2,c⟩,r⟩:=x;exact⟨ho _ d,z,ne,k _ _ (.inl rfl) e,mA,⟨od,es,ep,k _ _ (.inr d) e2,c⟩,r⟩
 |own y=>obtain⟨ob,e⟩:=x;exact⟨ob,k _ _ (.inl rfl) e⟩
 |xd fs=>obtain⟨mA,⟨od,es,ep,e,c⟩,r⟩:=x;exact⟨mA,⟨od,es,ep,k _ _ (.inl rfl) e,c⟩,r⟩
 |rng lo hi=>obtain⟨t,u,v,e⟩:=x;exact⟨t,u,v,k _ _ (.inl rfl) e⟩
 |frz ob u ih=>obtain⟨e,q⟩:=x;exact⟨k _ _ (.inl rfl) e,ih q⟩
 |tbl ps=>
  have e:h.get? a=some {cls:=.none,data:=.fields ps }:=x;show h'.get? a=some {cls:=.none,data:=.fields ps };exact k a _ (.inl rfl) e
 |met f y=>
  have e:h.get? a=some (W.methodObj (.ref f) (.ref y)):=x;show h'.get? a=some (W.methodObj (.ref f) (.ref y));exact k a _ (.inl rfl) e
 |ext φ=>obtain⟨p,⟨o,e⟩,st⟩:=x;exact⟨st _ _ p λo q=>k _ _ (.inl rfl) q,⟨o,k _ _ (.inl rfl) e⟩,st⟩
def HOk.lt(x:HOk P w H h)(e:H a=some o):a<h.objs.size:=(x a o e).lt
def HOk.fresh(x:HOk P w H h)(e:h.objs.size<=a):H a=none:=by
 cases q:H a with
 |none=>rfl
 |some u=>exact absurd (yv (x.lt q) e) (yQ _)
def HOk.kept(x:HOk P w H h)(k:∀b u,h.get? b=some u->h'.get? b=some u):HOk P w H h':=λa o e=>
 (x a o e).stay (λb u _ q=>k b u q) (λ_ q=>q) λ_ _ q=>q
def HOk.laid(x:HOk P w H h)(k:∀b u,h.get? b=some u->h'.get? b=some u)(hp:h.objs.size<=a)(new:tF P w (upd H a o) h' a o):HOk P w (upd H a o) h':=λb u e=>by
 have hn:=x.fresh hp
 by_cases hb:b=a
 ·subst hb;rw[zt]at e;cases e;exact new
 ·rw[zr hb]at e;exact(x b u e).stay (λc v _ q=>k c v q) (λc q=>by rw[zr (zE q hn)];exact q) λc xs q=>by rw[zr (zE q hn)];exact q
end
def Rd(H:Hp)(a:yb)(u:HO):Prop:=H a=some u\/∃o,H a=some (.frz o u)
def Rd.ok{P:yu}{w:yI}{H:Hp}{h:yR}{a:yb}{u:HO}(r:Rd H a u)(x:HOk P w H h):tF P w H h a u:=by
 rcases r with r|⟨o,r⟩
 ·exact x a u r
 ·obtain⟨_,q⟩:=x a _ r;exact q
def Mut:Option HO->Prop
 |some (.lst _)=>True
 |some (.dK _)=>True
 |some (.dT _)=>True
 |some (.set _ _)=>True
 |some (.ins _ _ _)=>True
 |some (.ext _)=>True
 |_=>False
section
variable {P:yu}{w:yI}{H:Hp}{h h':yR}{x e:yb}{o':HO}
def HOk.write(ok:HOk P w H h)(mu:Mut (H x))(he:e=x\/H e=some (.own x))(k:∀b u,b≠e->h.get? b=some u->h'.get? b=some u)(heo:∃u,h'.get? e=some u)
 (new:tF P w (upd H x o') h' x o'):HOk P w (upd H x o') h':=λb u q=>by
 have nown:∀c y,H c=some (.own y)->c≠x:=λc y r z=>by subst z;rw[r]at mu;exact mu
 have ntup:∀c xs,H c=some (.tup xs)->c≠x:=λc xs r z=>by subst z;rw[r]at mu;exact mu
 by_cases hb:b=x
 ·subst hb;rw[zt]at q;cases q;exact new
 ·rw[zr hb]at q
  by_cases hbe:b=e
  ·have q':H b=some (.own x):=by
    rcases he with z|z
    ·exact absurd (hbe.trans z) hb
    ·rw[hbe];exact z
   rw[q]at q';cases q';obtain⟨v,hv⟩:=heo;exact⟨v,by rw[hbe];exact hv⟩
  ·refine(ok b u q).stay (λc v hc r=>k c v ?_ r) (λc r=>by rw[zr (nown c b r)];exact r) λc xs r=>by rw[zr (ntup c xs r)];exact r
   rcases hc with rfl|hc
   ·exact hbe
   ·rintro rfl;rcases he with z|z
    ·exact nown c b hc z
    ·rw[hc]at z;cases z;exact hb rfl
end
structure Un(fs ex:List yb)(H H':Hp)(h h':yR):Prop where
 keep:∀b o,h.get? b=some o->H b=none->b∉fs->b∉ex->h'.get? b=some o
 slot:∀b o,h.get? b=some o->H b=none->b∈fs->b∉ex->∃sl,h'.get? b=some {o with slots:=sl }
 free:∀b o,h.get? b=some o->H b=none->b∉ex->H' b=none
 there:∀b o,h.get? b=some o->b∉ex->∃o',h'.get? b=some o'
 tups:∀b xs,H b=some (.tup xs)->H' b=some (.tup xs)
 Tq:∀b o u,H b=some (.frz o u)->H' b=some (.frz o u)
 Tw:∀b ps,H b=some (.tbl ps)->∃more,H' b=some (.tbl (ps++more))
section
variable {fs fs' ex ex':List yb}{H H1 H2:Hp}{h h1 h2 h':yR}{a x e:yb}{o:HO}
def Un.any(u:Un fs ex H H1 h h1){b:yb}{ob:Yw}(q:h.get? b=some ob)(n:H b=none)(hx:b∉ex):∃sl,h1.get? b=some {ob with slots:=sl }:=by
 by_cases hb:b∈fs
 ·exact u.slot b ob q n hb hx
 ·exact⟨ob.slots,u.keep b ob q n hb hx⟩
def Un.trans(a:Un fs ex H H1 h h1)(b:Un fs ex H1 H2 h1 h2):Un fs ex H H2 h h2 where
 keep:=λc ob q n hc hx=>b.keep c ob (a.keep c ob q n hc hx) (a.free c ob q n hx) hc hx
 slot:=λc ob q n hc hx=>by
  obtain⟨sl,e1⟩:=a.slot c ob q n hc hx;obtain⟨sl',e2⟩:=b.slot c _ e1 (a.free c ob q n hx) hc hx;exact⟨sl',e2⟩
 free:=λc ob q n hx=>by
  obtain⟨o',e1⟩:=a.there c ob q hx;exact b.free c o' e1 (a.free c ob q n hx) hx
 there:=λc ob q hx=>by
  obtain⟨o',e1⟩:=a.there c ob q hx;exact b.there c o' e1 hx
 tups:=λc xs q=>b.tups c xs (a.tups c xs q)
 Tq:=λc ob xs q=>b.Tq c ob xs (a.Tq c ob xs q)
 Tw:=λc ps q=>by
  obtain⟨m1,e1⟩:=a.Tw c ps q;obtain⟨m2,e2⟩:=b.Tw c _ e1;exact⟨m1++m2,by rw[e2,Array.append_assoc]⟩
def Un.kept(k:∀b u,h.get? b=some u->h'.get? b=some u):Un fs ex H H h h' :=
 ⟨λb ob q _ _ _=>k b ob q,λb ob q _ _ _=>⟨ob.slots,k b ob q⟩,λ_ _ _ n _=>n,λb ob q _=>⟨ob,k b ob q⟩,λ_ _ q=>q,λ_ _ _ q=>q,λ_ ps q=>⟨#[],by rw[q];simp⟩⟩
def Un.refl:Un fs ex H H h h:=Un.kept λ_ _ q=>q
def Un.laid(k:∀b u,h.get? b=some u->h'.get? b=some u)(hp:h.objs.size<=a)(hn:H a=none):Un fs ex H (upd H a o) h h' where
 keep:=λb u q _ _ _=>k b u q
 slot:=λb u q _ _ _=>⟨u.slots,k b u q⟩
 free:=λb u q n _=>by rw[zr (yw (yv (ym q) hp))];exact n
 there:=λb u q _=>⟨u,k b u q⟩
 tups:=λb xs q=>by rw[zr (zE q hn)];exact q
 Tq:=λb u xs q=>by rw[zr (zE q hn)];exact q
 Tw:=λb ps q=>⟨#[],by rw[zr (zE q hn),q];simp⟩
def Un.write(mu:Mut (H x))(he:e=x\/H e=some (.own x))(k:∀b u,b≠e->h.get? b=some u->h'.get? b=some u)(heo:∃u,h'.get? e=some u):Un fs ex H (upd H x o) h h':=by
 have hx:∀b,H b=none->b≠x:=λb n z=>by subst z;rw[n]at mu;exact mu
 have hb:∀b,H b=none->b≠e:=λb n z=>by
  subst z;rcases he with r|r
  ·exact hx b n r
  ·rw[n]at r;cases r
 have hm:∀b u,H b=some u->¬Mut (some u)->b≠x:=λb u q nm z=>by subst z;rw[q]at mu;exact nm mu
 refine⟨λb u q n _ _=>k b u (hb b n) q,λb u q n _ _=>⟨u.slots,k b u (hb b n) q⟩,λb u q n _=>by rw[zr (hx b n)];exact n,λb u q _=>?_,
  λb xs q=>by rw[zr (hm b _ q λz=>z)];exact q,λb u xs q=>by rw[zr (hm b _ q λz=>z)];exact q,λb ps q=>⟨#[],by rw[zr (hm b _ q λz=>z),q];simp⟩⟩
 by_cases hbe:b=e
 ·subst hbe;exact heo
 ·exact⟨u,k b u hbe q⟩
end
def trk(h:yR)(H:Hp):List yb:=(Yc h.objs.size).filter λa=>(H a).isSome
def z5p(h:yR)(H:Hp):yR:=W.hideAll h (trk h H)
def z1n(h:yR)(H:Hp):(z5p h H).objs.size=h.objs.size:=W.hideAll_size _ _
def zar{h:yR}{H:Hp}{b:yb}{o:Yw}(e:h.get? b=some o)(n:H b=none):(z5p h H).get? b=some o :=
 W.hideAll_get _ e λhm=>by
  have q:(H b).isSome=true:=(List.mem_filter.mp hm).2;rw[n]at q;simp at q
def zjt{h:yR}{H:Hp}{b:yb}{o:Yw}(e:(z5p h H).get? b=some o):h.get? b=some o/\H b=none:=by
 have e':h.get? b=some o:=W.of_hideAll (trk h H) e;refine⟨e',?_⟩
 cases q:H b with
 |none=>rfl
 |some x=>
  have hm:b∈trk h H:=List.mem_filter.mpr ⟨List.mem_range.mpr (ym e'),by simp[q]⟩;have z:(z5p h H).get? b=none:=W.hideAll_none (trk h H) hm;rw[z]at e;cases e
def zts(g h:yR)(L:yb):List (yb×Yw):=(Yc h.objs.size).filterMap λa=>if a=L\/(g.get? a).isSome=true then none else(h.get? a).map λo=>(a,o)
def rest(g h:yR)(L d:yb):List (yb×Yw):=(zts g h L).filter λp=>decide (p.1≠d)
structure Mod(K:yt)(mg:yr->Option Value)(base:yR):Prop where
 kin:K.In base
 glob:base.Ns yi mg
 blt:∃mb,base.Ns builtinsNs mb/\∀x:yr,x≠"__name__"->mb x=yL x
 nolimit:base.NoLimit
structure Cx where
 prog:yu
 w:yI
 K:yt
 mg:yr->Option Value
 base:yR
 A:yJ
 N:List yr
 s₀:yd
 H₀:Hp
 env:Env
 outer:List Env
 stack:List Env
 ex:List yb
 fn:yr->Bool
 calm:Bool
 pn:List (yb×Yw)
 xe:Value->yd->Prop
def frs(l:List Env):List yb:=l.filterMap (·.frame)
abbrev Cx.fs(X:Cx):List yb:=frs X.outer
def Vis(sc:xG)(x:yr):Prop:=sc.names.lookup x=some .local\/sc.names.lookup x=some .cell\/sc.names.lookup x=some .free
def Loc(sc:xG)(x:yr):Prop:=sc.names.lookup x=some .local\/sc.names.lookup x=some .cell
def z9v(env:Env)(h:yR)(m:yr->Option Value)(x:yr)(u:Value):Prop :=
 (env.kindOf x=some .local/\m x=some u)\/((env.kindOf x=some .cell\/env.kindOf x=some .free)/\∃c,env.cells.lookup x=some c/\h.IsCell c (some u))
structure Cx.Ok(X:Cx):Prop where
 mod:Mod X.K X.mg X.base
 kind:X.env.scope.kind=.function
 glob:X.env.globals=yi
 blt:X.env.builtins=builtinsNs
 above:X.s₀.heap.objs.size<=X.env.locals
 inj:∀x y c,X.env.cells.lookup x=some c->X.env.cells.lookup y=some c->x=y
 has:∀x,(X.env.kindOf x=some .cell\/X.env.kindOf x=some .free)->∃c,X.env.cells.lookup x=some c
 cab:∀x c,X.fn x=true->X.env.cells.lookup x=some c->X.s₀.heap.objs.size<=c
 hd:X.calm=true->X.A.handled=none
 frames:X.A.frames=some X.stack
 stk:X.stack=X.outer\/(X.stack=X.env::X.outer/\X.env.frame=some X.env.locals)
 exf:∀b∈X.ex,b≠X.env.locals/\∀x c,X.env.cells.lookup x=some c->c≠b
 bs:∀b o,X.base.get? b=some o->X.s₀.heap.get? b=some o/\X.H₀ b=none
 bsz:X.base.objs.size<=X.s₀.heap.objs.size
 Sb:∀b o,X.base.get? b=some o->b∉X.ex
 Se:∀b∈X.ex,b∉X.fs
 TQ:X.s₀.heap.FunFrames X.base X.outer
 frf:∀b∈X.fs,X.H₀ b=none
structure Inv(X:Cx)(pins:List (yb×Yw))(σ:List (Option V))(H:Hp)(s:yd):Prop where
 ok:X.Ok
 os:s.os=X.s₀.os
 bare:AllBare s.gens
 base:Un X.fs X.ex X.H₀ H X.s₀.heap s.heap
 loc:∃m,s.heap.Ns X.env.locals m/\∀(i:Nat)(x:yr)(v:V),X.N[i]?=some x->σ[i]?=some (some v)->Vis X.env.scope x->∃u,RelV v u/\z9v X.env s.heap m x u
 cell:∀x c,X.env.cells.lookup x=some c->∃v,s.heap.IsCell c v
 free:H X.env.locals=none
 freeC:∀x c,X.env.cells.lookup x=some c->H c=none
 pin:∀p∈X.pn++pins,s.heap.get? p.1=some p.2/\H p.1=none/\p.1≠X.env.locals/\p.1∉X.fs/\∀v,p.2.data≠.cell v
 hok:HOk X.prog X.w H s.heap
 len:σ.length=X.N.length
section
variable {X:Cx}{pins:List (yb×Yw)}{σ:List (Option V)}{H H':Hp}{s:yd}{h':yR}
def Cx.Ok.nofr(ok:X.Ok){b:yb}{o:Yw}(e:X.base.get? b=some o):b∉X.fs:=λhb=>by
 have:=(ok.TQ.mem hb).1;rw[e]at this;cases this
def Inv.bs(I:Inv X pins σ H s):∀b o,X.base.get? b=some o->s.heap.get? b=some o/\H b=none:=λb o e=>
 ⟨I.base.keep b o (I.ok.bs b o e).1 (I.ok.bs b o e).2 (I.ok.nofr e) (I.ok.Sb b o e),I.base.free b o (I.ok.bs b o e).1 (I.ok.bs b o e).2 (I.ok.Sb b o e)⟩
def Inv.bk(I:Inv X pins σ H s):∀b o,X.base.get? b=some o->s.heap.get? b=some o:=λb o e=>(I.bs b o e).1
def Inv.mod(I:Inv X pins σ H s):Mod X.K X.mg X.base:=I.ok.mod
def Inv.kIn(I:Inv X pins σ H s):X.K.In s.heap:=I.ok.mod.kin.keeps I.bk
def Inv.fr(I:Inv X pins σ H s):∃m,Fr X.base X.env.locals s.heap m :=
 let ⟨m,hn,_⟩:=I.loc
 ⟨m,hn,I.bk,yA I.ok.bsz I.ok.above⟩
def Inv.lt(I:Inv X pins σ H s):X.env.locals<s.heap.objs.size:=let ⟨_,hn,_⟩:=I.loc;hn.lt
def Inv.sz(I:Inv X pins σ H s):X.s₀.heap.objs.size<=s.heap.objs.size:=yA I.ok.above (YN I.lt)
def Inv.nofs(I:Inv X pins σ H s){a:yb}(h:s.heap.objs.size<=a):a∉X.fs:=λhb=>by
 obtain⟨_,o,ho,_⟩:=I.ok.TQ.mem hb;exact absurd (yv (ym ho) (yA I.sz h)) (yQ _)
def Inv.cne(I:Inv X pins σ H s):∀x c,X.env.cells.lookup x=some c->c≠X.env.locals:=λx c e z=>by
 obtain⟨v,o,ho,hd⟩:=I.cell x c e;obtain⟨m,⟨o',es,ep,ho',hd',_⟩,_⟩:=I.loc;rw[z,ho']at ho;cases ho;rw[hd']at hd;cases hd
def Inv.TQ(I:Inv X pins σ H s):s.heap.FunFrames X.base X.outer:=by
 have all:∀(l:List Env),(∀b∈frs l,b∈X.fs)->X.s₀.heap.FunFrames X.base l->s.heap.FunFrames X.base l:=by
  intro l
  induction l with
  |nil=>intro _ _;trivial
  |cons env r ih=>
   intro hs hl;obtain⟨hk,⟨L,o,hf,hn,ho,hd⟩,hr⟩:=hl;have hL:L∈X.fs:=hs L (by unfold frs;rw[filterMap_cons,hf];exact mem_cons_self);obtain⟨sl,e⟩:=I.base.slot L o ho (I.ok.frf L hL) hL λz=>I.ok.Se L z hL;exact⟨hk,⟨L,_,hf,hn,e,hd⟩,ih (λb hb=>hs b (by unfold frs;rw[filterMap_cons,hf];exact mem_cons_of_mem _ hb)) hr⟩
 exact all X.outer (λ_ hb=>hb) I.ok.TQ
def Inv.stack(I:Inv X pins σ H s):s.heap.FunFrames X.base X.stack:=by
 rcases I.ok.stk with e|⟨e,hf⟩
 ·rw[e];exact I.TQ
 ·rw[e];obtain⟨m,hn,_⟩:=I.loc;refine .cons (by rw[I.ok.kind];decide) hf hn ?_ I.TQ;exact Heap.get?_none_of_le (yA I.ok.bsz I.ok.above)
def Inv.sx(I:Inv X pins σ H s):∀b∈frs X.stack,b∈X.env.locals::X.fs:=λb hb=>by
 rcases I.ok.stk with e|⟨e,hf⟩
 ·rw[e]at hb;exact mem_cons_of_mem _ hb
 ·rw[e]at hb;unfold frs at hb;rw[filterMap_cons,hf]at hb;exact hb
def Inv.TF(I:Inv X pins σ H s):∀b∈frs X.stack,H b=none:=λb hb=>by
 rcases List.mem_cons.mp (I.sx b hb) with e|hb
 ·rw[e];exact I.free
 ·obtain⟨_,o,ho,_⟩:=I.ok.TQ.mem hb;exact I.base.free b o ho (I.ok.frf b hb) λz=>I.ok.Se b z hb
def Inv.step{g':Array GenState}{t':Nat}{d':Drawn}{ch:List yb}(I:Inv X pins σ H s)
 (hch:∀b∈ch,(b∈X.ex\/X.s₀.heap.objs.size<=b)/\b≠X.env.locals/\(∀x c,X.env.cells.lookup x=some c->c≠b)/\∀p∈X.pn++pins,p.1≠b)
 (keep:∀b o,b≠X.env.locals->b∉X.fs->b∉ch->s.heap.get? b=some o->H b=none->h'.get? b=some o)
 (slot:∀b o,b≠X.env.locals->b∈X.fs->b∉ch->s.heap.get? b=some o->H b=none->∃sl,h'.get? b=some {o with slots:=sl }) (free:∀b o,b∉ch->s.heap.get? b=some o->H b=none->H' b=none)
 (there:∀b o,b∉ch->s.heap.get? b=some o->∃o',h'.get? b=some o')
 (tups:∀b xs,H b=some (.tup xs)->H' b=some (.tup xs)) (Tq:∀b o u,H b=some (.frz o u)->H' b=some (.frz o u)) (Tw:∀b ps,H b=some (.tbl ps)->∃more,H' b=some (.tbl (ps++more)))
 (ns:∀m,s.heap.Ns X.env.locals m->h'.Ns X.env.locals m) (hok:HOk X.prog X.w H' h') (hg:AllBare g') :
 Inv X pins σ H' {s with heap:=h',gens:=g',drawn:=d',toks:=t' }:=by
 have neL:∀b o,X.s₀.heap.get? b=some o->b≠X.env.locals:=λb o e=>yw (yv (ym e) I.ok.above)
 have neC:∀b o,X.s₀.heap.get? b=some o->b∉X.ex->b∉ch:=λb o e hx hb=>by
  rcases(hch b hb).1 with z|z
  ·exact hx z
  ·exact absurd (yv (ym e) z) (yQ _)
 have cellK:∀x c,X.env.cells.lookup x=some c->∀v,s.heap.IsCell c v->h'.IsCell c v:=λx c e v ⟨o,ho,hd⟩=>by
  have nch:c∉ch:=λz=>(hch c z).2.2.1 x c e rfl
  by_cases hc:c∈X.fs
  ·obtain⟨sl,q⟩:=slot c o (I.cne x c e) hc nch ho (I.freeC x c e);exact⟨_,q,hd⟩
  ·exact⟨o,keep c o (I.cne x c e) hc nch ho (I.freeC x c e),hd⟩
 refine⟨I.ok,I.os,hg,⟨λb o e n hb hx=>?_,λb o e n hb hx=>?_,λb o e n hx=>?_,λb o e hx=>?_,λb xs e=>tups b xs (I.base.tups b xs e),λb o xs e=>Tq b o xs (I.base.Tq b o xs e),λb ps e=>?_⟩,?_,λx c e=>?_,?_,λx c e=>?_,λp hp=>?_,hok,I.len⟩
 ·exact keep b o (neL b o e) hb (neC b o e hx) (I.base.keep b o e n hb hx) (I.base.free b o e n hx)
 ·obtain⟨sl,e1⟩:=I.base.slot b o e n hb hx;obtain⟨sl',e2⟩:=slot b _ (neL b o e) hb (neC b o e hx) e1 (I.base.free b o e n hx);exact⟨sl',e2⟩
 ·obtain⟨o',e1⟩:=I.base.there b o e hx;exact free b o' (neC b o e hx) e1 (I.base.free b o e n hx)
 ·obtain⟨o',e1⟩:=I.base.there b o e hx;exact there b o' (neC b o e hx) e1
 ·obtain⟨m1,e1⟩:=I.base.Tw b ps e;obtain⟨m2,e2⟩:=Tw b _ e1;exact⟨m1++m2,by rw[e2,Array.append_assoc]⟩
 ·obtain⟨m,hn,hl⟩:=I.loc;refine⟨m,ns m hn,λi x v e1 e2 e3=>?_⟩;obtain⟨u,r,l⟩:=hl i x v e1 e2 e3;refine⟨u,r,?_⟩;rcases l with l|⟨k,c,e,z⟩
  ·exact .inl l
  ·exact .inr ⟨k,c,e,cellK x c e _ z⟩
 ·obtain⟨v,z⟩:=I.cell x c e;exact⟨v,cellK x c e v z⟩
 ·obtain⟨m,⟨o,_,_,ho,_⟩,_⟩:=I.loc;exact free _ o (λz=>(hch _ z).2.1 rfl) ho I.free
 ·obtain⟨v,o,ho,hd⟩:=I.cell x c e;exact free c o (λz=>(hch c z).2.2.1 x c e rfl) ho (I.freeC x c e)
 ·obtain⟨e,n,ne,nf,d⟩:=I.pin p hp;have nch:p.1∉ch:=λz=>(hch p.1 z).2.2.2 p hp rfl;exact⟨keep p.1 p.2 ne nf nch e n,free p.1 p.2 nch e n,ne,nf,d⟩
def Inv.un{t':Nat}(I:Inv X pins σ H s)(u:Un X.fs [] H H' s.heap h')(hok:HOk X.prog X.w H' h'):Inv X pins σ H' {s with heap:=h',toks:=t' }:=by
 obtain⟨m,⟨o,es,ep,ho,r⟩,_⟩:=id I.loc;obtain⟨sl,hL⟩:=u.any ho I.free (by simp)
 exact I.step (g':=s.gens) (d':=s.drawn) (ch:=[]) (λ_ z=>nomatch z) (λb o _ hb _ e n=>u.keep b o e n hb (by simp)) (λb o _ hb _ e n=>u.slot b o e n hb (by simp)) (λb o _ e n=>u.free b o e n (by simp)) (λb o _ e=>u.there b o e (by simp)) u.tups u.Tq u.Tw (λm' hm=>by
  obtain⟨o',es',ep',ho',r'⟩:=hm;rw[ho]at ho';cases ho';exact⟨_,es',ep',hL,r'⟩) hok I.bare
def Inv.call{g':Array GenState}{t':Nat}{d':Drawn}{ch:List yb}(I:Inv X pins σ H s)(u:Un (frs X.stack) ch H H' s.heap h')(hok:HOk X.prog X.w H' h')(hg:AllBare g')
 (hch:∀b∈ch,(b∈X.ex\/X.s₀.heap.objs.size<=b)/\b≠X.env.locals/\(∀x c,X.env.cells.lookup x=some c->c≠b)/\∀p∈X.pn++pins,p.1≠b) :
 Inv X pins σ H' {s with heap:=h',gens:=g',drawn:=d',toks:=t' }:=by
 obtain⟨m,⟨o,es,ep,ho,r⟩,_⟩:=id I.loc;obtain⟨sl,hL⟩:=u.any ho I.free λz=>(hch _ z).2.1 rfl
 exact I.step (ch:=ch) hch (λb o hL hb hc e n=>u.keep b o e n (λz=>(List.mem_cons.mp (I.sx b z)).elim hL hb) hc) (λb o _ _ hc e n=>u.any e n hc) (λb o hc e n=>u.free b o e n hc) (λb o hc e=>u.there b o e hc) u.tups u.Tq u.Tw (λm' hm=>by
  obtain⟨o',es',ep',ho',r'⟩:=hm;rw[ho]at ho';cases ho';exact⟨_,es',ep',hL,r'⟩) hok hg
def Inv.turned{t':Nat}{it:yb}(I:Inv X pins σ H s)(k:∀b o,b≠it->s.heap.get? b=some o->h'.get? b=some o)(hn:H it=none)(hL:it≠X.env.locals)
 (h1:it∈X.ex\/X.s₀.heap.objs.size<=it) (h2:∀x c,X.env.cells.lookup x=some c->c≠it) (h3:∀p∈X.pn++pins,p.1≠it):Inv X pins σ H {s with heap:=h',toks:=t' }:=by
 have nit:∀b u,H b=some u->b≠it:=λb u e z=>by rw[z,hn]at e;cases e
 refine I.step (g':=s.gens) (d':=s.drawn) (ch:=[it]) (λb hb=>?_) (λb o _ _ hc e _=>k b o (λz=>hc (by simp[z])) e) (λb o _ _ hc e _=>⟨o.slots,k b o (λz=>hc (by simp[z])) e⟩) (λ_ _ _ _ n=>n)
  (λb o hc e=>⟨o,k b o (λz=>hc (by simp[z])) e⟩) (λ_ _ e=>e) (λ_ _ _ e=>e) (λb ps e=>⟨#[],by rw[e];simp⟩) (λm hm=>?_) (λb u e=>?_) I.bare
 ·have e:b=it:=by simpa using hb
  subst e;exact⟨h1,hL,h2,h3⟩
 ·obtain⟨o,es,ep,ho,r⟩:=hm;exact⟨o,es,ep,k _ o (yM hL) ho,r⟩
 ·refine(I.hok b u e).stay (λc v hc q=>k c v ?_ q) (λ_ q=>q) λ_ _ q=>q;rcases hc with z|z
  ·rw[z];exact nit b u e
  ·exact nit c _ z
def Inv.tok(I:Inv X pins σ H s)(t:Nat):Inv X pins σ H {s with toks:=t }:=I.un (h':=s.heap) (t':=t) Un.refl I.hok
def Inv.kept{t':Nat}(I:Inv X pins σ H s)(k:∀b u,s.heap.get? b=some u->h'.get? b=some u):Inv X pins σ H {s with heap:=h',toks:=t' }:=I.un (Un.kept k) (I.hok.kept k)
def Inv.laid{a:yb}{o:HO}{t':Nat}(I:Inv X pins σ H s)(k:∀b u,s.heap.get? b=some u->h'.get? b=some u)(hp:s.heap.objs.size<=a)(new:tF X.prog X.w (upd H a o) h' a o) :
 Inv X pins σ (upd H a o) {s with heap:=h',toks:=t' }:=I.un (Un.laid k hp (I.hok.fresh hp)) (I.hok.laid k hp new)
def Inv.write{x e:yb}{o:HO}{t':Nat}(I:Inv X pins σ H s)(mu:Mut (H x))(he:e=x\/H e=some (.own x))(k:∀b u,b≠e->s.heap.get? b=some u->h'.get? b=some u)(heo:∃u,h'.get? e=some u)
 (new:tF X.prog X.w (upd H x o) h' x o):Inv X pins σ (upd H x o) {s with heap:=h',toks:=t' }:=I.un (Un.write mu he k heo) (I.hok.write mu he k heo new)
def Inv.weak{σ':List (Option V)}(I:Inv X pins σ H s)(hl:σ'.length=σ.length)(w:∀(i:Nat) v,σ'[i]?=some (some v)->σ[i]?=some (some v)):Inv X pins σ' H s :=
 ⟨I.ok,I.os,I.bare,I.base,let ⟨m,hn,hl'⟩:=I.loc;⟨m,hn,λi x v e1 e2 e3=>hl' i x v e1 (w i v e2) e3⟩,I.cell,I.free,I.freeC,I.pin,I.hok,hl.trans I.len⟩
def Inv.sy{pins':List (yb×Yw)}(I:Inv X pins σ H s)(h:∀p∈pins',s.heap.get? p.1=some p.2/\H p.1=none/\p.1≠X.env.locals/\p.1∉X.fs/\∀v,p.2.data≠.cell v):Inv X pins' σ H s :=
 ⟨I.ok,I.os,I.bare,I.base,I.loc,I.cell,I.free,I.freeC,λp hp=>(List.mem_append.mp hp).elim (λz=>I.pin p (List.mem_append_left _ z)) (h p),I.hok,I.len⟩
def z4m{N:List yr}(hN:N.Nodup){i j:Nat}{x:yr}(a:N[i]?=some x)(b:N[j]?=some x):i=j:=by
 obtain⟨h1,e1⟩:=List.getElem?_eq_some_iff.mp a;obtain⟨h2,e2⟩:=List.getElem?_eq_some_iff.mp b;exact(List.getElem_inj hN).mp (e1.trans e2.symm)
def zQk{M:Model}{A:yJ}{E:Value->yd->Prop}{i:Nat}{x:yr}{v:V}{u:Value}{Q:Unit->yd->Prop}(I:Inv X pins σ H s)(hN:X.N.Nodup)(hi:X.N[i]?=some x)(hx:Loc X.env.scope x)(r:RelV v u)
 (h:∀s',Inv X pins (σ.set i (some v)) H s'->(∃a,Yq a s.heap s'.heap/\(a=X.env.locals\/X.env.cells.lookup x=some a))->Q () s') (hf:X.fn x=true\/X.env.scope.names.lookup x=some .local:=by first|exact .inl rfl|exact .inr rfl|assumption):yq M A (storeName X.env x u) Q E s:=by
 obtain⟨m,hn,hl⟩:=id I.loc;have hcls:(X.env.scope.kind == .class||(X.env.scope.kind == .module&&X.env.locals != X.env.globals))=false:=by rw[I.ok.kind];rfl
 have hiσ:i<σ.length:=by rw[I.len];exact(List.getElem?_eq_some_iff.mp hi).1
 have cne:=I.cne
 have tracked:∀{a:yb} {h':yR},(∃o,s.heap.get? a=some o/\H a=none)->Yq a s.heap h'->HOk X.prog X.w H h':=λ{a h'} ha hs b ob e=>by
  obtain⟨_,_,hfree⟩:=ha;refine(I.hok b ob e).stay (λc w' hc q=>(hs.2 c ?_).trans q) (λ_ q=>q) λ_ _ q=>q;rintro rfl;rcases hc with rfl|hc
  ·rw[hfree]at e;cases e
  ·rw[hfree]at hc;cases hc
 rcases hx with hk|hk
 ·refine wpAny_storeName_local hk hn (λh' hn' hs=>?_) hcls;obtain⟨oL,_,_,hoL,_⟩:=id hn;refine h _ ⟨I.ok,I.os,I.bare,⟨λb o e n hb hx=>?_,λb o e n hb hx=>?_,I.base.free,λb o e hx=>?_,I.base.tups,I.base.Tq,I.base.Tw⟩,⟨_,hn',λj y v' e1 e2 e3=>?_⟩,λy c e=>?_,I.free,I.freeC,λp hp=>?_,tracked ⟨oL,hoL,I.free⟩ hs,by simpa using I.len⟩ ⟨_,hs,.inl rfl⟩
  ·exact(hs.2 b (yw (yv (ym e) I.ok.above))).trans (I.base.keep b o e n hb hx)
  ·obtain⟨sl,e1⟩:=I.base.slot b o e n hb hx;exact⟨sl,(hs.2 b (yw (yv (ym e) I.ok.above))).trans e1⟩
  ·obtain⟨o',e1⟩:=I.base.there b o e hx;exact⟨o',(hs.2 b (yw (yv (ym e) I.ok.above))).trans e1⟩
  ·by_cases hj:j=i
   ·subst hj;rw[hi]at e1;cases e1;rw[yO hiσ]at e2;cases e2;exact⟨u,r,.inl ⟨hk,by simp⟩⟩
   ·rw[yP (yM hj)]at e2;obtain⟨u',r',q⟩:=hl j y v' e1 e2 e3;refine⟨u',r',?_⟩;rcases q with ⟨k,e⟩|⟨k,c,e,z⟩
    ·refine .inl ⟨k,?_⟩;have:y≠x:=λe=>hj (z4m hN e1 (e▸hi));simp[this,e]
    ·exact .inr ⟨k,c,e,z.sameBut hs (cne y c e)⟩
  ·obtain⟨w',z⟩:=I.cell y c e;exact⟨w',z.sameBut hs (cne y c e)⟩
  ·obtain⟨e,n,ne,nf,d⟩:=I.pin p hp;exact⟨(hs.2 p.1 ne).trans e,n,ne,nf,d⟩
 ·have hfn:X.fn x=true:=by
   rcases hf with z|z
   ·exact z
   ·rw[z]at hk;cases hk
  obtain⟨c,hc⟩:=I.ok.has x (.inl hk);obtain⟨w',z⟩:=I.cell x c hc;refine wpAny_storeName_cell I.ok.kind hk hc z (λh' hc' hs=>?_);obtain⟨oc,hoc,hocd⟩:=id z;refine h {s with heap:=h' } ⟨I.ok,I.os,I.bare,⟨λb o e n hb hx=>?_,λb o e n hb hx=>?_,I.base.free,λb o e hx=>?_,I.base.tups,I.base.Tq,I.base.Tw⟩,⟨m,hn.sameBut hs (yM (cne x c hc)),λj y v' e1 e2 e3=>?_⟩,λy c' e=>?_,I.free,I.freeC,λp hp=>?_,tracked ⟨oc,hoc,I.freeC x c hc⟩ hs,by simpa using I.len⟩ ⟨c,hs,.inr hc⟩
  ·exact(hs.2 b (yw (yv (ym e) (I.ok.cab x c hfn hc)))).trans (I.base.keep b o e n hb hx)
  ·obtain⟨sl,e1⟩:=I.base.slot b o e n hb hx;exact⟨sl,(hs.2 b (yw (yv (ym e) (I.ok.cab x c hfn hc)))).trans e1⟩
  ·obtain⟨o',e1⟩:=I.base.there b o e hx;exact⟨o',(hs.2 b (yw (yv (ym e) (I.ok.cab x c hfn hc)))).trans e1⟩
  ·by_cases hj:j=i
   ·subst hj;rw[hi]at e1;cases e1;rw[yO hiσ]at e2;cases e2;exact⟨u,r,.inr ⟨.inl hk,c,hc,hc'⟩⟩
   ·rw[yP (yM hj)]at e2;obtain⟨u',r',q⟩:=hl j y v' e1 e2 e3;refine⟨u',r',?_⟩;rcases q with q|⟨k,c',e,z'⟩
    ·exact .inl q
    ·refine .inr ⟨k,c',e,z'.sameBut hs ?_⟩;rintro rfl;exact hj (z4m hN e1 (I.ok.inj _ _ _ e hc▸hi))
  ·by_cases hcc:c'=c
   ·subst hcc;exact⟨_,hc'⟩
   ·obtain⟨w2,z2⟩:=I.cell y c' e;exact⟨w2,z2.sameBut hs hcc⟩
  ·obtain⟨e,n,ne,nf,d⟩:=I.pin p hp;refine⟨(hs.2 p.1 ?_).trans e,n,ne,nf,d⟩;intro q;rw[q,hoc]at e;have q':oc=p.2:=yU e;exact d w' (by rw[<-q'];exact hocd)
def zeh{M:Model}{A:yJ}{E:Value->yd->Prop}{i:Nat}{x:yr}{v:V}{u:Value}{Q:Unit->yd->Prop}(I:Inv X pins σ H s)(hN:X.N.Nodup)(hi:X.N[i]?=some x)(hx:Loc X.env.scope x)(r:RelV v u)
 (h:∀s',Inv X pins (σ.set i (some v)) H s'->Q () s') (hf:X.fn x=true\/X.env.scope.names.lookup x=some .local:=by first|exact .inl rfl|exact .inr rfl|assumption):yq M A (storeName X.env x u) Q E s :=
 zQk I hN hi hx r (λs' I' _=>h s' I') hf
def Inv.call'{s':yd}{ch:List yb}(I:Inv X pins σ H s)(ho:s'.os=s.os)(u:Un (frs X.stack) ch H H' s.heap s'.heap)(hok:HOk X.prog X.w H' s'.heap)(hg:AllBare s'.gens)
 (hch:∀b∈ch,(b∈X.ex\/X.s₀.heap.objs.size<=b)/\b≠X.env.locals/\(∀x c,X.env.cells.lookup x=some c->c≠b)/\∀p∈X.pn++pins,p.1≠b):Inv X pins σ H' s':=by
 obtain⟨h',g',d',t',o'⟩:=s';have e:o'=s.os:=ho;subst e;exact I.call (g':=g') (t':=t') (d':=d') u hok hg hch
end
abbrev XK:=Value->Option yb->Hp->Prop
abbrev St:=List (Option V)
abbrev VK:=V->Hp->Prop
abbrev TE:=St->Hp->VK->Prop
abbrev TT:=St->Hp->(Bool->Hp->Prop)->Prop
abbrev TA:=St->Hp->(List V->Hp->Prop)->Prop
structure Ends where
 nx:St->Hp->Prop
 rt:VK
 bk:St->Hp->Prop:=λ_ _=>False
 ct:St->Hp->Prop:=λ_ _=>False
abbrev TS:=Ends->St->Hp->Prop
def EP(X:Cx)(pins:List (yb×Yw))(σ:St)(Q:VK)(u:Value)(s':yd):Prop:=∃v H',Inv X pins σ H' s'/\RelV v u/\Q v H'
def TP(X:Cx)(pins:List (yb×Yw))(σ:St)(Q:Bool->Hp->Prop)(b:Bool)(s':yd):Prop:=∃H',Inv X pins σ H' s'/\Q b H'
def AP(X:Cx)(pins:List (yb×Yw))(σ:St)(Q:List V->Hp->Prop)(us:List Value)(s':yd):Prop:=∃vs H',Inv X pins σ H' s'/\Vals vs us/\Q vs H'
def SP(X:Cx)(pins:List (yb×Yw))(D:Ends)(f:Flow)(s':yd):Prop :=
 match f with
 |.next=>∃σ' H',Inv X pins σ' H' s'/\D.nx σ' H'
 |.brk=>∃σ' H',Inv X pins σ' H' s'/\D.bk σ' H'
 |.cont=>∃σ' H',Inv X pins σ' H' s'/\D.ct σ' H'
 |.ret u=>∃v σ' H',Inv X pins σ' H' s'/\RelV v u/\D.rt v H'
def PE(X:Cx)(e:yz)(t:TE):Prop :=
 ∀(pins:List (yb×Yw)) (s:yd) (σ:St) (H:Hp) (Q:VK),Inv X pins σ H s->t σ H Q->yq (yy X.prog X.w) X.A (yV e X.env) (EP X pins σ Q) X.xe s
def PT(X:Cx)(e:yz)(t:TT):Prop :=
 ∀(pins:List (yb×Yw)) (s:yd) (σ:St) (H:Hp) (Q:Bool->Hp->Prop),Inv X pins σ H s->t σ H Q->yq (yy X.prog X.w) X.A (isTrue e X.env (yV e X.env)) (TP X pins σ Q) X.xe s
def PW(X:Cx)(e:yz)(t:TT):Prop :=
 ∀(whole:Sem Value)(pins:List (yb×Yw)) (s:yd) (σ:St) (H:Hp) (Q:Bool->Hp->Prop),Inv X pins σ H s->t σ H Q->yq (yy X.prog X.w) X.A (isTrue e X.env whole) (TP X pins σ Q) X.xe s
def PA(X:Cx)(es:List yz)(t:TA):Prop :=
 ∀(pos:YR)(pins:List (yb×Yw)) (s:yd) (σ:St) (H:Hp) (Q:List V->Hp->Prop),Inv X pins σ H s->t σ H Q->yq (yy X.prog X.w) X.A (spliced (yZ pos (yf es X.env))) (AP X pins σ Q) X.xe s
def PS(X:Cx)(st:yX)(t:TS):Prop :=
 ∀(pins:List (yb×Yw)) (s:yd) (σ:St) (H:Hp) (D:Ends),Inv X pins σ H s->t D σ H->yq (yy X.prog X.w) X.A (exec st X.env) (SP X pins D) X.xe s
def PSs(X:Cx)(st:List yX)(t:TS):Prop :=
 ∀(pins:List (yb×Yw)) (s:yd) (σ:St) (H:Hp) (D:Ends),Inv X pins σ H s->t D σ H->yq (yy X.prog X.w) X.A (execs st X.env) (SP X pins D) X.xe s
def thn{α:Type}{t:Sem α}{Q Q':α->yd->Prop}{M:Model}{A:yJ}{E:Value->yd->Prop}{s:yd}(h:yq M A t Q E s)(hQ:∀a s,Q a s->Q' a s):yq M A t Q' E s:=yT h hQ λ_ _ x=>x
section
variable {X:Cx}
def zsv(i:Nat):TE:=λσ H Q=>∃v,σ[i]?=some (some v)/\Q v H
def tC(v:V):TE:=λ_ H Q=>Q v H
def zJr{i:Nat}{x:yr}{pos:YR}(hN:X.N[i]?=some x)(hv:Vis X.env.scope x)(hd:(x==("__debug__":yr))=false:=by decide)(hcd:(x==("__classdict__":yr))=false:=by decide):PE X (.Name x pos) (zsv i):=by
 intro pins s σ H Q I h;obtain⟨v,e,h⟩:=h;obtain⟨m,hn,hl⟩:=I.loc;obtain⟨u,r,l⟩:=hl i x v hN e hv;have fin:EP X pins σ Q u s:=⟨v,H,I,r,h⟩
 rcases l with ⟨hk,hm⟩|⟨hk,c,hc,hcell⟩
 ·exact wpAny_Name (wpAny_loadName_local I.ok.kind hk hn hm fin) hd
 ·rcases hk with hk|hk
  ·exact wpAny_Name (wpAny_loadName_cell I.ok.kind hk hc hcell fin) hd
  ·exact wpAny_Name (wpAny_loadName_free I.ok.kind hk hc hcell fin hcd) hd
def zOu{i j pos}:PE X (.Constant (.int i) j pos) (tC (.int i)):=λ_ _ _ H _ I h=>wpAny_Constant_int ⟨.int i,H,I.tok _,⟨_,rfl⟩,h⟩
def ziv{b j pos}:PE X (.Constant (.bool b) j pos) (tC (.bl b)):=λ_ _ _ H _ I h=>Constant_bool ⟨.bl b,H,I,rfl,h⟩
def zEt{j pos}:PE X (.Constant .none j pos) (tC .non):=λ_ _ _ H _ I h=>Constant_none ⟨.non,H,I,rfl,h⟩
def z8t{x j pos}:PE X (.Constant (.str x) j pos) (tC (.str x)):=λ_ _ _ H _ I h=>Calls.Constant_str ⟨.str x,H,I.tok _,⟨_,rfl⟩,h⟩
def Gl(X:Cx)(x:yr):Prop:=X.env.kindOf x=some .globalImplicit
def zHf{E:Value->yd->Prop}{pins:List (yb×Yw)}{s:yd}{σ:St}{H:Hp}{x:yr}{u:Value}{pos:YR}{Q:Value->yd->Prop}(I:Inv X pins σ H s)(hg:Gl X x)(hm:X.mg x=some u)(h:Q u s)
 (hd:(x==("__debug__":yr))=false:=by decide):yq (yy X.prog X.w) X.A (yV (.Name x pos) X.env) Q E s :=
 Calls.Name_function_global I.ok.kind hg (Calls.loadGlobal_global (by rw[I.ok.glob];exact I.mod.glob.keeps I.bk) hm h) hd
def zFh{E:Value->yd->Prop}{pins:List (yb×Yw)}{s:yd}{σ:St}{H:Hp}{x:yr}{u:Value}{pos:YR}{Q:Value->yd->Prop}(I:Inv X pins σ H s)(hg:Gl X x)(hm:X.mg x=none)(hv:yL x=some u)(h:Q u s)
 (hn:x≠"__name__":=by decide) (hd:(x==("__debug__":yr))=false:=by decide):yq (yy X.prog X.w) X.A (yV (.Name x pos) X.env) Q E s:=by
 obtain⟨mb,h1,h2⟩:=I.mod.blt;exact Calls.Name_function_global I.ok.kind hg (Calls.loadGlobal_builtin (by rw[I.ok.glob];exact I.mod.glob.keeps I.bk) hm (by rw[I.ok.blt];exact h1.keeps I.bk) ((h2 x hn).trans hv) h) hd
def z3r{x:yr}{v:V}{u:Value}{pos:YR}(hg:Gl X x)(hm:X.mg x=some u)(r:RelV v u)(hd:(x==("__debug__":yr))=false:=by decide):PE X (.Name x pos) (tC v) :=
 λ_ _ _ H _ I h=>zHf I hg hm ⟨v,H,I,r,h⟩ hd
def zbt{x:yr}{v:V}{u:Value}{pos:YR}(hg:Gl X x)(hm:X.mg x=none)(hv:yL x=some u)(r:RelV v u)(hn:x≠"__name__":=by decide)(hd:(x==("__debug__":yr))=false:=by decide):PE X (.Name x pos) (tC v) :=
 λ_ _ _ H _ I h=>zFh I hg hm hv ⟨v,H,I,r,h⟩ hn hd
variable {a b:yz}{ta tb:TE}{pos:YR}
def sG(b:yz){op:CmpOp}(h:op≠.In)(h2:op≠.NotIn):behindInMarks op b=false:=by
 have e1:(op==CmpOp.In)=false:=by cases op<;>first|rfl|exact absurd rfl h
 have e2:(op==CmpOp.NotIn)=false:=by cases op<;>first|rfl|exact absurd rfl h2
 cases b<;>simp[behindInMarks,e1,e2]
def tB(t:TE):TT:=λσ H Q=>t σ H λx H1=>∃c,x=.bl c/\Q c H1
def zbu{e:yz}{t:TE}(h:PE X e t)(he:∀whole,isTrue e X.env whole=(do let v <-whole;standAt e.pos;YX [v] (truthy v)):=by intro _;rfl):PT X e (tB t):=by
 intro pins s σ H Q I hw;refine isTrue_plain (thn (h pins s σ H _ I hw) λv s1 ⟨x,H1,I1,r1,q1⟩=>?_) (he _);obtain⟨d,rfl,q⟩:=q1;cases r1;exact xH ⟨H1,I1,q⟩
variable {tA tB':TT}{rest:List yz}
def z3v(t u:TT):TT:=λσ H Q=>t σ H λc H1=>if c=true then u σ H1 Q else Q false H1
def tOr(t u:TT):TT:=λσ H Q=>t σ H λc H1=>if c=true then Q true H1 else u σ H1 Q
def zew(t:TT):TT:=λσ H Q=>t σ H λc H1=>Q (!c) H1
def zct(ha:PT X a tA):PW X (.BoolOp .And [a] pos) tA:=by
 intro wh pins s σ H Q I h;refine isTrue_and (thn (ha pins s σ H Q I h) λc s1 e=>?_)
 cases c with
 |true=>exact isTrue_and_nil e
 |false=>exact e
def zdu(ha:PT X a tA):PW X (.BoolOp .Or [a] pos) tA:=by
 intro wh pins s σ H Q I h;refine isTrue_or (thn (ha pins s σ H Q I h) λc s1 e=>?_)
 cases c with
 |false=>exact isTrue_or_nil e
 |true=>exact e
def zSu(ha:PT X a tA)(hb:PW X (.BoolOp .And (b::rest) pos) tB'):PW X (.BoolOp .And (a::b::rest) pos) (z3v tA tB'):=by
 intro wh pins s σ H Q I h;refine isTrue_and (thn (ha pins s σ H _ I h) λc s1 ⟨H1,I1,q1⟩=>?_)
 cases c with
 |true=>exact hb wh pins s1 σ H1 Q I1 q1
 |false=>exact⟨H1,I1,q1⟩
def zBv(ha:PT X a tA)(hb:PW X (.BoolOp .Or (b::rest) pos) tB'):PW X (.BoolOp .Or (a::b::rest) pos) (tOr tA tB'):=by
 intro wh pins s σ H Q I h;refine isTrue_or (thn (ha pins s σ H _ I h) λc s1 ⟨H1,I1,q1⟩=>?_)
 cases c with
 |true=>exact⟨H1,I1,q1⟩
 |false=>exact hb wh pins s1 σ H1 Q I1 q1
def zfu(ha:PT X a tA):PT X (.UnaryOp .Not a pos) (zew tA):=by
 intro pins s σ H Q I h;exact isTrue_not (ha pins s σ H (λc H1=>Q (!c) H1) I h)
def zuv(ta tb:TE):TE:=λσ H Q=>ta σ H λx H1=>∃c,x=.bl c/\if c=true then tb σ H1 Q else Q (.bl false) H1
def ziw(ta tb:TE):TE:=λσ H Q=>ta σ H λx H1=>∃c,x=.bl c/\if c=true then Q (.bl true) H1 else tb σ H1 Q
def zPt{op}{t:TE}(h:PE X a t):PE X (.BoolOp op [a] pos) t:=λpins s σ H Q I hw=>BoolOp_one (h pins s σ H Q I hw)
def z7t(ha:PE X a ta)(hb:PE X (.BoolOp .And (b::rest) pos) tb):PE X (.BoolOp .And (a::b::rest) pos) (zuv ta tb):=by
 intro pins s σ H Q I h;refine BoolOp_and (thn (ha pins s σ H _ I h) λv s1 ⟨x,H1,I1,r1,q1⟩=>?_);obtain⟨c,rfl,q1⟩:=q1;cases r1;refine xH ?_
 cases c with
 |true=>exact hb pins s1 σ H1 Q I1 q1
 |false=>exact⟨.bl false,H1,I1,rfl,q1⟩
def z3u(ha:PE X a ta)(hb:PE X (.BoolOp .Or (b::rest) pos) tb):PE X (.BoolOp .Or (a::b::rest) pos) (ziw ta tb):=by
 intro pins s σ H Q I h;refine BoolOp_or (thn (ha pins s σ H _ I h) λv s1 ⟨x,H1,I1,r1,q1⟩=>?_);obtain⟨c,rfl,q1⟩:=q1;cases r1;refine xH ?_
 cases c with
 |false=>exact hb pins s1 σ H1 Q I1 q1
 |true=>exact⟨.bl true,H1,I1,rfl,q1⟩
end
def SqL(K:yt)(H:Hp)(a:yb)(xs:List V):Prop :=
 Rd H a (.lst xs) \/
  ∃(o:Yw)(its:Array Value)(n:Nat),K.lookup a=some o/\o.cls=.type "list"/\o.dict=none/\o.data=.seq its n/\its.size<=yC/\Vals xs its.toList
def SqT(K:yt)(H:Hp)(a:yb)(xs:List V):Prop :=
 Rd H a (.tup xs) \/
  ∃(o:Yw)(its:Array Value)(n:Nat),K.lookup a=some o/\o.cls=.type "tuple"/\o.data=.seq its n/\its.size<=yC/\Vals xs its.toList
def znw:Value->Option V
 |.none=>some .non
 |.bool b=>some (.bl b)
 |.int i _=>some (.int i)
 |.str x _=>some (.str x)
 |.bytes b _=>some (.byt b)
 |.float b _=>some (.flt b)
 |.ref a=>some (.ref a)
 |.type n=>some (.ty n)
 |_=>none
def RelV.abs{x:V}{u:Value}(r:RelV x u):znw u=some x:=by
 cases x with
 |non=>cases r;rfl
 |bl _=>cases r;rfl
 |int _=>obtain⟨t,rfl⟩:=r;rfl
 |str _=>obtain⟨t,rfl⟩:=r;rfl
 |byt _=>obtain⟨t,rfl⟩:=r;rfl
 |flt _=>obtain⟨t,rfl⟩:=r;rfl
 |ref _=>cases r;rfl
 |ty _=>cases r;rfl
def RelV.inj{x y:V}{u:Value}(r:RelV x u)(q:RelV y u):x=y:=yU (r.abs.symm.trans q.abs)
def Vals.inj{xs ys:List V}{us:List Value}(h:Vals xs us):Vals ys us->xs=ys:=by
 induction h generalizing ys with
 |nil=>intro h;cases h;rfl
 |cons r _ ih=>
  intro h
  cases h with
  |cons r' t'=>rw[r.inj r',ih t']
section
variable {X:Cx}{pins:List (yb×Yw)}{σ:St}{H:Hp}{s:yd}{a:yb}{xs ys:List V}
def SqL.of{K:yt}(h:H a=some (.lst xs)):SqL K H a xs:=.inl (.inl h)
def SqT.of{K:yt}(h:H a=some (.tup xs)):SqT K H a xs:=.inl (.inl h)
def Inv.list(I:Inv X pins σ H s)(h:SqL X.K H a xs):∃its:List Value,Vals xs its/\PlainL s.heap a its.toArray/\xs.length<=yC:=by
 rcases h with h|⟨o,its,n,hk,hc,hd,hs,hz,r⟩
 ·obtain⟨z,its,n,r,e⟩:=h.ok I.hok;exact⟨its,r,⟨_,n,e,rfl,rfl,rfl⟩,z⟩
 ·refine⟨its.toList,r,⟨o,n,I.kIn a o hk,hc,hd,by simpa using hs⟩,?_⟩;have e:=r.length;simp only[Array.length_toList]at e;omega
def Inv.tuple(I:Inv X pins σ H s)(h:SqT X.K H a xs):∃its:List Value,Vals xs its/\IsTup s.heap a its.toArray/\xs.length<=yC:=by
 rcases h with h|⟨o,its,n,hk,hc,hs,hz,r⟩
 ·obtain⟨z,its,r,p⟩:=h.ok I.hok;exact⟨its,r,p,z⟩
 ·refine⟨its.toList,r,⟨o,I.kIn a o hk,hc,n,by simpa using hs⟩,?_⟩;have e:=r.length;simp only[Array.length_toList]at e;omega
def Inv.sH(I:Inv X pins σ H s)(h:SqL X.K H a xs)(h':SqL X.K H a ys):xs=ys:=by
 obtain⟨its,r,⟨o,n,e,_,_,d⟩,_⟩:=I.list h;obtain⟨its',r',⟨o',n',e',_,_,d'⟩,_⟩:=I.list h';rw[e]at e';cases e';rw[d]at d';injection d' with d1 _;have:its=its':=by simpa using congrArg Array.toList d1
 subst this;exact r.inj r'
def Inv.sv(I:Inv X pins σ H s)(h:SqT X.K H a xs)(h':SqT X.K H a ys):xs=ys:=by
 obtain⟨its,r,⟨o,e,_,n,d⟩,_⟩:=I.tuple h;obtain⟨its',r',⟨o',e',_,n',d'⟩,_⟩:=I.tuple h';rw[e]at e';cases e';rw[d]at d';injection d' with d1 _;have:its=its':=by simpa using congrArg Array.toList d1
 subst this;exact r.inj r'
end
abbrev Cx.TZ(X:Cx)(E:Value->yd->Prop):Cx:={X with xe:=E }
abbrev Cx.nox(X:Cx):Cx:=X.TZ λ_ _=>False
def Cx.Ok.TZ{X:Cx}(ok:X.Ok)(E:Value->yd->Prop):(X.TZ E).Ok :=
 ⟨ok.mod,ok.kind,ok.glob,ok.blt,ok.above,ok.inj,ok.has,ok.cab,ok.hd,ok.frames,ok.stk,ok.exf,ok.bs,ok.bsz,ok.Sb,ok.Se,ok.TQ,ok.frf⟩
def Cx.Ok.Tm{X:Cx}{E:Value->yd->Prop}(ok:(X.TZ E).Ok):X.Ok :=
 ⟨ok.mod,ok.kind,ok.glob,ok.blt,ok.above,ok.inj,ok.has,ok.cab,ok.hd,ok.frames,ok.stk,ok.exf,ok.bs,ok.bsz,ok.Sb,ok.Se,ok.TQ,ok.frf⟩
section
variable {X:Cx}{pins:List (yb×Yw)}{σ:St}{H:Hp}{s:yd}{E:Value->yd->Prop}
def Inv.TZ(I:Inv X pins σ H s)(E:Value->yd->Prop):Inv (X.TZ E) pins σ H s:=⟨I.ok.TZ E,I.os,I.bare,I.base,I.loc,I.cell,I.free,I.freeC,I.pin,I.hok,I.len⟩
def Inv.Tm(I:Inv (X.TZ E) pins σ H s):Inv X pins σ H s:=⟨I.ok.Tm,I.os,I.bare,I.base,I.loc,I.cell,I.free,I.freeC,I.pin,I.hok,I.len⟩
def SP.Tm{D:Ends}{f:Flow}{s':yd}(h:SP (X.TZ E) pins D f s'):SP X pins D f s':=by
 cases f with
 |next=>obtain⟨σ',H',I,q⟩:=h;exact⟨σ',H',I.Tm,q⟩
 |brk=>obtain⟨σ',H',I,q⟩:=h;exact⟨σ',H',I.Tm,q⟩
 |cont=>obtain⟨σ',H',I,q⟩:=h;exact⟨σ',H',I.Tm,q⟩
 |ret u=>obtain⟨v,σ',H',I,r,q⟩:=h;exact⟨v,σ',H',I.Tm,r,q⟩
def PSs.nox{st:List yX}{t:TS}(h:PSs X.nox st t):PSs X st t:=λpins s σ H D I hw=>
 yT (h pins s σ H D (I.TZ _) hw) (λ_ _ q=>q.Tm) λ_ _ z=>Yl z
end
section
variable {X:Cx}{st:yX}{rest:List yX}{t u:TS}{e:yz}{te:TE}{pos:YR}
def zJv:TS:=λD σ H=>D.nx σ H
def zrw(t u:TS):TS:=λD σ H=>t {D with nx:=u D } σ H
def zqs:PSs X [] zJv:=λ_ _ σ H _ I h=>xv ⟨σ,H,I,h⟩
def zqm(h1:PS X st t)(h2:PSs X rest u):PSs X (st::rest) (zrw t u):=by
 intro pins s σ H D I h;refine wpAny_execs_cons (thn (h1 pins s σ H {D with nx:=u D } I h) λf s1 q=>?_)
 cases f with
 |next=>
  obtain⟨σ',H',I',q⟩:=q;exact h2 pins s1 σ' H' D I' q
 |ret v=>exact q
 |brk=>exact q
 |cont=>exact q
def zGo(h1:PS X st t):PSs X [st] t:=by
 intro pins s σ H D I h;refine wpAny_execs_cons (thn (h1 pins s σ H D I h) λf s1 q=>?_)
 cases f with
 |next=>exact xv q
 |ret v=>exact q
 |brk=>exact q
 |cont=>exact q
def Inv.quiet{pins:List (yb×Yw)}{σ:St}{H:Hp}{s:yd}(I:Inv X pins σ H s):interactive X.env=false:=by simp[interactive,I.ok.kind]
def zhv(te:TE):TS:=λD σ H=>te σ H λ_ H1=>D.nx σ H1
def zbo(he:PE X e te)(hs:xk e none pos.line X.env=pure false:=by rfl):PS X (.Expr e pos) (zhv te):=by
 intro pins s σ H D I h;exact wpAny_Expr_any (thn (he pins s σ H _ I h) λv s1 ⟨x,H1,I1,r1,q1⟩=>⟨σ,H1,I1,q1⟩) I.quiet hs
def zhw(te:TE):TS:=λD σ H=>te σ H D.rt
def z3t(he:PE X e te):PS X (.Return (some e) pos) (zhw te):=by
 intro pins s σ H D I h;exact wpAny_Return_some (thn (he pins s σ H _ I h) λv s1 ⟨x,H1,I1,r1,q1⟩=>⟨x,σ,H1,I1,r1,q1⟩)
def zvw(c:TT)(t u:TS):TS:=λD σ H=>c σ H λb H1=>if b=true then t D σ H1 else u D σ H1
def zbv{c:yz}{a b:List yX}{tc:TT}(hc:PT X c tc)(ha:PSs X a t)(hb:PSs X b u):PS X (.If c a b pos) (zvw tc t u):=by
 intro pins s σ H D I h;refine wpAny_If (thn (hc pins s σ H _ I h) λd s1 ⟨H1,I1,q1⟩=>?_)
 cases d with
 |true=>exact ha pins s1 σ H1 D I1 q1
 |false=>exact hb pins s1 σ H1 D I1 q1
end
abbrev TG:=V->St->Hp->(St->Hp->Prop)->Prop
abbrev TGs:=List V->St->Hp->(St->Hp->Prop)->Prop
def PG(X:Cx)(target:yz)(t:TG):Prop :=
 ∀(pins:List (yb×Yw)) (s:yd) (σ:St) (H:Hp) (v:V) (u:Value) (Q:St->Hp->Prop),Inv X pins σ H s->RelV v u->t v σ H Q ->
  yq (yy X.prog X.w) X.A (assign target X.env u) (λ_ s'=>∃σ' H',Inv X pins σ' H' s'/\Q σ' H') X.xe s
def PGs(X:Cx)(ts:List yz)(t:TGs):Prop :=
 ∀(pins:List (yb×Yw)) (s:yd) (σ:St) (H:Hp) (vs:List V) (us:List Value) (Q:St->Hp->Prop),Inv X pins σ H s->Vals vs us->t vs σ H Q ->
  yq (yy X.prog X.w) X.A (assignInOrder ((Yg ts X.env).map (·.2)) us) (λ_ s'=>∃σ' H',Inv X pins σ' H' s'/\Q σ' H') X.xe s
abbrev zrv:=V->V->V->Hp->(Hp->Prop)->Prop
def zqv(X:Cx)(t:zrv):Prop :=
 ∀(pins:List (yb×Yw)) (s:yd) (σ:St) (H:Hp) (o i v:V) (ov iv u:Value) (Q:Hp->Prop),Inv X pins σ H s->RelV o ov->RelV i iv->RelV v u->t o i v H Q ->
  yq (yy X.prog X.w) X.A (setItem ov iv u) (λ_ s'=>∃H',Inv X pins σ H' s'/\Q H') X.xe s
abbrev TIp:=V->V->Hp->VK->Prop
def PIp(X:Cx)(op:Operator)(t:TIp):Prop :=
 ∀(pins:List (yb×Yw)) (s:yd) (σ:St) (H:Hp) (x y:V) (v u:Value) (Q:VK),Inv X pins σ H s->RelV x v->RelV y u->t x y H Q ->
  yq (yy X.prog X.w) X.A (inplaceOp op v u) (EP X pins σ Q) X.xe s
section
variable {X:Cx}{pos:YR}
def zws(i:Nat):TG:=λv σ H Q=>Q (σ.set i (some v)) H
def zZn{i:Nat}{x:yr}(hN:X.N.Nodup)(hi:X.N[i]?=some x)(hx:Loc X.env.scope x)(hf:X.fn x=true\/X.env.scope.names.lookup x=some .local:=by first|exact .inl rfl|exact .inr rfl|assumption):PG X (.Name x pos) (zws i):=by
 intro pins s σ H v u Q I r h;exact wpAny_assign_Name (zeh I hN hi hx r (λs' I'=>⟨_,H,I',h⟩) hf)
def zow:TGs:=λvs σ H Q=>vs=[]/\Q σ H
def zjv(t:TG)(u:TGs):TGs:=λvs σ H Q=>∃v r,vs=v::r/\t v σ H λσ' H'=>u r σ' H' Q
def zuo:PGs X [] zow:=by
 intro pins s σ H vs us Q I r h;obtain⟨e,h⟩:=h;subst e;cases r;exact assignInOrder_nil ⟨σ,H,I,h⟩
def zlm{e:yz}{es:List yz}{t:TG}{u:TGs}(h1:PG X e t)(h2:PGs X es u)
 (hs:(Yg (e::es) X.env).map (·.2)=assign e X.env::(Yg es X.env).map (·.2):=by rfl):PGs X (e::es) (zjv t u):=by
 intro pins s σ H vs us Q I r h;obtain⟨v,vr,e1,h⟩:=h;subst e1
 cases r with
 |cons r rr=>
  rw[hs];refine assignInOrder_cons (thn (h1 pins s σ H _ _ _ I r h) λ_ s1 ⟨σ1,H1,I1,q1⟩=>?_);exact h2 pins s1 σ1 H1 _ _ Q I1 rr q1
def zsw(K:yt)(n:Nat)(t:TGs):TG:=λv σ H Q=>∃a xs,v=.ref a/\SqT K H a xs/\xs.length=n/\t xs σ H Q
def zGr{es:List yz}{k:Nat}{t:TGs}{n:Nat}(hc:X.calm=true)(h:PGs X es t)
 (hn:(Yg es X.env).length=n:=by rfl) (hst:(Yg es X.env).findIdx? (·.1)=none:=by rfl):PG X (.Tuple es k pos) (zsw X.K n t):=by
 intro pins s σ H v u Q I r hw;obtain⟨a,xs,e1,hq,hl,hw⟩:=hw;subst e1;cases r;obtain⟨its,rv,ht,hz⟩:=I.tuple hq;refine assign_Tuple_tuple (I.ok.hd hc) ht (by simp[hn,<-hl,rv.length]) hst λh' hx=>?_;have I1:Inv X pins σ H {s with heap:=h' }:=I.kept (t':=s.toks) λb o e=>hx b o (yw (ym e)) e;exact h pins _ σ H xs _ Q I1 (by simpa using rv) hw
def zWq(to ti:TE)(t:zrv):TG:=λv σ H Q=>to σ H λo H1=>ti σ H1 λi H2=>t o i v H2 λH3=>Q σ H3
def zyr{o i:yz}{to ti:TE}{t:zrv}(ho:PE X o to)(hi:PE X i ti)(hs:zqv X t)
 (ha:∀v,assign (.Subscript o i pos) X.env v=(do
  let ov <-YX [v] (yV o X.env)
  let iv <-YX [v,ov] (yV i X.env)
  standAt pos
  YX [v,ov,iv] (setItem ov iv v)
  release [v,ov,iv] []):=by intro _;rfl):PG X (.Subscript o i pos) (zWq to ti t):=by
 intro pins s σ H v u Q I r h;rw[ha];refine ya (yY (thn (ho pins s σ H _ I h) λov s1 ⟨x,H1,I1,r1,q1⟩=>?_));refine ya (yY (thn (hi pins s1 σ H1 _ I1 q1) λiv s2 ⟨y,H2,I2,r2,q2⟩=>?_));refine ya (Yx (ya (yY (thn (hs pins s2 σ H2 x y v ov iv u _ I2 r1 r2 r q2) λ_ s3 ⟨H3,I3,q3⟩=>?_))));exact wpAny_release ⟨σ,H3,I3,q3⟩
def z1u(te:TE)(g:TG):TS:=λD σ H=>te σ H λx H1=>g x σ H1 D.nx
def zNt{tg e:yz}{te:TE}{g:TG}(he:PE X e te)(hg:PG X tg g)(hs:swapsWithSole [tg] e pos.line X.env=pure false:=by rfl)(hw:swappedStores [tg] e X.env=pure none:=by rfl)
 (h1:(Yg [tg] X.env).map (·.2)=[assign tg X.env]:=by rfl):PS X (.Assign [tg] e pos) (z1u te g):=by
 intro pins s σ H D I h;refine wpAny_Assign_stores (thn (he pins s σ H _ I h) λv s1 ⟨x,H1,I1,r1,q1⟩=>?_) hs hw;rw[h1];exact thn (hg pins s1 σ H1 x v _ I1 r1 q1) λ_ s2 q=>q
def zJu{i:Nat}{x:yr}{e:yz}{te:TE}{pos':YR}(hN:X.N.Nodup)(hi:X.N[i]?=some x)(hx:Loc X.env.scope x)(he:PE X e te)(hs:xk e (some (.Name x pos')) pos.line X.env=pure false:=by rfl)(hf:X.fn x=true\/X.env.scope.names.lookup x=some .local:=by first|exact .inl rfl|exact .inr rfl|assumption) :
 PS X (.Assign [.Name x pos'] e pos) (z1u te (zws i)):=by
 intro pins s σ H D I h;refine wpAny_Assign_Name (thn (he pins s σ H _ I h) λv s1 ⟨y,H1,I1,r1,q1⟩=>?_) hs;exact zeh I1 hN hi hx r1 (λs2 I2=>⟨_,H1,I2,q1⟩) hf
def zlw(i:Nat)(te:TE)(ti:TIp):TS:=λD σ H=>∃x,σ[i]?=some (some x)/\te σ H λy H1=>ti x y H1 λz H2=>D.nx (σ.set i (some z)) H2
def zMt{i:Nat}{x:yr}{e:yz}{te:TE}{op:Operator}{ti:TIp}{pos':YR}(hN:X.N.Nodup)(hi:X.N[i]?=some x)(hx:Loc X.env.scope x)(he:PE X e te)(ho:PIp X op ti)(hf:X.fn x=true\/X.env.scope.names.lookup x=some .local:=by first|exact .inl rfl|exact .inr rfl|assumption) :
 PS X (.AugAssign (.Name x pos') op e pos) (zlw i te ti):=by
 intro pins s σ H D I h;obtain⟨v,e1,h⟩:=h;obtain⟨m,hn,hl⟩:=I.loc;have vis:Vis X.env.scope x:=by rcases hx with k|k;exact .inl k;exact .inr (.inl k)
 obtain⟨u,r,l⟩:=hl i x v hi e1 vis;refine wpAny_AugAssign_Name ?_
 have go:yq (yy X.prog X.w) X.A (yV e X.env) (λw s₂=>yq (yy X.prog X.w) X.A (inplaceOp op u w) (λr s₃=>yq (yy X.prog X.w) X.A (storeName X.env x r) (λ_=>SP X pins D .next) X.xe s₃) X.xe s₂) X.xe s:=by
  refine thn (he pins s σ H _ I h) λw s1 ⟨y,H1,I1,r1,q1⟩=>?_;refine thn (ho pins s1 σ H1 v y u w _ I1 r r1 q1) λz s2 ⟨zv,H2,I2,r2,q2⟩=>?_;exact zeh I2 hN hi hx r2 (λs3 I3=>⟨_,H2,I3,q2⟩) hf
 rcases l with ⟨hk,hm⟩|⟨hk,c,hc,hcell⟩
 ·exact wpAny_loadName_local I.ok.kind hk hn hm go
 ·rcases hk with hk|hk
  ·exact wpAny_loadName_cell I.ok.kind hk hc hcell go
  ·rcases hx with k|k
   ·have:X.env.scope.names.lookup x=some .free:=hk;rw[k]at this;cases this
   ·have:X.env.scope.names.lookup x=some .free:=hk;rw[k]at this;cases this
end
section
variable {X:Cx}{pos:YR}
def zJt(c:TT)(tb:TS):TS:=λD σ H=>∃W:Nat->St->Hp->Prop,(∃m,W m σ H)/\∀m σ H,W m σ H ->
 c σ H λb H1=>if b=true then ∃N:St->Hp->Prop,(∀σ' H',N σ' H'->∃m',m'<m/\W m' σ' H')/\tb {D with nx:=N,ct:=N,bk:=D.nx } σ H1 else D.nx σ H1
def z2q{c:yz}{body:List yX}{tc:TT}{tb:TS}(hp:PassesOwn (yy X.prog X.w) X.A X.env X.xe)(hc:PT X c tc)(hb:PSs X body tb):PS X (.While c body [] pos) (zJt tc tb):=by
 intro pins s σ H D I h;obtain⟨W,⟨m0,w0⟩,turn⟩:=h;refine wpAny_While (codeAny_whileLoop (λn s'=>∃σ' H',Inv X pins σ' H' s'/\W n σ' H') ?_ m0 ⟨σ,H,I,w0⟩);rintro n s1 ⟨σ1,H1,I1,w1⟩;refine YZ hp (thn (hc pins s1 σ1 H1 _ I1 (turn n σ1 H1 w1)) λb s2 ⟨H2,I2,q2⟩=>?_)
 cases b with
 |true=>
  obtain⟨N,hN,q2⟩:=q2;rw[if_pos rfl];refine YZ hp (thn (hb pins s2 σ1 H2 _ I2 q2) λf s3 q3=>?_)
  cases f with
  |next=>
   obtain⟨σ3,H3,I3,n3⟩:=q3;obtain⟨m',hm,w3⟩:=hN σ3 H3 n3;exact⟨m',hm,σ3,H3,I3,w3⟩
  |cont=>
   obtain⟨σ3,H3,I3,n3⟩:=q3;obtain⟨m',hm,w3⟩:=hN σ3 H3 n3;exact⟨m',hm,σ3,H3,I3,w3⟩
  |brk=>exact q3
  |ret v=>exact q3
 |false=>
  rw[if_neg yB];exact xv ⟨σ1,H2,I2,q2⟩
end
structure It where
 go:Nat->Hp->Prop
 yld:Nat->Hp->V->Hp->Prop
 stop:Nat->Hp->Prop
def zQm(X:Cx)(pins:List (yb×Yw))(H:Hp)(b:yb):Prop :=
 H b=none/\b≠X.env.locals/\b∉X.fs/\(b∈X.ex\/X.s₀.heap.objs.size<=b)/\(∀x c,X.env.cells.lookup x=some c->c≠b)/\∀p∈X.pn++pins,p.1≠b
def Inv.sM{X:Cx}{pins:List (yb×Yw)}{σ:St}{H H':Hp}{s:yd}{b:yb}(I:Inv X pins σ H s)(hb:s.heap.objs.size<=b)(hn:H' b=none):zQm X pins H' b:=by
 refine⟨hn,Ym (yv I.lt hb),I.nofs hb,.inr (yA I.sz hb),λx c e z=>?_,λp hp z=>?_⟩
 ·obtain⟨v,q⟩:=I.cell x c e;exact absurd (yv q.lt (by rw[z];exact hb)) (yQ _)
 ·exact absurd (yv (ym (I.pin p hp).1) (by rw[z];exact hb)) (yQ _)
structure Turn(P:yu)(w:yI)(K:yt)(tg:yz)(J:It)(fp:List yb)(it:yb)(tn:Nat->yR->Prop):Prop where
 mem:it∈fp
 obj:∀i h,tn i h->∀b∈fp,∃o,h.get? b=some o/\∀v,o.data≠.cell v
 keep:∀i h h',tn i h->(∀b∈fp,∀o,h.get? b=some o->h'.get? b=some o)->tn i h'
 item:∀(X:Cx),X.prog=P->X.w=w->X.K=K->X.calm=true->∀(i:Nat)(pins:List (yb×Yw)) (s:yd) (σ:St) (H:Hp) (E:Value->yd->Prop),Inv X pins σ H s->(∀b∈fp,zQm X pins H b)->tn i s.heap->J.go i H ->
  yq (yy P w) X.A (pyNext (.ref it)) (λr s1=>∃u,r=some u /\
   yq (yy P w) X.A (letOwnedTupleGo tg (.ref it) u) (λ_ s2=>∃x H',Inv X pins σ H' s2/\RelV x u/\J.yld i H x H'/\tn (i+1) s2.heap/\∀b∈fp,H' b=none) E s1) E s
 done:∀(X:Cx),X.prog=P->X.w=w->X.K=K->X.calm=true->∀(i:Nat)(pins:List (yb×Yw)) (s:yd) (σ:St) (H:Hp) (E:Value->yd->Prop),Inv X pins σ H s->(∀b∈fp,zQm X pins H b)->tn i s.heap->J.stop i H ->
  yq (yy P w) X.A (pyNext (.ref it)) (λr s1=>r=none/\Inv X pins σ H s1) E s
 self:∀(A:yJ)(i:Nat)(s:yd)(Q:Value->yd->Prop)(E:Value->yd->Prop),tn i s.heap->Q (.ref it) s->yq (yy P w) A (pyIter (.ref it)) Q E s
abbrev TI:=St->Hp->(It->Hp->Prop)->Prop
def PIE(X:Cx)(pins:List (yb×Yw))(σ:St)(tg:yz)(R:It->Hp->Prop)(itv:Value)(s2:yd):Prop :=
 ∃(it:yb)(fp:List yb)(tn:Nat->yR->Prop)(J:It)(H':Hp),itv=.ref it/\Inv X pins σ H' s2/\Turn X.prog X.w X.K tg J fp it tn/\tn 0 s2.heap/\(∀b∈fp,zQm X pins H' b)/\R J H'
def PI(X:Cx)(tg iter:yz)(wi:TI):Prop :=
 ∀(pins:List (yb×Yw)) (s:yd) (σ:St) (H:Hp) (R:It->Hp->Prop),Inv X pins σ H s->wi σ H R ->
  yq (yy X.prog X.w) X.A (yV iter X.env) (λv s1=>yq (yy X.prog X.w) X.A (pyIter v) (PIE X pins σ tg R) X.xe s1) X.xe s
def z2p{M:Model}{A:yJ}{E:Value->yd->Prop}{s:yd}{tg:yz}{it:yb}{u:Value}{o:Yw}{n:String}{vs:Array Value}{Q:Unit->yd->Prop}(ho:s.heap.get? it=some o)(hc:o.cls=.type n)(hd:o.data=.fields vs)
 (hn:["enumerate","zip","dict_itemiterator","dict_reverseitemiterator","odict_iterator","itertools.zip_longest","itertools.pairwise"].contains n=false) (hQ:Q () s):yq M A (letOwnedTupleGo tg (.ref it) u) Q E s:=by
 unfold letOwnedTupleGo
 cases tg<;>first
  |exact yp hQ
  |(cases u<;>first
   |exact yp hQ
   | (refine ya (wpAny_load ho ?_)
      rw[hc,hd];show yq M A (if(["enumerate","zip","dict_itemiterator","dict_reverseitemiterator","odict_iterator","itertools.zip_longest","itertools.pairwise"].contains n&&vs[0]?==some (rawInt _))=true then _ else _) Q E s;rw[if_neg (by intro h;rw[hn,Bool.false_and]at h;cases h)];exact yp hQ))
def Itl(K:yt)(a:yb):It :=
 ⟨λi H=>∃xs x,SqL K H a xs/\xs[i]?=some x,λi H x H'=>H'=H/\∀xs,SqL K H a xs->xs[i]?=some x,λi H=>∃xs,SqL K H a xs/\xs.length<=i⟩
def Itt(K:yt)(a:yb):It :=
 ⟨λi H=>∃xs x,SqT K H a xs/\xs[i]?=some x,λi H x H'=>H'=H/\∀xs,SqT K H a xs->xs[i]?=some x,λi H=>∃xs,SqT K H a xs/\xs.length<=i⟩
def Itr(lo:Int)(n:Nat):It:=⟨λi _=>i<n,λi H x H'=>H'=H/\x=.int (lo+i),λi _=>n<=i⟩
def zUp{P:yu}{w:yI}{K:yt}{tg:yz}(a it:yb):Turn P w K tg (Itl K a) [it] it (λi h=>h.IsListIter it a i) where
 mem:=by simp
 obj:=λi h st b hb=>by
  have e:b=it:=by simpa using hb
  subst e;obtain⟨o,e,c,d⟩:=st;exact⟨o,e,λv z=>by rw[d]at z;cases z⟩
 keep:=λi h h' st k=>st.at λo e=>k it (by simp) o e
 item:=by
  intro X hP hw hK hc i pins s σ H E I hf st hg;subst hP hw hK;obtain⟨xs,x,hq,hx⟩:=hg;obtain⟨its,rv,p,hz⟩:=I.list hq;obtain⟨u,hu,ru⟩:=rv.get hx;obtain⟨f0,f1,f2,f3,f4,f5⟩:=hf it (by simp);refine wpAny_pyNext_list_item st p.isList (x:=u) (by simpa using hu) λh' st' sb=>?_;have I1:Inv X pins σ H {s with heap:=h' }:=I.turned (t':=s.toks) (λb o hb e=>(sb.2 b hb).trans e) f0 f1 f3 f4 f5;obtain⟨o,e,c,d⟩:=id st';exact⟨u,rfl,z2p (s:={s with heap:=h' }) e c d (by decide) ⟨x,H,I1,ru,⟨rfl,λys hy=>by rw[I.sH hy hq];exact hx⟩,st',λb hb=>(hf b hb).1⟩⟩
 done:=by
  intro X hP hw hK hc i pins s σ H E I hf st hg;subst hP hw hK;obtain⟨xs,hq,hx⟩:=hg;obtain⟨its,rv,p,hz⟩:=I.list hq;obtain⟨f0,f1,f2,f3,f4,f5⟩:=hf it (by simp);have hl:=rv.length;exact wpAny_pyNext_list_end (I.ok.hd hc) st p.isList (by simp;omega) λh' eb=>⟨rfl,I.turned (t':=s.toks) (λb o hb e=>eb b o hb e) f0 f1 f3 f4 f5⟩
 self:=λ_ _ _ _ _ st h=>wpAny_pyIter_listiter st h
def zOn{P:yu}{w:yI}{K:yt}{tg:yz}(a it:yb):Turn P w K tg (Itt K a) [it] it (λi h=>h.IsTupleIter it a i) where
 mem:=by simp
 obj:=λi h st b hb=>by
  have e:b=it:=by simpa using hb
  subst e;obtain⟨o,e,c,d⟩:=st;exact⟨o,e,λv z=>by rw[d]at z;cases z⟩
 keep:=λi h h' st k=>st.at λo e=>k it (by simp) o e
 item:=by
  intro X hP hw hK hc i pins s σ H E I hf st hg;subst hP hw hK;obtain⟨xs,x,hq,hx⟩:=hg;obtain⟨its,rv,p,hz⟩:=I.tuple hq;obtain⟨u,hu,ru⟩:=rv.get hx;obtain⟨f0,f1,f2,f3,f4,f5⟩:=hf it (by simp);refine wpAny_pyNext_tuple_item st (show s.heap.IsTuple a its.toArray from p) (x:=u) (by simpa using hu) λh' st' sb=>?_;have I1:Inv X pins σ H {s with heap:=h' }:=I.turned (t':=s.toks) (λb o hb e=>(sb.2 b hb).trans e) f0 f1 f3 f4 f5;obtain⟨o,e,c,d⟩:=id st';exact⟨u,rfl,z2p (s:={s with heap:=h' }) e c d (by decide) ⟨x,H,I1,ru,⟨rfl,λys hy=>by rw[I.sv hy hq];exact hx⟩,st',λb hb=>(hf b hb).1⟩⟩
 done:=by
  intro X hP hw hK hc i pins s σ H E I hf st hg;subst hP hw hK;obtain⟨xs,hq,hx⟩:=hg;obtain⟨its,rv,p,hz⟩:=I.tuple hq;obtain⟨f0,f1,f2,f3,f4,f5⟩:=hf it (by simp);have hl:=rv.length;exact wpAny_pyNext_tuple_end (I.ok.hd hc) st (show s.heap.IsTuple a its.toArray from p) (by simp;omega) λh' eb=>⟨rfl,I.turned (t':=s.toks) (λb o hb e=>eb b o hb e) f0 f1 f3 f4 f5⟩
 self:=λ_ _ _ _ _ st h=>wpAny_pyIter_tupleiter st h
def zun{P:yu}{w:yI}{K:PySem.W.Frag}{tg:yz}(it:yb)(lo:Int)(n:Nat):Turn P w K tg (Itr lo n) [it] it (λi h=>IsRangeIter h it (lo+(i:Nat)*1) ((n:Int)-(i:Nat)) 1) where
 mem:=by simp
 obj:=λi h st b hb=>by
  have e:b=it:=by simpa using hb
  subst e
  exact⟨_,st,λv z=>by
   have z':Data.fields _=Data.cell v:=z;cases z'⟩
 keep:=λi h h' st k=>k it (by simp) _ st
 item:=by
  intro X hP hw hK hc i pins s σ H E I hf st hg;subst hP hw hK;obtain⟨f0,f1,f2,f3,f4,f5⟩:=hf it (by simp);have W:=Walks.range (prog:=X.prog) (w:=X.w) (I.ok.hd hc) it lo 1 n;refine W.item i s _ _ hg st λv h' tk hv st' kk=>?_;obtain⟨t,rfl⟩:=hv;have I1:Inv X pins σ H {s with heap:=h',toks:=tk }:=I.turned (λb o hb e=>kk b o (by simpa using hb) e) f0 f1 f3 f4 f5;refine⟨_,rfl,z2p (s:={s with heap:=h',toks:=tk }) (n:="range_iterator") st' rfl rfl (by decide) ⟨.int (lo+i),H,I1,⟨t,?_⟩,⟨rfl,rfl⟩,st',λb hb=>(hf b hb).1⟩⟩;rw[Int.mul_one]
 done:=by
  intro X hP hw hK hc i pins s σ H E I hf st hg;subst hP hw hK;obtain⟨f0,f1,f2,f3,f4,f5⟩:=hf it (by simp);exact wpAny_pyNext_range_end (I.ok.hd hc) st (by have:n<=i:=hg;omega) λh' eb=>⟨rfl,I.turned (t':=s.toks) (λb o hb e=>eb b o hb e) f0 f1 f3 f4 f5⟩
 self:=λ_ _ _ _ _ st h=>wpAny_pyIter_rangeiter st h
section
variable {X:Cx}{tg:yz}
def zwp(K:yt)(tl:TE):TI:=λσ H R=>tl σ H λx H1=>∃a,x=.ref a/\(∃xs,SqL K H1 a xs)/\R (Itl K a) H1
def zww(K:yt)(tl:TE):TI:=λσ H R=>tl σ H λx H1=>∃a,x=.ref a/\(∃xs,SqT K H1 a xs)/\R (Itt K a) H1
def z1s{l:yz}{tl:TE}(hl:PE X l tl):PI X tg l (zwp X.K tl):=by
 intro pins s σ H R I h;refine thn (hl pins s σ H _ I h) λv s1 ⟨x,H1,I1,r1,q1⟩=>?_;obtain⟨a,e,⟨xs,hq⟩,q⟩:=q1;subst e;cases r1;obtain⟨its,rv,p,hz⟩:=I1.list hq;refine wpAny_pyIter_list p.isList ?_;refine⟨s1.heap.objs.size,[s1.heap.objs.size],_,_,H1,rfl,I1.kept (t':=s1.toks) λb o e=>ye _ e,zUp a _,⟨_,yx _ rfl,rfl,rfl⟩,λb hb=>?_,q⟩;have e:b=s1.heap.objs.size:=by simpa using hb
 subst e;exact I1.sM (yh _) (I1.hok.fresh (yh _))
def zcu{l:yz}{tl:TE}(hl:PE X l tl):PI X tg l (zww X.K tl):=by
 intro pins s σ H R I h;refine thn (hl pins s σ H _ I h) λv s1 ⟨x,H1,I1,r1,q1⟩=>?_;obtain⟨a,e,⟨xs,hq⟩,q⟩:=q1;subst e;cases r1;obtain⟨its,rv,p,hz⟩:=I1.tuple hq;refine wpAny_pyIter_tuple (show s1.heap.IsTuple a its.toArray from p) ?_;refine⟨s1.heap.objs.size,[s1.heap.objs.size],_,_,H1,rfl,I1.kept (t':=s1.toks) λb o e=>ye _ e,zOn a _,⟨_,yx _ rfl,rfl,rfl⟩,λb hb=>?_,q⟩;have e:b=s1.heap.objs.size:=by simpa using hb
 subst e;exact I1.sM (yh _) (I1.hok.fresh (yh _))
def z8q{pins:List (yb×Yw)}{σ:St}{H:Hp}{s:yd}{R:It->Hp->Prop}{E:Value->yd->Prop}{lo hi:Int}{t u v:Tok}{tk:Nat}(I:Inv X pins σ H s)(h1:-(2^62)<=lo)(h2:lo<2^62)(h3:-(2^62)<=hi)(h4:hi<2^62)
 (q:R (Itr lo (hi-lo).toNat) H):yq (yy X.prog X.w) X.A (pyIter (.ref s.heap.objs.size)) (PIE X pins σ tg R) E {s with heap:=s.heap.push {cls:=.type "range",data:=.fields #[.int lo t,.int hi u,.int 1 v]},toks:=tk }:=by
 refine wpAny_pyIter_range (IsRange.new ..) (small_one h1 h2 h3 h4) ?_;have I1:Inv X pins σ H {s with heap:=s.heap.push {cls:=.type "range",data:=.fields #[.int lo t,.int hi u,.int 1 v]},toks:=tk }:=I.kept λb o e=>ye _ e
 refine⟨(s.heap.push {cls:=.type "range",data:=.fields #[.int lo t,.int hi u,.int 1 v]}).objs.size,[(s.heap.push {cls:=.type "range",data:=.fields #[.int lo t,.int hi u,.int 1 v]}).objs.size],_,_,H,rfl,
  I1.kept (t':=tk) λb o e=>ye _ e,zun _ lo (hi-lo).toNat,?_,λb hb=>?_,q⟩
 ·have e1:lo+((0:Nat):Int)*1=lo:=by simp
  have e2:(((hi-lo).toNat:Nat):Int)-((0:Nat):Int)=Builtin.Range.rangeSize lo hi 1:=by rw[rangeSize_one];split<;>omega
  show IsRangeIter _ _ (lo+((0:Nat):Int)*1) ((((hi-lo).toNat:Nat):Int)-((0:Nat):Int)) 1;rw[e1,e2];exact yx _ rfl
 ·have e:b=(s.heap.push {cls:=.type "range",data:=.fields #[.int lo t,.int hi u,.int 1 v]}).objs.size:=by simpa using hb
  subst e;exact I1.sM (yh _) (I1.hok.fresh (yh _))
def zfv(ta:TA):TI:=λσ H R=>ta σ H λvs H1=>∃j:Int,vs=[.int j]/\-(2^62)<=j/\j<2^62/\R (Itr 0 j.toNat) H1
def zOp{a:yz}{ta:TA}{p pos:YR}(hg:Gl X "range")(hm:X.mg "range"=none)(ha:PA X [a] ta)(hs:yf [a] X.env=[(false,yV a X.env)]:=by rfl):PI X tg (.Call (.Name "range" p) [a] [] pos) (zfv ta):=by
 intro pins s σ H R I h;refine Call_ (zFh I hg hm boot_range (Yv (thn (ha pos pins s σ H _ I h) λus s1 ⟨vs,H1,I1,r1,q1⟩=>?_) hs rfl));obtain⟨j,e,q1,q2,q⟩:=q1;subst e
 cases r1 with
 |cons r rr=>
  cases rr;obtain⟨t,rfl⟩:=r;exact call_range_1 (z8q I1 (by omega) (by omega) q1 q2 (by simpa using q))
def z5v(wi:TI)(g:TG)(tb:TS):TS:=λD σ H=>wi σ H λJ H1=>∃W:Nat->Nat->St->Hp->Prop,(∃m,W 0 m σ H1)/\∀i m σ H,W i m σ H ->
 (J.stop i H/\D.nx σ H)\/(J.go i H/\∃N:St->Hp->Prop,(∀σ' H',N σ' H'->∃m',m'<m/\W (i+1) m' σ' H')/\∀x H',J.yld i H x H'->g x σ H' λσ2 H2=>tb {D with nx:=N,ct:=N,bk:=D.nx } σ2 H2)
def zEk(fp:List yb)(h:yR):List (yb×Yw):=fp.filterMap λb=>(h.get? b).map λo=>(b,o)
def z0e{fp:List yb}{h:yR}{b:yb}{o:Yw}(hb:b∈fp)(e:h.get? b=some o):(b,o)∈zEk fp h:=List.mem_filterMap.mpr ⟨b,hb,by rw[e];rfl⟩
def zup{fp:List yb}{h:yR}{p:yb×Yw}(hp:p∈zEk fp h):p.1∈fp/\h.get? p.1=some p.2:=by
 obtain⟨b,hb,e⟩:=List.mem_filterMap.mp hp
 cases q:h.get? b with
 |none=>rw[q]at e;cases e
 |some o=>
  rw[q]at e;have e':(b,o)=p:=yU e;subst e';exact⟨hb,q⟩
def Inv.pinned{pins:List (yb×Yw)}{σ:St}{H:Hp}{s:yd}{fp:List yb}(I:Inv X pins σ H s)(hf:∀b∈fp,zQm X pins H b)(ho:∀b∈fp,∃o,s.heap.get? b=some o/\∀v,o.data≠.cell v):Inv X (pins++zEk fp s.heap) σ H s :=
 I.sy λp hp=>(List.mem_append.mp hp).elim (λz=>I.pin p (mem_append_right _ z)) λz=>by
  obtain⟨hb,e⟩:=zup z;obtain⟨f0,f1,f2,_⟩:=hf p.1 hb;obtain⟨o,e',d⟩:=ho p.1 hb;rw[e]at e';cases e';exact⟨e,f0,f1,f2,d⟩
def Inv.Tx{pins pl:List (yb×Yw)}{σ:St}{H:Hp}{s:yd}(I:Inv X (pins++pl) σ H s):Inv X pins σ H s:=I.sy λp hp=>I.pin p (mem_append_right _ (List.mem_append_left _ hp))
def z4t{iter:yz}{body:List yX}{wi:TI}{g:TG}{tb:TS}{pos:YR}(hp:PassesOwn (yy X.prog X.w) X.A X.env X.xe)(hc:X.calm=true)(hi:PI X tg iter wi)(hg:PG X tg g)(hb:PSs X body tb)
 (hs:∀x,Yy iter X.env x=pure x:=by intro _;rfl):PS X (.For tg iter body [] pos) (z5v wi g tb):=by
 intro pins s σ H D I h;refine wpAny_For (thn (hi pins s σ H _ I h) λv s1 h1=>thn h1 λitv s2 h2=>?_) hs;obtain⟨it,fp,tn,J,H2,e,I2,T,st2,f2,W,⟨m0,w0⟩,turn⟩:=h2;subst e;have stat:∀{H':Hp},(∀b∈fp,H' b=none)->∀b∈fp,zQm X pins H' b:=λhn b hb=>⟨hn b hb,(f2 b hb).2⟩
 refine codeAny_forLoop_any (λn s'=>∃i σ' H',Inv X pins σ' H' s'/\tn i s'.heap/\(∀b∈fp,H' b=none)/\W i n σ' H') ?_ m0 ⟨0,σ,H2,I2,st2,λb hb=>(f2 b hb).1,w0⟩;rintro n s3 ⟨i,σ3,H3,I3,st3,fr3,w3⟩;rcases turn i n σ3 H3 w3 with ⟨stop,qn⟩|⟨go,N,hN,step⟩
 ·refine YZ hp (thn (T.done X rfl rfl rfl hc i pins s3 σ3 H3 X.xe I3 (stat fr3) st3 stop) λr s4 ⟨hr,I4⟩=>?_);subst hr;exact xv ⟨σ3,H3,I4,qn⟩
 ·refine YZ hp (thn (T.item X rfl rfl rfl hc i pins s3 σ3 H3 X.xe I3 (stat fr3) st3 go) λr s4 ⟨u,hr,h4⟩=>?_);subst hr;refine YZ hp (thn h4 λ_ s5 ⟨x,H5,I5,r5,y5,st5,fr5⟩=>?_);have I5':=I5.pinned (stat fr5) (T.obj _ _ st5);refine YZ hp (thn (hg _ s5 σ3 H5 x u _ I5' r5 (step x H5 y5)) λ_ s6 ⟨σ6,H6,I6,q6⟩=>?_);refine YZ hp (thn (hb _ s6 σ6 H6 _ I6 q6) λf s7 q7=>?_)
  have again:∀{σ7:St} {H7:Hp},Inv X (pins++zEk fp s5.heap) σ7 H7 s7->N σ7 H7->∃m,m<n/\∃i σ' H',Inv X pins σ' H' s7/\tn i s7.heap/\(∀b∈fp,H' b=none)/\W i m σ' H':=λ{σ7 H7} I7 n7=>by
   obtain⟨m',hm,w7⟩:=hN σ7 H7 n7;refine⟨m',hm,i+1,σ7,H7,I7.Tx,T.keep _ _ _ st5 λb hb o e=>(I7.pin (b,o) (mem_append_right _ (mem_append_right _ (z0e hb e)))).1,λb hb=>?_,w7⟩;obtain⟨o,e,d⟩:=T.obj _ _ st5 b hb;exact(I7.pin (b,o) (mem_append_right _ (mem_append_right _ (z0e hb e)))).2.1
  cases f with
  |next=>obtain⟨σ7,H7,I7,n7⟩:=q7;exact again I7 n7
  |cont=>obtain⟨σ7,H7,I7,n7⟩:=q7;exact again I7 n7
  |brk=>obtain⟨σ7,H7,I7,q7⟩:=q7;exact⟨σ7,H7,I7.Tx,q7⟩
  |ret v=>obtain⟨x7,σ7,H7,I7,r7,q7⟩:=q7;exact⟨x7,σ7,H7,I7.Tx,r7,q7⟩
end
abbrev R2:=V->V->Hp->VK->Prop
def OpR(X:Cx)(f:Value->Value->Sem Value)(r:R2):Prop :=
 ∀(pins:List (yb×Yw)) (s:yd) (σ:St) (H:Hp) (x y:V) (v u:Value) (Q:VK),Inv X pins σ H s->RelV x v->RelV y u->r x y H Q ->
  yq (yy X.prog X.w) X.A (f v u) (EP X pins σ Q) X.xe s
def z7l(X:Cx)(f:Value)(r:List V->Hp->VK->Prop):Prop :=
 ∀(pins:List (yb×Yw)) (s:yd) (σ:St) (H:Hp) (xs:List V) (us:List Value) (Q:VK),Inv X pins σ H s->Vals xs us->r xs H Q ->
  yq (yy X.prog X.w) X.A (call f us) (EP X pins σ Q) X.xe s
def tOp(r:R2)(ta tb:TE):TE:=λσ H Q=>ta σ H λx H1=>tb σ H1 λy H2=>r x y H2 Q
def rI(C:Int->Int->Prop)(g:Int->Int->V):R2:=λx y H Q=>∃i j,x=.int i/\y=.int j/\C i j/\Q (g i j) H
def rI0(g:Int->Int->V):R2:=λx y H Q=>∃i j,x=.int i/\y=.int j/\Q (g i j) H
section
variable {X:Cx}{a b c:yz}{ta tb tc:TE}{pos:YR}
def binT(ha:PE X a ta)(hb:PE X b tb){pins:List (yb×Yw)}{s:yd}{σ:St}{H:Hp}{R:V->V->Hp->Prop}(I:Inv X pins σ H s)
 (h:ta σ H λx H1=>tb σ H1 λy H2=>R x y H2) {Q:Value->yd->Prop} {f:Value->Value->Sem Value}
 (hf:∀v u s2 x y H2,Inv X pins σ H2 s2->RelV x v->RelV y u->R x y H2->yq (yy X.prog X.w) X.A (f v u) Q X.xe s2) :
 yq (yy X.prog X.w) X.A (yV a X.env) (λv s₁=>yq (yy X.prog X.w) X.A (yV b X.env) (λu s₂=>yq (yy X.prog X.w) X.A (f v u) Q X.xe s₂) X.xe s₁) X.xe s:=by
 refine thn (ha pins s σ H _ I h) λv s1 ⟨x,H1,I1,r1,q1⟩=>?_;refine thn (hb pins s1 σ H1 _ I1 q1) λu s2 ⟨y,H2,I2,r2,q2⟩=>?_;exact hf v u s2 x y H2 I2 r1 r2 q2
def z2u{op:Operator}{r:R2}(ho:OpR X (YT op) r)(ha:PE X a ta)(hb:PE X b tb):PE X (.BinOp a op b pos) (tOp r ta tb):=by
 intro pins s σ H Q I h;exact wpAny_BinOp (binT ha hb I h λv u s2 x y H2 I2 rx ry q=>ho pins s2 σ H2 x y v u Q I2 rx ry q)
def opI{f:Value->Value->Sem Value}{C:Int->Int->Prop}{g:Int->Int->Int}
 (rule:∀(i j:Int)(t u:Tok)(s:yd)(Q:Value->yd->Prop)(E:Value->yd->Prop),C i j->Q (.int (g i j) s.toks) {s with toks:=s.toks+1 }->yq (yy X.prog X.w) X.A (f (.int i t) (.int j u)) Q E s) :
 OpR X f (rI C λi j =>.int (g i j)):=by
 intro pins s σ H x y v u Q I rx ry h;obtain⟨i,j,rfl,rfl,hc,q⟩:=h;obtain⟨t,rfl⟩:=rx;obtain⟨t',rfl⟩:=ry;exact rule i j t t' s _ _ hc ⟨.int (g i j),H,I.tok _,⟨_,rfl⟩,q⟩
def opI0{f:Value->Value->Sem Value}{g:Int->Int->Int}
 (rule:∀(i j:Int)(t u:Tok)(s:yd)(Q:Value->yd->Prop)(E:Value->yd->Prop),Q (.int (g i j) s.toks) {s with toks:=s.toks+1 }->yq (yy X.prog X.w) X.A (f (.int i t) (.int j u)) Q E s) :
 OpR X f (rI0 λi j =>.int (g i j)):=by
 intro pins s σ H x y v u Q I rx ry h;obtain⟨i,j,rfl,rfl,q⟩:=h;obtain⟨t,rfl⟩:=rx;obtain⟨t',rfl⟩:=ry;exact rule i j t t' s _ _ ⟨.int (g i j),H,I.tok _,⟨_,rfl⟩,q⟩
def opB0{f:Value->Value->Sem Value}{g:Int->Int->Bool}
 (rule:∀(i j:Int)(t u:Tok)(s:yd)(Q:Value->yd->Prop)(E:Value->yd->Prop),Q (.bool (g i j)) s->yq (yy X.prog X.w) X.A (f (.int i t) (.int j u)) Q E s) :
 OpR X f (rI0 λi j =>.bl (g i j)):=by
 intro pins s σ H x y v u Q I rx ry h;obtain⟨i,j,rfl,rfl,q⟩:=h;obtain⟨t,rfl⟩:=rx;obtain⟨t',rfl⟩:=ry;exact rule i j t t' s _ _ ⟨.bl (g i j),H,I,rfl,q⟩
def zut:OpR X (YT .Mod) (rI (λ_ j=>0<j) λi j =>.int (i%j)):=opI λi j _ _ _ _ _ hc q=>by
 have h1:(0:Int)<j:=hc;exact mod_int' (by omega) (by rw[Int.fmod_eq_emod_of_nonneg i (by omega)];exact q)
def zht:OpR X (inplaceOp .Add) (rI0 λi j =>.int (i+j)):=opI0 λ_ _ _ _ _ _ _ q=>iadd_int q
end
section
variable {X:Cx}{a b c:yz}{ta tb tc:TE}{pos:YR}
def zsr{pins:List (yb×Yw)}{σ:St}{H:Hp}{s:yd}{Q:VK}{k k':Bool}(I:Inv X pins σ H s)(q:Q (.bl k) H)(e:k=k'):EP X pins σ Q (.bool k') s:=by
 subst e;exact⟨.bl k,H,I,rfl,q⟩
def z4u:OpR X (Yn .Lt) (rI0 λi j =>.bl (decide (i<j))):=opB0 λ_ _ _ _ _ _ _ q=>lt_int q
def zcv:OpR X (Yn .Gt) (rI0 λi j =>.bl (decide (j<i))):=opB0 λ_ _ _ _ _ _ _ q=>gt_int q
def zjj:OpR X (Yn .Is) (λx y H Q=>y=.non/\Q (.bl (decide (x=.non))) H):=by
 intro pins s σ H x y v u Q I rx ry h;obtain⟨rfl,q⟩:=h;cases ry;refine is_none_gen (zsr I q ?_)
 cases x<;>first
  |(cases rx;rfl)
  |(obtain⟨t,rfl⟩:=rx;rfl)
def zAg:OpR X (Yn .IsNot) (λx y H Q=>y=.non/\Q (.bl (!decide (x=.non))) H):=by
 intro pins s σ H x y v u Q I rx ry h;obtain⟨rfl,q⟩:=h;cases ry;refine isnot_none_gen (zsr I q ?_)
 cases x<;>first
  |(cases rx;rfl)
  |(obtain⟨t,rfl⟩:=rx;rfl)
def zks{op:CmpOp}{r:R2}(ho:OpR X (Yn op) r)(ha:PE X a ta)(hb:PE X b tb)(hm:behindInMarks op b=false):PE X (.Compare a [op] [b] pos) (tOp r ta tb):=by
 intro pins s σ H Q I h;exact wpAny_Compare1 (binT ha hb I h λv u s2 x y H2 I2 rx ry q=>ho pins s2 σ H2 x y v u Q I2 rx ry q) hm
def zHv(t:TE):TT:=λσ H Q=>t σ H λx H'=>∃k,x=.bl k/\Q k H'
def zQs{op:CmpOp}{r:R2}(ho:OpR X (Yn op) r)(ha:PE X a ta)(hb:PE X b tb)(hm:behindInMarks op b=false):PT X (.Compare a [op] [b] pos) (zHv (tOp r ta tb)):=by
 intro pins s σ H Q I h
 refine wpAny_isTrue_Compare1 (thn (ha pins s σ H _ I h) λv s1 ⟨x,H1,I1,r1,q1⟩=>thn (hb pins s1 σ H1 _ I1 q1) λu s2 ⟨y,H2,I2,r2,q2⟩=>
  thn (ho pins s2 σ H2 x y v u _ I2 r1 r2 q2) λc s3 ⟨z,H3,I3,r3,k,e,q3⟩=>?_) hm
 subst e;cases r3;exact xH ⟨H3,I3,q3⟩
def sj:(yC:Nat)<2^63:=by rw[Yh];decide
def vals1{x:V}{us:List Value}(r:Vals [x] us):∃u,us=[u]/\RelV x u:=by
 cases r with
 |cons r1 r2=>cases r2;exact⟨_,rfl,r1⟩
def vals2{x y:V}{us:List Value}(r:Vals [x,y] us):∃u w',us=[u,w']/\RelV x u/\RelV y w':=by
 cases r with
 |cons r1 r2=>
  cases r2 with
  |cons r3 r4=>cases r4;exact⟨_,_,rfl,r1,r3⟩
end
structure sN(h:yR)(x dx C:yb)(mA:yr->Option Value):Prop where
 obj:h.get? x=some (W.instObj C dx)
 ns:h.Ns1 dx mA
 ne:dx≠x
def zOo{h:yR}{dx:yb}{mA:yr->Option Value}(n:h.Ns1 dx mA):∃od,h.get? dx=some od/\∀name,W.lookIn name od=some (mA name):=by
 obtain⟨o,es,ep,ho,hd,hk,_,hm⟩:=n;refine⟨o,ho,λname=>?_⟩;have e:=hm name;unfold nsFind findBy at e;rw[<-Array.find?_toList]at e;unfold W.lookIn;rw[hd];dsimp only
 split
 ·rename_i y q
  rw[q]at e;exact congrArg some e
 ·rename_i q
  rw[q]at e
  have a:es.toList.any (·.refKey)=false:=by
   rw[List.any_eq_false];intro y hy;obtain⟨z,t,hkey⟩:=hk y (Array.mem_toList_iff.mp hy);simp[DictEntry.refKey,hkey]
  have a':¬es.toList.any (·.refKey)=true:=by rw[a];exact yB
  rw[if_neg a'];exact congrArg some e
def sN.look{h:yR}{x dx C:yb}{mA:yr->Option Value}(I:sN h x dx C mA):∃od,W.InstAt h x (W.instObj C dx) C (some od)/\∀name,W.lookIn name od=some (mA name) :=
 let ⟨od,ho,hl⟩:=zOo I.ns
 ⟨od,⟨I.obj,rfl,rfl,ho⟩,hl⟩
section
variable {prog:yu}{w:yI}{A:yJ}{E:Value->yd->Prop}{s:yd}{K:yt}{x dx C f:yb}{mA:yr->Option Value}{name:yr}{v:Value}
def zAs{expr:Bool}{Q:Value->yd->Prop}(X:K.In s.heap)(I:sN s.heap x dx C mA)(hg:W.plainGet K C name=true)(hh:W.hasDictIn K C=true)
 (ha:Yb K (.ref C) name=some none) (hv:mA name=some v) (hv':W.handedIn v=true) (h:Q v {s with toks:=s.toks+1 }) :
 yq (yy prog w) A (getAttr (.ref x) name expr) Q E s:=by
 obtain⟨od,J,hl⟩:=I.look;exact W.get_value X J (W.plainGet_of hg).1 (W.findObj_own hh ha rfl (by rw[hl,hv])) hv' h
def zYq{pl:Sem Bool}{Q:Value×List Value->yd->Prop}(X:K.In s.heap)(I:sN s.heap x dx C mA)(hg:W.plainGet K C name=true)
 (hf:Yb K (.ref C) name=some (some (.ref f))) (ht:W.isFn K (.ref f)=true) (hv:mA name=none) (h:Q (.ref f,[.ref x]) s) :
 yq (yy prog w) A (getMethod (.ref x) name pl) Q E s:=by
 obtain⟨od,J,hl⟩:=I.look;exact W.method_fn X J (W.plainGet_of hg).1 (W.plainGet_of hg).2 hf (beq_iff_eq.mp ht) (by show(W.lookIn name od).map (·.isSome)=some false;rw[hl,hv];rfl) h
def zvs{ns:List yr}{Q:Unit->yd->Prop}(X:K.In s.heap)(I:sN s.heap x dx C mA)
 (hs:Yb K (.ref C) "__setattr__"=some (some (.builtin "object.__setattr__"))) (hp:W.plainOver K C=true) (ht:W.takerIn K C name=some none) (hh:W.hasDictIn K C=true)
 (hw:PySem.Within mA ns) (hsz:ns.length<=yC)
 (h:∀h',sN h' x dx C (λy=>if y=name then some v else mA y)->Yq dx s.heap h'->Q () {s with heap:=h',toks:=s.toks+2 }) :
 yq (yy prog w) A (setAttr (.ref x) name v) Q E s:=by
 obtain⟨od,J,hl⟩:=I.look;refine W.set_plain X J hs (W.osa_open (s:={s with toks:=s.toks+1 }) (r:=none) X J hp ht λb=>?_);obtain⟨cd,hc,hd'⟩:=W.any_some hh;have hx:s.heap.get? x=some ⟨.ref C,some dx,.plain,#[]⟩:=I.obj;refine ya (yp (ya (ya (wpAny_loadPart hx (ya (W.Looks.here (s:={s with toks:=s.toks+1 }) (W.looks_clsIn X hc) ?_))))));rw[hd'];refine yp (a:=some dx) (ya (yp (ya ?_)));refine wpAny_nsSet1 (s:={s with toks:=s.toks+1 }) I.ns λh' hn2 hs2=>?_;obtain⟨oD,esD,epD,hoD,hdD,hcD⟩:=hn2.count (PySem.Within.cons name v hw);refine ya (wpAny_lookBehind hoD (by rw[hdD];exact pastItsLine_dict (yA hcD (by rw[length_cons];omega))) ?_);exact yp (h _ ⟨(hs2.2 _ (yM I.ne)).trans I.obj,hn2,I.ne⟩ hs2)
def zer{R:Result->yd->Prop}{vs:List Value}{kw:List (yr×Value)}(X:K.In s.heap)(hm:W.makesIn K C=true)
 (hi:Yb K (.ref C) "__init__"=some (some (.ref f))) (hf:W.typeIn K (.ref f)=some (.type "function"))
 (h:codeAny (yy prog w) (A.under (.builtin "type.__call__" ⟨.ref C::vs,kw⟩)) (.call (.ref f) ⟨.ref (s.heap.objs.size+1)::vs,kw⟩) (W.InitBack (s.heap.objs.size+1) R)
  {s with heap:=(s.heap.push xp).push (W.instObj C s.heap.objs.size)}) :
 codeAny (yy prog w) A (.call (.ref C) ⟨vs,kw⟩) R s:=by
 obtain⟨hh,g,d,t,os⟩:=s;exact W.make_core (W.makes_of X hm) (W.looks_findIn X hi) (λself=>W.bind_fn X self hf) (.inl rfl) h
end
def zui(f:yr)(v:V):List (yr×V)->List (yr×V)
 |[]=>[(f,v)]
 |(g,x)::r=>if g=f then(g,v)::r else(g,x)::zui f v r
def zCh(f g:yr)(v:V):∀fs:List (yr×V),(zui f v fs).lookup g=if g=f then some v else fs.lookup g
 |[]=>by
  show Yu g [(f,v)]=_
  by_cases h:g=f
  ·have hb:(g==f)=true:=beq_iff_eq.mpr h;simp only[Yu,hb,if_pos h]
  ·have hb:(g==f)=false:=beq_eq_false_iff_ne.mpr h;simp only[Yu,hb,if_neg h]
 |(k,x)::r=>by
  have ih:=zCh f g v r;rw[show zui f v ((k,x)::r)=(if k=f then(k,v)::r else(k,x)::zui f v r) from rfl]
  by_cases hk:k=f
  ·rw[if_pos hk]
   by_cases h:g=k
   ·have hb:(g==k)=true:=beq_iff_eq.mpr h;simp only[Yu,hb,if_pos (h.trans hk)]
   ·have hb:(g==k)=false:=beq_eq_false_iff_ne.mpr h;simp only[Yu,hb,if_neg (λe:g=f=>h (e.trans hk.symm))]
  ·rw[if_neg hk]
   by_cases h:g=k
   ·have hb:(g==k)=true:=beq_iff_eq.mpr h;simp only[Yu,hb,if_neg (λe:g=f=>hk (h.symm.trans e))]
   ·have hb:(g==k)=false:=beq_eq_false_iff_ne.mpr h;simp only[Yu,hb];exact ih
def zHh(f:yr)(v:V):∀fs:List (yr×V),f∈(zui f v fs).map (·.1)/\∀g,g∈fs.map (·.1)->g∈(zui f v fs).map (·.1)
 |[]=>⟨by simp[zui],λg h=>by simp at h⟩
 |(k,x)::r=>by
  obtain⟨i1,i2⟩:=zHh f v r;rw[show zui f v ((k,x)::r)=(if k=f then(k,v)::r else(k,x)::zui f v r) from rfl]
  by_cases hk:k=f
  ·rw[if_pos hk];subst hk;exact⟨by simp,λg h=>by simpa using h⟩
  ·rw[if_neg hk];refine⟨?_,λg h=>?_⟩
   ·rw[map_cons];exact mem_cons_of_mem _ i1
   ·rw[map_cons]at h ⊢;rcases List.mem_cons.mp h with e|e
    ·exact List.mem_cons.mpr (.inl e)
    ·exact mem_cons_of_mem _ (i2 g e)
def zii(f:yr)(v:V):∀fs:List (yr×V),(zui f v fs).length<=fs.length+1
 |[]=>by simp[zui]
 |(k,x)::r=>by
  have ih:=zii f v r;rw[show zui f v ((k,x)::r)=(if k=f then(k,v)::r else(k,x)::zui f v r) from rfl]
  by_cases hk:k=f
  ·rw[if_pos hk,length_cons,length_cons];omega
  ·rw[if_neg hk,length_cons,length_cons];omega
def Tv.some_of{v:V}{o:Option Value}(r:Tv (some v) o):∃u,o=some u/\RelV v u:=by
 cases o with
 |none=>exact(show False from r).elim
 |some u=>exact⟨u,rfl,r⟩
def Tv.none_of{o:Option Value}(r:Tv none o):o=none:=by
 cases o with
 |none=>rfl
 |some u=>exact(show False from r).elim
def zLo{v:V}{u:Value}(r:RelV v u):W.handedIn u=true:=by
 cases v with
 |non=>cases (show u=Yk from r);rfl
 |bl b=>cases (show u=Value.bool b from r);rfl
 |int i=>obtain⟨t,e⟩:=(show ∃t,u=Value.int i t from r);cases e;rfl
 |str x=>obtain⟨t,e⟩:=(show ∃t,u=Value.str x t from r);cases e;rfl
 |byt b=>obtain⟨t,e⟩:=(show ∃t,u=Value.bytes b t from r);cases e;rfl
 |flt b=>obtain⟨t,e⟩:=(show ∃t,u=Value.float b t from r);cases e;rfl
 |ref a=>cases (show u=yH a from r);rfl
 |ty n=>cases (show u=YD n from r);rfl
section
variable {P:yu}{w:yI}{H H':Hp}{h h':yR}{a C dx:yb}{fs fs':List (yr×V)}
def z9j(hok:HOk P w H h)(e:H a=some (.ins C dx fs)):∃mA,sN h a dx C mA/\(∀f,Tv (fs.lookup f) (mA f))/\PySem.Within mA (fs.map (·.1))/\fs.length<=1000/\H dx=some (.own a):=by
 obtain⟨d,z,ne,ob,mA,n,r,q⟩:=(show tF P w H h a (.ins C dx fs) from hok a _ e)
 exact⟨mA,⟨ob,n,ne⟩,r,q,z,d⟩
end
structure Cls(K:yt)(C:yb):Prop where
 pg:W.plainGet K C Str.empty=true
 hd:W.hasDictIn K C=true
 po:W.plainOver K C=true
 sa:Yb K (.ref C) "__setattr__"=some (some (.builtin "object.__setattr__"))
def Cls.get{K:yt}{C:yb}(c:Cls K C)(f:yr):W.plainGet K C f=true:=c.pg
def TL(K:yt)(C:yb)(f:yr):Prop:=Yb K (.ref C) f=some none
def TL.taker{K:yt}{C:yb}{f:yr}(n:TL K C f):W.takerIn K C f=some none:=by
 unfold W.takerIn;rw[show Yb K (.ref C) f=some none from n];rfl
structure Con(K:yt)(C:yb)(f:yr)(v:V)(u:Value):Prop where
 at_:Yb K (.ref C) f=some (some u)
 rel:RelV v u
 get:W.specialIn K u "__get__"=some none
 cp:W.copiedNames.contains f=false
structure Meth(K:yt)(C:yb)(m:yr)(f:yb):Prop where
 at_:Yb K (.ref C) m=some (some (.ref f))
 fn:W.isFn K (.ref f)=true
 kp:W.keepIn K (.ref f)=true
section
variable {X:Cx}{pins:List (yb×Yw)}{σ:St}{H:Hp}{s:yd}{a C dx:yb}{fs:List (yr×V)}{f:yr}{v:V}{A:yJ}{E:Value->yd->Prop}
def zJn{b:Bool}{Q:Value->yd->Prop}(I:Inv X pins σ H s)(e:H a=some (.ins C dx fs))(c:Cls X.K C)(n:TL X.K C f)(l:fs.lookup f=some v)
 (h:∀u s',Inv X pins σ H s'->RelV v u->Q u s'):yq (yy X.prog X.w) A (getAttr (.ref a) f b) Q E s:=by
 obtain⟨mA,O,r,_,_,_⟩:=z9j I.hok e;obtain⟨u,hu,ru⟩:=Tv.some_of (v:=v) (o:=mA f) (by rw[<-l];exact r f);exact zAs I.kIn O (c.get f) c.hd n hu (zLo ru) (h u _ (I.tok _) ru)
def zCg{m:yr}{g:yb}{pl:Sem Bool}{Q:Value×List Value->yd->Prop}(I:Inv X pins σ H s)(e:H a=some (.ins C dx fs))(c:Cls X.K C)(k:Meth X.K C m g)(l:fs.lookup m=none)
 (h:Q (.ref g,[.ref a]) s):yq (yy X.prog X.w) A (getMethod (.ref a) m pl) Q E s:=by
 obtain⟨mA,O,r,_,_,_⟩:=z9j I.hok e;have hn:mA m=none:=Tv.none_of (by rw[<-l];exact r m);exact zYq I.kIn O (c.get m) k.at_ k.fn hn h
def zwn{y:V}{u:Value}{Q:Unit->yd->Prop}(I:Inv X pins σ H s)(e:H a=some (.ins C dx fs))(c:Cls X.K C)(n:TL X.K C f)(hl:fs.length<1000)(ry:RelV y u)
 (h:∀s',Inv X pins σ (upd H a (.ins C dx (zui f y fs))) s'->Q () s'):yq (yy X.prog X.w) A (setAttr (.ref a) f u) Q E s:=by
 obtain⟨mA,O,r,wi,_,ho⟩:=z9j I.hok e;have hz:(fs.map (·.1)).length<=yC:=by rw[length_map,Yh];omega
 refine zvs I.kIn O c.sa c.po n.taker c.hd wi hz λh' O' sb=>h _ ?_;have hd:∃o,h'.get? dx=some o:=let ⟨o,_,_,e',_⟩:=O'.ns;⟨o,e'⟩;refine I.write (x:=a) (e:=dx) (by rw[e];exact xr) (.inr ho) (λb q hb z=>(sb.2 b hb).trans z) hd ?_;refine⟨by rw[zr O.ne];exact ho,?_,O.ne,O'.obj,_,O'.ns,λg=>?_,λg hg=>?_⟩
 ·have:=zii f y fs;omega
 ·show Tv ((zui f y fs).lookup g) (if g=f then some u else mA g);rw[zCh]
  by_cases q:g=f
  ·rw[if_pos q,if_pos q];exact ry
  ·rw[if_neg q,if_neg q];exact r g
 ·by_cases q:g=f
  ·rw[q];exact(zHh f y fs).1
  ·refine(zHh f y fs).2 g (wi g λz=>hg ?_);show(if g=f then some u else mA g)=none;rw[if_neg q];exact z
def Inv.made(I:Inv X pins σ H s):Inv X pins σ (upd (upd H s.heap.objs.size (.own (s.heap.objs.size+1))) (s.heap.objs.size+1) (.ins C s.heap.objs.size []))
 {s with heap:=(s.heap.push xp).push (W.instObj C s.heap.objs.size)}:=by
 have e1:(s.heap.push xp).get? s.heap.objs.size=some xp:=yx s.heap rfl
 have e2:((s.heap.push xp).push (W.instObj C s.heap.objs.size)).get? (s.heap.objs.size+1)=some (W.instObj C s.heap.objs.size):=by
  have:=yx (s.heap.push xp) (o:=W.instObj C s.heap.objs.size) rfl
  rwa [YH]at this
 have e3:(s.heap.push xp).Ns s.heap.objs.size (λ_=>none):=⟨xp,#[],_,e1,rfl,(λe he=>absurd he (by simp)),λ_=>rfl⟩
 have I1:=I.laid (a:=s.heap.objs.size) (o:=.own (s.heap.objs.size+1)) (h':=s.heap.push xp) (t':=s.toks) (λb u q=>ye _ q) (yh _) ⟨_,e1⟩;refine I1.laid (a:=s.heap.objs.size+1) (o:=.ins C s.heap.objs.size []) (t':=s.toks) (λb u q=>ye _ q) (Nat.le_of_eq (YH _ _)) ?_;have ne:s.heap.objs.size≠s.heap.objs.size+1:=yw (YE _);refine⟨by rw[zr ne,zt],Yo _,ne,e2,λ_=>none,(Heap.Ns1.of_empty e3).at λo q=>ye _ q,λ_=>xr,λy hy=>absurd rfl hy⟩
def zit{prog:yu}{w:yI}{env:Env}{e:yz}{f:yr}{pos:YR}{s:yd}{Q:Value->yd->Prop}(hb:Yt e f env (yV e env)=yV e env)
 (h:yq (yy prog w) A (yV e env) (λo s₁=>yq (yy prog w) A (getAttr o f true) Q E s₁) E s):yq (yy prog w) A (yV (.Attribute e f pos) env) Q E s :=
 Attribute_any_ h (by rw[arm_eval_Attribute,hb])
end
def z6v(K:yt)(ta:TE)(f:yr):TE:=λσ H Q=>ta σ H λx H1=>∃a C dx fs v,x=.ref a/\H1 a=some (.ins C dx fs)/\Cls K C/\TL K C f/\fs.lookup f=some v/\Q v H1
def zbw(K:yt)(ta tv:TE)(f:yr):TS:=λD σ H=>tv σ H λy H1=>ta σ H1 λx H2=>∃a C dx fs,x=.ref a/\H2 a=some (.ins C dx fs)/\Cls K C/\TL K C f/\fs.length<1000 /\
 D.nx σ (upd H2 a (.ins C dx (zui f y fs)))
section
variable {X:Cx}{o e value:yz}{f:yr}{pos pos' tpos:YR}{ta tv:TE}
def zEu(he:PE X e ta)(hb:Yt e f X.env (yV e X.env)=yV e X.env):PE X (.Attribute e f pos) (z6v X.K ta f):=by
 intro pins s σ H Q I h;refine zit hb (thn (he pins s σ H _ I h) λu s1 ⟨x,H1,I1,rx,a,C,dx,fs,v,ex,ea,c,n,l,q⟩=>?_);subst ex;obtain rfl:u=yH a:=rx;exact zJn I1 ea c n l λu' s2 I2 ru=>⟨v,H1,I2,ru,q⟩
def zQu(ha:PE X o ta)(hv:PE X value tv)(hs:xk value (some (.Attribute o f pos')) pos.line X.env=pure false):PS X (.Assign [.Attribute o f pos'] value pos) (zbw X.K ta tv f):=by
 intro pins s σ H D I h;refine plainObj_wpAny_Assign_Attribute (thn (hv pins s σ H _ I h) λu s1 ⟨y,H1,I1,ry,q⟩=>thn (ha pins s1 σ H1 _ I1 q) λov s2 ⟨x,H2,I2,rx,a,C,dx,fs,ex,ea,c,n,l,q2⟩=>?_) hs;subst ex;obtain rfl:ov=yH a:=rx;exact zwn I2 ea c n l ry λs3 I3=>⟨σ,_,I3,q2⟩
end
section
variable {X:Cx}{pins:List (yb×Yw)}{σ:St}{H:Hp}{s:yd}{A:yJ}{E:Value->yd->Prop}{Q:Value->yd->Prop}{c:Value}{b:Bool}
inductive TR(K:yt)(H:Hp):V->Value->Prop where
 |non:TR K H .non (.type "NoneType")
 |bl (x:Bool):TR K H (.bl x) (.type "bool")
 |int (i:Int):TR K H (.int i) (.type "int")
 |str (x:yr):TR K H (.str x) (.type "str")
 |flt (x:UInt64):TR K H (.flt x) (.type "float")
 |lst {a:yb} {xs:List V} (e:H a=some (.lst xs)):TR K H (.ref a) (.type "list")
 |frz {a:yb} {o:Yw} {xs:List V} (e:H a=some (.frz o (.lst xs))):TR K H (.ref a) (.type "list")
 |tup {a:yb} {xs:List V} (e:H a=some (.tup xs)):TR K H (.ref a) (.type "tuple")
 |dK {a:yb} {kvs:List (Key×V)} (e:H a=some (.dK kvs)):TR K H (.ref a) (.type "dict")
 |dT {a:yb} {kvs:List (List Key×V)} (e:H a=some (.dT kvs)):TR K H (.ref a) (.type "dict")
 |ins {a C dx:yb} {fs:List (yr×V)} (e:H a=some (.ins C dx fs)) (cl:Cls K C) (ha:Yb K (.ref C) "__class__"=some (some (.builtin "object.__class__")))
  (hn:W.specialIn K (.builtin "object.__class__") "__get__"=some (some (.builtin "getset_descriptor.__get__"))) (htk:W.takesIn K (.builtin "object.__class__")=some true)
  (hm:W.mroIn K C (.type "object")=some true):TR K H (.ref a) (.ref C)
def zFp{x:V}{u t:Value}(I:Inv X pins σ H s)(rx:RelV x u)(ty:TR X.K H x t)(e:W.kitOne X.K t c=some b)(h:∀tk,Q (.bool b) {s with toks:=tk }) :
 yq (yy X.prog X.w) A (call (.builtin "isinstance") [u,c]) Q E s:=by
 cases ty with
 |non=>cases (show u=Yk from rx);exact xA W.kitx_none I.kIn xr e (λz=>nomatch z) h
 |bl y=>cases (show u=Value.bool y from rx);exact xA W.kitx_bool I.kIn xr e (λz=>nomatch z) h
 |int i=>obtain⟨t,q⟩:=(show ∃t,u=Value.int i t from rx);cases q;exact xA W.kitx_int I.kIn xr e (λz=>nomatch z) h
 |str y=>obtain⟨t,q⟩:=(show ∃t,u=Value.str y t from rx);cases q;exact xA W.kitx_str I.kIn xr e (λz=>nomatch z) h
 |flt y=>obtain⟨t,q⟩:=(show ∃t,u=Value.float y t from rx);cases q;exact xA W.kitx_float I.kIn xr e (λz=>nomatch z) h
 |@lst a xs ea=>
  cases (show u=yH a from rx);obtain⟨_,_,n,_,h1⟩:=(show tF X.prog X.w H s.heap a (.lst xs) from I.hok a _ ea)
  exact xA W.kitx_list I.kIn ⟨_,h1,rfl⟩ e (λz=>nomatch z) h
 |@frz a ob xs ea=>
  cases (show u=yH a from rx);obtain⟨_,_,_,n,_,h1⟩:=(show tF X.prog X.w H s.heap a (.frz ob (.lst xs)) from I.hok a _ ea)
  exact xA W.kitx_list I.kIn ⟨_,h1,rfl⟩ e (λz=>nomatch z) h
 |@tup a xs ea=>
  cases (show u=yH a from rx);obtain⟨_,_,_,p⟩:=(show tF X.prog X.w H s.heap a (.tup xs) from I.hok a _ ea)
  obtain⟨o,h1,h2,_⟩:=p;exact xA W.kitx_tuple I.kIn ⟨o,h1,h2⟩ e (λz=>nomatch z) h
 |@dK a kvs ea=>
  cases (show u=yH a from rx);obtain⟨_,_,vs,_,p⟩:=(show tF X.prog X.w H s.heap a (.dK kvs) from I.hok a _ ea)
  obtain⟨o,es,ep,h1,h2,_⟩:=p;exact xA W.kitx_dict I.kIn ⟨o,h1,h2.1⟩ e (λz=>nomatch z) h
 |@dT a kvs ea=>
  cases (show u=yH a from rx);obtain⟨_,_,xs,_,o,es,ep,h1,h2,_⟩:=(show tF X.prog X.w H s.heap a (.dT kvs) from I.hok a _ ea)
  exact xA W.kitx_dict I.kIn ⟨o,h1,h2.1⟩ e (λz=>nomatch z) h
 |@ins a C dx fs ea cl ha hn htk hm=>
  cases (show u=yH a from rx);obtain⟨mA,O,_⟩:=z9j I.hok ea;obtain⟨od,J,_⟩:=O.look;exact xA (W.kitx_own (cl.get _) cl.hd ha hn htk hm) I.kIn J e (λz=>nomatch z) h
end
structure tQ(k:Nat)(A:yJ):Prop where
 hd:A.handled=none
 dp:A.depth+3*k+5<recursionLimit
 un:A.units+16*k+200<cLine
 gd:A.guards=some []
def tQ.mono{j k:Nat}{A:yJ}(r:tQ k A)(h:j<=k):tQ j A:=⟨r.hd,by have:=r.dp;omega,by have:=r.un;omega,r.gd⟩
def tQ.deeper{k:Nat}{A:yJ}(r:tQ (k+1) A)(env:Env):tQ k (A.deeper env) :=
 ⟨r.hd,by have:=r.dp;show A.depth+1+3*k+5<_;omega,by have:=r.un;show A.units+3+16*k+200<_;omega,r.gd⟩
def zkn{A:yJ}{C:yb}{us:List Value}{kw:List (yr×Value)}:(A.under (.builtin "type.__call__" ⟨.ref C::us,kw⟩)).depth=A.depth+1:=by
 first|rfl|simp[Around.under,Code.weight,Code.isCreation,Code.isGuard,Code.isCaller,Code.frames,Code.isFrame,guardIds]
def zFn{A:yJ}{C:yb}{us:List Value}{kw:List (yr×Value)}:(A.under (.builtin "type.__call__" ⟨.ref C::us,kw⟩)).units=A.units+1:=by
 first|rfl|simp[Around.under,Code.cUnits,Code.frames,Code.isFrame]
def zrl{A:yJ}{C:yb}{us:List Value}{kw:List (yr×Value)}:(A.under (.builtin "type.__call__" ⟨.ref C::us,kw⟩)).guards=A.guards:=by
 first|rfl|(cases h:A.guards<;>simp[Around.under,Code.guards,Code.isGuard,guardIds,h])
def tQ.make{k:Nat}{A:yJ}(r:tQ (k+1) A)(C:yb)(us:List Value)(kw:List (yr×Value)):tQ k (A.under (.builtin "type.__call__" ⟨.ref C::us,kw⟩)) :=
 ⟨r.hd,by have:=r.dp;rw[zkn];omega,by have:=r.un;rw[zFn];omega,by rw[zrl];exact r.gd⟩
def tQ.depth{k:Nat}{A:yJ}(r:tQ k A):A.depth<recursionLimit:=by have:=r.dp;omega
def tQ.units{k:Nat}{A:yJ}(r:tQ k A):A.units+64<cLine:=by have:=r.un;omega
def z0v:TA:=λ_ H Q=>Q [] H
def zwv(ta:TE)(tr:TA):TA:=λσ H Q=>ta σ H λx H1=>tr σ H1 λxs H2=>Q (x::xs) H2
section
variable {X:Cx}{e:yz}{es:List yz}{te:TE}{t:TA}{pos:YR}
def zXi:PA X [] z0v:=λ_ _ _ _ H Q I h=>Calls.spliced_nil ⟨[],H,I,.nil,h⟩
def zNf(ha:PE X e te)(hr:PA X es t)(hs:yf (e::es) X.env=(false,yV e X.env)::yf es X.env:=by rfl):PA X (e::es) (zwv te t):=by
 intro pos pins s σ H Q I h;rw[hs];show yq _ _ (spliced ((false,yV e X.env)::yZ pos (yf es X.env))) _ _ s;refine Calls.spliced_cons (thn (ha pins s σ H _ I h) λu s1 ⟨x,H1,I1,r1,q1⟩=>?_);exact thn (hr pos pins s1 σ H1 _ I1 q1) λus s2 ⟨xs,H2,I2,r2,q2⟩=>⟨x::xs,H2,I2,.cons r1 r2,q2⟩
def zgw(t:TA):TE:=λσ H Q=>t σ H λxs H1=>xs.length<=yC/\∀p,H1 p=none->Q (.ref p) (upd H1 p (.tup xs))
def zuw(t:TA):TE:=λσ H Q=>t σ H λxs H1=>xs.length<=yC/\∀p,H1 p=none->Q (.ref p) (upd H1 p (.lst xs))
def zju{x1}(h:PA X es t):PE X (.Tuple es x1 pos) (zgw t):=by
 intro pins s σ H Q I hq;refine wpAny_Tuple_spliced (thn (h pos pins s σ H _ I hq) λus s1 ⟨xs,H1,I1,r,z,q⟩=>⟨by rw[<-r.length];exact z,?_⟩);have hf:H1 s1.heap.objs.size=none:=I1.hok.fresh (yh _);refine⟨.ref s1.heap.objs.size,upd H1 s1.heap.objs.size (.tup xs),I1.laid (t':=s1.toks) (λb u e=>ye _ e) (yh _) ?_,rfl,q _ hf⟩;exact⟨z,us,r,⟨_,yx _ rfl,rfl,_,rfl⟩⟩
def zXt(h:PA X es t):PE X (.List es pos) (zuw t):=by
 intro pins s σ H Q I hq;refine wpAny_List_spliced (thn (h pos pins s σ H _ I hq) λus s1 ⟨xs,H1,I1,r,z,q⟩=>⟨by rw[<-r.length];exact z,?_⟩);have hf:H1 s1.heap.objs.size=none:=I1.hok.fresh (yh _);refine⟨.ref s1.heap.objs.size,upd H1 s1.heap.objs.size (.lst xs),I1.laid (t':=s1.toks) (λb u e=>ye _ e) (yh _) ?_,rfl,q _ hf⟩;exact⟨z,us,0,r,yx _ rfl⟩
end
abbrev Sp:=List V->Hp->VK->XK->Prop
abbrev CXT:=List Env->Hp->yd->XK->Value->yd->Prop
structure sO(P:yu)(w:yI)(K:yt)(mg:yr->Option Value)(base:yR)(A:yJ)(outer:List Env)(s:yd)(H:Hp):Prop where
 frames:A.frames=some outer
 mod:Mod K mg base
 bs:∀b o,base.get? b=some o->s.heap.get? b=some o/\H b=none
 bsz:base.objs.size<=s.heap.objs.size
 TQ:s.heap.FunFrames base outer
 frf:∀b∈frs outer,H b=none
 hok:HOk P w H s.heap
 bare:AllBare s.gens
def CE(outer:List Env)(P:yu)(w:yI)(H:Hp)(s:yd)(Q:VK)(u:Value)(s':yd):Prop :=
 ∃v H',s'.os=s.os/\AllBare s'.gens/\Un (frs outer) [] H H' s.heap s'.heap/\HOk P w H' s'.heap/\RelV v u/\Q v H'
def CR(CX:CXT)(outer:List Env)(P:yu)(w:yI)(H:Hp)(s:yd)(Q:VK)(E:XK)(r:Result)(s':yd):Prop :=
 match r with
 |.ok (.ret u)=>CE outer P w H s Q u s'
 |.ok _=>False
 |.error e=>CX outer H s E e s'
structure tu(P:yu)(w:yI)(K:yt)(mg:yr->Option Value)(base:yR)(CX:CXT)(k:Nat)(f:yb)(fd:yj)(ps:List yr)(sp:Sp):Prop where
 len:∀vs H Q E,sp vs H Q E->vs.length=ps.length
 run:∀(A:yJ)(outer:List Env)(s:yd)(H:Hp)(args:Args)(us:List Value)(vs:List V)(Q:VK)(E:XK),tQ k A->sO P w K mg base A outer s H->BindsTo s fd args (ps.zip us)->Vals vs us->sp vs H Q E ->
  codeAny (yy P w) A (.call (.ref f) args) (CR CX outer P w H s Q E) s
def sO.make{P:yu}{w:yI}{K:yt}{mg:yr->Option Value}{base:yR}{A:yJ}{outer:List Env}{s:yd}{H:Hp}(e:sO P w K mg base A outer s H)(C:yb)(us:List Value)(kw:List (yr×Value)) :
 sO P w K mg base (A.under (.builtin "type.__call__" ⟨.ref C::us,kw⟩)) outer s H:=⟨by first|exact e.frames|(simpa[Around.under,Code.envs,Code.isFrame,pushEnvs] using e.frames),e.mod,e.bs,e.bsz,e.TQ,e.frf,e.hok,e.bare⟩
section
variable {X:Cx}{pins:List (yb×Yw)}{σ:St}{H:Hp}{s s':yd}
def Inv.env0(I:Inv X pins σ H s):sO X.prog X.w X.K X.mg X.base X.A X.stack s H :=
 ⟨I.ok.frames,I.ok.mod,I.bs,yA I.ok.bsz I.sz,I.stack,I.TF,I.hok,I.bare⟩
def Inv.after{Q:VK}{u:Value}(I:Inv X pins σ H s)(h:CE X.stack X.prog X.w H s Q u s'):EP X pins σ Q u s':=by
 obtain⟨v,H',os,bare,un,hok,r,q⟩:=h;obtain⟨hh,g,d,t,os'⟩:=s';obtain rfl:os'=s.os:=os;exact⟨v,H',I.call (h':=hh) (g':=g) (d':=d) (t':=t) (ch:=[]) un hok bare (λb z=>absurd z (by simp)),r,q⟩
end
def zMn(sp:Sp)(dvs:List V)(E:XK)(t:TA):TE:=λσ H Q=>t σ H λvs H1=>sp (vs++dvs) H1 Q E
def zTr(C:yb)(m:yr)(sp:Sp)(dvs:List V)(E:XK)(ta:TE)(t:TA):TE:=λσ H Q=>ta σ H λx H1=>∃a dx fs,x=.ref a/\H1 a=some (.ins C dx fs)/\fs.lookup m=none /\
 t σ H1 λvs H2=>sp (x::(vs++dvs)) H2 Q E
def zmv(C:yb)(sp:Sp)(dvs:List V)(E:XK)(t:TA):TE:=λσ H Q=>t σ H λvs H1=>∀x dx,H1 x=none->H1 dx=none->dx≠x ->
 sp (.ref x::(vs++dvs)) (upd (upd H1 dx (.own x)) x (.ins C dx [])) (λv H2=>v=.non/\Q (.ref x) H2) E
def Binds(K:yt)(fd:yj)(ps:List yr)(ds:List Value):Prop :=
 ∀(s:yd)(us:List Value),K.In s.heap->(us++ds).length=ps.length->BindsTo s fd ⟨us,[]⟩ (ps.zip (us++ds))
def Binds.all{K:yt}{fd:yj}{ps:List yr}(h:∀us:List Value,us.length=ps.length->bindArgs fd ⟨us,[]⟩=pure (ps.zip us)):Binds K fd ps []:=λs us _ hl=>by
 rw[append_nil]at hl ⊢;exact .of_eq (h us hl)
def zrf(CX:CXT)(X:Cx)(E:XK):Prop:=∀(pins:List (yb×Yw)) (σ:St) (H:Hp) (s:yd) (e:Value) (s':yd),Inv X pins σ H s->CX X.stack H s E e s'->X.xe e s'
section
variable {X:Cx}{CX:CXT}{k:Nat}{f C:yb}{fd:yj}{ps:List yr}{sp:Sp}{dvs:List V}{ds:List Value}{E:XK}{x m:yr}{p pos apos:YR}{e o:yz}{es:List yz}{ta:TE}{t:TA}
def zxp{pins:List (yb×Yw)}{σ:St}{H:Hp}{s:yd}{Q:VK}{us:List Value}{vs:List V}(F:tu X.prog X.w X.K X.mg X.base CX k f fd ps sp)(hr:tQ k X.A)(hb:Binds X.K fd ps ds)(hd:Vals dvs ds)(hx:zrf CX X E)
 (I:Inv X pins σ H s) (r:Vals vs us) (h:sp (vs++dvs) H Q E):yq (yy X.prog X.w) X.A (call (.ref f) us) (EP X pins σ Q) X.xe s:=by
 have r2:Vals (vs++dvs) (us++ds):=r.append hd;have hl:(us++ds).length=ps.length:=by rw[<-r2.length];exact F.len _ _ _ _ h
 refine wpAny_call (YO (F.run X.A X.stack s H ⟨us,[]⟩ (us++ds) (vs++dvs) Q E hr I.env0 (hb s us I.kIn hl) r2 h) λr s' hq=>?_)
 cases r with
 |error e=>exact hx pins σ H s e s' I hq
 |ok fl=>
  cases fl with
  |ret u=>exact I.after hq
  |next=>exact Yl hq
  |brk=>exact Yl hq
  |cont=>exact Yl hq
def zRs(F:tu X.prog X.w X.K X.mg X.base CX k f fd ps sp)(hr:tQ k X.A)(hg:Gl X x)(hm:X.mg x=some (.ref f))(hk:W.keepIn X.K (.ref f)=true)(hb:Binds X.K fd ps ds)(hd:Vals dvs ds)(hx:zrf CX X E)
 (ha:PA X (e::es) t) (hdb:(x==("__debug__":yr))=false:=by decide) (he:yf (e::es) X.env=(false,yV e X.env)::yf es X.env:=by rfl) (hpl:(yZ pos (yf es X.env)).any (·.1)=false:=by rfl) :
 PE X (.Call (.Name x p) (e::es) [] pos) (zMn sp dvs E t):=by
 intro pins s σ H Q I h;refine YU (zHf I hg hm ?_ hdb);refine W.callWith_K (h₀:=X.base) I.ok.mod.kin hk (thn (ha pos pins s σ H _ I h) λus s1 ⟨vs,H1,I1,r,q⟩=>⟨I1.kIn,?_⟩) he hpl;exact zxp F hr hb hd hx I1 r q
def zGs{pl:Sem Bool}(he:PE X o ta)(c:Cls X.K C)(hm:Meth X.K C m f)(F:tu X.prog X.w X.K X.mg X.base CX k f fd ps sp)(hr:tQ k X.A)(hb:Binds X.K fd ps ds)(hd:Vals dvs ds)(hx:zrf CX X E)(ha:PA X (e::es) t)
 (hst:yf (e::es) X.env=(false,yV e X.env)::yf es X.env:=by rfl) (hpl:(yZ pos (yf es X.env)).any (·.1)=false:=by rfl)
 (ht:yV (.Call (.Attribute o m apos) (e::es) [] pos) X.env=(do
  let ov <-yV o X.env
  standAt apos.atName
  let (f,first) <-YX [ov] (getMethod ov m pl)
  callWith pos f first (yZ pos (yf (e::es) X.env)) (xw pos (Yz [] X.env))):=by rfl) :
 PE X (.Call (.Attribute o m apos) (e::es) [] pos) (zTr C m sp dvs E ta t):=by
 intro pins s σ H Q I h;refine W.methodCall_KW (pl:=pl) (thn (he pins s σ H _ I h) λu s1 ⟨x,H1,I1,rx,a,dx,fs,ex,ea,l,q⟩=>?_) ht;subst ex;obtain rfl:u=yH a:=rx;refine zCg I1 ea c hm l ?_;refine W.callWith_K (first:=[.ref a]) (h₀:=X.base) I.ok.mod.kin hm.kp (thn (ha pos pins s1 σ H1 _ I1 q) λus s2 ⟨vs,H2,I2,r,q2⟩=>⟨I2.kIn,?_⟩) hst hpl;exact zxp (us:=.ref a::us) (vs:=.ref a::vs) F hr hb hd hx I2 (.cons rfl r) q2
def zwq{pl:Sem Bool}(he:PE X o ta)(c:Cls X.K C)(hm:Meth X.K C m f)(F:tu X.prog X.w X.K X.mg X.base CX k f fd ps sp)(hr:tQ k X.A)(hb:Binds X.K fd ps ds)(hd:Vals dvs ds)(hx:zrf CX X E)
 (ht:yV (.Call (.Attribute o m apos) [] [] pos) X.env=(do
  let ov <-yV o X.env
  standAt apos.atName
  let (f,first) <-YX [ov] (getMethod ov m pl)
  callWith pos f first (yZ pos (yf [] X.env)) (xw pos (Yz [] X.env))):=by rfl) :
 PE X (.Call (.Attribute o m apos) [] [] pos) (zTr C m sp dvs E ta z0v):=by
 intro pins s σ H Q I h;refine W.methodCall_KW (pl:=pl) (thn (he pins s σ H _ I h) λu s1 ⟨x,H1,I1,rx,a,dx,fs,ex,ea,l,q⟩=>?_) ht;subst ex;obtain rfl:u=yH a:=rx;refine zCg I1 ea c hm l ?_;exact W.callWith_K0 (first:=[.ref a]) I1.kIn hm.kp (zxp (us:=[.ref a]) (vs:=[.ref a]) F hr hb hd hx I1 (.cons rfl .nil) q)
structure Mk(K:yt)(C f:yb):Prop where
 makes:W.makesIn K C=true
 init:Yb K (.ref C) "__init__"=some (some (.ref f))
 fn:W.isFn K (.ref f)=true
 kp:W.keepIn K (.ref C)=true
def zVq{pins:List (yb×Yw)}{σ:St}{H:Hp}{s:yd}{Q:VK}{us:List Value}{vs:List V}(M:Mk X.K C f)(F:tu X.prog X.w X.K X.mg X.base CX k f fd ps sp)(hr:tQ (k+1) X.A)(hb:Binds X.K fd ps ds)(hd:Vals dvs ds)
 (hx:zrf CX X E) (I:Inv X pins σ H s) (r:Vals vs us)
 (h:∀x dx,H x=none->H dx=none->dx≠x->sp (.ref x::(vs++dvs)) (upd (upd H dx (.own x)) x (.ins C dx [])) (λv H2=>v=.non/\Q (.ref x) H2) E) :
 yq (yy X.prog X.w) X.A (call (.ref C) us) (EP X pins σ Q) X.xe s:=by
 have hq:=h (s.heap.objs.size+1) s.heap.objs.size (I.hok.fresh (Nat.le_succ _)) (I.hok.fresh (yh _)) (yw (YE _));have I2:=Inv.made (C:=C) I;have r2:Vals (V.ref (s.heap.objs.size+1)::(vs++dvs)) (yH (s.heap.objs.size+1)::(us++ds)) :=.cons rfl (r.append hd)
 have hl:(yH (s.heap.objs.size+1)::us++ds).length=ps.length:=by
  have e:=r2.length;rw[F.len _ _ _ _ hq]at e;exact e.symm
 refine wpAny_call (zer (f:=f) I.kIn M.makes M.init (beq_iff_eq.mp M.fn) (YO (F.run _ X.stack _ _ ⟨yH (s.heap.objs.size+1)::us,[]⟩ (yH (s.heap.objs.size+1)::(us++ds)) _ _ E (hr.make C us [])
  (I2.env0.make C us []) (hb _ (yH (s.heap.objs.size+1)::us) I2.kIn hl) r2 hq) λr s' hq'=>?_))
 cases r with
 |error e=>exact hx pins σ _ _ e s' I2 hq'
 |ok fl=>
  cases fl with
  |ret u=>
   obtain⟨v,H',I3,rv,ev,q3⟩:=I2.after hq';subst ev;exact⟨rv,⟨V.ref (s.heap.objs.size+1),H',I3,rfl,q3⟩⟩
  |next=>exact Yl hq'
  |brk=>exact Yl hq'
  |cont=>exact Yl hq'
def zHs(M:Mk X.K C f)(F:tu X.prog X.w X.K X.mg X.base CX k f fd ps sp)(hr:tQ (k+1) X.A)(hg:Gl X x)(hm:X.mg x=some (.ref C))(hb:Binds X.K fd ps ds)(hd:Vals dvs ds)(hx:zrf CX X E)
 (ha:PA X (e::es) t) (hdb:(x==("__debug__":yr))=false:=by decide) (he:yf (e::es) X.env=(false,yV e X.env)::yf es X.env:=by rfl) (hpl:(yZ pos (yf es X.env)).any (·.1)=false:=by rfl) :
 PE X (.Call (.Name x p) (e::es) [] pos) (zmv C sp dvs E t):=by
 intro pins s σ H Q I h;refine YU (zHf I hg hm ?_ hdb);refine W.callWith_K (h₀:=X.base) I.ok.mod.kin M.kp (thn (ha pos pins s σ H _ I h) λus s1 ⟨vs,H1,I1,r,q⟩=>⟨I1.kIn,?_⟩) he hpl;exact zVq M F hr hb hd hx I1 r q
end
section
variable {X:Cx}{CX:CXT}{k:Nat}{f C:yb}{fd:yj}{ps ks:List yr}{sp:Sp}{E:XK}{x m:yr}{p pos apos kpos:YR}{e o:yz}{es:List yz}{kws:List xI}{te ta:TE}{t tk:TA}{nm:Option yr}
structure KBinds(K:yt)(fd:yj)(ps ks:List yr)(g:List Value->List Value->List Value)(gV:List V->List V->List V):Prop where
 to:∀(s:yd)(us ws:List Value),K.In s.heap->(g us ws).length=ps.length->BindsTo s fd ⟨us,ks.zip ws⟩ (ps.zip (g us ws))
 rel:∀{vs:List V} {us:List Value} {zs:List V} {ws:List Value},Vals vs us->Vals zs ws->Vals (gV vs zs) (g us ws)
variable {g:List Value->List Value->List Value}{gV:List V->List V->List V}
end
structure tx(N P:List yr)(sc:xG):Prop where
 kind:sc.kind=.function
 co:sc.isCoroutine=false
 gen:sc.isGenerator=false
 nd:N.Nodup
 pre:N.take P.length=P
 par:∀x∈P,sc.names.lookup x=some .local\/sc.names.lookup x=some .cell
 nofree:∀y∈sc.names,y.2≠.free
def zcl{kindOf:yr->Option YI}{x:yr}:∀{binds:List (yr×Value)} {m:yr->Option Value},(∀v,(x,v)∉binds)->bindL kindOf binds m x=m x
 |[],_,_=>rfl
 |(n,v)::r,m,h=>by
  unfold bindL;rw[zcl λw hw=>h w (mem_cons_of_mem _ hw)]
  split
  ·have:x≠n:=by rintro rfl;exact h v mem_cons_self
   simp[this]
  ·rfl
def z9k{kindOf:yr->Option YI}{x:yr}:∀{binds:List (yr×Value)} {m:yr->Option Value},(∀v,(x,v)∉binds)->bindC kindOf binds m x=m x
 |[],_,_=>rfl
 |(n,v)::r,m,h=>by
  unfold bindC;rw[z9k λw hw=>h w (mem_cons_of_mem _ hw)]
  split
  ·rfl
  ·have:x≠n:=by rintro rfl;exact h v mem_cons_self
   simp[this]
def zlk{kindOf:yr->Option YI}{x:yr}{v:Value}:∀{P:List yr} {vs:List Value} {i:Nat} {m:yr->Option Value},P.Nodup->P[i]?=some x->vs[i]?=some v->kindOf x=some .local ->
 bindL kindOf (P.zip vs) m x=some v
 |[],_,_,_,_,h,_,_=>by simp at h
 |_::_,[],_,_,_,_,h,_=>by simp at h
 |p::P,w::vs,0,m,nd,h1,h2,hk=>by
  simp at h1 h2;subst h1;subst h2;show bindL kindOf ((p,w)::P.zip vs) m p=_;unfold bindL;rw[zcl λv hv=>(List.nodup_cons.mp nd).1 (List.of_mem_zip hv).1,if_pos hk];simp
 |p::P,w::vs,i+1,m,nd,h1,h2,hk=>by
  show bindL kindOf ((p,w)::P.zip vs) m x=_;unfold bindL;exact zlk (i:=i) (List.nodup_cons.mp nd).2 (by simpa using h1) (by simpa using h2) hk
def zpk{kindOf:yr->Option YI}{x:yr}{v:Value}:∀{P:List yr} {vs:List Value} {i:Nat} {m:yr->Option Value},P.Nodup->P[i]?=some x->vs[i]?=some v->kindOf x≠some .local ->
 bindC kindOf (P.zip vs) m x=some v
 |[],_,_,_,_,h,_,_=>by simp at h
 |_::_,[],_,_,_,_,h,_=>by simp at h
 |p::P,w::vs,0,m,nd,h1,h2,hk=>by
  simp at h1 h2;subst h1;subst h2;show bindC kindOf ((p,w)::P.zip vs) m p=_;unfold bindC;rw[z9k λv hv=>(List.nodup_cons.mp nd).1 (List.of_mem_zip hv).1,if_neg hk];simp
 |p::P,w::vs,i+1,m,nd,h1,h2,hk=>by
  show bindC kindOf ((p,w)::P.zip vs) m x=_;unfold bindC;exact zpk (i:=i) (List.nodup_cons.mp nd).2 (by simpa using h1) (by simpa using h2) hk
def start(N:List yr)(vs:List V):St:=vs.map some++yD (N.length-vs.length) none
def z6o(CX:CXT)(P:yu)(w:yI)(K:yt)(mg:yr->Option Value)(base:yR)(N:List yr)(qual:yr)(scope:xG)(f:yb)(cd:Value)(A:yJ)(outer:List Env)(s:yd)(H:Hp)(E:XK):Cx where
 prog:=P
 w:=w
 K:=K
 mg:=mg
 base:=base
 A:=A.deeper (envOfC qual scope s.heap.objs.size f cd)
 N:=N
 s₀:=s
 H₀:=H
 env:=envOfC qual scope s.heap.objs.size f cd
 outer:=outer
 stack:=envOfC qual scope s.heap.objs.size f cd::outer
 ex:=[]
 calm:=true
 fn:=λ_=>true
 pn:=[]
 xe:=λe s'=>yq (yy P w) (A.deeper (envOfC qual scope s.heap.objs.size f cd)) (leaving (envOfC qual scope s.heap.objs.size f cd) e) (λ_ s''=>CX outer H s E e s'') (λe' s''=>CX outer H s E e' s'') s'
def zfn{sc:xG}{n:Nat}{x:yr}(h:sc.names.lookup x=some .cell):∃c,(Yd n sc.names []).lookup x=some c:=by
 have q:=W.cellsFrom_some sc.names n [] (.inl h);exact Option.isSome_iff_exists.mp q
def zLp{CX:CXT}{P:yu}{w:yI}{K:yt}{mg:yr->Option Value}{base:yR}{N ps:List yr}{qual:yr}{scope:xG}{f:yb}{cd:Value}{A:yJ}{outer:List Env}{s s1:yd}{H:Hp}{E:XK}{us:List Value}{vs:List V}
 (S:tx N ps scope) (hd:A.handled=none) (e0:sO P w K mg base A outer s H) (hl:vs.length=ps.length) (r:Vals vs us)
 (x:InCallC s s.heap.objs.size (bindL (envOfC qual scope s.heap.objs.size f cd).kindOf (ps.zip us) λ_=>none) (Yd (s.heap.objs.size+1) scope.names []) (bindC (envOfC qual scope s.heap.objs.size f cd).kindOf (ps.zip us) λ_=>none) s1) :
 Inv (z6o CX P w K mg base N qual scope f cd A outer s H E) [] (start N vs) H s1:=by
 have hpl:ps.length<=N.length:=by have:=congrArg xq S.pre;rw[List.length_take]at this;omega
 obtain⟨h1,tk,rfl,hk⟩:=x.done;have noA:∀b:yb,b∉(z6o CX P w K mg base N qual scope f cd A outer s H E).ex:=λb z=>absurd (show b∈([]:List yb) from z) (by simp)
 refine⟨⟨e0.mod,S.kind,rfl,rfl,yh _,λy z c h1 h2=>?_,λy hy=>?_,λy c _ h=>?_,λ_=>hd,Around.frames_deeper e0.frames,.inr ⟨rfl,rfl⟩,λb z=>absurd z (noA b),e0.bs,e0.bsz,λb _ _=>noA b,λb z=>absurd z (noA b),e0.TQ,e0.frf⟩,
  rfl,e0.bare,Un.kept hk,⟨_,x.toInCall.ns,λi y v h1 h2 h3=>?_⟩,λy c h=>⟨_,x.cell y c h⟩,e0.hok.fresh (yh _),λy c h=>?_,λp hp=>absurd (show p∈([]:List (yb×Yw)) from hp) (by simp),e0.hok.kept hk,?_⟩
 ·exact name_of_addr x.apart (yS h1) (yS h2)
 ·have hy:scope.names.lookup y=some .cell\/scope.names.lookup y=some .free:=hy;rcases hy with hy|hy
  ·exact zfn hy
  ·exact absurd rfl (S.nofree _ (yS hy))
 ·exact YN (x.above y c (yS h))
 ·have hi:i<vs.length:=by
   unfold start at h2
   by_cases hi:i<vs.length
   ·exact hi
   ·rw[yE (by simpa using hi)]at h2;rw[xl]at h2
    split at h2<;>cases h2
  have ha:vs[i]?=some v:=by
   unfold start at h2;rw[yk (by simpa using hi),yn]at h2
   cases e:vs[i]? with
   |none=>rw[e]at h2;cases h2
   |some a=>rw[e]at h2;cases h2;rfl
  obtain⟨u,hu,rv⟩:=r.get ha
  have hp:ps[i]?=some y:=by
   rw[<-S.pre,List.getElem?_take_of_lt (by omega)];exact h1
  have ndP:ps.Nodup:=by rw[<-S.pre];exact S.nd.sublist (List.take_sublist _ _)
  refine⟨u,rv,?_⟩;rcases S.par y (mem_of_getElem? hp) with k|k
  ·exact .inl ⟨k,zlk ndP hp hu k⟩
  ·obtain⟨c,e⟩:=zfn (n:=s.heap.objs.size+1) k;refine .inr ⟨.inl k,c,e,?_⟩;have q:=x.cell y c e;rw[zpk ndP hp hu (by show scope.names.lookup y≠_;rw[k];decide)]at q;exact q
 ·exact e0.hok.fresh (YN (x.above y c (yS h)))
 ·unfold start;show _=N.length;rw[length_append,length_map,xC];omega
def zAt{CX:CXT}{P:yu}{w:yI}{K:yt}{mg:yr->Option Value}{base:yR}{k:Nat}{f:yb}{name qual:yr}{params:Arguments}{body:List yX}{scope:xG}{dV kV doc pm cdv ct oc:Value}{an od:Option yb}
 {osl:Array (Option Value)} {N ps:List yr} {sp:Sp} (lk:K.lookup f=some ⟨oc,od,.func (W.fnOf name qual params body scope dV kV doc pm an cdv ct),osl⟩) (hcd:W.codeIn K cdv qual=true) (S:tx N ps scope)
 (len:∀vs H Q E,sp vs H Q E->vs.length=ps.length)
 (hbody:∀(A:yJ)(outer:List Env)(s:yd)(H:Hp)(vs:List V)(Q:VK)(E:XK),tQ k (A.deeper (envOfC qual scope s.heap.objs.size f cdv))->sp vs H Q E ->
  ∃t,PSs (z6o CX P w K mg base N qual scope f cdv A outer s H E) body t/\t {nx:=λ_ H'=>Q .non H',rt:=Q } (start N vs) H) :
 tu P w K mg base CX (k+1) f (W.fnOf name qual params body scope dV kV doc pm an cdv ct) ps sp:=by
 refine⟨len,λA outer s H args us vs Q E hr e0 hb r hsp=>?_⟩;have hl:=len _ _ _ _ hsp;have KX:K.In s.heap:=e0.mod.kin.keeps λb o e=>(e0.bs b o e).1;have lim:s.heap.NoLimit:=e0.mod.nolimit.keeps λb o e=>(e0.bs b o e).1
 have hkind:∀y∈ps.zip us,scope.names.lookup y.1=some .local\/(scope.names.lookup y.1=some .cell/\((Yd (s.heap.objs.size+1) scope.names []).lookup y.1).isSome=true):=λ⟨n,v⟩ hy=>by
  rcases S.par n (List.of_mem_zip hy).1 with q|q
  ·exact .inl q
  ·exact .inr ⟨q,W.cellsFrom_some _ _ _ (.inl q)⟩
 refine codeAny_call_function hr.depth (KX _ _ lk) rfl S.co S.gen rfl (W.codeRec_of KX hcd) (hb _ _ _ _ ?_);refine wpAny_newFunctionEnv_cells S.kind hkind λenv he s1 x=>?_;subst he;refine⟨lim.keeps x.toInCall.keep,codeAny_func ?_⟩;obtain⟨t,ht,hq⟩:=hbody A outer s H vs Q E (hr.deeper _) hsp;have I:Inv (z6o CX P w K mg base N qual scope f cdv A outer s H E) [] (start N vs) H s1:=zLp S hr.hd e0 hl r x;refine yT (ht [] s1 (start N vs) H _ I hq) (λfl s' hs=>?_) λe s' hs=>hs
 have fin:∀{σ':St} {H':Hp} {v:V} {u:Value},Inv (z6o CX P w K mg base N qual scope f cdv A outer s H E) [] σ' H' s'->RelV v u->Q v H'->CE outer P w H s Q u s' :=
  λ{σ' H' v u} J rv q=>⟨v,H',J.os,J.bare,J.base,J.hok,rv,q⟩
 cases fl with
 |ret u=>
  obtain⟨v,σ',H',J,rv,q⟩:=hs;exact fin J rv q
 |next=>
  obtain⟨σ',H',J,q⟩:=hs;exact fin (v:=V.non) (u:=Yk) J rfl q
 |brk=>
  obtain⟨_,_,_,q⟩:=hs;exact Yl q
 |cont=>
  obtain⟨_,_,_,q⟩:=hs;exact Yl q
section
variable {X:Cx}{x:yr}{p pos:YR}{e:yz}{es:List yz}{t:TA}{id T:String}{r:List V->Hp->VK->Prop}
def tCB(r:List V->Hp->VK->Prop)(t:TA):TE:=λσ H Q=>t σ H λvs H1=>r vs H1 Q
def zjq(hc:z7l X (.builtin id) r)(hg:Gl X x)(hm:X.mg x=none)(hv:yL x=some (.builtin id))(ha:PA X (e::es) t)(hn:x≠"__name__":=by decide)(hdb:(x==("__debug__":yr))=false:=by decide)
 (he:yf (e::es) X.env=(false,yV e X.env)::yf es X.env:=by rfl) (hpl:(yZ pos (yf es X.env)).any (·.1)=false:=by rfl):PE X (.Call (.Name x p) (e::es) [] pos) (tCB r t):=by
 intro pins s σ H Q I h;refine YU (zFh I hg hm hv ?_ hn hdb);exact PyProof.Rows.callWith_builtin1 (thn (ha pos pins s σ H _ I h) λus s1 ⟨vs,H1,I1,r1,q1⟩=>hc pins s1 σ H1 vs us Q I1 r1 q1) he hpl
def z6h(hc:z7l X (.type T) r)(hg:Gl X x)(hm:X.mg x=none)(hv:yL x=some (.type T))(ha:PA X (e::es) t)(hn:x≠"__name__":=by decide)(hdb:(x==("__debug__":yr))=false:=by decide)
 (he:yf (e::es) X.env=(false,yV e X.env)::yf es X.env:=by rfl) (hpl:(yZ pos (yf es X.env)).any (·.1)=false:=by rfl):PE X (.Call (.Name x p) (e::es) [] pos) (tCB r t):=by
 intro pins s σ H Q I h;refine YU (zFh I hg hm hv ?_ hn hdb);exact Yv (thn (ha pos pins s σ H _ I h) λus s1 ⟨vs,H1,I1,r1,q1⟩=>hc pins s1 σ H1 vs us Q I1 r1 q1) he hpl
end
end L2
namespace HT
open PySem PyProof.Rows
section
open PySem.SeqAt
open PySem.AutoSeq1 (wpAny_loadPart')
open PySem.MeetsSeq PySem.MeetsSeq2 PySem.MeetsSeq3
end
section
variable {prog:yu}{w:yI}{A:yJ}{E:Value->yd->Prop}{s:yd}
def cat_tup{t b:yb}{vs ws:List Value}{Q:Value->yd->Prop}(ht:IsTup s.heap t vs.toArray)(hb:IsTup s.heap b ws.toArray)(hv:vs≠[])
 (h1:ws=[]->Q (.ref t) s) (h2:ws≠[]->Q (.ref s.heap.objs.size) {s with heap:=s.heap.push {cls:=.type "tuple",data:=.seq (vs++ws).toArray }})
 (hsz:vs.length+ws.length<=yC):yq (yy prog w) A (YT .Add (.ref t) (.ref b)) Q E s:=by
 obtain⟨⟨cls,dd,data,sl⟩,ho,hc,n,hd⟩:=id ht;obtain⟨⟨cls2,dd2,data2,sl2⟩,ho2,hc2,n2,hd2⟩:=id hb;simp only at hc hd hc2 hd2;subst hc hd hc2 hd2;have e:vs.toArray++ws.toArray=(vs++ws).toArray:=by simp
 by_cases hw:ws=[]
 ·exact concat_meets ⟨_,ho,rfl⟩ ⟨_,ho2,rfl⟩ noFill_tuple_add seq_tuple_add PySem.F.slot_tuple_add PySem.F.entry_tuple_add (PySem.F.args_tuple_add_2 _ _)
   (tuple_addW1 t b vs.toArray ws.toArray n n2 dd dd2 sl sl2 (by simpa using hv) (by simp[hw])) ⟨ho,ho2,h1 hw⟩
 ·refine concat_meets ⟨_,ho,rfl⟩ ⟨_,ho2,rfl⟩ noFill_tuple_add seq_tuple_add PySem.F.slot_tuple_add PySem.F.entry_tuple_add (PySem.F.args_tuple_add_2 _ _)
   (tuple_addW2 t b vs.toArray ws.toArray n n2 dd dd2 sl sl2 (by simpa using hv) (by simpa using hw) (by rw[size_toArray,size_toArray];exact hsz)) ⟨ho,ho2,?_⟩
  rw[e];exact h2 hw
end
end HT
namespace L2
open PySem PySem.Spec PyProof.Rows
abbrev TO:=St->Hp->(Option Int->Hp->Prop)->Prop
def zOi{ns:List Int}:∀{us:List Value},Vals (ns.map V.int) us->IntsAre us ns:=by
 induction ns with
 |nil=>intro us r;rw[map_nil]at r;cases r;exact .nil
 |cons n ns ih=>
  intro us r;rw[map_cons]at r
  cases r with
  |cons r1 r2=>
   obtain⟨t,e⟩:=r1;subst e;exact .cons n t (ih r2)
section
variable {X:Cx}{e:yz}{te:TE}{lo hi:Option yz}{tl th:TO}{pos p2:YR}
def zEv(K:yt):R2:=λx y H Q=>∃a b xs ys,x=.ref a/\y=.ref b/\SqT K H a xs/\SqT K H b ys/\xs≠[]/\xs.length+ys.length<=yC /\
 (ys=[]->Q (.ref a) H)/\(ys≠[]->∀p,H p=none->Q (.ref p) (upd H p (.tup (xs++ys))))
def Vals.se{xs:List V}{us:List Value}(r:Vals xs us):us=[]↔xs=[]:=by
 cases r with
 |nil=>simp
 |cons _ _=>simp
def zIs:OpR X (YT .Add) (zEv X.K):=by
 intro pins s σ H x y v u Q I rx ry h;obtain⟨a,b,xs,ys,rfl,rfl,ha,hb,hx,hz,q1,q2⟩:=h;cases rx;cases ry;obtain⟨its,r1,p1,_⟩:=I.tuple ha;obtain⟨its2,r2,p2,_⟩:=I.tuple hb;refine HT.cat_tup p1 p2 (λz=>hx (r1.se.mp z)) (λz=>⟨.ref a,H,I,rfl,q1 (r2.se.mp z)⟩) (λz=>?_) (by rw[<-r1.length,<-r2.length];exact hz);refine⟨.ref s.heap.objs.size,_,I.laid (t':=s.toks) (o:=.tup (xs++ys)) (λb ob q=>ye _ q) (yh _) ?_,rfl,q2 (λw=>z (r2.se.mpr w)) _ (I.hok.fresh (yh _))⟩;exact⟨by rw[length_append];exact hz,_,r1.append r2,IsTup.new _ _⟩
end
def ixN(n:Nat)(i:Int):Option Nat:=if 0<=i then(if i<n then some i.toNat else none) else if -(n:Int)<=i then some (i+n).toNat else none
def atI{α:Type}(xs:List α)(i:Int):Option α:=(ixN xs.length i).bind λj=>xs[j]?
def zRo{n:Nat}{i:Int}{j:Nat}(h:ixN n i=some j):seqIndex? i n=some j/\j<n/\-(n:Int)<=i/\i<n:=by
 unfold ixN at h
 by_cases h0:0<=i
 ·rw[if_pos h0]at h
  by_cases h1:i<n
  ·rw[if_pos h1]at h;have e:i.toNat=j:=yU h;exact⟨by rw[seqIndex_of h0 h1,e],by omega,by omega,h1⟩
  ·rw[if_neg h1]at h;cases h
 ·rw[if_neg h0]at h
  by_cases h1:-(n:Int)<=i
  ·rw[if_pos h1]at h;have e:(i+n).toNat=j:=yU h;exact⟨by rw[seqIndex_neg (by omega) h1,e],by omega,h1,by omega⟩
  ·rw[if_neg h1]at h;cases h
def zWl{α:Type}{xs:List α}{i:Int}{v:α}(h:atI xs i=some v):∃j,seqIndex? i xs.length=some j/\xs[j]?=some v/\j<xs.length/\-(xs.length:Int)<=i/\i<xs.length:=by
 unfold atI at h
 cases e:ixN xs.length i with
 |none=>rw[e]at h;cases h
 |some j=>
  rw[e]at h;obtain⟨h1,h2,h3,h4⟩:=zRo e;exact⟨j,h1,h,h2,h3,h4⟩
def zvc{α:Type}{xs:List α}{j:Nat}{v:α}(h:xs[j]?=some v):atI xs (j:Int)=some v:=by
 have hj:j<xs.length:=(List.getElem?_eq_some_iff.mp h).1
 have e:ixN xs.length (j:Int)=some j:=by
  unfold ixN;rw[if_pos (by omega),if_pos (by omega)];simp
 unfold atI;rw[e];exact h
def znl(b:yz):Prop:=∀o i,subscripted b false o i=operate [o,i] (getItem o i)
def IxR(X:Cx)(r:R2):Prop :=
 ∀(value slice:yz)(pins:List (yb×Yw)) (s:yd) (σ:St) (H:Hp) (x y:V) (v u:Value) (Q:VK),Inv X pins σ H s->RelV x v->RelV y u->r x y H Q ->
  subscripted slice false v u=operate [v,u] (getItem v u)->yq (yy X.prog X.w) X.A (subscriptTail value slice v u) (EP X pins σ Q) X.xe s
def MtR(X:Cx)(id:String)(r:V->List V->Hp->VK->Prop):Prop :=
 ∀(pins:List (yb×Yw)) (s:yd) (σ:St) (H:Hp) (x:V) (xs:List V) (v:Value) (us:List Value) (Q:VK),Inv X pins σ H s->RelV x v->Vals xs us->r x xs H Q ->
  yq (yy X.prog X.w) X.A (call (.builtin id) (v::us)) (EP X pins σ Q) X.xe s
section
variable {X:Cx}{a b:yz}{ta tb:TE}{pos:YR}
def IxR.or{r r':R2}(h:IxR X r)(h':IxR X r'):IxR X (λx y H Q=>r x y H Q\/r' x y H Q):=by
 intro value slice pins s σ H x y v u Q I rx ry q hs;rcases q with q|q
 ·exact h value slice pins s σ H x y v u Q I rx ry q hs
 ·exact h' value slice pins s σ H x y v u Q I rx ry q hs
def zru{r:R2}(hr:IxR X r)(ha:PE X a ta)(hb:PE X b tb)(hs:znl b):PE X (.Subscript a b pos) (tOp r ta tb):=by
 intro pins s σ H Q I h;exact Subscript_ (binT ha hb I h λv u s2 x y H2 I2 rx ry q=>hr a b pins s2 σ H2 x y v u Q I2 rx ry q (hs _ _))
def zSv(K:yt):R2:=λx y H Q=>∃p xs i v,x=.ref p/\y=.int i/\SqL K H p xs/\atI xs i=some v/\Q v H
def zQv(K:yt):R2:=λx y H Q=>∃p xs i v,x=.ref p/\y=.int i/\SqT K H p xs/\atI xs i=some v/\Q v H
def zYv:R2:=λx y H Q=>∃z i c,x=.str z/\y=.int i/\z.length<=yC/\atI z.cps.toList i=some c/\Q (.str ⟨#[c]⟩) H
def ix_list:IxR X (zSv X.K):=by
 intro value slice pins s σ H x y v u Q I rx ry h hs;obtain⟨p,xs,i,z,rfl,rfl,hq,he,q⟩:=h;cases rx;obtain⟨t,rfl⟩:=ry;obtain⟨its,r,pl,hz⟩:=I.list hq;obtain⟨j,h1,h2,h3,h4,h5⟩:=zWl he;obtain⟨w,ew,rw'⟩:=r.get h2;have hl:=r.length;have hn:=sj;have fin:EP X pins σ Q w s:=⟨z,H,I,rw',q⟩
 by_cases h0:0<=i
 ·have hj:i.toNat=j:=by
   rw[seqIndex_of h0 h5]at h1;exact yU h1
  exact item_listR pl.isList h0 (by omega) (by rw[hj];simpa using ew) fin hs
 ·have hj:(i+(its.toArray.size:Int)).toNat=j:=by
   rw[seqIndex_neg (by omega) h4]at h1;rw[size_toArray,<-hl];exact yU h1
  exact subscriptTail_builtinR (x:=w) pl.isList.typeIs slot_list_getitem.lookup
   (wpAny_getItem_list_neg (Q:=λr s'=>r=w/\EP X pins σ Q r s') pl.isList (by omega) (by rw[size_toArray]<;>omega) (by omega) (by rw[hj];simpa using ew) ⟨rfl,fin⟩) hs
def ix_tup:IxR X (zQv X.K):=by
 intro value slice pins s σ H x y v u Q I rx ry h hs;obtain⟨p,xs,i,z,rfl,rfl,hq,he,q⟩:=h;cases rx;obtain⟨t,rfl⟩:=ry;obtain⟨its,r,pl,hz⟩:=I.tuple hq;obtain⟨j,h1,h2,h3,h4,h5⟩:=zWl he;obtain⟨w,ew,rw'⟩:=r.get h2;have hl:=r.length;have hn:=sj;have fin:EP X pins σ Q w s:=⟨z,H,I,rw',q⟩
 exact subscriptTail_builtinR (x:=w) pl.typeIs slot_tuple_getitem.lookup
  (getItem_tuple (j:=j) (Q:=λr s'=>r=w/\EP X pins σ Q r s') pl (by omega) (by omega) (by rw[size_toArray,<-hl];exact h1) (by simpa using ew) ⟨rfl,fin⟩) hs
def zuu:IxR X zYv:=by
 intro value slice pins s σ H x y v u Q I rx ry h hs;obtain⟨z,i,c,rfl,rfl,hz,he,q⟩:=h;obtain⟨t,rfl⟩:=rx;obtain⟨t',rfl⟩:=ry;obtain⟨j,h1,h2,h3,h4,h5⟩:=zWl he;have hl:z.cps.toList.length=z.length:=by simp[Str.length]
 rw[hl]at h1 h4 h5;have hn:=sj
 exact tail_any (typeIs_str s z t) slot_str_getitem.lookup (getItem_str (c:=c) (by
  have e1:decide (i < -(2^63:Int))=false:=decide_eq_false (by omega);have e2:decide (i≥2^63)=false:=decide_eq_false (by omega);rw[e1,e2,Bool.or_false]) (by rw[h1];simpa using h2) ⟨.str ⟨#[c]⟩,H,I.tok _,⟨_,rfl⟩,q⟩) hs
def rIx(K:yt):R2:=λx y H Q=>zSv K x y H Q\/zQv K x y H Q\/zYv x y H Q
def zjr:IxR X (rIx X.K):=ix_list.or (ix_tup.or zuu)
def zLn(its:List Value)(n j:Nat)(u:Value):Obj.mapSeq (·.setIfInBounds j u) {cls:=.type "list",data:=.seq its.toArray n } = {cls:=.type "list",data:=.seq (its.set j u).toArray n }:=by
 simp[Obj.mapSeq]
def Inv.lst{pins:List (yb×Yw)}{σ:St}{H:Hp}{s:yd}{p:yb}{xs:List V}(I:Inv X pins σ H s)(h:H p=some (.lst xs)) :
 ∃(its:List Value)(n:Nat),Vals xs its/\s.heap.get? p=some {cls:=.type "list",data:=.seq its.toArray n }/\xs.length<=yC:=by
 obtain⟨z,its,n,r,e⟩:=I.hok p _ h;exact⟨its,n,r,e,z⟩
def Inv.lstUpd{pins:List (yb×Yw)}{σ:St}{H:Hp}{s:yd}{p:yb}{xs ys:List V}{its its':List Value}{n n':Nat}{f:Yw->Yw}(I:Inv X pins σ H s)(h:H p=some (.lst xs))
 (ho:s.heap.get? p=some {cls:=.type "list",data:=.seq its.toArray n }) (hf:f {cls:=.type "list",data:=.seq its.toArray n } = {cls:=.type "list",data:=.seq its'.toArray n' }) (r:Vals ys its') (hz:ys.length<=yC) (t:Nat) :
 Inv X pins σ (upd H p (.lst ys)) {s with heap:=s.heap.update p f,toks:=t }:=by
 have e:(s.heap.update p f).get? p=some {cls:=.type "list",data:=.seq its'.toArray n' }:=by
  rw[Yi f ho (by rw[hf]<;>rfl),hf]
 refine I.write (x:=p) (e:=p) (by rw[h];trivial) (.inl rfl) (λb u hb q=>(Ye _ _ (yM hb)).trans q) ⟨_,e⟩ ?_;exact⟨hz,its',n',r,e⟩
def zdv:V->V->V->Hp->(Hp->Prop)->Prop:=λo i v H Q=>∃p xs k j,o=.ref p/\i=.int k/\H p=some (.lst xs)/\ixN xs.length k=some j/\Q (upd H p (.lst (xs.set j v)))
def zYp:zqv X zdv:=by
 intro pins s σ H o i v ov iv u Q I ro ri rv h;obtain⟨p,xs,k,j,rfl,rfl,hp,hj,q⟩:=h;cases ro;obtain⟨t,rfl⟩:=ri;obtain⟨its,n,r,ho,hz⟩:=I.lst hp;obtain⟨h1,h2,h3,h4⟩:=zRo hj;have hl:=r.length;have hn:=sj
 have I':Inv X pins σ (upd H p (.lst (xs.set j v))) {s with heap:=s.heap.update p (Obj.mapSeq (·.setIfInBounds j u))} :=
  I.lstUpd hp ho (zLn its n j u) (r.set rv j) (by rw[length_set];exact hz) s.toks
 by_cases h0:0<=k
 ·have hk:k.toNat=j:=by
   rw[seqIndex_of h0 h4]at h1;exact yU h1
  exact W.ki_setAt ho h0 (by omega) (by rw[size_toArray,<-hl];exact h4) (by rw[hk];exact⟨_,I',q⟩)
 ·have hk:(k+(its.toArray.size:Int)).toNat=j:=by
   rw[seqIndex_neg (by omega) h3]at h1;rw[size_toArray,<-hl];exact yU h1
  exact W.ki_setBack ho (by omega) (by rw[size_toArray,<-hl];exact h3) (by omega) (by rw[hk];exact⟨_,I',q⟩)
def zki:V->Bool
 |.non=>true
 |.bl _=>true
 |.int _=>true
 |.str _=>true
 |_=>false
def eqV:V->V->Bool
 |.non,.non=>true
 |.bl a,.bl b=>a==b
 |.bl a,.int b=>(if a then 1 else 0)==b
 |.int a,.bl b=>a==(if b then 1 else 0)
 |.int a,.int b=>a==b
 |.str a,.str b=>a==b
 |_,_=>false
def z9t{A:yJ}{s:yd}{y x:V}{u v:Value}(ry:RelV y u)(rx:RelV x v)(fy:zki y=true)(fx:zki x=true):SeqAt.EqAt A s u v (eqV y x):=by
 cases y with
 |non=>
  cases ry
  cases x with
  |non=>cases rx;exact SeqAt.EqAt.same _
  |bl b=>cases rx;exact SeqAt.EqAt.none_bool b
  |int b=>obtain⟨t,rfl⟩:=rx;exact SeqAt.EqAt.none_int b t
  |str b=>obtain⟨t,rfl⟩:=rx;exact SeqAt.EqAt.none_str b t
  |_=>exact absurd (show false=true from fx) yB
 |bl a=>
  cases ry
  cases x with
  |non=>cases rx;exact SeqAt.EqAt.bool_none a
  |bl b=>cases rx;exact SeqAt.EqAt.bool_bool a b
  |int b=>obtain⟨t,rfl⟩:=rx;exact SeqAt.EqAt.bool_int a b t
  |str b=>obtain⟨t,rfl⟩:=rx;exact SeqAt.EqAt.bool_str a b t
  |_=>exact absurd (show false=true from fx) yB
 |int a=>
  obtain⟨t',rfl⟩:=ry
  cases x with
  |non=>cases rx;exact SeqAt.EqAt.int_none a t'
  |bl b=>cases rx;exact SeqAt.EqAt.int_bool a t' b
  |int b=>obtain⟨t,rfl⟩:=rx;exact SeqAt.EqAt.int_int a t' b t
  |str b=>obtain⟨t,rfl⟩:=rx;exact SeqAt.EqAt.int_str a t' b t
  |_=>exact absurd (show false=true from fx) yB
 |str a=>
  obtain⟨t',rfl⟩:=ry
  cases x with
  |non=>cases rx;exact SeqAt.EqAt.str_none a t'
  |bl b=>cases rx;exact SeqAt.EqAt.str_bool a t' b
  |int b=>obtain⟨t,rfl⟩:=rx;exact SeqAt.EqAt.str_int a t' b t
  |str b=>obtain⟨t,rfl⟩:=rx;exact SeqAt.EqAt.str_str a t' b t
  |_=>exact absurd (show false=true from fx) yB
 |_=>exact absurd (show false=true from fy) yB
def eqU(x:V)(u:Value):Bool:=match u with
 |.none=>eqV .non x
 |.bool b=>eqV (.bl b) x
 |.int i _=>eqV (.int i) x
 |.str z _=>eqV (.str z) x
 |_=>false
def zEo{x y:V}{u:Value}(r:RelV y u)(f:zki y=true):eqU x u=eqV y x:=by
 cases y with
 |non=>cases r;rfl
 |bl b=>cases r;rfl
 |int i=>obtain⟨t,rfl⟩:=r;rfl
 |str z=>obtain⟨t,rfl⟩:=r;rfl
 |_=>exact absurd (show false=true from f) yB
def zxl{x:V}:∀{xs:List V} {us:List Value},Vals xs us->xs.all zki=true->us.any (eqU x)=xs.any λy=>eqV y x
 |_,_,.nil,_=>rfl
 |y::xs,u::us,.cons r t,f=>by
  rw[all_cons,yN]at f;rw[any_cons,any_cons,zEo r f.1,zxl t f.2]
def zlh{A:yJ}{s:yd}{x:V}{v:Value}(rx:RelV x v)(fx:zki x=true):∀{xs:List V} {us:List Value},Vals xs us->xs.all zki=true->∀u∈us,SeqAt.EqAt A s u v (eqU x u)
 |_,_,.nil,_=>λu hu=>by cases hu
 |y::xs,u::us,.cons r t,f=>λu' hu=>by
  rw[all_cons,yN]at f;rcases List.mem_cons.mp hu with rfl|hu
  ·rw[zEo r f.1];exact z9t r rx f.1 fx
  ·exact zlh rx fx t f.2 u' hu
def inV(x:V)(xs:List V):Bool:=xs.any λy=>eqV y x
def rIn(K:yt)(neg:Bool):R2:=λx y H Q=>∃p xs,y=.ref p/\(SqL K H p xs\/SqT K H p xs)/\zki x=true/\xs.all zki=true/\Q (.bl (if neg then !inV x xs else inV x xs)) H
def z5k:OpR X (Yn .NotIn) (rIn X.K true):=by
 intro pins s σ H x y v u Q I rx ry h;obtain⟨p,xs,rfl,hq,fx,fs,q⟩:=h;cases ry;rcases hq with hq|hq
 ·obtain⟨its,r,pl,hz⟩:=I.list hq;refine SeqAt.notIn_listAt (eqU x) pl.isList (λw hw=>zlh rx fx r fs w (by simpa using hw)) ⟨.bl _,H,I,rfl,?_⟩;rw[show its.toArray.any (eqU x)=its.any (eqU x) by simp,zxl r fs];exact q
 ·obtain⟨its,r,pl,hz⟩:=I.tuple hq;refine SeqAt.notIn_tupleAt (eqU x) pl (λw hw=>zlh rx fx r fs w (by simpa using hw)) ⟨.bl _,H,I,rfl,?_⟩;rw[show its.toArray.any (eqU x)=its.any (eqU x) by simp,zxl r fs];exact q
def zwk:z7l X (.builtin "len") (λxs H Q=>∃p ys,xs=[.ref p]/\(SqL X.K H p ys\/SqT X.K H p ys)/\Q (.int ys.length) H):=by
 intro pins s σ H xs us Q I r h;obtain⟨p,ys,rfl,hq,q⟩:=h;obtain⟨u,rfl,rx⟩:=vals1 r;cases rx;have hn:=sj;rcases hq with hq|hq
 ·obtain⟨its,r',pl,hz⟩:=I.list hq;have hlen:=r'.length;exact Calls.call_len_list pl.isList (by simp only[size_toArray]<;>omega) ⟨.int ys.length,H,I.tok _,⟨s.toks+1,by rw[size_toArray,hlen]⟩,q⟩
 ·obtain⟨its,r',pl,hz⟩:=I.tuple hq;have hlen:=r'.length;exact len_tuple pl (by simp only[size_toArray]<;>omega) ⟨.int ys.length,H,I.tok _,⟨s.toks+1,by rw[size_toArray,hlen]⟩,q⟩
def zSg:z7l X (.type "list") (λxs H Q=>∃p ys,xs=[.ref p]/\(SqL X.K H p ys\/SqT X.K H p ys)/\∀l,H l=none->Q (.ref l) (upd H l (.lst ys))):=by
 intro pins s σ H xs us Q I r h;obtain⟨p,ys,rfl,hq,q⟩:=h;obtain⟨u,rfl,rx⟩:=vals1 r;cases rx
 have fin:∀(its:List Value),Vals ys its->ys.length<=yC->∀(h':yR)(c':Nat),(∀b o',s.heap.get? b=some o'->h'.get? b=some o') ->
  h'.get? s.heap.objs.size=some {cls:=.type "list",dict:=none,data:=.seq its.toArray c',slots:=#[]}->EP X pins σ Q (.ref s.heap.objs.size) {s with heap:=h' }:=λits r' hz h' c' kp e=>
  ⟨.ref s.heap.objs.size,_,I.laid (t':=s.toks) kp (yh _) (show tF X.prog X.w _ h' _ (.lst ys) from⟨hz,its,c',r',e⟩),rfl,q _ (I.hok.fresh (yh _))⟩
 rcases hq with hq|hq
 ·obtain⟨its,r',pl,hz⟩:=I.list hq;have hlen:=r'.length;obtain⟨o,ho,hc,n,hd⟩:=pl.isList;exact call_list_seq p (.inl rfl) ho hc hd (λh' c' kp e=>fin its r' hz h' c' kp e) (by simp only[size_toArray]<;>omega)
 ·obtain⟨its,r',pl,hz⟩:=I.tuple hq;have hlen:=r'.length;obtain⟨o,ho,hc,n,hd⟩:=pl;exact call_list_seq p (.inr rfl) ho hc hd (λh' c' kp e=>fin its r' hz h' c' kp e) (by simp only[size_toArray]<;>omega)
def zse:z7l X (.type "tuple") (λxs H Q=>∃p ys,xs=[.ref p]/\((SqL X.K H p ys/\∀l,H l=none->Q (.ref l) (upd H l (.tup ys)))\/(SqT X.K H p ys/\Q (.ref p) H))):=by
 intro pins s σ H xs us Q I r h;obtain⟨p,ys,rfl,h⟩:=h;obtain⟨u,rfl,rx⟩:=vals1 r;cases rx;rcases h with ⟨hq,q⟩|⟨hq,q⟩
 ·obtain⟨its,r',pl,hz⟩:=I.list hq;have hlen:=r'.length;refine call_tuple_list pl.isList (λh' kp=>?_) (by simp only[size_toArray]<;>omega);have I1:Inv X pins σ H {s with heap:=h' }:=I.kept (t':=s.toks) kp
  have I2:Inv X pins σ (upd H h'.objs.size (.tup ys)) {s with heap:=h'.push {cls:=.type "tuple",data:=.seq its.toArray }} :=
   I1.laid (t':=s.toks) (λb o e=>ye _ e) (yh _) (show tF X.prog X.w _ _ _ (.tup ys) from⟨hz,its,r',IsTup.new _ _⟩)
  exact⟨.ref h'.objs.size,_,I2,rfl,q _ (I1.hok.fresh (yh _))⟩
 ·obtain⟨its,r',pl,hz⟩:=I.tuple hq;exact call_tuple_same pl ⟨.ref p,H,I,rfl,q⟩
def tyV(K:yt)(T:String)(x:V)(H:Hp):Prop:=match x with
 |.str _=>T="str"
 |.int _=>T="int"
 |.ref p=>(T="list"/\∃xs,SqL K H p xs)\/(T="tuple"/\∃o,K.lookup p=some o/\o.cls=.type "tuple"/\o.dict=none) \/
  (T="dict"/\((∃kvs,H p=some (.dK kvs))\/∃kvs,H p=some (.dT kvs)))\/(T="set"/\∃S n,H p=some (.set S n))
 |_=>False
def zyu{pins:List (yb×Yw)}{σ:St}{H:Hp}{s:yd}{T:String}{x:V}{v:Value}(I:Inv X pins σ H s)(r:RelV x v)(ty:tyV X.K T x H) :
 s.TypeIs v T/\∀a,v=.ref a->∃ob,s.heap.get? a=some ob/\ob.dict=none:=by
 cases x with
 |str z=>
  obtain⟨t,rfl⟩:=r;cases (show T="str" from ty);exact⟨typeIs_str s z t,λ_ e=>nomatch e⟩
 |int i=>
  obtain⟨t,rfl⟩:=r;cases (show T="int" from ty);exact⟨typeIs_int s i t,λ_ e=>nomatch e⟩
 |ref p=>
  cases r;rcases ty with ⟨rfl,xs,hq⟩|⟨rfl,o,hk,hc,hd⟩|⟨rfl,hk⟩|⟨rfl,S,n,hk⟩
  ·obtain⟨its,_,pl,_⟩:=I.list hq;refine⟨pl.isList.typeIs,λa e=>?_⟩;cases e;obtain⟨o,n,e,c,hd,_⟩:=pl;exact⟨o,e,hd⟩
  ·refine⟨⟨o,I.kIn p o hk,hc⟩,λa e=>?_⟩;cases e;exact⟨o,I.kIn _ o hk,hd⟩
  ·have z:∃o,s.heap.get? p=some o/\o.ExactDict:=by
    rcases hk with ⟨kvs,hk⟩|⟨kvs,hk⟩
    ·obtain⟨_,_,_,_,o,_,_,e,ex,_⟩:=I.hok p _ hk;exact⟨o,e,ex⟩
    ·obtain⟨_,_,_,_,o,_,_,e,ex,_⟩:=I.hok p _ hk;exact⟨o,e,ex⟩
   obtain⟨o,e,ex⟩:=z;refine⟨⟨o,e,ex.1⟩,λa e2=>?_⟩;cases e2;exact⟨o,e,ex.2.1⟩
  ·obtain⟨o,_,_,_,e,ex,_⟩:=I.hok p _ hk;refine⟨⟨o,e,ex.1⟩,λa e2=>?_⟩;cases e2;exact⟨o,e,ex.2.1⟩
 |_=>exact Yl ty
def tBM(K:yt)(T:String)(r:V->List V->Hp->VK->Prop)(to:TE)(t:TA):TE:=λσ H Q=>to σ H λx H1=>tyV K T x H1/\t σ H1 λxs H2=>r x xs H2 Q
variable {o e:yz}{es:List yz}{to:TE}{t:TA}{name:yr}{apos cpos:YR}{T id:String}{r:V->List V->Hp->VK->Prop}
def zOt(pa:PlainAttrs T)(slot:Slot T name id)(hty:typeOf (.builtin id)=pure (.type "method_descriptor"))(hm:MtR X id r)(ho:PE X o to)(ha:PA X (e::es) t)
 (hbase:Yt o name X.env (yV o X.env)=yV o X.env:=by rfl)
 (hfew:((yZ cpos (yf (e::es) X.env)).all (λx=>!x.1)&&(xw cpos (Yz [] X.env)).all (λx=>x.1.isSome)
  && decide ((e::es).length+([]:List xI).length+(if([]:List xI).isEmpty then 0 else 1)<30))=true:=by rfl)
 (hline:(apos.endLine==cpos.line)=true:=by rfl) (hs:yf (e::es) X.env=(false,yV e X.env)::yf es X.env:=by rfl) (hplain:(yZ cpos (yf es X.env)).any (·.1)=false:=by rfl) :
 PE X (.Call (.Attribute o name apos) (e::es) [] cpos) (tBM X.K T r to t):=by
 intro pins s σ H Q I h;refine wpAny_Call_method_late hbase hfew hline rfl (thn (ho pins s σ H _ I h) λv s1 ⟨x,H1,I1,r1,ty,q1⟩=>?_);obtain⟨h1,h2⟩:=zyu I1 r1 ty;refine⟨T,id,pa,slot,hty,h1,h2,?_⟩;have hA:=ha cpos pins s1 σ H1 _ I1 q1;rw[hs]at hA ⊢;refine Calls.callWith_builtin (by show(false||(yZ cpos (yf es X.env)).any (·.1))=false;rw[hplain]<;>rfl) (Calls.evalArgs_plain ?_);exact thn hA λus s2 ⟨vs,H2,I2,r2,q2⟩=>hm pins s2 σ H2 x vs v us Q I2 r1 r2 q2
end
def MtM(X:Cx)(id:String)(r:V->List V->Hp->VK->Prop):Prop :=
 ∀(pins:List (yb×Yw)) (s:yd) (σ:St) (H:Hp) (x:V) (xs:List V) (v:Value) (us:List Value) (Q:VK),Inv X pins σ H s->RelV x v->Vals xs us->r x xs H Q ->
  yq (yy X.prog X.w) X.A (call (.builtin id) (v::us)) (EP X pins σ Q) X.xe s
def Vals.uncons{x:V}{xs:List V}{us:List Value}(h:Vals (x::xs) us):∃u ws,us=u::ws/\RelV x u/\Vals xs ws:=by
 cases h with
 |cons r t=>exact⟨_,_,rfl,r,t⟩
def Vals.unnil{us:List Value}(h:Vals [] us):us=[]:=by
 cases h;rfl
def Vals.one{x:V}{us:List Value}(h:Vals [x] us):∃u,us=[u]/\RelV x u:=by
 obtain⟨u,ws,e,r,t⟩:=h.uncons;exact⟨u,by rw[e,t.unnil],r⟩
def Vals.reverse{xs:List V}{us:List Value}(h:Vals xs us):Vals xs.reverse us.reverse:=by
 induction h with
 |nil=>exact .nil
 |cons r t ih=>rw[List.reverse_cons,List.reverse_cons];exact Vals.append ih (.cons r .nil)
def Vals.rep{xs:List V}{us:List Value}(h:Vals xs us):∀k:Nat,Vals (yD k xs).flatten (yD k us).flatten
 |0 =>.nil
 |k+1=>by
  rw[replicate_succ,replicate_succ,flatten_cons,flatten_cons];exact Vals.append h (Vals.rep h k)
def zYk(its:List Value):∀(k:Nat)(acc:List Value),
 List.foldl (λx1 x2=>x1++x2) acc.toArray (yD k its.toArray)=(acc++(yD k its).flatten).toArray
 |0,acc=>by simp
 |k+1,acc=>by
  have e:acc.toArray++its.toArray=(acc++its).toArray:=by simp
  have e2:(acc++its)++(yD k its).flatten=acc++(yD (k+1) its).flatten:=by
   rw[replicate_succ,flatten_cons,append_assoc]
  rw[<-e2,<-zYk its k (acc++its),<-e,replicate_succ,List.foldl_cons]
section
variable {X:Cx}{pins:List (yb×Yw)}{σ:St}{H:Hp}{s:yd}{l b:yb}{xs ys zs:List V}
def Inv.lset{its its':List Value}{n:Nat}{f:Array Value->Array Value}{t':Nat}(I:Inv X pins σ H s)(hH:H l=some (.lst xs))
 (e:s.heap.get? l=some {cls:=.type "list",data:=.seq its.toArray n }) (hf:f its.toArray=its'.toArray) (hv:Vals ys its') (hz:ys.length<=yC) :
 Inv X pins σ (upd H l (.lst ys)) {s with heap:=s.heap.update l (Obj.mapSeq f),toks:=t' }:=by
 have q:=PySem.IsL.update e f;rw[hf]at q;refine I.write (x:=l) (e:=l) (by rw[hH];exact trivial) (.inl rfl) (λb' u hb hu=>(Ye s.heap (Obj.mapSeq f) (yM hb)).trans hu) ⟨_,q⟩ ?_;exact⟨hz,its',_,hv,q⟩
def Inv.lnew{its:List Value}{t':Nat}(I:Inv X pins σ H s)(hv:Vals ys its)(hz:ys.length<=yC) :
 Inv X pins σ (upd H s.heap.objs.size (.lst ys)) {s with heap:=s.heap.push {cls:=.type "list",data:=.seq its.toArray },toks:=t' } :=
 I.laid (λ_ _ q=>ye _ q) (yh _) ⟨hz,its,0,hv,yx _ rfl⟩
def Inv.fresh(I:Inv X pins σ H s):H s.heap.objs.size=none:=I.hok.fresh (yh _)
def Inv.Sf(I:Inv X pins σ H s)(hH:H l=some (.lst xs)):xs.length<=yC/\∃(its:List Value)(n:Nat),Vals xs its/\xs.length=its.length/\s.heap.get? l=some {cls:=.type "list",data:=.seq its.toArray n }:=by
 obtain⟨z,its,n,r,e⟩:=I.hok l _ hH;exact⟨z,its,n,r,r.length,e⟩
def Sg{n:Nat}(h:n<=yC):Builtin.List.listTooLong n=false:=by
 unfold Builtin.List.listTooLong;exact decide_eq_false (by omega)
end
section
variable {X:Cx}
def zet:V->List V->Hp->VK->Prop:=λx vs H Q=>∃l xs y,x=.ref l/\vs=[y]/\H l=some (.lst xs)/\xs.length<yC/\Q .non (upd H l (.lst (xs++[y])))
def znp:MtM X "list.append" zet:=by
 intro pins s σ H x vs v us Q I rx rv h;obtain⟨l,xs,y,rfl,rfl,hH,hz,q⟩:=h;cases rx;obtain⟨u,rfl,ru⟩:=rv.one;obtain⟨z,its,n,r,hl,e⟩:=I.Sf hH;refine call_meets F.slot_list_append ⟨_,e,rfl⟩ F.entry_list_append (F.args_list_append_2 _ _) (PySem.list_append l its.toArray n u (by rw[size_toArray];omega)) ⟨e,?_⟩;refine⟨.non,_,I.lset (its':=its++[u]) hH e (by simp) (r.append (.cons ru .nil)) ?_,rfl,q⟩;rw[length_append,length_singleton];omega
def zaw:R2:=λx y H Q=>∃l b xs zs,x=.ref l/\y=.ref b/\H l=some (.lst xs)/\H b=some (.lst zs)/\xs.length+zs.length<=yC/\∀p,H p=none->Q (.ref p) (upd H p (.lst (xs++zs)))
def zwu:OpR X (YT .Add) zaw:=by
 intro pins s σ H x y v u Q I rx ry h;obtain⟨l,b,xs,zs,rfl,rfl,hH,hB,hz,q⟩:=h;cases rx;cases ry;obtain⟨z,its,n,r,hl,e⟩:=I.Sf hH;obtain⟨z2,its2,n2,r2,hl2,e2⟩:=I.Sf hB;refine PySem.P.add_list e e2 ?_ (by rw[size_toArray,size_toArray];omega);have ea:its.toArray++its2.toArray=(its++its2).toArray:=by simp
 rw[ea];exact⟨.ref _,_,I.lnew (t':=s.toks) (r.append r2) (by rw[length_append];omega),rfl,q _ I.fresh⟩
def zjw:R2:=λx y H Q=>∃l k xs,x=.ref l/\y=.int k/\H l=some (.lst xs)/\-(2^63)<=k/\k<2^63/\xs.length*k.toNat<=yC /\
 ∀p,H p=none->Q (.ref p) (upd H p (.lst (yD k.toNat xs).flatten))
def z3o{α:Type}(xs:List α)(k:Nat):(yD k xs).flatten.length=k*xs.length:=by
 induction k with
 |zero=>simp
 |succ k ih=>rw[replicate_succ,flatten_cons,length_append,ih,Nat.succ_mul,Nat.add_comm]
def zFu:OpR X (YT .Mult) zjw:=by
 intro pins s σ H x y v u Q I rx ry h;obtain⟨l,k,xs,rfl,rfl,hH,h1,h2,hz,q⟩:=h;cases rx;obtain⟨t,rfl⟩:=ry;obtain⟨z,its,n,r,hl,e⟩:=I.Sf hH;have hlen:its.toArray.size*k.toNat<=yC:=by rw[size_toArray,<-hl];exact hz
 have hcap:¬its.toArray.size*k.toNat>(2^63-1) / 8:=by
  have:(yC:Nat)<=(2^63-1) / 8:=by decide
  omega
 have hfit:¬(!Builtin.List.listFitsIndex k)=true:=by
  rw[fitsIndex_both h1 h2];exact yB
 have hlong:¬Builtin.List.listTooLong (its.toArray.size*k.toNat)=true:=by
  rw[Sg hlen];exact yB
 have hnew:List.foldl (λx1 x2=>x1++x2) #[] (yD (if its.toArray.isEmpty=true then 0 else k.toNat) its.toArray)=(yD k.toNat its).flatten.toArray:=by
  have f0:∀m:Nat,List.foldl (λx1 x2=>x1++x2) #[] (yD m its.toArray)=(yD m its).flatten.toArray:=λm=>by
   have:=zYk its m [];rw[nil_append]at this;exact this
  rw[f0]
  cases its with
  |nil=>simp
  |cons a r'=>rw[if_neg (by simp)]
 refine wpAny_binaryOp_repeat_ref (T:="list") (U:="int") (by decide) ⟨_,e,rfl⟩ (λs'=>typeIs_int s' k t) noFill_list_mul F.fills_int_mul F.slot_int_rmul repeat_list F.slot_int_index.lookup
  (call_meets F.slot_int_rmul (typeIs_int s k t) F.entry_int_rmul (F.args_int_rmul_2 _ _) (int___rmul___int_list k t l its.toArray n)
   ⟨e,rfl,⟨_,e,rfl⟩,call_meets F.slot_list_mul ⟨_,e,rfl⟩ F.entry_list_mul (F.args_list_mul_2 _ _) (AutoListH.list___mul___list_int_3 l its.toArray n k t hfit hcap hlong) ⟨e,?_⟩⟩)
 rw[hnew];exact⟨.ref _,_,I.lnew (t':=s.toks) (r.rep k.toNat) (by rw[z3o,Nat.mul_comm];exact hz),rfl,q _ I.fresh⟩
end
section
variable {prog:yu}{w:yI}{A:yJ}{E:Value->yd->Prop}{s:yd}
end
section
variable {X:Cx}
end
end L2
namespace Att
open PySem PySem.W PySem.Calls PyProof.Rows
def zbi{P:Params}{h:yR}:∀(ns:List Int)(vs:List Value),WellAll P h vs (ns.map WData.int)->IntsAre vs ns:=by
 intro ns
 induction ns with
 |nil=>
  intro vs w;rw[map_nil]at w;cases w;exact .nil
 |cons n ns ih=>
  intro vs w;rw[map_cons]at w
  cases w with
  |cons a b=>
   cases a;exact .cons _ _ (ih _ b)
def zao{l:OpenLaw}{n:Nat}(hn:l.most=some n){P:Params}{h:yR}{args:List WData}{vals:List Value}
 (hpre:l.row.toRowW.claim.pre args=true) (hwl:WellAll P h vals args) :
 ∃a vs ns,vals=[yH a]/\args=[WData.list (ns.map WData.int)]/\h.get? a=some {cls:=.type "list",data:=.seq vs.toArray }/\IntsAre vs ns/\ns.length<=n:=by
 have hsh:WShape.hasAll [] args [.list .int]=true:=(pre_splitW hpre).1;have hc:l.pre.holds [] {args:=args } = true:=(pre_splitW hpre).2;obtain⟨d,r,rfl,h1,h2⟩:=hasAllW_cons hsh;obtain rfl:=hasAllW_nil h2;obtain⟨xs,rfl,h3⟩:=hasW_list h1;obtain⟨ns,rfl⟩:=items_int h3
 have hlen:ns.length<=n:=by
  unfold OpenLaw.pre at hc
  have h4:(WTm.not (.lt (.lit (.int (n:Int))) (.len (.arg 0)))).holds [] {args:=[.list (ns.map .int)]} = true:=by
   have h4:=(holds_andW hc).1;rw[hn]at h4;exact h4
  have h5:=condW_of h4 (w_not (w_lt w_lit (w_len_list (w_arg rfl))));rw[length_map]at h5;refine Nat.le_of_not_lt λq=>?_;have q':(n:Int)<((ns.length:Nat):Int):=by omega
  first
   |(rw[decide_eq_true q']at h5;exact absurd h5 (by decide))
   |(simp at h5;omega)
 cases hwl with
 |cons w1 w2=>
  cases w2
  cases w1 with
  |list ho hall=>exact⟨_,_,ns,rfl,rfl,ho,zbi ns _ hall,hlen⟩
def zxo(l:OpenLaw)(args:List WData):l.row.toRowW.claim.post args (.bool true) args=true :=
 postW_of (r:=l.row.toRowW) (X:=(true==true))
  (show WShape.has [] (.bool true) .bool=true by first|rfl|decide|simp[WShape.has,WShape.arms,WShape.armsAll])
  (show(WTm.eq .res (.lit (.bool true))).value [] {args:=args,res:=some (.bool true),after:=args } = some (.bool (true==true)) from w_eq_bool (w_res rfl) w_lit) rfl
def sI{l:OpenLaw}{n:Nat}{q:yu}{loose:List yr}{XP:(yr->Option Value)->yR->Prop}{YP:yI->yR->Prop}{d:DefRec}
 (hn:l.most=some n) (hdf:d.params.defaults=[])
 (call:∀(w:yI)(s₀ s₁:yd)(mg mb:yr->Option Value)(fa:yb)(o:Yw)(pm cd doc:Value)(a:yb)(vs:List Value)(ns:List Int),
  Ground q loose [] XP w s₀ mg mb s₁.heap->YP w s₁.heap ->
  s₁.heap.get? fa=some o->o.data=.func (docDef d.name d.params d.body d.scope pm cd doc)->s₁.heap.CodeRec cd d.name->mg d.name=some (.ref fa) ->
  s₁.heap.get? a=some {cls:=.type "list",data:=.seq vs.toArray }->IntsAre vs ns->ns.length<=n->s₁.gens = #[] ->
  codeAny (yy l.prog w) callerA (.call (.ref fa) ⟨[.ref a],[]⟩) (λr s'=>r=.ok (.ret (.bool true))/\OldK s₁.heap s'.heap/\s'.os=s₁.os/\AllBare s'.gens) s₁) :
 WalkO q loose XP YP l.row.toRowW d [] (λf vs=>PySem.call f vs):=by
 intro w s₀ s₁ mg mb G Y fa o pm cd doc dV kV ho hd hcd hD hmg hg args vals as hpre hlay hrd hwl hlo;obtain rfl:dV=.none:=Dflts.none hD hdf;obtain rfl:kV=.none:=Dflts.noKw hD;obtain⟨a,vs,ns,rfl,rfl,hobj,hints,hlen⟩:=zao hn hpre hwl;refine enter_call (YO (call w s₀ s₁ mg mb fa o pm cd doc a vs ns G Y ho (fd_plain hd) hcd hmg hobj hints hlen hg) λr s' hq=>?_);obtain⟨rfl,h2,h3,h4⟩:=hq;exact⟨.inl ⟨.bool true,.bool true,[],rfl,λ_=>rfl,.bool true,zxo l _,λ_=>⟨List.Pairwise.nil,λ_ hm=>(nomatch hm)⟩⟩,h2,h3,h4⟩
section
variable {prog:yu}{w:yI}{A:yJ}{E:Value->yd->Prop}{s:yd}{K:Frag}
end
end Att
namespace L2
open PySem PySem.Spec PyProof.Rows
def zSk:∀{vs:List Value} {ns:List Int},IntsAre vs ns->Vals (ns.map V.int) vs
 |_,_,.nil =>.nil
 |_,_,.cons n t h =>.cons ⟨t,rfl⟩ (zSk h)
def z0u(H:Hp):Prop:=∀b,H b=none\/∃o xs,H b=some (.frz o (.lst xs))
def zMq{P:yu}{w:yI}{K:yt}{mg mb:yr->Option Value}{CX:CXT}{k:Nat}{fa a:yb}{fd:yj}{x:yr}{sp:Sp}{s₁:yd}{vs:List Value}{ns:List Int}
 (KX:K.In s₁.heap) (hns:s₁.heap.Ns yi mg) (hb:s₁.heap.Ns builtinsNs mb) (hbb:∀x:yr,x≠"__name__"->mb x=yL x) (hlim:s₁.heap.NoLimit) (hg:s₁.gens = #[])
 (ha:s₁.heap.get? a=some {cls:=.type "list",data:=.seq vs.toArray }) (hi:IntsAre vs ns) (hl:ns.length<=yC) (hr:tQ k callerA)
 (F:∀base:yR,K.In base->base.Ns yi mg->tu P w K mg base CX k fa fd [x] sp) (hbind:∀(s:yd)(u:Value),BindsTo s fd ⟨[u],[]⟩ [(x,u)])
 (hsp:∀H:Hp,z0u H->SqL K H a (ns.map V.int)->sp [.ref a] H (λv _=>v=.bl true) λ_ _ _=>False)
 (hCX:∀H e s',CX [] H s₁ (λ_ _ _=>False) e s'->False) :
 codeAny (yy P w) callerA (.call (.ref fa) ⟨[.ref a],[]⟩) (λr s'=>r=.ok (.ret (.bool true))/\OldK s₁.heap s'.heap/\s'.os=s₁.os/\AllBare s'.gens) s₁:=by
 have rv:=zSk hi;have lenV:=hi.length
 have core:∀H:Hp,z0u H->SqL K H a (ns.map V.int)->HOk P w H s₁.heap->(∀b,H b≠none->b=a)->(H a≠none->K.lookup a=none) ->
  codeAny (yy P w) callerA (.call (.ref fa) ⟨[.ref a],[]⟩) (λr s'=>r=.ok (.ret (.bool true))/\OldK s₁.heap s'.heap/\s'.os=s₁.os/\AllBare s'.gens) s₁:=by
  intro H hO hS hok hA hK;have base_of:∀{b:yb} {o:Yw},s₁.heap.get? b=some o->H b=none->(z5p s₁.heap H).get? b=some o:=λe n=>zar e n
  have noA:∀{b:yb} {o:Yw} {es:Array DictEntry} {ep:Nat},s₁.heap.get? b=some o->o.data=.dict es ep->H b=none:=λ{b o es ep} e d=>by
   cases q:H b with
   |none=>rfl
   |some u=>
    have e':b=a:=hA b (by rw[q];simp);subst e';rw[ha]at e;cases e;have d':Data.seq vs.toArray _=Data.dict es ep:=d;cases d'
  have nsK:∀{b:yb} {m:yr->Option Value},s₁.heap.Ns b m->(z5p s₁.heap H).Ns b m:=λ{b m} ⟨o,es,ep,e,d,r⟩=>⟨o,es,ep,base_of e (noA e d),d,r⟩
  have hKb:K.In (z5p s₁.heap H):=λb o e=>base_of (KX b o e) (by
   cases q:H b with
   |none=>rfl
   |some u=>
    have e':b=a:=hA b (by rw[q];simp);subst e';rw[hK (by rw[q];simp)]at e;cases e)
  have hM:Mod K mg (z5p s₁.heap H):=⟨hKb,nsK hns,⟨mb,nsK hb,hbb⟩,let ⟨mc,h1,h2⟩:=hlim;⟨mc,nsK h1,h2⟩⟩
  have e0:sO P w K mg (z5p s₁.heap H) callerA [] s₁ H:=⟨rfl,hM,λb o e=>zjt e,Nat.le_of_eq (z1n _ _),trivial,λb hb=>absurd (show b∈([]:List yb) from hb) (by simp),hok,.of_eq hg⟩
  refine YO ((F _ hKb (nsK hns)).run callerA [] s₁ H ⟨[.ref a],[]⟩ [.ref a] [.ref a] _ _ hr e0 (hbind s₁ (.ref a)) (.cons rfl .nil) (hsp H hO hS)) λr s' h=>?_
  cases r with
  |error e=>exact(hCX H e s' h).elim
  |ok fl=>
   cases fl with
   |next=>exact Yl h
   |brk=>exact Yl h
   |cont=>exact Yl h
   |ret u=>
    obtain⟨v,H',os,bare,un,hok',r',q⟩:=h;have q':v=.bl true:=q;subst q';obtain rfl:u=Value.bool true:=r';refine⟨rfl,OldK.of_keep λb o e=>?_,os,bare⟩
    cases q:H b with
    |none=>exact un.keep b o e q (by intro z;exact absurd (show b∈([]:List yb) from z) (by simp)) (by simp)
    |some u=>
     rcases hO b with z|⟨ob,xs,z⟩
     ·rw[q]at z;cases z
     ·have z2:=un.Tq b ob _ z;obtain⟨e1,_⟩:=hok b _ z;obtain⟨e2,_⟩:=hok' b _ z2;rw[e]at e1;cases e1;exact e2
 cases hk:K.lookup a with
 |some o=>
  have e:=KX a o hk;rw[ha]at e;cases e;refine core (λ_=>none) (λ_ =>.inl rfl) (.inr ⟨_,vs.toArray,_,hk,rfl,rfl,rfl,by rw[size_toArray,lenV];exact hl,by simpa using rv⟩) (λb u z=>by have z':(none:Option HO)=some u:=z;cases z') (λb z=>absurd rfl z) λz=>absurd rfl z
 |none=>
  refine core (λb=>if b=a then some (.frz {cls:=.type "list",data:=.seq vs.toArray } (.lst (ns.map V.int))) else none) (λb=>?_) (.inl (.inr ⟨{cls:=.type "list",data:=.seq vs.toArray },if_pos rfl⟩)) (λb u z=>?_) (λb z=>?_) λ_=>hk
  ·by_cases hb:b=a
   ·exact .inr ⟨_,_,if_pos hb⟩
   ·exact .inl (if_neg hb)
  ·by_cases hb:b=a
   ·have z':=(if_pos hb).symm.trans z;cases z';subst hb;exact⟨ha,by rw[length_map];exact hl,vs,_,rv,ha⟩
   ·have z':=(if_neg hb).symm.trans z;cases z'
  ·by_cases hb:b=a
   ·exact hb
   ·exact absurd (if_neg hb) z
def walk_of{l:W.OpenLaw}{n k:Nat}{q:yu}{loose:List yr}{XP:(yr->Option Value)->yR->Prop}{YP:yI->yR->Prop}{d:DefRec}{K:Params->yt}{CX:yI->CXT}{sp:yI->Sp}{x:yr}
 (hn:l.most=some n) (hn2:n<=yC) (hdf:d.params.defaults=[]) (hr:tQ k callerA)
 (hY:∀(w:yI)(h:yR),YP w h->(K w.params).In h)
 (F:∀(w:yI)(mg:yr->Option Value)(fa:yb)(h:yR),(K w.params).In h->h.Ns yi mg->mg d.name=some (.ref fa) ->
  ∃fd:yj,(∀(s:yd)(u:Value),BindsTo s fd ⟨[u],[]⟩ [(x,u)]) /\
   ∀base:yR,(K w.params).In base->base.Ns yi mg->tu l.prog w (K w.params) mg base (CX w) k fa fd [x] (sp w))
 (hsp:∀(w:yI)(H:Hp)(a:yb)(ns:List Int),ns.length<=n->z0u H->SqL (K w.params) H a (ns.map V.int)->sp w [.ref a] H (λv _=>v=.bl true) λ_ _ _=>False)
 (hCX:∀(w:yI)(H:Hp)(s:yd)(e:Value)(s':yd),CX w [] H s (λ_ _ _=>False) e s'->False) :
 W.WalkO q loose XP YP l.row.toRowW d [] (λf vs=>PySem.call f vs):=by
 refine Att.sI hn hdf λw s₀ s₁ mg mb fa o pm cd doc a vs ns G Y ho hd hcd hmg hobj hints hlen hg=>?_;have KX:=hY w _ Y;obtain⟨fd,hb,hF⟩:=F w mg fa _ KX G.T.g hmg;exact zMq KX G.T.g G.T.b G.T.builtins G.T.nolimit hg hobj hints (yA hlen hn2) hr hF hb (λH hO hS=>hsp w H a ns hlen hO hS) λH e s'=>hCX w H s₁ e s'
def zVd(s:yX)(j:Nat):yX:=match s with
 |.ClassDef _ _ _ body _ _ _ _ _ _ _=>body.getD j (.Pass ⟨0,0,0,0⟩)
 |_ =>.Pass ⟨0,0,0,0⟩
def z7c(s:yX):Arguments:=match s with
 |.FunctionDef _ a _ _ _ _ _ _ _ _=>a
 |_=>{posonlyargs:=[],args:=[],vararg:=none,kwonlyargs:=[],kw_defaults:=[],kwarg:=none,defaults:=[]}
def zyc(s:yX):List yX:=match s with
 |.FunctionDef _ _ b _ _ _ _ _ _ _=>b
 |_=>[]
def zp(s:yX):xG:=match s with
 |.FunctionDef _ _ _ _ _ _ sc _ _ _=>sc
 |_=>{kind:=.function,names:=[],isGenerator:=false,isCoroutine:=false }
abbrev CX0:CXT:=λ_ _ _ _ _ _=>False
abbrev E0:XK:=λ_ _ _=>False
def sW{X:Cx}:zrf CX0 X E0:=λ_ _ _ _ _ _ _ h=>h.elim
structure Fun(K:yt)(x qual:yr)(st:yX)(f:yb)(fd:yj):Prop where
 ex:∃(oc:Value)(od:Option yb)(kV doc pm:Value)(an:Option yb)(cdv ct:Value)(osl:Array (Option Value)),
  fd=W.fnOf x qual (z7c st) (zyc st) (zp st) .none kV doc pm an cdv ct/\K.lookup f=some ⟨oc,od,.func fd,osl⟩/\W.codeIn K cdv qual=true
 kp:W.keepIn K (.ref f)=true
section
variable {P:yu}{w:yI}{K:yt}{mg:yr->Option Value}{base:yR}
def Fun.ok{x qual:yr}{st:yX}{f:yb}{fd:yj}{N ps:List yr}{k:Nat}{sp:Sp}(F:Fun K x qual st f fd)(S:tx N ps (zp st))(len:∀vs H Q E,sp vs H Q E->vs.length=ps.length)
 (hbody:∀(cdv:Value)(A:yJ)(outer:List Env)(s:yd)(H:Hp)(vs:List V)(Q:VK)(E:XK),tQ k (A.deeper (envOfC qual (zp st) s.heap.objs.size f cdv))->sp vs H Q E ->
  ∃t,PSs (z6o CX0 P w K mg base N qual (zp st) f cdv A outer s H E).nox (zyc st) t/\t {nx:=λ_ H'=>Q .non H',rt:=Q } (start N vs) H):tu P w K mg base CX0 (k+1) f fd ps sp:=by
 obtain⟨oc,od,kV,doc,pm,an,cdv,ct,osl,rfl,lk,hcd⟩:=F.ex;refine zAt lk hcd S len λA outer s H vs Q E hr hsp=>?_;obtain⟨t,h,q⟩:=hbody cdv A outer s H vs Q E hr hsp;exact⟨t,h.nox,q⟩
def Fun.binds{x qual:yr}{st:yX}{f:yb}{fd:yj}{ps:List yr}(F:Fun K x qual st f fd)
 (h:∀(kV doc pm:Value)(an:Option yb)(cdv ct:Value)(us:List Value),us.length=ps.length->bindArgs (W.fnOf x qual (z7c st) (zyc st) (zp st) .none kV doc pm an cdv ct) ⟨us,[]⟩=pure (ps.zip us)):Binds K fd ps []:=by
 obtain⟨oc,od,kV,doc,pm,an,cdv,ct,osl,rfl,lk,hcd⟩:=F.ex;exact .all (h kV doc pm an cdv ct)
def zGd{x qual:yr}{st:yX}{f:yb}{oc:Value}{od an:Option yb}{osl:Array (Option Value)}{kV doc pm cdv ct:Value}(l:K.lookup f=some ⟨oc,od,.func (W.fnOf x qual (z7c st) (zyc st) (zp st) .none kV doc pm an cdv ct),osl⟩)
 (c:W.codeIn K cdv qual=true) (k:W.keepIn K (.ref f)=true):Fun K x qual st f (W.fnOf x qual (z7c st) (zyc st) (zp st) .none kV doc pm an cdv ct):=⟨⟨oc,od,kV,doc,pm,an,cdv,ct,osl,rfl,l,c⟩,k⟩
end
def TU{n:Nat}(h:n<=1000):n<yC:=Nat.lt_of_le_of_lt h (by decide)
section
variable {X:Cx}
def pv(i:Nat){x:yr}{pos:YR}(hN:X.N[i]?=some x:=by rfl)(hv:Vis X.env.scope x:=by first|exact Or.inl rfl|exact Or.inr (Or.inl rfl)|exact Or.inr (Or.inr rfl))(hd:(x==("__debug__":yr))=false:=by decide)
 (hcd:(x==("__classdict__":yr))=false:=by decide):PE X (.Name x pos) (zsv i):=zJr hN hv hd hcd
end
def sP{A B:Prop}(h:B):if false=true then A else B:=by
 rw[if_neg yB];exact h
def sQ{A B:Prop}(h:A):if true=true then A else B:=by
 rw[if_pos rfl];exact h
def zLi(f:Array Value->Array Value)(o:Yw):(xg f o).dict=o.dict:=by
 unfold xg
 split<;>rfl
def Trc(B h:yR)(e:yb)(x:Value):Prop:=x=.none\/∃T oT ts y,x=.ref T/\B.get? T=none/\T≠e/\h.get? T=some oT/\oT.data=.fields ts/\ts[3]?=some y
structure Fly(B:yR)(l:List Env)(e:yb)(cls:Value)(dx:Option yb)(h:yR):Prop where
 st:B.StaysIn h
 new:B.get? e=none
 ff:h.FunFrames B l
 ob:∃oe vs x,h.get? e=some oe/\oe.cls=cls/\oe.dict=dx/\oe.data=.fields vs/\vs[1]?=some x/\Trc B h e x
section
variable {M:Model}{A:yJ}{E:Value->yd->Prop}{s:yd}{B:yR}{l outer:List Env}{env:Env}{e L:yb}{cls:Value}{dx:Option yb}{Q:Unit->yd->Prop}
def Fly.recW{h:yR}{T:yb}{oT:Yw}{ts:Array Value}(F:Fly B l e cls dx h)(hb:B.get? T=none)(hT:h.get? T=some oT)(hd:oT.data=.fields ts)(g:Array Value->Array Value)
 (hob:∃oe vs x,(h.update T (xg g)).get? e=some oe/\oe.cls=cls/\oe.dict=dx/\oe.data=.fields vs/\vs[1]?=some x/\Trc B (h.update T (xg g)) e x) :
 Fly B l e cls dx (h.update T (xg g))/\h.UpToSlots (h.update T (xg g)):=by
 have other:∀b,b≠T->(h.update T (xg g)).get? b=h.get? b:=λb hb=>Ye _ _ (yM hb)
 have noR:∀b o,h.get? b=some o->(∀vs,o.data≠.fields vs)->b≠T:=λb o q hn z=>by
  rw[z,hT]at q;cases q;exact hn ts hd
 exact⟨⟨λb o q=>(other b λz=>by rw[z,hb]at q;cases q).trans (F.st b o q),F.new,F.ff.of_keeps λb o q hn=>⟨o,(other b (noR b o q hn)).trans q,rfl⟩,hob⟩,λb o q hn=>⟨o.slots,(other b (noR b o q hn)).trans q⟩⟩
def zCf(F:Fly B l e cls dx s.heap)(h:∀h',Fly B l e cls dx h'->s.heap.UpToSlots h'->Q () {s with heap:=h' }):yq M A (setFlight (.ref e) none) Q E s:=by
 obtain⟨oe,vs,x,he,hc,hx,hd,h1,tr⟩:=F.ob;unfold setFlight;refine ya (YA he hd h1 ?_);rcases tr with rfl|⟨T,oT,ts,y,rfl,hb,hne,hT,hdT,h3⟩
 ·rw[if_neg (by decide)];exact yp (h _ F (.refl _))
 ·rw[if_pos (show(yH T != Yk)=true from by simp)];have h3':=(Array.getElem?_eq_some_iff.mp h3).1;refine wpAny_setField hT hdT h3' ?_
  obtain⟨F',u⟩:=F.recW hb hT hdT (·.setIfInBounds 3 ((none:Option yb).elim Yk λf=>rawInt f))
   ⟨oe,vs,_,(Ye _ _ hne).trans he,hc,hx,hd,h1,.inr ⟨T,_,_,.none,rfl,hb,hne,Yi _ hT (xD (YF hdT _)),YF hdT _,by simp[h3']⟩⟩
  exact h _ F' u
def zYn{head:Value}{hadNext:Bool}(hfr:A.frames=some (env::outer))(hf:env.frame=some L)(F:Fly B (env::outer) e cls dx s.heap)(h:∀h',Fly B (env::outer) e cls dx h'->s.heap.UpToSlots h'->Q () {s with heap:=h' }) :
 yq M A (do let a <-frameOf env;let pl <-entryPlaceOf L hadNext;let b <-EntryCells.newEntry head a .none (rawInt L) .none pl;setField (.ref e) 1 b) Q E s:=by
 obtain⟨oe,vs,x,he,hc,hx,hd,h1,tr⟩:=F.ob;have hl:=F.ff
 have hene:e∉(env::outer).filterMap (·.frame):=λhm=>by
  obtain⟨_,o,ho,hnf⟩:=hl.mem hm;rw[he]at ho;cases ho;exact hnf vs hd
 refine ya (wpAny_frameOf_fun hfr hl hf λh₁ hs=>?_);refine ya (wpAny_entryPlaceOf λpl hpl=>?_);unfold EntryCells.newEntry newFields;refine ya (xb ?_ (hpl.sizeOk5 _ _ _ _ _));generalize hts:([head,yH L,Yk,rawInt L,Yk]++(if pl.isEmpty=true then yD 6 Yk else pl))=ts;have hts3:ts.toArray[3]?=some (rawInt L):=by rw[<-hts];simp
 have he₁:h₁.get? e=some oe:=(hs.2.1 e hene).trans he;have hn:h₁.objs.size≠e:=Ym (ym he₁);have kb:B.StaysIn h₁:=λb o q=>(hs.2.1 b λhm=>by rw[(hl.mem hm).1]at q;cases q).trans (F.st b o q);have he₂:=ye (h:=h₁) {cls:=.type "traceback",dict:=none,data:=.fields ts.toArray } he₁;refine wpAny_setField he₂ hd (Array.getElem?_eq_some_iff.mp h1).1 (h _ ?_ ?_)
 all_goals
  have keep:∀b o,b≠e->h₁.get? b=some o->((h₁.push {cls:=.type "traceback",dict:=none,data:=.fields ts.toArray }).update e (xg (·.setIfInBounds 1 (yH h₁.objs.size)))).get? b=some o:=λb o hbe hb=>by
   rw[Ye _ _ (yM hbe)];exact ye _ hb
  have noR:∀b o,s.heap.get? b=some o->(∀vs,o.data≠.fields vs)->b≠e:=λb o q hn z=>by
   rw[z,he]at q;cases q;exact hn vs hd
 ·refine⟨λb o q=>keep b o (λz=>by rw[z,F.new]at q;cases q) (kb b o q),F.new,hl.of_keeps λb o q hn=>?_,?_⟩
  ·obtain⟨sl,z⟩:=hs.2.2 b o q;exact⟨_,keep b _ (noR b o q hn) z,rfl⟩
  ·have hd₃:=YF hd (·.setIfInBounds 1 (yH h₁.objs.size));refine⟨_,_,_,Yi _ he₂ (xD hd₃),(Obj.cls_mapFields _ _).trans hc,(zLi _ _).trans hx,hd₃,by simp[(Array.getElem?_eq_some_iff.mp h1).1],.inr ⟨h₁.objs.size,{cls:=.type "traceback",dict:=none,data:=.fields ts.toArray },ts.toArray,rawInt L,rfl,kb.fresh,hn,?_,rfl,hts3⟩⟩;exact(Ye _ _ (yM hn)).trans (yx h₁ rfl)
 ·intro b o q hn;obtain⟨sl,z⟩:=hs.2.2 b o q;exact⟨sl,keep b _ (noR b o q hn) z⟩
def zAh(hfr:A.frames=some (env::outer))(hf:env.frame=some L)(F:Fly B (env::outer) e cls dx s.heap)(h:∀h',Fly B (env::outer) e cls dx h'->s.heap.UpToSlots h'->Q () {s with heap:=h' }) :
 yq M A (noteFrame (.ref e) env) Q E s:=by
 obtain⟨oe,vs,x,he,hc,hx,hd,h1,tr⟩:=F.ob;unfold noteFrame;simp only[hf];refine ya (YA he hd h1 ?_);rcases tr with rfl|⟨T,oT,ts,y,rfl,hb,hne,hT,hdT,h3⟩
 ·rw[if_neg (by decide)];exact zYn hfr hf F h
 ·rw[if_pos (show(yH T != Yk)=true from by simp)];refine ya (YA hT hdT h3 ?_)
  by_cases hy:(y==rawInt L)=true
  ·rw[if_pos hy];exact yp (h _ F (.refl _))
  ·rw[if_neg hy];have h3':=(Array.getElem?_eq_some_iff.mp h3).1;refine ya (wpAny_setField hT hdT h3' ?_)
   obtain⟨F',u⟩:=F.recW hb hT hdT (·.setIfInBounds 3 Yk)
    ⟨oe,vs,_,(Ye _ _ hne).trans he,hc,hx,hd,h1,.inr ⟨T,_,_,.none,rfl,hb,hne,Yi _ hT (xD (YF hdT _)),YF hdT _,by simp[h3']⟩⟩
   exact zYn hfr hf F' λh' F'' u'=>h h' F'' (u.trans u')
def zvo(hfr:A.frames=some (env::outer))(hf:env.frame=some L)(F:Fly B (env::outer) e cls dx s.heap)(h:∀h',Fly B outer e cls dx h'->s.heap.UpToSlots h'->Q () {s with heap:=h' }) :
 yq M A (leaving env (.ref e)) Q E s:=by
 unfold leaving;refine ya (zAh hfr hf F λh1 F1 u1=>?_);refine zCf (s:={s with heap:=h1 }) F1 λh2 F2 u2=>?_;exact h h2 ⟨F2.st,F2.new,F2.ff.2.2,F2.ob⟩ (u1.trans u2)
end
def tF.there{P:yu}{w:yI}{H:Hp}{h:yR}{a:yb}{o:HO}(x:tF P w H h a o):∃u,h.get? a=some u:=by
 cases o with
 |lst xs=>obtain⟨_,_,_,_,e⟩:=x;exact⟨_,e⟩
 |tup xs=>obtain⟨_,_,_,o,e,_⟩:=x;exact⟨_,e⟩
 |dK kvs=>obtain⟨_,_,_,_,o,_,_,e,_⟩:=x;exact⟨_,e⟩
 |dT kvs=>obtain⟨_,_,_,_,o,_,_,e,_⟩:=x;exact⟨_,e⟩
 |set S n=>obtain⟨o,_,_,_,e,_⟩:=x;exact⟨_,e⟩
 |ins C dx fs=>obtain⟨_,_,_,e,_⟩:=x;exact⟨_,e⟩
 |own y=>obtain⟨_,e⟩:=x;exact⟨_,e⟩
 |xd fs=>obtain⟨_,⟨_,_,_,e,_⟩,_⟩:=x;exact⟨_,e⟩
 |rng lo hi=>obtain⟨_,_,_,e⟩:=x;exact⟨_,e⟩
 |frz ob u=>obtain⟨e,_⟩:=x;exact⟨_,e⟩
 |tbl ps=>exact⟨_,(show h.get? a=some _ from x)⟩
 |met f y=>exact⟨_,(show h.get? a=some _ from x)⟩
 |ext φ=>obtain⟨_,⟨_,e⟩,_⟩:=x;exact⟨_,e⟩
structure Cov(outer:List Env)(H':Hp)(h B:yR):Prop where
 tr:∀b o,H' b=some o->∃u,B.get? b=some u
 old:∀b o,h.get? b=some o->b∉frs outer->∃u,B.get? b=some u
structure sA(P:yu)(w:yI)(outer:List Env)(H:Hp)(s:yd)(C:Value)(dx:Option yb)(H':Hp)(e:Value)(s':yd):Prop where
 os:s'.os=s.os
 bare:AllBare s'.gens
 un:Un (frs outer) [] H H' s.heap s'.heap
 hok:HOk P w H' s'.heap
 fly:∃a B,e=.ref a/\Fly B outer a C dx s'.heap/\Cov outer H' s.heap B
def CXq(P:yu)(w:yI):CXT:=λouter H s E e s'=>∃C dx H',sA P w outer H s C dx H' e s'/\E C dx H'
section
variable {P:yu}{w:yI}{outer:List Env}{H H':Hp}{h0 h h' B base:yR}
def zyo(u:Un (frs outer) [] H H' h0 h)(c:Cov outer H' h0 B)(st:B.StaysIn h)(st':B.StaysIn h')(sm:h.UpToSlots h')(ff:h0.FunFrames base outer)(frf:∀b∈frs outer,H b=none):Un (frs outer) [] H H' h0 h' where
 keep:=λb o q n hb hx=>by
  obtain⟨v,hv⟩:=c.old b o q hb;have e1:=u.keep b o q n hb hx;have e2:=st b v hv;rw[e1]at e2;cases e2;exact st' b o hv
 slot:=λb o q n hb hx=>by
  obtain⟨sl,e1⟩:=u.slot b o q n hb hx;obtain⟨_,o',ho',hd⟩:=ff.mem hb;rw[q]at ho';cases ho';obtain⟨sl',e2⟩:=sm b _ e1 hd;exact⟨sl',e2⟩
 free:=u.free
 there:=λb o q hx=>by
  by_cases hb:b∈frs outer
  ·obtain⟨sl,e1⟩:=u.slot b o q (frf b hb) hb hx;obtain⟨_,o',ho',hd⟩:=ff.mem hb;rw[q]at ho';cases ho';obtain⟨sl',e2⟩:=sm b _ e1 hd;exact⟨_,e2⟩
  ·obtain⟨v,hv⟩:=c.old b o q hb;exact⟨v,st' b v hv⟩
 tups:=u.tups
 Tq:=u.Tq
 Tw:=u.Tw
def zFm(x:HOk P w H' h)(c:Cov outer H' h0 B)(st:B.StaysIn h)(st':B.StaysIn h'):HOk P w H' h':=λa o e=>by
 refine(x a o e).stay (λb u hb q=>?_) (λ_ q=>q) λ_ _ q=>q
 have hb:∃o',H' b=some o':=by
  rcases hb with rfl|hb
  ·exact⟨_,e⟩
  ·exact⟨_,hb⟩
 obtain⟨o',hb⟩:=hb;obtain⟨v,hv⟩:=c.tr b o' hb;have e2:=st b v hv;rw[q]at e2;cases e2;exact st' b u hv
end
section
variable {X:Cx}{pins:List (yb×Yw)}{σ:St}{H H':Hp}{s s':yd}{C:Value}{a:yb}{dx:Option yb}
def Inv.fly{B h':yR}(I:Inv X pins σ H s)(F:sA X.prog X.w X.stack H s C dx H' (.ref a) s')(c:Cov X.stack H' s.heap B)(st:B.StaysIn s'.heap)(st':B.StaysIn h')(sm:s'.heap.UpToSlots h'){t':Nat}{d':Drawn} :
 Inv X pins σ H' {s' with heap:=h',toks:=t',drawn:=d' } :=
 I.call' F.os (zyo F.un c st st' sm I.stack I.TF) (zFm F.hok c st st') F.bare λb z=>absurd z (by simp)
def Inv.madeX{h':yR}{vs:List Value}(I:Inv X pins σ H s)(hm:Heap.MadeExcOf s.heap h' a C vs):sA X.prog X.w X.stack H s C none H (.ref a) {s with heap:=h' }:=by
 have hin:∀env∈X.stack,∀b,env.frame=some b->b∈frs X.stack:=λenv he b hb=>List.mem_filterMap.mpr ⟨env,he,hb⟩;obtain⟨t,he,_,_⟩:=hm.there
 have hn:(W.hideAll s.heap (frs X.stack)).get? a=none:=by
  cases q:(W.hideAll s.heap (frs X.stack)).get? a with
  |none=>rfl
  |some o=>have:=W.of_hideAll _ q;rw[hm.new]at this;cases this
 refine⟨rfl,I.bare,Un.kept hm.keeps,I.hok.kept hm.keeps,a,W.hideAll s.heap (frs X.stack),rfl,⟨λb o q=>hm.keeps b o (W.of_hideAll _ q),hn,?_,⟨_,_,_,he,rfl,rfl,rfl,rfl,.inl rfl⟩⟩,?_⟩
 ·exact(W.funFrames_hide I.stack hin).of_keeps λb o hb _=>⟨o,hm.keeps b o hb,rfl⟩
 ·exact⟨λb o q=>by
   obtain⟨u,hu⟩:=(I.hok b o q).there;exact⟨u,W.hideAll_get _ hu λhm=>by rw[I.TF b hm]at q;cases q⟩,λb o q hb=>⟨o,W.hideAll_get _ q hb⟩⟩
end
def zDj(X:Cx)(C:Value)(dx:Option yb)(H':Hp):Prop:=∀pins σ H s e s',Inv X pins σ H s->sA X.prog X.w X.stack H s C dx H' e s'->X.xe e s'
section
variable {P:yu}{w:yI}{K:yt}{mg:yr->Option Value}{base:yR}{N:List yr}{qual:yr}{scope:xG}{f:yb}{cd:Value}{A:yJ}{outer:List Env}{s:yd}{H H':Hp}{E:XK}{C:Value}{dx:Option yb}
def z0s{X:Cx}{pins:List (yb×Yw)}{σ:St}{H1:Hp}{s1:yd}{B:yR}(I:Inv X pins σ H1 s1)(hs:X.stack=X.env::X.outer)(hf:X.env.frame=some X.env.locals)(hex:X.ex=[])(c:Cov X.stack H' s1.heap B):Cov X.outer H' X.s₀.heap B where
 tr:=c.tr
 old:=λb o q hb=>by
  obtain⟨o1,e1⟩:=I.base.there b o q (by rw[hex];simp);refine c.old b o1 e1 ?_;rw[hs];unfold frs;rw[filterMap_cons,hf];intro hm;rcases List.mem_cons.mp hm with rfl|hm
  ·exact absurd (yv (ym q) I.ok.above) (yQ _)
  ·exact hb hm
def zyn(hE:E C dx H'):zDj (z6o (CXq P w) P w K mg base N qual scope f cd A outer s H E) C dx H':=by
 intro pins σ H1 s1 e s' I F;have hf:(envOfC qual scope s.heap.objs.size f cd).frame=some (envOfC qual scope s.heap.objs.size f cd).locals:=rfl;obtain⟨a,B,rfl,fl,c⟩:=F.fly;refine zvo I.ok.frames hf fl λh'' fl' sm=>?_;have J:Inv (z6o (CXq P w) P w K mg base N qual scope f cd A outer s H E) pins σ H' {s' with heap:=h'' }:=I.fly F c fl.st fl'.st sm;exact⟨C,dx,H',⟨J.os,J.bare,J.base,J.hok,a,B,rfl,fl',z0s (X:=z6o (CXq P w) P w K mg base N qual scope f cd A outer s H E) I rfl rfl rfl c⟩,hE⟩
end
end L2
namespace M
open PySem PySem.Spec PyProof.Rows L2
inductive D where
 |non|bl (b:Bool)|int (i:Int)|str (x:yr)|ty (n:String)
  |tup (ds:List D)
  |fz (ds:List D)
  |loc (n:Nat)
  |own (c:yr)
inductive tw where
 |lst (ds:List D)
  |dct (kvs:List (Int×D))
  |dcf (kvs:List (Int×D))
  |exc (c:yr) (fs:List (yr×D))
  |ins (c:yr) (fs:List (yr×D))
abbrev Mem:=List tw
def z7u(a C:yb)(dx:Option yb):yR->Prop:=λh=>∃o vs,h.get? a=some o/\o.cls=.ref C/\o.dict=dx/\o.data=.fields vs
abbrev Loc:=List (Option D)
section
variable (K:yt)
def FzL(H:Hp)(a:yb)(vs:List V):Prop :=
 (∃o,H a=some (.frz o (.lst vs)))\/∃(o:Yw)(its:Array Value)(n:Nat),K.lookup a=some o/\o.cls=.type "list"/\o.dict=none/\o.data=.seq its n/\its.size<=yC/\Vals vs its.toList
mutual
def tm(ρ:List yb)(H:Hp):D->V->Prop
 |.non,v=>v=.non
 |.bl b,v=>v=.bl b
 |.int i,v=>v=.int i
 |.str x,v=>v=.str x
 |.ty n,v=>v=.ty n
 |.tup ds,v=>∃a vs,v=.ref a/\H a=some (.tup vs)/\tf ρ H ds vs
 |.fz ds,v=>∃a vs,v=.ref a/\FzL K H a vs/\tf ρ H ds vs
 |.loc n,v=>∃a,v=.ref a/\ρ[n]?=some a
 |.own c,v=>∃a,v=.ref a/\yW K yi c=some (some (.ref a))
def tf(ρ:List yb)(H:Hp):List D->List V->Prop
 |[],vs=>vs=[]
 |d::ds,vs=>∃v r,vs=v::r/\tm ρ H d v/\tf ρ H ds r
end
def sJ(ρ:List yb)(H:Hp)(fs:List (yr×D))(dx:Option yb):Prop:=(fs=[]/\dx=none)\/∃p vs,dx=some p/\H p=some (.xd vs)/\vs.map (·.1)=fs.map (·.1)/\tf K ρ H (fs.map (·.2)) (vs.map (·.2))
def su(ρ:List yb)(H:Hp)(a:yb):tw->Prop
 |.lst ds=>∃vs,H a=some (.lst vs)/\tf K ρ H ds vs
 |.dct kvs=>∃vs,H a=some (.dK vs)/\vs.map (·.1)=kvs.map (λp=>yF p.1)/\tf K ρ H (kvs.map (·.2)) (vs.map (·.2))
 |.dcf kvs=>∃o vs,H a=some (.frz o (.dK vs))/\vs.map (·.1)=kvs.map (λp=>yF p.1)/\tf K ρ H (kvs.map (·.2)) (vs.map (·.2))
 |.exc c fs=>∃C dx,yW K yi c=some (some (.ref C))/\H a=some (.ext (z7u a C dx))/\sJ K ρ H fs dx
 |.ins c fs=>∃C dx vs,yW K yi c=some (some (.ref C))/\H a=some (.ins C dx vs)/\vs.map (·.1)=fs.map (·.1)/\tf K ρ H (fs.map (·.2)) (vs.map (·.2))
structure tG(ρ:List yb)(H:Hp)(μ:Mem):Prop where
 nd:ρ.Nodup
 len:ρ.length=μ.length
 at_:∀(n:Nat) a o,ρ[n]?=some a->μ[n]?=some o->su K ρ H a o
structure Ext(ρ:List yb)(H:Hp)(ρ':List yb)(H':Hp):Prop where
 pre:∃more,ρ'=ρ++more
 tup:∀a vs,H a=some (.tup vs)->H' a=some (.tup vs)
 frz:∀a o u,H a=some (.frz o u)->H' a=some (.frz o u)
 xd:∀a fs,H a=some (.xd fs)->H' a=some (.xd fs)
def sX(ρ:List yb)(H:Hp)(σ:L2.St)(δ:Loc):Prop:=∀(i:Nat) d,δ[i]?=some (some d)->∃v,σ[i]?=some (some v)/\tm K ρ H d v
end
section
variable {K:yt}{ρ ρ' ρ'':List yb}{H H' H'':Hp}{μ:Mem}{σ:L2.St}{δ:Loc}
def Ext.refl:Ext ρ H ρ H:=⟨⟨[],by simp⟩,λ_ _ h=>h,λ_ _ _ h=>h,λ_ _ h=>h⟩
def Ext.trans(a:Ext ρ H ρ' H')(b:Ext ρ' H' ρ'' H''):Ext ρ H ρ'' H'':=by
 obtain⟨m,e⟩:=a.pre;obtain⟨m',e'⟩:=b.pre;exact⟨⟨m++m',by rw[e',e,append_assoc]⟩,λ_ _ h=>b.tup _ _ (a.tup _ _ h),λ_ _ _ h=>b.frz _ _ _ (a.frz _ _ _ h),λ_ _ h=>b.xd _ _ (a.xd _ _ h)⟩
def Ext.get(e:Ext ρ H ρ' H'){n:Nat}{a:yb}(h:ρ[n]?=some a):ρ'[n]?=some a:=by
 obtain⟨m,e⟩:=e.pre;rw[e,yk (List.getElem?_eq_some_iff.mp h).1];exact h
def Ext.fz(e:Ext ρ H ρ' H'){a:yb}{vs:List V}(h:FzL K H a vs):FzL K H' a vs:=by
 rcases h with ⟨o,h⟩|h
 ·exact .inl ⟨o,e.frz _ _ _ h⟩
 ·exact .inr h
mutual
def tm.ext(e:Ext ρ H ρ' H'):∀{d:D} {v:V},tm K ρ H d v->tm K ρ' H' d v
 |.non,_,h=>by unfold tm at h ⊢;exact h
 |.bl _,_,h=>by unfold tm at h ⊢;exact h
 |.int _,_,h=>by unfold tm at h ⊢;exact h
 |.str _,_,h=>by unfold tm at h ⊢;exact h
 |.ty _,_,h=>by unfold tm at h ⊢;exact h
 |.tup ds,_,h=>by
  unfold tm at h ⊢;obtain⟨a,vs,e1,e2,r⟩:=h;exact⟨a,vs,e1,e.tup _ _ e2,tf.ext e r⟩
 |.fz ds,_,h=>by
  unfold tm at h ⊢;obtain⟨a,vs,e1,e2,r⟩:=h;exact⟨a,vs,e1,e.fz e2,tf.ext e r⟩
 |.loc n,_,h=>by
  unfold tm at h ⊢;obtain⟨a,e1,e2⟩:=h;exact⟨a,e1,e.get e2⟩
 |.own c,_,h=>by unfold tm at h ⊢;exact h
def tf.ext(e:Ext ρ H ρ' H'):∀{ds:List D} {vs:List V},tf K ρ H ds vs->tf K ρ' H' ds vs
 |[],_,h=>by unfold tf at h ⊢;exact h
 |d::ds,_,h=>by
  unfold tf at h ⊢;obtain⟨v,r,e1,h1,h2⟩:=h;exact⟨v,r,e1,tm.ext e h1,tf.ext e h2⟩
end
def sX.ext(e:Ext ρ H ρ' H')(h:sX K ρ H σ δ):sX K ρ' H' σ δ:=λi d q=>
 let ⟨v,e1,r⟩:=h i d q
 ⟨v,e1,r.ext e⟩
def tf.length:∀{ds:List D} {vs:List V},tf K ρ H ds vs->ds.length=vs.length
 |[],_,h=>by unfold tf at h;subst h;rfl
 |d::ds,_,h=>by
  unfold tf at h;obtain⟨v,r,e1,_,h2⟩:=h;subst e1;have:=tf.length h2;simp[this]
def tf.get:∀{ds:List D} {vs:List V} {i:Nat} {d:D},tf K ρ H ds vs->ds[i]?=some d->∃v,vs[i]?=some v/\tm K ρ H d v
 |[],_,_,_,_,q=>by simp at q
 |d::ds,_,0,d',h,q=>by
  unfold tf at h;obtain⟨v,r,e1,h1,_⟩:=h;subst e1;simp at q;subst q;exact⟨v,by simp,h1⟩
 |d::ds,_,i+1,d',h,q=>by
  unfold tf at h;obtain⟨v,r,e1,_,h2⟩:=h;subst e1;obtain⟨w,e2,h3⟩:=tf.get (i:=i) h2 (by simpa using q);exact⟨w,by simpa using e2,h3⟩
def tf.cons{d:D}{v:V}{ds:List D}{vs:List V}(h1:tm K ρ H d v)(h2:tf K ρ H ds vs):tf K ρ H (d::ds) (v::vs):=by
 unfold tf;exact⟨v,vs,rfl,h1,h2⟩
def tf.nil:tf K ρ H [] []:=by unfold tf;rfl
def tf.cons_inv{d:D}{ds:List D}{vs:List V}(h:tf K ρ H (d::ds) vs):∃v r,vs=v::r/\tm K ρ H d v/\tf K ρ H ds r:=by
 unfold tf at h;exact h
def tf.nil_inv{vs:List V}(h:tf K ρ H [] vs):vs=[]:=by unfold tf at h;exact h
def tf.append:∀{ds es:List D} {vs us:List V},tf K ρ H ds vs->tf K ρ H es us->tf K ρ H (ds++es) (vs++us)
 |[],_,_,_,h,q=>by rw[h.nil_inv];exact q
 |d::ds,_,_,_,h,q=>by
  obtain⟨v,r,rfl,h1,h2⟩:=h.cons_inv;exact .cons h1 (tf.append h2 q)
def tf.take:∀{ds:List D} {vs:List V} (n:Nat),tf K ρ H ds vs->tf K ρ H (ds.take n) (vs.take n)
 |[],_,n,h=>by rw[h.nil_inv];simp[tf.nil]
 |d::ds,_,0,h=>by simp[tf.nil]
 |d::ds,_,n+1,h=>by
  obtain⟨v,r,rfl,h1,h2⟩:=h.cons_inv;simpa using tf.cons h1 (tf.take n h2)
def tf.set:∀{ds:List D} {vs:List V} {d:D} {v:V} (n:Nat),tm K ρ H d v->tf K ρ H ds vs->tf K ρ H (ds.set n d) (vs.set n v)
 |[],_,_,_,n,_,h=>by rw[h.nil_inv];simp[tf.nil]
 |d::ds,_,_,_,0,q,h=>by
  obtain⟨v,r,rfl,h1,h2⟩:=h.cons_inv;simpa using tf.cons q h2
 |d::ds,_,_,_,n+1,q,h=>by
  obtain⟨v,r,rfl,h1,h2⟩:=h.cons_inv;simpa using tf.cons h1 (tf.set n q h2)
def tm.int_inv{i:Int}{v:V}(h:tm K ρ H (.int i) v):v=.int i:=by unfold tm at h;exact h
def tm.tO{i:Bool}{v:V}(h:tm K ρ H (.bl i) v):v=.bl i:=by unfold tm at h;exact h
def tm.tH{v:V}(h:tm K ρ H .non v):v=.non:=by unfold tm at h;exact h
def tm.str_inv{x:yr}{v:V}(h:tm K ρ H (.str x) v):v=.str x:=by unfold tm at h;exact h
def tm.ty_inv{x:String}{v:V}(h:tm K ρ H (.ty x) v):v=.ty x:=by unfold tm at h;exact h
def tm.tU{ds:List D}{v:V}(h:tm K ρ H (.tup ds) v):∃a vs,v=.ref a/\H a=some (.tup vs)/\tf K ρ H ds vs:=by unfold tm at h;exact h
def tm.sk{ds:List D}{v:V}(h:tm K ρ H (.fz ds) v):∃a vs,v=.ref a/\FzL K H a vs/\tf K ρ H ds vs:=by unfold tm at h;exact h
def tm.tz{n:Nat}{v:V}(h:tm K ρ H (.loc n) v):∃a,v=.ref a/\ρ[n]?=some a:=by unfold tm at h;exact h
def tm.int{i:Int}:tm K ρ H (.int i) (.int i):=by unfold tm;rfl
def tm.bl{i:Bool}:tm K ρ H (.bl i) (.bl i):=by unfold tm;rfl
def tm.non:tm K ρ H .non .non:=by unfold tm;rfl
def tm.str{x:yr}:tm K ρ H (.str x) (.str x):=by unfold tm;rfl
def tm.ty{x:String}:tm K ρ H (.ty x) (.ty x):=by unfold tm;rfl
def tm.tup{ds:List D}{a:yb}{vs:List V}(e:H a=some (.tup vs))(h:tf K ρ H ds vs):tm K ρ H (.tup ds) (.ref a):=by unfold tm;exact⟨a,vs,rfl,e,h⟩
def tm.fz{ds:List D}{a:yb}{vs:List V}(e:FzL K H a vs)(h:tf K ρ H ds vs):tm K ρ H (.fz ds) (.ref a):=by unfold tm;exact⟨a,vs,rfl,e,h⟩
def tm.loc{n:Nat}{a:yb}(e:ρ[n]?=some a):tm K ρ H (.loc n) (.ref a):=by unfold tm;exact⟨a,rfl,e⟩
def FzL.sq{a:yb}{vs:List V}(h:FzL K H a vs):SqL K H a vs:=by
 rcases h with h|h
 ·exact .inl (.inr h)
 ·exact .inr h
def su.some{a:yb}{o:tw}(h:su K ρ H a o):∃u,H a=some u:=by
 cases o with
 |lst ds=>obtain⟨vs,e,_⟩:=h;exact⟨_,e⟩
 |dct kvs=>obtain⟨vs,e,_⟩:=h;exact⟨_,e⟩
 |dcf kvs=>obtain⟨o,vs,e,_⟩:=h;exact⟨_,e⟩
 |exc c fs=>obtain⟨C,dx,_,e,_⟩:=h;exact⟨_,e⟩
 |ins c fs=>obtain⟨C,dx,vs,_,e,_⟩:=h;exact⟨_,e⟩
def tG.mem_some(R:tG K ρ H μ){a:yb}(h:a∈ρ):∃u,H a=some u:=by
 obtain⟨n,h1,e⟩:=List.mem_iff_getElem.mp h;have h2:n<μ.length:=by rw[<-R.len];exact h1
 exact(R.at_ n a μ[n] (by rw[yG h1,e]) (by simp[h2])).some
def sJ.ext{fs:List (yr×D)}{dx:Option yb}(e:Ext ρ H ρ' H')(h:sJ K ρ H fs dx):sJ K ρ' H' fs dx:=by
 rcases h with h|⟨p,vs,e1,e2,e3,r⟩
 ·exact .inl h
 ·exact .inr ⟨p,vs,e1,e.xd _ _ e2,e3,r.ext e⟩
def su.ext{a:yb}{o:tw}(e:Ext ρ H ρ' H')(h:su K ρ H a o)(s:H' a=H a):su K ρ' H' a o:=by
 cases o with
 |lst ds=>obtain⟨vs,q,r⟩:=h;exact⟨vs,s.trans q,r.ext e⟩
 |dct kvs=>obtain⟨vs,q,q2,r⟩:=h;exact⟨vs,s.trans q,q2,r.ext e⟩
 |dcf kvs=>obtain⟨o,vs,q,q2,r⟩:=h;exact⟨o,vs,s.trans q,q2,r.ext e⟩
 |exc c fs=>obtain⟨C,dx,n,q,r⟩:=h;exact⟨C,dx,n,s.trans q,r.ext e⟩
 |ins c fs=>obtain⟨C,dx,vs,n,q,q2,r⟩:=h;exact⟨C,dx,vs,n,s.trans q,q2,r.ext e⟩
def Ext.new{p:yb}{o:HO}(hp:H p=none):Ext ρ H ρ (upd H p o) :=
 ⟨⟨[],by simp⟩,λa vs e=>by rw[zr (zE e hp)];exact e,λa o u e=>by rw[zr (zE e hp)];exact e,λa fs e=>by rw[zr (zE e hp)];exact e⟩
def tG.other(R:tG K ρ H μ)(e:Ext ρ H ρ H')(s:∀a∈ρ,H' a=H a):tG K ρ H' μ :=
 ⟨R.nd,R.len,λn a o h1 h2=>(R.at_ n a o h1 h2).ext e (s a (mem_of_getElem? h1))⟩
def tG.Tr(R:tG K ρ H μ){p:yb}{o:HO}(hp:H p=none):tG K ρ (upd H p o) μ :=
 R.other (Ext.new hp) λa ha=>by
  obtain⟨u,e⟩:=R.mem_some ha;exact zr (zE e hp)
def Ext.push{p:yb}{o:HO}(hp:H p=none):Ext ρ H (ρ++[p]) (upd H p o) :=
 ⟨⟨[p],rfl⟩,(Ext.new (ρ:=ρ) hp).tup,(Ext.new (ρ:=ρ) hp).frz,(Ext.new (ρ:=ρ) hp).xd⟩
def tG.push(R:tG K ρ H μ){p:yb}{o:HO}{lo:tw}(hp:H p=none)(h:su K (ρ++[p]) (upd H p o) p lo):tG K (ρ++[p]) (upd H p o) (μ++[lo]):=by
 refine⟨?_,by simp[R.len],λn a u h1 h2=>?_⟩
 ·rw[nodup_append];refine⟨R.nd,by simp,λa ha b hb=>?_⟩;simp at hb;subst hb;obtain⟨u,e⟩:=R.mem_some ha;exact zE e hp
 ·by_cases hn:n<ρ.length
  ·rw[yk hn]at h1;rw[yk (by rw[<-R.len];exact hn)]at h2;have q:=R.at_ n a u h1 h2;obtain⟨z,e⟩:=q.some;exact q.ext (Ext.push hp) (zr (zE e hp))
  ·have hl:n<(ρ++[p]).length:=(List.getElem?_eq_some_iff.mp h1).1;have e:n=ρ.length:=by simp at hl;omega
   subst e;rw[yE (yh _)]at h1;rw[R.len,yE (yh _)]at h2;simp at h1 h2;subst h1 h2;exact h
def zzb{p:yb}(R:tG K ρ H μ):(ρ++[p])[μ.length]?=some p:=by
 rw[<-R.len];simp
def Ext.wr{p:yb}{o:HO}(hm:Mut (H p)):Ext ρ H ρ (upd H p o) :=
 ⟨⟨[],by simp⟩,λa vs e=>by rw[zr (by rintro rfl;rw[e]at hm;exact hm)];exact e,λa o u e=>by rw[zr (by rintro rfl;rw[e]at hm;exact hm)];exact e,λa fs e=>by rw[zr (by rintro rfl;rw[e]at hm;exact hm)];exact e⟩
def tG.wr(R:tG K ρ H μ){n:Nat}{p:yb}{o:HO}{lo:tw}(hm:Mut (H p))(hn:ρ[n]?=some p)(h:su K ρ (upd H p o) p lo):tG K ρ (upd H p o) (μ.set n lo):=by
 have hlt:=(List.getElem?_eq_some_iff.mp hn).1;refine⟨R.nd,by simp[R.len],λm a u h1 h2=>?_⟩
 by_cases hmn:m=n
 ·subst hmn;rw[hn]at h1;cases h1;rw[yO (by rw[<-R.len];exact hlt)]at h2;cases h2;exact h
 ·rw[yP (yM hmn)]at h2
  have hap:a≠p:=by
   rintro rfl;obtain⟨x1,y1⟩:=List.getElem?_eq_some_iff.mp h1;obtain⟨x2,y2⟩:=List.getElem?_eq_some_iff.mp hn;exact hmn ((List.getElem_inj R.nd).mp (y1.trans y2.symm))
  exact(R.at_ m a u h1 h2).ext (Ext.wr hm) (zr hap)
end
abbrev FE:=Loc->Mem->Option (D×Mem)
abbrev FT:=Loc->Mem->Option (Bool×Mem)
abbrev FA:=Loc->Mem->Option (List D×Mem)
inductive Out where
 |next (δ:Loc) (μ:Mem)|ret (d:D) (μ:Mem)|brk (δ:Loc) (μ:Mem)|cont (δ:Loc) (μ:Mem)
  |exc (c:yr) (fs:List (yr×D)) (μ:Mem)
abbrev FS:=Loc->Mem->Option Out
section
variable (K:yt)
structure At(ρ:List yb)(H:Hp)(σ:L2.St)(δ:Loc)(μ:Mem):Prop where
 st:sX K ρ H σ δ
 hp:tG K ρ H μ
 len:σ.length=δ.length
def tM(φ:FE):TE:=λσ H Q=>∃ρ δ μ d μ',At K ρ H σ δ μ/\φ δ μ=some (d,μ')/\∀ρ' H' v,Ext ρ H ρ' H'->tG K ρ' H' μ'->tm K ρ' H' d v->Q v H'
def tMT(φ:FT):TT:=λσ H Q=>∃ρ δ μ b μ',At K ρ H σ δ μ/\φ δ μ=some (b,μ')/\∀ρ' H',Ext ρ H ρ' H'->tG K ρ' H' μ'->Q b H'
def tMA(φ:FA):TA:=λσ H Q=>∃ρ δ μ ds μ',At K ρ H σ δ μ/\φ δ μ=some (ds,μ')/\∀ρ' H' vs,Ext ρ H ρ' H'->tG K ρ' H' μ'->tf K ρ' H' ds vs->Q vs H'
def so(W:XK)(ρ:List yb)(H:Hp)(E:Ends):Out->Prop
 |.next δ' μ'=>∀ρ' σ' H',Ext ρ H ρ' H'->At K ρ' H' σ' δ' μ'->E.nx σ' H'
 |.brk δ' μ'=>∀ρ' σ' H',Ext ρ H ρ' H'->At K ρ' H' σ' δ' μ'->E.bk σ' H'
 |.cont δ' μ'=>∀ρ' σ' H',Ext ρ H ρ' H'->At K ρ' H' σ' δ' μ'->E.ct σ' H'
 |.ret d μ'=>∀ρ' v H',Ext ρ H ρ' H'->tG K ρ' H' μ'->tm K ρ' H' d v->E.rt v H'
 |.exc c fs μ'=>∀ρ' H' C dx,PySem.W.nsIn K yi c=some (some (.ref C))->Ext ρ H ρ' H'->tG K ρ' H' μ'->sJ K ρ' H' fs dx->W (.ref C) dx H'
def tMS(W:XK)(ψ:FS):TS:=λE σ H=>∃ρ δ μ o,At K ρ H σ δ μ/\ψ δ μ=some o/\so K W ρ H E o
end
def ME(X:Cx)(e:yz)(φ:FE):Prop:=PE X e (tM X.K φ)
def MT(X:Cx)(e:yz)(φ:FT):Prop:=PT X e (tMT X.K φ)
def MW(X:Cx)(e:yz)(φ:FT):Prop:=PW X e (tMT X.K φ)
def MA(X:Cx)(es:List yz)(φ:FA):Prop:=PA X es (tMA X.K φ)
def MS(X:Cx)(st:yX)(ψ:FS):Prop:=PS X st (tMS X.K (zDj X) ψ)
def MSs(X:Cx)(st:List yX)(ψ:FS):Prop:=PSs X st (tMS X.K (zDj X) ψ)
abbrev FF:=List D->Mem->Option (D×Mem)
def spM(K:yt)(n:Nat)(F:FF):Sp:=λvs H Q _=>vs.length=n/\∃ρ ds μ d μ',tf K ρ H ds vs/\tG K ρ H μ/\F ds μ=some (d,μ')/\∀ρ' H' v,Ext ρ H ρ' H'->tG K ρ' H' μ'->tm K ρ' H' d v->Q v H'
def At.ext{K:yt}{ρ ρ':List yb}{H H':Hp}{σ:L2.St}{δ:Loc}{μ μ':Mem}(a:At K ρ H σ δ μ)(e:Ext ρ H ρ' H')(R:tG K ρ' H' μ'):At K ρ' H' σ δ μ':=⟨a.st.ext e,R,a.len⟩
def zud{X:Cx}{e:yz}{t:TE}{φ:FE}(h:PE X e t)(w:∀ρ δ μ σ H d μ' Q,At X.K ρ H σ δ μ->φ δ μ=some (d,μ')->(∀ρ' H' v,Ext ρ H ρ' H'->tG X.K ρ' H' μ'->tm X.K ρ' H' d v->Q v H')->t σ H Q):ME X e φ :=
 by intro pins s σ H Q I hh;obtain⟨ρ,δ,μ,d,μ',a,e,k⟩:=hh;exact h pins s σ H Q I (w ρ δ μ σ H d μ' Q a e k)
def zes{X:Cx}{e:yz}{t:TT}{φ:FT}(h:PT X e t)(w:∀ρ δ μ σ H b μ' Q,At X.K ρ H σ δ μ->φ δ μ=some (b,μ')->(∀ρ' H',Ext ρ H ρ' H'->tG X.K ρ' H' μ'->Q b H')->t σ H Q):MT X e φ :=
 by intro pins s σ H Q I hh;obtain⟨ρ,δ,μ,d,μ',a,e,k⟩:=hh;exact h pins s σ H Q I (w ρ δ μ σ H d μ' Q a e k)
def zku{X:Cx}{e:yz}{t:TT}{φ:FT}(h:PW X e t)(w:∀ρ δ μ σ H b μ' Q,At X.K ρ H σ δ μ->φ δ μ=some (b,μ')->(∀ρ' H',Ext ρ H ρ' H'->tG X.K ρ' H' μ'->Q b H')->t σ H Q):MW X e φ :=
 λwh pins s σ H Q I ⟨ρ,δ,μ,d,μ',a,e,k⟩=>h wh pins s σ H Q I (w ρ δ μ σ H d μ' Q a e k)
def zCt{X:Cx}{e:List yz}{t:TA}{φ:FA}(h:PA X e t)(w:∀ρ δ μ σ H ds μ' Q,At X.K ρ H σ δ μ->φ δ μ=some (ds,μ')->(∀ρ' H' vs,Ext ρ H ρ' H'->tG X.K ρ' H' μ'->tf X.K ρ' H' ds vs->Q vs H')->t σ H Q):MA X e φ :=
 λpos pins s σ H Q I ⟨ρ,δ,μ,d,μ',a,e,k⟩=>h pos pins s σ H Q I (w ρ δ μ σ H d μ' Q a e k)
def zIi{X:Cx}{e:yX}{t:TS}{ψ:FS}(h:PS X e t)(w:∀ρ δ μ σ H o E,At X.K ρ H σ δ μ->ψ δ μ=some o->so X.K (zDj X) ρ H E o->t E σ H):MS X e ψ :=
 by intro pins s σ H E I hh;obtain⟨ρ,δ,μ,o,a,e,k⟩:=hh;exact h pins s σ H E I (w ρ δ μ σ H o E a e k)
def zlr{X:Cx}{e:List yX}{t:TS}{ψ:FS}(h:PSs X e t)(w:∀ρ δ μ σ H o E,At X.K ρ H σ δ μ->ψ δ μ=some o->so X.K (zDj X) ρ H E o->t E σ H):MSs X e ψ :=
 by intro pins s σ H E I hh;obtain⟨ρ,δ,μ,o,a,e,k⟩:=hh;exact h pins s σ H E I (w ρ δ μ σ H o E a e k)
end M
namespace M
open PySem PySem.Spec PyProof.Rows L2
def zf{α β:Type}{o:Option α}{f:α->Option β}{b:β}(h:o.bind f=some b):∃a,o=some a/\f a=some b:=by
 cases o with
 |none=>cases h
 |some a=>exact⟨a,rfl,h⟩
section
variable {X:Cx}{a b c e:yz}{es:List yz}{φ ψ χ:FE}{pos:YR}
@[simp] def zk(i:Nat):FE:=λδ μ=>match δ[i]? with
 |some (some d)=>some (d,μ)
 |_=>none
@[simp] def fC(d:D):FE:=λ_ μ=>some (d,μ)
def zRu{i:Nat}{x:yr}(h:PE X (.Name x pos) (zsv i)):ME X (.Name x pos) (zk i) :=
 zud h λρ δ μ σ H d μ' Q A e k=>by
  unfold zk at e
  split at e
  ·rename_i d' hd
   cases e;obtain⟨v,hv,r⟩:=A.st i _ hd;exact⟨v,hv,k ρ H v Ext.refl A.hp r⟩
  ·cases e
def zrt{v:V}{d:D}(h:PE X e (tC v))(r:∀ρ H,tm X.K ρ H d v):ME X e (fC d) :=
 zud h λρ δ μ σ H d' μ' Q A e k=>by
  cases e;exact k ρ H v Ext.refl A.hp (r ρ H)
def zm{i j}:ME X (.Constant (.int i) j pos) (fC (.int i)):=zrt zOu λ_ _ =>.int
def zzf{i j}:ME X (.Constant (.bool i) j pos) (fC (.bl i)):=zrt ziv λ_ _ =>.bl
def zAm{j}:ME X (.Constant .none j pos) (fC .non):=zrt zEt λ_ _ =>.non
def z0k{x j}:ME X (.Constant (.str x) j pos) (fC (.str x)):=zrt z8t λ_ _ =>.str
def mv(i:Nat){x:yr}(hN:X.N[i]?=some x:=by rfl)(hv:Vis X.env.scope x:=by first|exact Or.inl rfl|exact Or.inr (Or.inl rfl)|exact Or.inr (Or.inr rfl))(hd:(x==("__debug__":yr))=false:=by decide)
 (hcd:(x==("__classdict__":yr))=false:=by decide):ME X (.Name x pos) (zk i):=zRu (zJr hN hv hd hcd)
def zHp{x:yr}{i:Int}(hm:∃t,X.mg x=some (.int i t))(hg:Gl X x:=by rfl)(hd:(x==("__debug__":yr))=false:=by decide):ME X (.Name x pos) (fC (.int i)) :=
 let ⟨t,ht⟩:=hm
 zrt (z3r (v:=V.int i) hg ht ⟨t,rfl⟩ hd) λ_ _ =>.int
def znm{x:yr}{T:String}(hm:X.mg x=none)(hb:yL x=some (.type T))(hg:Gl X x:=by rfl)(hn:x≠"__name__":=by decide)(hd:(x==("__debug__":yr))=false:=by decide):ME X (.Name x pos) (fC (.ty T)) :=
 zrt (zbt (v:=V.ty T) hg hm hb (show L2.RelV (V.ty T) (YD T) from rfl) hn hd) λ_ _ =>.ty
abbrev G2:=D->D->Mem->Option (D×Mem)
def rM(K:yt)(g:G2):R2:=λx y H Q=>∃ρ dx dy μ d μ',tm K ρ H dx x/\tm K ρ H dy y/\tG K ρ H μ/\g dx dy μ=some (d,μ')/\∀ρ' H' v,Ext ρ H ρ' H'->tG K ρ' H' μ'->tm K ρ' H' d v->Q v H'
def OpM(X:Cx)(f:Value->Value->Sem Value)(g:G2):Prop:=OpR X f (rM X.K g)
def OpM.of{X:Cx}{f:Value->Value->Sem Value}{g:G2}(h:∀(pins:List (yb×Yw)) (s:yd) (σ:L2.St) (H:Hp) (x y:V) (v u:Value) (Q:VK),Inv X pins σ H s->RelV x v->RelV y u->∀(ρ:List yb)(dx dy:D)(μ:Mem)(d:D)(μ':Mem),tm X.K ρ H dx x->tm X.K ρ H dy y->tG X.K ρ H μ->g dx dy μ=some (d,μ')->(∀ρ' H' v,Ext ρ H ρ' H'->tG X.K ρ' H' μ'->tm X.K ρ' H' d v->Q v H')->yq (yy X.prog X.w) X.A (f v u) (EP X pins σ Q) X.xe s):OpM X f g:=by
 intro pins s σ H x y v u Q I rx ry hh;obtain⟨ρ,dx,dy,μ,d,μ',r1,r2,R,e,k⟩:=hh;exact h pins s σ H x y v u Q I rx ry ρ dx dy μ d μ' r1 r2 R e k
@[simp] def zJ(g:G2)(φ ψ:FE):FE:=λδ μ=>(φ δ μ).bind λp=>(ψ δ p.2).bind λq=>g p.1 q.1 q.2
def z7o{g:G2}{ρ:List yb}{δ:Loc}{μ:Mem}{σ:L2.St}{H:Hp}{d:D}{μ':Mem}{Q:VK}(A:At X.K ρ H σ δ μ)(e:zJ g φ ψ δ μ=some (d,μ'))
 (k:∀ρ' H' v,Ext ρ H ρ' H'->tG X.K ρ' H' μ'->tm X.K ρ' H' d v->Q v H'):tOp (rM X.K g) (tM X.K φ) (tM X.K ψ) σ H Q:=by
 obtain⟨⟨x,μ1⟩,e1,e⟩:=zf e;obtain⟨⟨y,μ2⟩,e2,e⟩:=zf e;refine⟨ρ,δ,μ,x,μ1,A,e1,λρ1 H1 v x1 R1 r1=>?_⟩;refine⟨ρ1,δ,μ1,y,μ2,A.ext x1 R1,e2,λρ2 H2 u x2 R2 r2=>?_⟩;exact⟨ρ2,x,y,μ2,d,μ',r1.ext x2,r2,R2,e,λρ3 H3 w x3 R3 r3=>k ρ3 H3 w (x1.trans (x2.trans x3)) R3 r3⟩
def zob{op:Operator}{g:G2}(ho:OpM X (YT op) g)(ha:ME X a φ)(hb:ME X b ψ):ME X (.BinOp a op b pos) (zJ g φ ψ) :=
 zud (z2u ho ha hb) λ_ _ _ _ _ _ _ _ A e k=>z7o A e k
def zOh{op:CmpOp}{g:G2}(ho:OpM X (Yn op) g)(ha:ME X a φ)(hb:ME X b ψ)(hm:behindInMarks op b=false:=by first|exact sG _ (by decide) (by decide)|rfl|with_unfolding_all rfl):ME X (.Compare a [op] [b] pos) (zJ g φ ψ) :=
 zud (zks ho ha hb hm) λ_ _ _ _ _ _ _ _ A e k=>z7o A e k
@[simp] def zZ(φ:FE):FT:=λδ μ=>(φ δ μ).bind λp=>match p.1 with
 |.bl b=>some (b,p.2)
 |_=>none
def z6m{δ:Loc}{μ μ':Mem}{b:Bool}(h:zZ φ δ μ=some (b,μ')):φ δ μ=some (.bl b,μ'):=by
 obtain⟨⟨x,μ1⟩,e1,e⟩:=zf h;dsimp only at e
 split at e
 ·cases e;exact e1
 ·cases e
def zlb{op:CmpOp}{g:G2}(ho:OpM X (Yn op) g)(ha:ME X a φ)(hb:ME X b ψ)(hm:behindInMarks op b=false:=by first|exact sG _ (by decide) (by decide)|rfl|with_unfolding_all rfl):MT X (.Compare a [op] [b] pos) (zZ (zJ g φ ψ)) :=
 zes (zQs ho ha hb hm) λρ δ μ σ H b μ' Q A e k=>z7o (Q:=λx H'=>∃k,x=.bl k/\Q k H') A (z6m e) λρ' H' v x R r=>⟨b,r.tO,k ρ' H' x R⟩
@[simp] def zIf:G2:=λx y μ=>match x,y with
 |.int i,.int j=>some (.int (i+j),μ)
 |.tup as,.tup bs=>bif decide (as.length+bs.length<=1000000) then some (.tup (as++bs),μ) else none
 |.loc l,.loc m=>match μ[l]?,μ[m]? with
  |some (.lst as),some (.lst bs)=>bif decide (as.length+bs.length<=1000000) then some (.loc μ.length,μ++[.lst (as++bs)]) else none
  |_,_=>none
 |_,_=>none
@[simp] def zWq:G2:=λx y μ=>match x,y with
 |.int i,.int j=>some (.int (i-j),μ)
 |_,_=>none
def zOf(i j:Int):Bool:=decide (-(2^64)<i/\i<2^64)||decide (-(2^64)<j/\j<2^64)||(decide (i.natAbs<2^1000)&&decide (j.natAbs<2^1000))
def z8p{i j:Int}(h:zOf i j=true):IntMulOk i j:=by
 unfold zOf at h;rw[Bool.or_eq_true,Bool.or_eq_true,yN]at h;rcases h with (h|h)|⟨h1,h2⟩
 ·have h:=of_decide_eq_true h;exact .of_left (intBits_le_64 h.1 h.2)
 ·have h:=of_decide_eq_true h;exact .of_right (intBits_le_64 h.1 h.2)
 ·exact .of_le (m:=1000) (n:=1000) (intBits_le (of_decide_eq_true h1)) (intBits_le (of_decide_eq_true h2)) (by decide)
def zti:G2:=λx y μ=>match x,y with
 |.int i,.int j=>bif zOf i j then some (.int (i*j),μ) else none
 |.tup ds,.int n=>bif decide (2<=n/\n<=1000/\0<ds.length/\ds.length<=1000) then some (.tup (yD n.toNat ds).flatten,μ) else none
 |.loc l,.int n=>match μ[l]? with
  |some (.lst ds)=>bif decide (n<=1000/\-(2^62)<=n/\ds.length<=1000) then some (.loc μ.length,μ++[.lst (yD n.toNat ds).flatten]) else none
  |_=>none
 |_,_=>none
@[simp] def z4j:G2:=λx y μ=>match x,y with
 |.int i,.int j=>bif decide (0<j) then some (.int (i%j),μ) else none
 |_,_=>none
@[simp] def zis:G2:=λx y μ=>match x,y with
 |.int i,.int j=>bif decide (0<j/\j<1606938044258990275541962092341162602522202993782792835301376) then some (.int (i / j),μ) else none
 |_,_=>none
def zst:G2:=λx y μ=>match x,y with
 |.int i,.int j=>bif decide (0<=j/\j<=100000/\i.natAbs<1606938044258990275541962092341162602522202993782792835301376) then some (.int (i^j.toNat),μ) else none
 |_,_=>none
def zR{α:Type}{c:Bool}{o:Option α}{x:α}(h:(bif c then o else none)=some x):c=true/\o=some x:=by
 cases c with
 |true=>exact⟨rfl,h⟩
 |false=>cases h
def zLj{f:Value->Value->Sem Value}{g:G2}{C:Int->Int->Prop}{h:Int->Int->Int}(o:OpR X f (rI C λi j =>.int (h i j)))
 (w:∀x y μ d μ',g x y μ=some (d,μ')->∃i j,x=.int i/\y=.int j/\C i j/\d=.int (h i j)/\μ'=μ):OpM X f g:=by
 refine OpM.of λpins s σ H x y v u Q I rx ry ρ dx dy μ d μ' r1 r2 R e k=>?_;obtain⟨i,j,rfl,rfl,hc,rfl,rfl⟩:=w _ _ _ _ _ e;refine o pins s σ H x y v u Q I rx ry ⟨i,j,r1.int_inv,r2.int_inv,hc,?_⟩;exact k ρ H _ Ext.refl R .int
def z9l:OpM X (YT .Sub) zWq:=zLj (C:=λ_ _=>True) (h:=λi j=>i-j) (opI λ_ _ _ _ _ _ _ _ q=>sub_int q) λx y μ d μ' e=>by
 unfold zWq at e
 split at e
 ·cases e;exact⟨_,_,rfl,rfl,trivial,rfl,rfl⟩
 ·cases e
def zad:OpM X (YT .Mod) z4j:=zLj (h:=λi j=>i%j) zut λx y μ d μ' e=>by
 unfold z4j at e
 split at e
 ·obtain⟨h1,e⟩:=zR e;cases e;have h2:=of_decide_eq_true h1;exact⟨_,_,rfl,rfl,h2,rfl,rfl⟩
 ·cases e
def zIu(i j:Int):Prop:=0<j/\j<1606938044258990275541962092341162602522202993782792835301376
def zUq:OpR X (YT .FloorDiv) (rI zIu λi j =>.int (i / j)):=opI λi j _ _ _ _ _ hc q=>by
 have h1:(0:Int)<j:=hc.1;have h2:j<1606938044258990275541962092341162602522202993782792835301376:=hc.2;refine floordiv_int (by omega) (by rw[Int.fdiv_eq_ediv_of_nonneg i (by omega)];exact q) (.inl (PyProof.noPylong_of_log2 ?_));have:j.natAbs.log2<200:=(Nat.log2_lt (by omega)).mpr (by rw[show 2^200=1606938044258990275541962092341162602522202993782792835301376 from rfl];omega);omega
def zKl:OpM X (YT .FloorDiv) zis:=zLj (C:=zIu) (h:=λi j=>i / j) zUq λx y μ d μ' e=>by
 unfold zis at e
 split at e
 ·obtain⟨h1,e⟩:=zR e;cases e;have h2:=of_decide_eq_true h1;exact⟨_,_,rfl,rfl,h2,rfl,rfl⟩
 ·cases e
def ztu(i j:Int):Prop:=0<=j/\j<=100000/\i.natAbs<1606938044258990275541962092341162602522202993782792835301376
def z3s:OpR X (YT .Pow) (rI ztu λi j =>.int (i^j.toNat)):=opI λi j _ _ _ _ _ hc q=>by
 refine pow_int hc.1 ?_ q;have hb:Builtin.Int.intBits i<=200:=intBits_le (by rw[show 2^200=1606938044258990275541962092341162602522202993782792835301376 from rfl];exact hc.2.2);have h2:=hc.2.1;have h1:=hc.1
 calc (Builtin.Int.intBits i:Int)*j<=200*100000:=Int.mul_le_mul (by omega) h2 h1 (by omega)
  _<=2^27:=by decide
def zzs:OpM X (YT .Pow) zst:=zLj (C:=ztu) (h:=λi j=>i^j.toNat) z3s λx y μ d μ' e=>by
 unfold zst at e
 split at e
 ·obtain⟨h1,e⟩:=zR e;cases e;have h2:=of_decide_eq_true h1;exact⟨_,_,rfl,rfl,h2,rfl,rfl⟩
 ·cases e
@[simp] def zRn(p:Int->Int->Bool):G2:=λx y μ=>match x,y with
 |.int i,.int j=>some (.bl (p i j),μ)
 |_,_=>none
def zHo{f:Value->Value->Sem Value}{p:Int->Int->Bool}(o:OpR X f (rI0 λi j =>.bl (p i j))):OpM X f (zRn p):=by
 refine OpM.of λpins s σ H x y v u Q I rx ry ρ dx dy μ d μ' r1 r2 R e k=>?_;unfold zRn at e
 split at e
 ·cases e;exact o pins s σ H x y v u Q I rx ry ⟨_,_,r1.int_inv,r2.int_inv,k ρ H _ Ext.refl R .bl⟩
 ·cases e
def zsk:OpM X (Yn .Lt) (zRn λi j=>decide (i<j)):=zHo z4u
def zop:OpM X (Yn .Gt) (zRn λi j=>decide (j<i)):=zHo zcv
@[simp] def zZt(φ ψ:FE):FE:=λδ μ=>(φ δ μ).bind λp=>match p.1 with
 |.bl true=>ψ δ p.2
 |.bl false=>some (.bl false,p.2)
 |_=>none
@[simp] def fOr(φ ψ:FE):FE:=λδ μ=>(φ δ μ).bind λp=>match p.1 with
 |.bl false=>ψ δ p.2
 |.bl true=>some (.bl true,p.2)
 |_=>none
@[simp] def zdw(φ:FE):FE:=λδ μ=>(φ δ μ).bind λp=>match p.1 with
 |.bl b=>some (.bl (!b),p.2)
 |_=>none
def zJo{op}(h:ME X a φ):ME X (.BoolOp op [a] pos) φ:=zPt h
def zAp{rest:List yz}(ha:ME X a φ)(hb:ME X (.BoolOp .And (b::rest) pos) ψ):ME X (.BoolOp .And (a::b::rest) pos) (zZt φ ψ) :=
 zud (z7t ha hb) λρ δ μ σ H d μ' Q A e k=>by
  obtain⟨⟨x,μ1⟩,e1,e⟩:=zf e;refine⟨ρ,δ,μ,x,μ1,A,e1,λρ1 H1 v x1 R1 r1=>?_⟩;dsimp only at e
  split at e
  ·exact⟨true,r1.tO,sQ ⟨ρ1,δ,μ1,d,μ',A.ext x1 R1,e,λρ2 H2 w x2 R2 r2=>k ρ2 H2 w (x1.trans x2) R2 r2⟩⟩
  ·cases e;exact⟨false,r1.tO,sP (k ρ1 H1 _ x1 R1 .bl)⟩
  ·cases e
def zLv{rest:List yz}(ha:ME X a φ)(hb:ME X (.BoolOp .Or (b::rest) pos) ψ):ME X (.BoolOp .Or (a::b::rest) pos) (fOr φ ψ) :=
 zud (z3u ha hb) λρ δ μ σ H d μ' Q A e k=>by
  obtain⟨⟨x,μ1⟩,e1,e⟩:=zf e;refine⟨ρ,δ,μ,x,μ1,A,e1,λρ1 H1 v x1 R1 r1=>?_⟩;dsimp only at e
  split at e
  ·exact⟨false,r1.tO,sP ⟨ρ1,δ,μ1,d,μ',A.ext x1 R1,e,λρ2 H2 w x2 R2 r2=>k ρ2 H2 w (x1.trans x2) R2 r2⟩⟩
  ·cases e;exact⟨true,r1.tO,sQ (k ρ1 H1 _ x1 R1 .bl)⟩
  ·cases e
@[simp] def zxn(φ ψ:FT):FT:=λδ μ=>(φ δ μ).bind λp=>bif p.1 then ψ δ p.2 else some (false,p.2)
@[simp] def zIn(φ ψ:FT):FT:=λδ μ=>(φ δ μ).bind λp=>bif p.1 then some (true,p.2) else ψ δ p.2
@[simp] def zKf(φ:FT):FT:=λδ μ=>(φ δ μ).bind λp=>some (!p.1,p.2)
def zod{φ:FE}(h:ME X a φ)(he:∀whole,isTrue a X.env whole=(do let v <-whole;standAt a.pos;YX [v] (truthy v)):=by intro _;rfl):MT X a (zZ φ) :=
 zes (zbu h he) λρ δ μ σ H b μ' Q A e k=>⟨ρ,δ,μ,.bl b,μ',A,z6m e,λρ' H' v x R r=>⟨b,r.tO,k ρ' H' x R⟩⟩
def MW.mt{φ:FT}(h:MW X a φ):MT X a φ:=h _
def zQl{φ:FT}(h:MT X a φ):MW X (.BoolOp .And [a] pos) φ:=zct h
def z0f{φ:FT}(h:MT X a φ):MW X (.BoolOp .Or [a] pos) φ:=zdu h
def zKo{φ ψ:FT}{rest:List yz}(ha:MT X a φ)(hb:MW X (.BoolOp .And (b::rest) pos) ψ):MW X (.BoolOp .And (a::b::rest) pos) (zxn φ ψ) :=
 zku (zSu ha hb) λρ δ μ σ H b μ' Q A e k=>by
  obtain⟨⟨x,μ1⟩,e1,e⟩:=zf e;refine⟨ρ,δ,μ,x,μ1,A,e1,λρ1 H1 x1 R1=>?_⟩
  cases x with
  |true=>exact sQ ⟨ρ1,δ,μ1,b,μ',A.ext x1 R1,e,λρ2 H2 x2 R2=>k ρ2 H2 (x1.trans x2) R2⟩
  |false=>
   cases e;exact sP (k ρ1 H1 x1 R1)
def zXh{φ ψ:FT}{rest:List yz}(ha:MT X a φ)(hb:MW X (.BoolOp .Or (b::rest) pos) ψ):MW X (.BoolOp .Or (a::b::rest) pos) (zIn φ ψ) :=
 zku (zBv ha hb) λρ δ μ σ H b μ' Q A e k=>by
  obtain⟨⟨x,μ1⟩,e1,e⟩:=zf e;refine⟨ρ,δ,μ,x,μ1,A,e1,λρ1 H1 x1 R1=>?_⟩
  cases x with
  |false=>exact sP ⟨ρ1,δ,μ1,b,μ',A.ext x1 R1,e,λρ2 H2 x2 R2=>k ρ2 H2 (x1.trans x2) R2⟩
  |true=>
   cases e;exact sQ (k ρ1 H1 x1 R1)
def zMe{φ:FT}(ha:MT X a φ):MT X (.UnaryOp .Not a pos) (zKf φ) :=
 zes (zfu ha) λρ δ μ σ H b μ' Q A e k=>by
  obtain⟨⟨x,μ1⟩,e1,e⟩:=zf e;cases e;exact⟨ρ,δ,μ,x,μ1,A,e1,λρ1 H1 x1 R1=>k ρ1 H1 x1 R1⟩
structure MAn(X:Cx)(es:List yz)(φ:FA):Prop where
 ma:MA X es φ
 len:∀δ μ ds μ',φ δ μ=some (ds,μ')->ds.length=es.length
@[simp] def zL:FA:=λ_ μ=>some ([],μ)
@[simp] def zi(φ:FE)(ψ:FA):FA:=λδ μ=>(φ δ μ).bind λp=>(ψ δ p.2).bind λq=>some (p.1::q.1,q.2)
def zh:MAn X [] zL:=⟨zCt zXi λρ δ μ σ H ds μ' Q A e k=>by
 cases e;exact k ρ H [] Ext.refl A.hp .nil,λ_ _ _ _ e=>by cases e;rfl⟩
def zou:yz->Bool
 |.Starred ..=>false
 |_=>true
def ztc{e:yz}{es:List yz}{env:Env}(h:zou e=true):yf (e::es) env=(false,yV e env)::yf es env:=by
 cases e<;>first|rfl|cases h
def zb{φ:FE}{ψ:FA}(ha:ME X e φ)(hr:MAn X es ψ)(hs:yf (e::es) X.env=(false,yV e X.env)::yf es X.env:=by exact ztc rfl):MAn X (e::es) (zi φ ψ) :=
 ⟨zCt (zNf ha hr.ma hs) λρ δ μ σ H ds μ' Q A e k=>by
  obtain⟨⟨x,μ1⟩,e1,e⟩:=zf e;obtain⟨⟨y,μ2⟩,e2,e⟩:=zf e;cases e;refine⟨ρ,δ,μ,x,μ1,A,e1,λρ1 H1 v x1 R1 r1=>?_⟩;refine⟨ρ1,δ,μ1,y,μ2,A.ext x1 R1,e2,λρ2 H2 u x2 R2 r2=>?_⟩;exact k ρ2 H2 _ (x1.trans x2) R2 (.cons (r1.ext x2) r2),λδ μ ds μ' e=>by
  obtain⟨⟨x,μ1⟩,e1,e⟩:=zf e;obtain⟨⟨y,μ2⟩,e2,e⟩:=zf e;cases e;have:=hr.len _ _ _ _ e2;simp[this]⟩
@[simp] def zCn(φ:FA):FE:=λδ μ=>(φ δ μ).bind λp=>some (.tup p.1,p.2)
@[simp] def zkl(φ:FA):FE:=λδ μ=>(φ δ μ).bind λp=>some (.loc p.2.length,p.2++[.lst p.1])
def zsf{x1}{φ:FA}(h:MAn X es φ)(hn:es.length<=1000:=by decide):ME X (.Tuple es x1 pos) (zCn φ) :=
 zud (zju h.ma) λρ δ μ σ H d μ' Q A e k=>by
  obtain⟨⟨x,μ1⟩,e1,e⟩:=zf e;cases e;refine⟨ρ,δ,μ,x,μ1,A,e1,λρ1 H1 vs x1 R1 r1=>⟨?_,λp hp=>?_⟩⟩
  ·rw[<-r1.length,h.len _ _ _ _ e1];exact YN (TU hn)
  ·exact k ρ1 _ _ (x1.trans (Ext.new hp)) (R1.Tr hp) (.tup zt (r1.ext (Ext.new hp)))
def zKe{φ:FA}(h:MAn X es φ)(hn:es.length<=1000:=by decide):ME X (.List es pos) (zkl φ) :=
 zud (zXt h.ma) λρ δ μ σ H d μ' Q A e k=>by
  obtain⟨⟨x,μ1⟩,e1,e⟩:=zf e;cases e;refine⟨ρ,δ,μ,x,μ1,A,e1,λρ1 H1 vs x1 R1 r1=>⟨?_,λp hp=>?_⟩⟩
  ·rw[<-r1.length,h.len _ _ _ _ e1];exact YN (TU hn)
  ·exact k _ _ _ (x1.trans (Ext.push hp)) (R1.push hp ⟨vs,zt,r1.ext (Ext.push hp)⟩) (.loc (zzb R1))
@[simp] def zx(F:FF)(φ:FA):FE:=λδ μ=>(φ δ μ).bind λp=>F p.1 p.2
def z8n{k n:Nat}{f:yb}{fd:yj}{ps:List yr}{F:FF}{x:yr}{p:YR}{φ:FA}(G:tu X.prog X.w X.K X.mg X.base CX0 k f fd ps (spM X.K n F))(hr:tQ k X.A)(hm:X.mg x=some (.ref f))(hk:W.keepIn X.K (.ref f)=true)(hb:Binds X.K fd ps [])
 (ha:MAn X (e::es) φ) (hn:(e::es).length=n:=by rfl) (hg:Gl X x:=by rfl) (hdb:(x==("__debug__":yr))=false:=by decide) (he:yf (e::es) X.env=(false,yV e X.env)::yf es X.env:=by exact ztc rfl) (hpl:(yZ pos (yf es X.env)).any (·.1)=false:=by rfl) :
 ME X (.Call (.Name x p) (e::es) [] pos) (zx F φ) :=
 zud (zRs G hr hg hm hk hb .nil sW ha.ma hdb he hpl) λρ δ μ σ H d μ' Q A e k=>by
  obtain⟨⟨x,μ1⟩,e1,e⟩:=zf e;refine⟨ρ,δ,μ,x,μ1,A,e1,λρ1 H1 vs x1 R1 r1=>?_⟩;show spM X.K n F (vs++[]) H1 Q E0;rw[append_nil];exact⟨by rw[<-r1.length,ha.len _ _ _ _ e1];exact hn,ρ1,x,μ1,d,μ',r1,R1,e,λρ2 H2 v x2 R2 r2=>k ρ2 H2 v (x1.trans x2) R2 r2⟩
abbrev GL:=List D->Mem->Option (D×Mem)
def rCM(K:yt)(g:GL):List V->Hp->VK->Prop:=λvs H Q=>∃ρ ds μ d μ',tf K ρ H ds vs/\tG K ρ H μ/\g ds μ=some (d,μ')/\∀ρ' H' v,Ext ρ H ρ' H'->tG K ρ' H' μ'->tm K ρ' H' d v->Q v H'
def tV(X:Cx)(f:Value)(g:GL):Prop:=z7l X f (rCM X.K g)
def tV.of{X:Cx}{f:Value}{g:GL}(h:∀(pins:List (yb×Yw)) (s:yd) (σ:L2.St) (H:Hp) (xs:List V) (us:List Value) (Q:VK),Inv X pins σ H s->Vals xs us->∀(ρ:List yb)(ds:List D)(μ:Mem)(d:D)(μ':Mem),tf X.K ρ H ds xs->tG X.K ρ H μ->g ds μ=some (d,μ')->(∀ρ' H' v,Ext ρ H ρ' H'->tG X.K ρ' H' μ'->tm X.K ρ' H' d v->Q v H')->yq (yy X.prog X.w) X.A (call f us) (EP X pins σ Q) X.xe s):tV X f g:=by
 intro pins s σ H xs us Q I r hh;obtain⟨ρ,ds,μ,d,μ',r1,R,e,k⟩:=hh;exact h pins s σ H xs us Q I r ρ ds μ d μ' r1 R e k
def zNv{g:GL}{φ:FA}{ρ:List yb}{δ:Loc}{μ:Mem}{σ:L2.St}{H:Hp}{d:D}{μ':Mem}{Q:VK}(A:At X.K ρ H σ δ μ)(e:zx g φ δ μ=some (d,μ'))
 (k:∀ρ' H' v,Ext ρ H ρ' H'->tG X.K ρ' H' μ'->tm X.K ρ' H' d v->Q v H'):tCB (rCM X.K g) (tMA X.K φ) σ H Q:=by
 obtain⟨⟨x,μ1⟩,e1,e⟩:=zf e;exact⟨ρ,δ,μ,x,μ1,A,e1,λρ1 H1 vs x1 R1 r1=>⟨ρ1,x,μ1,d,μ',r1,R1,e,λρ2 H2 v x2 R2 r2=>k ρ2 H2 v (x1.trans x2) R2 r2⟩⟩
def zS{g:GL}{id:String}{x:yr}{p:YR}{φ:FA}(hc:tV X (.builtin id) g)(hm:X.mg x=none)(hv:yL x=some (.builtin id))(ha:MAn X (e::es) φ)(hg:Gl X x:=by rfl)(hn:x≠"__name__":=by decide)(hdb:(x==("__debug__":yr))=false:=by decide)
 (he:yf (e::es) X.env=(false,yV e X.env)::yf es X.env:=by exact ztc rfl) (hpl:(yZ pos (yf es X.env)).any (·.1)=false:=by rfl):ME X (.Call (.Name x p) (e::es) [] pos) (zx g φ) :=
 zud (zjq hc hg hm hv ha.ma hn hdb he hpl) λ_ _ _ _ _ _ _ _ A e k=>zNv A e k
def zed{g:GL}{T:String}{x:yr}{p:YR}{φ:FA}(hc:tV X (.type T) g)(hm:X.mg x=none)(hv:yL x=some (.type T))(ha:MAn X (e::es) φ)(hg:Gl X x:=by rfl)(hn:x≠"__name__":=by decide)(hdb:(x==("__debug__":yr))=false:=by decide)
 (he:yf (e::es) X.env=(false,yV e X.env)::yf es X.env:=by exact ztc rfl) (hpl:(yZ pos (yf es X.env)).any (·.1)=false:=by rfl):ME X (.Call (.Name x p) (e::es) [] pos) (zx g φ) :=
 zud (z6h hc hg hm hv ha.ma hn hdb he hpl) λ_ _ _ _ _ _ _ _ A e k=>zNv A e k
end
section
variable {K:yt}{ρ:List yb}{H:Hp}{μ:Mem}
@[simp] def items(μ:Mem):D->Option (List D)
 |.tup ds=>some ds
 |.fz ds=>some ds
 |.loc n=>match μ[n]? with
  |some (.lst ds)=>some ds
  |_=>none
 |_=>none
def z6f{d:D}{v:V}{ds:List D}(R:tG K ρ H μ)(r:tm K ρ H d v)(e:items μ d=some ds):∃p vs,v=.ref p/\(SqL K H p vs\/SqT K H p vs)/\tf K ρ H ds vs:=by
 unfold items at e
 split at e
 ·cases e;obtain⟨a,vs,e1,e2,q⟩:=r.tU;exact⟨a,vs,e1,.inr (SqT.of e2),q⟩
 ·cases e;obtain⟨a,vs,e1,e2,q⟩:=r.sk;exact⟨a,vs,e1,.inl e2.sq,q⟩
 ·split at e
  ·rename_i h
   cases e;obtain⟨a,e1,e2⟩:=r.tz;obtain⟨vs,e3,q⟩:=R.at_ _ _ _ e2 h;exact⟨a,vs,e1,.inl (SqL.of e3),q⟩
  ·cases e
 ·cases e
end
section
variable {X:Cx}{a b c e:yz}{es:List yz}{φ ψ χ:FE}{pos:YR}
@[simp] def gIx:G2:=λx y μ=>match y with
 |.int i=>(items μ x).bind λds=>(atI ds i).bind λd=>some (d,μ)
 |_=>none
def zjs{K:yt}{ρ:List yb}{H:Hp}{ds:List D}{vs:List V}{i:Int}{d:D}(r:tf K ρ H ds vs)(e:atI ds i=some d):∃v,atI vs i=some v/\tm K ρ H d v:=by
 unfold atI at e ⊢;rw[r.length]at e;obtain⟨j,e1,e2⟩:=zf e;obtain⟨v,e3,q⟩:=r.get e2;exact⟨v,by rw[e1];exact e3,q⟩
def ixM:IxR X (rM X.K gIx):=by
 intro value slice pins s σ H x y v u Q I rx ry ⟨ρ,dx,dy,μ,d,μ',r1,r2,R,e,k⟩ hs;unfold gIx at e
 split at e
 ·obtain⟨ds,e1,e⟩:=zf e;obtain⟨d',e2,e⟩:=zf e;cases e;obtain⟨p,vs,rfl,hq,rr⟩:=z6f R r1 e1;obtain⟨w,e3,q⟩:=zjs rr e2;rcases hq with hq|hq
  ·exact zjr value slice pins s σ H _ y v u Q I rx ry (.inl ⟨p,vs,_,w,rfl,r2.int_inv,hq,e3,k ρ H w Ext.refl R q⟩) hs
  ·exact zjr value slice pins s σ H _ y v u Q I rx ry (.inr (.inl ⟨p,vs,_,w,rfl,r2.int_inv,hq,e3,k ρ H w Ext.refl R q⟩)) hs
 ·cases e
def zDb(ha:ME X a φ)(hb:ME X b ψ)(hs:znl b:=by exact λ_ _=>rfl):ME X (.Subscript a b pos) (zJ gIx φ ψ) :=
 zud (zru ixM ha hb hs) λ_ _ _ _ _ _ _ _ A e k=>z7o A e k
@[simp] def zik:GL:=λds μ=>match ds with
 |[d]=>(items μ d).bind λxs=>some (.int xs.length,μ)
 |_=>none
def zCb:tV X (.builtin "len") zik:=by
 refine tV.of λpins s σ H xs us Q I r ρ ds μ d μ' r1 R e k=>?_;unfold zik at e
 split at e
 ·obtain⟨ds,e1,e⟩:=zf e;cases e;obtain⟨v,rr,rfl,q1,q2⟩:=r1.cons_inv;have q2:=q2.nil_inv;subst q2;obtain⟨p,vs,rfl,hq,rr⟩:=z6f R q1 e1;exact zwk pins s σ H _ us Q I r ⟨p,vs,rfl,hq,k ρ H _ Ext.refl R (by rw[rr.length];exact .int)⟩
 ·cases e
@[simp] def zcr:GL:=λds μ=>match ds with
 |[d]=>(items μ d).bind λxs=>some (.loc μ.length,μ++[.lst xs])
 |_=>none
def zPn:tV X (.type "list") zcr:=by
 refine tV.of λpins s σ H xs us Q I r ρ ds μ d μ' r1 R e k=>?_;unfold zcr at e
 split at e
 ·obtain⟨ds,e1,e⟩:=zf e;cases e;obtain⟨v,rr,rfl,q1,q2⟩:=r1.cons_inv;have q2:=q2.nil_inv;subst q2;obtain⟨p,vs,rfl,hq,rr⟩:=z6f R q1 e1;exact zSg pins s σ H _ us Q I r ⟨p,vs,rfl,hq,λl hl=>k _ _ _ (Ext.push hl) (R.push hl ⟨vs,zt,rr.ext (Ext.push hl)⟩) (.loc (zzb R))⟩
 ·cases e
@[simp] def znf:GL:=λds μ=>match ds with
 |[.tup xs]=>some (.tup xs,μ)
 |[d]=>(items μ d).bind λxs=>some (.tup xs,μ)
 |_=>none
def zle:tV X (.type "tuple") znf:=by
 refine tV.of λpins s σ H xs us Q I r ρ ds μ d μ' r1 R e k=>?_
 have key:∃x ys,ds=[x]/\items μ x=some ys/\d=.tup ys/\μ'=μ:=by
  unfold znf at e
  split at e
  ·cases e;exact⟨_,_,rfl,rfl,rfl,rfl⟩
  ·obtain⟨ds,e1,e⟩:=zf e;cases e;exact⟨_,_,rfl,e1,rfl,rfl⟩
  ·cases e
 obtain⟨x,ys,rfl,e1,rfl,rfl⟩:=key;obtain⟨v,rr,rfl,q1,q2⟩:=r1.cons_inv;have q2:=q2.nil_inv;subst q2
 cases x with
 |tup zs=>
  cases e1;obtain⟨a,vs,rfl,e2,q⟩:=q1.tU;exact zse pins s σ H _ us Q I r ⟨a,vs,rfl,.inr ⟨SqT.of e2,k ρ H _ Ext.refl R q1⟩⟩
 |fz zs=>
  cases e1;obtain⟨a,vs,rfl,e2,q⟩:=q1.sk;exact zse pins s σ H _ us Q I r ⟨a,vs,rfl,.inl ⟨e2.sq,λl hl=>k ρ _ _ (Ext.new hl) (R.Tr hl) (.tup zt (q.ext (Ext.new hl)))⟩⟩
 |loc n=>
  unfold items at e1;dsimp only at e1
  split at e1
  ·rename_i h
   cases e1;obtain⟨a,rfl,e2⟩:=q1.tz;obtain⟨vs,e3,q⟩:=R.at_ _ _ _ e2 h;exact zse pins s σ H _ us Q I r ⟨a,vs,rfl,.inl ⟨SqL.of e3,λl hl=>k ρ _ _ (Ext.new hl) (R.Tr hl) (.tup zt (q.ext (Ext.new hl)))⟩⟩
  ·cases e1
 |_=>cases e1
end
def zqk{prog:yu}{w:yI}{A:yJ}{R:Result->yd->Prop}{s:yd}{elt target iter:yz}{ifs:List yz}{scope:xG}{pos:YR}{it acc:Value}{env:Env}(I:Nat->yd->Prop)
 (turn:∀n s,I n s->yq (yy prog w) A (pyNext it) (λr s₁=>match r with
  |none=>R (.ok .next) s₁
  |some v=>yq (yy prog w) A (letOwnedTupleGo target it v) (λ_ s₁'=>yq (yy prog w) A (assign target env v) (λ_ s₂=>
   yq (yy prog w) A (forIn ifs true λc r=>if r=true then do let ok <-isTrue c env (yV c env);pure (YB ok) else pure (YB r)) (λok s₃=>
    if ok=true then yq (yy prog w) A (yV elt env) (λx s₄=>
     yq (yy prog w) A (call (.builtin "list.append") [acc,x]) (λ_ s₅=>∃m,m<n/\I m s₅) (λ_ _=>False) s₄) (λ_ _=>False) s₃
    else ∃m,m<n/\I m s₃) (λ_ _=>False) s₂) (λ_ _=>False) s₁') (λ_ _=>False) s₁) (λ_ _=>False) s)
 (n:Nat) (h:I n s) :
 codeAny (yy prog w) A (.compLoop (.ListComp elt [⟨target,iter,ifs,0⟩] scope pos) 0 it acc env) R s:=by
 refine codeAny_loop rfl I (λn s hI=>?_) n h;show yq _ A ((compTurn (.ListComp elt [⟨target,iter,ifs,0⟩] scope pos) 0 it acc env).onRaise (λx=>do noteFrame x env;theTreesLotGoes x)) _ _ s;refine wpAny_noted ?_;rw[compTurn_list];refine ya (Yx (ya (yT (turn n s hI) (λr s₁ h₁=>?_) λ_ _ h'=>h'.elim)))
 cases r with
 |none=>exact yp h₁
 |some v=>
  refine ya (yT h₁ (λ_ s₁' h₁=>?_) λ_ _ h'=>h'.elim);refine ya (yT h₁ (λ_ s₂ h₂=>ya (yT h₂ (λok s₃ h₃=>?_) λ_ _ h'=>h'.elim)) λ_ _ h'=>h'.elim)
  cases ok with
  |false=>exact yp ⟨rfl,h₃⟩
  |true=>
   exact ya (ya (yT h₃ (λx s₄ h₄=>ya (yT h₄ (λ_ s₅ h₅=>yp (yp ⟨rfl,h₅⟩)) λ_ _ h'=>h'.elim)) λ_ _ h'=>h'.elim))
def zNb(cells:List (yr×yb)):List (yr×YI)->List (yr×yb)->List (yr×yb)
 |[],acc=>acc
 |(n,k)::r,acc=>zNb cells r (if k == .free then(match cells.lookup n with|some c=>(n,c)::acc|none=>acc) else acc)
def zLg{env:Env}:∀(names:List (yr×YI)) (acc:List (yr×yb)),(∀x∈names,x.2=.free->∃c,env.cells.lookup x.1=some c) ->
 (forIn names acc λ(x:yr×YI) (cs:List (yr×yb))=>(match x with|(name,kind)=>if kind == .free then do let c <-cellOf env name;pure (YB ((name,c)::cs)) else pure (YB cs):Sem (ForInStep (List (yr×yb)))))=(pure (zNb env.cells names acc):Sem (List (yr×yb)))
 |[],acc,_=>rfl
 |(n,k)::r,acc,h=>by
  have ih:=λacc'=>zLg r acc' λx hx=>h x (mem_cons_of_mem _ hx);rw[List.forIn_cons]
  by_cases hk:k=.free
  ·subst hk;obtain⟨c,hc⟩:=h (n,.free) mem_cons_self rfl;have e:cellOf env n=pure c:=by unfold cellOf;rw[hc]
   have:zNb env.cells ((n,yo)::r) acc=zNb env.cells r ((n,c)::acc):=by
    show zNb env.cells r (if(yo==yo)=true then(match env.cells.lookup n with|some c=>(n,c)::acc|none=>acc) else acc)=_;rw[hc];rfl
   rw[this,<-ih];show((do let c <-cellOf env n;pure (YB ((n,c)::acc))) >>= _:Sem _)=_;rw[e];rfl
  ·have hb:(k==yo)=false:=by simpa using hk
   have:zNb env.cells ((n,k)::r) acc=zNb env.cells r acc:=by
    show zNb env.cells r (if(k==yo)=true then _ else acc)=_;rw[hb];rfl
   rw[this,<-ih];simp only[hb,Bool.false_eq_true,if_false];rfl
def zhj{scope:xG}{env:Env}(h:∀x∈scope.names,x.2=.free->∃c,env.cells.lookup x.1=some c):closureFor scope env=pure (zNb env.cells scope.names []):=by
 have e:=zLg (env:=env) scope.names [] h;unfold closureFor;show(forIn scope.names [] _ >>= λr=>pure r:Sem _)=_;rw[show(forIn scope.names ([]:List (yr×yb)) λ(x:yr×YI) (r:List (yr×yb))=>(match x with|(name,kind)=>if kind == .free then do let c <-cellOf env name;pure (YB ((name,c)::r)) else pure (YB r):Sem (ForInStep (List (yr×yb)))))=pure (zNb env.cells scope.names []) from e];rfl
def zPj{cells:List (yr×yb)}{x:yr}{c:yb}:∀(names:List (yr×YI)) (acc:List (yr×yb)),(zNb cells names acc).lookup x=some c->acc.lookup x=some c\/cells.lookup x=some c
 |[],_,h =>.inl h
 |(n,k)::r,acc,h=>by
  rcases zPj r _ h with q|q
  ·by_cases hk:(k==yo)=true
   ·rw[if_pos hk]at q
    cases e:cells.lookup n with
    |none=>rw[e]at q;exact .inl q
    |some a=>
     rw[e]at q;simp only[lookup_cons]at q
     by_cases hx:(x==n)=true
     ·rw[hx]at q;have hx':x=n:=by simpa using hx
      subst hx';cases q;exact .inr e
     ·have hx':(x==n)=false:=by simpa using hx
      rw[hx']at q;exact .inl q
   ·rw[if_neg hk]at q;exact .inl q
  ·exact .inr q
def zbp{cells:List (yr×yb)}{x:yr}:∀(names:List (yr×YI)) (acc:List (yr×yb)),(acc.lookup x).isSome=true->((zNb cells names acc).lookup x).isSome=true
 |[],_,h=>h
 |(n,k)::r,acc,h=>by
  refine zbp r _ ?_
  by_cases hk:(k==yo)=true
  ·rw[if_pos hk]
   cases e:cells.lookup n with
   |none=>exact h
   |some a=>
    simp only[lookup_cons]
    by_cases hx:(x==n)=true
    ·rw[hx];rfl
    ·have hx':(x==n)=false:=by simpa using hx
     rw[hx'];exact h
  ·rw[if_neg hk];exact h
def zBr{cells:List (yr×yb)}{x:yr}{c:yb}(hc:cells.lookup x=some c):∀(names:List (yr×YI)) (acc:List (yr×yb)),(x,yo)∈names->((zNb cells names acc).lookup x).isSome=true
 |[],_,h=>by cases h
 |(n,k)::r,acc,h=>by
  rcases List.mem_cons.mp h with h|h
  ·cases h;refine zbp r _ ?_;rw[if_pos (by rfl),hc];simp[lookup_cons]
  ·exact zBr hc r _ h
def cxC(X:Cx)(own:List yr)(fr:List Nat)(scope:xG)(cl:List (yr×yb))(C:yb)(s₀:yd)(H₀:Hp)(fp:List yb):Cx :=
 {X with N:=own++fr.map λi=>X.N.getD i Str.empty,s₀:=s₀,H₀:=H₀,env:=compEnvC scope cl C X.env,outer:=X.stack,ex:=fp,fn:=λx=>scope.names.lookup x==some .cell,xe:=λ_ _=>False }
def σC(n:Nat)(fr:List Nat)(σ:L2.St):L2.St:=yD n none++fr.map λi=>(σ[i]?).getD none
def zps(σ σ':L2.St):Prop:=σ'.length=σ.length/\∀(i:Nat) v,σ[i]?=some (some v)->σ'[i]?=some (some v)
def PF(X:Cx)(ifs:List yz)(t:TT):Prop:=∀(pins:List (yb×Yw)) (s:yd) (σ:L2.St) (H:Hp) (Q:Bool->Hp->Prop),Inv X pins σ H s->t σ H Q ->
 yq (yy X.prog X.w) X.A (forIn ifs true λc r=>if r=true then do let ok <-isTrue c X.env (yV c X.env);pure (YB ok) else pure (YB r)) (TP X pins σ Q) X.xe s
def zRt{X:Cx}:PF X [] (λσ H Q=>Q true H):=λpins s σ H Q I h=>wpAny_tests_nil ⟨H,I,h⟩
def zHu{X:Cx}{c:yz}{t:TT}(h:PT X c t):PF X [c] t:=λpins s σ H Q I hw=>wpAny_tests_one (h pins s σ H Q I hw)
def tLC(n:Nat)(fr:List Nat)(wi:TI)(g:TG)(tc:TT)(te:TE):TE:=λσ H Q=>wi σ H λJ H1=>∃W:Nat->Nat->List V->Hp->Prop,(∃m,W 0 m [] H1)/\∀i m ys H,W i m ys H ->
 (J.stop i H/\∀p,H p=none->Q (.ref p) (upd H p (.lst ys))) \/
 (J.go i H/\ys.length<yC/\∀x H',J.yld i H x H'->g x (σC n fr σ) H' λσ2 H2=>zps (σC n fr σ) σ2/\tc σ2 H2 λb H3=>
  if b=true then te σ2 H3 λy H4=>∃m',m'<m/\W (i+1) m' (ys++[y]) H4 else ∃m',m'<m/\W (i+1) m' ys H3)
section
variable {X:Cx}{own:List yr}{fr:List Nat}{scope:xG}{pins:List (yb×Yw)}{σ:L2.St}{H:Hp}{s:yd}
def zWd{env:Env}{x:yr}{k:YI}:∀{names:List (yr×YI)},(names.map λ(n,k)=>if(k==yo&&env.scope.kind == .function&&env.kindOf n==some .cell) then(n,yK) else(n,k)).lookup x=some k ->
 (k=.cell\/k=.free)->(x,yo)∈names\/(x,yK)∈names
 |[],h,_=>by simp at h
 |(n,k')::r,h,hk=>by
  rw[map_cons]at h
  by_cases hx:x=n
  ·subst hx
   by_cases hb:(k'==yo&&env.scope.kind == .function&&env.kindOf x==some .cell)=true
   ·have:k'=.free:=by
     simp only[yN,beq_iff_eq]at hb;exact hb.1.1
    subst this;exact .inl mem_cons_self
   ·have h2:((x,k')::r.map λ(n,k)=>if(k==yo&&env.scope.kind == .function&&env.kindOf n==some .cell) then(n,yK) else(n,k)).lookup x=some k:=by
     have e:(if(k'==yo&&env.scope.kind == .function&&env.kindOf x==some .cell)=true then(x,yK) else(x,k'))=(x,k'):=if_neg hb;rw[<-e];exact h
    simp only[lookup_cons,beq_self_eq_true]at h2;cases h2;rcases hk with rfl|rfl
    ·exact .inr mem_cons_self
    ·exact .inl mem_cons_self
  ·have hx':(x==n)=false:=by simpa using hx
   have h2:(r.map λ(n,k)=>if(k==yo&&env.scope.kind == .function&&env.kindOf n==some .cell) then(n,yK) else(n,k)).lookup x=some k:=by
    by_cases hb:(k'==yo&&env.scope.kind == .function&&env.kindOf n==some .cell)=true
    ·have e:(if(k'==yo&&env.scope.kind == .function&&env.kindOf n==some .cell)=true then(n,yK) else(n,k'))=(n,yK):=if_pos hb;have h3:((n,yK)::r.map λ(n,k)=>if(k==yo&&env.scope.kind == .function&&env.kindOf n==some .cell) then(n,yK) else(n,k)).lookup x=some k:=by rw[<-e];exact h
     simpa only[lookup_cons,hx'] using h3
    ·have e:(if(k'==yo&&env.scope.kind == .function&&env.kindOf n==some .cell)=true then(n,yK) else(n,k'))=(n,k'):=if_neg hb;have h3:((n,k')::r.map λ(n,k)=>if(k==yo&&env.scope.kind == .function&&env.kindOf n==some .cell) then(n,yK) else(n,k)).lookup x=some k:=by rw[<-e];exact h
     simpa only[lookup_cons,hx'] using h3
   rcases zWd h2 hk with q|q
   ·exact .inl (mem_cons_of_mem _ q)
   ·exact .inr (mem_cons_of_mem _ q)
def zWg{env:Env}{x:yr}:∀{names:List (yr×YI)},names.lookup x=some .free ->
 (names.map λ(n,k)=>if(k==yo&&env.scope.kind == .function&&env.kindOf n==some .cell) then(n,yK) else(n,k)).lookup x=some .cell \/
 (names.map λ(n,k)=>if(k==yo&&env.scope.kind == .function&&env.kindOf n==some .cell) then(n,yK) else(n,k)).lookup x=some .free
 |[],h=>by simp at h
 |(n,k')::r,h=>by
  rw[map_cons]
  by_cases hx:x=n
  ·subst hx;simp only[lookup_cons,beq_self_eq_true]at h;cases h
   by_cases hb:(yo==yo&&env.scope.kind == .function&&env.kindOf x==some .cell)=true
   ·have e:(if(yo==yo&&env.scope.kind == .function&&env.kindOf x==some .cell)=true then(x,yK) else(x,yo))=(x,yK):=if_pos hb
    left
    show Yu x ((if(yo==yo&&env.scope.kind == .function&&env.kindOf x==some .cell)=true then(x,yK) else(x,yo))::_)=_;rw[e];simp[lookup_cons]
   ·have e:(if(yo==yo&&env.scope.kind == .function&&env.kindOf x==some .cell)=true then(x,yK) else(x,yo))=(x,yo):=if_neg hb
    right
    show Yu x ((if(yo==yo&&env.scope.kind == .function&&env.kindOf x==some .cell)=true then(x,yK) else(x,yo))::_)=_;rw[e];simp[lookup_cons]
  ·have hx':(x==n)=false:=by simpa using hx
   simp only[lookup_cons,hx']at h;have ih:=zWg (env:=env) h
   have step:∀k,(r.map λ(n,k)=>if(k==yo&&env.scope.kind == .function&&env.kindOf n==some .cell) then(n,yK) else(n,k)).lookup x=some k ->
    Yu x ((if(k'==yo&&env.scope.kind == .function&&env.kindOf n==some .cell)=true then(n,yK) else(n,k'))::(r.map λ(n,k)=>if(k==yo&&env.scope.kind == .function&&env.kindOf n==some .cell) then(n,yK) else(n,k)))=some k:=λk hk=>by
     by_cases hb:(k'==yo&&env.scope.kind == .function&&env.kindOf n==some .cell)=true
     ·rw[if_pos hb];simpa only[lookup_cons,hx'] using hk
     ·rw[if_neg hb];simpa only[lookup_cons,hx'] using hk
   rcases ih with ih|ih
   ·exact .inl (step _ ih)
   ·exact .inr (step _ ih)
def zFl{b:yb}(I:Inv X pins σ H s)(h1:b≠X.env.locals)(h2:b∉X.fs):b∉frs X.stack:=λz=>
 (List.mem_cons.mp (I.sx b z)).elim h1 h2
def σC_get{n:Nat}{i:Nat}{v:V}(h:(σC n fr σ)[i]?=some (some v)):n<=i/\∃j,fr[i-n]?=some j/\σ[j]?=some (some v):=by
 unfold σC at h
 by_cases hi:i<n
 ·rw[yk (by simpa using hi),xl]at h
  split at h<;>cases h
 ·have hi:n<=i:=Nat.le_of_not_lt hi;rw[yE (by simpa using hi),xC,yn]at h
  cases e:fr[i-n]? with
  |none=>rw[e]at h;cases h
  |some j=>
   rw[e]at h;refine⟨hi,j,rfl,?_⟩;have h':(σ[j]?).getD none=some v:=yU h
   cases e2:σ[j]? with
   |none=>rw[e2]at h';cases h'
   |some o=>rw[e2]at h';exact congrArg some h'
def z0i:∀(names:List (yr×YI)) (n:Nat) (acc:List (yr×yb)),Yd n names acc=Yd n names []++acc
 |[],n,acc=>rfl
 |(x,k)::r,n,acc=>by
  unfold Yd
  split
  ·rw[z0i r (n+1) ((x,n)::acc),z0i r (n+1) [(x,n)]];simp
  ·exact z0i r n acc
def zej:∀(names:List (yr×YI)) (n:Nat) (x:yr) (c:yb),(x,c)∈Yd n names []->n<=c/\(x,yK)∈names
 |[],n,x,c,h=>by cases h
 |(y,k)::r,n,x,c,h=>by
  unfold Yd at h
  split at h
  ·rename_i hk
   rw[z0i]at h;rcases List.mem_append.mp h with h|h
   ·obtain⟨h1,h2⟩:=zej r (n+1) x c h;exact⟨Nat.le_of_succ_le h1,mem_cons_of_mem _ h2⟩
   ·have e:(x,c)=(y,n):=by simpa using h
    cases e;rw[beq_iff_eq.mp hk];exact⟨yh _,mem_cons_self⟩
  ·obtain⟨h1,h2⟩:=zej r n x c h;exact⟨h1,mem_cons_of_mem _ h2⟩
def zam{names:List (yr×YI)}{n:Nat}{acc:List (yr×yb)}{x:yr}{c:yb}(h:(Yd n names acc).lookup x=some c):(Yd n names []).lookup x=some c\/((Yd n names []).lookup x=none/\acc.lookup x=some c):=by
 rw[z0i,List.lookup_append]at h
 cases e:(Yd n names []).lookup x with
 |none=>rw[e]at h;exact .inr ⟨rfl,h⟩
 |some d=>rw[e]at h;exact .inl h
def zLs{names:List (yr×YI)}{n:Nat}{x:yr}(hn:∀y∈names,names.lookup y.1=some y.2)(h:(x,yo)∈names):(Yd n names []).lookup x=none:=by
 cases e:(Yd n names []).lookup x with
 |none=>rfl
 |some c=>
  have h1:=hn _ (zej _ _ _ _ (yS e)).2;have h2:=hn _ h;rw[h1]at h2;cases h2
def zkq{fp:List yb}{D C:yb}{lo:Nat}{h1:yR}{t:Nat}{mC:yr->Option Value}{oD:Yw}(I:Inv X pins σ H s)(hf:∀b∈fp,zQm X pins H b)(hfl:∀b∈fp,b<s.heap.objs.size)
 (hk:scope.kind=.function) (hnm:∀y∈scope.names,scope.names.lookup y.1=some y.2) (hfree:∀x∈scope.names,x.2=.free->(X.env.kindOf x.1=some .cell\/X.env.kindOf x.1=some .free))
 (hfr:∀i∈fr,∃x,X.N[i]?=some x/\scope.names.lookup x=some .free) (hlo:C<lo) (hOC:CellsOk h1 lo (Yd lo scope.names []))
 (old:∀b o,s.heap.get? b=some o->h1.get? b=some o) (hD:s.heap.objs.size<=D) (hC:s.heap.objs.size<=C) (hDC:D≠C) (hDlo:D<lo) (eD:h1.get? D=some oD) (dD:∀v,oD.data≠.cell v) (nC:h1.Ns C mC) :
 Inv (cxC X own fr scope (Yd lo scope.names (zNb X.env.cells scope.names [])) C s H fp) (pins++[(D,oD)]) (σC own.length fr σ) H {s with heap:=h1,toks:=t }:=by
 have cl1:∀x c,(zNb X.env.cells scope.names []).lookup x=some c->X.env.cells.lookup x=some c:=λx c e=>by
  rcases zPj _ _ e with q|q
  ·cases q
  ·exact q
 have clH:∀x,(x,yo)∈scope.names->∃c,(Yd lo scope.names (zNb X.env.cells scope.names [])).lookup x=some c/\X.env.cells.lookup x=some c:=λx hx=>by
  obtain⟨c,hc⟩:=I.ok.has x (hfree _ hx rfl);obtain⟨c',hc'⟩:=Option.isSome_iff_exists.mp (zBr hc scope.names [] hx);exact⟨c',by rw[z0i,List.lookup_append,zLs hnm hx];exact hc',cl1 _ _ hc'⟩
 have two:∀x c,(Yd lo scope.names (zNb X.env.cells scope.names [])).lookup x=some c->((Yd lo scope.names []).lookup x=some c/\lo<=c)\/X.env.cells.lookup x=some c:=λx c e=>by
  rcases zam e with q|⟨_,q⟩
  ·exact .inl ⟨q,(zej _ _ _ _ (yS q)).1⟩
  ·exact .inr (cl1 _ _ q)
 have oldc:∀x c,X.env.cells.lookup x=some c->c<s.heap.objs.size:=λx c e=>by
  obtain⟨v,o,ho,_⟩:=I.cell x c e;exact ym ho
 have hslo:s.heap.objs.size<=lo:=yA hC (YN hlo)
 refine⟨⟨I.ok.mod,hk,I.ok.glob,I.ok.blt,hC,λx y c e1 e2=>?inj,λx hx=>?_,λx c hx e=>?cab,I.ok.hd,I.ok.frames,.inl rfl,λb hb=>⟨?_,λx c e=>?exf⟩,I.bs,yA I.ok.bsz I.sz,λb o e hb=>?_,λb hb=>?_,I.stack,I.TF⟩,
  rfl,I.bare,Un.kept old,⟨mC,nC,λi x v h1 h2 h3=>?_⟩,λx c e=>?cell,I.hok.fresh hC,λx c e=>?freeC,λp hp=>?_,I.hok.kept old,?_⟩
 case inj=>
  rcases two x c e1 with ⟨q1,l1⟩|q1
  ·rcases two y c e2 with ⟨q2,_⟩|q2
   ·exact name_of_addr hOC.apart (yS q1) (yS q2)
   ·exact absurd (yv (oldc y c q2) (yA hslo l1)) (yQ _)
  ·rcases two y c e2 with ⟨_,l2⟩|q2
   ·exact absurd (yv (oldc x c q1) (yA hslo l2)) (yQ _)
   ·exact I.ok.inj x y c q1 q2
 case cab=>
  have hx:(scope.names.lookup x==some .cell)=true:=hx;obtain⟨d,hd⟩:=Option.isSome_iff_exists.mp (W.cellsFrom_some scope.names lo [] (.inl (beq_iff_eq.mp hx)));rcases zam (show(Yd lo scope.names (zNb X.env.cells scope.names [])).lookup x=some c from e) with q|⟨q,_⟩
  ·exact yA hslo (zej _ _ _ _ (yS q)).1
  ·rw[q]at hd;cases hd
 case exf=>
  rcases two x c e with ⟨_,l⟩|q
  ·exact Ym (yv (hfl b hb) (yA hslo l))
  ·exact(hf b hb).2.2.2.2.1 x c q
 case cell=>
  rcases two x c e with ⟨q,_⟩|q
  ·exact⟨none,(hOC.empty x c (yS q)).1⟩
  ·obtain⟨v,o,ho,hd⟩:=I.cell x c q;exact⟨v,o,old _ _ ho,hd⟩
 case freeC=>
  rcases two x c e with ⟨_,l⟩|q
  ·exact I.hok.fresh (yA hslo l)
  ·exact I.freeC x c q
 ·have hx':(relabel scope X.env).names.lookup x=some .cell\/(relabel scope X.env).names.lookup x=some .free:=hx
  have hm:(x,yo)∈scope.names\/(x,yK)∈scope.names:=by
   rcases hx' with h|h
   ·exact zWd (env:=X.env) h (.inl rfl)
   ·exact zWd (env:=X.env) h (.inr rfl)
  rcases hm with hm|hm
  ·obtain⟨c,e,_⟩:=clH x hm;exact⟨c,e⟩
  ·exact Option.isSome_iff_exists.mp (W.cellsFrom_some scope.names lo _ (.inl (hnm _ hm)))
 ·exact yw (yv (hfl b hb) hC)
 ·rcases(hf b hb).2.2.2.1 with z|z
  ·exact I.ok.Sb b o e z
  ·exact absurd (yv (ym e) (yA I.ok.bsz z)) (yQ _)
 ·exact zFl I (hf b hb).2.1 (hf b hb).2.2.1
 ·obtain⟨hi,j,e1,e2⟩:=σC_get h2;have hjm:j∈fr:=mem_of_getElem? e1;obtain⟨y,ey,ly⟩:=hfr j hjm
  have hxy:x=y:=by
   have h1':(own++fr.map λi=>X.N.getD i Str.empty)[i]?=some x:=h1;rw[yE hi,yn,e1]at h1';have h1'':X.N.getD j Str.empty=x:=yU h1';rw[getD_eq_getElem?_getD,ey]at h1'';exact h1''.symm
  subst hxy;have hm:(x,yo)∈scope.names:=yS ly
  have hv:Vis X.env.scope x:=by
   rcases hfree _ hm rfl with q|q
   ·exact .inr (.inl q)
   ·exact .inr (.inr q)
  obtain⟨m,hn,hl⟩:=id I.loc;obtain⟨u,ru,q⟩:=hl j x v ey e2 hv;obtain⟨c,c1,c2⟩:=clH x hm;refine⟨u,ru,.inr ⟨zWg (env:=X.env) ly,c,c1,?_⟩⟩;rcases q with ⟨k,_⟩|⟨k,c',e',z⟩
  ·rcases hfree _ hm rfl with q|q
   ·rw[show X.env.kindOf (x,yo).1=X.env.kindOf x from rfl,k]at q;cases q
   ·rw[show X.env.kindOf (x,yo).1=X.env.kindOf x from rfl,k]at q;cases q
  ·rw[c2]at e';cases e';obtain⟨o,ho,hd⟩:=z;exact⟨o,old _ _ ho,hd⟩
 ·have hp':p∈X.pn++(pins++[(D,oD)]):=hp;rw[<-append_assoc]at hp';rcases List.mem_append.mp hp' with hp'|hp'
  ·obtain⟨a1,a2,a3,a4,a5⟩:=I.pin p hp';exact⟨old _ _ a1,a2,yw (yv (ym a1) hC),zFl I a3 a4,a5⟩
  ·have:p=(D,oD):=by simpa using hp'
   subst this;refine⟨eD,I.hok.fresh hD,hDC,λz=>?_,dD⟩;rcases List.mem_cons.mp (I.sx _ z) with z|z
   ·exact absurd (yv I.lt (z▸hD)) (yQ _)
   ·exact I.nofs hD z
 ·show(σC own.length fr σ).length=(own++fr.map λi=>X.N.getD i Str.empty).length;unfold σC;simp
end
def HOk.track{P:yu}{w:yI}{H:Hp}{h:yR}{a:yb}{o:HO}(x:HOk P w H h)(hn:H a=none)(new:tF P w (upd H a o) h a o):HOk P w (upd H a o) h:=λb u e=>by
 by_cases hb:b=a
 ·subst hb;rw[zt]at e;cases e;exact new
 ·rw[zr hb]at e;exact(x b u e).stay (λc v _ q=>q) (λc q=>by rw[zr (zE q hn)];exact q) λc xs q=>by rw[zr (zE q hn)];exact q
def newEnvC{M:Model}{A:yJ}{E:Value->yd->Prop}{s:yd}{scope:xG}{globals:yb}{cl:List (yr×yb)}{qual:yr}{env:Env}{Q:Env->yd->Prop}
 (hQ:Q (newEnv scope s.heap.objs.size globals (Yd (s.heap.objs.size+1) scope.names cl) qual none .none (some env) builtinsNs) {s with heap:=pushCells (s.heap.push {cls:=.type "dict",data:=.dict #[]}) scope.names }) :
 yq M A (newFunctionEnv scope globals cl [] qual none .none (some env)) Q E s:=by
 simp only[newFunctionEnv,Option.isSome_some,if_true];refine ya (wpAny_alloc ?_);refine ya (wpAny_layCells _ (λname kind cells=>by cases hkc:kind==yK<;>simp[hkc]) _ _ _ _ ?_);rw[show({s with heap:=s.heap.push {cls:=.type "dict",data:=.dict #[]}}:yd).heap.objs.size=s.heap.objs.size+1 from YH ..];refine ya ?_;rw[List.forIn_nil];exact yp (yp hQ)
section
variable {X:Cx}{own:List yr}{fr:List Nat}{scope:xG}
structure sR(X:Cx)(pins:List (yb×Yw))(σ:L2.St)(H:Hp)(ys:List V)(D C:yb)(s:yd):Prop where
 inv:Inv X pins σ (upd H D (.lst ys)) s
 free:H D=none
 freeC:upd H D (.lst ys) C=none
 own:∃m,s.heap.Ns C m
 notL:C≠X.env.locals
 young:X.s₀.heap.objs.size<=C
 sB:∀x c,X.env.cells.lookup x=some c->c≠C
 Si:∀p∈X.pn++pins,p.1≠C
def zdo{elt tg iter:yz}{ifs:List yz}{pos:YR}{g:TG}{tc:TT}{te:TE}{pins:List (yb×Yw)}{σ:L2.St}{s2:yd}{Qn:List V->Hp->Prop}{itv:Value}{RR:Value->yb->Result->yd->Prop}(own:List yr)(fr:List Nat)(hc:X.calm=true)
 (hg:∀cl C s₀ H₀ fp,PG (cxC X own fr scope cl C s₀ H₀ fp) tg g) (hq:∀cl C s₀ H₀ fp,PF (cxC X own fr scope cl C s₀ H₀ fp) ifs tc) (he:∀cl C s₀ H₀ fp,PE (cxC X own fr scope cl C s₀ H₀ fp) elt te)
 (hk:scope.kind=.function) (hnm:∀y∈scope.names,scope.names.lookup y.1=some y.2)
 (hfree:∀x∈scope.names,x.2=.free->(X.env.kindOf x.1=some .cell\/X.env.kindOf x.1=some .free)) (hfr:∀i∈fr,∃x,X.N[i]?=some x/\scope.names.lookup x=some .free)
 (h2:PIE X pins σ tg (λJ H1=>∃W:Nat->Nat->List V->Hp->Prop,(∃m,W 0 m [] H1)/\∀i m ys H,W i m ys H ->
  (J.stop i H/\Qn ys H)\/(J.go i H/\ys.length<yC/\∀x H',J.yld i H x H'->g x (σC own.length fr σ) H' λσ2 H2=>zps (σC own.length fr σ) σ2/\tc σ2 H2 λb H3=>
   if b=true then te σ2 H3 λy H4=>∃m',m'<m/\W (i+1) m' (ys++[y]) H4 else ∃m',m'<m/\W (i+1) m' ys H3)) itv s2)
 (fin:∀ys H D C s4,Qn ys H->sR X pins σ H ys D C s4->RR (.ref D) C (.ok .next) s4) :
 yq (yy X.prog X.w) X.A (newList []) (λacc s₃=>yq (yy X.prog X.w) X.A (newFunctionEnv scope X.env.globals (zNb X.env.cells scope.names []) [] X.env.qual none .none (some X.env)) (λcenv s₄=>
  codeAny (yy X.prog X.w) X.A (.compStart (.ListComp elt [⟨tg,iter,ifs,0⟩] scope pos) 0 itv acc {cenv with scope:=relabel scope X.env }) (RR acc cenv.locals) s₄) X.xe s₃) X.xe s2:=by
 obtain⟨it,fp,tn,J,H2,e,I2,T,st2,f2,W,⟨m0,w0⟩,turn⟩:=h2;subst e
 have hfl:∀b∈fp,b<s2.heap.objs.size:=λb hb=>by
  obtain⟨o,e,_⟩:=T.obj _ _ st2 b hb;exact ym e
 refine xb (newEnvC ?_);dsimp only;generalize hH2:s2.heap.push {cls:=.type "list",dict:=none,data:=.seq ([]:List Value).toArray } = G2;have hC:G2.objs.size=s2.heap.objs.size+1:=by rw[<-hH2,YH]
 have hDC:s2.heap.objs.size≠G2.objs.size:=by rw[hC];exact yw (YE _)
 have hCle:s2.heap.objs.size<=G2.objs.size:=by rw[hC];exact Nat.le_succ _
 have below:∀b,b<s2.heap.objs.size->b≠G2.objs.size/\b≠s2.heap.objs.size:=λb hb=>⟨by rw[hC];exact yw (Nat.lt_succ_of_lt hb),yw hb⟩
 have hns₁:(pushCells (G2.push {cls:=.type "dict",data:=.dict #[]}) scope.names).Ns G2.objs.size (λ_=>none):=(Heap.Ns.new G2 (.type "dict")).keeps λb o e=>pushCells_keeps _ _ _ _ e
 have hok₁:CellsOk (pushCells (G2.push {cls:=.type "dict",data:=.dict #[]}) scope.names) (G2.objs.size+1) (Yd (G2.objs.size+1) scope.names []):=by
  have:=cellsFrom_ok scope.names (G2.push {cls:=.type "dict",data:=.dict #[]}) (G2.objs.size+1) [] ⟨λ_ _ hm=>(nomatch hm),List.Pairwise.nil⟩ (by rw[YH];exact yh _);rw[YH]at this;exact this
 have hk₁:∀b o,G2.get? b=some o->(pushCells (G2.push {cls:=.type "dict",data:=.dict #[]}) scope.names).get? b=some o:=λb o e=>pushCells_keeps _ _ _ _ (ye _ e);generalize pushCells (G2.push {cls:=.type "dict",data:=.dict #[]}) scope.names=h₁ at hns₁ hok₁ hk₁ ⊢;have old:∀b o,s2.heap.get? b=some o->h₁.get? b=some o:=λb o e=>hk₁ b o (hH2▸ye _ e);have hacc:h₁.get? s2.heap.objs.size=some {cls:=.type "list",data:=.seq ([]:List Value).toArray 0 }:=hk₁ _ _ (hH2▸yx _ rfl);generalize hXC:cxC X own fr scope (Yd (G2.objs.size+1) scope.names (zNb X.env.cells scope.names [])) G2.objs.size s2 H2 fp=XC;have eenv:compEnvC scope (Yd (G2.objs.size+1) scope.names (zNb X.env.cells scope.names [])) G2.objs.size X.env=XC.env:=by rw[<-hXC];rfl
 have eprog:XC.prog=X.prog:=by rw[<-hXC];rfl
 have ew:XC.w=X.w:=by rw[<-hXC];rfl
 have eA:XC.A=X.A:=by rw[<-hXC];rfl
 have eK:XC.K=X.K:=by rw[<-hXC];rfl
 have ecalm:XC.calm=true:=by rw[<-hXC];exact hc
 have exe:XC.xe=λ_ _=>False:=by rw[<-hXC];rfl
 have eloc:XC.env.locals=G2.objs.size:=by rw[<-hXC];rfl
 have eex:XC.ex=fp:=by rw[<-hXC];rfl
 have efs:XC.fs=frs X.stack:=by rw[<-hXC];rfl
 have es0:XC.s₀=s2:=by rw[<-hXC];rfl
 have eH0:XC.H₀=H2:=by rw[<-hXC];rfl
 have epn:XC.pn=X.pn:=by rw[<-hXC];rfl
 have ecells:∀x c,XC.env.cells.lookup x=some c->X.env.cells.lookup x=some c\/G2.objs.size<c:=λx c e=>by
  rw[<-hXC]at e;rcases zam (show(Yd (G2.objs.size+1) scope.names (zNb X.env.cells scope.names [])).lookup x=some c from e) with q|⟨_,q⟩
  ·exact .inr (zej _ _ _ _ (yS q)).1
  ·rcases zPj _ _ q with q|q
   ·cases q
   ·exact .inl q
 have hg':PG XC tg g:=hXC▸hg _ _ _ _ _;have hq':PF XC ifs tc:=hXC▸hq _ _ _ _ _;have he':PE XC elt te:=hXC▸he _ _ _ _ _
 have fpok:∀{H':Hp} {pl:List (yb×Yw)},(∀b∈fp,H' b=none)->(∀p∈pl,p.1=s2.heap.objs.size)->∀b∈fp,zQm XC (pins++pl) H' b:=λ{H' pl} hn hpl b hb=>by
  obtain⟨_,f2,f3,f4,f5,f6⟩:=f2 b hb;refine⟨hn b hb,by rw[eloc];exact(below b (hfl b hb)).1,by rw[efs];exact zFl I2 f2 f3,.inl (by rw[eex];exact hb),λx c e=>?c5,λp hp=>?_⟩
  case c5=>
   rcases ecells x c e with q|q
   ·exact f5 x c q
   ·exact Ym (yv (hfl b hb) (yA hCle (YN q)))
  rw[epn,<-append_assoc]at hp;rcases List.mem_append.mp hp with hp|hp
  ·exact f6 p hp
  ·rw[hpl p hp];exact yM (below b (hfl b hb)).2
 have loop:∀s₃:yd,s₃ = {s2 with heap:=h₁ } ->
  codeAny (yy X.prog X.w) X.A (.compLoop (.ListComp elt [⟨tg,iter,ifs,0⟩] scope pos) 0 (.ref it) (.ref s2.heap.objs.size) (compEnvC scope (Yd (G2.objs.size+1) scope.names (zNb X.env.cells scope.names [])) G2.objs.size X.env))
   (RR (.ref s2.heap.objs.size) G2.objs.size) s₃:=by
  rintro s₃ rfl;have I0:=zkq (own:=own) (fr:=fr) (t:=s2.toks) (lo:=G2.objs.size+1) I2 f2 hfl hk hnm hfree hfr (YE _) hok₁ old (yh _) hCle hDC (Nat.lt_succ_of_le hCle) hacc (by intro v z;cases z) hns₁;rw[hXC]at I0
  refine zqk (λn s'=>∃(i:Nat)(ys:List V)(its:Array Value)(k:Nat)(H':Hp),Inv XC (pins++[(s2.heap.objs.size,({cls:=.type "list",data:=.seq its k }:Yw))]) (σC own.length fr σ) H' s'/\Vals ys its.toList/\ys.length<=yC/\tn i s'.heap/\(∀b∈fp,H' b=none)/\W i n ys H') ?_ m0
   ⟨0,[],#[],0,H2,I0,.nil,Yo _,T.keep _ _ _ st2 (λb hb o e=>old b o e),λb hb=>(f2 b hb).1,w0⟩
  rintro n s3 ⟨i,ys,its,kk,H3,I3,rv,hz,st3,fr3,w3⟩
  have pl1:∀p∈[(s2.heap.objs.size,({cls:=.type "list",data:=.seq its kk }:Yw))],p.1=s2.heap.objs.size:=λp hp=>by
   rw[List.mem_singleton.mp hp]
  rcases turn i n ys H3 w3 with ⟨stop,qn⟩|⟨go,hlt,step⟩
  ·have td:=T.done XC eprog ew eK ecalm i _ s3 _ H3 (λ_ _=>False) I3 (fpok fr3 pl1) st3 stop;rw[eA]at td;refine thn td λr s4 ⟨hr,I4⟩=>?_;subst hr;obtain⟨m,hn,_⟩:=id I4.loc;rw[eloc]at hn;obtain⟨p1,p2,p3,p4,p5⟩:=I4.pin (s2.heap.objs.size,_) (mem_append_right _ (mem_append_right _ mem_cons_self));have hnC:H3 G2.objs.size=none:=by have:=I4.free;rw[eloc]at this;exact this
   have hokf:HOk X.prog X.w (upd H3 s2.heap.objs.size (.lst ys)) s4.heap:=by
    refine HOk.track (by have:=I4.hok;rw[eprog,ew]at this;exact this) p2 ⟨hz,its.toList,kk,rv,by simpa using p1⟩
   have u0:Un (frs X.stack) fp H2 H3 s2.heap s4.heap:=by
    have:=I4.base;rw[efs,eex,es0,eH0]at this;exact this
   have u1:Un (frs X.stack) fp H2 (upd H3 s2.heap.objs.size (.lst ys)) s2.heap s4.heap:=by
    have bd:∀b o,s2.heap.get? b=some o->b≠s2.heap.objs.size:=λb o e=>(below b (ym e)).2;refine⟨u0.keep,u0.slot,λb o e n hx=>by rw[zr (bd b o e)];exact u0.free b o e n hx,u0.there,λb xs e=>?_,λb o u e=>?_,λb ps e=>?_⟩
    ·have q:=u0.tups b xs e;rw[zr (zE q p2)];exact q
    ·have q:=u0.Tq b o u e;rw[zr (zE q p2)];exact q
    ·obtain⟨more,q⟩:=u0.Tw b ps e;exact⟨more,by rw[zr (zE q p2)];exact q⟩
   have os4:s4.os=s2.os:=by have:=I4.os;rw[es0]at this;exact this
   have IF:Inv X pins σ (upd H3 s2.heap.objs.size (.lst ys)) {s2 with heap:=s4.heap,gens:=s4.gens,drawn:=s4.drawn,toks:=s4.toks } :=
    I2.call (h':=s4.heap) (ch:=fp) u1 hokf I4.bare λb hb=>by
     obtain⟨_,f2,f3,f4,f5,f6⟩:=f2 b hb;exact⟨f4,f2,f5,f6⟩
   have es:s4 = {s2 with heap:=s4.heap,gens:=s4.gens,drawn:=s4.drawn,toks:=s4.toks }:=by
    obtain⟨a1,a2,a3,a4,a5⟩:=s4;have:a5=s2.os:=os4;subst this;rfl
   rw[<-es]at IF;refine fin ys H3 _ _ s4 qn ⟨IF,p2,by rw[zr (yM hDC)];exact hnC,⟨m,hn⟩,yM (below _ I2.lt).1,yA I2.sz hCle,λx c e=>?_,λp hp=>?_⟩
   ·obtain⟨v,o,ho,_⟩:=I2.cell x c e;exact(below c (ym ho)).1
   ·exact(below p.1 (ym (I2.pin p hp).1)).1
  ·have td:=T.item XC eprog ew eK ecalm i _ s3 _ H3 (λ_ _=>False) I3 (fpok fr3 pl1) st3 go;rw[eA]at td;refine thn td λr s4 ⟨u,hr,h4⟩=>?_;subst hr;refine thn h4 λ_ s5 ⟨x,H5,I5,r5,y5,st5,fr5⟩=>?_;have I5':=I5.pinned (fpok fr5 pl1) (T.obj _ _ st5);have hgw:=hg' _ s5 _ H5 x u _ I5' r5 (step x H5 y5);rw[exe,eprog,ew,eA]at hgw;rw[eenv];refine thn hgw λ_ s6 ⟨σ6,H6,I6,⟨hsl,hsub⟩,q6⟩=>?_;have hqw:=hq' _ s6 σ6 H6 _ I6 q6;rw[exe,eprog,ew,eA]at hqw;refine thn hqw λok s7 ⟨H7,I7,q7⟩=>?_
   have back:∀{H8:Hp} {s8:yd},Inv XC (pins++[(s2.heap.objs.size,({cls:=.type "list",data:=.seq its kk }:Yw))]++zEk fp s5.heap) σ6 H8 s8 ->
    Inv XC (pins++[(s2.heap.objs.size,({cls:=.type "list",data:=.seq its kk }:Yw))]) (σC own.length fr σ) H8 s8/\tn (i+1) s8.heap/\∀b∈fp,H8 b=none:=λ{H8 s8} I8=>by
    refine⟨I8.Tx.weak hsl.symm hsub,T.keep _ _ _ st5 λb hb o e=>(I8.pin (b,o) (mem_append_right _ (mem_append_right _ (z0e hb e)))).1,λb hb=>?_⟩;obtain⟨o,e,d⟩:=T.obj _ _ st5 b hb;exact(I8.pin (b,o) (mem_append_right _ (mem_append_right _ (z0e hb e)))).2.1
   cases ok with
   |false=>
    have q7':∃m',m'<n/\W (i+1) m' ys H7:=by simpa using q7
    rw[if_neg yB];obtain⟨m',hm,w7⟩:=q7';obtain⟨J1,J2,J3⟩:=back I7;exact⟨m',hm,i+1,ys,its,kk,H7,J1,rv,hz,J2,J3,w7⟩
   |true=>
    rw[if_pos rfl]at q7 ⊢;have hew:=he' _ s7 σ6 H7 _ I7 q7;rw[exe,eprog,ew,eA]at hew;refine thn hew λy s8 ⟨vy,H8,I8,r8,m',hm,w8⟩=>?_;obtain⟨J1,J2,J3⟩:=back I8;obtain⟨p1,p2,p3,p4,p5⟩:=J1.pin (s2.heap.objs.size,_) (mem_append_right _ (mem_append_right _ mem_cons_self));have hil:its.size=ys.length:=by rw[rv.length];simp
    refine append_at (hsz:=by rw[hil];exact hz) p1 λh9 sb9 e9=>?_;have Df:s2.heap.objs.size∉fp:=λz=>absurd (hfl _ z) (yQ _);have J0:Inv XC pins (σC own.length fr σ) H8 s8:=J1.Tx
    have J9:Inv XC pins (σC own.length fr σ) H8 {s8 with heap:=h9 }:=by
     refine J0.turned (t':=s8.toks) (it:=s2.heap.objs.size) (λb o hb e=>(sb9.2 b hb).trans e) p2 p3 (.inr (by rw[es0];exact yh _)) (λx c e z=>?_) (λp hp z=>?_)
     ·rcases ecells x c e with q|q
      ·obtain⟨v,o,ho,_⟩:=I2.cell x c q;exact(below c (ym ho)).2 z
      ·exact Ym (Nat.lt_of_le_of_lt hCle q) z
     ·rw[epn]at hp;exact(below p.1 (ym (I2.pin p hp).1)).2 z
    refine⟨m',hm,i+1,ys++[vy],its.push y,kk+1,H8,J9.sy λp hp=>?_,?_,by simp;exact hlt,T.keep _ _ _ J2 (λb hb o e=>(sb9.2 b (λz=>Df (z▸hb))).trans e),J3,w8⟩
    ·rcases List.mem_append.mp hp with hp|hp
     ·exact J9.pin p (mem_append_right _ hp)
     ·have e:=List.mem_singleton.mp hp;subst e;exact⟨e9,p2,p3,p4,by intro v z;cases z⟩
    ·rw[Array.toList_push];exact rv.append (.cons r8 .nil)
 exact codeAny_compStart_list (loop _ rfl) (T.self X.A 0 _ _ _ (T.keep _ _ _ st2 λb hb o e=>old b o e) (loop _ rfl))
def sR.gone{pins:List (yb×Yw)}{σ:L2.St}{H:Hp}{ys:List V}{D C:yb}{s:yd}(w:sR X pins σ H ys D C s){h':yR}(sb:Yq C s.heap h'):Inv X pins σ (upd H D (.lst ys)) {s with heap:=h' } :=
 w.inv.turned (t':=s.toks) (λb o hb e=>(sb.2 b hb).trans e) w.freeC (yM (yM w.notL)) (.inr w.young) w.sB w.Si
def z9u{elt tg iter:yz}{ifs:List yz}{pos:YR}{wi:TI}{g:TG}{tc:TT}{te:TE}(own:List yr)(fr:List Nat)(hc:X.calm=true)(hi:PI X tg iter wi)
 (hg:∀cl C s₀ H₀ fp,PG (cxC X own fr scope cl C s₀ H₀ fp) tg g) (hq:∀cl C s₀ H₀ fp,PF (cxC X own fr scope cl C s₀ H₀ fp) ifs tc) (he:∀cl C s₀ H₀ fp,PE (cxC X own fr scope cl C s₀ H₀ fp) elt te)
 (hk:scope.kind=.function) (hnm:∀y∈scope.names,scope.names.lookup y.1=some y.2)
 (hfree:∀x∈scope.names,x.2=.free->(X.env.kindOf x.1=some .cell\/X.env.kindOf x.1=some .free)) (hfr:∀i∈fr,∃x,X.N[i]?=some x/\scope.names.lookup x=some .free)
 (hs:∀x,Yy iter X.env x=pure x:=by intro _;rfl):PE X (.ListComp elt [⟨tg,iter,ifs,0⟩] scope pos) (tLC own.length fr wi g tc te):=by
 intro pins s σ H Q I h;rw[eval_ListComp];have hclos:closureFor scope X.env=pure (zNb X.env.cells scope.names []):=zhj λx hx e=>I.ok.has x.1 (hfree x hx e);refine wpAny_comprehension_free (use:=none) rfl hs hclos hk (λx hx e=>by rw[hnm x hx,e]) ?_;show yq _ _ (yV iter X.env) _ _ s;refine thn (hi pins s σ H _ I h) λv s1 h1=>thn h1 λitv s2 h2=>?_;refine zdo (RR:=λacc C=>compPost (yy X.prog X.w) X.A X.xe none (EP X pins σ Q) acc C) own fr hc hg hq he hk hnm hfree hfr h2 λys H3 D C s4 q w=>?_;obtain⟨m,hn⟩:=w.own;exact⟨m,hn,λh' sb=>⟨.ref D,_,w.gone sb,rfl,q D w.free⟩⟩
def zvq{elt tg iter:yz}{ifs:List yz}{pos spos py:YR}{wi:TI}{g:TG}{tc:TT}{te:TE}{y:yr}{i:Nat}(own:List yr)(fr:List Nat)(hN:X.N.Nodup)(hiN:X.N[i]?=some y)(hy:X.env.scope.names.lookup y=some .local)(hc:X.calm=true)(hi:PI X tg iter wi)
 (hsw:xk (.ListComp elt [⟨tg,iter,ifs,0⟩] scope pos) (some (.Name y py)) spos.line X.env=pure true)
 (hg:∀cl C s₀ H₀ fp,PG (cxC X own fr scope cl C s₀ H₀ fp) tg g) (hq:∀cl C s₀ H₀ fp,PF (cxC X own fr scope cl C s₀ H₀ fp) ifs tc) (he:∀cl C s₀ H₀ fp,PE (cxC X own fr scope cl C s₀ H₀ fp) elt te)
 (hk:scope.kind=.function) (hnm:∀y∈scope.names,scope.names.lookup y.1=some y.2)
 (hfree:∀x∈scope.names,x.2=.free->(X.env.kindOf x.1=some .cell\/X.env.kindOf x.1=some .free)) (hfr:∀i∈fr,∃x,X.N[i]?=some x/\scope.names.lookup x=some .free)
 (hs:∀x,Yy iter X.env x=pure x:=by intro _;rfl):PS X (.Assign [.Name y py] (.ListComp elt [⟨tg,iter,ifs,0⟩] scope pos) spos) (z1u (tLC own.length fr wi g tc te) (zws i)):=by
 intro pins s σ H E I h;rw[exec_Assign_Name_used _ _ _ _ hsw];refine ya (Yx (ya ?_));have hclos:closureFor scope X.env=pure (zNb X.env.cells scope.names []):=zhj λx hx e=>I.ok.has x.1 (hfree x hx e);show yq _ X.A (do let _ <-comprehension (.ListComp elt [⟨tg,iter,ifs,0⟩] scope pos) scope X.env _ (newList []) false (yV iter X.env) (some (assign (.Name y py) X.env))) _ _ s;refine ya (yT (wpAny_comprehension_free (use:=some (assign (.Name y py) X.env)) (Q:=λ_ s'=>SP X pins E .next s') rfl hs hclos hk (λx hx e=>by rw[hnm x hx,e]) ?_) (λ_ s' hq=>yp (yp hq)) λ_ _ e=>e);show yq _ _ (yV iter X.env) _ _ s;refine thn (hi pins s σ H _ I h) λv s1 h1=>thn h1 λitv s2 h2=>?_;refine zdo (RR:=λacc C=>compPost (yy X.prog X.w) X.A X.xe (some (assign (.Name y py) X.env)) (λ_ s'=>SP X pins E .next s') acc C) own fr hc hg hq he hk hnm hfree hfr h2 λys H3 D C s4 q w=>?_;show yq _ X.A (assign (.Name y py) X.env (.ref D)) _ _ s4;obtain⟨m,hn⟩:=w.own;refine wpAny_assign_Name (zQk (v:=V.ref D) w.inv hN hiN (.inl hy) rfl (λs5 I5 ⟨a,sb,ha⟩=>?_) (.inr hy))
 have haC:C≠a:=by
  rcases ha with e|e
  ·rw[e];exact w.notL
  ·exact yM (w.sB y a e)
 refine⟨m,hn.sameBut sb haC,λh' sb'=>?_⟩;refine⟨_,_,I5.turned (t':=s5.toks) (λb o hb e=>(sb'.2 b hb).trans e) w.freeC w.notL (.inr w.young) w.sB w.Si,q D w.free⟩
end
section
variable {K:yt}{ρ ρ1:List yb}{H H1:Hp}
def so.ext{W:XK}{E:Ends}{o:Out}(h:so K W ρ H E o)(x:Ext ρ H ρ1 H1):so K W ρ1 H1 E o:=by
 cases o with
 |next δ μ=>exact λρ' σ' H' x' A=>h ρ' σ' H' (x.trans x') A
 |brk δ μ=>exact λρ' σ' H' x' A=>h ρ' σ' H' (x.trans x') A
 |cont δ μ=>exact λρ' σ' H' x' A=>h ρ' σ' H' (x.trans x') A
 |ret d μ=>exact λρ' v H' x' R r=>h ρ' v H' (x.trans x') R r
 |exc c fs μ=>exact λρ' H' C dx hc x' R r=>h ρ' H' C dx hc (x.trans x') R r
def At.set{σ:L2.St}{δ:Loc}{μ:Mem}{d:D}{v:V}(A:At K ρ H σ δ μ)(r:tm K ρ H d v)(i:Nat):At K ρ H (σ.set i (some v)) (δ.set i (some d)) μ:=by
 refine⟨λj d' e=>?_,A.hp,by simp[A.len]⟩
 by_cases hj:j=i
 ·subst hj
  have hl:j<δ.length:=by
   have:=(List.getElem?_eq_some_iff.mp e).1;simpa using this
  rw[yO hl]at e;cases e;exact⟨v,by rw[yO (by rw[A.len];exact hl)],r⟩
 ·rw[yP (yM hj)]at e;obtain⟨u,e1,q⟩:=A.st j d' e;exact⟨u,by rw[yP (yM hj)];exact e1,q⟩
end
section
variable {X:Cx}{a b c e:yz}{es:List yz}{φ ψ χ:FE}{pos:YR}{st:yX}{rest:List yX}
@[simp] def zCc:FS:=λδ μ=>some (.next δ μ)
@[simp] def znb(p q:FS):FS:=λδ μ=>match p δ μ with
 |some (.next δ' μ')=>q δ' μ'
 |o=>o
def zpb:MSs X [] zCc:=zlr zqs λρ δ μ σ H o E A e k=>by
 cases e;exact k ρ σ H Ext.refl A
def zl{p:FS}(h:MS X st p):MSs X [st] p:=zGo h
def zj{p q:FS}(h1:MS X st p)(h2:MSs X rest q):MSs X (st::rest) (znb p q) :=
 zlr (zqm h1 h2) λρ δ μ σ H o E A e k=>by
  unfold znb at e;show tMS X.K (zDj X) p {E with nx:=tMS X.K (zDj X) q E } σ H
  cases ep:p δ μ with
  |none=>rw[ep]at e;cases e
  |some op=>
   rw[ep]at e;refine⟨ρ,δ,μ,op,A,ep,?_⟩
   cases op with
   |next δ' μ'=>exact λρ' σ' H' x' A'=>⟨ρ',δ',μ',o,A',e,k.ext x'⟩
   |brk δ' μ'=>cases e;exact k
   |cont δ' μ'=>cases e;exact k
   |ret d μ'=>cases e;exact k
   |exc C fs μ'=>cases e;exact k
@[simp] def zUc(φ:FE):FS:=λδ μ=>(φ δ μ).bind λp=>some (.ret p.1 p.2)
def zT(h:ME X e φ):MS X (.Return (some e) pos) (zUc φ):=zIi (z3t h) λρ δ μ σ H o E A e k=>by
 obtain⟨⟨x,μ1⟩,e1,e⟩:=zf e;cases e;exact⟨ρ,δ,μ,x,μ1,A,e1,λρ' H' v x' R r=>k ρ' v H' x' R r⟩
@[simp] def zUl(φ:FE):FS:=λδ μ=>(φ δ μ).bind λp=>some (.next δ p.2)
def zUj(h:ME X e φ)(hs:xk e none pos.line X.env=pure false:=by rfl):MS X (.Expr e pos) (zUl φ):=zIi (zbo h hs) λρ δ μ σ H o E A e k=>by
 obtain⟨⟨x,μ1⟩,e1,e⟩:=zf e;cases e;exact⟨ρ,δ,μ,x,μ1,A,e1,λρ' H' v x' R r=>k ρ' σ H' x' (A.ext x' R)⟩
@[simp] def zDc(i:Nat)(φ:FE):FS:=λδ μ=>(φ δ μ).bind λp=>some (.next (δ.set i (some p.1)) p.2)
def zQ{x:yr}{pos':YR}(i:Nat)(he:ME X e φ)(hN:X.N.Nodup:=by first|assumption|decide)(hi:X.N[i]?=some x:=by rfl)(hx:L2.Loc X.env.scope x:=by first|exact Or.inl rfl|exact Or.inr rfl)(hs:xk e (some (.Name x pos')) pos.line X.env=pure false:=by rfl)
 (hf:X.fn x=true\/X.env.scope.names.lookup x=some .local:=by first|exact .inl rfl|exact .inr rfl|assumption):MS X (.Assign [.Name x pos'] e pos) (zDc i φ):=zIi (zJu hN hi hx he hs hf) λρ δ μ σ H o E A e k=>by
 obtain⟨⟨x,μ1⟩,e1,e⟩:=zf e;cases e;exact⟨ρ,δ,μ,x,μ1,A,e1,λρ' H' v x' R r=>k ρ' _ H' x' ((A.ext x' R).set r i)⟩
@[simp] def sIf(c:FT)(p q:FS):FS:=λδ μ=>(c δ μ).bind λt=>bif t.1 then p δ t.2 else q δ t.2
def z6c{s1 s2:List yX}{t:FT}{p q:FS}(hc:MT X c t)(h1:MSs X s1 p)(h2:MSs X s2 q):MS X (.If c s1 s2 pos) (sIf t p q):=zIi (zbv hc h1 h2) λρ δ μ σ H o E A e k=>by
 obtain⟨⟨x,μ1⟩,e1,e⟩:=zf e;refine⟨ρ,δ,μ,x,μ1,A,e1,λρ' H' x' R=>?_⟩
 cases x with
 |true=>exact sQ ⟨ρ',δ,μ1,o,A.ext x' R,e,k.ext x'⟩
 |false=>exact sP ⟨ρ',δ,μ1,o,A.ext x' R,e,k.ext x'⟩
abbrev FG:=D->Loc->Mem->Option (Loc×Mem)
abbrev FGs:=List D->Loc->Mem->Option (Loc×Mem)
def tMG(K:yt)(g:FG):TG:=λv σ H Q=>∃ρ δ μ d δ' μ',At K ρ H σ δ μ/\tm K ρ H d v/\g d δ μ=some (δ',μ')/\∀ρ' σ' H',Ext ρ H ρ' H'->At K ρ' H' σ' δ' μ'->Q σ' H'
def zmw(K:yt)(g:FGs):TGs:=λvs σ H Q=>∃ρ δ μ ds δ' μ',At K ρ H σ δ μ/\tf K ρ H ds vs/\g ds δ μ=some (δ',μ')/\∀ρ' σ' H',Ext ρ H ρ' H'->At K ρ' H' σ' δ' μ'->Q σ' H'
def MG(X:Cx)(t:yz)(g:FG):Prop:=PG X t (tMG X.K g)
def MGs(X:Cx)(t:List yz)(g:FGs):Prop:=PGs X t (zmw X.K g)
def mg_of{t:yz}{tt:TG}{g:FG}(h:PG X t tt)(w:∀ρ δ μ d δ' μ' v σ H Q,At X.K ρ H σ δ μ->tm X.K ρ H d v->g d δ μ=some (δ',μ')->(∀ρ' σ' H',Ext ρ H ρ' H'->At X.K ρ' H' σ' δ' μ'->Q σ' H')->tt v σ H Q):MG X t g :=
 by intro pins s σ H v u Q I r hh;obtain⟨ρ,δ,μ,d,δ',μ',A,q,e,k⟩:=hh;exact h pins s σ H v u Q I r (w ρ δ μ d δ' μ' v σ H Q A q e k)
def zrr{t:List yz}{tt:TGs}{g:FGs}(h:PGs X t tt)(w:∀ρ δ μ d δ' μ' v σ H Q,At X.K ρ H σ δ μ->tf X.K ρ H d v->g d δ μ=some (δ',μ')->(∀ρ' σ' H',Ext ρ H ρ' H'->At X.K ρ' H' σ' δ' μ'->Q σ' H')->tt v σ H Q):MGs X t g :=
 by intro pins s σ H v u Q I r hh;obtain⟨ρ,δ,μ,d,δ',μ',A,q,e,k⟩:=hh;exact h pins s σ H v u Q I r (w ρ δ μ d δ' μ' v σ H Q A q e k)
@[simp] def gN(i:Nat):FG:=λd δ μ=>some (δ.set i (some d),μ)
def zec{x:yr}(i:Nat)(hN:X.N.Nodup:=by first|assumption|decide)(hi:X.N[i]?=some x:=by rfl)(hx:L2.Loc X.env.scope x:=by first|exact Or.inl rfl|exact Or.inr rfl)(hf:X.fn x=true\/X.env.scope.names.lookup x=some .local:=by first|exact .inl rfl|exact .inr rfl|assumption):MG X (.Name x pos) (gN i) :=
 mg_of (zZn hN hi hx hf) λρ δ μ d δ' μ' v σ H Q A q e k=>by
  cases e;exact k ρ _ H Ext.refl (A.set q i)
@[simp] def z4g:FGs:=λds δ μ=>match ds with
 |[]=>some (δ,μ)
 |_=>none
@[simp] def zfc(g:FG)(gs:FGs):FGs:=λds δ μ=>match ds with
 |d::r=>(g d δ μ).bind λp=>gs r p.1 p.2
 |_=>none
def zEl:MGs X [] z4g:=zrr zuo λρ δ μ ds δ' μ' vs σ H Q A q e k=>by
 unfold z4g at e
 split at e
 ·cases e;exact⟨q.nil_inv,k ρ σ H Ext.refl A⟩
 ·cases e
def zMd{g:FG}{gs:FGs}(h1:MG X e g)(h2:MGs X es gs)(hs:(Yg (e::es) X.env).map (·.2)=assign e X.env::(Yg es X.env).map (·.2):=by rfl):MGs X (e::es) (zfc g gs) :=
 zrr (zlm h1 h2 hs) λρ δ μ ds δ' μ' vs σ H Q A q e k=>by
  unfold zfc at e
  split at e
  ·obtain⟨⟨δ1,μ1⟩,e1,e⟩:=zf e;obtain⟨v,r,rfl,q1,q2⟩:=q.cons_inv;refine⟨v,r,rfl,ρ,δ,μ,_,δ1,μ1,A,q1,e1,λρ1 σ1 H1 x1 A1=>?_⟩;exact⟨ρ1,δ1,μ1,_,δ',μ',A1,q2.ext x1,e,λρ2 σ2 H2 x2 A2=>k ρ2 σ2 H2 (x1.trans x2) A2⟩
  ·cases e
@[simp] def gT(n:Nat)(gs:FGs):FG:=λd δ μ=>match d with
 |.tup ds=>bif ds.length==n then gs ds δ μ else none
 |_=>none
def zCr{k n:Nat}{gs:FGs}(h:MGs X es gs)(hc:X.calm=true:=by rfl)(hn:(Yg es X.env).length=n:=by rfl)(hst:(Yg es X.env).findIdx? (·.1)=none:=by rfl):MG X (.Tuple es k pos) (gT n gs) :=
 mg_of (zGr hc h hn hst) λρ δ μ d δ' μ' v σ H Q A q e k=>by
  unfold gT at e
  split at e
  ·obtain⟨h1,e⟩:=zR e;obtain⟨a,vs,rfl,e2,q2⟩:=q.tU;exact⟨a,vs,rfl,SqT.of e2,by rw[<-q2.length];exact beq_iff_eq.mp h1,ρ,δ,μ,_,δ',μ',A,q2,e,k⟩
  ·cases e
@[simp] def gAt(φ ψ:FE):FG:=λd δ μ=>(φ δ μ).bind λp=>(ψ δ p.2).bind λq=>match p.1,q.1 with
 |.loc n,.int i=>match q.2[n]? with
  |some (.lst ds)=>(ixN ds.length i).bind λj=>some (δ,q.2.set n (.lst (ds.set j d)))
  |_=>none
 |_,_=>none
def zWs{o i:yz}(ho:ME X o φ)(hi:ME X i ψ)(ha:∀v,assign (.Subscript o i pos) X.env v=(do
 let ov <-YX [v] (yV o X.env)
 let iv <-YX [v,ov] (yV i X.env)
 standAt pos
 YX [v,ov,iv] (setItem ov iv v)
 release [v,ov,iv] []):=by intro _;rfl):MG X (.Subscript o i pos) (gAt φ ψ) :=
 mg_of (zyr ho hi zYp ha) λρ δ μ d δ' μ' v σ H Q A q e k=>by
  obtain⟨⟨x,μ1⟩,e1,e⟩:=zf e;obtain⟨⟨y,μ2⟩,e2,e⟩:=zf e;refine⟨ρ,δ,μ,x,μ1,A,e1,λρ1 H1 v1 x1 R1 r1=>?_⟩;refine⟨ρ1,δ,μ1,y,μ2,A.ext x1 R1,e2,λρ2 H2 v2 x2 R2 r2=>?_⟩;dsimp only at e
  split at e
  ·split at e
   ·rename_i hm
    obtain⟨j,e3,e⟩:=zf e;cases e;obtain⟨ad,rfl,hr⟩:=(r1.ext x2).tz;obtain⟨vs,hv,q3⟩:=R2.at_ _ _ _ hr hm;have hmu:Mut (H2 ad):=by rw[hv];trivial
    refine⟨ad,vs,_,j,rfl,r2.int_inv,hv,by rw[<-q3.length];exact e3,?_⟩;have xx:=x1.trans x2;have R3:=R2.wr (o:=.lst (vs.set j v)) (lo:=.lst _) hmu hr ⟨_,zt,tf.ext (Ext.wr hmu) (q3.set j (q.ext xx))⟩;exact k ρ2 σ _ (xx.trans (Ext.wr hmu)) (A.ext (xx.trans (Ext.wr hmu)) R3)
   ·cases e
  ·cases e
@[simp] def zSn(φ:FE)(g:FG):FS:=λδ μ=>(φ δ μ).bind λp=>(g p.1 δ p.2).bind λq=>some (.next q.1 q.2)
def zNg{tg:yz}{g:FG}(he:ME X e φ)(hg:MG X tg g)(hs:swapsWithSole [tg] e pos.line X.env=pure false:=by rfl)(hw:swappedStores [tg] e X.env=pure none:=by rfl)
 (h1:(Yg [tg] X.env).map (·.2)=[assign tg X.env]:=by rfl):MS X (.Assign [tg] e pos) (zSn φ g):=zIi (zNt he hg hs hw h1) λρ δ μ σ H o E A e k=>by
 obtain⟨⟨x,μ1⟩,e1,e⟩:=zf e;obtain⟨⟨δ1,μ2⟩,e2,e⟩:=zf e;cases e;refine⟨ρ,δ,μ,x,μ1,A,e1,λρ1 H1 v1 x1 R1 r1=>?_⟩;exact⟨ρ1,δ,μ1,x,δ1,μ2,A.ext x1 R1,r1,e2,λρ2 σ2 H2 x2 A2=>k ρ2 σ2 H2 (x1.trans x2) A2⟩
abbrev FI:=Loc->Mem->Option (List D×(Mem->Bool)×Mem)
structure sS(K:yt)(J:It)(ρ:List yb)(H:Hp)(ds:List D)(ok:Mem->Bool):Prop where
 go:∀ρ' H' μ' (i:Nat),Ext ρ H ρ' H'->tG K ρ' H' μ'->ok μ'=true->i<ds.length->J.go i H'
 yld:∀ρ' H' μ' (i:Nat) x H'' d,Ext ρ H ρ' H'->tG K ρ' H' μ'->ok μ'=true->ds[i]?=some d->J.yld i H' x H''->Ext ρ' H' ρ' H''/\tG K ρ' H'' μ'/\tm K ρ' H'' d x
 stop:∀ρ' H' μ',Ext ρ H ρ' H'->tG K ρ' H' μ'->ok μ'=true->J.stop ds.length H'
def tMI(K:yt)(φ:FI):TI:=λσ H R=>∃ρ δ μ ds ok μ',At K ρ H σ δ μ/\φ δ μ=some (ds,ok,μ')/\∀ρ' H' J,Ext ρ H ρ' H'->tG K ρ' H' μ'->sS K J ρ' H' ds ok->R J H'
def MI(X:Cx)(tg iter:yz)(φ:FI):Prop:=PI X tg iter (tMI X.K φ)
def z4o{tg it:yz}{t:TI}{φ:FI}(h:PI X tg it t)(w:∀ρ δ μ σ H ds ok μ' R,At X.K ρ H σ δ μ->φ δ μ=some (ds,ok,μ')->(∀ρ' H' J,Ext ρ H ρ' H'->tG X.K ρ' H' μ'->sS X.K J ρ' H' ds ok->R J H')->t σ H R):MI X tg it φ :=
 by intro pins s σ H R I hh;obtain⟨ρ,δ,μ,ds,ok,μ',A,e,k⟩:=hh;exact h pins s σ H R I (w ρ δ μ σ H ds ok μ' R A e k)
@[simp] def yes:Mem->Bool:=λ_=>true
@[simp] def zog(φ:FA):FI:=λδ μ=>(φ δ μ).bind λp=>match p.1 with
 |[.int j]=>bif decide (-(2^62)<=j/\j<2^62) then some ((Yc j.toNat).map λ(k:Nat) =>.int k,yes,p.2) else none
 |_=>none
def zxh{tg:yz}{p:YR}{φ:FA}(hm:X.mg "range"=none)(ha:MAn X [a] φ)(hg:Gl X "range":=by rfl)(hs:yf [a] X.env=[(false,yV a X.env)]:=by rfl):MI X tg (.Call (.Name "range" p) [a] [] pos) (zog φ) :=
 z4o (zOp hg hm ha.ma hs) λρ δ μ σ H ds ok μ' R A e k=>by
  obtain⟨⟨x,μ1⟩,e1,e⟩:=zf e;refine⟨ρ,δ,μ,x,μ1,A,e1,λρ1 H1 v1 x1 R1 r1=>?_⟩;dsimp only at e
  split at e
  ·rename_i j
   obtain⟨h1,e⟩:=zR e;have h2:=of_decide_eq_true h1;cases e;obtain⟨w,r,rfl,q1,q2⟩:=r1.cons_inv;refine⟨j,by rw[q1.int_inv,q2.nil_inv],h2.1,h2.2,k ρ1 H1 _ x1 R1 ⟨λρ' H' μ' i _ _ _ h=>by rw[length_map,length_range]at h;exact h,λρ' H' μ' i x H'' d _ RR _ e ⟨y1,y2⟩=>⟨y1▸Ext.refl,y1▸RR,?_⟩,λρ' H' μ' _ _ _=>by show j.toNat<=_;simp⟩⟩;rw[yn]at e
   cases e3:(Yc j.toNat)[i]? with
   |none=>rw[e3]at e;cases e
   |some m=>
    rw[e3]at e
    have hmi:m=i:=by
     obtain⟨w1,w2⟩:=List.getElem?_eq_some_iff.mp e3;simpa using w2.symm
    subst hmi;have e':D.int (m:Nat)=d:=yU e;subst e';rw[y2,show(0:Int)+(m:Nat)=(m:Int) by omega];exact .int
  ·cases e
def ztr{K:yt}{ρ:List yb}{H:Hp}{a:yb}{vs:List V}{ds:List D}(h:H a=some (.tup vs))(r:tf K ρ H ds vs):sS K (Itt K a) ρ H ds yes:=by
 refine⟨λρ' H' μ' i x R _ hi=>?_,λρ' H' μ' i x H'' d x' R _ e ⟨y1,y2⟩=>⟨y1▸Ext.refl,y1▸R,y1▸?_⟩,λρ' H' μ' x R _=>⟨vs,SqT.of (x.tup _ _ h),by rw[r.length];exact yh _⟩⟩
 ·have hi':i<vs.length:=by rw[<-r.length];exact hi
  exact⟨vs,vs[i],SqT.of (x.tup _ _ h),by simp[hi']⟩
 ·have q:=y2 vs (SqT.of (x'.tup _ _ h));obtain⟨w,e1,rr⟩:=(r.ext x').get e;rw[q]at e1;cases e1;exact rr
@[simp] def zwr(φ:FE):FI:=λδ μ=>(φ δ μ).bind λp=>match p.1 with
 |.tup ds=>some (ds,yes,p.2)
 |_=>none
def zpu{tg:yz}(h:ME X a φ):MI X tg a (zwr φ) :=
 z4o (zcu h) λρ δ μ σ H ds ok μ' R A e k=>by
  obtain⟨⟨x,μ1⟩,e1,e⟩:=zf e;refine⟨ρ,δ,μ,x,μ1,A,e1,λρ1 H1 v1 x1 R1 r1=>?_⟩;dsimp only at e
  split at e
  ·cases e;obtain⟨a,vs,rfl,e2,q2⟩:=r1.tU;exact⟨a,rfl,⟨vs,SqT.of e2⟩,k ρ1 H1 _ x1 R1 (ztr e2 q2)⟩
  ·cases e
def zWk(n:Nat)(ds:List D):Mem->Bool:=λμ=>@decide (μ[n]?=some (.lst ds)) (Classical.propDecidable _)
def TH{n:Nat}{ds:List D}{μ:Mem}:zWk n ds μ=true↔μ[n]?=some (.lst ds):=by
 unfold zWk;exact @decide_eq_true_iff _ (Classical.propDecidable _)
def zwp(φ:FE):FI:=λδ μ=>(φ δ μ).bind λp=>match p.1 with
 |.fz ds=>some (ds,yes,p.2)
 |.loc n=>match p.2[n]? with
  |some (.lst ds)=>some (ds,zWk n ds,p.2)
  |_=>none
 |_=>none
def z0m{K:yt}{ρ:List yb}{H:Hp}{a:yb}{ds:List D}{ok:Mem->Bool}(h:∀ρ' H' μ',Ext ρ H ρ' H'->tG K ρ' H' μ'->ok μ'=true->∃vs,SqL K H' a vs/\tf K ρ' H' ds vs):sS K (Itl K a) ρ H ds ok:=by
 refine⟨λρ' H' μ' i x R o hi=>?_,λρ' H' μ' i x H'' d x' R o e ⟨y1,y2⟩=>⟨y1▸Ext.refl,y1▸R,y1▸?_⟩,λρ' H' μ' x R o=>?_⟩
 ·obtain⟨vs,s,r⟩:=h ρ' H' μ' x R o;have hi':i<vs.length:=by rw[<-r.length];exact hi
  exact⟨vs,vs[i],s,by simp[hi']⟩
 ·obtain⟨vs,s,r⟩:=h ρ' H' μ' x' R o;have q:=y2 vs s;obtain⟨w,e1,rr⟩:=r.get e;rw[q]at e1;cases e1;exact rr
 ·obtain⟨vs,s,r⟩:=h ρ' H' μ' x R o;exact⟨vs,s,by rw[r.length];exact yh _⟩
def zMp{tg:yz}(h:ME X a φ):MI X tg a (zwp φ) :=
 z4o (z1s h) λρ δ μ σ H ds ok μ' R A e k=>by
  obtain⟨⟨x,μ1⟩,e1,e⟩:=zf e;refine⟨ρ,δ,μ,x,μ1,A,e1,λρ1 H1 v1 x1 R1 r1=>?_⟩;dsimp only at e
  split at e
  ·cases e;obtain⟨a,vs,rfl,e2,q2⟩:=r1.sk;exact⟨a,rfl,⟨vs,e2.sq⟩,k ρ1 H1 _ x1 R1 (z0m λρ' H' μ' x _ _=>⟨vs,(x.fz e2).sq,q2.ext x⟩)⟩
  ·split at e
   ·rename_i hm
    cases e;obtain⟨a,rfl,e2⟩:=r1.tz;obtain⟨vs,e3,q3⟩:=R1.at_ _ _ _ e2 hm;refine⟨a,rfl,⟨vs,SqL.of e3⟩,k ρ1 H1 _ x1 R1 (z0m λρ' H' μ'' x R' o=>?_)⟩;obtain⟨vs',e4,q4⟩:=R'.at_ _ _ _ (x.get e2) (TH.mp o);exact⟨vs',SqL.of e4,q4⟩
   ·cases e
  ·cases e
def zvg(g:FG)(body:FS)(ok:Mem->Bool):List D->FS
 |[],δ,μ=>bif ok μ then some (.next δ μ) else none
 |x::xs,δ,μ=>bif ok μ then(g x δ μ).bind λp=>match body p.1 p.2 with
  |some (.next δ' μ')=>zvg g body ok xs δ' μ'
  |some (.cont δ' μ')=>zvg g body ok xs δ' μ'
  |some (.brk δ' μ')=>some (.next δ' μ')
  |some (.ret d μ')=>some (.ret d μ')
  |some (.exc C fs μ')=>some (.exc C fs μ')
  |none=>none
  else none
@[simp] def zll(i:FI)(g:FG)(body:FS):FS:=λδ μ=>(i δ μ).bind λp=>zvg g body p.2.1 p.1 δ p.2.2
def zof{tg iter:yz}{body:List yX}{i:FI}{g:FG}{p:FS}(hi:MI X tg iter i)(hg:MG X tg g)(hb:MSs X body p)(hx:PassesOwn (yy X.prog X.w) X.A X.env X.xe:=by first|exact PassesOwn.never|exact PassesOwn.leaving)(hc:X.calm=true:=by rfl)
 (hs:∀x,Yy iter X.env x=pure x:=by intro _;rfl):MS X (.For tg iter body [] pos) (zll i g p) :=
 zIi (z4t hx hc hi hg hb hs) λρ δ μ σ H o E A e k=>by
  obtain⟨⟨ds,ok,μ1⟩,e1,e⟩:=zf e;refine⟨ρ,δ,μ,ds,ok,μ1,A,e1,λρ1 H1 J x1 R1 II=>?_⟩;refine⟨λi m σ' H'=>∃ρ' δ' μ',Ext ρ1 H1 ρ' H'/\At X.K ρ' H' σ' δ' μ'/\i<=ds.length/\m=ds.length-i/\zvg g p ok (ds.drop i) δ' μ'=some o,⟨_,ρ1,δ,μ1,Ext.refl,A.ext x1 R1,Yo _,rfl,e⟩,?_⟩;rintro i m σ' H' ⟨ρ',δ',μ',x',A',hi,rfl,ef⟩
  by_cases hlt:i<ds.length
  ·right
   have hd:ds.drop i=ds[i]::ds.drop (i+1):=YY hlt;rw[hd]at ef;unfold zvg at ef;obtain⟨hok,ef⟩:=zR ef;obtain⟨⟨δ2,μ2⟩,e2,ef⟩:=zf ef;refine⟨II.go ρ' H' μ' i x' A'.hp hok hlt,λσ3 H3=>∃ρ3 δ3 μ3,Ext ρ1 H1 ρ3 H3/\At X.K ρ3 H3 σ3 δ3 μ3/\zvg g p ok (ds.drop (i+1)) δ3 μ3=some o,λσ3 H3 ⟨ρ3,δ3,μ3,x3,A3,e3⟩=>⟨ds.length-(i+1),by omega,ρ3,δ3,μ3,x3,A3,hlt,rfl,e3⟩,λx H'' y=>?_⟩;obtain⟨xe,Re,rx⟩:=II.yld ρ' H' μ' i x H'' ds[i] x' A'.hp hok (by simp[hlt]) y;have x':=x'.trans xe;refine⟨ρ',δ',μ',ds[i],δ2,μ2,A'.ext xe Re,rx,e2,λρ4 σ4 H4 x4 A4=>?_⟩
   cases eb:p δ2 μ2 with
   |none=>rw[eb]at ef;cases ef
   |some ob=>
    rw[eb]at ef;refine⟨ρ4,δ2,μ2,ob,A4,eb,?_⟩;have x5:=x'.trans x4
    cases ob with
    |next δ6 μ6=>exact λρ6 σ6 H6 x6 A6=>⟨ρ6,δ6,μ6,x5.trans x6,A6,ef⟩
    |cont δ6 μ6=>exact λρ6 σ6 H6 x6 A6=>⟨ρ6,δ6,μ6,x5.trans x6,A6,ef⟩
    |brk δ6 μ6=>cases ef;exact(k.ext x1).ext x5
    |ret d μ6=>cases ef;exact(k.ext x1).ext x5
    |exc C fs μ6=>cases ef;exact(k.ext x1).ext x5
  ·left
   have e0:i=ds.length:=by omega
   subst e0;rw[List.drop_length]at ef;unfold zvg at ef;obtain⟨hok,ef⟩:=zR ef;cases ef;exact⟨II.stop ρ' H' μ' x' A'.hp hok,k ρ' σ' H' (x1.trans x') A'⟩
end
def zVp(g:FG)(c:FT)(φ:FE)(ok:Mem->Bool)(δ:Loc):List D->List D->Mem->Option (D×Mem)
 |[],ys,μ=>bif ok μ then some (.loc μ.length,μ++[.lst ys]) else none
 |x::xs,ys,μ=>bif ok μ then(g x δ μ).bind λp=>(c p.1 p.2).bind λt=>bif t.1 then(φ p.1 t.2).bind λq=>zVp g c φ ok δ xs (ys++[q.1]) q.2 else zVp g c φ ok δ xs ys t.2 else none
@[simp] def δC(n:Nat)(fr:List Nat)(δ:Loc):Loc:=yD n none++fr.map λi=>(δ[i]?).getD none
@[simp] def few(ds:List D):Bool:=decide (ds.length<=1000000)
@[simp] def fLC(n:Nat)(fr:List Nat)(i:FI)(g:FG)(c:FT)(φ:FE):FE:=λδ μ=>(i δ μ).bind λp=>bif few p.1 then zVp g c φ p.2.1 (δC n fr δ) p.1 [] p.2.2 else none
def MF(X:Cx)(ifs:List yz)(c:FT):Prop:=PF X ifs (tMT X.K c)
@[simp] def zgk:FT:=λ_ μ=>some (true,μ)
def zVg{X:Cx}:MF X [] zgk:=by intro pins s σ H Q I hh;obtain⟨ρ,δ,μ,b,μ',A,e,k⟩:=hh;exact zRt pins s σ H Q I (by cases e;exact k ρ H Ext.refl A.hp)
def zij{X:Cx}{e:yz}{c:FT}(h:MT X e c):MF X [e] c:=zHu h
def At.δC{K:yt}{ρ:List yb}{H:Hp}{σ:L2.St}{δ:Loc}{μ:Mem}(A:At K ρ H σ δ μ)(n:Nat)(fr:List Nat):At K ρ H (σC n fr σ) (M.δC n fr δ) μ:=by
 refine⟨λi d e=>?_,A.hp,by unfold σC M.δC;simp⟩;unfold M.δC at e;unfold σC
 by_cases hi:i<n
 ·rw[yk (by simpa using hi),xl]at e
  split at e<;>cases e
 ·have hi:n<=i:=Nat.le_of_not_lt hi;rw[yE (by simpa using hi),xC,yn]at e;rw[yE (by simpa using hi),xC,yn]
  cases e1:fr[i-n]? with
  |none=>rw[e1]at e;cases e
  |some j=>
   rw[e1]at e;have e2:(δ[j]?).getD none=some d:=yU e
   have e3:δ[j]?=some (some d):=by
    cases q:δ[j]? with
    |none=>rw[q]at e2;cases e2
    |some z=>rw[q]at e2;exact congrArg some e2
   obtain⟨v,hv,r⟩:=A.st j d e3;exact⟨v,by rw[Option.map_some,hv];rfl,r⟩
def TK(n:Nat)(σ σ':L2.St):Prop:=σ'.length=σ.length/\∀(i:Nat),n<=i->σ'[i]?=σ[i]?
def TK.refl{n:Nat}{σ:L2.St}:TK n σ σ:=⟨rfl,λ_ _=>rfl⟩
def TK.trans{n:Nat}{σ σ1 σ2:L2.St}(a:TK n σ σ1)(b:TK n σ1 σ2):TK n σ σ2:=⟨b.1.trans a.1,λi h=>(b.2 i h).trans (a.2 i h)⟩
def tGc(K:yt)(n:Nat)(g:FG):TG:=λv σ H Q=>∃ρ δ μ d δ' μ',At K ρ H σ δ μ/\tm K ρ H d v/\g d δ μ=some (δ',μ')/\∀ρ' σ' H',Ext ρ H ρ' H'->At K ρ' H' σ' δ' μ'->TK n σ σ'->Q σ' H'
def zpw(K:yt)(n:Nat)(g:FGs):TGs:=λvs σ H Q=>∃ρ δ μ ds δ' μ',At K ρ H σ δ μ/\tf K ρ H ds vs/\g ds δ μ=some (δ',μ')/\∀ρ' σ' H',Ext ρ H ρ' H'->At K ρ' H' σ' δ' μ'->TK n σ σ'->Q σ' H'
def MGc(X:Cx)(n:Nat)(t:yz)(g:FG):Prop:=PG X t (tGc X.K n g)
def zZu(X:Cx)(n:Nat)(t:List yz)(g:FGs):Prop:=PGs X t (zpw X.K n g)
section
variable {X:Cx}{e:yz}{es:List yz}{pos:YR}{n:Nat}
def zvb{x:yr}(i:Nat)(hin:i<n:=by decide)(hN:X.N.Nodup:=by first|assumption|decide)(hi:X.N[i]?=some x:=by rfl)(hx:L2.Loc X.env.scope x:=by first|exact Or.inl rfl|exact Or.inr rfl)(hf:X.fn x=true\/X.env.scope.names.lookup x=some .local:=by first|exact .inl rfl|exact .inr rfl|assumption):MGc X n (.Name x pos) (gN i) :=
 by intro pins s σ H v u Q I r hh;obtain⟨ρ,δ,μ,d,δ',μ',A,q,e,k⟩:=hh;exact zZn hN hi hx hf pins s σ H v u Q I r (by
  cases e;exact k ρ _ H Ext.refl (A.set q i) ⟨by simp,λj hj=>yP (by omega)⟩)
def zFj:zZu X n [] z4g:=by intro pins s σ H v u Q I r hh;obtain⟨ρ,δ,μ,d,δ',μ',A,q,e,k⟩:=hh;exact zuo pins s σ H v u Q I r (by
 unfold z4g at e
 split at e
 ·cases e;exact⟨q.nil_inv,k ρ σ H Ext.refl A TK.refl⟩
 ·cases e)
def zYd{g:FG}{gs:FGs}(h1:MGc X n e g)(h2:zZu X n es gs)(hs:(Yg (e::es) X.env).map (·.2)=assign e X.env::(Yg es X.env).map (·.2):=by rfl):zZu X n (e::es) (zfc g gs) :=
 by intro pins s σ H vs us Q I r hh;obtain⟨ρ,δ,μ,ds,δ',μ',A,q,e,k⟩:=hh;exact zlm h1 h2 hs pins s σ H vs us Q I r (by
  unfold zfc at e
  split at e
  ·obtain⟨⟨δ1,μ1⟩,e1,e⟩:=zf e;obtain⟨v,vr,rfl,q1,q2⟩:=q.cons_inv;refine⟨v,vr,rfl,ρ,δ,μ,_,δ1,μ1,A,q1,e1,λρ1 σ1 H1 x1 A1 f1=>?_⟩;exact⟨ρ1,δ1,μ1,_,δ',μ',A1,q2.ext x1,e,λρ2 σ2 H2 x2 A2 f2=>k ρ2 σ2 H2 (x1.trans x2) A2 (f1.trans f2)⟩
  ·cases e)
def zLl{k m:Nat}{gs:FGs}(h:zZu X n es gs)(hc:X.calm=true:=by rfl)(hn:(Yg es X.env).length=m:=by rfl)(hst:(Yg es X.env).findIdx? (·.1)=none:=by rfl):MGc X n (.Tuple es k pos) (gT m gs) :=
 by intro pins s σ H v u Q I r hh;obtain⟨ρ,δ,μ,d,δ',μ',A,q,e,k⟩:=hh;exact zGr hc h hn hst pins s σ H v u Q I r (by
  unfold gT at e
  split at e
  ·obtain⟨h1,e⟩:=zR e;obtain⟨a,vs,rfl,e2,q2⟩:=q.tU;exact⟨a,vs,rfl,SqT.of e2,by rw[<-q2.length];exact beq_iff_eq.mp h1,ρ,δ,μ,_,δ',μ',A,q2,e,k⟩
  ·cases e)
end
def zTp{n:Nat}{fr:List Nat}{σ σ':L2.St}(f:TK n (σC n fr σ) σ'):zps (σC n fr σ) σ':=by
 refine⟨f.1,λi v e=>?_⟩;obtain⟨hi,_⟩:=σC_get e;rw[f.2 i hi];exact e
def Ts:1000000<yC:=by rw[Yh];decide
def zVv{K:yt}{n:Nat}{fr:List Nat}{i:FI}{g:FG}{c:FT}{φ:FE}{ρ:List yb}{δ:Loc}{μ:Mem}{σ:L2.St}{H:Hp}{d:D}{μ':Mem}{Q:VK}(A:At K ρ H σ δ μ)(e:fLC n fr i g c φ δ μ=some (d,μ'))
 (k:∀ρ' H' v,Ext ρ H ρ' H'->tG K ρ' H' μ'->tm K ρ' H' d v->Q v H'):tLC n fr (tMI K i) (tGc K n g) (tMT K c) (tM K φ) σ H Q:=by
 obtain⟨⟨ds,ok,μ1⟩,e1,e⟩:=zf e;obtain⟨hfew,e⟩:=zR e;have hfew:ds.length<=1000000:=of_decide_eq_true hfew;refine⟨ρ,δ,μ,ds,ok,μ1,A,e1,λρ1 H1 J x1 R1 II=>?_⟩;refine⟨λi m ys H'=>∃ρ' es μ2,Ext ρ1 H1 ρ' H'/\tG K ρ' H' μ2/\tf K ρ' H' es ys/\es.length<=i/\i<=ds.length/\m=ds.length-i/\zVp g c φ ok (δC n fr δ) (ds.drop i) es μ2=some (d,μ'),⟨_,ρ1,[],μ1,Ext.refl,R1,.nil,Yo _,Yo _,rfl,e⟩,?_⟩;rintro i m ys H' ⟨ρ',es,μ2,x',R',re,hel,hi,rfl,ef⟩
 by_cases hlt:i<ds.length
 ·right
  have hd:ds.drop i=ds[i]::ds.drop (i+1):=YY hlt;rw[hd]at ef;unfold zVp at ef;obtain⟨hok,ef⟩:=zR ef;obtain⟨⟨δ2,μ3⟩,e2,ef⟩:=zf ef;obtain⟨⟨b,μ4⟩,e3,ef⟩:=zf ef;refine⟨II.go ρ' H' μ2 i x' R' hok hlt,?_,λx H'' y=>?_⟩
  ·rw[<-re.length];exact Nat.lt_of_le_of_lt (yA hel (yA hi hfew)) Ts
  ·obtain⟨xe,Re,rx⟩:=II.yld ρ' H' μ2 i x H'' ds[i] x' R' hok (by simp[hlt]) y;have x':=x'.trans xe;have re:=re.ext xe;have A':At K ρ' H'' (σC n fr σ) (δC n fr δ) μ2:=((A.ext x1 R1).ext x' Re).δC n fr;refine⟨ρ',_,μ2,ds[i],δ2,μ3,A',rx,e2,λρ4 σ4 H4 x4 A4 f4=>⟨zTp f4,?_⟩⟩;refine⟨ρ4,δ2,μ3,b,μ4,A4,e3,λρ5 H5 x5 R5=>?_⟩
   cases b with
   |false=>exact sP ⟨ds.length-(i+1),by omega,ρ5,es,μ4,x'.trans (x4.trans x5),R5,re.ext (x4.trans x5),by omega,hlt,rfl,ef⟩
   |true=>
    obtain⟨⟨y,μ6⟩,e4,ef⟩:=zf ef;refine sQ ⟨ρ5,δ2,μ4,y,μ6,A4.ext x5 R5,e4,λρ6 H6 v x6 R6 r6=>?_⟩;exact⟨ds.length-(i+1),by omega,ρ6,es++[y],μ6,x'.trans (x4.trans (x5.trans x6)),R6,(re.ext (x4.trans (x5.trans x6))).append (.cons r6 .nil),by simp;exact hel,hlt,rfl,ef⟩
 ·left
  have e0:i=ds.length:=by omega
  subst e0;rw[List.drop_length]at ef;unfold zVp at ef;obtain⟨hok,ef⟩:=zR ef;cases ef;refine⟨II.stop ρ' H' μ2 x' R' hok,λp hp=>?_⟩;exact k _ _ _ (x1.trans (x'.trans (Ext.push hp))) (R'.push hp ⟨ys,zt,re.ext (Ext.push hp)⟩) (.loc (zzb R'))
def zFv{X:Cx}{scope:xG}{elt tg iter:yz}{ifs:List yz}{pos:YR}{i:FI}{g:FG}{c:FT}{φ:FE}(own:List yr)(fr:List Nat)(hi:MI X tg iter i)
 (hg:∀cl C s₀ H₀ fp,MGc (cxC X own fr scope cl C s₀ H₀ fp) own.length tg g) (hq:∀cl C s₀ H₀ fp,MF (cxC X own fr scope cl C s₀ H₀ fp) ifs c) (he:∀cl C s₀ H₀ fp,ME (cxC X own fr scope cl C s₀ H₀ fp) elt φ)
 (hc:X.calm=true:=by rfl) (hk:scope.kind=.function:=by rfl) (hnm:∀y∈scope.names,scope.names.lookup y.1=some y.2:=by decide)
 (hfree:∀x∈scope.names,x.2=.free->(X.env.kindOf x.1=some .cell\/X.env.kindOf x.1=some .free):=by decide) (hfr:∀i∈fr,∃x,X.N[i]?=some x/\scope.names.lookup x=some .free)
 (hs:∀x,Yy iter X.env x=pure x:=by intro _;rfl):ME X (.ListComp elt [⟨tg,iter,ifs,0⟩] scope pos) (fLC own.length fr i g c φ) :=
 zud (z9u (wi:=tMI X.K i) (g:=tGc X.K own.length g) (tc:=tMT X.K c) (te:=tM X.K φ) own fr hc hi (λcl C s₀ H₀ fp=>hg cl C s₀ H₀ fp) (λcl C s₀ H₀ fp=>hq cl C s₀ H₀ fp) (λcl C s₀ H₀ fp=>he cl C s₀ H₀ fp) hk hnm hfree hfr hs) λρ δ μ σ H d μ' Q A e k=>zVv A e k
def toP(μ:Mem):Nat->D->Option xm
 |0,_=>none
 |n+1,d=>match d with
  |.non=>some .none
  |.bl b=>some (.bool b)
  |.int i=>some (.int i)
  |.str x=>bif PyData.strOk x then some (.str x) else none
  |.ty _=>none
  |.own _=>none
  |.tup ds=>(ds.mapM (toP μ n)).bind λps=>some (.tuple ps)
  |.fz ds=>(ds.mapM (toP μ n)).bind λps=>some (.list ps)
  |.loc k=>match μ[k]? with
   |some (.lst ds)=>(ds.mapM (toP μ n)).bind λps=>some (.list ps)
   |_=>none
def zMg{f:D->Option xm}{ps:List xm}(h:([]:List D).mapM f=some ps):ps=[]:=by
 simp at h;exact h
def zig{f:D->Option xm}{d:D}{ds:List D}{ps:List xm}(h:(d::ds).mapM f=some ps):∃p r,f d=some p/\ds.mapM f=some r/\ps=p::r:=by
 rw[mapM_cons]at h;obtain⟨p,e1,h⟩:=zf h;obtain⟨r,e2,h⟩:=zf h;cases h;exact⟨p,r,e1,e2,rfl⟩
def zgj{f:D->Option xm}{m:Nat}(hf:∀d p,f d=some p->p.canLay0=true/\p.depth<=m):∀{ds:List D} {ps:List xm},ds.mapM f=some ps->xJ ps=true/\PyData.depthAll ps<=m
 |[],ps,h=>by rw[zMg h];exact⟨rfl,Yo _⟩
 |d::ds,ps,h=>by
  obtain⟨p,r,e1,e2,rfl⟩:=zig h;obtain⟨h1,h2⟩:=hf d p e1;obtain⟨h3,h4⟩:=zgj hf e2;refine⟨?_,?_⟩
  ·simp only[xJ,h1,h3,Bool.and_true]
  ·simp only[PyData.depthAll];omega
def zci{μ:Mem}:∀(n:Nat)(d:D)(p:xm),toP μ n d=some p->p.canLay0=true/\p.depth<=n
 |0,d,p,h=>by cases h
 |n+1,d,p,h=>by
  have seq:∀{ds:List D} {c:List xm->xm},(∀ps,(c ps).canLay0=xJ ps)->(∀ps,(c ps).depth=PyData.depthAll ps+1)->((ds.mapM (toP μ n)).bind λps=>some (c ps))=some p->p.canLay0=true/\p.depth<=n+1:=λ{ds c} h1 h2 h=>by
   obtain⟨ps,e1,e2⟩:=zf h;cases e2;obtain⟨q1,q2⟩:=zgj (zci n) e1;exact⟨by rw[h1];exact q1,by rw[h2];omega⟩
  unfold toP at h
  cases d with
  |non=>cases h;exact⟨rfl,Yo _⟩
  |bl b=>cases h;exact⟨rfl,Yo _⟩
  |int b=>cases h;exact⟨rfl,Yo _⟩
  |str x=>
   obtain⟨h1,h2⟩:=zR h;cases h2;exact⟨h1,Yo _⟩
  |ty _=>cases h
  |own _=>cases h
  |tup ds=>exact seq (λ_=>rfl) (λ_=>rfl) h
  |fz ds=>exact seq (λ_=>rfl) (λ_=>rfl) h
  |loc k=>
   dsimp only at h
   split at h
   ·exact seq (λ_=>rfl) (λ_=>rfl) h
   ·cases h
section
variable {X:Cx}{pins:List (yb×Yw)}{σ:L2.St}{H:Hp}{s:yd}{ρ:List yb}{μ:Mem}
def zng{f:D->Option xm}(hf:∀d p v u,f d=some p->tm X.K ρ H d v->RelV v u->∃as,Reads s.heap u p as):∀{ds:List D} {ps:List xm} {vs:List V} {us:List Value},ds.mapM f=some ps->tf X.K ρ H ds vs->Vals vs us->∃as,ReadsAll s.heap us ps as
 |[],ps,vs,us,h,r,q=>by
  rw[zMg h];rw[r.nil_inv]at q;cases q;exact⟨[],.nil⟩
 |d::ds,ps,vs,us,h,r,q=>by
  obtain⟨p,pr,e1,e2,rfl⟩:=zig h;obtain⟨v,vr,rfl,r1,r2⟩:=r.cons_inv
  cases q with
  |cons q1 q2=>
   obtain⟨a1,h1⟩:=hf _ _ _ _ e1 r1 q1;obtain⟨a2,h2⟩:=zng hf e2 r2 q2;exact⟨_,.cons h1 h2⟩
def zpe(I:Inv X pins σ H s)(R:tG X.K ρ H μ):∀(n:Nat)(d:D)(p:xm)(v:V)(u:Value),toP μ n d=some p->tm X.K ρ H d v->RelV v u->∃as,Reads s.heap u p as
 |0,d,p,v,u,h,_,_=>by cases h
 |n+1,d,p,v,u,h,r,q=>by
  unfold toP at h
  cases d with
  |non=>cases h;rw[r.tH]at q;cases q;exact⟨_,.none⟩
  |bl b=>cases h;rw[r.tO]at q;cases q;exact⟨_,.bool b⟩
  |int b=>cases h;rw[r.int_inv]at q;obtain⟨t,rfl⟩:=q;exact⟨_,.int b t⟩
  |str x=>
   obtain⟨h1,h2⟩:=zR h;cases h2;rw[r.str_inv]at q;obtain⟨t,rfl⟩:=q;exact⟨_,.str x t⟩
  |ty _=>cases h
  |own _=>cases h
  |tup ds=>
   obtain⟨ps,e1,e2⟩:=zf h;cases e2;obtain⟨a,vs,rfl,e3,rr⟩:=r.tU;cases q;obtain⟨its,rv,⟨o,ho,hc,k,hd⟩,_⟩:=I.tuple (SqT.of e3);obtain⟨as,ha⟩:=zng (zpe I R n) e1 rr rv;exact⟨_,reads_tuple_at ho hc hd (by simpa using ha)⟩
  |fz ds=>
   obtain⟨ps,e1,e2⟩:=zf h;cases e2;obtain⟨a,vs,rfl,e3,rr⟩:=r.sk;cases q;obtain⟨its,rv,⟨o,k,ho,hc,_,hd⟩,_⟩:=I.list e3.sq;obtain⟨as,ha⟩:=zng (zpe I R n) e1 rr rv;exact⟨_,reads_list_at ho hc hd (by simpa using ha)⟩
  |loc k=>
   dsimp only at h
   split at h
   ·rename_i hm
    obtain⟨ps,e1,e2⟩:=zf h;cases e2;obtain⟨a,rfl,e2⟩:=r.tz;obtain⟨vs,e3,rr⟩:=R.at_ _ _ _ e2 hm;cases q;obtain⟨its,rv,⟨o,k,ho,hc,_,hd⟩,_⟩:=I.list (SqL.of (K:=X.K) e3);obtain⟨as,ha⟩:=zng (zpe I R n) e1 rr rv;exact⟨_,reads_list_at ho hc hd (by simpa using ha)⟩
   ·cases h
end
def gEq:G2:=λx y μ=>(toP μ 8 x).bind λp=>(toP μ 8 y).bind λq=>some (.bl (Yj p q),μ)
def gNe:G2:=λx y μ=>(toP μ 8 x).bind λp=>(toP μ 8 y).bind λq=>some (.bl (!PyData.eqv p q),μ)
def z9f{μ:Mem}{d:D}{p:xm}(h:toP μ 8 d=some p):SeqAt.shaped p=true:=by
 obtain⟨h1,h2⟩:=zci 8 d p h;unfold SeqAt.shaped;rw[h1,decide_eq_true (by omega)];rfl
section
variable {X:Cx}{a b c e:yz}{es:List yz}{φ ψ χ:FE}{pos:YR}
def zZd(hu:X.A.units+64<cLine):OpM X (Yn .Eq) gEq:=by
 refine OpM.of λpins s σ H x y v u Q I rx ry ρ dx dy μ d μ' r1 r2 R e k=>?_;obtain⟨p,e1,e⟩:=zf e;obtain⟨q,e2,e⟩:=zf e;cases e;obtain⟨as,h1⟩:=zpe I R 8 dx p x v e1 r1 rx;obtain⟨bs,h2⟩:=zpe I R 8 dy q y u e2 r2 ry;exact eq_dataH h1 h2 (z9f e1) (z9f e2) hu ⟨.bl _,H,I,rfl,k ρ H _ Ext.refl R .bl⟩
def zGg(hu:X.A.units+64<cLine):OpM X (Yn .NotEq) gNe:=by
 refine OpM.of λpins s σ H x y v u Q I rx ry ρ dx dy μ d μ' r1 r2 R e k=>?_;obtain⟨p,e1,e⟩:=zf e;obtain⟨q,e2,e⟩:=zf e;cases e;obtain⟨as,h1⟩:=zpe I R 8 dx p x v e1 r1 rx;obtain⟨bs,h2⟩:=zpe I R 8 dy q y u e2 r2 ry;exact ne_dataH h1 h2 (z9f e1) (z9f e2) hu ⟨.bl _,H,I,rfl,k ρ H _ Ext.refl R .bl⟩
@[simp] def gIs:G2:=λx y μ=>match x,y with
 |.bl i,.bl j=>some (.bl (i==j),μ)
 |.non,.non=>some (.bl true,μ)
 |.bl _,.non=>some (.bl false,μ)
 |.int _,.non=>some (.bl false,μ)
 |.str _,.non=>some (.bl false,μ)
 |.tup _,.non=>some (.bl false,μ)
 |.loc _,.non=>some (.bl false,μ)
 |_,_=>none
@[simp] def zdj:G2:=λx y μ=>match x,y with
 |.bl i,.bl j=>some (.bl (i != j),μ)
 |.non,.non=>some (.bl false,μ)
 |.bl _,.non=>some (.bl true,μ)
 |.int _,.non=>some (.bl true,μ)
 |.str _,.non=>some (.bl true,μ)
 |.tup _,.non=>some (.bl true,μ)
 |.loc _,.non=>some (.bl true,μ)
 |_,_=>none
def zDr:OpM X (Yn .Is) gIs:=by
 refine OpM.of λpins s σ H x y v u Q I rx ry ρ dx dy μ d μ' r1 r2 R e k=>?_;unfold gIs at e
 split at e<;>cases e
 ·rw[r1.tO]at rx;rw[r2.tO]at ry;cases rx;cases ry;exact is_bool ⟨.bl _,H,I,rfl,k ρ H _ Ext.refl R .bl⟩
 ·exact zjj pins s σ H x y v u Q I rx ry ⟨r2.tH,by rw[r1.tH];exact k ρ H _ Ext.refl R .bl⟩
 ·exact zjj pins s σ H x y v u Q I rx ry ⟨r2.tH,by rw[r1.tO];exact k ρ H _ Ext.refl R .bl⟩
 ·exact zjj pins s σ H x y v u Q I rx ry ⟨r2.tH,by rw[r1.int_inv];exact k ρ H _ Ext.refl R .bl⟩
 ·exact zjj pins s σ H x y v u Q I rx ry ⟨r2.tH,by rw[r1.str_inv];exact k ρ H _ Ext.refl R .bl⟩
 ·exact zjj pins s σ H x y v u Q I rx ry ⟨r2.tH,by obtain⟨a,vs,rfl,_⟩:=r1.tU;exact k ρ H _ Ext.refl R .bl⟩
 ·exact zjj pins s σ H x y v u Q I rx ry ⟨r2.tH,by obtain⟨a,rfl,_⟩:=r1.tz;exact k ρ H _ Ext.refl R .bl⟩
def zil:OpM X (Yn .IsNot) zdj:=by
 refine OpM.of λpins s σ H x y v u Q I rx ry ρ dx dy μ d μ' r1 r2 R e k=>?_;unfold zdj at e
 split at e<;>cases e
 ·rw[r1.tO]at rx;rw[r2.tO]at ry;cases rx;cases ry;exact isnot_bool ⟨.bl _,H,I,rfl,k ρ H _ Ext.refl R .bl⟩
 ·exact zAg pins s σ H x y v u Q I rx ry ⟨r2.tH,by rw[r1.tH];exact k ρ H _ Ext.refl R .bl⟩
 ·exact zAg pins s σ H x y v u Q I rx ry ⟨r2.tH,by rw[r1.tO];exact k ρ H _ Ext.refl R .bl⟩
 ·exact zAg pins s σ H x y v u Q I rx ry ⟨r2.tH,by rw[r1.int_inv];exact k ρ H _ Ext.refl R .bl⟩
 ·exact zAg pins s σ H x y v u Q I rx ry ⟨r2.tH,by rw[r1.str_inv];exact k ρ H _ Ext.refl R .bl⟩
 ·exact zAg pins s σ H x y v u Q I rx ry ⟨r2.tH,by obtain⟨a,vs,rfl,_⟩:=r1.tU;exact k ρ H _ Ext.refl R .bl⟩
 ·exact zAg pins s σ H x y v u Q I rx ry ⟨r2.tH,by obtain⟨a,rfl,_⟩:=r1.tz;exact k ρ H _ Ext.refl R .bl⟩
inductive Ty where
 |non|bl|int|str|tup|lst|dict
 deriving DecidableEq
@[simp] def zYu(μ:Mem):D->Option Ty
 |.non=>some .non
 |.bl _=>some .bl
 |.int _=>some .int
 |.str _=>some .str
 |.tup _=>some .tup
 |.loc n=>match μ[n]? with
  |some (.lst _)=>some .lst
  |some (.dct _)=>some .dict
  |_=>none
 |_=>none
@[simp] def Ty.name:Ty->String
 |.non=>"NoneType" | .bl=>"bool" | .int=>"int" | .str=>"str" | .tup=>"tuple" | .lst=>"list" | .dict=>"dict"
@[simp] def zCv:Ty->Ty->Bool
 |.bl,.int=>true
 |.non,.non=>true
 |.bl,.bl=>true
 |.int,.int=>true
 |.str,.str=>true
 |.tup,.tup=>true
 |.lst,.lst=>true
 |.dict,.dict=>true
 |_,_=>false
@[simp] def zlo(c:Ty):GL:=λds μ=>match ds with
 |[x,.ty n]=>bif n==c.name then(zYu μ x).bind λt=>some (.bl (zCv t c),μ) else none
 |_=>none
def zBs{K:yt}{ρ:List yb}{H:Hp}{μ:Mem}{x:D}{v:V}{t:Ty}(R:tG K ρ H μ)(r:tm K ρ H x v)(e:zYu μ x=some t):TR K H v (.type t.name):=by
 cases x with
 |non=>cases e;rw[r.tH];exact .non
 |bl b=>cases e;rw[r.tO];exact .bl b
 |int b=>cases e;rw[r.int_inv];exact .int b
 |str b=>cases e;rw[r.str_inv];exact .str b
 |tup ds=>cases e;obtain⟨a,vs,rfl,e2,_⟩:=r.tU;exact .tup e2
 |loc n=>
  unfold zYu at e;dsimp only at e
  split at e
  ·rename_i hm;cases e;obtain⟨a,rfl,e2⟩:=r.tz;obtain⟨vs,e3,_⟩:=R.at_ _ _ _ e2 hm;exact .lst e3
  ·rename_i hm;cases e;obtain⟨a,rfl,e2⟩:=r.tz;obtain⟨vs,e3,_⟩:=R.at_ _ _ _ e2 hm;exact .dK e3
  ·cases e
 |_=>cases e
def zCu(K:yt)(t c:Ty):W.kitOne K (.type t.name) (.type c.name)=some (zCv t c):=by
 cases t<;>cases c<;>first|rfl|decide +kernel
def zUf(c:Ty):tV X (.builtin "isinstance") (zlo c):=by
 refine tV.of λpins s σ H xs us Q I r ρ ds μ d μ' r1 R e k=>?_;unfold zlo at e
 split at e
 ·obtain⟨hn,e⟩:=zR e;obtain⟨t,e1,e⟩:=zf e;cases e;obtain⟨v,rr,rfl,q1,q2⟩:=r1.cons_inv;obtain⟨v2,rr2,rfl,q3,q4⟩:=q2.cons_inv;rw[q4.nil_inv,q3.ty_inv,beq_iff_eq.mp hn]at r
  cases r with
  |cons ra rb=>
   cases rb with
   |cons rc rd=>
    cases rd;cases rc;exact zFp I ra (zBs R q1 e1) (zCu X.K t c) λtk=>⟨.bl _,H,I.tok tk,rfl,k ρ H _ Ext.refl R .bl⟩
 ·cases e
def znq{scope:xG}{elt tg iter:yz}{ifs:List yz}{spos py:YR}{y:yr}{fi:FI}{g:FG}{ct:FT}(i:Nat)(own:List yr)(fr:List Nat)(hi:MI X tg iter fi)
 (hg:∀cl C s₀ H₀ fp,MGc (cxC X own fr scope cl C s₀ H₀ fp) own.length tg g) (hq:∀cl C s₀ H₀ fp,MF (cxC X own fr scope cl C s₀ H₀ fp) ifs ct) (he:∀cl C s₀ H₀ fp,ME (cxC X own fr scope cl C s₀ H₀ fp) elt φ)
 (hfr:∀i∈fr,∃x,X.N[i]?=some x/\scope.names.lookup x=some .free)
 (hN:X.N.Nodup:=by first|assumption|decide) (hiN:X.N[i]?=some y:=by rfl) (hy:X.env.scope.names.lookup y=some .local:=by rfl)
 (hsw:xk (.ListComp elt [⟨tg,iter,ifs,0⟩] scope pos) (some (.Name y py)) spos.line X.env=pure true:=by rfl)
 (hc:X.calm=true:=by rfl) (hk:scope.kind=.function:=by rfl) (hnm:∀y∈scope.names,scope.names.lookup y.1=some y.2:=by decide)
 (hfree:∀x∈scope.names,x.2=.free->(X.env.kindOf x.1=some .cell\/X.env.kindOf x.1=some .free):=by decide)
 (hs:∀x,Yy iter X.env x=pure x:=by intro _;rfl):MS X (.Assign [.Name y py] (.ListComp elt [⟨tg,iter,ifs,0⟩] scope pos) spos) (zDc i (fLC own.length fr fi g ct φ)) :=
 zIi (zvq (wi:=tMI X.K fi) (g:=tGc X.K own.length g) (tc:=tMT X.K ct) (te:=tM X.K φ) own fr hN hiN hy hc hi hsw (λcl C s₀ H₀ fp=>hg cl C s₀ H₀ fp) (λcl C s₀ H₀ fp=>hq cl C s₀ H₀ fp) (λcl C s₀ H₀ fp=>he cl C s₀ H₀ fp) hk hnm hfree hfr hs) λρ δ μ σ H o E A e k=>by
  obtain⟨⟨x,μ1⟩,e1,e⟩:=zf e;cases e;exact zVv A e1 λρ' H' v x' R r=>k ρ' _ H' x' ((A.ext x' R).set r i)
end
@[simp] def zGc:Option Out->Option (D×Mem)
 |some (.ret d μ)=>some (d,μ)
 |some (.next _ μ)=>some (.non,μ)
 |_=>none
@[simp] def zU(N:List yr)(ds:List D):Loc:=ds.map some++yD (N.length-ds.length) none
def zMm{K:yt}{ρ:List yb}{H:Hp}{μ:Mem}{N:List yr}{ds:List D}{vs:List V}(r:tf K ρ H ds vs)(R:tG K ρ H μ):At K ρ H (L2.start N vs) (zU N ds) μ:=by
 refine⟨λi d e=>?_,R,by unfold L2.start zU;simp[r.length]⟩;unfold zU at e;unfold L2.start
 by_cases hi:i<ds.length
 ·rw[yk (by simpa using hi),yn]at e
  cases e1:ds[i]? with
  |none=>rw[e1]at e;cases e
  |some d'=>
   rw[e1]at e;cases e;obtain⟨v,e2,q⟩:=r.get e1;refine⟨v,?_,q⟩;rw[yk (by simpa[<-r.length] using hi),yn,e2];rfl
 ·rw[yE (by simpa using hi),xl]at e
  split at e<;>cases e
def fnM{P:yu}{w:yI}{K:yt}{mg:yr->Option Value}{base:yR}{x qual:yr}{st:yX}{f:yb}{fd:yj}{N ps:List yr}{k n:Nat}{F:FF}(G:Fun K x qual st f fd)(S:tx N ps (zp st))(hn:ps.length=n)
 (hbody:∀(cdv:Value)(A:yJ)(outer:List Env)(s:yd)(H:Hp)(E:XK),tQ k (A.deeper (envOfC qual (zp st) s.heap.objs.size f cdv)) ->
  ∃p,MSs (z6o CX0 P w K mg base N qual (zp st) f cdv A outer s H E).nox (zyc st) p/\∀ds μ d μ',ds.length=n->F ds μ=some (d,μ')->zGc (p (zU N ds) μ)=some (d,μ')) :
 tu P w K mg base CX0 (k+1) f fd ps (spM K n F):=by
 refine G.ok S (λvs H Q E h=>by rw[hn];exact h.1) (λcdv A outer s H vs Q E hr h=>?_);obtain⟨p,hp,hF⟩:=hbody cdv A outer s H E hr;refine⟨_,hp,?_⟩;obtain⟨hl,ρ,ds,μ,d,μ',r,R,e,k⟩:=h;have e':=hF ds μ d μ' (by rw[r.length];exact hl) e
 cases eo:p (zU N ds) μ with
 |none=>rw[eo]at e';cases e'
 |some o=>
  rw[eo]at e';refine⟨ρ,zU N ds,μ,o,zMm r R,eo,?_⟩
  cases o with
  |ret d2 μ2=>cases e';exact λρ' v H' x' R' r'=>k ρ' H' v x' R' r'
  |next δ2 μ2=>cases e';exact λρ' σ' H' x' A'=>k ρ' H' .non x' A'.hp .non
  |brk _ _=>cases e'
  |cont _ _=>cases e'
  |exc _ _ _=>cases e'
def zLr(sc inner:xG):Bool:=(inner.kind == .function)&&inner.names.all (λy=>inner.names.lookup y.1==some y.2) &&
 inner.names.all λx=>x.2 != .free||sc.names.lookup x.1==some .cell||sc.names.lookup x.1==some .free
def zdl{sc inner:xG}(h:zLr sc inner=true):inner.kind=.function:=by
 unfold zLr at h;simp only[yN,beq_iff_eq]at h;exact h.1.1
def zUo{sc inner:xG}(h:zLr sc inner=true):∀y∈inner.names,inner.names.lookup y.1=some y.2:=by
 unfold zLr at h;simp only[yN]at h;intro y hy;exact beq_iff_eq.mp (List.all_eq_true.mp h.1.2 y hy)
def znk{sc inner:xG}(h:zLr sc inner=true):∀x∈inner.names,x.2=.free->(sc.names.lookup x.1=some .cell\/sc.names.lookup x.1=some .free):=by
 unfold zLr at h;simp only[yN]at h;intro y hy e;have:=List.all_eq_true.mp h.2 y hy;simpa[e] using this
def zrb{N:List yr}(h:decide N.Nodup=true):N.Nodup:=of_decide_eq_true h
def zFd{P:Nat->Prop}:∀i∈([]:List Nat),P i:=λi h=>nomatch h
def zAb{P:Nat->Prop}{i:Nat}{l:List Nat}(h:P i)(r:∀j∈l,P j):∀j∈i::l,P j:=λj hj=>by
 rcases List.mem_cons.mp hj with rfl|hj
 ·exact h
 ·exact r j hj
section
variable {X:Cx}{a b c e:yz}{es:List yz}{φ ψ χ:FE}{pos:YR}
def mlc{scope:xG}{elt tg iter:yz}{ifs:List yz}{i:FI}{g:FG}{ct:FT}(own:List yr)(fr:List Nat)(hi:MI X tg iter i)
 (hg:∀cl C s₀ H₀ fp,MGc (cxC X own fr scope cl C s₀ H₀ fp) own.length tg g) (hq:∀cl C s₀ H₀ fp,MF (cxC X own fr scope cl C s₀ H₀ fp) ifs ct) (he:∀cl C s₀ H₀ fp,ME (cxC X own fr scope cl C s₀ H₀ fp) elt φ)
 (hfr:∀i∈fr,∃x,X.N[i]?=some x/\scope.names.lookup x=some .free) (hok:zLr X.env.scope scope=true:=by rfl) (hc:X.calm=true:=by rfl) (hs:∀x,Yy iter X.env x=pure x:=by intro _;rfl) :
 ME X (.ListComp elt [⟨tg,iter,ifs,0⟩] scope pos) (fLC own.length fr i g ct φ) :=
 zFv own fr hi hg hq he hc (zdl hok) (zUo hok) (znk hok) hfr hs
def mslc{scope:xG}{elt tg iter:yz}{ifs:List yz}{spos py:YR}{y:yr}{fi:FI}{g:FG}{ct:FT}(i:Nat)(own:List yr)(fr:List Nat)(hi:MI X tg iter fi)
 (hg:∀cl C s₀ H₀ fp,MGc (cxC X own fr scope cl C s₀ H₀ fp) own.length tg g) (hq:∀cl C s₀ H₀ fp,MF (cxC X own fr scope cl C s₀ H₀ fp) ifs ct) (he:∀cl C s₀ H₀ fp,ME (cxC X own fr scope cl C s₀ H₀ fp) elt φ)
 (hfr:∀i∈fr,∃x,X.N[i]?=some x/\scope.names.lookup x=some .free) (hN:X.N.Nodup) (hiN:X.N[i]?=some y:=by rfl) (hy:X.env.scope.names.lookup y=some .local:=by rfl)
 (hsw:xk (.ListComp elt [⟨tg,iter,ifs,0⟩] scope pos) (some (.Name y py)) spos.line X.env=pure true:=by rfl) (hok:zLr X.env.scope scope=true:=by rfl) (hc:X.calm=true:=by rfl) (hs:∀x,Yy iter X.env x=pure x:=by intro _;rfl) :
 MS X (.Assign [.Name y py] (.ListComp elt [⟨tg,iter,ifs,0⟩] scope pos) spos) (zDc i (fLC own.length fr fi g ct φ)) :=
 znq i own fr hi hg hq he hfr hN hiN hy hsw hc (zdl hok) (zUo hok) (znk hok) hs
structure FnAt(K:yt)(mg:yr->Option Value)(x:yr)(st:yX)(ps:List yr)(f:yb)(fd:yj):Prop where
 fn:Fun K x x st f fd
 at_:mg x=some (.ref f)
 bd:Binds K fd ps []
def tI{k j n:Nat}{st:yX}{f:yb}{fd:yj}{ps:List yr}{F:FF}{x:yr}{p:YR}{φ:FA}(B:FnAt X.K X.mg x st ps f fd)(G:tu X.prog X.w X.K X.mg X.base CX0 j f fd ps (spM X.K n F))(hr:tQ k X.A)
 (ha:MAn X (e::es) φ) (hj:j<=k:=by decide) (hn:(e::es).length=n:=by rfl) (hg:Gl X x:=by rfl) (hdb:(x==("__debug__":yr))=false:=by decide) (he:yf (e::es) X.env=(false,yV e X.env)::yf es X.env:=by exact ztc rfl) (hpl:(yZ pos (yf es X.env)).any (·.1)=false:=by rfl) :
 ME X (.Call (.Name x p) (e::es) [] pos) (zx F φ):=z8n G (hr.mono hj) B.at_ B.fn.kp B.bd ha hn hg hdb he hpl
end
section
variable {X:Cx}{a b c e:yz}{es:List yz}{φ ψ χ:FE}{pos:YR}
def cat0{prog:yu}{w:yI}{A:yJ}{E:Value->yd->Prop}{s:yd}{t b:yb}{vs ws:List Value}{Q:Value->yd->Prop}(ht:IsTup s.heap t vs.toArray)(hb:IsTup s.heap b ws.toArray)(hv:vs=[])(h:Q (.ref b) s) :
 yq (yy prog w) A (YT .Add (.ref t) (.ref b)) Q E s:=by
 obtain⟨⟨cls,dd,data,sl⟩,ho,hc,n,hd⟩:=id ht;obtain⟨⟨cls2,dd2,data2,sl2⟩,ho2,hc2,n2,hd2⟩:=id hb;simp only at hc hd hc2 hd2;subst hc hd hc2 hd2;refine concat_meets ⟨_,ho,rfl⟩ ⟨_,ho2,rfl⟩ noFill_tuple_add seq_tuple_add PySem.F.slot_tuple_add PySem.F.entry_tuple_add (PySem.F.args_tuple_add_2 _ _) (tuple_addW0 t b vs.toArray ws.toArray n n2 dd dd2 sl sl2 (by rw[hv];rfl)) ⟨ho,ho2,h⟩
def zWb:OpM X (YT .Add) zIf:=by
 refine OpM.of λpins s σ H x y v u Q I rx ry ρ dx dy μ d μ' r1 r2 R e k=>?_;unfold zIf at e
 split at e
 ·cases e;rw[r1.int_inv]at rx;rw[r2.int_inv]at ry;obtain⟨t,rfl⟩:=rx;obtain⟨t',rfl⟩:=ry;exact add_int ⟨.int _,H,I.tok _,⟨_,rfl⟩,k ρ H _ Ext.refl R .int⟩
 ·rename_i as bs
  obtain⟨h1,e⟩:=zR e;have h1:=of_decide_eq_true h1;cases e;obtain⟨a1,vs,rfl,e1,q1⟩:=r1.tU;obtain⟨a2,ws,rfl,e2,q2⟩:=r2.tU;have hm:=Ts;have hl1:=q1.length;have hl2:=q2.length
  by_cases hv:vs=[]
  ·cases rx;cases ry;obtain⟨its,rv,p1,_⟩:=I.tuple (SqT.of (K:=X.K) e1);obtain⟨its2,rv2,p2,_⟩:=I.tuple (SqT.of (K:=X.K) e2);refine cat0 p1 p2 (rv.se.mpr hv) ⟨.ref a2,H,I,rfl,k ρ H _ Ext.refl R ?_⟩;have ha:as=[]:=by rw[hv]at hl1;exact List.length_eq_zero_iff.mp hl1
   rw[ha,nil_append];exact r2
  ·refine zIs pins s σ H _ _ v u Q I rx ry ⟨a1,a2,vs,ws,rfl,rfl,SqT.of e1,SqT.of e2,hv,by omega,λhw=>?_,λ_ p hp=>?_⟩
   ·have hb:bs=[]:=by rw[hw]at hl2;exact List.length_eq_zero_iff.mp hl2
    rw[hb,append_nil]at k;exact k ρ H _ Ext.refl R r1
   ·exact k ρ _ _ (Ext.new hp) (R.Tr hp) (.tup zt ((q1.append q2).ext (Ext.new hp)))
 ·split at e
  ·rename_i hm1 hm2
   obtain⟨h1,e⟩:=zR e;have h1:=of_decide_eq_true h1;cases e;obtain⟨a1,rfl,e1⟩:=r1.tz;obtain⟨a2,rfl,e2⟩:=r2.tz;obtain⟨vs,e3,q1⟩:=R.at_ _ _ _ e1 hm1;obtain⟨ws,e4,q2⟩:=R.at_ _ _ _ e2 hm2;have hm:=Ts;have hl1:=q1.length;have hl2:=q2.length;exact zwu pins s σ H _ _ v u Q I rx ry ⟨a1,a2,vs,ws,rfl,rfl,e3,e4,by omega,λp hp=>k _ _ _ (Ext.push hp) (R.push hp ⟨_,zt,(q1.append q2).ext (Ext.push hp)⟩) (.loc (zzb R))⟩
  ·cases e
 ·cases e
def zAi:fillsNumberSlot (.type "tuple") "mul"=pure false :=
 PyProof.Rows.fillsNumberSlot_seq (id:="tuple.__mul__") (r:=some (.builtin "tuple.__rmul__")) PySem.F.slot_tuple_mul.lookup (by decide +kernel) PySem.F.slot_tuple_rmul.lookup (by decide +kernel)
def zKn:seqRepeat? (.type "tuple")=pure (some (.builtin "tuple.__mul__")):=by
 unfold seqRepeat?;rw[PyProof.Rows.seqSlot_of (T:="tuple") (name:="__mul__") (id:="tuple.__mul__") PySem.F.slot_tuple_mul.lookup (by decide +kernel),PyProof.Rows.seqSlot_of (T:="tuple") (name:="__rmul__") (id:="tuple.__rmul__") PySem.F.slot_tuple_rmul.lookup (by decide +kernel)];rfl
def zrg(i:Int)(t:Tok)(l:yb)(items:Array Value)(n:Nat)(dd:Option yb)(sl:Array (Option Value)) :
 Meets (Builtin.«int.__rmul__» ⟨[.int i t,.ref l],[]⟩) (λ_ R s=>s.heap.get? l=some {cls:=.type "tuple",dict:=dd,data:=.seq items n,slots:=sl }/\R (.ok (.ret Value.notImplemented)) s) :=
 .of_wp λprog w A R s h=>by
  obtain⟨hp,g,d,tk,os⟩:=s;obtain⟨hl,h⟩:=h
  wp_walk
  exact⟨_,rfl,h⟩
def z7j(l:yb)(items:Array Value)(n:Nat)(dd:Option yb)(sl:Array (Option Value))(i:Int)(t:Tok)(h2:2<=i)(h3:i<=1000)(h4:items.isEmpty=false)(h5:items.size<=1000)
 (hsz:((yD i.toNat items).foldl (λx1 x2=>x1++x2) #[]).size<=yC) :
 Meets (Builtin.«tuple.__mul__» ⟨[.ref l,.int i t],[]⟩) (λ_ R s=>s.heap.get? l=some {cls:=.type "tuple",dict:=dd,data:=.seq items n,slots:=sl } /\
  R (.ok (.ret (yH s.heap.objs.size))) {s with heap:=s.heap.push {cls:=YD "tuple",data:=Data.seq ((yD i.toNat items).foldl (λx1 x2=>x1++x2) #[])},toks:=s.toks }) :=
 .of_wp λprog w A R s h=>by
  obtain⟨hp,g,d,tk,os⟩:=s;obtain⟨hl,h⟩:=h;have f1:=AutoSeq1.idx_int
  have c1:¬((decide (i < -(2^63))||decide (i≥2^63))=true):=by
   rw[decide_eq_false (by omega),decide_eq_false (by omega)];exact yB
  have c2:¬((items.isEmpty||i==1)=true):=by
   rw[h4,show(i==1)=false by simp;omega];exact yB
  have c3:¬((decide (i<=0)||items.isEmpty)=true):=by
   rw[h4,decide_eq_false (by omega)];exact yB
  have c4:¬((items.size:Int)*i>(2^63-1) / 8):=by
   have h6:(items.size:Int)*i<=1000*1000:=Int.mul_le_mul (by omega) h3 (by omega) (by omega);omega
  have c5:¬(Builtin.Tuple.tupleTooMany ((items.size:Int)*i)=true):=by
   have h6:(items.size:Int)*i<=1000*1000:=Int.mul_le_mul (by omega) h3 (by omega) (by omega);have hz:(yC:Int)=16777216:=by rw[Yh];rfl
   unfold Builtin.Tuple.tupleTooMany;rw[decide_eq_false (by omega)];exact yB
  wp_walk using wpAny_loadPart' hl
  rw[if_neg c1]
  wp_walk using wpAny_loadPart' hl
  rw[if_neg c2];dsimp only;rw[if_neg c3,if_neg c4,if_neg c5];refine ya (m:=Builtin.Tuple.tupleExact _) (xb (yp ⟨_,rfl,h⟩) hsz)
def zPi(its:List Value):∀(n:Nat)(acc:List Value),List.foldl (λx1 x2=>x1++x2) acc.toArray (yD n its.toArray)=(acc++(yD n its).flatten).toArray
 |0,acc=>by simp
 |n+1,acc=>by
  rw[replicate_succ,List.foldl_cons,List.append_toArray,zPi its n,replicate_succ,flatten_cons,append_assoc]
def z5l{K:yt}{ρ:List yb}{H:Hp}{ds:List D}{vs:List V}(r:tf K ρ H ds vs):∀n:Nat,tf K ρ H (yD n ds).flatten (yD n vs).flatten
 |0 =>.nil
 |n+1=>by
  rw[replicate_succ,replicate_succ,flatten_cons,flatten_cons];exact r.append (z5l r n)
def zSj{vs:List V}{us:List Value}(r:Vals vs us):∀n:Nat,Vals (yD n vs).flatten (yD n us).flatten
 |0 =>.nil
 |n+1=>by
  rw[replicate_succ,replicate_succ,flatten_cons,flatten_cons];exact r.append (zSj r n)
def zSd:OpM X (YT .Mult) zti:=by
 refine OpM.of λpins s σ H x y v u Q I rx ry ρ dx dy μ d μ' r1 r2 R e k=>?_;unfold zti at e
 split at e
 ·obtain⟨h1,e⟩:=zR e;cases e;rw[r1.int_inv]at rx;rw[r2.int_inv]at ry;obtain⟨t,rfl⟩:=rx;obtain⟨t',rfl⟩:=ry;exact mul_int ⟨.int _,H,I.tok _,⟨_,rfl⟩,k ρ H _ Ext.refl R .int⟩ (z8p h1)
 ·rename_i ds i
  obtain⟨h1,e⟩:=zR e;have h1:=of_decide_eq_true h1;obtain⟨h2,h3,h4,h5⟩:=h1;cases e;obtain⟨a1,vs,rfl,e1,q1⟩:=r1.tU;rw[r2.int_inv]at ry;cases rx;obtain⟨t,rfl⟩:=ry;obtain⟨its,rv,⟨⟨cls,dd,data,sl⟩,ho,hc,n,hd⟩,hz⟩:=I.tuple (SqT.of (K:=X.K) e1);simp only at hc hd;subst hc hd;have hl:its.length=ds.length:=by rw[q1.length,rv.length]
  have hlen:((yD i.toNat vs).flatten).length<=yC:=by
   rw[z3o];have hm:=Ts;have h6:i.toNat*vs.length<=1000*1000:=Nat.mul_le_mul (by omega) (by rw[<-q1.length];exact h5);omega
  have e2:=zPi its i.toNat [];rw[nil_append]at e2
  have hsz:((yD i.toNat its.toArray).foldl (λx1 x2=>x1++x2) #[]).size<=yC:=by
   rw[show(#[]:Array Value)=([]:List Value).toArray from rfl,e2,size_toArray,<-(zSj rv i.toNat).length];exact hlen
  refine wpAny_binaryOp_repeat_ref (T:="tuple") (U:="int") (by decide) ⟨_,ho,rfl⟩ (λs'=>typeIs_int s' i t) zAi PySem.F.fills_int_mul PySem.F.slot_int_rmul zKn PySem.F.slot_int_index.lookup
   (call_meets PySem.F.slot_int_rmul (typeIs_int s i t) PySem.F.entry_int_rmul (PySem.F.args_int_rmul_2 _ _) (zrg i t a1 its.toArray n dd sl)
    ⟨ho,rfl,⟨_,ho,rfl⟩,call_meets PySem.F.slot_tuple_mul ⟨_,ho,rfl⟩ PySem.F.entry_tuple_mul (PySem.F.args_tuple_mul_2 _ _) (z7j a1 its.toArray n dd sl i t h2 h3 (by rw[List.isEmpty_toArray,List.isEmpty_eq_false_iff_exists_mem];exact⟨_,getElem_mem (by omega:0<its.length)⟩) (by rw[size_toArray,hl];exact h5) hsz) ⟨ho,?_⟩⟩)
  rw[show(#[]:Array Value)=([]:List Value).toArray from rfl,e2];have hf:=I.hok.fresh (yh s.heap.objs.size);refine⟨.ref s.heap.objs.size,_,I.laid (t':=s.toks) (o:=.tup (yD i.toNat vs).flatten) (λb ob q=>ye _ q) (yh _) ?_,rfl,k ρ _ _ (Ext.new hf) (R.Tr hf) (.tup zt ((z5l q1 i.toNat).ext (Ext.new hf)))⟩;exact⟨hlen,_,zSj rv i.toNat,IsTup.new _ _⟩
 ·rename_i l n
  split at e
  ·rename_i ds hm
   obtain⟨h1,e⟩:=zR e;have h1:=of_decide_eq_true h1;obtain⟨h2,h3,h4⟩:=h1;cases e;obtain⟨a1,rfl,ea⟩:=r1.tz;obtain⟨vs,e3,q3⟩:=R.at_ _ _ _ ea hm;refine zFu pins s σ H _ _ v u Q I rx ry ⟨a1,n,vs,rfl,r2.int_inv,e3,by omega,by omega,?_,λp hp=>k _ _ _ (Ext.push hp) (R.push hp ⟨_,zt,(z5l q3 n.toNat).ext (Ext.push hp)⟩) (.loc (zzb R))⟩;have hmi:=Ts;have h6:vs.length*n.toNat<=1000*1000:=Nat.mul_le_mul (by rw[<-q3.length];exact h4) (by omega);omega
  ·cases e
 ·cases e
abbrev FO:=Loc->Mem->Option (Option Int×Mem)
@[simp] def pNo:FO:=λ_ μ=>some (none,μ)
@[simp] def zfw(φ:FE):FO:=λδ μ=>(φ δ μ).bind λp=>match p.1 with
 |.int i=>some (some i,p.2)
 |_=>none
end
section
variable {X:Cx}{a b c e:yz}{es:List yz}{φ ψ χ:FE}{pos p2:YR}{lo hi:Option yz}
@[simp] def zcw(φ:FE):FE:=λδ μ=>(φ δ μ).bind λp=>match p.1 with
 |.int i=>some (.int (-i),p.2)
 |_=>none
def big{pins:List (yb×Yw)}{σ:L2.St}{H:Hp}{s:yd}(I:Inv X pins σ H s):sysModules<s.heap.objs.size:=by
 have h:yi<s.heap.objs.size:=(I.mod.glob.keeps I.bk).lt;exact Nat.lt_trans (by decide) h
@[simp] def zqt:FE:=λ_ μ=>some (.loc μ.length,μ++[.dct []])
def zom:ME X (.Dict [] [] pos) zqt:=by
 intro pins s σ H Q I hh;obtain⟨ρ,δ,μ,d,μ',A,e,k⟩:=hh;cases e;have hf:=I.hok.fresh (yh s.heap.objs.size);refine wpAny_Dict_empty ⟨.ref s.heap.objs.size,_,I.laid (a:=s.heap.objs.size) (o:=.dK []) (t':=s.toks) (λ_ _ q=>ye _ q) (yh _) ?_,rfl,k _ _ _ (Ext.push hf) (A.hp.push hf ⟨[],zt,rfl,.nil⟩) (.loc (zzb A.hp))⟩;exact⟨Yo _,beq_eq_false_iff_ne.mpr (yM (yw (big I))),[],.nil,Heap.DictOf.new _⟩
def z5d:D->Bool
 |.non | .bl _ | .int _ | .str _=>true
 |_=>false
def eqF:D->D->Bool
 |.non,.non=>true
 |.bl a,.bl b=>a==b
 |.bl a,.int b=>(if a then 1 else 0)==b
 |.int a,.bl b=>a==(if b then 1 else 0)
 |.int a,.int b=>a==b
 |.str a,.str b=>a==b
 |_,_=>false
def zal:G2:=λx y μ=>(items μ y).bind λds=>bif z5d x&&ds.all z5d then some (.bl (!ds.any λd=>eqF d x),μ) else none
def z3j{K:yt}{ρ:List yb}{H:Hp}{d:D}{v:V}(r:tm K ρ H d v)(f:z5d d=true):zki v=true:=by
 cases d with
 |non=>rw[r.tH];rfl
 |bl b=>rw[r.tO];rfl
 |int b=>rw[r.int_inv];rfl
 |str b=>rw[r.str_inv];rfl
 |_=>cases f
def zio{K:yt}{ρ:List yb}{H:Hp}{d d':D}{v v':V}(r:tm K ρ H d v)(r':tm K ρ H d' v')(f:z5d d=true)(f':z5d d'=true):eqV v v'=eqF d d':=by
 cases d with
 |non=>rw[r.tH];cases d' with
  |non=>rw[r'.tH];rfl
  |bl b=>rw[r'.tO];rfl
  |int b=>rw[r'.int_inv];rfl
  |str b=>rw[r'.str_inv];rfl
  |_=>cases f'
 |bl b=>rw[r.tO];cases d' with
  |non=>rw[r'.tH];rfl
  |bl b=>rw[r'.tO];rfl
  |int b=>rw[r'.int_inv];rfl
  |str b=>rw[r'.str_inv];rfl
  |_=>cases f'
 |int b=>rw[r.int_inv];cases d' with
  |non=>rw[r'.tH];rfl
  |bl b=>rw[r'.tO];rfl
  |int b=>rw[r'.int_inv];rfl
  |str b=>rw[r'.str_inv];rfl
  |_=>cases f'
 |str b=>rw[r.str_inv];cases d' with
  |non=>rw[r'.tH];rfl
  |bl b=>rw[r'.tO];rfl
  |int b=>rw[r'.int_inv];rfl
  |str b=>rw[r'.str_inv];rfl
  |_=>cases f'
 |_=>cases f
def zco{K:yt}{ρ:List yb}{H:Hp}{x:D}{v:V}(rx:tm K ρ H x v)(fx:z5d x=true):∀{ds:List D} {vs:List V},tf K ρ H ds vs->ds.all z5d=true->vs.all zki=true/\inV v vs=ds.any λd=>eqF d x
 |[],_,r,_=>by rw[r.nil_inv];exact⟨rfl,rfl⟩
 |d::ds,_,r,f=>by
  obtain⟨w,ws,rfl,r1,r2⟩:=r.cons_inv;rw[all_cons,yN]at f;obtain⟨h1,h2⟩:=zco rx fx r2 f.2;refine⟨by rw[all_cons,z3j r1 f.1,h1];rfl,?_⟩;unfold inV at h2 ⊢;rw[any_cons,any_cons,h2,zio r1 rx f.1 fx]
def z8o:OpM X (Yn .NotIn) zal:=by
 refine OpM.of λpins s σ H x y v u Q I rx ry ρ dx dy μ d μ' r1 r2 R e k=>?_;obtain⟨ds,e1,e⟩:=zf e;obtain⟨h1,e⟩:=zR e;rw[yN]at h1;cases e;obtain⟨p,vs,rfl,hq,rr⟩:=z6f R r2 e1;obtain⟨h3,h4⟩:=zco r1 h1.1 rr h1.2;exact z5k pins s σ H x _ v u Q I rx ry ⟨p,vs,rfl,hq,z3j r1 h1.1,h3,by rw[if_pos rfl,h4];exact k ρ H _ Ext.refl R .bl⟩
abbrev GM:=D->List D->Mem->Option (D×Mem)
@[simp] def zok(g:GM)(φ:FE)(ψ:FA):FE:=λδ μ=>(φ δ μ).bind λp=>match p.1 with
 |.loc n=>match p.2[n]? with
  |some (.lst _)=>(ψ δ p.2).bind λq=>g (.loc n) q.1 q.2
  |_=>none
 |_=>none
@[simp] def zMf:GM:=λx ds μ=>match x,ds with
 |.loc n,[d]=>match μ[n]? with
  |some (.lst xs)=>bif decide (xs.length<=1000000) then some (.non,μ.set n (.lst (xs++[d]))) else none
  |_=>none
 |_,_=>none
def MtG(X:Cx)(id:String)(g:GM):Prop:=MtR X id λx xs H Q=>∃ρ dx ds μ d μ',tm X.K ρ H dx x/\tf X.K ρ H ds xs/\tG X.K ρ H μ/\g dx ds μ=some (d,μ')/\∀ρ' H' v,Ext ρ H ρ' H'->tG X.K ρ' H' μ'->tm X.K ρ' H' d v->Q v H'
def MtG.of{X:Cx}{id:String}{g:GM}(h:∀(pins:List (yb×Yw)) (s:yd) (σ:L2.St) (H:Hp) (x:V) (xs:List V) (v:Value) (us:List Value) (Q:VK),Inv X pins σ H s->RelV x v->Vals xs us->∀(ρ:List yb)(dx:D)(ds:List D)(μ:Mem)(d:D)(μ':Mem),tm X.K ρ H dx x->tf X.K ρ H ds xs->tG X.K ρ H μ->g dx ds μ=some (d,μ')->(∀ρ' H' v,Ext ρ H ρ' H'->tG X.K ρ' H' μ'->tm X.K ρ' H' d v->Q v H')->yq (yy X.prog X.w) X.A (call (.builtin id) (v::us)) (EP X pins σ Q) X.xe s):MtG X id g:=by
 intro pins s σ H x xs v us Q I rx rs hh;obtain⟨ρ,dx,ds,μ,d,μ',r1,r2,R,e,k⟩:=hh;exact h pins s σ H x xs v us Q I rx rs ρ dx ds μ d μ' r1 r2 R e k
def zRp{o:yz}{ψ:FA}{name:yr}{id:String}{g:GM}{apos:YR}(slot:Slot "list" name id)(hty:typeOf (.builtin id)=pure (.type "method_descriptor"))(hm:MtG X id g)(ho:ME X o φ)(ha:MAn X (e::es) ψ)
 (hbase:Yt o name X.env (yV o X.env)=yV o X.env:=by rfl)
 (hfew:((yZ pos (yf (e::es) X.env)).all (λx=>!x.1)&&(xw pos (Yz [] X.env)).all (λx=>x.1.isSome)
  && decide ((e::es).length+([]:List xI).length+(if([]:List xI).isEmpty then 0 else 1)<30))=true:=by rfl)
 (hline:(apos.endLine==pos.line)=true:=by rfl) (hs:yf (e::es) X.env=(false,yV e X.env)::yf es X.env:=by rfl) (hplain:(yZ pos (yf es X.env)).any (·.1)=false:=by rfl) :
 ME X (.Call (.Attribute o name apos) (e::es) [] pos) (zok g φ ψ) :=
 zud (zOt PySem.F.plainAttrs_list slot hty hm ho ha.ma hbase hfew hline hs hplain) λρ δ μ σ H d μ' Q A e k=>by
  obtain⟨⟨x,μ1⟩,e1,e⟩:=zf e;refine⟨ρ,δ,μ,x,μ1,A,e1,λρ1 H1 v x1 R1 r1=>?_⟩;dsimp only at e
  split at e
  ·split at e
   ·rename_i hm'
    obtain⟨⟨ds,μ2⟩,e2,e⟩:=zf e;obtain⟨a,rfl,ea⟩:=r1.tz;obtain⟨vs,e3,q3⟩:=R1.at_ _ _ _ ea hm';refine⟨.inl ⟨rfl,vs,SqL.of e3⟩,ρ1,δ,μ1,ds,μ2,A.ext x1 R1,e2,λρ2 H2 vs2 x2 R2 r2=>?_⟩;exact⟨ρ2,_,ds,μ2,d,μ',r1.ext x2,r2,R2,e,λρ3 H3 v3 x3 R3 r3=>k ρ3 H3 v3 (x1.trans (x2.trans x3)) R3 r3⟩
   ·cases e
  ·cases e
def zqn:MtG X "list.append" zMf:=by
 refine MtG.of λpins s σ H x xs v us Q I rx rs ρ dx ds μ d μ' r1 r2 R e k=>?_;unfold zMf at e
 split at e
 ·split at e
  ·rename_i hm
   obtain⟨h1,e⟩:=zR e;have h1:=of_decide_eq_true h1;cases e;obtain⟨a,rfl,ea⟩:=r1.tz;obtain⟨vs,e3,q3⟩:=R.at_ _ _ _ ea hm;obtain⟨w,r,rfl,q1,q2⟩:=r2.cons_inv;rw[q2.nil_inv]at rs;have hl:=q3.length;have hmi:=Ts;have hmu:Mut (H a):=by rw[e3];trivial
   refine znp pins s σ H _ _ v us Q I rx rs ⟨a,vs,w,rfl,rfl,e3,by omega,?_⟩;exact k ρ _ _ (Ext.wr hmu) (R.wr hmu ea ⟨_,zt,tf.ext (Ext.wr hmu) (q3.append (.cons q1 .nil))⟩) .non
  ·cases e
 ·cases e
def zei{o:yz}{ψ:FA}{apos:YR}(ho:ME X o φ)(ha:MAn X (e::es) ψ)
 (hbase:Yt o "append" X.env (yV o X.env)=yV o X.env:=by rfl)
 (hfew:((yZ pos (yf (e::es) X.env)).all (λx=>!x.1)&&(xw pos (Yz [] X.env)).all (λx=>x.1.isSome)
  && decide ((e::es).length+([]:List xI).length+(if([]:List xI).isEmpty then 0 else 1)<30))=true:=by rfl)
 (hline:(apos.endLine==pos.line)=true:=by rfl) (hs:yf (e::es) X.env=(false,yV e X.env)::yf es X.env:=by rfl) (hplain:(yZ pos (yf es X.env)).any (·.1)=false:=by rfl) :
 ME X (.Call (.Attribute o "append" apos) (e::es) [] pos) (zok zMf φ ψ):=zRp PySem.F.slot_list_append PySem.F.type_list_append zqn ho ha hbase hfew hline hs hplain
end
end M
namespace M
open PySem
def RS(xs:Array Nat):Prop:=xs.toList.Pairwise (· < ·)
structure TOk(L:Bool)(t:SetTable):Prop where
 rs:RS t.place
 nd:t.dummies = #[]
 led:t.led=L
section
variable {prog:yu}{w:yI}{A:yJ}{E:Value->yd->Prop}{s:yd}
def stored{o:Yw}{h:yR}{a:yb}{es:Array (Int×Value)}{ep:Nat}{t:SetTable}(ho:h.get? a=some o)(hd:o.data=.set es ep t)(es1:Array (Int×Value))(t1:SetTable) :
 (h.update a (Obj.putSet es1 t1)).get? a=some {o with data:=.set es1 (ep+1) t1 }:=by
 have e:=putSet_of es1 t1 hd;have q:=Yi (Obj.putSet es1 t1) ho (by rw[e];rfl);rw[e]at q;exact q
end
section
variable {prog:yu}{w:yI}{A:yJ}{E:Value->yd->Prop}{s:yd}
end
section
variable {prog:yu}{w:yI}{A:yJ}{E:Value->yd->Prop}{s:yd}{it a:yb}{es:Array (Int×Value)}{ep i:Nat}{t:SetTable}{Q:Option Value->yd->Prop}
end
section
variable {prog:yu}{w:yI}{A:yJ}{E:Value->yd->Prop}{s:yd}{it a:yb}{es:Array (Int×Value)}{ep i:Nat}{t:SetTable}
end
section
variable {prog:yu}{w:yI}{A:yJ}{E:Value->yd->Prop}{s:yd}{I a:yb}{es:Array (Int×Value)}{ep i:Nat}{t:SetTable}
end
section
variable {prog:yu}{w:yI}{A:yJ}{E:Value->yd->Prop}{s:yd}{a:yb}{es:Array (Int×Value)}{ep:Nat}{t:SetTable}
end
section
variable {prog:yu}{w:yI}{A:yJ}{E:Value->yd->Prop}{s:yd}{a:yb}{es:Array (Int×Value)}{ep:Nat}{t:SetTable}
end
end M
namespace M
open PySem PyProof.Rows
section
variable {prog:yu}{w:yI}{A:yJ}{E:Value->yd->Prop}{s:yd}{a:yb}
def zLu(s:yd)(ks:List Int)(p:yb)(s':yd):Prop :=
 ∃(out:Array Value)(ns:List Int)(e:Nat),s'.heap.get? p=some {cls:=.type "list",data:=.seq out e }/\IntsAre out.toList ns/\ns.Perm ks/\ns.Pairwise (·<=·)/\s.heap.objs.size<=p/\(∀b o,s.heap.get? b=some o->s'.heap.get? b=some o)/\s'.os=s.os/\s'.gens=s.gens
end
section
variable {prog:yu}{w:yI}{A:yJ}{R:Result->yd->Prop}{I:yb}{fp wr:List yb}{n:Nat}{P:Nat->Value->Prop}{St:Nat->yR->Prop}
end
section
variable {prog:yu}{w:yI}{A:yJ}{E:Value->yd->Prop}{s:yd}
end
section
variable {prog:yu}{w:yI}{A:yJ}{E:Value->yd->Prop}{s:yd}
end
end M
namespace M
open PySem PySem.Spec PyProof.Rows L2
section
variable {X:Cx}{pins:List (yb×Yw)}{σ:L2.St}{H:Hp}{s s':yd}
def zlq{p:yb}{o:HO}(I:Inv X pins σ H s)(ho:s'.os=s.os)(hg:s'.gens=s.gens)(k:∀b u,s.heap.get? b=some u->s'.heap.get? b=some u)(hp:s.heap.objs.size<=p)(new:tF X.prog X.w (upd H p o) s'.heap p o):Inv X pins σ (upd H p o) s' :=
 I.call' (ch:=[]) ho (Un.laid k hp (I.hok.fresh hp)) (I.hok.laid k hp new) (by rw[hg];exact I.bare) λb z=>nomatch z
def zSe:∀{us:List Value} {ns:List Int},IntsAre us ns->Vals (ns.map V.int) us
 |_,_,.nil =>.nil
 |_,_,.cons n t r =>.cons ⟨t,rfl⟩ (zSe r)
end
def z7v:D->Option Int
 |.int i=>some i
 |_=>none
def zwi(ds:List D):Option (List Int):=ds.mapM z7v
@[simp] theorem zMh:∀ns:List Int,zwi (ns.map D.int)=some ns
 |[]=>rfl
 |i::ns=>by
  have:=zMh ns;unfold zwi at this ⊢;rw[map_cons,mapM_cons,this];rfl
def z4h:∀{ds:List D} {ns:List Int},zwi ds=some ns->ds=ns.map D.int
 |[],ns,h=>by
  unfold zwi at h;simp at h;subst h;rfl
 |d::ds,ns,h=>by
  unfold zwi at h;rw[mapM_cons]at h;obtain⟨i,e1,h⟩:=zf h;obtain⟨r,e2,h⟩:=zf h;cases h
  cases d with
  |int j=>cases e1;rw[z4h (show zwi ds=some r from e2)];rfl
  |_=>cases e1
def zjm{K:yt}{ρ:List yb}{H:Hp}:∀{ns:List Int} {vs:List V},tf K ρ H (ns.map D.int) vs->vs=ns.map V.int
 |[],vs,r=>r.nil_inv
 |i::ns,vs,r=>by
  obtain⟨v,q,rfl,h1,h2⟩:=r.cons_inv;rw[h1.int_inv,zjm h2];rfl
def zqh{K:yt}{ρ:List yb}{H:Hp}:∀{ns:List Int},tf K ρ H (ns.map D.int) (ns.map V.int)
 |[] =>.nil
 |i::ns =>.cons .int zqh
def zsd{a b:List Int}(p:a.Perm b)(ha:a.Pairwise (·<=·))(hb:b.Pairwise (·<=·)):a=b:=p.eq_of_pairwise (λ_ _ _ _ h1 h2=>Int.le_antisymm h1 h2) ha hb
def zKh(ns:List Int):(ns.mergeSort λa b=>decide (a<=b)).Pairwise (·<=·):=by
 have:=List.pairwise_mergeSort (le:=λa b:Int=>decide (a<=b)) (λa b c h1 h2=>by simp at h1 h2 ⊢;omega) (λa b=>by simp;omega) ns;exact this.imp λh=>by simpa using h
section
variable {X:Cx}{a b c e:yz}{es:List yz}{φ ψ χ:FE}{pos pos2 p1 p2:YR}
end
section
variable {prog:yu}{w:yI}{A:yJ}{E:Value->yd->Prop}{s:yd}
end
section
variable {X:Cx}{a b c e:yz}{es:List yz}{φ ψ χ:FE}{pos:YR}
@[simp] def zBg(φ:FE):FI:=λδ μ=>(φ δ μ).bind λp=>match p.1 with
 |.tup ds=>some (ds,yes,p.2)
 |.fz ds=>some (ds,yes,p.2)
 |.loc n=>match p.2[n]? with
  |some (.lst ds)=>some (ds,zWk n ds,p.2)
  |_=>none
 |_=>none
def z3d{tg:yz}(h:ME X a φ):MI X tg a (zBg φ):=by
 intro pins s σ H R I hh;obtain⟨ρ,δ,μ,ds,ok,μ',A,e,k⟩:=hh
 cases e1:φ δ μ with
 |none=>unfold zBg at e;rw[e1]at e;cases e
 |some p=>
  obtain⟨x,μ1⟩:=p
  cases x with
  |tup zs=>exact zpu h pins s σ H R I ⟨ρ,δ,μ,ds,ok,μ',A,by unfold zBg at e;unfold zwr;rw[e1]at e ⊢;exact e,k⟩
  |fz zs=>exact zMp h pins s σ H R I ⟨ρ,δ,μ,ds,ok,μ',A,by unfold zBg at e;unfold zwp;rw[e1]at e ⊢;exact e,k⟩
  |loc n=>exact zMp h pins s σ H R I ⟨ρ,δ,μ,ds,ok,μ',A,by unfold zBg at e;unfold zwp;rw[e1]at e ⊢;exact e,k⟩
  |_=>unfold zBg at e;rw[e1]at e;cases e
end
def zrk{K:yt}{h:yR}{C:yb}{bmB:List Value}{newId:String}(X:K.In h)(q:W.excIn K C bmB newId=true) :
 ∃bm N nm qn bs hdct sn sub ab col dd k0 k1 k2 k3 k5 mN,h.get? C=some (YJ nm qn C N bs bm hdct sn sub ab col dd k0 k1 k2 k3 k5 newId)/\h.Ns N mN/\mN "__init__"=none/\OwnTail h bmB bm:=by
 unfold W.excIn at q
 split at q
 ·rename_i dd cd sl ho
  split at q
  ·rename_i C' bm k0 k1 k2 k3 n k5 hm hs
   simp only[yN,beq_iff_eq,Bool.not_eq_true']at q;obtain⟨⟨⟨⟨⟨rfl,rfl⟩,hdel⟩,ht⟩,hok⟩,hni⟩:=q;obtain⟨nm,bs,mro,ns,qn,hd,sn,sub,ab,col,del⟩:=cd;dsimp only at hm hdel hok hni;subst hm hdel
   have hsl:sl = #[k0,k1,k2,k3,some (.builtin n),k5]:=by
    obtain⟨l⟩:=sl;simp only at hs;rw[hs]
   subst hsl;exact⟨bm,ns,nm,qn,bs,hd,sn,sub,ab,col,dd,k0,k1,k2,k3,k5,_,X _ _ ho,.of_isNs (W.isNs_of_in X hok),W.nsMap_none_of_in X hok hni,W.tail_of_in X ht⟩
  ·cases q
 ·cases q
section
variable {X:Cx}{e:yz}{es:List yz}{pos np cpos:YR}{x:yr}{C:yb}{B newId initId:String}{bmB:List Value}
@[simp] def zBk(c:yr)(φ:FA):FS:=λδ μ=>(φ δ μ).bind λp=>some (.exc c [] p.2)
def zCm{φ:FA}(hn:yW X.K yi x=some (some (.ref C)))(q:W.excIn X.K C bmB newId=true)(FB:ExcBaseFacts B newId initId bmB)(ha:MAn X (e::es) φ)(hl:(e::es).length<=1000:=by decide)(hh:X.calm=true:=by rfl)(hg:Gl X x:=by rfl)
 (he:yf (e::es) X.env=(false,yV e X.env)::yf es X.env:=by exact ztc rfl) (hpl:(yZ cpos (yf es X.env)).any (·.1)=false:=by rfl) (hdb:(x==("__debug__":yr))=false:=by decide) :
 MS X (.Raise (some (.Call (.Name x np) (e::es) [] cpos)) none pos) (zBk x φ):=by
 intro pins s σ H D I ⟨ρ,δ,μ,o,A,eo,k⟩;obtain⟨⟨ds,μ1⟩,e1,eo⟩:=zf eo;cases eo;obtain⟨bm,N,nm,qn,bs,hdct,sn,sub,ab,col,dd,k0,k1,k2,k3,k5,mN,hC,hN,hni,T⟩:=zrk I.mod.kin q
 have hpl':(yZ cpos (yf (e::es) X.env)).any (·.1)=false:=by
  rw[he];show(false||(yZ cpos (yf es X.env)).any (·.1))=false;rw[hpl];rfl
 refine wpAny_Raise_call_subT (C:=C) (nm:=nm) (q:=qn) (N:=N) (bs:=bs) (bm:=bm) (hdct:=hdct) (sn:=sn) (sub:=sub) (ab:=ab) (col:=col) (dd:=dd) (k0:=k0) (k1:=k1) (k2:=k2) (k3:=k3) (k5:=k5)
  FB (mN:=mN) (T.hasType FB.hasBase) (I.ok.hd hh) hpl' hni (zHf I hg (xc I.mod.kin I.mod.glob hn) ⟨rfl,?_⟩ hdb)
 have h:=ha.ma cpos pins s σ H (λvs H'=>vs.length<=yC/\zDj X (.ref C) none H') I ⟨ρ,δ,μ,ds,μ1,A,e1,λρ' H' vs x' R r=>⟨by
  rw[<-r.length,ha.len _ _ _ _ e1];exact YN (TU hl),k ρ' H' C none hn x' R (.inl ⟨rfl,rfl⟩)⟩⟩
 rw[he]at h ⊢;refine Calls.evalArgs_plain (yT h (λus s2 h2=>?_) λ_ _ y=>y);obtain⟨vs,H',I',r,hl,hw⟩:=h2;exact⟨rfl,by rw[<-r.length];exact hl,I'.bk _ _ hC,hN.keeps I'.bk,T.keeps I'.bk,λh' a hm=>hw pins σ H' s2 (.ref a) _ I' (I'.madeX hm)⟩
end
inductive RO where
 |ok (d:D) (μ:Mem)
 |exc (c:yr) (fs:List (yr×D)) (μ:Mem)
abbrev FX:=List D->Mem->Option RO
def ROk(K:yt)(ρ:List yb)(H:Hp)(Q:VK)(E:XK):RO->Prop
 |.ok d μ'=>∀ρ' H' v,Ext ρ H ρ' H'->tG K ρ' H' μ'->tm K ρ' H' d v->Q v H'
 |.exc c fs μ'=>∀ρ' H' C dx,yW K yi c=some (some (.ref C))->Ext ρ H ρ' H'->tG K ρ' H' μ'->sJ K ρ' H' fs dx->E (.ref C) dx H'
def ROk.ext{K:yt}{ρ ρ1:List yb}{H H1:Hp}{Q:VK}{E:XK}{r:RO}(h:ROk K ρ H Q E r)(x:Ext ρ H ρ1 H1):ROk K ρ1 H1 Q E r:=by
 cases r with
 |ok d μ=>exact λρ' H' v x' R r=>h ρ' H' v (x.trans x') R r
 |exc c fs μ=>exact λρ' H' C dx hc x' R r=>h ρ' H' C dx hc (x.trans x') R r
def spX(K:yt)(n:Nat)(F:FX):Sp:=λvs H Q E=>vs.length=n/\∃ρ ds μ r,tf K ρ H ds vs/\tG K ρ H μ/\F ds μ=some r/\ROk K ρ H Q E r
@[simp] def zXu:Option Out->Option RO
 |some (.ret d μ)=>some (.ok d μ)
 |some (.next _ μ)=>some (.ok .non μ)
 |some (.exc c fs μ)=>some (.exc c fs μ)
 |_=>none
def fnX{P:yu}{w:yI}{K:yt}{mg:yr->Option Value}{base:yR}{x qual:yr}{st:yX}{f:yb}{fd:yj}{N ps:List yr}{k n:Nat}{F:FX}(G:Fun K x qual st f fd)(S:tx N ps (zp st))(hn:ps.length=n)
 (hbody:∀(cdv:Value)(A:yJ)(outer:List Env)(s:yd)(H:Hp)(E:XK),tQ k (A.deeper (envOfC qual (zp st) s.heap.objs.size f cdv)) ->
  ∃p,MSs (z6o (CXq P w) P w K mg base N qual (zp st) f cdv A outer s H E) (zyc st) p/\∀ds μ r,ds.length=n->F ds μ=some r->zXu (p (zU N ds) μ)=some r) :
 tu P w K mg base (CXq P w) (k+1) f fd ps (spX K n F):=by
 obtain⟨oc,od,kV,doc,pm,an,cdv,ct,osl,rfl,lk,hcd⟩:=G.ex;refine zAt lk hcd S (λvs H Q E h=>by rw[hn];exact h.1) λA outer s H vs Q E hr h=>?_;obtain⟨p,hp,hF⟩:=hbody cdv A outer s H E hr;refine⟨_,hp,?_⟩;obtain⟨hl,ρ,ds,μ,r,rv,R,e,hk⟩:=h;have e':=hF ds μ r (by rw[rv.length];exact hl) e
 cases eo:p (zU N ds) μ with
 |none=>rw[eo]at e';cases e'
 |some o=>
  rw[eo]at e';refine⟨ρ,zU N ds,μ,o,zMm rv R,eo,?_⟩
  cases o with
  |ret d2 μ2=>cases e';exact λρ' v H' x' R' r'=>hk ρ' H' v x' R' r'
  |next δ2 μ2=>cases e';exact λρ' σ' H' x' A'=>hk ρ' H' .non x' A'.hp .non
  |exc c fs μ2=>cases e';exact λρ' H' C dx hc x' R' r'=>zyn (hk ρ' H' C dx hc x' R' r')
  |brk _ _=>cases e'
  |cont _ _=>cases e'
section
variable {X:Cx}{e:yz}{es:List yz}{pos p spos:YR}{x:yr}{k j n:Nat}{st:yX}{f:yb}{fd:yj}{ps:List yr}{F:FX}{φ:FA}
def passF{P:yu}{w:yI}:zrf (CXq P w) X E0:=λ_ _ _ _ _ _ _ ⟨_,_,_,_,q⟩=>q.elim
@[simp] def zRv:Option RO->Option (D×Mem)
 |some (.ok d μ)=>some (d,μ)
 |_=>none
def z3p{r:Option RO}{d:D}{μ:Mem}(h:zRv r=some (d,μ)):r=some (.ok d μ):=by
 cases r with
 |none=>cases h
 |some r=>cases r<;>cases h;rfl
@[simp] def zmj(F:FX)(φ:FA):FE:=λδ μ=>(φ δ μ).bind λp=>zRv (F p.1 p.2)
def tCX(K:PySem.W.Frag)(W:XK)(n:Nat)(F:FX)(φ:FA):TE:=zMn (spX K n F) [] W (tMA K φ)
def zzr{K:PySem.W.Frag}{W:XK}{ρ:List yb}{δ:Loc}{μ:Mem}{σ:L2.St}{H:Hp}{Q:VK}{ds:List D}{μ1:Mem}{r:RO}(A:At K ρ H σ δ μ)(e1:φ δ μ=some (ds,μ1))(hl:ds.length=n)(e2:F ds μ1=some r)(h:ROk K ρ H Q W r):tCX K W n F φ σ H Q :=
 ⟨ρ,δ,μ,ds,μ1,A,e1,λρ1 H1 vs x1 R1 r1=>by
  show spX K n F (vs++[]) H1 Q W;rw[append_nil];exact⟨by rw[<-r1.length];exact hl,ρ1,ds,μ1,r,r1,R1,e2,h.ext x1⟩⟩
@[simp] def zkv(F:FX)(φ:FA)(g:D->Loc->Mem->Out):FS:=λδ μ=>(φ δ μ).bind λp=>match F p.1 p.2 with
 |some (.ok d μ')=>some (g d δ μ')
 |some (.exc c fs μ')=>some (.exc c fs μ')
 |none=>none
def zRm{g:D->Loc->Mem->Out}{δ:Loc}{μ:Mem}{o:Out}(h:zkv F φ g δ μ=some o):∃ds μ1 r,φ δ μ=some (ds,μ1)/\F ds μ1=some r/\o=match r with
 |.ok d μ'=>g d δ μ'
 |.exc c fs μ' =>.exc c fs μ':=by
 obtain⟨⟨ds,μ1⟩,e1,h⟩:=zf h;refine⟨ds,μ1,?_⟩
 cases e2:F ds μ1 with
 |none=>rw[e2]at h;cases h
 |some r=>
  rw[e2]at h
  cases r with
  |ok d μ'=>cases h;exact⟨_,e1,rfl,rfl⟩
  |exc c fs μ'=>cases h;exact⟨_,e1,rfl,rfl⟩
@[simp] def zSp(F:FX)(φ:FA):FS:=zkv F φ λ_ δ μ =>.next δ μ
@[simp] def zWr(i:Nat)(F:FX)(φ:FA):FS:=zkv F φ λd δ μ =>.next (δ.set i (some d)) μ
end
end M
namespace L2
open PySem PySem.Spec PyProof.Rows
section
variable {X:Cx}{pins:List (yb×Yw)}{σ:St}{H:Hp}{s:yd}
abbrev Cx.suite(X:Cx)(v:Value):Cx:={X with A:=X.A.mark (some v),calm:=false,xe:=λ_ _=>False }
def Inv.suite(I:Inv X pins σ H s)(v:Value):Inv (X.suite v) pins σ H s :=
 ⟨⟨I.ok.mod,I.ok.kind,I.ok.glob,I.ok.blt,I.ok.above,I.ok.inj,I.ok.has,I.ok.cab,λz=>absurd z (by simp),I.ok.frames,I.ok.stk,I.ok.exf,I.ok.bs,I.ok.bsz,I.ok.Sb,I.ok.Se,I.ok.TQ,I.ok.frf⟩,
  I.os,I.bare,I.base,I.loc,I.cell,I.free,I.freeC,I.pin,I.hok,I.len⟩
def Inv.sf{v:Value}(ok:X.Ok)(I:Inv (X.suite v) pins σ H s):Inv X pins σ H s :=
 ⟨ok,I.os,I.bare,I.base,I.loc,I.cell,I.free,I.freeC,I.pin,I.hok,I.len⟩
end
section
variable {M:Model}{A:yJ}{E:Value->yd->Prop}{h:yR}{g:Array GenState}{d:Drawn}{t:Nat}{os:OsState}
def zNi{nm q:yr}{C N:yb}{bs bm:List Value}{hdct:Bool}{sn:List yr}{sub:List Value}{ab:Bool}{col:Option Bool}{dd:Option yb}{k0 k1 k2 k3 k5:Option Value}{newId:String}
 {nm' q':yr} {C' N':yb} {bs' bm':List Value} {hdct':Bool} {sn':List yr} {sub':List Value} {ab':Bool} {col':Option Bool} {dd':Option yb} {k0' k1' k2' k3' k5':Option Value} {newId':String} {e:yb} {oe:Yw} {b:Bool} {Q:Bool->yd->Prop}
 (hC:h.get? C=some (YJ nm q C N bs bm hdct sn sub ab col dd k0 k1 k2 k3 k5 newId)) (hC':h.get? C'=some (YJ nm' q' C' N' bs' bm' hdct' sn' sub' ab' col' dd' k0' k1' k2' k3' k5' newId'))
 (he:h.get? e=some oe) (hcls:oe.cls=.ref C) (hbase:bm'.contains (.type "BaseException")=true) (hb:(yH C::bm).contains (.ref C')=b) (hq:Q b ⟨h,g,d,t,os⟩):yq M A (excMatches (.ref e) (.ref C')) Q E ⟨h,g,d,t,os⟩:=by
 have hcB:(yH C'::bm').contains (.type "BaseException")=true:=by rw[List.contains_cons,hbase,Bool.or_true]
 have f:=tc_notTuple;unfold excMatches
 cases b with
 |true=>
  repeat (first|(with_reducible refine Ys he ?_;rw[hcls])|with_reducible refine Ys hC' ?_|(with_reducible refine YM hC' ?_;rw[hcB])|(with_reducible refine YM hC ?_;rw[hb])|wp_step)
  exact hq
 |false=>
  repeat (first|(with_reducible refine Ys he ?_;rw[hcls])|with_reducible refine Ys hC' ?_|(with_reducible refine YM hC' ?_;rw[hcB])|(with_reducible refine YM hC ?_;rw[hb])|wp_step)
  exact hq
end
def zDs{K:yt}{h:yR}{C:yb}{v:Value}{b:Bool}{nm q:yr}{N:yb}{bs bm:List Value}{hdct:Bool}{sn:List yr}{sub:List Value}{ab:Bool}{col:Option Bool}{dd:Option yb}{k0 k1 k2 k3 k5:Option Value}{newId:String}(X:K.In h)(e:W.mroIn K C v=some b)
 (hC:h.get? C=some (YJ nm q C N bs bm hdct sn sub ab col dd k0 k1 k2 k3 k5 newId)):(yH C::bm).contains v=b:=by
 obtain⟨cd,a,z⟩:=Option.bind_eq_some_iff.mp e;unfold W.clsIn at a
 split at a
 ·rename_i ho
  cases a;have:=X _ _ ho;rw[hC]at this;cases this
  split at z
  ·cases z
  ·cases z;rfl
 ·cases a
end L2
namespace M
open PySem PySem.Spec PyProof.Rows L2
def XP(X:Cx)(pins:List (yb×Yw))(σ:L2.St)(W:XK)(e:Value)(s':yd):Prop:=∃H1 s1 C dx H',Inv X pins σ H1 s1/\sA X.prog X.w X.stack H1 s1 C dx H' e s'/\W C dx H'
def PX1(X:Cx)(st:yX)(ψ:FS):Prop:=∀(pins:List (yb×Yw)) (s:yd) (σ:L2.St) (H:Hp) (D:Ends) (W:XK),Inv X pins σ H s->tMS X.K W ψ D σ H->yq (yy X.prog X.w) X.A (exec st X.env) (SP X pins D) (XP X pins σ W) s
def PX(X:Cx)(sts:List yX)(ψ:FS):Prop:=∀(pins:List (yb×Yw)) (s:yd) (σ:L2.St) (H:Hp) (D:Ends) (W:XK),Inv X pins σ H s->tMS X.K W ψ D σ H->yq (yy X.prog X.w) X.A (execs sts X.env) (SP X pins D) (XP X pins σ W) s
section
variable {X:Cx}{c e:yz}{es:List yz}{pos p spos:YR}{x:yr}{k j n:Nat}{st:yX}{f:yb}{fd:yj}{ps:List yr}{F:FX}{φ:FA}
def zmr{ψ:FS}(h:PX1 X st ψ):PX X [st] ψ:=by
 intro pins s σ H D W I q;refine wpAny_execs_cons (thn (h pins s σ H D W I q) λf s1 q=>?_)
 cases f with
 |next=>exact xv q
 |ret v=>exact q
 |brk=>exact q
 |cont=>exact q
end
abbrev FH:=yr->List (yr×D)->FS
def Cau(X:Cx)(pins:List (yb×Yw))(σ:L2.St)(C:Value)(dx:Option yb)(H':Hp)(a:yb)(s':yd):Prop:=∃H1 s1,Inv X pins σ H1 s1/\sA X.prog X.w X.stack H1 s1 C dx H' (.ref a) s'
def zXn{P:yu}{w:yI}{outer:List Env}{H H':Hp}{s s':yd}{C:Value}{dx:Option yb}{a:yb}{B base h2:yR}(F:sA P w outer H s C dx H' (.ref a) s')(c:Cov outer H' s.heap B)(st:B.StaysIn s'.heap)(fl:Fly B outer a C dx h2)(sm:s'.heap.UpToSlots h2)
 (ff:s.heap.FunFrames base outer) (frf:∀b∈frs outer,H b=none):sA P w outer H s C dx H' (.ref a) {s' with heap:=h2 } :=
 ⟨F.os,F.bare,zyo F.un c st fl.st sm ff frf,zFm F.hok c st fl.st,a,B,rfl,fl,c⟩
def MH(X:Cx)(hs:List ExceptHandler)(η:FH):Prop :=
 ∀pins σ C c fs dx H' a s' ρ δ μ o D,Cau X pins σ (.ref C) dx H' a s'->yW X.K yi c=some (some (.ref C))->sJ X.K ρ H' fs dx->At X.K ρ H' σ δ μ->η c fs δ μ=some o->so X.K (zDj X) ρ H' D o ->
  yq (yy X.prog X.w) X.A (handleBy (.ref a) X.env hs) (SP X pins D) X.xe s'
@[simp] def z5s:FH:=λ_ _ _ _=>none
def z4n{X:Cx}{hs:List ExceptHandler}:MH X hs z5s:=λ_ _ _ _ _ _ _ _ _ _ _ _ _ _ _ _ _ _ e _=>by cases e
@[simp] def zvp(p:FS)(η:FH):FS:=λδ μ=>match p δ μ with
 |some (.exc c fs μ')=>η c fs δ μ'
 |o=>o
def zgr{X:Cx}{body:List yX}{h0:ExceptHandler}{hs:List ExceptHandler}{pos:YR}{p:FS}{η:FH}(hb:PX X body p)(hh:MH X (h0::hs) η)(hst:X.stack=X.env::X.outer:=by rfl)(hfm:X.env.frame=some X.env.locals:=by rfl):MS X (.Try body (h0::hs) [] [] pos) (zvp p η):=by
 intro pins s σ H D I ⟨ρ,δ,μ,o,A,eo,kk⟩
 have calm:∀o',p δ μ=some o'->(∀c fs μ',o'≠.exc c fs μ')->yq (yy X.prog X.w) X.A (exec (.Try body (h0::hs) [] [] pos) X.env) (SP X pins D) X.xe s:=λo' ep hne=>by
  have eo':o'=o:=by
   unfold zvp at eo;rw[ep]at eo
   cases o' with
   |exc c fs μ'=>exact absurd rfl (hne c fs μ')
   |next _ _=>cases eo;rfl
   |ret _ _=>cases eo;rfl
   |brk _ _=>cases eo;rfl
   |cont _ _=>cases eo;rfl
  subst eo';refine wpAny_Try_except (yT (hb pins s σ H D E0 I ⟨ρ,δ,μ,o',A,ep,?_⟩) (λfl s1 q=>?_) λe s1 ⟨_,_,_,_,_,_,_,z⟩=>z.elim)
  ·cases o' with
   |exc c fs μ'=>exact absurd rfl (hne c fs μ')
   |next _ _=>exact kk
   |ret _ _=>exact kk
   |brk _ _=>exact kk
   |cont _ _=>exact kk
  ·cases fl with
   |next=>exact xv q
   |ret v=>exact q
   |brk=>exact q
   |cont=>exact q
 cases ep:p δ μ with
 |none=>unfold zvp at eo;rw[ep]at eo;cases eo
 |some o'=>
  cases o' with
  |next _ _=>exact calm _ ep (by intros;simp)
  |ret _ _=>exact calm _ ep (by intros;simp)
  |brk _ _=>exact calm _ ep (by intros;simp)
  |cont _ _=>exact calm _ ep (by intros;simp)
  |exc c fs μ'=>
   have eo:η c fs δ μ'=some o:=by unfold zvp at eo;rw[ep]at eo;exact eo
   refine wpAny_Try_except (yT (hb pins s σ H {nx:=λ_ _=>False,rt:=λ_ _=>False } (λCv dx H'=>∃C ρ',Cv=.ref C/\yW X.K yi c=some (some (.ref C))/\Ext ρ H ρ' H'/\tG X.K ρ' H' μ'/\sJ X.K ρ' H' fs dx) I
    ⟨ρ,δ,μ,_,A,ep,λρ' H' C dx hc x' R r=>⟨C,ρ',rfl,hc,x',R,r⟩⟩) (λfl s1 q=>?_) λe s1 q=>?_)
   ·cases fl with
    |next=>obtain⟨_,_,_,z⟩:=q;exact z.elim
    |ret v=>obtain⟨_,_,_,_,_,z⟩:=q;exact z.elim
    |brk=>obtain⟨_,_,_,z⟩:=q;exact z.elim
    |cont=>obtain⟨_,_,_,z⟩:=q;exact z.elim
   ·obtain⟨H1,s2,Cv,dx,H',I1,F,C,ρ',rfl,hc,x',R,rX⟩:=q;obtain⟨a,B,rfl,fl,cov⟩:=F.fly;have fl':Fly B (X.env::X.outer) a (.ref C) dx s1.heap:=by rw[<-hst];exact fl
    have hfr:X.A.frames=some (X.env::X.outer):=by rw[<-hst];exact I.ok.frames
    refine zAh hfr hfm fl' λh2 fl2 sm2=>zCf (s:={s1 with heap:=h2 }) fl2 λh3 fl3 sm3=>?_;rw[<-hst]at fl3;exact hh pins σ C c fs dx H' a {s1 with heap:=h3 } ρ' δ μ' o D ⟨H1,s2,I1,zXn (h2:=h3) F cov fl.st fl3 (sm2.trans sm3) I1.stack I1.TF⟩ hc rX (A.ext x' R) eo (kk.ext x')
def Tn(K:yt)(D0:yb)(tb:List (yr×Bool)):Prop:=∀c b,tb.lookup c=some b->∀C,yW K yi c=some (some (.ref C))->W.ktsIn K C "BaseException"=true/\W.mroIn K C (.ref D0)=some b
@[simp] def z5g(tb:List (yr×Bool))(q:FS)(η:FH):FH:=λc fs δ μ=>match tb.lookup c with
 |some true=>(match q δ μ with
  |some (.exc _ _ _)=>none
  |o=>o)
 |some false=>η c fs δ μ
 |none=>none
def z3l{X:Cx}{d:yr}{D0:yb}{b0:yX}{suite:List yX}{pos np:YR}{rest:List ExceptHandler}{q:FS}{η:FH}(tb:List (yr×Bool))(hd:yW X.K yi d=some (some (.ref D0)))(hk:W.ktsIn X.K D0 "BaseException"=true)(ht:Tn X.K D0 tb)
 (hq:∀v,MSs (X.suite v) (b0::suite) q) (hr:MH X rest η) (hg:Gl X d:=by rfl) (hdb:(d==("__debug__":yr))=false:=by decide) :
 MH X (.ExceptHandler (some (.Name d np)) none (b0::suite) pos::rest) (z5g tb q η):=by
 intro pins σ C c fs dx H' a s' ρ δ μ o D hcau hc hX A eo kk;obtain⟨H1,s1,I1,F⟩:=hcau;obtain⟨a',B,ea,fl,cov⟩:=F.fly;cases ea;have J:Inv X pins σ H' s':=I1.fly F cov fl.st fl.st (.refl _);obtain⟨oe,vs,y,he,hcl,hdx,hfd,h1,tr⟩:=fl.ob
 cases hb:tb.lookup c with
 |none=>unfold z5g at eo;rw[hb]at eo;cases eo
 |some b=>
  obtain⟨kC,mC⟩:=ht c b hb C hc;obtain⟨nm,qn,N,bs,bm,hdct,sn,sub,ab,col,dd,k0,k1,k2,k3,k5,newId,hC,_,_⟩:=W.kts_cls J.kIn kC;obtain⟨nm',qn',N',bs',bm',hdct',sn',sub',ab',col',dd',k0',k1',k2',k3',k5',newId',hC',hbase',_⟩:=W.kts_cls J.kIn hk;refine wpAny_handleBy_cons (codeAny_handlers_test (zHf (X:=X.suite (.ref a)) (J.suite (.ref a)) hg (xc J.mod.kin J.mod.glob hd) ?_ hdb)) (by intro z;cases z);obtain⟨hh,g,dr,tk,os⟩:=s';refine zNi hC hC' he hcl hbase' (zDs J.kIn mC hC) ?_
  cases b with
  |false=>
   unfold z5g at eo;rw[hb]at eo;exact hr pins σ C c fs dx H' a _ ρ δ μ o D ⟨H1,s1,I1,F⟩ hc hX A eo kk
  |true=>
   unfold z5g at eo;rw[hb]at eo;refine codeAny_handlers_suite (zCf (s:=⟨hh,g,dr,tk,os⟩) fl λh2 fl2 sm2=>?_);have J2:Inv X pins σ H' ⟨h2,g,dr,tk,os⟩:=I1.fly F cov fl.st fl2.st sm2
   cases eq:q δ μ with
   |none=>rw[eq]at eo;cases eo
   |some o'=>
    rw[eq]at eo;refine yT (hq (.ref a) pins _ σ H' D (J2.suite _) ⟨ρ,δ,μ,o',A,eq,?_⟩) (λf4 s4 hs4=>?_) λ_ _ z=>z.elim
    ·cases o' with
     |next δ' μ'=>cases eo;exact kk
     |brk δ' μ'=>cases eo;exact kk
     |cont δ' μ'=>cases eo;exact kk
     |ret d' μ'=>cases eo;exact kk
     |exc _ _ _=>cases eo
    ·cases f4 with
     |next=>obtain⟨σ4,H4,I4,z⟩:=hs4;exact⟨σ4,H4,I4.sf J.ok,z⟩
     |brk=>obtain⟨σ4,H4,I4,z⟩:=hs4;exact⟨σ4,H4,I4.sf J.ok,z⟩
     |cont=>obtain⟨σ4,H4,I4,z⟩:=hs4;exact⟨σ4,H4,I4.sf J.ok,z⟩
     |ret u=>obtain⟨v4,σ4,H4,I4,r4,z⟩:=hs4;exact⟨v4,σ4,H4,I4.sf J.ok,r4,z⟩
end M
namespace PySem.W
open PySem PySem.Spec PySem.Calls PyProof.Rows
structure AskC(K:Frag)(C:yb):Prop where
 cl:(clsIn K C).isSome=true
 ga:findIn K (.ref C) "__getattribute__"=some (some (.builtin "BaseException.__getattribute__"))
 gk:findIn K (.ref C) "__getattr__"=some none
 be:mroIn K C (.type "BaseException")=some true
 ha:findIn K (.ref C) "__class__"=some (some (.builtin "object.__class__"))
 hn:specialIn K (.builtin "object.__class__") "__get__"=some (some (.builtin "getset_descriptor.__get__"))
 tk:takesIn K (.builtin "object.__class__")=some true
 hm:mroIn K C (.type "object")=some true
section
variable {prog:yu}{w:yI}{A:yJ}{E:Value->yd->Prop}{s:yd}{K:Frag}{x D:yb}{ox:Yw}{odo:Option Yw}
end
end PySem.W
namespace M
open PySem PySem.Spec PyProof.Rows L2
section
variable {X:Cx}
inductive CN where
 |own (c:yr)
 |ty (n:String)
 deriving DecidableEq
abbrev Kit:=List ((Option yr×CN)×Bool)
def zMv(K:yt):CN->Value->Prop
 |.own d,v=>∃a,yW K yi d=some (some (.ref a))/\v=.ref a
 |.ty n,v=>v=.type n
structure KitOk(K:yt)(tb:Kit):Prop where
 non:∀d b v,tb.lookup (none,d)=some b->zMv K d v->W.kitOne K (.type "NoneType") v=some b
 ask:∀c d b,tb.lookup (some c,d)=some b->∀C,yW K yi c=some (some (.ref C))->W.AskC K C
 exc:∀c d b v,tb.lookup (some c,d)=some b->zMv K d v->∀C,yW K yi c=some (some (.ref C))->W.kitOne K (.ref C) v=some b
end
section
variable {K:yt}{D0:yb}{tb:List (yr×Bool)}{kt:Kit}
def Tn.nil:Tn K D0 []:=λc b h=>by cases h
def Tn.cons{c:yr}{C:yb}{b:Bool}(hc:yW K yi c=some (some (.ref C)))(k:W.ktsIn K C "BaseException"=true)(m:W.mroIn K C (.ref D0)=some b)(r:Tn K D0 tb):Tn K D0 ((c,b)::tb):=λc' b' h C' hC'=>by
 unfold Yu at h
 split at h
 ·rename_i e
  cases h;rw[beq_iff_eq.mp e,hc]at hC';cases hC';exact⟨k,m⟩
 ·exact r c' b' h C' hC'
end
structure MSsl(X:Cx)(sts:List yX)(ψ:FS):Prop where
 h:MSs X sts ψ
end M
namespace PySem
open Sem (wp)
section
variable {prog:yu}{w:yI}{A:yJ}{E:Value->yd->Prop}{h:yR}{g:Array GenState}{d:Drawn}{t:Nat}{os:OsState}
variable {nm q:yr}{C N fI:yb}{bs bm bmB:List Value}{hdct:Bool}{sn:List yr}{sub:List Value}{ab:Bool}{col:Option Bool}{dd:Option yb}{k0 k1 k2 k3 k5:Option Value}{B newId initId:String}
abbrev zqf(h:yR)(C:yb)(rest:List Value):yR:=(h.push {cls:=.type "tuple",data:=.seq rest.toArray }).push {cls:=.ref C,data:=.fields #[.ref h.objs.size,.none,.none,.none,.bool false,.none]}
def z1f(F:ExcBaseFacts B newId initId bmB)(T:OwnTail h bmB bm){rest:List Value}{Q:Fin->yd->Prop}
 (hC:h.get? C=some (YJ nm q C N bs bm hdct sn sub ab col dd k0 k1 k2 k3 k5 newId)) (L:W.Looks (yy prog w) h (typeLookup (.ref C) "__init__") (some (.ref fI))) (LB:∀self,W.Looks (yy prog w) h (bindSpecial (.ref fI) self) (.ref fI,[self]))
 (hq:yq (yy prog w) A (call (.ref fI) (.ref (h.objs.size+1)::rest)) (λv s'=>v=.none/\Q (.done (.ret (.ref (h.objs.size+1)))) s') E ⟨zqf h C rest,g,d,t,os⟩) (hrest:rest.length<=yC:=by size_fits) :
 yq (yy prog w) A (Builtin.«type.__call__» ⟨.ref C::rest,[]⟩) Q E ⟨h,g,d,t,os⟩:=by
 repeat (first|with_reducible refine Ys hC ?_|with_reducible refine wpAny_madeBy_exc hC ?_|wp_step)
 refine codeAny_call_builtin_code (Code.quiet_builtin _ F.quiet) (wpAny_check_new_subT F T hC ?_);refine codeAny_exc_new_subT F T hC ?_ hrest;show yq _ _ _ _ _ _;have k:∀b o,h.get? b=some o->(zqf h C rest).get? b=some o:=λb o e=>ye _ (ye _ e);have hC₁:=k _ _ hC;have hget:(zqf h C rest).get? (h.objs.size+1)=some {cls:=.ref C,data:=.fields #[.ref h.objs.size,.none,.none,.none,.bool false,.none]}:=by heap_get
 have hcC:(yH C::bm).contains (.ref C)=true:=by simp
 have T₁:=T.keeps k;unfold isInstance
 repeat (first|with_reducible refine Ys hget ?_|(with_reducible refine YM hC₁ ?_;rw[hcC])|wp_step)
 show yq _ _ (typeLookup (.ref C) _) _ _ _;refine L _ _ _ _ k ?_;refine yY (ya (LB _ _ _ _ _ k ?_));refine ya (yT hq (λv s' hv=>?_) λ_ _ x=>x);obtain⟨rfl,hv⟩:=hv
 repeat wp_step
 exact hv
def zek(F:ExcBaseFacts B newId initId bmB)(T:OwnTail h bmB bm){rest:List Value}{Q:Value->yd->Prop}
 (hC:h.get? C=some (YJ nm q C N bs bm hdct sn sub ab col dd k0 k1 k2 k3 k5 newId)) (L:W.Looks (yy prog w) h (typeLookup (.ref C) "__init__") (some (.ref fI))) (LB:∀self,W.Looks (yy prog w) h (bindSpecial (.ref fI) self) (.ref fI,[self]))
 (hq:yq (yy prog w) (A.under (.builtin "type.__call__" ⟨.ref C::rest,[]⟩)) (call (.ref fI) (.ref (h.objs.size+1)::rest)) (λv s'=>v=.none/\Q (.ref (h.objs.size+1)) s') E ⟨zqf h C rest,g,d,t,os⟩) (hrest:rest.length<=yC:=by size_fits) :
 yq (yy prog w) A (call (.ref C) rest) Q E ⟨h,g,d,t,os⟩:=by
 have f1:=tc_lookup;have f2:=tc_bind (.ref C);have hT:(⟨h,g,d,t,os⟩:yd).TypeIs (.ref C) "type":=⟨_,hC,rfl⟩
 refine wpAny_call (codeAny_of_tree ?_);show yq _ _ (callAny (.ref C) _) _ _ _
 repeat (any_goals (first|assumption|with_reducible refine Ys hC ?_|wp_step))
 refine⟨rfl,?_⟩;refine codeAny_call_builtin_at (Code.quiet_builtin _ (by decide +kernel)) entry_typeCall (wpAny_check_type_call_sub hC (z1f (hrest:=hrest) F T hC L LB ?_));exact hq
def zne{M:Model}{s:yd}{env:Env}{x:Sem Value}{Q:Flow->yd->Prop}(hbase:bm.contains (.type "BaseException")=true)(hh:A.handled=none)
 (h:yq M A x (λv s₁=>∃e de te,v=.ref e/\s₁.heap.get? C=some (YJ nm q C N bs bm hdct sn sub ab col dd k0 k1 k2 k3 k5 newId)/\s₁.heap.get? e=some {cls:=.ref C,dict:=de,data:=.fields #[.ref te,.none,.none,.none,.bool false,.none]}/\E (.ref e) s₁) E s) :
 yq M A (raiseStmt env (some x) none) Q E s:=by
 have hcB:(yH C::bm).contains (.type "BaseException")=true:=by rw[List.contains_cons,hbase,Bool.or_true]
 unfold raiseStmt;refine ya (yT h (λv s₁ h₁=>?_) λ_ _ x=>x);obtain⟨e,de,te,rfl,hC,he,hE⟩:=h₁;obtain⟨hp,g,d,tk,os⟩:=s₁
 repeat (first|with_reducible refine Ys he ?_|with_reducible refine Ys hC ?_|(with_reducible refine YM hC ?_;rw[hcB])|wp_step)
 exact wpAny_raiseNew_none hh hE
end
section
variable {prog:yu}{w:yI}{A:yJ}{E:Value->yd->Prop}{s:yd}{env:Env}
variable {nm q:yr}{C N fI:yb}{bs bm bmB:List Value}{hdct:Bool}{sn:List yr}{sub:List Value}{ab:Bool}{col:Option Bool}{dd:Option yb}{k0 k1 k2 k3 k5:Option Value}{B newId initId:String}
def zTh(F:ExcBaseFacts B newId initId bmB){x:yr}{np cpos pos:YR}{args:List yz}{Q:Flow->yd->Prop}
 (hbase:bm.contains (.type "BaseException")=true) (hh:A.handled=none) (hplain:(yZ cpos (yf args env)).any (·.1)=false)
 (h:yq (yy prog w) A (yV (.Name x np) env) (λf s₁=>f=.ref C/\yq (yy prog w) A (evalArgs (.ref C) true (yZ cpos (yf args env)) [])
  (λa s₂=>a.kw=[]/\a.pos.length<=yC/\s₂.heap.get? C=some (YJ nm q C N bs bm hdct sn sub ab col dd k0 k1 k2 k3 k5 newId)/\W.Looks (yy prog w) s₂.heap (typeLookup (.ref C) "__init__") (some (.ref fI))/\OwnTail s₂.heap bmB bm/\(∀self,W.Looks (yy prog w) s₂.heap (bindSpecial (.ref fI) self) (.ref fI,[self])) /\
   yq (yy prog w) (A.under (.builtin "type.__call__" ⟨.ref C::a.pos,[]⟩)) (call (.ref fI) (.ref (s₂.heap.objs.size+1)::a.pos)) (λv s₃=>v=.none/\s₃.heap.get? C=some (YJ nm q C N bs bm hdct sn sub ab col dd k0 k1 k2 k3 k5 newId) /\
    (∃de te,s₃.heap.get? (s₂.heap.objs.size+1)=some {cls:=.ref C,dict:=de,data:=.fields #[.ref te,.none,.none,.none,.bool false,.none]})/\E (.ref (s₂.heap.objs.size+1)) s₃) E {s₂ with heap:=zqf s₂.heap C a.pos }) E s₁) E s) :
 yq (yy prog w) A (exec (.Raise (some (.Call (.Name x np) args [] cpos)) none pos) env) Q E s:=by
 rw[arm_exec_Raise]
 first
  |refine ya (Yx (zne (C:=C) (nm:=nm) (q:=q) (N:=N) (bs:=bs) (bm:=bm) (hdct:=hdct) (sn:=sn) (sub:=sub) (ab:=ab) (col:=col) (dd:=dd) (k0:=k0) (k1:=k1) (k2:=k2) (k3:=k3) (k5:=k5) (newId:=newId) hbase hh (ya (yT (wpAny_Call_ofName (yT h (λf s₁ h₁=>?_) λ_ _ x=>x)) (λv s₃ h₃=>ya (Yx (yp h₃))) λ_ _ x=>x))))
  |(simp only[evalOpt,Option.map];refine ya (Yx (zne (C:=C) (nm:=nm) (q:=q) (N:=N) (bs:=bs) (bm:=bm) (hdct:=hdct) (sn:=sn) (sub:=sub) (ab:=ab) (col:=col) (dd:=dd) (k0:=k0) (k1:=k1) (k2:=k2) (k3:=k3) (k5:=k5) (newId:=newId) hbase hh (ya (yT (wpAny_Call_ofName (yT h (λf s₁ h₁=>?_) λ_ _ x=>x)) (λv s₃ h₃=>ya (Yx (yp h₃))) λ_ _ x=>x)))))
  |(refine ya (Yx (zne (C:=C) (nm:=nm) (q:=q) (N:=N) (bs:=bs) (bm:=bm) (hdct:=hdct) (sn:=sn) (sub:=sub) (ab:=ab) (col:=col) (dd:=dd) (k0:=k0) (k1:=k1) (k2:=k2) (k3:=k3) (k5:=k5) (newId:=newId) hbase hh ?_));refine ya (yT (wpAny_Call_ofName (yT h (λf s₁ h₁=>?_) λ_ _ x=>x)) (λv s₃ h₃=>ya (Yx (yp h₃))) λ_ _ x=>x))
 obtain⟨rfl,h₁⟩:=h₁;unfold callWith;refine ya (yY (yT h₁ (λa s₂ h₂=>ya (Yx ?_)) λ_ _ x=>x));obtain⟨apos,akw⟩:=a;obtain⟨hkw,hlen,hC,L,T,LB,h₂⟩:=h₂;obtain rfl:akw=[]:=hkw;obtain⟨hp,g,d,tk,os⟩:=s₂;simp only[hplain];refine ya (wpAny_keeperOf_exc hC ?_);refine ya (zek (hrest:=hlen) F T hC L LB ?_);refine yT h₂ (λv s₃ h₃=>?_) λ_ _ x=>x;obtain⟨rfl,hC3,⟨de,te,he⟩,hE⟩:=h₃;exact⟨rfl,ya (yY (wpAny_point (yp ⟨_,de,te,rfl,hC3,he,hE⟩)))⟩
end
end PySem
namespace PySem
open Sem (wp)
section
variable {prog:yu}{w:yI}{A:yJ}{E:Value->yd->Prop}{h:yR}{g:Array GenState}{d:Drawn}{t:Nat}{os:OsState}
variable {nm q:yr}{C N:yb}{bs bm bmB:List Value}{hdct:Bool}{sn:List yr}{sub:List Value}{ab:Bool}{col:Option Bool}{dd:Option yb}{k0 k1 k2 k3 k5:Option Value}{B newId initId:String}
def zVn(F:ExcBaseFacts B newId initId bmB)(T:OwnTail h bmB bm){e te:yb}{de:Option yb}{rest:List Value}{Q:Value->yd->Prop}
 (hC:h.get? C=some (YJ nm q C N bs bm hdct sn sub ab col dd k0 k1 k2 k3 k5 newId)) (he:h.get? e=some {cls:=.ref C,dict:=de,data:=.fields #[.ref te,.none,.none,.none,.bool false,.none]})
 (hq:∀h',(∀b o,b≠e->h.get? b=some o->h'.get? b=some o)->h'.get? e=some {cls:=.ref C,dict:=de,data:=.fields #[.ref h.objs.size,.none,.none,.none,.bool false,.none]}->h.objs.size<=h'.objs.size->Q .none ⟨h',g,d,t,os⟩) (hrest:rest.length<=yC:=by size_fits) :
 yq (yy prog w) A (call (.builtin initId) (.ref e::rest)) Q E ⟨h,g,d,t,os⟩:=by
 refine wpAny_call (xK F.init.plain F.initEntry (wpAny_check_init_subT F T hC he rfl ?_))
 wp_walk
 refine hq _ (λb o hb eb=>?_) ?_ ?_
 ·rw[Ye _ _ (yM hb)];exact ye _ eb
 ·rw[Yi _ (ye _ he) rfl];rfl
 ·simp
end
end PySem
namespace PySem.W
open PySem PySem.Spec PySem.Calls PyProof.Rows
open Builtin Builtin.ObjectAttr
abbrev bmV:List Value:=[.type "ValueError",.type "Exception",.type "BaseException",.type "object"]
def Te:List Value->List Value
 |.ref _::r=>Te r
 |l=>l
def zBp{v:Value}{r:List Value}(q:¬∃c,v=.ref c):Te (v::r)=v::r:=by
 unfold Te
 split
 ·rename_i z;cases z;exact absurd ⟨_,rfl⟩ q
 ·rfl
def z9i(self:Value):∀{l:List Value},Te l=bmV->refuseLoop self "__setattr__" l=pure ()
 |[],h=>by cases h
 |v::r,h=>by
  by_cases q:∃c,v=.ref c
  ·obtain⟨c,rfl⟩:=q;rw[refuseLoop_ref];exact z9i self (l:=r) h
  ·rw[zBp q]at h;rw[h];exact PySem.F.store_ValueError.passes self
def zym:∀{l:List Value},Te l=bmV->l.contains (.type "object")=true/\l.isEmpty=false
 |[],h=>by cases h
 |v::r,h=>by
  refine⟨?_,rfl⟩
  by_cases q:∃c,v=.ref c
  ·obtain⟨c,rfl⟩:=q;rw[List.contains_cons,(zym (l:=r) h).1,Bool.or_true]
  ·rw[zBp q]at h;rw[h];decide
section
variable {prog:yu}{w:yI}{A:yJ}{E:Value->yd->Prop}{s:yd}{K:Frag}{x C:yb}{ox:Yw}{name:yr}{v:Value}{cd:ClassData}
def zrs{R:Result->yd->Prop}{od:Option Yw}{tk:Tok}(X:K.In s.heap)(I:InstAt s.heap x ox C od)(hc:clsIn K C=some cd)(ho:Te cd.mro=bmV)(ha:findIn K (.ref C) name=some none)
 (h:yq (yy prog w) A.in1 (storeInOwnDict (.ref x) (.ref C) (.str name tk) name v false)
  (λfin s'=>match fin with | .done f=>R (.ok f) s' | .again c'=>c'.quiet=true/\codeAny (yy prog w) A c' R s') (λe s'=>R (.error e) s') s) :
 codeAny (yy prog w) A (.call (.builtin "object.__setattr__") ⟨[.ref x,.str name tk,v],[]⟩) R s:=by
 have SF:=PySem.F.store_object;obtain⟨h1,h2⟩:=zym ho;have sub:Looks (yy prog w) s.heap (isInstance (.ref x) (.type "object")) true:=I.type.andThen (looks_mroIn X (by unfold mroIn;rw[hc,yg,if_neg (by rw[h2];decide),h1]));refine xK SF.slot.plain SF.entry (@check_slot (yy prog w) _ _ s "object.__setattr__" "object" "__setattr__" (.ref x) [.str name tk,v] [] _ SF.kind SF.split sub (SF.args (.ref x) (.str name tk) v) ?_);have hm:Looks (yy prog w) s.heap (mroOf (.ref C)) cd.mro:=(looks_clsIn X hc).andThen .now;rw[osa_eq,refuse_eq];refine ya (ya (I.type.here (ya (hm.here ?_))));rw[z9i _ ho];refine yp (ya (I.type.here (ya ((looks_findIn X ha).here (ya (yp (a:=none) ?_))))));exact h
def set_exc{Q:Unit->yd->Prop}{vs:Array Value}(X:K.In s.heap)(I:InstAt s.heap x ox C none)(hdt:ox.data=.fields vs)
 (hs:findIn K (.ref C) "__setattr__"=some (some (.builtin "object.__setattr__"))) (hc:clsIn K C=some cd) (ho:Te cd.mro=bmV) (hd:cd.hasDict=true) (ha:findIn K (.ref C) name=some none)
 (h:∀(h':yR)(p:yb)(tk:Nat),h'.get? x=some {ox with dict:=some p }->h'.Ns1 p (λy=>if y=name then some v else none)->s.heap.objs.size<=p->(∀b o,b≠x->s.heap.get? b=some o->h'.get? b=some o)->Q () {s with heap:=h',toks:=tk }) :
 yq (yy prog w) A (setAttr (.ref x) name v) Q E s:=by
 obtain⟨hx,hcl,hno,hdd⟩:=id I;obtain⟨oc,odi,oda,osl⟩:=ox;dsimp only at hcl hdt;subst hcl hdt
 cases odi with
 |some dx=>exact hdd.elim
 |none=>
  refine set_plain X I hs (zrs (s:={s with toks:=s.toks+1 }) X I hc ho ha ?_);refine ya (yp (ya (ya (wpAny_loadPart hx (ya (Looks.here (s:={s with toks:=s.toks+1 }) (looks_clsIn X hc) ?_))))));rw[hd];have hx₁:(s.heap.push {cls:=.type "dict",data:=.dict #[]}).get? x=some ⟨.ref C,none,.fields vs,osl⟩:=ye _ hx;have hxs:x≠s.heap.objs.size:=yw (ym hx);refine ya (wpAny_alloc' ?_);refine ya (wpAny_update' hx₁ ?_);refine yp (a:=some s.heap.objs.size) ?_
  have hgd:((s.heap.push {cls:=.type "dict",data:=.dict #[]}).update x λo=>{cls:=o.cls,dict:=some s.heap.objs.size,data:=o.data,slots:=o.slots }).get? s.heap.objs.size
   = some {cls:=.type "dict",data:=.dict #[]} :=
   (Heap.get?_update_ne _ _ _ _ hxs.symm).trans (Heap.get?_push_at rfl rfl)
  have hnd:((s.heap.push {cls:=.type "dict",data:=.dict #[]}).update x λo=>{cls:=o.cls,dict:=some s.heap.objs.size,data:=o.data,slots:=o.slots }).Ns s.heap.objs.size (λ_=>none) :=
   ⟨_,#[],_,hgd,rfl,λe he=>absurd he (by simp),λ_=>rfl⟩
  show yq _ _ (storeInDict s.heap.objs.size (.str name _) name v) _ _ _;unfold storeInDict newKeyGuard;refine ya (yp (ya (wpAny_nsSet1 (Heap.Ns1.of_empty hnd) λh' hn' hs'=>?_)));obtain⟨oD,esD,epD,hoD,hdD,hcD⟩:=hn'.count (Within.cons name v Within.nil);refine ya (wpAny_lookBehind hoD (by rw[hdD];exact pastItsLine_dict (yA hcD (by rw[length_cons,List.length_nil,Yh];omega))) ?_);refine yp ?_;refine h h' s.heap.objs.size _ ?_ hn' (yh _) (λb o hb q=>?_)
  ·exact(hs'.2 x hxs).trans (Yi _ hx₁ rfl)
  ·exact(hs'.2 b (yw (ym q))).trans ((Heap.get?_update_ne _ _ _ _ hb).trans (ye _ q))
variable {D:yb}{odo:Option Yw}
end
end PySem.W
namespace L2
open PySem PySem.Spec PyProof.Rows
def zxt{H:Hp}{a:yb}{o:HO}(h:H a=some o):upd H a o=H:=by
 funext b
 unfold upd
 split
 ·rename_i e
  rw[e,h]
 ·rfl
def era(H:Hp)(e:yb):Hp:=λb=>if b=e then none else H b
def zRf{H:Hp}{e b:yb}(h:b≠e):era H e b=H b:=by unfold era;rw[if_neg h]
def zth{H:Hp}{e:yb}:era H e e=none:=by unfold era;rw[if_pos rfl]
section
variable {P:yu}{w:yI}{fs ex:List yb}{H H':Hp}{h h':yR}{e:yb}{φ:yR->Prop}
def Un.era(u:Un fs ex H H' h h')(he:H e=none):Un fs ex H (era H' e) h h' where
 keep:=u.keep
 slot:=u.slot
 free:=λb o q n hx=>by
  by_cases z:b=e
  ·rw[z];exact zth
  ·rw[zRf z];exact u.free b o q n hx
 there:=u.there
 tups:=λb xs q=>by rw[zRf (zE q he)];exact u.tups b xs q
 Tq:=λb o v q=>by rw[zRf (zE q he)];exact u.Tq b o v q
 Tw:=λb ps q=>by rw[zRf (zE q he)];exact u.Tw b ps q
def HOk.era(k:HOk P w H h)(he:H e=some (.ext φ)):HOk P w (era H e) h:=λb o q=>by
 by_cases z:b=e
 ·rw[z,zth]at q;cases q
 ·rw[zRf z]at q;refine(k b o q).stay (λ_ _ _ r=>r) (λc r=>?_) λc xs r=>?_
  ·rw[zRf λy=>by rw[y,he]at r;cases r];exact r
  ·rw[zRf λy=>by rw[y,he]at r;cases r];exact r
end
end L2
namespace M
open PySem PySem.Spec PyProof.Rows L2
def zLk(a C:yb)(dx:Option yb):yR->Prop:=λh=>∃te,h.get? a=some {cls:=.ref C,dict:=dx,data:=.fields #[.ref te,.none,.none,.none,.bool false,.none]}
def zYl{P:yu}{w:yI}{H:Hp}{h:yR}{a C:yb}{dx:Option yb}(x:zLk a C dx h):tF P w H h a (.ext (zLk a C dx)):=by
 obtain⟨te,e⟩:=x;exact⟨⟨te,e⟩,⟨_,e⟩,λh1 h2 ⟨t,q⟩ k=>⟨t,k _ q⟩⟩
structure Sc(K:yt)(C NE fI:yb)(f:yr):Prop where
 ob:∃nm q N bs sn sub ab col dd k0 k1 k2 k3 k5,K.lookup C=some (YJ nm q C N bs (.ref NE::W.bmV) true sn sub ab col dd k0 k1 k2 k3 k5 "ValueError.__new__")
 ini:Yb K (.ref C) "__init__"=some (some (.ref fI))
 fn:W.typeIn K (.ref fI)=some (.type "function")
 ne:W.excIn K NE W.bmV "ValueError.__new__"=true
 sa:Yb K (.ref C) "__setattr__"=some (some (.builtin "object.__setattr__"))
 at_:Yb K (.ref C) f=some none
 gt:W.specialIn K (.ref NE) "__getattribute__"=some (some (.builtin "type.__getattribute__"))
 rd:W.readsIn K NE (.type "type")=true
 fc:W.findCls K (.ref NE) (.type "type") "__init__"=some (.val (.builtin "ValueError.__init__"))
def Sc.tail{K:yt}{C NE fI:yb}{f:yr}(Z:Sc K C NE fI f){h:yR}(X:K.In h):OwnTail h W.bmV (.ref NE::W.bmV):=by
 obtain⟨bm,N,nm,qn,bs,hdct,sn,sub,ab,col,dd,k0,k1,k2,k3,k5,mN,hC,hN,hni,T⟩:=zrk X Z.ne;exact .own hC hN hni .base
section
variable {X:Cx}{v o value:yz}{e:yz}{es:List yz}{tv ta:TE}{t:TA}{C NE fI:yb}{f:yr}{np apos pos pos' p1 p2 p3 p4:YR}{x1 x2:yr}{j1 j2:Nat}
def zPr(Z:Sc X.K C NE fI f)(hm:X.mg "NestError"=some (.ref NE))(ha:PA X (e::es) t){pl:Sem Bool}(hg:Gl X "NestError":=by rfl)
 (hst:yf (e::es) X.env=(false,yV e X.env)::yf es X.env:=by rfl) (hpl:(yZ pos (yf es X.env)).any (·.1)=false:=by rfl)
 (ht:yV (.Call (.Attribute (.Name "NestError" np) "__init__" apos) (e::es) [] pos) X.env=(do
  let ov <-yV (.Name "NestError" np) X.env
  standAt apos.atName
  let (f,first) <-YX [ov] (getMethod ov "__init__" pl)
  callWith pos f first (yZ pos (yf (e::es) X.env)) (xw pos (Yz [] X.env))):=by rfl) :
 PE X (.Call (.Attribute (.Name "NestError" np) "__init__" apos) (e::es) [] pos) (λσ H Q=>t σ H λvs H1=>∃a x,vs=[.ref a,x]/\H1 a=some (.ext (zLk a C none))/\Q .non H1):=by
 intro pins s σ H Q I h;refine W.methodCall_KW (pl:=pl) (zHf I hg hm ?_ (by decide)) ht;refine W.method_cls I.kIn Z.gt (W.cls_value I.kIn Z.rd Z.fc (by decide +kernel) ?_);refine PyProof.Rows.callWith_builtin1 (thn (ha pos pins _ σ H _ (I.tok _) h) λus s1 ⟨vs,H1,I1,r1,a,x,ev,ea,q⟩=>?_) hst hpl;subst ev;obtain⟨u1,u2,rfl,ra,rx⟩:=vals2 r1;obtain rfl:u1=yH a:=ra;obtain⟨⟨te,ho⟩,_,_⟩:=(show tF X.prog X.w H1 s1.heap a (.ext (zLk a C none)) from I1.hok a _ ea)
 obtain⟨nm,qn,N,bs,sn,sub,ab,col,dd,k0,k1,k2,k3,k5,lk⟩:=Z.ob;have T:=Z.tail I1.kIn;have hC:=I1.kIn _ _ lk;obtain⟨hp,g,d,tk,os⟩:=s1;refine zVn YV T hC ho (λh' keep he hsz=>?_) (show 1<=yC by rw[Yh];decide);refine⟨.non,H1,?_,rfl,q⟩;have J:=I1.write (x:=a) (e:=a) (o:=.ext (zLk a C none)) (h':=h') (t':=tk) (by rw[ea];trivial) (.inl rfl) keep ⟨_,he⟩ (zYl ⟨_,he⟩)
 rwa [zxt ea]at J
def zXo(Z:Sc X.K C NE fI f)(ho:PE X o ta)(hv:PE X value tv)(hs:xk value (some (.Attribute o f pos')) pos.line X.env=pure false:=by rfl) :
 PS X (.Assign [.Attribute o f pos'] value pos) (λD σ H=>tv σ H λy H1=>ta σ H1 λx H2=>∃a,x=.ref a/\H2 a=some (.ext (zLk a C none))/\∀p,H2 p=none->p≠a->D.nx σ (upd (upd H2 p (.xd [(f,y)])) a (.ext (zLk a C (some p))))):=by
 intro pins s σ H D I h;refine plainObj_wpAny_Assign_Attribute (thn (hv pins s σ H _ I h) λu s1 ⟨y,H1,I1,ry,q⟩=>thn (ho pins s1 σ H1 _ I1 q) λov s2 ⟨x,H2,I2,rx,a,ex,ea,q2⟩=>?_) hs;subst ex;obtain rfl:ov=yH a:=rx;obtain⟨⟨te,hob⟩,_,_⟩:=(show tF X.prog X.w H2 s2.heap a (.ext (zLk a C none)) from I2.hok a _ ea)
 obtain⟨nm,qn,N,bs,sn,sub,ab,col,dd,k0,k1,k2,k3,k5,lk⟩:=Z.ob
 obtain⟨cd,hc,hmro,hhd⟩:∃cd,W.clsIn X.K C=some cd/\W.Te cd.mro=W.bmV/\cd.hasDict=true:=by
  unfold W.clsIn;rw[lk];exact⟨_,rfl,rfl,rfl⟩
 refine W.set_exc I2.kIn ⟨hob,rfl,rfl,trivial⟩ rfl Z.sa hc hmro hhd Z.at_ λh' p tk he hn hp keep=>⟨σ,_,?_,q2 p (I2.hok.fresh hp) ?_⟩
 ·have hpn:H2 p=none:=I2.hok.fresh hp;have hpa:p≠a:=λz=>absurd (yv (ym hob) (z▸hp)) (yQ _);have hpg:∀b ob,s2.heap.get? b=some ob->b≠p:=λb ob r z=>absurd (yv (ym r) (z▸hp)) (yQ _);have hup:∀b,b≠a->b≠p->upd (upd H2 p (.xd [(f,y)])) a (.ext (zLk a C (some p))) b=H2 b:=λb n1 n2=>by rw[zr n1,zr n2]
  have ne_a:∀b ob,H2 b=some ob->(∀φ,ob≠.ext φ)->b≠a:=λb ob r n z=>by rw[z,ea]at r;cases r;exact n _ rfl
  have ne_p:∀b ob,H2 b=some ob->b≠p:=λb ob r=>zE r hpn;refine I2.un (t':=tk) ⟨?_,?_,?_,?_,?_,?_,?_⟩ ?_
  ·exact λb ob r n _ _=>keep b ob (λz=>by rw[z,ea]at n;cases n) r
  ·exact λb ob r n _ _=>⟨ob.slots,keep b ob (λz=>by rw[z,ea]at n;cases n) r⟩
  ·exact λb ob r n _=>by rw[hup b (λz=>by rw[z,ea]at n;cases n) (hpg b ob r)];exact n
  ·exact λb ob r _=>by
    by_cases z:b=a
    ·exact⟨_,by rw[z];exact he⟩
    ·exact⟨_,keep b ob z r⟩
  ·exact λb xs r=>by rw[hup b (ne_a b _ r λ_ z=>by cases z) (ne_p b _ r)];exact r
  ·exact λb ob w r=>by rw[hup b (ne_a b _ r λ_ z=>by cases z) (ne_p b _ r)];exact r
  ·exact λb ps r=>⟨#[],by rw[hup b (ne_a b _ r λ_ z=>by cases z) (ne_p b _ r),Array.append_empty];exact r⟩
  ·intro b ob r
   by_cases z:b=a
   ·subst z;rw[zt]at r;cases r;exact zYl ⟨te,he⟩
   ·by_cases z2:b=p
    ·subst z2;rw[zr z,zt]at r;cases r;refine⟨_,hn,λg=>?_⟩
     by_cases zg:g=f
     ·have hb:(g==f)=true:=beq_iff_eq.mpr zg;simp only[Yu,hb,if_pos zg];exact ry
     ·have hb:(g==f)=false:=beq_eq_false_iff_ne.mpr zg;simp only[Yu,hb,if_neg zg];trivial
    ·rw[hup b z z2]at r;refine(I2.hok b ob r).stay (λc w hc r'=>keep c w (λz3=>?_) r') (λc r'=>?_) λc xs r'=>?_
     ·subst z3;rcases hc with hc|hc
      ·exact z hc.symm
      ·rw[ea]at hc;cases hc
     ·rw[hup c (ne_a c _ r' λ_ z=>by cases z) (ne_p c _ r')];exact r'
     ·rw[hup c (ne_a c _ r' λ_ z=>by cases z) (ne_p c _ r')];exact r'
 ·exact λz=>absurd (yv (ym hob) (z▸hp)) (yQ _)
end
section
variable {X:Cx}{x:yr}{e:yz}{np cpos pos:YR}{C NE fI:yb}{f:yr}{k:Nat}{fd:yj}{ps:List yr}{φ:FA}
def flyI{pins:List (yb×Yw)}{σ:L2.St}{H H2:Hp}{s s':yd}{a p te:yb}(I:Inv X pins σ H s)(I3:Inv X pins σ H2 s')(hos:s'.os=s.os)(un:Un (frs X.stack) [] H H2 s.heap s'.heap)(ha:s.heap.objs.size<=a)(h2:∃φ,H2 a=some (.ext φ))
 (he:s'.heap.get? a=some {cls:=.ref C,dict:=some p,data:=.fields #[.ref te,.none,.none,.none,.bool false,.none]}):sA X.prog X.w X.stack H s (.ref C) (some p) (era H2 a) (.ref a) s':=by
 have hn:H a=none:=I.hok.fresh ha;obtain⟨φ,h2⟩:=h2;have hin:∀env∈X.stack,∀b,env.frame=some b->b∈a::frs X.stack:=λenv he b hb=>mem_cons_of_mem _ (List.mem_filterMap.mpr ⟨env,he,hb⟩);refine⟨hos,I3.bare,un.era hn,I3.hok.era h2,a,W.hideAll s'.heap (a::frs X.stack),rfl,⟨λb o q=>W.of_hideAll _ q,W.hideAll_none _ mem_cons_self,W.funFrames_hide I3.stack hin,⟨_,_,_,he,rfl,rfl,rfl,rfl,.inl rfl⟩⟩,?_⟩;refine⟨λb o q=>?_,λb o q hb=>?_⟩
 ·by_cases z:b=a
  ·rw[z,zth]at q;cases q
  ·rw[zRf z]at q;obtain⟨u,hu⟩:=(I3.hok b o q).there;refine⟨u,W.hideAll_get _ hu λhm=>?_⟩;rcases List.mem_cons.mp hm with hm|hm
   ·exact z hm
   ·rw[I3.TF b hm]at q;cases q
 ·obtain⟨u,hu⟩:=un.there b o q (by simp);refine⟨u,W.hideAll_get _ hu λhm=>?_⟩;rcases List.mem_cons.mp hm with hm|hm
  ·exact absurd (yv (ym q) (hm▸ha)) (yQ _)
  ·exact hb hm
end
structure AtC(K:yt)(c f:yr):Prop where
 ok:∀C,yW K yi c=some (some (.ref C))->W.AskC K C/\Yb K (.ref C) f=some none/\W.hasDictIn K C=true
def zYr(s:yX):yX:=match s with
 |.ClassDef _ _ _ b _ _ _ _ _ _ _=>b.getD 0 (.Pass ⟨0,0,0,0⟩)
 |_ =>.Pass ⟨0,0,0,0⟩
structure Sj(K:yt)(mg:yr->Option Value)(c f qual:yr)(st:yX)(ps:List yr)(C NE fI:yb)(fd:yj):Prop where
 nm:yW K yi c=some (some (.ref C))
 ne:mg "NestError"=some (.ref NE)
 ex:Sc K C NE fI f
 fn:Fun K "__init__" qual st fI fd
 bd:Binds K fd ps []
def zmf(ns:List Int):Prop:=ns.length<=100/\∀n∈ns,n.natAbs<1606938044258990275541962092341162602522202993782792835301376
def zYi:∀ns:List Int,(∀n∈ns,n.natAbs<1606938044258990275541962092341162602522202993782792835301376)->PyData.showableAll (ns.map xh)=true/\PyData.hasDictAll (ns.map xh)=false/\PyData.depthAll (ns.map xh)=0/\PyData.leavesShortAll 230 (ns.map xh)=true/\PyData.bulkAll (ns.map xh)=ns.length
 |[],_=>⟨rfl,rfl,rfl,rfl,rfl⟩
 |n::ns,h=>by
  obtain⟨h1,h2,h3,h4,h5⟩:=zYi ns λm hm=>h m (mem_cons_of_mem _ hm)
  have hl2:n.natAbs.log2<200:=by
   by_cases z:n.natAbs=0
   ·rw[z];decide
   ·exact(Nat.log2_lt z).mpr (yv (h n mem_cons_self) (by decide))
  have hl:n.natAbs.log2<1920:=Nat.lt_trans hl2 (by decide);have ht:=int_text_length_le (k:=200) (by decide) hl2
  have hs:(PyData.shown (.int n)).length<=230:=by
   simp only[PyData.shown];rw[PySem.ofString_length];omega
  refine⟨?_,?_,?_,?_,?_⟩
  ·simp only[map_cons,PyData.showableAll,PyData.showable,decide_eq_true hl,h1,Bool.and_self]
  ·simp only[map_cons,PyData.hasDictAll,PyData.hasDict,h2,Bool.or_self]
  ·simp only[map_cons,PyData.depthAll,PyData.depth,h3,Nat.max_self]
  ·simp only[map_cons,PyData.leavesShortAll,PyData.leavesShort,decide_eq_true hs,h4,Bool.and_self]
  ·simp only[map_cons,PyData.bulkAll,PyData.bulk,h5,length_cons];omega
def zbj{h:yR}:∀{ns:List Int} {its:List Value},Vals (ns.map V.int) its->ReadsAll h its (ns.map xh) []
 |[],_,r=>by cases r;exact .nil
 |n::ns,_,r=>by
  cases r with
  |cons r1 r2=>
   obtain⟨t,rfl⟩:=(show ∃t,_=Value.int n t from r1)
   exact .cons (as:=[]) (bs:=[]) (.int n t) (zbj r2)
section
variable {X:Cx}{v:yz}{tv:TE}{p1 p2 p4:YR}{x1:yr}{j1:Nat}
def zZp(hv:PE X v tv)(hg:X.A.guards=some [])(hu:X.A.units+64<cLine)(h1:x1.length<=1000:=by decide) :
 PE X (.JoinedStr [.Constant (.str x1) j1 p1,.FormattedValue v 114 none p2] p4) (λσ H Q=>tv σ H λx H1=>∃a ns,x=.ref a/\H1 a=some (.lst (ns.map V.int))/\zmf ns/\∀y,Q (.str y) H1):=by
 intro pins s σ H Q I h;have z0:(Str.empty:yr).length=0:=rfl;refine wpAny_JoinedStr ?_;show Joins _ _ _ [yV (.Constant (.str x1) j1 p1) X.env,yV (.FormattedValue v 114 none p2) X.env] _ _ _;refine Calls.Constant_str ⟨x1,_,rfl,by rw[strLen_append,z0,Yh];omega,?_⟩;refine wpAny_FormattedValue_repr (thn (hv pins _ σ H _ (I.tok _) h) λu s1 ⟨x,H1,I1,r1,a,ns,ex,ea,hs,q⟩=>?_);subst ex;obtain rfl:u=yH a:=r1;obtain⟨_,its,n,rv,ho⟩:=(show tF X.prog X.w H1 s1.heap a (.lst (ns.map V.int)) from I1.hok a _ ea)
 obtain⟨s1',s2',s3',s4',s5'⟩:=zYi ns hs.2;have rd:Reads s1.heap (.ref a) (.list (ns.map xh)) [a] :=.list (as:=[]) ho rfl rfl (by rw[List.toList_toArray];exact zbj rv)
 have hz:(PyData.shown (.list (ns.map xh))).length<=33000:=by
  have:=PyData.shown_le_bulk 230 (by decide) (.list (ns.map xh)) (by simp only[PyData.leavesShort];exact s4');simp only[PyData.bulk,s5']at this;have:=hs.1;omega
 refine pyReprObj_of_reads rd (by simp only[PyData.showable];exact s1') (PyData.noDict_hsm (by simp only[PyData.hasDict];exact s2')) hg (by simp only[PyData.depth,s3'];omega) (λ_ _ e=>e) (λh' u tk keep=>?_) (by rw[Yh];omega);have I2:Inv X pins σ H1 {s1 with heap:=h',toks:=tk }:=I1.kept keep
 have last:∀t s2,Inv X pins σ H1 s2->∃y t',Value.str (PyData.shown (.list (ns.map xh))) t=.str y t'/\((Str.empty++x1)++y).length<=yC /\
  Joins (yy X.prog X.w) X.A X.xe [] ((Str.empty++x1)++y) (λout s₁=>out.length<=yC/\EP X pins σ Q (.str out s₁.toks) {s₁ with toks:=s₁.toks+1 }) s2:=λt s2 J=>by
  have hl:((Str.empty++x1)++PyData.shown (.list (ns.map xh))).length<=yC:=by rw[strLen_append,strLen_append,z0,Yh];omega
  exact⟨_,t,rfl,hl,hl,⟨.str _,H1,J.tok _,⟨_,rfl⟩,q _⟩⟩
 exact wpAny_formatField_str (last _ _ I2) (last _ _ (I2.tok _)) (by rw[Yh];omega)
end
def spL(C:yb)(f:yr):Sp:=λvs H Q _=>∃e a ns,vs=[.ref e,.ref a]/\zmf ns/\H a=some (.lst (ns.map V.int))/\H e=some (.ext (zLk e C none)) /\
 ∀l p,H l=none->l≠e->H p=none->p≠e->p≠l->Q .non (upd (upd (upd H l (.lst (ns.map V.int))) p (.xd [(f,.ref l)])) e (.ext (zLk e C (some p))))
instance smallDec(ns:List Int):Decidable (zmf ns):=by unfold zmf;exact inferInstance
@[simp] def zCe(c f:yr)(φ:FA):FS:=λδ μ=>(φ δ μ).bind λp=>match p.1 with
 |[.loc n]=>match p.2[n]? with
  |some (.lst ds)=>(zwi ds).bind λns=>bif decide (zmf ns) then some (.exc c [(f,.loc p.2.length)] (p.2++[.lst ds])) else none
  |_=>none
 |_=>none
def z1l{c f:yr}{φ:FA}{δ:Loc}{μ:Mem}{o:Out}(h:zCe c f φ δ μ=some o):∃n ns μ1,φ δ μ=some ([.loc n],μ1)/\μ1[n]?=some (.lst (ns.map D.int))/\zmf ns/\o=.exc c [(f,.loc μ1.length)] (μ1++[.lst (ns.map D.int)]):=by
 obtain⟨⟨ds,μ1⟩,e1,h2⟩:=zf h;clear h;rcases ds with _|⟨d,ds⟩
 ·cases h2
 ·rcases ds with _|⟨d2,ds⟩
  ·cases d with
   |loc n=>
    replace h2:(match μ1[n]? with
     |some (.lst ds)=>(zwi ds).bind λns=>bif decide (zmf ns) then some (.exc c [(f,.loc μ1.length)] (μ1++[.lst ds])) else none
     |_=>none)=some o:=h2
    cases hm:μ1[n]? with
    |none=>rw[hm]at h2;cases h2
    |some ob=>
     rw[hm]at h2
     cases ob with
     |lst ds=>
      replace h2:((zwi ds).bind λns=>bif decide (zmf ns) then some (.exc c [(f,.loc μ1.length)] (μ1++[.lst ds])) else none)=some o:=h2;obtain⟨ns,e2,h3⟩:=zf h2;have e3:=z4h e2;subst e3
      by_cases hs:zmf ns
      ·rw[decide_eq_true hs]at h3;cases h3;exact⟨n,ns,μ1,e1,hm,hs,rfl⟩
      ·rw[decide_eq_false hs]at h3;cases h3
     |dct _=>cases h2
     |dcf _=>cases h2
     |exc _ _=>cases h2
     |ins _ _=>cases h2
   |_=>cases h2
  ·cases d<;>cases h2
def zuk{K:yt}{ρ:List yb}{H:Hp}:∀{ns:List Int} {vs:List V},tf K ρ H (ns.map D.int) vs->vs=ns.map V.int
 |[],_,r=>r.nil_inv
 |n::ns,_,r=>by
  obtain⟨v,rr,rfl,q1,q2⟩:=r.cons_inv;rw[q1.int_inv,zuk q2];rfl
def zhp{H:Hp}{a l p:yb}{o o' u1 u2:HO}(ha:H a=none)(hl:l≠a)(hp:p≠a):era (upd (upd (upd (upd H a o) l u1) p u2) a o') a=upd (upd H l u1) p u2:=by
 funext b
 by_cases z:b=a
 ·rw[z,zth,zr (yM hp),zr (yM hl),ha]
 ·rw[zRf z,zr z]
  by_cases z2:b=p
  ·rw[z2,zt,zt]
  ·rw[zr z2,zr z2]
   by_cases z3:b=l
   ·rw[z3,zt,zt]
   ·rw[zr z3,zr z,zr z3]
section
variable {X:Cx}{x:yr}{e:yz}{np cpos pos:YR}{C NE fI:yb}{f:yr}{k:Nat}{fd:yj}{ps:List yr}{φ:FA}
set_option maxHeartbeats 800000 in
def ztk(hn:yW X.K yi x=some (some (.ref C)))(Z:Sc X.K C NE fI f)(G:tu X.prog X.w X.K X.mg X.base CX0 1 fI fd ps (spL C f))(hb:Binds X.K fd ps [])(hr:tQ k X.A)(ha:MAn X [e] φ)(hk:2<=k:=by decide)(hh:X.calm=true:=by rfl)(hg:Gl X x:=by rfl)
 (he:yf [e] X.env=(false,yV e X.env)::yf [] X.env:=by exact ztc rfl) (hdb:(x==("__debug__":yr))=false:=by decide) :
 MS X (.Raise (some (.Call (.Name x np) [e] [] cpos)) none pos) (zCe x f φ):=by
 intro pins s σ H Dn I ⟨ρ,δ,μ,o,A,eo,kk⟩;obtain⟨n,ns,μ1,e1,hm,hsm,rfl⟩:=z1l eo;clear eo;obtain⟨nm,qn,N,bs,sn,sub,ab,col,dd,k0,k1,k2,k3,k5,lk⟩:=Z.ob
 have hpl':(yZ cpos (yf [e] X.env)).any (·.1)=false:=by
  rw[he];rfl
 refine zTh (C:=C) (fI:=fI) (nm:=nm) (q:=qn) (N:=N) (bs:=bs) (bm:=.ref NE::W.bmV) (hdct:=true) (sn:=sn) (sub:=sub) (ab:=ab) (col:=col) (dd:=dd) (k0:=k0) (k1:=k1) (k2:=k2) (k3:=k3) (k5:=k5) (newId:="ValueError.__new__")
  YV ((Z.tail I.kIn).hasType PySem.F.excBase_ValueError.hasBase) (I.ok.hd hh) hpl' (zHf I hg (xc I.mod.kin I.mod.glob hn) ⟨rfl,?_⟩ hdb)
 have h:=ha.ma cpos pins s σ H (λvs H'=>∃a ρ',vs=[.ref a]/\ρ'[n]?=some a/\Ext ρ H ρ' H'/\tG X.K ρ' H' μ1) I ⟨ρ,δ,μ,[.loc n],μ1,A,e1,λρ' H' vs x' R r=>by
  obtain⟨v,rr,rfl,q1,q2⟩:=r.cons_inv;obtain⟨a,rfl,e3⟩:=q1.tz;exact⟨a,ρ',by rw[q2.nil_inv],e3,x',R⟩⟩
 rw[he]at h ⊢;refine Calls.evalArgs_plain (yT h (λus s2 h2=>?_) λ_ _ y=>y);obtain⟨vs,H',I',r,a,ρ',rfl,e3,x',R⟩:=h2;obtain⟨u,rfl,ru⟩:=vals1 r;obtain rfl:u=yH a:=ru;obtain⟨ws,hHa,rws⟩:=R.at_ _ _ _ e3 hm;obtain rfl:=zuk rws;have hz:(zqf s2.heap C [.ref a]).get? (s2.heap.objs.size+1)=some {cls:=.ref C,dict:=none,data:=.fields #[.ref s2.heap.objs.size,.none,.none,.none,.bool false,.none]}:=by heap_get
 have kp:∀b o,s2.heap.get? b=some o->(zqf s2.heap C [.ref a]).get? b=some o:=λb o q=>ye _ (ye _ q);have hsz:s2.heap.objs.size<=s2.heap.objs.size+1:=Nat.le_succ _;have hfr:H' (s2.heap.objs.size+1)=none:=I'.hok.fresh hsz
 have I2:Inv X pins σ (upd H' (s2.heap.objs.size+1) (.ext (zLk (s2.heap.objs.size+1) C none))) {s2 with heap:=zqf s2.heap C [.ref a]} :=
  I'.laid (a:=s2.heap.objs.size+1) (t':=s2.toks) kp hsz (zYl ⟨_,hz⟩)
 have sp:spL C f [.ref (s2.heap.objs.size+1),.ref a] (upd H' (s2.heap.objs.size+1) (.ext (zLk (s2.heap.objs.size+1) C none))) (λv H2=>v=.non/\∃l p,H' l=none/\l≠s2.heap.objs.size+1/\H' p=none/\p≠s2.heap.objs.size+1/\p≠l /\
  H2=upd (upd (upd (upd H' (s2.heap.objs.size+1) (.ext (zLk (s2.heap.objs.size+1) C none))) l (.lst (ns.map V.int))) p (.xd [(f,.ref l)])) (s2.heap.objs.size+1) (.ext (zLk (s2.heap.objs.size+1) C (some p)))) E0 :=
  ⟨_,a,ns,rfl,hsm,by rw[zr (zE hHa hfr)];exact hHa,zt,λl p hl hle hp hpe hpl=>⟨rfl,l,p,by rwa [zr hle]at hl,hle,by rwa [zr hpe]at hp,hpe,hpl,rfl⟩⟩
 have hl:([yH (s2.heap.objs.size+1),.ref a]++[]).length=ps.length:=G.len _ _ _ _ sp;refine⟨rfl,(show 1<=yC by rw[Yh];decide),I'.kIn _ _ lk,W.looks_findIn I'.kIn Z.ini,Z.tail I'.kIn,λself=>W.bind_fn I'.kIn self Z.fn,?_⟩;have hroom:tQ 1 (X.A.under (.builtin "type.__call__" ⟨.ref C::[.ref a],[]⟩)):=tQ.make (k:=1) (hr.mono hk) C [.ref a] [];have henv:=I2.env0.make C [.ref a] [];have hbind:=hb {s2 with heap:=zqf s2.heap C [.ref a]} [.ref (s2.heap.objs.size+1),.ref a] I2.kIn hl;have hvals:Vals [V.ref (s2.heap.objs.size+1),.ref a] ([yH (s2.heap.objs.size+1),.ref a]++[]) :=.cons rfl (.cons rfl .nil);have run:=G.run _ X.stack _ _ _ _ _ _ E0 hroom henv hbind hvals sp;show yq (yy X.prog X.w) (X.A.under (.builtin "type.__call__" ⟨.ref C::[.ref a],[]⟩)) (call (.ref fI) [.ref (s2.heap.objs.size+1),.ref a]) _ _ {s2 with heap:=zqf s2.heap C [.ref a]};refine wpAny_call (YO run λrr s' hq=>?_)
 cases rr with
 |error ex=>exact Yl hq
 |ok fl=>
  cases fl with
  |next=>exact Yl hq
  |brk=>exact Yl hq
  |cont=>exact Yl hq
  |ret uu=>
   obtain⟨v,H2,hos,hbare,un,hok,rv,ev,l,p,hl0,hle,hp0,hpe,hpl,e2⟩:=hq;subst ev;obtain rfl:uu=Yk:=rv;obtain⟨_,H3,I3,_,_,e4⟩:=I2.after (Q:=λv' H''=>v'=V.non/\H''=H2) ⟨V.non,H2,hos,hbare,un,hok,rfl,rfl,rfl⟩;rw[e4]at I3;have h3:H2 (s2.heap.objs.size+1)=some (.ext (zLk (s2.heap.objs.size+1) C (some p))):=by rw[e2];exact zt
   obtain⟨⟨te,he3⟩,_,_⟩:=(show tF X.prog X.w H2 s'.heap (s2.heap.objs.size+1) (.ext (zLk (s2.heap.objs.size+1) C (some p))) from I3.hok _ _ h3)
   refine⟨rfl,I3.kIn _ _ lk,⟨_,te,he3⟩,?_⟩;have F:=flyI (C:=C) (te:=te) I' I3 hos ((Un.laid kp hsz hfr).trans un) hsz ⟨_,h3⟩ he3;rw[e2,zhp hfr hle hpe]at F;have R1:tG X.K (ρ'++[l]) (upd H' l (.lst (ns.map V.int))) (μ1++[.lst (ns.map D.int)]):=R.push hl0 ⟨_,zt,rws.ext (Ext.push hl0)⟩;have hp1:upd H' l (.lst (ns.map V.int)) p=none:=by rw[zr hpl];exact hp0
   refine kk (ρ'++[l]) (upd (upd H' l (.lst (ns.map V.int))) p (.xd [(f,.ref l)])) C (some p) hn ((x'.trans (Ext.push hl0)).trans (Ext.new hp1)) (R1.Tr hp1) (.inr ⟨p,[(f,.ref l)],rfl,zt,rfl,?_⟩) pins σ H' s2 (.ref (s2.heap.objs.size+1)) s' I' F;have hpg:=zzb (p:=l) R;simp[tf,tm,hpg]
end
section
variable {X:Cx}{a b c e:yz}{es:List yz}{φ ψ χ:FE}{pos pos2 p1 p2:YR}
def z2n(φ:FE):FE:=λδ μ=>(φ δ μ).bind λp=>match p.1 with
 |.int j=>bif decide (-(2^62)<=j/\j<=1000000) then some (.loc p.2.length,p.2++[.lst ((Yc j.toNat).map λ(k:Nat) =>.int k)]) else none
 |_=>none
@[simp] def zWv:GL:=λds μ=>match ds with
 |[.int i]=>some (.int i,μ)
 |[.bl b]=>some (.int (if b then 1 else 0),μ)
 |_=>none
@[simp] def zlv:GL:=λds μ=>match ds with
 |[.int i,.int j]=>some (.int (if j<i then j else i),μ)
 |_=>none
@[simp] def znv:GL:=λds μ=>match ds with
 |[.int i,.int j]=>some (.int (if j>i then j else i),μ)
 |_=>none
@[simp] def fIf(c:FT)(φ ψ:FE):FE:=λδ μ=>(c δ μ).bind λp=>bif p.1 then φ δ p.2 else ψ δ p.2
end
section
variable {prog:yu}{w:yI}{A:yJ}{E:Value->yd->Prop}{s:yd}
def nextT{it t:yb}{i:Nat}{items:Array Value}{x:Value}{Q:Value->yd->Prop}(hit:s.heap.IsTupleIter it t i)(ht:s.heap.IsTuple t items)(hx:items[i]?=some x)
 (hQ:∀h',h'.IsTupleIter it t (i+1)->Yq it s.heap h'->Q x {s with heap:=h' }):yq (yy prog w) A (Yr (.ref it)) Q E s:=by
 obtain⟨ob,hob,hcl,hfs⟩:=id hit;obtain⟨ot,hot,_,m,hits⟩:=ht;unfold Yr;refine ya (xn (name:=Str.ofString "__next__") hit.typeIs YW (YS YW hit.typeIs F.entry_tuple_iterator_next ?_ (F.args_tuple_iterator_next_1 _)));show yq _ _ (field (.ref it) 0 >>= _) _ _ s;refine ya (YA hob hfs (x:=.ref t) rfl ?_);show yq _ _ (if(yH t==Yk)=true then _ else field (.ref it) 1 >>= _) _ _ s;rw[if_neg (show ¬(yH t==Yk)=true from yB)];refine ya (YA hob hfs (x:=.int i 0) rfl ?_);show yq _ _ (seqItems? (.ref t) >>= _) _ _ s;refine ya (wpAny_seqItems hot hits ?_);simp only[YK,hx];refine ya (wpAny_setField hob hfs (by simp) (yp ⟨x,rfl,yp (hQ _ ?_ (Heap.SameBut.update ..))⟩));refine⟨_,Yi _ hob (xD (YF hfs _)),(Obj.cls_mapFields ..).trans hcl,?_⟩;rw[YF hfs];simp[rawInt]
def zzp{it t:yb}{i:Nat}{items:Array Value}{Q:Value->yd->Prop}(hh:A.handled=none)(hit:s.heap.IsTupleIter it t i)(ht:s.heap.IsTuple t items)(hx:items[i]?=none)
 (hE:∀h' e,Heap.ExtBut it s.heap h'->(∃o,h'.get? e=some o/\o.cls=.type "StopIteration")->E (.ref e) {s with heap:=h' }):yq (yy prog w) A (Yr (.ref it)) Q E s:=by
 obtain⟨ob,hob,hcl,hfs⟩:=id hit;obtain⟨ot,hot,_,m,hits⟩:=ht;unfold Yr;refine ya (xn (name:=Str.ofString "__next__") hit.typeIs YW (YS YW hit.typeIs F.entry_tuple_iterator_next ?_ (F.args_tuple_iterator_next_1 _)));show yq _ _ (field (.ref it) 0 >>= _) _ _ s;refine ya (YA hob hfs (x:=.ref t) rfl ?_);show yq _ _ (if(yH t==Yk)=true then _ else field (.ref it) 1 >>= _) _ _ s;rw[if_neg (show ¬(yH t==Yk)=true from yB)];refine ya (YA hob hfs (x:=.int i 0) rfl ?_);show yq _ _ (seqItems? (.ref t) >>= _) _ _ s;refine ya (wpAny_seqItems hot hits ?_);simp only[YK,hx];refine ya (wpAny_rule (ya (wpAny_setField hob hfs (by simp) ?_)));show yq _ _ (newExc (.type "StopIteration") [] >>= _) _ _ _;refine ya ?_;simp only[newExc,newTuple];refine ya (xb ?_ (by size_fits));refine ya (m:=firstArgMember _ _) (wpAny_of_eq (a:=Yk) (by first|rfl|(simp only[firstArgMember];rfl)) ?_);refine xb ?_ (by size_fits);simp only[raiseNew];refine ya (wpAny_handled ?_)
 first|rw[show A.in1.handled=none from hh]|rw[hh]
 exact ya (yp (wpAny_throw (hE _ _ (((Heap.SameBut.update ..).extBut.push _).push _) ⟨_,yx _ rfl,rfl⟩)))
def zKk{e it:yb}{i:Int}{x old:Value}{N:yR->Prop}{Q:Option Value->yd->Prop}(he:IsEnum s.heap e it i old)(hne:e≠it)
 (nx:∀(A':yJ)(Q':Value->yd->Prop)(E':Value->yd->Prop),(∀h1,N h1->Yq it s.heap h1->Q' x {s with heap:=h1 })->yq (yy prog w) A' (Yr (.ref it)) Q' E' s)
 (hN:∀h h',N h->(∀o,h.get? it=some o->h'.get? it=some o)->N h')
 (hQ:∀h',IsEnumOut h' e it (i+1) x s.heap.objs.size->N h'->h'.get? s.heap.objs.size=some {cls:=.type "tuple",data:=.seq #[.int i s.toks,x]}->h'.objs.size=s.heap.objs.size+1 ->
  (∀b o,b≠e->b≠it->s.heap.get? b=some o->h'.get? b=some o)->Q (some (.ref s.heap.objs.size)) {s with heap:=h',toks:=s.toks+1 }):yq (yy prog w) A (pyNext (.ref e)) Q E s:=by
 obtain⟨hp,g,d,tk,os⟩:=s;have hT:Shared.TypeIs ⟨hp,g,d,tk,os⟩ (.ref e) "enumerate":=⟨_,he,rfl⟩
 unfold pyNext;refine ya (wpAny_attempt (xn (name:=Str.ofString "__next__") hT xE (YS xE hT F.entry_enumerate_next ?_ (F.args_enumerate_next_1 _))));show yq _ _ (field (.ref e) 2 >>= _) _ _ _;refine ya (YA he rfl (x:=.ref it) rfl (ya (nx _ _ _ λh1 n1 sb1=>?_)));replace sb1:Yq it hp h1:=sb1;have e1:IsEnum h1 e it i old:=(sb1.2 e hne).trans he;show yq _ _ (field (.ref e) 3 >>= _) _ _ ⟨h1,g,d,tk,os⟩;refine ya (YA e1 rfl (x:=rawInt i) rfl ?_);show yq _ _ (field (.ref e) 4 >>= _) _ _ ⟨h1,g,d,tk,os⟩;refine ya (YA e1 rfl (x:=.none) rfl ?_);show yq _ _ (mkInt i >>= _) _ _ ⟨h1,g,d,tk,os⟩;refine ya (wpAny_mkInt ?_);show yq _ _ (setField (.ref e) 3 (rawInt (i+1)) >>= _) _ _ ⟨h1,g,d,tk+1,os⟩;refine ya (xt e1 (by simp) λh2 e2 sb2=>?_);replace sb2:Yq e h1 h2:=sb2;replace e2:IsEnum h2 e it (i+1) old:=e2;show yq _ _ (setField (.ref e) 4 .none >>= _) _ _ ⟨h2,g,d,tk+1,os⟩;refine ya (xt e2 (by simp) λh3 e3 sb3=>?_);replace sb3:Yq e h2 h3:=sb3;replace e3:IsEnum h3 e it (i+1) old:=e3;show yq _ _ (newTuple [.int i tk,x] >>= _) _ _ ⟨h3,g,d,tk+1,os⟩;refine ya (wpAny_newTuple ?_);have z3:h3.objs.size=hp.objs.size:=by rw[sb3.1,sb2.1,sb1.1]
 have el:e<hp.objs.size:=ym he;have ne4:hp.objs.size≠e:=Ym el;obtain⟨h4,hh4⟩:∃h4,h4=h3.push {cls:=.type "tuple",data:=.seq #[.int i tk,x]}:=⟨_,rfl⟩
 have e4:IsEnum h4 e it (i+1) old:=by rw[hh4];exact ye _ e3
 have t4:h4.get? hp.objs.size=some {cls:=.type "tuple",data:=.seq #[.int i tk,x]}:=by rw[hh4,<-z3];exact yx _ rfl
 have z4:h4.objs.size=hp.objs.size+1:=by rw[hh4,YH,z3]
 have up:∀b o,b≠e->h1.get? b=some o->h4.get? b=some o:=λb o hb q=>by
  rw[hh4];exact ye _ ((sb3.2 b hb).trans ((sb2.2 b hb).trans q))
 show yq _ _ (Builtin.SmallTypes.ownedTupleIsFree (.ref e) >>= _) _ _ ⟨h3.push {cls:=.type "tuple",data:=.seq #[.int i tk,x]},g,d,tk+1,os⟩;rw[<-hh4,z3];refine ya ?_;unfold Builtin.SmallTypes.ownedTupleIsFree;refine ya (YA e4 rfl (x:=.none) rfl (yp ?_));simp only[if_true];refine ya (wpAny_rule (ya (YA e4 rfl (x:=old) rfl (ya (xt e4 (by simp) λh5 e5 sb5=>?_)))));replace sb5:Yq e h4 h5:=sb5;replace e5:IsEnum h5 e it (i+1) x:=e5;show yq _ _ (Builtin.SmallTypes.ownedTupleHandOut (.ref e) (.ref hp.objs.size) >>= _) _ _ ⟨h5,g,d,tk+1,os⟩;refine ya ?_;unfold Builtin.SmallTypes.ownedTupleHandOut;refine ya (xt e5 (by simp) λh6 e6 sb6=>?_);replace sb6:Yq e h5 h6:=sb6;replace e6:IsEnumOut h6 e it (i+1) x hp.objs.size:=e6;refine xt e6 (by simp) λh7 e7 sb7=>?_;replace sb7:Yq e h6 h7:=sb7;replace e7:IsEnumOut h7 e it (i+1) x hp.objs.size:=e7;have up7:∀b o,b≠e->h4.get? b=some o->h7.get? b=some o:=λb o hb q=>(sb7.2 b hb).trans ((sb6.2 b hb).trans ((sb5.2 b hb).trans q));refine ya (wpAny_letGo (yp ⟨_,rfl,yp (hQ h7 e7 (hN _ _ n1 λo q=>up7 _ _ (yM hne) (up _ _ (yM hne) q)) (up7 _ _ ne4 t4) ?_ λb o h1 h2 q=>up7 _ _ h1 (up _ _ h1 ((sb1.2 b h2).trans q)))⟩));show h7.objs.size=hp.objs.size+1;rw[sb7.1,sb6.1,sb5.1,z4]
def zGm{e it:yb}{i:Int}{old:Value}{Q:Option Value->yd->Prop}(he:IsEnum s.heap e it i old)
 (nx:∀(A':yJ)(Q':Value->yd->Prop)(E':Value->yd->Prop),A'.handled=A.handled->(∀h' x,Heap.ExtBut it s.heap h'->(∃o,h'.get? x=some o/\o.cls=.type "StopIteration")->E' (.ref x) {s with heap:=h' })->yq (yy prog w) A' (Yr (.ref it)) Q' E' s)
 (hQ:∀h',Heap.ExtBut it s.heap h'->Q none {s with heap:=h' }):yq (yy prog w) A (pyNext (.ref e)) Q E s:=by
 have hT:s.TypeIs (.ref e) "enumerate":=⟨_,he,rfl⟩
 unfold pyNext;refine ya (wpAny_attempt (xn (name:=Str.ofString "__next__") hT xE (YS xE hT F.entry_enumerate_next ?_ (F.args_enumerate_next_1 _))));show yq _ _ (field (.ref e) 2 >>= _) _ _ _;refine ya (YA he rfl (x:=.ref it) rfl (ya (nx _ _ _ rfl λh' x eb ⟨o,ho,hc⟩=>?_)));exact ya (wpAny_isInstance (T:="StopIteration") (b:=true) ⟨o,ho,hc⟩ isSubtype_stop (yp (hQ _ eb)))
end
section
variable {X:Cx}{pins:List (yb×Yw)}{σ:L2.St}{H:Hp}{s:yd}
def z2j{fp:List yb}(hf:∀b∈fp,zQm X pins H b){b:yb}{u:HO}(e:H b=some u):b∉fp:=λz=>by rw[(hf b z).1]at e;cases e
def zzu{fp:List yb}(hf:∀b∈fp,zQm X pins H b):∀b∈fp,(b∈X.ex\/X.s₀.heap.objs.size<=b)/\b≠X.env.locals/\(∀x c,X.env.cells.lookup x=some c->c≠b)/\∀p∈X.pn++pins,p.1≠b:=λb hb=>by
 obtain⟨_,f1,_,f3,f4,f5⟩:=hf b hb;exact⟨f3,f1,f4,f5⟩
def z5i{fp:List yb}{h':yR}{t':Nat}(I:Inv X pins σ H s)(hf:∀b∈fp,zQm X pins H b)(k:∀b o,b∉fp->s.heap.get? b=some o->h'.get? b=some o):Inv X pins σ H {s with heap:=h',toks:=t' }:=by
 refine I.call (g':=s.gens) (t':=t') (d':=s.drawn) (ch:=fp) ⟨λb o e _ _ hx=>k b o hx e,λb o e _ _ hx=>⟨o.slots,k b o hx e⟩,λ_ _ _ n _=>n,λb o e hx=>⟨o,k b o hx e⟩,λ_ _ e=>e,λ_ _ _ e=>e,λ_ ps e=>⟨#[],by rw[e];simp⟩⟩ (λa o e=>?_) I.bare (zzu hf);refine(I.hok a o e).stay (λb u hb q=>k b u ?_ q) (λ_ q=>q) λ_ _ q=>q;rcases hb with rfl|hb
 ·exact z2j hf e
 ·exact z2j hf hb
def zTd{fp:List yb}{h':yR}{t':Nat}{p:yb}{o:HO}(I:Inv X pins σ H s)(hf:∀b∈fp,zQm X pins H b)(k:∀b o,b∉fp->s.heap.get? b=some o->h'.get? b=some o)(hp:s.heap.objs.size<=p)
 (new:tF X.prog X.w (upd H p o) h' p o):Inv X pins σ (upd H p o) {s with heap:=h',toks:=t' }:=by
 have hn:=I.hok.fresh hp;have hlt:∀b ob,s.heap.get? b=some ob->b≠p:=λb ob e=>yw (yv (ym e) hp)
 refine I.call (g':=s.gens) (t':=t') (d':=s.drawn) (ch:=fp) ⟨λb o e _ _ hx=>k b o hx e,λb o e _ _ hx=>⟨o.slots,k b o hx e⟩,λb ob e n _=>by rw[zr (hlt b ob e)];exact n,λb o e hx=>⟨o,k b o hx e⟩,
  λ_ _ e=>by rw[zr (zE e hn)];exact e,λ_ _ _ e=>by rw[zr (zE e hn)];exact e,λ_ ps e=>⟨#[],by rw[zr (zE e hn),e];simp⟩⟩ (λa u e=>?_) I.bare (zzu hf)
 by_cases ha:a=p
 ·subst ha;rw[zt]at e;cases e;exact new
 ·rw[zr ha]at e;refine(I.hok a u e).stay (λb u hb q=>k b u ?_ q) (λb q=>by rw[zr (zE q hn)];exact q) λb xs q=>by rw[zr (zE q hn)];exact q
  rcases hb with rfl|hb
  ·exact z2j hf e
  ·exact z2j hf hb
def Ien(J:It):It:=⟨J.go,λi H x H'=>∃p y,x=.ref p/\H p=none/\H'=upd H p (.tup [.int i,y])/\J.yld i H y H,J.stop⟩
def zkp{P:yu}{w:yI}{H:Hp}{h:yR}{p:yb}{x y:V}{u v:Value}(e:h.get? p=some {cls:=.type "tuple",data:=.seq #[u,v]})(rx:RelV x u)(ry:RelV y v):tF P w H h p (.tup [x,y]) :=
 ⟨by rw[Yh];simp,[u,v],.cons rx (.cons ry .nil),⟨_,e,rfl,_,rfl⟩⟩
def zzn{P:yu}{w:yI}{K:yt}{elts:List yz}{x1}{pos:YR}(a e it:yb)(hne:e≠it):Turn P w K (.Tuple elts x1 pos) (Ien (Itl K a)) [e,it] e (λi h=>(∃old,IsEnum h e it i old)/\h.IsListIter it a i) where
 mem:=by simp
 obj:=λi h ⟨⟨old,he⟩,st⟩ b hb=>by
  have hb:b=e\/b=it:=by simpa using hb
  rcases hb with rfl|rfl
  ·exact⟨_,he,λv z=>by have z':Data.fields _=Data.cell v:=z;cases z'⟩
  ·obtain⟨o,q,c,d⟩:=st;exact⟨o,q,λv z=>by rw[d]at z;cases z⟩
 keep:=λi h h' ⟨⟨old,he⟩,st⟩ k=>⟨⟨old,k e (by simp) _ he⟩,st.at λo q=>k it (by simp) o q⟩
 item:=by
  intro X hP hw hK hc i pins s σ H E I hf ⟨⟨old,he⟩,st⟩ hg;subst hP hw hK;obtain⟨xs,x,hq,hx⟩:=hg;obtain⟨its,rv,p,hz⟩:=I.list hq;obtain⟨u,hu,ru⟩:=rv.get hx;refine zKk (N:=λh=>h.IsListIter it a (i+1)) he hne (λA' Q' E' hQ=>wpAny_nextOf_list_item st p.isList (x:=u) (by simpa using hu) λh' st' sb=>hQ h' st' sb) (λh h' n k=>n.at λo q=>k o q) λh' eo n' t' z' kk=>?_;refine⟨_,rfl,wpAny_letOwnedTupleGo_enum eo λh2 e2 sb2=>?_⟩;replace sb2:Yq e h' h2:=sb2;have hlt:e<s.heap.objs.size:=ym he;have t2:=(sb2.2 s.heap.objs.size (Ym hlt)).trans t';have hfr:=I.hok.fresh (yh s.heap.objs.size)
  have I2:Inv X pins σ (upd H s.heap.objs.size (.tup [.int i,x])) {s with heap:=h2,toks:=s.toks+1 }:=by
   refine zTd I hf (λb o hb q=>?_) (yh _) (zkp t2 ⟨_,rfl⟩ ru);simp only[mem_cons,not_mem_nil,or_false,not_or]at hb;exact(sb2.2 b hb.1).trans (kk b o hb.1 hb.2 q)
  refine⟨.ref s.heap.objs.size,_,I2,rfl,⟨_,x,rfl,hfr,rfl,rfl,λys hy=>by rw[I.sH hy hq];exact hx⟩,⟨⟨u,by simpa using e2⟩,n'.at λo q=>(sb2.2 it (yM hne)).trans q⟩,λb hb=>?_⟩
  ·rw[zr]
   ·exact(hf b hb).1
   ·rintro rfl;have hb:s.heap.objs.size=e\/s.heap.objs.size=it:=by simpa using hb
    rcases hb with q|q
    ·exact absurd hlt (by rw[q];exact yQ _)
    ·obtain⟨o,qo,_⟩:=st;exact absurd (ym qo) (by rw[q];exact yQ _)
 done:=by
  intro X hP hw hK hc i pins s σ H E I hf ⟨⟨old,he⟩,st⟩ hg;subst hP hw hK;obtain⟨xs,hq,hx⟩:=hg;obtain⟨its,rv,p,hz⟩:=I.list hq;have hl:=rv.length;refine zGm he (λA' Q' E' hA hE=>wpAny_nextOf_list_end (hA.trans (I.ok.hd hc)) st p.isList (by simp;omega) hE) λh' eb=>⟨rfl,z5i (t':=s.toks) I hf λb o hb q=>eb b o (λz=>hb (by simp[z])) q⟩
 self:=λ_ _ _ _ _ ⟨⟨old,he⟩,_⟩ h=>wpAny_pyIter_enum he h
def zin{P:yu}{w:yI}{K:yt}{elts:List yz}{x1}{pos:YR}(a e it:yb)(hne:e≠it):Turn P w K (.Tuple elts x1 pos) (Ien (Itt K a)) [e,it] e (λi h=>(∃old,IsEnum h e it i old)/\h.IsTupleIter it a i) where
 mem:=by simp
 obj:=λi h ⟨⟨old,he⟩,st⟩ b hb=>by
  have hb:b=e\/b=it:=by simpa using hb
  rcases hb with rfl|rfl
  ·exact⟨_,he,λv z=>by have z':Data.fields _=Data.cell v:=z;cases z'⟩
  ·obtain⟨o,q,c,d⟩:=st;exact⟨o,q,λv z=>by rw[d]at z;cases z⟩
 keep:=λi h h' ⟨⟨old,he⟩,st⟩ k=>⟨⟨old,k e (by simp) _ he⟩,st.at λo q=>k it (by simp) o q⟩
 item:=by
  intro X hP hw hK hc i pins s σ H E I hf ⟨⟨old,he⟩,st⟩ hg;subst hP hw hK;obtain⟨xs,x,hq,hx⟩:=hg;obtain⟨its,rv,p,hz⟩:=I.tuple hq;obtain⟨u,hu,ru⟩:=rv.get hx;refine zKk (N:=λh=>h.IsTupleIter it a (i+1)) he hne (λA' Q' E' hQ=>nextT st (show s.heap.IsTuple a its.toArray from p) (x:=u) (by simpa using hu) λh' st' sb=>hQ h' st' sb) (λh h' n k=>n.at λo q=>k o q) λh' eo n' t' z' kk=>?_;refine⟨_,rfl,wpAny_letOwnedTupleGo_enum eo λh2 e2 sb2=>?_⟩;replace sb2:Yq e h' h2:=sb2;have hlt:e<s.heap.objs.size:=ym he;have t2:=(sb2.2 s.heap.objs.size (Ym hlt)).trans t';have hfr:=I.hok.fresh (yh s.heap.objs.size)
  have I2:Inv X pins σ (upd H s.heap.objs.size (.tup [.int i,x])) {s with heap:=h2,toks:=s.toks+1 }:=by
   refine zTd I hf (λb o hb q=>?_) (yh _) (zkp t2 ⟨_,rfl⟩ ru);simp only[mem_cons,not_mem_nil,or_false,not_or]at hb;exact(sb2.2 b hb.1).trans (kk b o hb.1 hb.2 q)
  refine⟨.ref s.heap.objs.size,_,I2,rfl,⟨_,x,rfl,hfr,rfl,rfl,λys hy=>by rw[I.sv hy hq];exact hx⟩,⟨⟨u,by simpa using e2⟩,n'.at λo q=>(sb2.2 it (yM hne)).trans q⟩,λb hb=>?_⟩
  ·rw[zr]
   ·exact(hf b hb).1
   ·rintro rfl;have hb:s.heap.objs.size=e\/s.heap.objs.size=it:=by simpa using hb
    rcases hb with q|q
    ·exact absurd hlt (by rw[q];exact yQ _)
    ·obtain⟨o,qo,_⟩:=st;exact absurd (ym qo) (by rw[q];exact yQ _)
 done:=by
  intro X hP hw hK hc i pins s σ H E I hf ⟨⟨old,he⟩,st⟩ hg;subst hP hw hK;obtain⟨xs,hq,hx⟩:=hg;obtain⟨its,rv,p,hz⟩:=I.tuple hq;have hl:=rv.length;refine zGm he (λA' Q' E' hA hE=>zzp (hA.trans (I.ok.hd hc)) st (show s.heap.IsTuple a its.toArray from p) (by simp;omega) hE) λh' eb=>⟨rfl,z5i (t':=s.toks) I hf λb o hb q=>eb b o (λz=>hb (by simp[z])) q⟩
 self:=λ_ _ _ _ _ ⟨⟨old,he⟩,_⟩ h=>wpAny_pyIter_enum he h
def zWn(l:yb)(items:Array Value)(n:Nat)(dct:Option yb)(sl:Array (Option Value)) :
 Meets (Builtin.«enumerate.__new__» ⟨[.type "enumerate",.ref l],[]⟩) (λ_ R s=>s.heap.get? l=some {cls:=.type "tuple",dict:=dct,data:=.seq items n,slots:=sl } /\
  R (.ok (.ret (.ref (s.heap.push {cls:=.type "tuple_iterator",data:=.fields #[.ref l,.int 0 0]}).objs.size)))
   {s with heap:=(s.heap.push {cls:=.type "tuple_iterator",data:=.fields #[.ref l,.int 0 0]}).push {cls:=.type "enumerate",data:=.fields #[.none,.bool false,.ref s.heap.objs.size,rawInt 0,.none,.none]}}) :=
 .of_wp λprog w A R s h=>by
  obtain⟨hp,g,d,tk,os⟩:=s;obtain⟨hl,h⟩:=h;have hsub:=sub_enumerate;have hL:Heap.IsTuple (Shared.heap ⟨hp,g,d,tk,os⟩) l items:=⟨_,hl,rfl,n,rfl⟩
  wp_walk using xi hl
  refine wpAny_stack_any λst=>yp ?_
  split
  ·rename_i c _ _ _ _ _
   cases (c==YD "enumerate")
   ·wp_walk using xi hl,wpAny_pyIter_tuple hL
    exact⟨_,rfl,h⟩
   ·wp_walk using xi hl,wpAny_pyIter_tuple hL
    exact⟨_,rfl,h⟩
  ·wp_walk using xi hl,wpAny_pyIter_tuple hL
   exact⟨_,rfl,h⟩
def zQn{prog:yu}{w:yI}{A:yJ}{E:Value->yd->Prop}{l:yb}{items:Array Value}{Q:Value->yd->Prop}(hL:s.heap.IsTuple l items)
 (h:∀h',IsEnum h' (s.heap.objs.size+1) s.heap.objs.size 0 .none->h'.IsTupleIter s.heap.objs.size l 0->h'.objs.size=s.heap.objs.size+2 ->
  (∀b o,s.heap.get? b=some o->h'.get? b=some o)->Q (.ref (s.heap.objs.size+1)) {s with heap:=h' }):yq (yy prog w) A (call (.type "enumerate") [.ref l]) Q E s:=by
 obtain⟨⟨c,dct,dt,sl⟩,hl,hc,n,hd⟩:=hL;replace hc:c=.type "tuple":=hc;replace hd:dt=.seq items n:=hd;subst hc hd;refine callType_new F.called_enumerate (by decide) (F.typeCall_enumerate_1 _) (F.newCall_enumerate_1 _) (λobj=>F.args_object_init_2 obj _) F.entry_enumerate_new (zWn l items n dct sl) ⟨hl,?_⟩;have hz:(s.heap.push {cls:=.type "tuple_iterator",data:=.fields #[.ref l,.int 0 0]}).objs.size=s.heap.objs.size+1:=YH ..
 have he:IsEnum ((s.heap.push {cls:=.type "tuple_iterator",data:=.fields #[.ref l,.int 0 0]}).push {cls:=.type "enumerate",data:=.fields #[.none,.bool false,.ref s.heap.objs.size,rawInt 0,.none,.none]}) (s.heap.objs.size+1) s.heap.objs.size 0 .none:=by
  have:=yx (s.heap.push {cls:=.type "tuple_iterator",data:=.fields #[.ref l,.int 0 0]}) (o:={cls:=.type "enumerate",data:=.fields #[.none,.bool false,.ref s.heap.objs.size,rawInt 0,.none,.none]}) rfl;rw[hz]at this;exact this
 show _/\_;rw[hz];exact⟨⟨_,he,rfl⟩,h _ he ⟨_,ye _ (yx _ rfl),rfl,rfl⟩ (by rw[YH,hz]) λb o x=>ye _ (ye _ x)⟩
def ztw(K:yt)(tl:TE):TI:=λσ H R=>tl σ H λx H1=>∃a,x=.ref a/\((∃xs,SqL K H1 a xs)/\R (Ien (Itl K a)) H1\/(∃xs,SqT K H1 a xs)/\R (Ien (Itt K a)) H1)
def zns{l:yz}{tl:TE}{elts:List yz}{x1}{tp p pos:YR}(hg:Gl X "enumerate")(hm:X.mg "enumerate"=none)(hv:yL "enumerate"=some (.type "enumerate"))(hl:PE X l tl)(hs:yf [l] X.env=[(false,yV l X.env)]:=by rfl) :
 PI X (.Tuple elts x1 tp) (.Call (.Name "enumerate" p) [l] [] pos) (ztw X.K tl):=by
 intro pins s σ H R I h
 refine Call_ (zFh I hg hm hv (Yv (thn (zNf hl zXi hs pos pins s σ H (λvs H1=>match vs with
  |[x]=>∃a,x=.ref a/\((∃xs,SqL X.K H1 a xs)/\R (Ien (Itl X.K a)) H1\/(∃xs,SqT X.K H1 a xs)/\R (Ien (Itt X.K a)) H1)
  |_=>False) I h) λus s1 ⟨vs,H1,I1,r1,q1⟩=>?_) hs rfl))
 dsimp only at q1
 split at q1
 case h_2=>exact q1.elim
 obtain⟨a,e,q⟩:=q1;subst e
 cases r1 with
 |cons r rr=>
  cases rr;cases r
  have fin:∀h':yR,(∀b o,s1.heap.get? b=some o->h'.get? b=some o)->∀b∈[s1.heap.objs.size+1,s1.heap.objs.size],zQm X pins H1 b:=λh' kp b hb=>by
   have hb:b=s1.heap.objs.size+1\/b=s1.heap.objs.size:=by simpa using hb
   rcases hb with rfl|rfl
   ·exact I1.sM (Nat.le_succ _) (I1.hok.fresh (Nat.le_succ _))
   ·exact I1.sM (yh _) (I1.hok.fresh (yh _))
  have hne:s1.heap.objs.size+1≠s1.heap.objs.size:=Nat.succ_ne_self _;rcases q with ⟨⟨xs,hq⟩,q⟩|⟨⟨xs,hq⟩,q⟩
  ·obtain⟨its,rv,pl,hz⟩:=I1.list hq;refine call_enumerate_list pl.isList λh' e1 i1 z1 kp=>?_;refine wpAny_pyIter_enum (s:={s1 with heap:=h' }) e1 ?_;exact⟨_,[s1.heap.objs.size+1,s1.heap.objs.size],_,_,H1,rfl,I1.kept (t':=s1.toks) kp,zzn a _ _ hne,⟨⟨_,e1⟩,i1⟩,fin h' kp,q⟩
  ·obtain⟨its,rv,pl,hz⟩:=I1.tuple hq;refine zQn (show s1.heap.IsTuple a its.toArray from pl) λh' e1 i1 z1 kp=>?_;refine wpAny_pyIter_enum (s:={s1 with heap:=h' }) e1 ?_;exact⟨_,[s1.heap.objs.size+1,s1.heap.objs.size],_,_,H1,rfl,I1.kept (t':=s1.toks) kp,zin a _ _ hne,⟨⟨_,e1⟩,i1⟩,fin h' kp,q⟩
def zzg(ds:List D):List D:=ds.zipIdx.map λp =>.tup [.int (p.2:Nat),p.1]
def zTe(ds:List D):(zzg ds).length=ds.length:=by simp[zzg]
def zyq{ds:List D}{i:Nat}{d:D}(h:(zzg ds)[i]?=some d):∃y,ds[i]?=some y/\d=.tup [.int i,y]:=by
 unfold zzg at h;rw[yn,List.getElem?_zipIdx]at h
 cases e:ds[i]? with
 |none=>rw[e]at h;cases h
 |some y=>
  rw[e]at h;refine⟨y,rfl,?_⟩;have:=yU h;rw[<-this];simp
@[simp] def zAo(φ:FE):FI:=λδ μ=>(φ δ μ).bind λp=>match p.1 with
 |.tup ds=>some (zzg ds,yes,p.2)
 |.fz ds=>some (zzg ds,yes,p.2)
 |.loc n=>match p.2[n]? with
  |some (.lst ds)=>some (zzg ds,zWk n ds,p.2)
  |_=>none
 |_=>none
def zol{K:yt}{J:It}{ρ:List yb}{H:Hp}{ds:List D}{ok:Mem->Bool}(h:sS K J ρ H ds ok):sS K (Ien J) ρ H (zzg ds) ok:=by
 refine⟨λρ' H' μ' i x R o hi=>h.go ρ' H' μ' i x R o (by rw[zTe]at hi;exact hi),λρ' H' μ' i x H'' d x' R o e ⟨p,y,e1,hp,e2,yl⟩=>?_,λρ' H' μ' x R o=>by rw[zTe];exact h.stop ρ' H' μ' x R o⟩;obtain⟨z,ez,rfl⟩:=zyq e;obtain⟨_,_,rz⟩:=h.yld ρ' H' μ' i y H' z x' R o ez yl;subst e1 e2;exact⟨Ext.new hp,R.Tr hp,.tup zt (.cons .int (.cons (rz.ext (Ext.new hp)) .nil))⟩
def zSl{a:yz}{φ:FE}{elts:List yz}{x1}{tp p pos:YR}(hm:X.mg "enumerate"=none)(hv:yL "enumerate"=some (.type "enumerate"))(h:ME X a φ)(hg:Gl X "enumerate":=by rfl)(hs:yf [a] X.env=[(false,yV a X.env)]:=by rfl) :
 MI X (.Tuple elts x1 tp) (.Call (.Name "enumerate" p) [a] [] pos) (zAo φ) :=
 z4o (zns hg hm hv h hs) λρ δ μ σ H ds ok μ' R A e k=>by
  obtain⟨⟨x,μ1⟩,e1,e⟩:=zf e;refine⟨ρ,δ,μ,x,μ1,A,e1,λρ1 H1 v1 x1 R1 r1=>?_⟩;dsimp only at e
  split at e
  ·cases e;obtain⟨a,vs,rfl,e2,q2⟩:=r1.tU;exact⟨a,rfl,.inr ⟨⟨vs,SqT.of e2⟩,k ρ1 H1 _ x1 R1 (zol (ztr e2 q2))⟩⟩
  ·cases e;obtain⟨a,vs,rfl,e2,q2⟩:=r1.sk;exact⟨a,rfl,.inl ⟨⟨vs,e2.sq⟩,k ρ1 H1 _ x1 R1 (zol (z0m λρ' H' μ' x _ _=>⟨vs,(x.fz e2).sq,q2.ext x⟩))⟩⟩
  ·split at e
   ·rename_i hm
    cases e;obtain⟨a,rfl,e2⟩:=r1.tz;obtain⟨vs,e3,q3⟩:=R1.at_ _ _ _ e2 hm;refine⟨a,rfl,.inl ⟨⟨vs,SqL.of e3⟩,k ρ1 H1 _ x1 R1 (zol (z0m λρ' H' μ'' x R' o=>?_))⟩⟩;obtain⟨vs',e4,q4⟩:=R'.at_ _ _ _ (x.get e2) (TH.mp o);exact⟨vs',SqL.of e4,q4⟩
   ·cases e
  ·cases e
end
section
variable {X:Cx}{a b c e:yz}{es:List yz}{φ ψ χ:FE}{pos:YR}
@[simp] def zni:GM:=λx ds μ=>match x,ds with
 |.loc n,[d]=>match μ[n]? with
  |some (.lst xs)=>bif z5d d&&xs.all z5d then some (.int (xs.countP λy=>eqF y d:Nat),μ) else none
  |_=>none
 |_,_=>none
def zjk{x:V}:∀{xs:List V} {us:List Value},Vals xs us->xs.all zki=true->us.countP (eqU x)=xs.countP λy=>eqV y x
 |_,_,.nil,_=>rfl
 |y::xs,u::us,.cons r t,f=>by
  rw[all_cons,yN]at f;rw[countP_cons,countP_cons,zEo r f.1,zjk t f.2]
def zIk{K:yt}{ρ:List yb}{H:Hp}{x:D}{v:V}(rx:tm K ρ H x v)(fx:z5d x=true):∀{ds:List D} {vs:List V},tf K ρ H ds vs->ds.all z5d=true->(vs.countP λy=>eqV y v)=ds.countP λd=>eqF d x
 |[],_,r,_=>by rw[r.nil_inv];rfl
 |d::ds,_,r,f=>by
  obtain⟨w,ws,rfl,r1,r2⟩:=r.cons_inv;rw[all_cons,yN]at f;rw[countP_cons,countP_cons,zIk rx fx r2 f.2,zio r1 rx f.1 fx]
def zVo:MtG X "list.count" zni:=by
 refine MtG.of λpins s σ H x xs v us Q I rx rs ρ dx ds μ d μ' r1 r2 R e k=>?_;unfold zni at e
 split at e
 ·split at e
  ·rename_i hm
   obtain⟨h1,e⟩:=zR e;rw[yN]at h1;cases e;obtain⟨a,rfl,ea⟩:=r1.tz;obtain⟨vs,e3,q3⟩:=R.at_ _ _ _ ea hm;obtain⟨w,r,rfl,q1,q2⟩:=r2.cons_inv;rw[q2.nil_inv]at rs;obtain⟨u,rfl,ru⟩:=vals1 rs;cases rx;obtain⟨z,its,n,rv,hl,el⟩:=I.Sf e3;obtain⟨fv,_⟩:=zco q1 h1.1 q3 h1.2;refine call_meets PySem.F.slot_list_count ⟨_,el,rfl⟩ PySem.F.entry_list_count (PySem.F.args_list_count_2 _ _) (SeqAt.list_countAt a its.toArray n _ _ u (eqU w)) ⟨el,λy hy=>zlh ru (z3j q1 h1.1) rv fv y (by simpa using hy),?_⟩;refine⟨.int _,H,I.tok _,⟨_,rfl⟩,?_⟩;rw[show its.toArray.toList=its by simp,zjk rv fv,zIk q1 h1.1 q3 h1.2];exact k ρ H _ Ext.refl R .int
  ·cases e
 ·cases e
def z0q{o:yz}{ψ:FA}{apos:YR}(ho:ME X o φ)(ha:MAn X (e::es) ψ)
 (hbase:Yt o "count" X.env (yV o X.env)=yV o X.env:=by rfl)
 (hfew:((yZ pos (yf (e::es) X.env)).all (λx=>!x.1)&&(xw pos (Yz [] X.env)).all (λx=>x.1.isSome)
  && decide ((e::es).length+([]:List xI).length+(if([]:List xI).isEmpty then 0 else 1)<30))=true:=by rfl)
 (hline:(apos.endLine==pos.line)=true:=by rfl) (hs:yf (e::es) X.env=(false,yV e X.env)::yf es X.env:=by rfl) (hplain:(yZ pos (yf es X.env)).any (·.1)=false:=by rfl) :
 ME X (.Call (.Attribute o "count" apos) (e::es) [] pos) (zok zni φ ψ):=zRp PySem.F.slot_list_count PySem.F.type_list_count zVo ho ha hbase hfew hline hs hplain
@[simp] def zLt(i:Nat)(g:G2)(φ:FE):FS:=λδ μ=>match δ[i]? with
 |some (some x)=>(φ δ μ).bind λp=>(g x p.1 p.2).bind λq=>some (.next (δ.set i (some q.1)) q.2)
 |_=>none
def zJq:G2:=λx y μ=>match x,y with
 |.int i,.int j=>some (.int (i+j),μ)
 |_,_=>none
def zbs:OpM X (inplaceOp .Add) zJq:=by
 refine OpM.of λpins s σ H x y v u Q I rx ry ρ dx dy μ d μ' r1 r2 R e k=>?_;unfold zJq at e
 split at e
 ·cases e;exact zht pins s σ H x y v u Q I rx ry ⟨_,_,r1.int_inv,r2.int_inv,k ρ H _ Ext.refl R .int⟩
 ·cases e
def zvt{x:yr}{op:Operator}{g:G2}{pos':YR}(i:Nat)(ho:OpM X (inplaceOp op) g)(he:ME X e φ)(hN:X.N.Nodup:=by assumption)(hi:X.N[i]?=some x:=by rfl)(hx:L2.Loc X.env.scope x:=by first|exact Or.inl rfl|exact Or.inr rfl)
 (hf:X.fn x=true\/X.env.scope.names.lookup x=some .local:=by first|exact .inl rfl|exact .inr rfl|assumption):MS X (.AugAssign (.Name x pos') op e pos) (zLt i g φ) :=
 zIi (zMt (ti:=rM X.K g) hN hi hx he (λpins s σ H x y v u Q I rx ry q=>ho pins s σ H x y v u Q I rx ry q) hf) λρ δ μ σ H o E A e k=>by
  unfold zLt at e
  split at e
  ·rename_i d hd
   obtain⟨v,hv,rv⟩:=A.st i _ hd;obtain⟨⟨y,μ1⟩,e1,e⟩:=zf e;obtain⟨⟨z,μ2⟩,e2,e⟩:=zf e;cases e;refine⟨v,hv,ρ,δ,μ,y,μ1,A,e1,λρ1 H1 w x1 R1 r1=>?_⟩;refine⟨ρ1,d,y,μ1,z,μ2,rv.ext x1,r1,R1,e2,λρ2 H2 w2 x2 R2 r2=>?_⟩;exact k ρ2 _ H2 (x1.trans x2) ((A.ext (x1.trans x2) R2).set r2 i)
  ·cases e
def z1b(c:FT)(body:FS):Nat->FS
 |0,_,_=>none
 |n+1,δ,μ=>(c δ μ).bind λp=>bif p.1 then(match body δ p.2 with
  |some (.next δ' μ')=>z1b c body n δ' μ'
  |some (.cont δ' μ')=>z1b c body n δ' μ'
  |some (.brk δ' μ')=>some (.next δ' μ')
  |some (.ret d μ')=>some (.ret d μ')
  |some (.exc C fs μ')=>some (.exc C fs μ')
  |none=>none) else some (.next δ p.2)
def z8m(n:Nat)(c:FT)(body:FS):FS:=z1b c body n
def z9m{body:List yX}{t:FT}{p:FS}(n:Nat)(hc:MT X c t)(hb:MSs X body p)(hx:PassesOwn (yy X.prog X.w) X.A X.env X.xe:=by first|exact PassesOwn.never|exact PassesOwn.leaving):MS X (.While c body [] pos) (z8m n t p) :=
 zIi (z2q hx hc hb) λρ δ μ σ H o E A e k=>by
  refine⟨λm σ' H'=>∃ρ' δ' μ',Ext ρ H ρ' H'/\At X.K ρ' H' σ' δ' μ'/\z1b t p m δ' μ'=some o,⟨n,ρ,δ,μ,Ext.refl,A,e⟩,?_⟩;rintro m σ' H' ⟨ρ',δ',μ',x',A',ew⟩
  cases m with
  |zero=>cases ew
  |succ m=>
   unfold z1b at ew;obtain⟨⟨b,μ1⟩,e1,ew⟩:=zf ew;refine⟨ρ',δ',μ',b,μ1,A',e1,λρ1 H1 x1 R1=>?_⟩;have xx:=x'.trans x1
   cases b with
   |false=>
    cases ew;exact sP (k ρ1 σ' H1 xx (A'.ext x1 R1))
   |true=>
    refine sQ ⟨λσ3 H3=>∃ρ3 δ3 μ3,Ext ρ H ρ3 H3/\At X.K ρ3 H3 σ3 δ3 μ3/\z1b t p m δ3 μ3=some o,λσ3 H3 q=>⟨m,YE _,q⟩,?_⟩;dsimp only[cond_true]at ew
    cases eb:p δ' μ1 with
    |none=>rw[eb]at ew;cases ew
    |some ob=>
     rw[eb]at ew;refine⟨ρ1,δ',μ1,ob,A'.ext x1 R1,eb,?_⟩
     cases ob with
     |next δ6 μ6=>exact λρ6 σ6 H6 x6 A6=>⟨ρ6,δ6,μ6,xx.trans x6,A6,ew⟩
     |cont δ6 μ6=>exact λρ6 σ6 H6 x6 A6=>⟨ρ6,δ6,μ6,xx.trans x6,A6,ew⟩
     |brk δ6 μ6=>cases ew;exact k.ext xx
     |ret d μ6=>cases ew;exact k.ext xx
     |exc C fs μ6=>cases ew;exact k.ext xx
end
section
variable {X:Cx}{a b c e:yz}{es:List yz}{φ ψ χ:FE}{pos:YR}
end
end M
namespace L2
open PySem PySem.Spec PyProof.Rows
section
variable {κ:Type}[DecidableEq κ]
def zLm(kvs:List (κ×V))(k:κ):Option V:=(kvs.find? λkv=>decide (kv.1=k)).map (·.2)
def zKc(kvs:List (κ×V))(k:κ)(v:V):List (κ×V) :=
 if(kvs.any λkv=>decide (kv.1=k))=true then kvs.map (λkv=>if kv.1=k then(kv.1,v) else kv) else kvs++[(k,v)]
def zXm{p:κ×V}{r:List (κ×V)}{k:κ}(e:p.1=k):zLm (p::r) k=some p.2:=by simp[zLm,xy,e]
def zdn{p:κ×V}{r:List (κ×V)}{k:κ}(e:¬p.1=k):zLm (p::r) k=zLm r k:=by simp[zLm,xy,e]
def zJh(kvs:List (κ×V))(k:κ)(v:V):(zKc kvs k v).length<=kvs.length+1:=by
 unfold zKc
 split
 ·rw[length_map];omega
 ·rw[length_append,length_cons,List.length_nil];omega
def Tv.sw{o:Option V}{u:Option Value}(r:Tv o u):o.isSome=u.isSome:=by
 cases o with
 |none=>cases u with
  |none=>rfl
  |some _=>exact(show False from r).elim
 |some _=>cases u with
  |none=>exact(show False from r).elim
  |some _=>rfl
def KV.val{kvs:List (κ×V)}{vs:List (κ×Value)}(r:KV kvs vs)(k:κ):Tv (zLm kvs k) (valueAt vs k):=by
 unfold KV at r
 induction r with
 |nil=>exact xr
 |@cons p q ps qs h t ih=>
  obtain⟨h1,h2⟩:=h
  by_cases e:p.1=k
  ·have e':q.1=k:=h1.symm.trans e;have b:valueAt (q::qs) k=some q.2:=by simp[valueAt,xy,e']
   rw[zXm e,b];exact h2
  ·have e':¬q.1=k:=λz=>e (h1.trans z);have b:valueAt (q::qs) k=valueAt qs k:=by simp[valueAt,xy,e']
   rw[zdn e,b];exact ih
def KV.any{kvs:List (κ×V)}{vs:List (κ×Value)}(r:KV kvs vs)(k:κ):(kvs.any λkv=>decide (kv.1=k))=vs.any λkv=>decide (kv.1=k):=by
 unfold KV at r
 induction r with
 |nil=>rfl
 |cons h t ih=>rw[any_cons,any_cons,ih,h.1]
def KV.repl{kvs:List (κ×V)}{vs:List (κ×Value)}(r:KV kvs vs)(k:κ){y:V}{u:Value}(ry:RelV y u) :
 KV (kvs.map λkv=>if kv.1=k then(kv.1,y) else kv) (vs.map λkv=>if kv.1=k then(kv.1,u) else kv):=by
 unfold KV at r ⊢
 induction r with
 |nil=>exact .nil
 |@cons p q ps qs h t ih=>
  rw[map_cons,map_cons];refine .cons ?_ ih;obtain⟨h1,h2⟩:=h
  by_cases e:p.1=k
  ·rw[if_pos e,if_pos (h1.symm.trans e)];exact⟨h1,ry⟩
  ·rw[if_neg e,if_neg (λz=>e (h1.trans z))];exact⟨h1,h2⟩
def KV.put{kvs:List (κ×V)}{vs:List (κ×Value)}(r:KV kvs vs)(k:κ){y:V}{u:Value}(ry:RelV y u):KV (zKc kvs k y) (stored vs k u):=by
 unfold zKc stored;rw[r.any k]
 by_cases e:(vs.any λkv=>decide (kv.1=k))=true
 ·rw[if_pos e,if_pos e];exact r.repl k ry
 ·rw[if_neg e,if_neg e];exact Paired.snoc r ⟨rfl,ry⟩
def KV.keys{kvs:List (κ×V)}{vs:List (κ×Value)}(r:KV kvs vs):kvs.map (·.1)=vs.map (·.1):=by
 unfold KV at r
 induction r with
 |nil=>rfl
 |cons h t ih=>rw[map_cons,map_cons,ih,h.1]
def KV.length{kvs:List (κ×V)}{vs:List (κ×Value)}(r:KV kvs vs):kvs.length=vs.length:=Paired.length r
end
def zsl{P:yu}{w:yI}{k:Key}{u:Value}(r:RelV (kV k) u):(z7 P w).is k u=true:=by
 cases k with
 |inl i=>obtain⟨t,e⟩:=(show ∃t,u=Value.int i t from r);subst e;exact zAl P w i t
 |inr x=>obtain⟨t,e⟩:=(show ∃t,u=Value.str x t from r);subst e;exact zDl P w x t
def z0r{P:yu}{w:yI}{H:Hp}{h:yR}{a:yb}{kvs:List (Key×V)}(ok:HOk P w H h)(e:H a=some (.dK kvs)):kvs.length<=yC/\(a==sysModules)=false/\∃vs,KV kvs vs/\h.DictOf (z7 P w) a vs :=
 show tF P w H h a (.dK kvs) from ok a _ e
end L2
namespace M
open PySem PySem.Spec PyProof.Rows L2
def zHc(kvs:List (Int×D))(i:Int):Option D:=(kvs.find? λp=>decide (p.1=i)).map (·.2)
def zsi(kvs:List (Int×D))(i:Int)(d:D):List (Int×D):=if(kvs.any λp=>decide (p.1=i))=true then kvs.map (λp=>if p.1=i then(p.1,d) else p) else kvs++[(i,d)]
@[simp] def zP(μ:Mem):D->Option (List (Int×D))
 |.loc n=>match μ[n]? with
  |some (.dct kvs)=>some kvs
  |some (.dcf kvs)=>some kvs
  |_=>none
 |_=>none
def RdK(H:Hp)(a:yb)(vs:List (Key×V)):Prop:=H a=some (.dK vs)\/∃o,H a=some (.frz o (.dK vs))
def zmd{P:yu}{w:yI}{H:Hp}{h:yR}{a:yb}{kvs:List (Key×V)}(ok:HOk P w H h)(e:RdK H a kvs):kvs.length<=yC/\(a==sysModules)=false/\∃vs,KV kvs vs/\h.DictOf (z7 P w) a vs:=by
 rcases e with e|⟨o,e⟩
 ·exact z0r ok e
 ·exact(show tF P w H h a (.frz o (.dK kvs)) from ok a _ e).2
section
variable {K:yt}{ρ:List yb}{H:Hp}{μ:Mem}
def zoc{d:D}{v:V}{kvs:List (Int×D)}(R:tG K ρ H μ)(r:tm K ρ H d v)(e:zP μ d=some kvs):∃p vs,v=.ref p/\RdK H p vs/\vs.map (·.1)=kvs.map (λp=>yF p.1)/\tf K ρ H (kvs.map (·.2)) (vs.map (·.2)):=by
 unfold zP at e
 split at e
 ·split at e
  ·rename_i hm
   cases e;obtain⟨a,e1,e2⟩:=r.tz;obtain⟨vs,e3,q1,q2⟩:=R.at_ _ _ _ e2 hm;exact⟨a,vs,e1,.inl e3,q1,q2⟩
  ·rename_i hm
   cases e;obtain⟨a,e1,e2⟩:=r.tz;obtain⟨o,vs,e3,q1,q2⟩:=R.at_ _ _ _ e2 hm;exact⟨a,vs,e1,.inr ⟨o,e3⟩,q1,q2⟩
  ·cases e
 ·cases e
def z4e:∀{kvs:List (Int×D)} {vs:List (Key×V)} (i:Int),vs.map (·.1)=kvs.map (λp=>yF p.1)->tf K ρ H (kvs.map (·.2)) (vs.map (·.2)) ->
 (∀d,zHc kvs i=some d->∃v,zLm vs (yF i)=some v/\tm K ρ H d v)/\(zHc kvs i=none->zLm vs (yF i)=none)
 |[],vs,i,h1,h2=>by
  have:vs=[]:=by simpa using h1
  subst this;exact⟨λd h=>(by cases h),λ_=>rfl⟩
 |(j,d)::kvs,vs,i,h1,h2=>by
  cases vs with
  |nil=>simp at h1
  |cons q vs=>
   obtain⟨k,v⟩:=q;rw[map_cons,map_cons,YC]at h1;obtain⟨hk,h1⟩:=h1;have hk:k=yF j:=hk;subst hk;obtain⟨v',r,e,q1,q2⟩:=h2.cons_inv;rw[map_cons,YC]at e;obtain⟨e1,e2⟩:=e;subst e2;have e1:v=v':=e1;subst e1;obtain⟨ih1,ih2⟩:=z4e i h1 q2
   by_cases hj:j=i
   ·subst hj;have a1:zHc ((j,d)::kvs) j=some d:=by simp[zHc]
    have a2:zLm ((yF j,v)::vs) (yF j)=some v:=zXm rfl;rw[a1,a2];exact⟨λd' h=>(by cases h;exact⟨v,rfl,q1⟩),λh=>(by cases h)⟩
   ·have a1:zHc ((j,d)::kvs) i=zHc kvs i:=by simp[zHc,hj]
    have a2:zLm ((yF j,v)::vs) (yF i)=zLm vs (yF i):=zdn (λz=>hj (by simpa using z));rw[a1,a2];exact⟨ih1,ih2⟩
def zlg(kvs:List (Int×D))(vs:List (Key×V))(i:Int)(d:D)(v:V)(h:vs.map (·.1)=kvs.map (λp=>yF p.1)):(zKc vs (yF i) v).map (·.1)=(zsi kvs i d).map (λp=>yF p.1):=by
 have hany:(vs.any λkv=>decide (kv.1=yF i))=kvs.any λp=>decide (p.1=i):=by
  have e1:(vs.any λkv=>decide (kv.1=yF i))=(vs.map (·.1)).any λk=>decide (k=yF i):=by rw[any_map];rfl
  rw[e1,h,any_map]
  congr 1
  funext p
  simp
 unfold zKc zsi;rw[hany]
 split
 ·rw[map_map,map_map]
  have e1:(λx:Key×V=>x.1)∘(λkv=>if kv.1=yF i then(kv.1,v) else kv)=λx=>x.1:=by
   funext x;simp only[Function.comp];split<;>rfl
  have e2:(λp:Int×D=>(yF p.1:Key))∘(λp=>if p.1=i then(p.1,d) else p)=λp=>yF p.1:=by
   funext x;simp only[Function.comp];split<;>rfl
  rw[e1,e2];exact h
 ·simp[h]
def z2m:∀(kvs:List (Int×D)) (vs:List (Key×V)) (i:Int) {d:D} {v:V},tm K ρ H d v->vs.map (·.1)=kvs.map (λp=>yF p.1)->tf K ρ H (kvs.map (·.2)) (vs.map (·.2)) ->
 tf K ρ H ((kvs.map λp=>if p.1=i then(p.1,d) else p).map (·.2)) ((vs.map λkv=>if kv.1=yF i then(kv.1,v) else kv).map (·.2))
 |[],vs,i,d,v,r,h1,h2=>by
  have:vs=[]:=by simpa using h1
  subst this;exact .nil
 |(j,e)::kvs,vs,i,d,v,r,h1,h2=>by
  cases vs with
  |nil=>simp at h1
  |cons q vs=>
   obtain⟨k,u⟩:=q;rw[map_cons,map_cons,YC]at h1;obtain⟨hk,h1⟩:=h1;have hk:k=yF j:=hk;subst hk;obtain⟨v',r',e',q1,q2⟩:=h2.cons_inv;rw[map_cons,YC]at e';obtain⟨e1,e2⟩:=e';subst e2;have e1:u=v':=e1;subst e1;have ih:=z2m kvs vs i r h1 q2;simp only[map_cons]
   by_cases hj:j=i
   ·subst hj;rw[if_pos rfl,if_pos rfl];exact .cons r ih
   ·rw[if_neg hj,if_neg (λz=>hj (by simpa using z))];exact .cons q1 ih
def zso{kvs:List (Int×D)}{vs:List (Key×V)}{i:Int}{d:D}{v:V}(r:tm K ρ H d v)(h1:vs.map (·.1)=kvs.map (λp=>yF p.1))(h2:tf K ρ H (kvs.map (·.2)) (vs.map (·.2))) :
 tf K ρ H ((zsi kvs i d).map (·.2)) ((zKc vs (yF i) v).map (·.2)):=by
 have hany:(vs.any λkv=>decide (kv.1=yF i))=kvs.any λp=>decide (p.1=i):=by
  have e1:(vs.any λkv=>decide (kv.1=yF i))=(vs.map (·.1)).any λk=>decide (k=yF i):=by rw[any_map];rfl
  rw[e1,h1,any_map]
  congr 1
  funext p
  simp
 unfold zKc zsi;rw[hany]
 split
 ·exact z2m kvs vs i r h1 h2
 ·simp only[map_append,map_cons,map_nil];exact h2.append (.cons r .nil)
end
section
variable {X:Cx}{a b c e:yz}{es:List yz}{φ ψ χ:FE}{pos:YR}
@[simp] def znn:G2:=λx y μ=>match y with
 |.int i=>(zP μ x).bind λkvs=>(zHc kvs i).bind λd=>some (d,μ)
 |_=>none
def zUs{pins:List (yb×Yw)}{s:yd}{σ:L2.St}{H:Hp}{p:yb}{vs:List (Key×V)}{k:Key}{v:V}{u:Value}{A:yJ}{E:Value->yd->Prop}{Q:Value->yd->Prop}(I:Inv X pins σ H s)(e:RdK H p vs)(l:zLm vs k=some v)(ry:RelV (kV k) u)
 (h:∀w' s',Inv X pins σ H s'->RelV v w'->Q w' s'):yq (yy X.prog X.w) A (getItem (.ref p) u) Q E s:=by
 obtain⟨z,hd,us,rel,dd⟩:=zmd I.hok e;obtain⟨w',hw,rw'⟩:=Tv.some_of (v:=v) (o:=valueAt us k) (by rw[<-l];exact rel.val k);exact wpAny_getItem_of (zsl ry) dd.mapOf hw (h w' _ (I.tok _) rw')
def ixD:IxR X (rM X.K znn):=by
 intro value slice pins s σ H x y v u Q I rx ry ⟨ρ,dx,dy,μ,d,μ',r1,r2,R,e,k⟩ hs;unfold znn at e
 split at e
 ·rename_i i
  obtain⟨kvs,e1,e⟩:=zf e;obtain⟨d',e2,e⟩:=zf e;cases e;obtain⟨p,vs,rfl,hq,q1,q2⟩:=zoc R r1 e1;obtain⟨w',e3,rw'⟩:=(z4e i q1 q2).1 _ e2;cases rx;rw[r2.int_inv]at ry
  have hT:s.TypeIs (.ref p) "dict":=by
   obtain⟨_,_,us,_,dd⟩:=zmd I.hok hq;exact dd.typeIs
  unfold subscriptTail;refine ya ?_;rw[getitemInPython_of_ne hT.not_modules];refine ya (xa hT PySem.F.slot_dict_getitem.lookup ?_)
  have fin:yq (yy X.prog X.w) X.A (subscripted slice false (.ref p) u) (λr s₃=>yq (yy X.prog X.w) X.A (letTemporaryGo value (.ref p) r >>= λ_=>pure r) (EP X pins σ Q) X.xe s₃) X.xe s:=by
   rw[hs];exact wpAny_operating (zUs I hq e3 ry λw2 s2 I2 r2=>ya (wpAny_letTemporaryGo (yp ⟨_,H,I2,r2,k ρ H _ Ext.refl R rw'⟩)))
  first
   |exact yp (ya fin)
   |exact ya (yp (ya fin))
   |exact ya fin
 ·cases e
def z2g(ha:ME X a φ)(hb:ME X b ψ)(hs:znl b:=by intro _ _;rfl):ME X (.Subscript a b pos) (zJ znn φ ψ) :=
 zud (zru ixD ha hb hs) λ_ _ _ _ _ _ _ _ A e k=>z7o A e k
@[simp] def zPv:G2:=λx y μ=>match x with
 |.int i=>(zP μ y).bind λkvs=>some (.bl (zHc kvs i).isSome,μ)
 |_=>none
@[simp] def zwf:G2:=λx y μ=>match x with
 |.int i=>(zP μ y).bind λkvs=>some (.bl (!(zHc kvs i).isSome),μ)
 |_=>none
def z1t{pins:List (yb×Yw)}{s:yd}{σ:L2.St}{H:Hp}{p:yb}{vs:List (Key×V)}{k:Key}{u:Value}{A:yJ}{E:Value->yd->Prop}{Q:Value->yd->Prop}(I:Inv X pins σ H s)(e:RdK H p vs)(ry:RelV (kV k) u)
 (h:∀s',Inv X pins σ H s'->Q (.bool (zLm vs k).isSome) s'):yq (yy X.prog X.w) A (Yn .In u (.ref p)) Q E s:=by
 obtain⟨z,hd,us,rel,dd⟩:=zmd I.hok e;refine wpAny_in_of (zsl ry) hd dd.mapOf ?_;rw[<-(rel.val k).sw];exact h _ (I.tok _)
def zgm{K:yt}{ρ:List yb}{H:Hp}{kvs:List (Int×D)}{vs:List (Key×V)}(i:Int)(q1:vs.map (·.1)=kvs.map (λp=>yF p.1))(q2:tf K ρ H (kvs.map (·.2)) (vs.map (·.2))):(zLm vs (yF i)).isSome=(zHc kvs i).isSome:=by
 obtain⟨h1,h2⟩:=z4e i q1 q2
 cases e:zHc kvs i with
 |none=>rw[h2 e];rfl
 |some d=>
  obtain⟨v,ev,_⟩:=h1 d e;rw[ev];rfl
def zas:OpM X (Yn .In) zPv:=by
 refine OpM.of λpins s σ H x y v u Q I rx ry ρ dx dy μ d μ' r1 r2 R e k=>?_;unfold zPv at e
 split at e
 ·rename_i i
  obtain⟨kvs,e1,e⟩:=zf e;cases e;obtain⟨p,vs,rfl,hq,q1,q2⟩:=zoc R r2 e1;cases ry;rw[r1.int_inv]at rx;refine z1t (k:=yF i) I hq rx λs' I'=>⟨.bl _,H,I',rfl,?_⟩
  rw[zgm i q1 q2];exact k ρ H _ Ext.refl R .bl
 ·cases e
def zVi:OpM X (Yn .NotIn) zwf:=by
 refine OpM.of λpins s σ H x y v u Q I rx ry ρ dx dy μ d μ' r1 r2 R e k=>?_;unfold zwf at e
 split at e
 ·rename_i i
  obtain⟨kvs,e1,e⟩:=zf e;cases e;obtain⟨p,vs,rfl,hq,q1,q2⟩:=zoc R r2 e1;cases ry;rw[r1.int_inv]at rx;obtain⟨z,hd,us,rel,dd⟩:=zmd I.hok hq;refine wpAny_notIn_of (zsl (k:=yF i) rx) hd dd.mapOf ⟨.bl _,H,I.tok _,rfl,?_⟩;rw[<-(rel.val (yF i)).sw,zgm i q1 q2];exact k ρ H _ Ext.refl R .bl
 ·cases e
end
section
variable {X:Cx}{a b c e:yz}{es:List yz}{φ ψ χ:FE}{pos:YR}
@[simp] def zot(φ ψ:FE):FG:=λd δ μ=>(φ δ μ).bind λp=>(ψ δ p.2).bind λq=>match p.1,q.1 with
 |.loc n,.int i=>match q.2[n]? with
  |some (.dct kvs)=>bif decide (kvs.length<=1000000) then some (δ,q.2.set n (.dct (zsi kvs i d))) else none
  |_=>none
 |_,_=>none
def zbr:zqv X (λo i v H Q=>∃p vs k,o=.ref p/\i=kV k/\H p=some (.dK vs)/\vs.length<yC/\Q (upd H p (.dK (zKc vs k v)))):=by
 intro pins s σ H o i v ov iv u Q I ro ri rv ⟨p,vs,k,e1,e2,e3,hl,q⟩;subst e1 e2;cases ro;obtain⟨z,hd,us,rel,dd⟩:=z0r I.hok e3;have hz:us.length<=yC:=by rw[<-rel.length];exact z
 have hl':(zKc vs k v).length<=yC:=by have:=zJh vs k v;omega
 refine wpAny_setItem_pairs (hsz:=hz) (zsl ri) dd λh' dd' hs=>⟨_,I.write (x:=p) (e:=p) (by rw[e3];exact xr) (.inl rfl) (λb q hb z=>(hs.2 b hb).trans z) ?_ (show tF X.prog X.w _ h' p (.dK (zKc vs k v)) from⟨hl',hd,_,rel.put k rv,dd'⟩),q⟩
 obtain⟨q,_,_,hq,_⟩:=dd';exact⟨q,hq⟩
def zmm{o i:yz}(ho:ME X o φ)(hi:ME X i ψ)(ha:∀v,assign (.Subscript o i pos) X.env v=(do
 let ov <-YX [v] (yV o X.env)
 let iv <-YX [v,ov] (yV i X.env)
 standAt pos
 YX [v,ov,iv] (setItem ov iv v)
 release [v,ov,iv] []):=by intro _;rfl):MG X (.Subscript o i pos) (zot φ ψ) :=
 mg_of (zyr ho hi zbr ha) λρ δ μ d δ' μ' v σ H Q A q e k=>by
  obtain⟨⟨x,μ1⟩,e1,e⟩:=zf e;obtain⟨⟨y,μ2⟩,e2,e⟩:=zf e;refine⟨ρ,δ,μ,x,μ1,A,e1,λρ1 H1 v1 x1 R1 r1=>?_⟩;refine⟨ρ1,δ,μ1,y,μ2,A.ext x1 R1,e2,λρ2 H2 v2 x2 R2 r2=>?_⟩;dsimp only at e
  split at e
  ·rename_i n j _
   split at e
   ·rename_i kvs hm
    obtain⟨h1,e⟩:=zR e;have h1:=of_decide_eq_true h1;cases e;obtain⟨ad,rfl,hr⟩:=(r1.ext x2).tz;obtain⟨vs,hv,q1,q2⟩:=R2.at_ _ _ _ hr hm;have hmu:Mut (H2 ad):=by rw[hv];trivial
    have hlen:vs.length=kvs.length:=by
     have:=congrArg xq q1;simpa using this
    have hmi:=Ts;refine⟨ad,vs,yF j,rfl,r2.int_inv,hv,by omega,?_⟩;have xx:=x1.trans x2;have R3:=R2.wr (o:=.dK (zKc vs (yF j) v)) (lo:=.dct (zsi kvs j d)) hmu hr ⟨_,zt,zlg kvs vs j d v q1,tf.ext (Ext.wr hmu) (zso (q.ext xx) q1 q2)⟩;exact k ρ2 σ _ (xx.trans (Ext.wr hmu)) (A.ext (xx.trans (Ext.wr hmu)) R3)
   ·cases e
  ·cases e
def zLe(kvs:List (Int×D)):List D:=kvs.map λp =>.int p.1
@[simp] def zZk:GL:=λds μ=>match ds with
 |[x]=>(zP μ x).bind λkvs=>some (.loc μ.length,μ++[.lst (zLe kvs)])
 |_=>none
def z2l{P:yu}{w:yI}{H:Hp}{h:yR}{p:yb}{vs:List (Key×V)}(ok:HOk P w H h)(e:RdK H p vs):∃us ep,KV vs us/\h.DictAt (z7 P w) p us ep:=by
 obtain⟨_,_,us,rel,o,es,ep,h1,h2,h3,h4⟩:=zmd ok e;exact⟨us,ep,rel,o,es,h1,h2,h3,h4⟩
def zli{P:yu}{w:yI}:∀{vs:List (Key×V)} {us:List (Key×Value)} {its:List Value},KV vs us->its.length=us.length->(∀(j:Nat)(v:Value),its[j]?=some v->∃(k:Key)(x:Value),us[j]?=some (k,x)/\(z7 P w).is k v=true)->Vals (vs.map λp=>kV p.1) its
 |[],us,its,r,hl,h=>by
  cases r;have:its=[]:=List.length_eq_zero_iff.mp (by simpa using hl);subst this;exact .nil
 |p::vs,us,its,r,hl,h=>by
  cases r with
  |@cons _ q _ qs hq t=>
   cases its with
   |nil=>simp at hl
   |cons i its=>
    refine .cons ?_ (zli t (by simpa using hl) λj v e=>by
     obtain⟨k,x,h1,h2⟩:=h (j+1) v (by simpa using e);exact⟨k,x,by simpa using h1,h2⟩)
    obtain⟨k,x,h1,h2⟩:=h 0 i rfl;have e:q=(k,x):=by simpa using h1
    have ek:p.1=k:=by rw[hq.1,e]
    show RelV (kV p.1) i;rw[ek]
    cases k with
    |inl n=>
     rcases zX ((z0d P w _ _).symm.trans h2) with ⟨j,t,e1,e2⟩|⟨j,t,e1,e2⟩
     ·cases e1;exact⟨t,e2⟩
     ·cases e1
    |inr n=>
     rcases zX ((z0d P w _ _).symm.trans h2) with ⟨j,t,e1,e2⟩|⟨j,t,e1,e2⟩
     ·cases e1
     ·cases e1;exact⟨t,e2⟩
def zZl(hc:X.calm=true):tV X (.type "list") zZk:=by
 refine tV.of λpins s σ H xs us Q I r ρ ds μ d μ' r1 R e k=>?_;unfold zZk at e
 split at e
 ·obtain⟨kvs,e1,e⟩:=zf e;cases e;obtain⟨v,rr,rfl,q1,q2⟩:=r1.cons_inv;rw[q2.nil_inv]at r;obtain⟨p,vs,rfl,hq,w1,w2⟩:=zoc R q1 e1;obtain⟨u,rfl,ru⟩:=vals1 r;cases ru;obtain⟨hz,hd,_⟩:=zmd I.hok hq;obtain⟨us',ep,rel,da⟩:=z2l I.hok hq;have hl:=rel.length;refine W.kdl_call (W.kdl_dict hd) (I.ok.hd hc) da (by omega) λh' tk acc' c' kp e2 hi=>?_;obtain⟨hi1,hi2⟩:=hi;have hv:=zli (P:=X.prog) (w:=X.w) (its:=acc'.toList) rel (by simpa using hi1) λj v e=>hi2 j v (by simpa using e)
  have hkv:(vs.map λp=>kV p.1)=(kvs.map λp=>V.int p.1):=by
   have:(vs.map (·.1)).map kV=(kvs.map λp=>(yF p.1:Key)).map kV:=by rw[w1]
   rw[map_map,map_map]at this;exact this
  rw[hkv]at hv
  have hlk:kvs.length=vs.length:=by
   have:=congrArg xq w1;simpa using this.symm
  have hf:=I.fresh;refine⟨.ref s.heap.objs.size,_,I.laid (t':=tk) kp (yh _) (show tF X.prog X.w _ h' _ (.lst _) from⟨by simp;omega,acc'.toList,c',hv,by simpa using e2⟩),rfl,k _ _ _ (Ext.push hf) (R.push hf ⟨_,zt,?_⟩) (.loc (zzb R))⟩;have hr:=λρ H=>@zqh X.K ρ H (kvs.map (·.1));simp only[map_map]at hr;exact hr _ _
 ·cases e
end
def Itd(a:yb)(o:Yw)(vs:List (Key×V)):It:=⟨λi H=>H a=some (.frz o (.dK vs))/\i<vs.length,λi H x H'=>H'=H/\∃p,vs[i]?=some p/\x=kV p.1,λi H=>H a=some (.frz o (.dK vs))/\vs.length<=i⟩
def zhm{P:yu}{w:yI}{H:Hp}{h:yR}{a:yb}{o:Yw}{vs:List (Key×V)}{es:Array DictEntry}{ep:Nat}(ok:HOk P w H h)(e:H a=some (.frz o (.dK vs)))(hd:o.data=.dict es ep):∃us,KV vs us/\h.DictAt (z7 P w) a us ep:=by
 obtain⟨h0,_,_,us,rel,o',es',ep',h1,h2,h3,h4⟩:=(show tF P w H h a (.frz o (.dK vs)) from ok a _ e)
 rw[h0]at h1;cases h1;rw[hd]at h3;cases h3;exact⟨us,rel,o,es,h0,h2,hd,h4⟩
def zWo{P:yu}{w:yI}{K:yt}{tg:yz}(a it:yb)(o:Yw)(vs:List (Key×V))(es:Array DictEntry)(ep:Nat)(hd:o.data=.dict es ep):Turn P w K tg (Itd a o vs) [it] it (λi h=>h.IsKeyIter it a i vs.length ep) where
 mem:=by simp
 obj:=λi h st b hb=>by
  have e:b=it:=by simpa using hb
  subst e;obtain⟨o,e,c,d⟩:=st;exact⟨o,e,λv z=>by rw[d]at z;cases z⟩
 keep:=λi h h' st k=>st.at λo e=>k it (by simp) o e
 item:=by
  intro X hP hw hK hc i pins s σ H E I hf st hg;subst hP hw hK;obtain⟨hq,hi⟩:=hg;obtain⟨us,rel,da⟩:=zhm I.hok hq hd;have hl:=rel.length;obtain⟨f0,f1,f2,f3,f4,f5⟩:=hf it (by simp);have hx:us[i]?=some ((us[i]'(by omega)).1,(us[i]'(by omega)).2):=by simp[show i<us.length by omega]
  rw[hl]at st ⊢;refine wpAny_pyNext_dict_item st da hx λkey h' hkey st' sb=>?_;have I1:Inv X pins σ H {s with heap:=h' }:=I.turned (t':=s.toks) (λb o hb e=>(sb.2 b hb).trans e) f0 f1 f3 f4 f5;obtain⟨o',e',c',d'⟩:=id st';have hk:vs[i]?=some vs[i]:=by simp[hi]
  have hkk:(vs[i]).1=(us[i]'(by omega)).1:=by
   have h1:(vs.map (·.1))[i]?=(us.map (·.1))[i]?:=by rw[rel.keys]
   simp only[yn,hk,yG (show i<us.length by omega),Option.map_some,Option.some.injEq]at h1;exact h1
  have rk:RelV (kV (vs[i]).1) key:=by
   rw[hkk];rcases zX ((z0d X.prog X.w _ _).symm.trans hkey) with ⟨j,t,e1,e2⟩|⟨j,t,e1,e2⟩
   ·rw[e1];exact⟨t,e2⟩
   ·rw[e1];exact⟨t,e2⟩
  exact⟨key,rfl,z2p (s:={s with heap:=h' }) e' c' d' (by decide) ⟨kV (vs[i]).1,H,I1,rk,⟨rfl,_,hk,rfl⟩,st',λb hb=>(hf b hb).1⟩⟩
 done:=by
  intro X hP hw hK hc i pins s σ H E I hf st hg;subst hP hw hK;obtain⟨hq,hi⟩:=hg;obtain⟨us,rel,da⟩:=zhm I.hok hq hd;have hl:=rel.length;obtain⟨f0,f1,f2,f3,f4,f5⟩:=hf it (by simp);rw[hl]at st;exact wpAny_pyNext_dict_end (I.ok.hd hc) st da (by simp;omega) λh' eb=>⟨rfl,I.turned (t':=s.toks) (λb o hb e=>eb b o hb e) f0 f1 f3 f4 f5⟩
 self:=λ_ _ _ _ _ st h=>wpAny_pyIter_keyiter st h
section
variable {X:Cx}{a b c e:yz}{es:List yz}{φ ψ χ:FE}{pos:YR}{tg:yz}
def zqw(tl:TE):TI:=λσ H R=>tl σ H λx H1=>∃p vs,x=.ref p/\((H1 p=some (.dK vs)/\∀o,R (Itd p o vs) (upd H1 p (.frz o (.dK vs))))\/∃o,H1 p=some (.frz o (.dK vs))/\R (Itd p o vs) H1)
def zfs{l:yz}{tl:TE}(hl:PE X l tl):PI X tg l (zqw tl):=by
 intro pins s σ H R I h;refine thn (hl pins s σ H _ I h) λv s1 ⟨x,H1,I1,r1,q1⟩=>?_;obtain⟨p,vs,e,q⟩:=q1;subst e;cases r1
 have fin:∀(H2:Hp)(o:Yw),Inv X pins σ H2 s1->H2 p=some (.frz o (.dK vs))->R (Itd p o vs) H2->yq (yy X.prog X.w) X.A (pyIter (.ref p)) (PIE X pins σ tg R) X.xe s1:=λH2 o I2 e2 q2=>by
  obtain⟨h0,hz,hd,us,rel,o',es,ep,h1,h2,h3,h4⟩:=(show tF X.prog X.w H2 s1.heap p (.frz o (.dK vs)) from I2.hok p _ e2)
  rw[h0]at h1;cases h1;have da:s1.heap.DictAt (z7 X.prog X.w) p us ep:=⟨o,es,h0,h2,h3,h4⟩
  refine wpAny_pyIter_dict hd da ?_;refine⟨s1.heap.objs.size,[s1.heap.objs.size],_,_,H2,rfl,I2.kept (t':=s1.toks) λb o e=>ye _ e,zWo p _ o vs es ep h3,⟨_,yx _ rfl,rfl,by rw[rel.length];rfl⟩,λb hb=>?_,q2⟩;have e:b=s1.heap.objs.size:=by simpa using hb
  subst e;exact I2.sM (yh _) (I2.hok.fresh (yh _))
 rcases q with ⟨e1,q⟩|⟨o,e1,q⟩
 ·have hok:=I1.hok p _ e1;obtain⟨hz,hd,us,rel,o,es,ep,h1,h2⟩:=(show tF X.prog X.w H1 s1.heap p (.dK vs) from hok)
  have I2:Inv X pins σ (upd H1 p (.frz o (.dK vs))) {s1 with heap:=s1.heap,toks:=s1.toks }:=by
   refine I1.write (x:=p) (e:=p) (by rw[e1];exact xr) (.inl rfl) (λb u _ e=>e) ⟨o,h1⟩ ?_;exact⟨h1,hz,hd,us,rel,o,es,ep,h1,h2⟩
  exact fin _ o I2 zt (q o)
 ·exact fin H1 o I1 e1 q
@[simp] def zpi(φ:FE):FI:=λδ μ=>(φ δ μ).bind λp=>match p.1 with
 |.loc n=>match p.2[n]? with
  |some (.dct kvs)=>some (zLe kvs,yes,p.2.set n (.dcf kvs))
  |some (.dcf kvs)=>some (zLe kvs,yes,p.2)
  |_=>none
 |_=>none
def zKr{K:yt}{ρ:List yb}{H:Hp}{p:yb}{o:Yw}{vs:List (Key×V)}{kvs:List (Int×D)}(h:H p=some (.frz o (.dK vs)))(q1:vs.map (·.1)=kvs.map (λp=>yF p.1)):sS K (Itd p o vs) ρ H (zLe kvs) yes:=by
 have hlen:vs.length=kvs.length:=by
  have:=congrArg xq q1;simpa using this
 have hkl:(zLe kvs).length=kvs.length:=by simp[zLe]
 refine⟨λρ' H' μ' i x R _ hi=>⟨x.frz _ _ _ h,by rw[hkl]at hi;omega⟩,λρ' H' μ' i x H'' d x' R _ e ⟨y1,q,y2,y3⟩=>⟨y1▸Ext.refl,y1▸R,y1▸?_⟩,λρ' H' μ' x R _=>⟨x.frz _ _ _ h,by rw[hkl];omega⟩⟩;have h1:(vs.map (·.1))[i]?=(kvs.map (λp=>(yF p.1:Key)))[i]?:=by rw[q1]
 rw[yn,yn,y2]at h1;unfold zLe at e;rw[yn]at e
 cases hk:kvs[i]? with
 |none=>rw[hk]at e;cases e
 |some z=>
  rw[hk]at e h1;cases e;have h1:q.1=yF z.1:=by simpa using h1
  rw[y3,h1];exact .int
def zXj(h:ME X a φ):MI X tg a (zpi φ) :=
 z4o (zfs h) λρ δ μ σ H ds ok μ' R A e k=>by
  obtain⟨⟨x,μ1⟩,e1,e⟩:=zf e;refine⟨ρ,δ,μ,x,μ1,A,e1,λρ1 H1 v1 x1 R1 r1=>?_⟩;dsimp only at e
  split at e
  ·split at e
   ·rename_i hm
    cases e;obtain⟨p,rfl,ep⟩:=r1.tz;obtain⟨vs,e3,q1,q2⟩:=R1.at_ _ _ _ ep hm;have hmu:Mut (H1 p):=by rw[e3];trivial
    refine⟨p,vs,rfl,.inl ⟨e3,λo=>?_⟩⟩;exact k ρ1 _ _ (x1.trans (Ext.wr hmu)) (R1.wr hmu ep ⟨o,vs,zt,q1,tf.ext (Ext.wr hmu) q2⟩) (zKr zt q1)
   ·rename_i hm
    cases e;obtain⟨p,rfl,ep⟩:=r1.tz;obtain⟨o,vs,e3,q1,q2⟩:=R1.at_ _ _ _ ep hm;exact⟨p,vs,rfl,.inr ⟨o,e3,k ρ1 _ _ x1 R1 (zKr e3 q1)⟩⟩
   ·cases e
  ·cases e
def zfp{prog:yu}{w:yI}{A:yJ}{E:Value->yd->Prop}{s:yd}{Q:Int->yd->Prop}(h:Q 0xFCA86420 {s with toks:=s.toks+1 }):yq (yy prog w) A (pyHash .none) Q E s:=by
 unfold pyHash;have hv:[Yk].any Value.onHeap=false:=rfl;refine ya ?_;rw[cRoomFor,if_neg (by rw[hv];exact yB)];refine yp ?_;refine ya (xa (typeIs_none s) PySem.F.slot_NoneType_hash.lookup ?_);show yq _ _ (if(some (Value.builtin "NoneType.__hash__")==some Yk)=true then _ else _) Q E s;rw[if_neg (by rw[beq_builtin_none];exact yB)];refine ya (xa (typeIs_none s) PySem.F.slot_NoneType_hash.lookup ?_);show yq _ _ (callSpecialIfBoundUnlessNone? .none "__hash__" _ >>= _) Q E s;refine ya (wpAny_callSpecialIfBoundUnlessNone?_slot (typeIs_none s) PySem.F.slot_NoneType_hash (YS PySem.F.slot_NoneType_hash (typeIs_none s) PySem.F.entry_NoneType_hash ?_ (PySem.F.args_NoneType_hash_1 _)));show yq _ _ (do ret (<-mkInt 0xFCA86420)) _ _ s;refine wpAny_ret_mkInt ?_;show yq _ _ (if(decide (-(2:Int)^63<=0xFCA86420)&&decide ((0xFCA86420:Int)<2^63))=true then _ else _) Q E _;rw[if_pos (by decide)];exact yp h
def zmn{i:Int}(h0:0<=i)(h1:i<1000):hashInt i=i:=by
 have e:(i.natAbs%(2^61-1):Nat)=i.natAbs:=Nat.mod_eq_of_lt (by omega)
 have hr:rawHash i=i:=by
  unfold rawHash;dsimp only;rw[if_neg (by omega:¬i<0)];have:((i.natAbs%(2^61-1:Nat):Nat):Int)=i:=by rw[e];omega
  rw[show((i.natAbs:Int)%((2^61-1:Nat):Int))=i by rw[<-Int.natCast_emod];exact this];rw[if_neg (by simp;omega)]
 unfold hashInt;rw[hr,if_neg (by simp;omega)]
def zkk:Key->Bool
 |.inl i=>decide (0<=i/\i<1000)
 |.inr _=>false
def z9h{P:yu}{w:yI}:∀{es:List DictEntry} {us:List (Key×Value)},Pairs (z7 P w) es us->(∀e∈es,∃k,(z7 P w).is k e.key=true/\e.hash=(z7 P w).hash k)->(us.all λq=>zkk q.1)=true->∀e∈es,(e.hash==0xFCA86420)=false
 |_,_,.nil,_,_=>λe he=>by cases he
 |_,_,.cons (kv:=kv) hk hv t,hh,hs=>λe he=>by
  rw[all_cons,yN]at hs;rcases List.mem_cons.mp he with rfl|he
  ·obtain⟨k',h1,h2⟩:=hh e mem_cons_self;have ek:=(z7 P w).inj _ _ _ hk h1;rw[h2,<-ek];have hsm:zkk kv.1=true:=hs.1
   cases hkv:kv.1 with
   |inl i=>
    rw[hkv]at hsm;have hi:=of_decide_eq_true (show decide (0<=i/\i<1000)=true from hsm);show(hashInt i==0xFCA86420)=false;rw[zmn hi.1 hi.2];simp;omega
   |inr x=>rw[hkv]at hsm;cases hsm
  ·exact z9h t (λe he=>hh e (mem_cons_of_mem _ he)) hs.2 e he
def zXs{prog:yu}{w:yI}{A:yJ}{E:Value->yd->Prop}{s:yd}{p:yb}{us:List (Key×Value)}{Q:Value->yd->Prop}(hd:(p==sysModules)=false)(dd:s.heap.DictOf (z7 prog w) p us)(hs:(us.all λq=>zkk q.1)=true)
 (h:Q (.bool false) {s with toks:=s.toks+1 }):yq (yy prog w) A (Yn .In .none (.ref p)) Q E s:=by
 obtain⟨o,es,ep,ho,hx,hdat,hk,hp,hn⟩:=id dd;have hno:=z9h hp (λe he=>hk e (by simpa using he)) hs
 have hpl:placesWithHash es.size (λi=>es[i]?.map (·.hash)) 0xFCA86420=[]:=by
  unfold placesWithHash;rw[List.filter_eq_nil_iff];intro i hi;have hi:i<es.size:=by simpa using hi
  dsimp only;rw[Array.getElem?_eq_getElem hi];have:=hno es[i] (by simp);simpa using this
 show yq _ _ (do return .bool (<-contains (.ref p) .none)) Q E s;refine ya ?_;unfold contains
 try with_reducible refine yY ?_
 refine ya (xa dd.typeIs slot_dict_contains.lookup ?_);show yq _ _ (if(some (Value.builtin "dict.__contains__")==some Yk)=true then _ else _) _ E s;rw[if_neg (by rw[beq_builtin_none];exact yB)];refine ya (wpAny_callSpecialUnlessNone?_slot (name:=Str.ofString "__contains__") dd.typeIs slot_dict_contains (YS slot_dict_contains dd.typeIs entry_dict_contains ?_ (args_dict_contains _ _)));show yq _ _ (dictGet p .none >>= _) _ _ s;refine ya ?_;unfold dictGet
 try with_reducible refine yY ?_
 refine ya (zfp (ya ?_));unfold dictFind
 try with_reducible refine yY ?_
 refine ya (wpAny_dictEntries (s:={s with toks:=s.toks+1 }) ho hdat ?_);dsimp only;rw[hpl];rw[if_pos (by rfl)];unfold dictWalkPlain;refine ya ?_;rw[List.forIn_nil];refine yp ?_;refine yp (yp ?_);show yq _ _ (Builtin.Dict.pendingKey? p .none >>= _) _ _ _;exact ya (wpAny_pendingKey_other hd (yp ⟨_,rfl,xH (yp h)⟩))
@[simp] def zAk:G2:=λx y μ=>match x with
 |.int i=>(zP μ y).bind λkvs=>some (.bl (zHc kvs i).isSome,μ)
 |.non=>(zP μ y).bind λkvs=>bif kvs.all (λp=>decide (0<=p.1/\p.1<1000)) then some (.bl false,μ) else none
 |_=>none
def zgn:OpM X (Yn .In) zAk:=by
 refine OpM.of λpins s σ H x y v u Q I rx ry ρ dx dy μ d μ' r1 r2 R e k=>?_;unfold zAk at e
 split at e
 ·rename_i i
  exact zas pins s σ H x y v u Q I rx ry ⟨ρ,.int i,dy,μ,d,μ',r1,r2,R,e,k⟩
 ·obtain⟨kvs,e1,e⟩:=zf e;obtain⟨hsm,e⟩:=zR e;cases e;obtain⟨p,vs,rfl,hq,q1,q2⟩:=zoc R r2 e1;cases ry;rw[r1.tH]at rx;cases rx;obtain⟨z,hd,us,rel,dd⟩:=zmd I.hok hq;refine zXs hd dd ?_ ⟨.bl false,H,I.tok _,rfl,k ρ H _ Ext.refl R .bl⟩;have e1:(us.all λq=>zkk q.1)=(us.map (·.1)).all zkk:=by rw[List.all_map];rfl
  rw[e1,<-rel.keys,q1,List.all_map];exact hsm
 ·cases e
end
section
variable {prog:yu}{w:yI}{A:yJ}{E:Value->yd->Prop}{s:yd}
def zHn:typeLookup (.type "list_reverseiterator") "__len__"=pure none:=by rw[typeLookup_type,builtinLookup_eq_fast];kernel_rfl
def zdq:typeLookup (.type "list_reverseiterator") "__length_hint__"=pure (some (.builtin "list_reverseiterator.__length_hint__")):=by rw[typeLookup_type,builtinLookup_eq_fast];kernel_rfl
def ztq{r:yb}{Q:Bool->yd->Prop}(hT:s.TypeIs (.ref r) "list_reverseiterator")(h:Q false s):yq (yy prog w) A (Builtin.List.listLengthHint (.ref r)) Q E s:=by
 unfold Builtin.List.listLengthHint;refine ya (xa hT zHn ?_);show yq _ _ (specialOf (yH r) (Str.ofString "__length_hint__") >>= _) _ _ _;refine ya (xa hT zdq ?_);generalize hid:("list_reverseiterator.__length_hint__":String)=id0
 wp_delta
 rw[show splitId id0=some ("list_reverseiterator","__length_hint__") from by subst hid;decide +kernel];subst hid;refine ya (wpAny_isInstance (T:="list_reverseiterator") (b:=true) hT (by rw[isSubtype_type];kernel_rfl) ?_);refine wpAny_ite_split (λhab=>absurd hab (by decide)) (λ_=>?_);refine wpAny_ite_split (λ_=>?_) (λhab=>absurd (by decide +kernel) hab);refine wpAny_ite_split (λhab=>absurd hab (by decide +kernel)) (λ_=>?_);exact yp h
def z3q{I l:yb}{items:Array Value}{Q:Value->yd->Prop}(hh:A.handled=none)(hne:l≠I)(hI:s.heap.IsRevIter I l ((items.size:Int)-1))(hl:s.heap.IsList l items)(hn:items.size<=yC)
 (hQ:∀h' tk acc' c',(∀b o,b≠I->s.heap.get? b=some o->h'.get? b=some o)->h'.get? s.heap.objs.size=some {cls:=.type "list",dict:=none,data:=.seq acc' c',slots:=#[]}->ItemsOf (λi v=>items[items.size-1-i]?=some v) acc' items.size->Q (.ref s.heap.objs.size) {s with heap:=h',toks:=tk }) :
 yq (yy prog w) A (call (.type "list") [.ref I]) Q E s:=by
 have hIlt:I<s.heap.objs.size:=by obtain⟨o,ho,_⟩:=hI;exact ym ho
 have hllt:l<s.heap.objs.size:=by obtain⟨o,ho,_⟩:=hl;exact ym ho
 refine callType_codes (Q₁:=λobj s₁=>obj=.ref s.heap.objs.size/\s₁ = {s with heap:=s.heap.push {cls:=.type "list",data:=.seq #[]}}) PySem.F.called_list (PySem.F.typeCall_list_1 _) PySem.F.entry_list_init (code_list_new _ ⟨rfl,rfl⟩) λobj s₁ h₁=>?_;obtain⟨rfl,rfl⟩:=h₁;generalize hS0:s.heap.objs.size=S;have hSI:S≠I:=by rw[<-hS0];exact Ym hIlt
 have hSl:S≠l:=by rw[<-hS0];exact Ym hllt
 have hS:(s.heap.push {cls:=.type "list",data:=.seq #[]}).get? S=some {cls:=.type "list",data:=.seq #[]}:=by rw[<-hS0];exact yx _ rfl
 refine⟨⟨_,hS,rfl⟩,PySem.F.args_list_init_2 _ _,?_⟩;have oldS:∀b o,s.heap.get? b=some o->b≠S:=λb o e=>by rw[<-hS0];exact yw (ym e)
 have W:=(Walks.listRev (prog:=prog) (w:=w) (A:=A.in1.in1) hh I l hne items).toS;show yq _ _ (do let old <-Builtin.List.listItems (.ref S);Builtin.List.listUpdate (.ref S) (λ_=>#[]);letGo old.toList.reverse;YQ (.ref S) (.ref I) .none) _ _ _;refine ya ?_;unfold Builtin.List.listItems;refine ya (wpAny_seqItems hS rfl (yp ?_));show yq _ _ (updateSeq S (λ_=>#[]) >>= λ_=>letGo (#[]:Array Value).toList.reverse >>= λ_=>YQ (.ref S) (.ref I) .none) _ _ _;refine ya (wpAny_updateSeq hS rfl ?_);have hS2:=Yi (Obj.mapSeq (λ_=>(#[]:Array Value))) hS rfl;generalize hh2:(s.heap.push {cls:=.type "list",data:=.seq #[]}).update S (Obj.mapSeq (λ_=>(#[]:Array Value)))=h2 at hS2 ⊢
 have k2:∀b o,s.heap.get? b=some o->h2.get? b=some o:=λb o e=>by
  rw[<-hh2];exact(Ye _ _ (yM (oldS b o e))).trans (ye _ e)
 refine ya (wpAny_letGo ?_);have hI2:h2.IsRevIter I l ((items.size:Int)-1):=hI.at λo e=>k2 _ _ e;have hl2:h2.IsList l items:=hl.at λo e=>k2 _ _ e;unfold YQ;refine ya (wpAny_typeOf (T:="list_reverseiterator") (Heap.IsRevIter.typeIs (s:={s with heap:=h2 }) hI2) ?_);have h1:Builtin.List.listSameRef (.ref S) (.ref I)=false:=by simp[Builtin.List.listSameRef,hSI]
 have h2':(YD "list_reverseiterator" == YD "list")=false:=by decide
 have h3':(YD "list_reverseiterator" == YD "tuple")=false:=by decide
 simp only[h1,h2',h3',Bool.or_false,Bool.false_eq_true,if_false];refine ya (wpAny_pyIter_revIter (s:={s with heap:=h2 }) hI2 ?_);refine ya (yY (ztq (Heap.IsRevIter.typeIs (s:={s with heap:=h2 }) hI2) ?_));refine wpAny_ite_split (λhab=>absurd hab (by decide)) (λ_=>?_)
 have hSf:S∉[I,l]:=by
  simp only[mem_cons,not_mem_nil,or_false,not_or];exact⟨hSI,hSl⟩
 refine yp ⟨plainId_quiet PySem.F.plain_extend_loop _,codeAny_extend_loopS W hn S hSf _ items.size 0 _ #[] _ rfl (Yo _) ⟨Yo _,by simpa using hI2,hl2⟩ hS2 (ItemsOf.nil _) λs' acc' c' hm hS' hacc=>?_⟩;rw[Moved.eq_with hm];refine⟨rfl,?_⟩;rw[<-hS0]at hS' ⊢;refine hQ s'.heap s'.toks acc' c' (λb o hb e=>hm.heap b o (λhmem=>?_) (k2 b o e)) hS' hacc;rcases List.mem_cons.mp hmem with e'|hmem
 ·exact oldS b o e e'
 ·exact hb (List.mem_singleton.mp hmem)
end
section
variable {X:Cx}{a b c e:yz}{es:List yz}{φ ψ χ:FE}{pos pos2 p1 p2:YR}
def zBq(φ:FE):FE:=λδ μ=>(φ δ μ).bind λp=>match p.1 with
 |.loc n=>match p.2[n]? with
  |some (.lst ds)=>some (.loc p.2.length,p.2++[.lst ds.reverse])
  |_=>none
 |_=>none
def z4p{items:List Value}{vs:List V}{its:List Value}(rv:Vals vs items)(hl:its.length=items.length)(h:∀(j:Nat)(v:Value),its[j]?=some v->items[items.length-1-j]?=some v):Vals vs.reverse its:=by
 have e:its=items.reverse:=by
  refine ext_getElem? λj=>?_
  by_cases hj:j<its.length
  ·have h1:its[j]?=some its[j]:=by simp[hj]
   rw[List.getElem?_reverse (by omega),h j _ h1,h1]
  ·rw[Yp (by omega),Yp (by simp;omega)]
 rw[e];exact rv.reverse
def zgo{K:yt}{ρ:List yb}{H:Hp}:∀{ds:List D} {vs:List V},tf K ρ H ds vs->tf K ρ H ds.reverse vs.reverse
 |[],vs,r=>by rw[r.nil_inv];exact .nil
 |d::ds,vs,r=>by
  obtain⟨v,q,rfl,h1,h2⟩:=r.cons_inv;rw[List.reverse_cons,List.reverse_cons];exact(zgo h2).append (.cons h1 .nil)
def zIv(X:Cx)(tl:TE):TE:=λσ H Q=>tl σ H λx H1=>∃a ys,x=.ref a/\SqL X.K H1 a ys/\∀q,H1 q=none->Q (.ref q) (upd H1 q (.lst ys.reverse))
def zZs{l:yz}{tl:TE}(hm1:X.mg "list"=none)(hv1:yL "list"=some (.type "list"))(hm2:X.mg "reversed"=none)(hv2:yL "reversed"=some (.type "reversed"))(hl:PE X l tl)(hc:X.calm=true)(hg1:Gl X "list")(hg2:Gl X "reversed")
 (he:yf [l] X.env=(false,yV l X.env)::yf [] X.env) (he2:yf [.Call (.Name "reversed" p2) [l] [] pos2] X.env=(false,yV (.Call (.Name "reversed" p2) [l] [] pos2) X.env)::yf [] X.env) :
 PE X (.Call (.Name "list" p1) [.Call (.Name "reversed" p2) [l] [] pos2] [] pos) (zIv X tl):=by
 intro pins s σ H Q I h;refine YU (zFh I hg1 hm1 hv1 ?_ (by decide) (by decide));refine Yv ?_ he2 rfl;rw[he2];show yq _ _ (spliced ((false,yV (.Call (.Name "reversed" p2) [l] [] pos2) X.env)::yZ pos (yf [] X.env))) _ _ s;refine Calls.spliced_cons ?_;refine YU (zFh I hg2 hm2 hv2 ?_ (by decide) (by decide))
 refine Yv (thn (zNf hl zXi he pos2 pins s σ H (λvs H1=>match vs with
  |[x]=>∃a ys,x=.ref a/\SqL X.K H1 a ys/\∀q,H1 q=none->Q (.ref q) (upd H1 q (.lst ys.reverse))
  |_=>False) I h) λus s1 ⟨vs,H1,I1,r1,q1⟩=>?_) he rfl
 dsimp only at q1
 split at q1
 case h_2=>exact q1.elim
 obtain⟨a,ys,e,hq,q⟩:=q1;subst e
 cases r1 with
 |cons r rr=>
  cases rr;cases r;obtain⟨its,rv,pl,hz⟩:=I1.list hq;have hlen:=rv.length;refine call_reversed_list pl.isList ?_;refine Calls.spliced_nil ?_;have I2:Inv X pins σ H1 {s1 with heap:=s1.heap.push (revObj a ((its.toArray.size:Int)-1))}:=I1.kept (t':=s1.toks) λb o e=>ye _ e;have halt:a<s1.heap.objs.size:=by obtain⟨_,_,e,_⟩:=pl;exact ym e
  have hf:∀b∈[s1.heap.objs.size],zQm X pins H1 b:=λb hb=>by
   have e:b=s1.heap.objs.size:=by simpa using hb
   subst e;exact I1.sM (yh _) (I1.hok.fresh (yh _))
  refine z3q (s:={s1 with heap:=s1.heap.push (revObj a ((its.toArray.size:Int)-1))}) (I.ok.hd hc) (yw halt) ⟨_,yx _ rfl,rfl,rfl⟩ (pl.isList.push _) (by simp;omega) λh' tk acc' c' kp e hi=>?_;obtain⟨hi1,hi2⟩:=hi;have hv:=z4p (its:=acc'.toList) rv (by simpa using hi1) λj v e=>by simpa using hi2 j v (by simpa using e)
  refine⟨.ref _,_,zTd (t':=tk) I2 hf (λb o hb e=>kp b o (by simpa using hb) e) (yh _) (show tF X.prog X.w _ h' _ (.lst ys.reverse) from⟨by simp;omega,acc'.toList,c',hv,by simpa using e⟩),rfl,q _ (I2.hok.fresh (yh _))⟩
def z4r(hm1:X.mg "list"=none)(hv1:yL "list"=some (.type "list"))(hm2:X.mg "reversed"=none)(hv2:yL "reversed"=some (.type "reversed"))(h:ME X e φ)(hc:X.calm=true:=by rfl)(hg1:Gl X "list":=by rfl)(hg2:Gl X "reversed":=by rfl)
 (he:yf [e] X.env=(false,yV e X.env)::yf [] X.env:=by rfl) (he2:yf [.Call (.Name "reversed" p2) [e] [] pos2] X.env=(false,yV (.Call (.Name "reversed" p2) [e] [] pos2) X.env)::yf [] X.env:=by rfl) :
 ME X (.Call (.Name "list" p1) [.Call (.Name "reversed" p2) [e] [] pos2] [] pos) (zBq φ) :=
 zud (zZs hm1 hv1 hm2 hv2 h hc hg1 hg2 he he2) λρ δ μ σ H d μ' Q A e k=>by
  obtain⟨⟨x,μ1⟩,e1,e⟩:=zf e;refine⟨ρ,δ,μ,x,μ1,A,e1,λρ1 H1 v x1 R1 r1=>?_⟩;dsimp only at e
  split at e
  ·split at e
   ·rename_i hm
    cases e;obtain⟨p,rfl,ep⟩:=r1.tz;obtain⟨vs,e3,q⟩:=R1.at_ _ _ _ ep hm;exact⟨p,vs,rfl,SqL.of e3,λq' hq'=>k _ _ _ (x1.trans (Ext.push hq')) (R1.push hq' ⟨_,zt,(zgo q).ext (Ext.push hq')⟩) (.loc (zzb R1))⟩
   ·cases e
  ·cases e
end
section
variable {X:Cx}
end
section
variable {prog:yu}{w:yI}{A:yJ}{E:Value->yd->Prop}{s:yd}
end
section
variable {X:Cx}{e:yz}{te:TE}{φ:FE}{stp:yz}{ts:TO}{pos p2:YR}
end
section
variable {prog:yu}{w:yI}{A:yJ}{E:Value->yd->Prop}{s:yd}
end
section
variable {X:Cx}
end
section
variable {X:Cx}
def zGh(ns:List Int):List Int:=ns.mergeSort λa b=>decide (a<=b)
def zbg:GL:=λds μ=>match ds with
 |[.loc n]=>match μ[n]? with
  |some (.lst xs)=>(zwi xs).bind λns=>bif decide (ns.length<64) then some (.loc μ.length,μ++[.lst ((zGh ns).map .int)]) else none
  |_=>none
 |_=>none
def zGf(hc:X.calm=true):tV X (.builtin "sorted") zbg:=by
 refine tV.of λpins s σ H xs us Q I r ρ ds μ d μ' r1 R e k=>?_;unfold zbg at e
 split at e
 ·split at e
  ·rename_i hm
   obtain⟨ns,e2,e⟩:=zf e;obtain⟨hp,e⟩:=zR e;have hp:=of_decide_eq_true hp;cases e;rw[z4h e2]at hm;obtain⟨v,rr,rfl,q1,q2⟩:=r1.cons_inv;obtain⟨a,rfl,ea⟩:=q1.tz;obtain⟨vs,e3,q3⟩:=R.at_ _ _ _ ea hm;rw[zjm q3]at e3;rw[q2.nil_inv]at r;obtain⟨u,rfl,ru⟩:=vals1 r;cases ru;obtain⟨its,rv,pl,hz⟩:=I.list (SqL.of (K:=X.K) e3);have hl:its.length=ns.length:=by rw[<-rv.length];simp
   refine sorted_ints pl.isList (zOi rv) (by omega) λout ns' a1 a2 a3=>?_;have hms:ns'=zGh ns:=zsd (a2.trans (mergeSort_perm _ _).symm) a3 (zKh _);subst hms;obtain⟨e0,he⟩:=sortedAll_at s.heap its out;have hf:=I.hok.fresh (Nat.le_succ s.heap.objs.size);have hlen:(zGh ns).length=ns.length:=a2.length_eq;refine⟨.ref (s.heap.objs.size+1),_,I.laid (t':=s.toks) (o:=.lst ((zGh ns).map V.int)) (λ_ _=>sortedAll_old) (Nat.le_succ _) ?_,rfl,k _ _ _ (Ext.push hf) (R.push hf ⟨_,zt,zqh⟩) (.loc (zzb R))⟩;exact⟨by simp;rw[Yh];omega,out.toList,e0,zSe a1,by simpa using he⟩
  ·cases e
 ·cases e
end
section
variable {X:Cx}{a b c e:yz}{es:List yz}{φ ψ χ:FE}{pos p2:YR}
end
section
variable {prog:yu}{w:yI}{A:yJ}{E:Value->yd->Prop}{s:yd}
def z6i{it t:yb}{items:Array Value}(hne:t≠it):∀(n i:Nat)(s:yd)(Q:List Value->yd->Prop),s.heap.IsListIter it t i->s.heap.IsList t items->i+n<=items.size ->
 (∀h',h'.IsListIter it t (i+n)->Yq it s.heap h'->Q ((items.toList.drop i).take n) {s with heap:=h' })->yq (yy prog w) A (draw (.ref it) n) Q E s
 |0,i,s,Q,hit,_,_,hQ=>by
  show yq _ _ (pure []) Q E s;exact yp (by simpa using hQ s.heap hit (Heap.SameBut.refl ..))
 |n+1,i,s,Q,hit,ht,hle,hQ=>by
  have hlt:i<items.size:=by omega
  show yq _ _ (pyNext (.ref it) >>= _) Q E s;refine ya (wpAny_pyNext_list_item hit ht (x:=items[i]) (by simp[hlt]) λh₁ hit₁ hs₁=>?_);refine ya (yY (z6i hne n (i+1) _ _ hit₁ (ht.extBut hs₁.extBut hne) (by omega) λh₂ hit₂ hs₂=>yp ?_));have hd:items.toList.drop i=items[i]::items.toList.drop (i+1):=by simp[YY,hlt]
  have:=hQ h₂ (by rw[show i+(n+1)=i+1+n by omega];exact hit₂) (hs₁.trans hs₂);rw[hd,List.take_succ_cons]at this;exact this
def zug{t:yb}{items:Array Value}{Q:List Value->yd->Prop}(hh:A.handled=none)(ht:s.heap.IsList t items)
 (hQ:∀h',Heap.ExtBut s.heap.objs.size s.heap h'->Q items.toList {s with heap:=h' }):yq (yy prog w) A (unpackItems (.ref t) items.size none) Q E s:=by
 have hlt:t≠s.heap.objs.size:=by obtain⟨o,ho,_⟩:=ht;exact yw (ym ho)
 unfold unpackItems;refine ya ?_
 ·unfold notIterableAtAll;refine ya (xa ht.typeIs PySem.slot_list_iter.lookup ?_);refine yp ?_;simp only[Bool.false_eq_true,if_false];refine ya (yY (wpAny_pyIter_list ht ?_));refine ya (yY (z6i hlt items.size 0 _ _ ⟨_,yx _ rfl,rfl,rfl⟩ (ht.push _) (by omega) λh₁ hit₁ hs₁=>?_))
  have hall:List.take items.size (List.drop 0 items.toList)=items.toList:=by
   rw[List.drop_zero];exact List.take_of_length_le (by simp)
  rw[hall];rw[if_neg (by simp)];have ht₁:h₁.IsList t items:=(ht.push _).extBut hs₁.extBut hlt;refine ya (yY (wpAny_pyNext_list_end hh hit₁ ht₁ (by simp) λh₂ he₂=>?_));simp only[Option.isSome_none,Bool.false_eq_true,if_false];refine yp (hQ h₂ λb o hb e=>he₂ b o hb (hs₁.extBut b o hb (ye _ e)))
def zqg{env:Env}{elts:List yz}{x1}{pos:YR}{t:yb}{items:Array Value}{Q:Unit->yd->Prop}(hh:A.handled=none)(ht:s.heap.IsList t items)
 (hn:(Yg elts env).length=items.size) (hstar:(Yg elts env).findIdx? (·.1)=none)
 (h:∀h',Heap.ExtBut s.heap.objs.size s.heap h'->yq (yy prog w) A (assignInOrder ((Yg elts env).map (·.2)) items.toList) Q E {s with heap:=h' }) :
 yq (yy prog w) A (assign (.Tuple elts x1 pos) env (.ref t)) Q E s:=by
 rw[assign_Tuple];refine ya (Yx ?_);unfold unpack;rw[hn,hstar];exact ya (yY (zug hh ht h))
end
section
variable {X:Cx}{pos:YR}
def zyv(K:yt)(n:Nat)(t:TGs):TG:=λv σ H Q=>∃a xs,v=.ref a/\SqL K H a xs/\xs.length=n/\t xs σ H Q
def zos{es:List yz}{k:Nat}{t:TGs}{n:Nat}(hc:X.calm=true)(h:PGs X es t)
 (hn:(Yg es X.env).length=n:=by rfl) (hst:(Yg es X.env).findIdx? (·.1)=none:=by rfl):PG X (.Tuple es k pos) (zyv X.K n t):=by
 intro pins s σ H v u Q I r hw;obtain⟨a,xs,e1,hq,hl,hw⟩:=hw;subst e1;cases r;obtain⟨its,rv,pl,hz⟩:=I.list hq;refine zqg (I.ok.hd hc) pl.isList (by simp[hn,<-hl,rv.length]) hst λh' hx=>?_;have I1:Inv X pins σ H {s with heap:=h' }:=I.kept (t':=s.toks) λb o e=>hx b o (yw (ym e)) e;exact h pins _ σ H xs _ Q I1 (by simpa using rv) hw
def gTL(n:Nat)(gs:FGs):FG:=λd δ μ=>match d with
 |.loc l=>match μ[l]? with
  |some (.lst ds)=>bif ds.length==n then gs ds δ μ else none
  |_=>none
 |_=>none
def z7s{es:List yz}{k n:Nat}{gs:FGs}(h:MGs X es gs)(hc:X.calm=true:=by rfl)(hn:(Yg es X.env).length=n:=by rfl)(hst:(Yg es X.env).findIdx? (·.1)=none:=by rfl):MG X (.Tuple es k pos) (gTL n gs) :=
 mg_of (zos hc h hn hst) λρ δ μ d δ' μ' v σ H Q A q e k=>by
  unfold gTL at e
  split at e
  ·split at e
   ·rename_i hm
    obtain⟨h1,e⟩:=zR e;obtain⟨a,rfl,ea⟩:=q.tz;obtain⟨vs,e3,q2⟩:=A.hp.at_ _ _ _ ea hm;exact⟨a,vs,rfl,SqL.of e3,by rw[<-q2.length];exact beq_iff_eq.mp h1,ρ,δ,μ,_,δ',μ',A,q2,e,k⟩
   ·cases e
  ·cases e
end
section
variable {X:Cx}{a b c e:yz}{φ ψ χ:FE}{pos:YR}
end
section
variable {X:Cx}{e:yz}{te:TE}{φ:FE}{stp:yz}{ts:TO}{pos p2:YR}
end
section
variable {X:Cx}{a b c e:yz}{es:List yz}{φ ψ χ:FE}{pos:YR}
end
end M
namespace M
open PySem PyProof.Rows
section
variable {prog:yu}{w:yI}{A:yJ}{E:Value->yd->Prop}{s:yd}
end
end M
namespace M
open PySem PySem.Spec PyProof.Rows L2
section
variable {X:Cx}{pins:List (yb×Yw)}{σ:L2.St}{H:Hp}{s s':yd}
end
section
variable {X:Cx}{a b c e:yz}{es:List yz}{φ ψ χ:FE}{pos pos2 p1 p2:YR}
end
section
variable {prog:yu}{w:yI}{A:yJ}{E:Value->yd->Prop}{s:yd}{T:String}{r d:yb}{n:Nat}{P:Nat->Value->Prop}{OK:yR->Prop}
def zOv(s:yd)(P:Nat->Value->Prop)(n:Nat):Result->yd->Prop:=λrr s'=>∃h' tk acc' c',rr=.ok (.ret (.ref s.heap.objs.size))/\s' = {s with heap:=h',toks:=tk }/\(∀b o,s.heap.get? b=some o->h'.get? b=some o)/\h'.get? s.heap.objs.size=some {cls:=.type "list",dict:=none,data:=.seq acc' c',slots:=#[]}/\ItemsOf P acc' n
def zwl{Q:List Value->yd->Prop}(K:W.KdlSrc prog w T r d n P OK)(hh:A.handled=none)(hok:OK s.heap)(hn:n<=yC)
 (h:∀h' tk acc',(∀b o,s.heap.get? b=some o->h'.get? b=some o)->s.heap.objs.size<=h'.objs.size->ItemsOf P acc' n->Q acc'.toList {s with heap:=h',toks:=tk }) :
 yq (yy prog w) A (collect (.ref r)) Q E s:=by
 have hlt:=K.there _ hok;unfold collect;refine ya (wpAny_runValue (xz F.entry_proto_collect ?_));rw[xf F.plain_proto_collect _];show yq _ A.in1 (newList [] >>= λl=>again (.builtin "list.__iadd__" ⟨[l,.ref r],[]⟩)) _ _ s;refine ya (xb ?_);have hS:(s.heap.push {cls:=.type "list",data:=.seq ([]:List Value).toArray }).get? s.heap.objs.size=some {cls:=.type "list",data:=.seq #[]}:=yx _ rfl;refine yp ⟨plainId_quiet F.plain_list_iadd _,YO (xz (R:=zOv s P n) F.entry_list_iadd ?_) λrr s' ⟨h',tk,acc',c',e1,e2,hk,hS',hacc⟩=>?_⟩
 ·rw[xf F.plain_list_iadd _];show yq _ A.in1 (YQ (.ref s.heap.objs.size) (.ref r) (.ref s.heap.objs.size)) _ _ _;exact W.kdl_extend (R:=zOv s P n) (A:=A) (s:={s with heap:=s.heap.push {cls:=.type "list",data:=.seq ([]:List Value).toArray }}) K hh (K.keep _ _ hok λb _ o e=>ye _ e) _ (Ym hlt.1) (Ym hlt.2) _ _ hS (λh' tk acc' c' hk hS' hacc=>⟨h',tk,acc',c',rfl,rfl,λb o e=>hk b o (yw (ym e)) (ye _ e),hS',hacc⟩) hn
 ·subst e1 e2;dsimp only;refine ya (wpAny_load hS' ?_);exact yp (h h' tk acc' hk (YN (ym hS')) hacc)
def zjn{ks:List Int}{Q:Value->yd->Prop}(K:W.KdlSrc prog w T r d n P OK)(hh:A.handled=none)(hok:OK s.heap)(h64:n<64)(hint:∀acc:Array Value,ItemsOf P acc n->IntsAre acc.toList ks)(h:∀p s',zLu s ks p s'->Q (.ref p) s') :
 yq (yy prog w) A (call (.builtin "sorted") [.ref r]) Q E s:=by
 refine Calls.call_function_entry kind_sorted plain_sorted entry_sorted (args_sorted1 _) ?_;unfold Builtin.«sorted»;refine ya (m:=checkCount "sorted" 1 1 _) (yp ?_);refine ya (zwl (A:=A.in1) K hh hok (yA (YN h64) (by rw[Yh];decide)) λh1 tk acc hk hsz hacc=>?_);have hI:=hint acc hacc
 have hl:acc.toList.length<64:=by
  have:=hacc.1;simp only[Array.length_toList];omega
 refine ya (wpAny_newList ?_ (by rw[Yh];omega));have hnew:(h1.push (seqObj "list" acc.toList.toArray 0)).get? h1.objs.size=some (seqObj "list" acc.toList.toArray 0):=yx _ rfl;refine ya (yY (YS slot_list_sort ⟨_,hnew,rfl⟩ entry_list_sort (list_sort_tree hnew hI (by simp at hl ⊢;omega) λout ns q1 q2 q3=>⟨_,rfl,?_⟩) (args_list_sort _)));obtain⟨e,he⟩:=sortedHeap_at (out:=out) hnew;refine yp ⟨_,rfl,h _ _ ⟨out,ns,e,he,q1,q2,q3,hsz,λb ob eb=>?_,rfl,rfl⟩⟩;have hb1:=hk _ _ eb;have hlt1:b<h1.objs.size:=ym hb1;show(sortedHeap (h1.push (seqObj "list" acc.toList.toArray 0)) h1.objs.size acc.toList out).get? b=some ob;rw[sortedHeap_old (yw hlt1) (by rw[size_push'];exact Nat.lt_succ_of_lt hlt1)];exact ye _ hb1
end
section
variable {X:Cx}
def z8f:GL:=λds μ=>match ds with
 |[x]=>(zP μ x).bind λkvs=>bif decide (kvs.length<64) then some (.loc μ.length,μ++[.lst ((zGh (kvs.map (·.1))).map .int)]) else none
 |_=>none
def zge(hc:X.calm=true):tV X (.builtin "sorted") z8f:=by
 refine tV.of λpins s σ H xs us Q I r ρ ds μ d μ' r1 R e k=>?_;unfold z8f at e
 split at e
 ·obtain⟨kvs,e1,e⟩:=zf e;obtain⟨h64,e⟩:=zR e;have h64:=of_decide_eq_true h64;cases e;obtain⟨v,rr,rfl,q1,q2⟩:=r1.cons_inv;rw[q2.nil_inv]at r;obtain⟨p,vs,rfl,hq,w1,w2⟩:=zoc R q1 e1;obtain⟨u,rfl,ru⟩:=vals1 r;cases ru;obtain⟨hz,hd,_⟩:=zmd I.hok hq;obtain⟨us',ep,rel,da⟩:=z2l I.hok hq;have hl:=rel.length
  have hkv:(vs.map λp=>kV p.1)=((kvs.map (·.1)).map V.int):=by
   have:(vs.map (·.1)).map kV=(kvs.map λp=>(yF p.1:Key)).map kV:=by rw[w1]
   rw[map_map,map_map]at this;rw[map_map];exact this
  have hlk:kvs.length=vs.length:=by
   have:=congrArg xq w1;simpa using this.symm
  refine zjn (ks:=kvs.map (·.1)) (W.kdl_dict hd) (I.ok.hd hc) da (by omega) (λacc hi=>?_) λq s' ⟨out,ns,e',h1,h2,h3,h4,h5,h6,h7,h8⟩=>?_
  ·obtain⟨hi1,hi2⟩:=hi;have hv:=zli (P:=X.prog) (w:=X.w) (its:=acc.toList) rel (by simpa using hi1) λj v e=>hi2 j v (by simpa using e);rw[hkv]at hv;exact zOi hv
  ·have hms:ns=zGh (kvs.map (·.1)):=zsd (h3.trans (mergeSort_perm _ _).symm) h4 (zKh _);subst hms;have hlen:(zGh (kvs.map (·.1))).length=(kvs.map (·.1)).length:=h3.length_eq;rw[length_map]at hlen;have hf:=I.hok.fresh h5;refine⟨.ref q,_,zlq I h7 h8 h6 h5 (show tF X.prog X.w _ s'.heap _ (.lst ((zGh (kvs.map (·.1))).map V.int)) from⟨by simp;rw[Yh];omega,out.toList,e',zSe h2,by simpa using h1⟩),rfl,k _ _ _ (Ext.push hf) (R.push hf ⟨_,zt,zqh⟩) (.loc (zzb R))⟩
 ·cases e
end
def zGn(K:yt)(c f:yr):Prop:=∀C,yW K yi c=some (some (.ref C))->Cls K C/\TL K C f
def zkm{K:yt}{ρ:List yb}{H:Hp}{f:yr}{d:D}:∀{fs:List (yr×D)} {vs:List (yr×V)},vs.map (·.1)=fs.map (·.1)->tf K ρ H (fs.map (·.2)) (vs.map (·.2))->fs.lookup f=some d->∃v,vs.lookup f=some v/\tm K ρ H d v
 |[],_,_,_,e=>by cases e
 |(g,x)::fs,[],h,_,_=>by cases h
 |(g,x)::fs,(g',y)::vs,h,r,e=>by
  obtain⟨h1,h2⟩:=yc h;have h1:g'=g:=h1;subst h1;obtain⟨v,q,e1,r1,r2⟩:=r.cons_inv;obtain⟨e2,e3⟩:=yc e1;subst e2 e3;rw[lookup_cons]at e ⊢
  cases hb:f==g' with
  |true=>rw[hb]at e;cases e;exact⟨_,rfl,r1⟩
  |false=>rw[hb]at e;exact zkm h2 r2 e
def zDm{f:yr}:∀{fs:List (yr×D)} {vs:List (yr×V)},vs.map (·.1)=fs.map (·.1)->fs.lookup f=none->vs.lookup f=none
 |[],[],_,_=>rfl
 |[],_::_,h,_=>by cases h
 |_::_,[],h,_=>by cases h
 |(g,x)::fs,(g',y)::vs,h,e=>by
  obtain⟨h1,h2⟩:=yc h;have h1:g'=g:=h1;subst h1;rw[lookup_cons]at e ⊢
  cases hb:f==g' with
  |true=>rw[hb]at e;cases e
  |false=>rw[hb]at e;exact zDm h2 e
def zzh(f:yr)(d:D):List (yr×D)->List (yr×D)
 |[]=>[(f,d)]
 |(g,x)::r=>if g=f then(g,d)::r else(g,x)::zzh f d r
def zoo{K:yt}{ρ:List yb}{H:Hp}{f:yr}{d:D}{v:V}(rd:tm K ρ H d v):∀{fs:List (yr×D)} {vs:List (yr×V)},vs.map (·.1)=fs.map (·.1)->tf K ρ H (fs.map (·.2)) (vs.map (·.2)) ->
 (zui f v vs).map (·.1)=(zzh f d fs).map (·.1)/\tf K ρ H ((zzh f d fs).map (·.2)) ((zui f v vs).map (·.2))
 |[],[],_,_=>⟨rfl,.cons rd .nil⟩
 |[],_::_,h,_=>by cases h
 |_::_,[],h,_=>by cases h
 |(g,x)::fs,(g',y)::vs,h,r=>by
  obtain⟨h1,h2⟩:=yc h;have h1:g'=g:=h1;subst h1;obtain⟨v',q,e1,r1,r2⟩:=r.cons_inv;obtain⟨e2,e3⟩:=yc e1;subst e2 e3;unfold zui zzh
  by_cases hg:g'=f
  ·rw[if_pos hg,if_pos hg];exact⟨h,.cons rd r2⟩
  ·rw[if_neg hg,if_neg hg];obtain⟨k1,k2⟩:=zoo rd h2 r2;exact⟨by show g'::_=g'::_;rw[k1],.cons r1 k2⟩
section
variable {X:Cx}{a o e:yz}{es:List yz}{φ:FE}{ψ:FA}{pos apos:YR}{c f m:yr}
@[simp] def zTm(c f:yr)(φ:FE):FE:=λδ μ=>(φ δ μ).bind λp=>match p.1 with
 |.loc n=>match p.2[n]? with
  |some (.ins c' fs)=>bif c'==c then(fs.lookup f).bind λd=>some (d,p.2) else none
  |_=>none
 |_=>none
def zpf(T:zGn X.K c f)(h:ME X a φ)(hb:Yt a f X.env (yV a X.env)=yV a X.env:=by rfl):ME X (.Attribute a f pos) (zTm c f φ) :=
 zud (zEu h hb) λρ δ μ σ H d μ' Q A e k=>by
  obtain⟨⟨x,μ1⟩,e1,e⟩:=zf e;refine⟨ρ,δ,μ,x,μ1,A,e1,λρ1 H1 v x1 R1 r1=>?_⟩;dsimp only at e
  split at e
  ·split at e
   ·rename_i hm
    obtain⟨hc,e3⟩:=zR e;clear e;have hc:=eq_of_beq hc;subst hc;obtain⟨d',e2,e4⟩:=zf e3;cases e4;obtain⟨a,rfl,ea⟩:=r1.tz;obtain⟨C,dx,vs,hn,hH,hk,hv⟩:=R1.at_ _ _ _ ea hm;obtain⟨cl,na⟩:=T C hn;obtain⟨v,hl,rv⟩:=zkm hk hv e2;exact⟨a,C,dx,vs,v,rfl,hH,cl,na,hl,k ρ1 H1 v x1 R1 rv⟩
   ·cases e
  ·cases e
@[simp] def zPp(c f:yr)(φ ψ:FE):FS:=λδ μ=>(ψ δ μ).bind λy=>(φ δ y.2).bind λp=>match p.1 with
 |.loc n=>match p.2[n]? with
  |some (.ins c' fs)=>bif (c'==c)&&decide (fs.length<1000) then some (.next δ (p.2.set n (.ins c (zzh f y.1 fs)))) else none
  |_=>none
 |_=>none
def zpr{value:yz}{χ:FE}{pos':YR}(T:zGn X.K c f)(ha:ME X o φ)(hv:ME X value χ)(hs:xk value (some (.Attribute o f pos')) pos.line X.env=pure false:=by rfl):MS X (.Assign [.Attribute o f pos'] value pos) (zPp c f φ χ) :=
 zIi (zQu ha hv hs) λρ δ μ σ H o E A e k=>by
  obtain⟨⟨y,μ1⟩,e1,e⟩:=zf e;refine⟨ρ,δ,μ,y,μ1,A,e1,λρ1 H1 vy x1 R1 r1=>?_⟩;obtain⟨⟨x,μ2⟩,e2,e⟩:=zf e;refine⟨ρ1,δ,μ1,x,μ2,A.ext x1 R1,e2,λρ2 H2 v x2 R2 r2=>?_⟩;dsimp only at e
  split at e
  ·split at e
   ·rename_i n c' fs hm
    obtain⟨hc,e3⟩:=zR e;clear e;rw[yN]at hc;have hl:=of_decide_eq_true hc.2;have hc:=eq_of_beq hc.1;subst hc;cases e3;obtain⟨a,rfl,ea⟩:=r2.tz;obtain⟨C,dx,vs,hn,hH,hk,hvs⟩:=R2.at_ _ _ _ ea hm;obtain⟨cl,na⟩:=T C hn
    have hlen:vs.length<1000:=by
     have:=congrArg xq hk;rw[length_map,length_map]at this;omega
    refine⟨a,C,dx,vs,rfl,hH,cl,na,hlen,?_⟩;have hmu:Mut (H2 a):=by rw[hH];trivial
    obtain⟨k1,k2⟩:=zoo (f:=f) (r1.ext (x2.trans (Ext.wr (o:=.ins C dx (zui f vy vs)) hmu))) hk (hvs.ext (Ext.wr (o:=.ins C dx (zui f vy vs)) hmu));have R3:=R2.wr (lo:=.ins c' (zzh f y fs)) hmu ea ⟨C,dx,zui f vy vs,hn,zt,k1,k2⟩;exact k ρ2 σ _ (x1.trans (x2.trans (Ext.wr hmu))) ((A.ext x1 R1).ext (x2.trans (Ext.wr hmu)) R3)
   ·cases e
  ·cases e
@[simp] def z4b(c m:yr)(φ:FE)(ψ:FA):FA:=λδ μ=>(φ δ μ).bind λp=>match p.1 with
 |.loc n=>match p.2[n]? with
  |some (.ins c' fs)=>bif (c'==c)&&(fs.lookup m).isNone then(ψ δ p.2).bind λq=>some (.loc n::q.1,q.2) else none
  |_=>none
 |_=>none
def zHm{δ:Loc}{μ μ':Mem}{ds:List D}(h:z4b c m φ ψ δ μ=some (ds,μ')):∃n fs μ1 as,φ δ μ=some (.loc n,μ1)/\μ1[n]?=some (.ins c fs)/\fs.lookup m=none/\ψ δ μ1=some (as,μ')/\ds=.loc n::as:=by
 obtain⟨⟨x,μ1⟩,e1,h⟩:=zf h;dsimp only at h
 split at h
 ·split at h
  ·rename_i n c' fs hm
   obtain⟨hc,h3⟩:=zR h;clear h;rw[yN]at hc;have h1:=eq_of_beq hc.1;have h2:=Option.isNone_iff_eq_none.mp hc.2;subst h1;obtain⟨⟨as,μ2⟩,e2,h4⟩:=zf h3;cases h4;exact⟨_,fs,μ1,as,e1,hm,h2,e2,rfl⟩
  ·cases h
 ·cases h
structure MethAt(K:yt)(c m qual:yr)(st:yX)(ps:List yr)(C f:yb)(fd:yj):Prop where
 nm:yW K yi c=some (some (.ref C))
 cl:Cls K C
 me:Meth K C m f
 fn:Fun K m qual st f fd
 bd:Binds K fd ps []
variable {C g:yb}{fd:yj}{ps:List yr}{qual:yr}{st:yX}{CX:CXT}{sp:Sp}{E:XK}{j k n:Nat}{F:FF}{FXm:FX}
def zjp{t:TA}{ρ:List yb}{δ:Loc}{μ:Mem}{σ:L2.St}{H:Hp}{Q:VK}{ds:List D}{μ1:Mem}(B:MethAt X.K c m qual st ps C g fd)(A:At X.K ρ H σ δ μ)(e1:z4b c m φ ψ δ μ=some (ds,μ1))(ht:∀σ H R,tMA X.K ψ σ H R->t σ H R)
 (kk:∀ρ' H' vs,Ext ρ H ρ' H'->tG X.K ρ' H' μ1->tf X.K ρ' H' ds vs->sp (vs++[]) H' Q E):zTr C m sp [] E (tM X.K φ) t σ H Q:=by
 obtain⟨n,fs,μo,as,ea,hm,hlk,eψ,rfl⟩:=zHm e1;refine⟨ρ,δ,μ,.loc n,μo,A,ea,λρ1 H1 v x1 R1 r1=>?_⟩;obtain⟨a,rfl,ea'⟩:=r1.tz;obtain⟨C',dx,vs,hn',hH,hk,hv⟩:=R1.at_ _ _ _ ea' hm;have hC:=B.nm;rw[hn']at hC;cases hC;refine⟨a,dx,vs,rfl,hH,zDm hk hlk,ht _ _ _ ⟨ρ1,δ,μo,as,μ1,A.ext x1 R1,eψ,λρ2 H2 vs2 x2 R2 r2=>?_⟩⟩;exact kk ρ2 H2 (.ref a::vs2) (x1.trans x2) R2 (.cons (r1.ext x2) r2)
def zwo{pl:Sem Bool}(B:MethAt X.K c m qual st ps C g fd)(G:tu X.prog X.w X.K X.mg X.base CX j g fd ps sp)(hr:tQ k X.A)(hx:zrf CX X E)(ho:ME X o φ)(ha:MAn X (e::es) ψ)(hj:j<=k)
 (hst:yf (e::es) X.env=(false,yV e X.env)::yf es X.env:=by exact ztc rfl) (hpl:(yZ pos (yf es X.env)).any (·.1)=false:=by rfl)
 (ht:yV (.Call (.Attribute o m apos) (e::es) [] pos) X.env=(do
  let ov <-yV o X.env
  standAt apos.atName
  let (f,first) <-YX [ov] (getMethod ov m pl)
  callWith pos f first (yZ pos (yf (e::es) X.env)) (xw pos (Yz [] X.env))):=by rfl) :
 PE X (.Call (.Attribute o m apos) (e::es) [] pos) (zMn sp [] E (tMA X.K (z4b c m φ ψ))):=by
 intro pins s σ H Q I h;obtain⟨ρ,δ,μ,ds,μ1,A,e1,kk⟩:=h;exact zGs ho B.cl B.me G (hr.mono hj) B.bd .nil hx ha.ma hst hpl ht pins s σ H Q I (zjp B A e1 (λ_ _ _ h=>h) kk)
def zpq{pl:Sem Bool}(B:MethAt X.K c m qual st ps C g fd)(G:tu X.prog X.w X.K X.mg X.base CX j g fd ps sp)(hr:tQ k X.A)(hx:zrf CX X E)(ho:ME X o φ)(hj:j<=k)
 (ht:yV (.Call (.Attribute o m apos) [] [] pos) X.env=(do
  let ov <-yV o X.env
  standAt apos.atName
  let (f,first) <-YX [ov] (getMethod ov m pl)
  callWith pos f first (yZ pos (yf [] X.env)) (xw pos (Yz [] X.env))):=by rfl) :
 PE X (.Call (.Attribute o m apos) [] [] pos) (zMn sp [] E (tMA X.K (z4b c m φ zL))):=by
 intro pins s σ H Q I h;obtain⟨ρ,δ,μ,ds,μ1,A,e1,kk⟩:=h
 exact zwq ho B.cl B.me G (hr.mono hj) B.bd .nil hx ht pins s σ H Q I (zjp B A e1 (λσ H R h=>by
  obtain⟨ρ,δ,μ,ds,μ',A,e,k⟩:=h;cases e;exact k ρ H [] Ext.refl A.hp .nil) kk)
def zVf{δ:Loc}{μ μ':Mem}{ds:List D}(ha:∀δ μ ds μ',ψ δ μ=some (ds,μ')->ds.length+1=n)(h:z4b c m φ ψ δ μ=some (ds,μ')):ds.length=n:=by
 obtain⟨_,_,_,as,_,_,_,e,rfl⟩:=zHm h;exact ha _ _ _ _ e
def znr(h:PE X a (zMn (spM X.K n F) [] E0 (tMA X.K ψ)))(hl:∀δ μ ds μ',ψ δ μ=some (ds,μ')->ds.length=n):ME X a (zx F ψ) :=
 zud h λρ δ μ σ H d μ' Q A eo kk=>by
  obtain⟨⟨ds,μ1⟩,e1,eo⟩:=zf eo;refine⟨ρ,δ,μ,ds,μ1,A,e1,λρ1 H1 vs x1 R1 r1=>?_⟩;show spM X.K n F (vs++[]) H1 Q E0;rw[append_nil];exact⟨by rw[<-r1.length];exact hl _ _ _ _ e1,ρ1,ds,μ1,d,μ',r1,R1,eo,λρ2 H2 v x2 R2 r2=>kk ρ2 H2 v (x1.trans x2) R2 r2⟩
def zIt(h:PE X a (zMn (spX X.K n FXm) [] E0 (tMA X.K ψ)))(hl:∀δ μ ds μ',ψ δ μ=some (ds,μ')->ds.length=n):ME X a (zmj FXm ψ) :=
 zud h λρ δ μ σ H d μ' Q A eo kk=>by
  obtain⟨⟨ds,μ1⟩,e1,eo⟩:=zf eo;refine⟨ρ,δ,μ,ds,μ1,A,e1,λρ1 H1 vs x1 R1 r1=>?_⟩;show spX X.K n FXm (vs++[]) H1 Q E0;rw[append_nil];exact⟨by rw[<-r1.length];exact hl _ _ _ _ e1,ρ1,ds,μ1,.ok d μ',r1,R1,z3p eo,λρ2 H2 v x2 R2 r2=>kk ρ2 H2 v (x1.trans x2) R2 r2⟩
abbrev zRi(X:Cx)(o:yz)(m:yr)(es:List yz)(apos pos:YR)(pl:Sem Bool):Prop:=yV (.Call (.Attribute o m apos) es [] pos) X.env=(do
 let ov <-yV o X.env
 standAt apos.atName
 let (f,first) <-YX [ov] (getMethod ov m pl)
 callWith pos f first (yZ pos (yf es X.env)) (xw pos (Yz [] X.env)))
def sr{pl:Sem Bool}(B:MethAt X.K c m qual st ps C g fd)(G:tu X.prog X.w X.K X.mg X.base CX0 j g fd ps (spM X.K n F))(hr:tQ k X.A)(ho:ME X o φ)(ha:MAn X (e::es) ψ)(hj:j<=k:=by decide)(hn:(e::es).length+1=n:=by rfl)
 (hst:yf (e::es) X.env=(false,yV e X.env)::yf es X.env:=by exact ztc rfl) (hpl:(yZ pos (yf es X.env)).any (·.1)=false:=by rfl) (ht:zRi X o m (e::es) apos pos pl:=by rfl) :
 ME X (.Call (.Attribute o m apos) (e::es) [] pos) (zx F (z4b c m φ ψ)) :=
 znr (zwo B G hr sW ho ha hj hst hpl ht) λ_ _ _ _ h=>zVf (λ_ _ _ _ h=>by rw[ha.len _ _ _ _ h];exact hn) h
def Tt{pl:Sem Bool}(B:MethAt X.K c m qual st ps C g fd)(G:tu X.prog X.w X.K X.mg X.base CX0 j g fd ps (spM X.K 1 F))(hr:tQ k X.A)(ho:ME X o φ)(hj:j<=k:=by decide)(ht:zRi X o m [] apos pos pl:=by rfl) :
 ME X (.Call (.Attribute o m apos) [] [] pos) (zx F (z4b c m φ zL)) :=
 znr (zpq B G hr sW ho hj ht) λ_ _ _ _ h=>zVf (λ_ _ _ _ h=>by cases h;rfl) h
def sT{pl:Sem Bool}(B:MethAt X.K c m qual st ps C g fd)(G:tu X.prog X.w X.K X.mg X.base (CXq X.prog X.w) j g fd ps (spX X.K n FXm))(hr:tQ k X.A)(ho:ME X o φ)(ha:MAn X (e::es) ψ)(hj:j<=k:=by decide)(hn:(e::es).length+1=n:=by rfl)
 (hst:yf (e::es) X.env=(false,yV e X.env)::yf es X.env:=by exact ztc rfl) (hpl:(yZ pos (yf es X.env)).any (·.1)=false:=by rfl) (ht:zRi X o m (e::es) apos pos pl:=by rfl) :
 ME X (.Call (.Attribute o m apos) (e::es) [] pos) (zmj FXm (z4b c m φ ψ)) :=
 zIt (zwo B G hr passF ho ha hj hst hpl ht) λ_ _ _ _ h=>zVf (λ_ _ _ _ h=>by rw[ha.len _ _ _ _ h];exact hn) h
def zAu{pl:Sem Bool}(B:MethAt X.K c m qual st ps C g fd)(G:tu X.prog X.w X.K X.mg X.base (CXq X.prog X.w) j g fd ps (spX X.K n FXm))(hr:tQ k X.A)(ho:ME X.nox o φ)(ha:MAn X.nox (e::es) ψ)(hj:j<=k)
 (hst:yf (e::es) X.env=(false,yV e X.env)::yf es X.env) (hpl:(yZ pos (yf es X.env)).any (·.1)=false) (ht:zRi X o m (e::es) apos pos pl)
 {pins:List (yb×Yw)} {s:yd} {σ:L2.St} {H:Hp} {Q:VK} {W:XK} (I:Inv X pins σ H s) (h:tCX X.K W n FXm (z4b c m φ ψ) σ H Q):yq (yy X.prog X.w) X.A (yV (.Call (.Attribute o m apos) (e::es) [] pos) X.env) (EP X pins σ Q) (XP X pins σ W) s:=by
 obtain⟨ρ,δ,μ,ds,μ1,A,e1,kk⟩:=h;refine PySem.W.methodCall_KW (pl:=pl) (yT (ho pins s σ H _ (I.TZ _) (zjp (sp:=spX X.K n FXm) (E:=W) (Q:=Q) (t:=tMA X.K ψ) B A e1 (λ_ _ _ h=>h) kk)) (λu s1 h1=>?_) λ_ _ z=>z.elim) ht;obtain⟨x,H1,I1,rx,a,dx,fs,ex,ea,l,q⟩:=h1;have I1:=I1.Tm;subst ex;obtain rfl:u=yH a:=rx;refine zCg I1 ea B.cl B.me l ?_;refine PySem.W.callWith_K (first:=[.ref a]) (h₀:=X.base) I.ok.mod.kin B.me.kp (yT (ha.ma pos pins s1 σ H1 _ (I1.TZ _) q) (λus s2 h2=>?_) λ_ _ z=>z.elim) hst hpl;obtain⟨vs,H2,I2,r,q2⟩:=h2;have I2:=I2.Tm;refine⟨I2.kIn,?_⟩;have r2:Vals (.ref a::(vs++[])) (yH a::us++[]) :=.cons rfl (r.append .nil);have hl:(yH a::us++[]).length=ps.length:=by rw[<-r2.length];exact G.len _ _ _ _ q2
 refine wpAny_call (YO (G.run X.A X.stack s2 H2 ⟨.ref a::us,[]⟩ (.ref a::us++[]) (.ref a::(vs++[])) Q W (hr.mono hj) I2.env0 (B.bd s2 (.ref a::us) I2.kIn hl) r2 q2) λrr s' hq=>?_)
 cases rr with
 |error ex=>
  obtain⟨C,dx,H',Fl,hw⟩:=hq;exact⟨H2,s2,C,dx,H',I2,Fl,hw⟩
 |ok fl=>
  cases fl with
  |ret u=>exact I2.after hq
  |next=>exact Yl hq
  |brk=>exact Yl hq
  |cont=>exact Yl hq
def zmq{pl:Sem Bool}{spos:YR}(B:MethAt X.K c m qual st ps C g fd)(G:tu X.prog X.w X.K X.mg X.base (CXq X.prog X.w) j g fd ps (spX X.K n FXm))(hr:tQ k X.A)(ho:ME X.nox o φ)(ha:MAn X.nox (e::es) ψ)(hj:j<=k:=by decide)(hn:(e::es).length+1=n:=by rfl)
 (hst:yf (e::es) X.env=(false,yV e X.env)::yf es X.env:=by exact ztc rfl) (hpl:(yZ pos (yf es X.env)).any (·.1)=false:=by rfl) (ht:zRi X o m (e::es) apos pos pl:=by rfl)
 (hs:xk (.Call (.Attribute o m apos) (e::es) [] pos) none spos.line X.env=pure false:=by rfl):PX1 X (.Expr (.Call (.Attribute o m apos) (e::es) [] pos) spos) (zSp FXm (z4b c m φ ψ)):=by
 intro pins s σ H D W I ⟨ρ,δ,μ,o,A,eo,kk⟩;obtain⟨ds,μ1,r,e1,e2,rfl⟩:=zRm eo;refine wpAny_Expr_any (thn (zAu B G hr ho ha hj hst hpl ht I (Q:=λ_ H'=>D.nx σ H') (zzr A e1 (zVf (λ_ _ _ _ h=>by rw[ha.len _ _ _ _ h];exact hn) e1) e2 ?_)) λv s1 ⟨y,H1,I1,r1,q1⟩=>⟨σ,H1,I1,q1⟩) I.quiet hs
 cases r with
 |ok d μ'=>exact λρ' H' v x' R r=>kk ρ' σ H' x' (A.ext x' R)
 |exc c fs μ'=>exact kk
def z9s{pl:Sem Bool}{spos py:YR}{y:yr}(i:Nat)(B:MethAt X.K c m qual st ps C g fd)(G:tu X.prog X.w X.K X.mg X.base (CXq X.prog X.w) j g fd ps (spX X.K n FXm))(hr:tQ k X.A)(ho:ME X.nox o φ)(ha:MAn X.nox (e::es) ψ)(hj:j<=k:=by decide)(hn:(e::es).length+1=n:=by rfl)
 (hN:X.N.Nodup:=by first|assumption|decide) (hi:X.N[i]?=some y:=by rfl) (hy:L2.Loc X.env.scope y:=by first|exact Or.inl rfl|exact Or.inr rfl)
 (hst:yf (e::es) X.env=(false,yV e X.env)::yf es X.env:=by exact ztc rfl) (hpl:(yZ pos (yf es X.env)).any (·.1)=false:=by rfl) (ht:zRi X o m (e::es) apos pos pl:=by rfl)
 (hs:xk (.Call (.Attribute o m apos) (e::es) [] pos) (some (.Name y py)) spos.line X.env=pure false:=by rfl) (hf:X.fn y=true\/X.env.scope.names.lookup y=some .local:=by first|exact .inl rfl|exact .inr rfl|assumption) :
 PX1 X (.Assign [.Name y py] (.Call (.Attribute o m apos) (e::es) [] pos) spos) (zWr i FXm (z4b c m φ ψ)):=by
 intro pins s σ H D W I ⟨ρ,δ,μ,o,A,eo,kk⟩;obtain⟨ds,μ1,r,e1,e2,rfl⟩:=zRm eo;refine wpAny_Assign_Name (thn (zAu B G hr ho ha hj hst hpl ht I (Q:=λv H'=>D.nx (σ.set i (some v)) H') (zzr A e1 (zVf (λ_ _ _ _ h=>by rw[ha.len _ _ _ _ h];exact hn) e1) e2 ?_)) λv s1 ⟨y,H1,I1,r1,q1⟩=>?_) hs
 ·cases r with
  |ok d μ'=>exact λρ' H' v x' R r=>kk ρ' _ H' x' ((A.ext x' R).set r i)
  |exc c fs μ'=>exact kk
 ·exact zeh I1 hN hi hy r1 (λs2 I2=>⟨_,H1,I2,q1⟩) hf
@[simp] def zDn(c:yr)(F:FF)(ψ:FA):FE:=λδ μ=>(ψ δ μ).bind λq=>(F (.loc q.2.length::q.1) (q.2++[.ins c []])).bind λr=>match r.1 with
 |.non=>some (.loc q.2.length,r.2)
 |_=>none
def mmake{p:YR}(mk:Mk X.K C g)(hc:yW X.K yi c=some (some (.ref C)))(hm:X.mg c=some (.ref C))(bd:Binds X.K fd ps [])(G:tu X.prog X.w X.K X.mg X.base CX0 j g fd ps (spM X.K n F))(hr:tQ k X.A)(ha:MAn X (e::es) ψ)
 (hj:j+1<=k:=by decide) (hn:(e::es).length+1=n:=by rfl) (hg:Gl X c:=by rfl) (hdb:(c==("__debug__":yr))=false:=by decide) (he:yf (e::es) X.env=(false,yV e X.env)::yf es X.env:=by exact ztc rfl) (hpl:(yZ pos (yf es X.env)).any (·.1)=false:=by rfl) :
 ME X (.Call (.Name c p) (e::es) [] pos) (zDn c F ψ) :=
 zud (zHs mk G (hr.mono hj) hg hm bd .nil sW ha.ma hdb he hpl) λρ δ μ σ H d μ' Q A eo kk=>by
  obtain⟨⟨ds,μ1⟩,e1,eo⟩:=zf eo;refine⟨ρ,δ,μ,ds,μ1,A,e1,λρ1 H1 vs x1 R1 r1 x dx nx ndx nex=>?_⟩;obtain⟨⟨r,μ2⟩,e2,eo⟩:=zf eo;dsimp only at eo
  split at eo
  ·cases eo;have nx2:(upd H1 dx (.own x)) x=none:=by rw[zr (yM nex)];exact nx
   have R2:tG X.K ρ1 (upd H1 dx (.own x)) μ1:=R1.Tr ndx;have R3:=R2.push (lo:=.ins c []) nx2 ⟨C,dx,[],hc,zt,rfl,.nil⟩;have X3:=(Ext.new (ρ:=ρ1) (o:=.own x) ndx).trans (Ext.push (o:=.ins C dx []) nx2);rw[append_nil];refine⟨by rw[length_cons,<-r1.length,ha.len _ _ _ _ e1];exact hn,ρ1++[x],.loc μ1.length::ds,μ1++[.ins c []],.non,_,.cons (.loc (zzb R2)) (r1.ext X3),R3,e2,λρ4 H4 v x4 R4 r4=>⟨r4.tH,kk ρ4 H4 (.ref x) (x1.trans (X3.trans x4)) R4 (.loc (x4.get (zzb R2)))⟩⟩
  ·cases eo
def Sk{x x0:yr}{p:YR}{f:yb}(hm:X.mg x=some (.ref f))(B:FnAt X.K X.mg x0 st ps f fd)(G:tu X.prog X.w X.K X.mg X.base CX0 j f fd ps (spM X.K n F))(hr:tQ k X.A)
 (ha:MAn X (e::es) ψ) (hj:j<=k:=by decide) (hn:(e::es).length=n:=by rfl) (hg:Gl X x:=by rfl) (hdb:(x==("__debug__":yr))=false:=by decide) (he:yf (e::es) X.env=(false,yV e X.env)::yf es X.env:=by exact ztc rfl) (hpl:(yZ pos (yf es X.env)).any (·.1)=false:=by rfl) :
 ME X (.Call (.Name x p) (e::es) [] pos) (zx F ψ):=z8n G (hr.mono hj) hm B.fn.kp B.bd ha hn hg hdb he hpl
end
section
variable {X:Cx}{e:yz}{es:List yz}{φ:FE}{pos:YR}
@[simp] def zQg(g:GM)(φ:FE)(ψ:FA):FE:=λδ μ=>(φ δ μ).bind λp=>match p.1 with
 |.loc n=>match p.2[n]? with
  |some (.dct _)=>(ψ δ p.2).bind λq=>g (.loc n) q.1 q.2
  |_=>none
 |_=>none
def z5m{o:yz}{ψ:FA}{name:yr}{id:String}{g:GM}{apos:YR}(slot:Slot "dict" name id)(hty:typeOf (.builtin id)=pure (.type "method_descriptor"))(hm:MtG X id g)(ho:ME X o φ)(ha:MAn X (e::es) ψ)
 (hbase:Yt o name X.env (yV o X.env)=yV o X.env:=by rfl)
 (hfew:((yZ pos (yf (e::es) X.env)).all (λx=>!x.1)&&(xw pos (Yz [] X.env)).all (λx=>x.1.isSome)
  && decide ((e::es).length+([]:List xI).length+(if([]:List xI).isEmpty then 0 else 1)<30))=true:=by rfl)
 (hline:(apos.endLine==pos.line)=true:=by rfl) (hs:yf (e::es) X.env=(false,yV e X.env)::yf es X.env:=by rfl) (hplain:(yZ pos (yf es X.env)).any (·.1)=false:=by rfl) :
 ME X (.Call (.Attribute o name apos) (e::es) [] pos) (zQg g φ ψ) :=
 zud (zOt PySem.F.plainAttrs_dict slot hty hm ho ha.ma hbase hfew hline hs hplain) λρ δ μ σ H d μ' Q A e k=>by
  obtain⟨⟨x,μ1⟩,e1,e⟩:=zf e;refine⟨ρ,δ,μ,x,μ1,A,e1,λρ1 H1 v x1 R1 r1=>?_⟩;dsimp only at e
  split at e
  ·split at e
   ·rename_i hm'
    obtain⟨⟨ds,μ2⟩,e2,e⟩:=zf e;obtain⟨a,rfl,ea⟩:=r1.tz;obtain⟨vs,e3,q3⟩:=R1.at_ _ _ _ ea hm';refine⟨.inr (.inr (.inl ⟨rfl,.inl ⟨vs,e3⟩⟩)),ρ1,δ,μ1,ds,μ2,A.ext x1 R1,e2,λρ2 H2 vs2 x2 R2 r2=>?_⟩;exact⟨ρ2,_,ds,μ2,d,μ',r1.ext x2,r2,R2,e,λρ3 H3 v3 x3 R3 r3=>k ρ3 H3 v3 (x1.trans (x2.trans x3)) R3 r3⟩
   ·cases e
  ·cases e
@[simp] def ztn:GM:=λx ds μ=>match ds with
 |[.int i]=>(zP μ x).bind λkvs=>some ((zHc kvs i).getD .non,μ)
 |_=>none
def z6p:MtG X "dict.get" ztn:=by
 refine MtG.of λpins s σ H x xs v us Q I rx rs ρ dx ds μ d μ' r1 r2 R e k=>?_;unfold ztn at e
 split at e
 ·rename_i i
  obtain⟨kvs,e1,e⟩:=zf e;cases e;obtain⟨p,vs,rfl,hq,q1,q2⟩:=zoc R r1 e1;obtain⟨w,r,rfl,q3,q4⟩:=r2.cons_inv;rw[q4.nil_inv,q3.int_inv]at rs;obtain⟨u,rfl,ru⟩:=vals1 rs;cases rx;obtain⟨z,hd,us,rel,dd⟩:=zmd I.hok hq;refine call_meetsIn PySem.F.slot_dict_get dd.typeIs PySem.F.entry_dict_get (PySem.F.args_dict_get_2 _ _) (meets_dict_get (z7 X.prog X.w) p (zsl (k:=yF i) ru) hd) ⟨_,dd.mapOf,?_⟩;have rv:=rel.val (yF i)
  cases e3:zHc kvs i with
  |none=>
   rw[(z4e i q1 q2).2 e3]at rv;rw[Tv.none_of rv];exact⟨.non,H,I.tok _,rfl,by have:=k ρ H .non Ext.refl R;rw[e3]at this;exact this .non⟩
  |some d'=>
   obtain⟨v',ev,r'⟩:=(z4e i q1 q2).1 d' e3;rw[ev]at rv;obtain⟨u',eu,ru'⟩:=Tv.some_of rv;rw[eu];exact⟨v',H,I.tok _,ru',by have:=k ρ H v' Ext.refl R;rw[e3]at this;exact this r'⟩
 ·cases e
def zms{o:yz}{ψ:FA}{apos:YR}(ho:ME X o φ)(ha:MAn X (e::es) ψ)
 (hbase:Yt o "get" X.env (yV o X.env)=yV o X.env:=by rfl)
 (hfew:((yZ pos (yf (e::es) X.env)).all (λx=>!x.1)&&(xw pos (Yz [] X.env)).all (λx=>x.1.isSome)
  && decide ((e::es).length+([]:List xI).length+(if([]:List xI).isEmpty then 0 else 1)<30))=true:=by rfl)
 (hline:(apos.endLine==pos.line)=true:=by rfl) (hs:yf (e::es) X.env=(false,yV e X.env)::yf es X.env:=by rfl) (hplain:(yZ pos (yf es X.env)).any (·.1)=false:=by rfl) :
 ME X (.Call (.Attribute o "get" apos) (e::es) [] pos) (zQg ztn φ ψ):=z5m PySem.F.slot_dict_get PySem.F.type_dict_get z6p ho ha hbase hfew hline hs hplain
def z4q(vs:List (Key×V))(k:Key):List (Key×V):=vs.filter λp=>decide (p.1≠k)
def zkt(kvs:List (Int×D))(i:Int):List (Int×D):=kvs.filter λp=>decide (p.1≠i)
def zxu{vs:List (Key×V)}{us:List (Key×Value)}(r:KV vs us)(k:Key):KV (z4q vs k) (without us k):=by
 unfold KV at r ⊢
 induction r with
 |nil=>exact .nil
 |@cons p q ps qs h t ih=>
  unfold z4q without at ih ⊢;rw[List.filter_cons,List.filter_cons,h.1]
  split
  ·exact .cons h ih
  ·exact ih
def zro{K:yt}{ρ:List yb}{H:Hp}:∀{kvs:List (Int×D)} {vs:List (Key×V)} (i:Int),vs.map (·.1)=kvs.map (λp=>yF p.1)->tf K ρ H (kvs.map (·.2)) (vs.map (·.2)) ->
 (z4q vs (yF i)).map (·.1)=(zkt kvs i).map (λp=>yF p.1)/\tf K ρ H ((zkt kvs i).map (·.2)) ((z4q vs (yF i)).map (·.2))
 |[],vs,i,h1,h2=>by
  have:vs=[]:=by simpa using h1
  subst this;exact⟨rfl,.nil⟩
 |(j,d)::kvs,[],i,h1,h2=>by simp at h1
 |(j,d)::kvs,(k,u)::vs,i,h1,h2=>by
  rw[map_cons,map_cons,YC]at h1;obtain⟨hk,h1⟩:=h1;have hk:k=yF j:=hk;subst hk;obtain⟨v',r',e',q1,q2⟩:=h2.cons_inv;rw[map_cons,YC]at e';obtain⟨e1,e2⟩:=e';subst e2;have e1:u=v':=e1;subst e1;obtain⟨i1,i2⟩:=zro (K:=K) (ρ:=ρ) (H:=H) i h1 q2;unfold z4q zkt at i1 i2 ⊢
  by_cases hj:j=i
  ·subst hj;rw[xo (by simp),xo (by simp)];exact⟨i1,i2⟩
  ·rw[List.filter_cons_of_pos (by simp[hj]),List.filter_cons_of_pos (by simp[hj])];exact⟨by rw[map_cons,map_cons,i1],.cons q1 i2⟩
@[simp] def z8l:GM:=λx ds μ=>match x,ds with
 |.loc n,[.int i]=>match μ[n]? with
  |some (.dct kvs)=>(zHc kvs i).bind λd=>some (d,μ.set n (.dct (zkt kvs i)))
  |_=>none
 |_,_=>none
def zfq:MtG X "dict.pop" z8l:=by
 refine MtG.of λpins s σ H x xs v us Q I rx rs ρ dx ds μ d μ' r1 r2 R e k=>?_;unfold z8l at e
 split at e
 ·rename_i n i
  split at e
  ·rename_i kvs hm
   obtain⟨d',e1,e⟩:=zf e;cases e;obtain⟨p,rfl,ea⟩:=r1.tz;obtain⟨vs,hH,q1,q2⟩:=R.at_ _ _ _ ea hm;obtain⟨w,r,rfl,q3,q4⟩:=r2.cons_inv;rw[q4.nil_inv,q3.int_inv]at rs;obtain⟨u,rfl,ru⟩:=vals1 rs;cases rx;obtain⟨z,hd,us,rel,dd⟩:=z0r I.hok hH;obtain⟨v',ev,r'⟩:=(z4e _ q1 q2).1 _ e1;have rv:=rel.val (yF i);rw[ev]at rv;obtain⟨u',eu,ru'⟩:=Tv.some_of rv;have hz:us.length<=yC:=by rw[<-rel.length];exact z
   have hmu:Mut (H p):=by rw[hH];trivial
   have hpart:(keyPart u).isSome=true:=by obtain⟨t,rfl⟩:=ru;rfl
   refine call_meetsIn PySem.F.slot_dict_pop dd.typeIs PySem.F.entry_dict_pop (PySem.F.args_dict_pop_2 _ _) (meets_dict_pop_there (z7 X.prog X.w) p (zsl (k:=yF i) ru) [] (.inl rfl) hpart) ⟨us,u',dd,hz,eu,λh' dd' hs=>?_⟩;have hl':(z4q vs (yF i)).length<=yC:=yA (xF _ _) z;have I1:Inv X pins σ (upd H p (.dK (z4q vs (yF i)))) {s with heap:=h',toks:=s.toks+1 }:=I.write (x:=p) (e:=p) hmu (.inl rfl) (λb q hb z=>(hs.2 b hb).trans z) (by obtain⟨q,_,_,hq,_⟩:=dd';exact⟨q,hq⟩) (show tF X.prog X.w _ h' p (.dK (z4q vs (yF i))) from⟨hl',hd,_,zxu rel _,dd'⟩);obtain⟨p1,p2⟩:=zro i q1 (q2.ext (Ext.wr (o:=.dK (z4q vs (yF i))) hmu));exact⟨v',_,I1,ru',k ρ _ _ (Ext.wr hmu) (R.wr hmu ea ⟨_,zt,p1,p2⟩) (r'.ext (Ext.wr hmu))⟩
  ·cases e
 ·cases e
def zep{o:yz}{ψ:FA}{apos:YR}(ho:ME X o φ)(ha:MAn X (e::es) ψ)
 (hbase:Yt o "pop" X.env (yV o X.env)=yV o X.env:=by rfl)
 (hfew:((yZ pos (yf (e::es) X.env)).all (λx=>!x.1)&&(xw pos (Yz [] X.env)).all (λx=>x.1.isSome)
  && decide ((e::es).length+([]:List xI).length+(if([]:List xI).isEmpty then 0 else 1)<30))=true:=by rfl)
 (hline:(apos.endLine==pos.line)=true:=by rfl) (hs:yf (e::es) X.env=(false,yV e X.env)::yf es X.env:=by rfl) (hplain:(yZ pos (yf es X.env)).any (·.1)=false:=by rfl) :
 ME X (.Call (.Attribute o "pop" apos) (e::es) [] pos) (zQg z8l φ ψ):=z5m PySem.F.slot_dict_pop PySem.F.type_dict_pop zfq ho ha hbase hfew hline hs hplain
end
structure sC(K:yt)(mg:yr->Option Value)(c:yr)(st:yX)(ps:List yr)(C f:yb)(fd:yj):Prop where
 nm:yW K yi c=some (some (.ref C))
 mgc:mg c=some (.ref C)
 mkc:Mk K C f
 fn:Fun K "__init__" (c ++ ".__init__") st f fd
 bd:Binds K fd ps []
section
variable {X:Cx}{e:yz}{es:List yz}{ψ:FA}{pos p:YR}{c:yr}{C g:yb}{fd:yj}{ps:List yr}{st:yX}{j k n:Nat}{F:FF}
def mmakeA(B:sC X.K X.mg c st ps C g fd)(G:tu X.prog X.w X.K X.mg X.base CX0 j g fd ps (spM X.K n F))(hr:tQ k X.A)(ha:MAn X (e::es) ψ)
 (hj:j+1<=k:=by decide) (hn:(e::es).length+1=n:=by rfl) (hg:Gl X c:=by rfl) (hdb:(c==("__debug__":yr))=false:=by decide) (he:yf (e::es) X.env=(false,yV e X.env)::yf es X.env:=by exact ztc rfl) (hpl:(yZ pos (yf es X.env)).any (·.1)=false:=by rfl) :
 ME X (.Call (.Name c p) (e::es) [] pos) (zDn c F ψ):=mmake B.mkc B.nm B.mgc B.bd G hr ha hj hn hg hdb he hpl
def FnAt.al{K:yt}{mg:yr->Option Value}{x y:yr}{f:yb}(B:FnAt K mg x st ps f fd)(h:mg y=mg x):mg y=some (.ref f):=h.trans B.at_
end
def zMs:typeLookup (.type "list") "__getattribute__"=pure (some (.builtin "list.__getattribute__")):=by rfl
def znt:typeLookup (.type "list") "keys"=pure none:=by first|rfl|decide +kernel
def zzk{prog:yu}{w:yI}{A:yJ}{E:Value->yd->Prop}{s:yd}{l:yb}{its:Array Value}{Q:Option Value->yd->Prop}(hh:A.handled=none){ol:Yw}{nl:Nat}(hol:s.heap.get? l=some ol)(hcl:ol.cls=.type "list")(hdl:ol.data=.seq its nl)(hdn:ol.dict=none)
 (q:∀h' tk,(∀b o,s.heap.get? b=some o->h'.get? b=some o)->Q none {s with heap:=h',toks:=tk }):yq (yy prog w) A (getAttr? (.ref l) "keys") Q E s:=by
 unfold getAttr? getAttrBy? getAttrBy
 wp_walk
 rw[hcl];refine wpAny_of_eq zMs ?_;dsimp only;have e1:(onTheHeap (YD "list")&&(Value.builtin "list.__getattribute__" == Value.builtin "object.__getattribute__"))=false:=by rfl
 rw[if_neg (by rw[e1];decide)];unfold getAttrByItsOwn hookBefore callGetattribute
 wp_walk
 refine wpAny_of_eq (PySem.F.slot_list_getattribute.bind (.ref l)) ?_;dsimp only[List.append,List.cons_append,nil_append];obtain⟨ocls,odict,odata,oslots⟩:=ol;simp only at hcl hdl hdn;subst hcl;subst hdl;subst hdn;refine wpAny_call (YO (xK (R:=λr s'=>∃h' tk e,s.heap.NewAttrErr h' e (.ref l) "keys"/\r=.error (.ref e)/\s' = {heap:=h',gens:=s.gens,drawn:=s.drawn,toks:=tk,os:=s.os }) PySem.F.slot_list_getattribute.plain am_entry_list_getattribute (PySem.F.slot_list_getattribute.check _ _ _ _ _ _ _ _ ⟨_,hol,rfl⟩ (PySem.F.args_list_getattribute_2 _ _) ?_)) ?_)
 ·exact meets_getattribute_miss_list l its nl oslots "keys" s.toks znt (by decide +kernel) (by decide +kernel) prog w A (λr s'=>∃h' tk e,s.heap.NewAttrErr h' e (.ref l) "keys"/\r=.error (.ref e)/\s' = {heap:=h',gens:=s.gens,drawn:=s.drawn,toks:=tk,os:=s.os }) {heap:=s.heap,gens:=s.gens,drawn:=s.drawn,toks:=s.toks+1,os:=s.os } ⟨hol,hh,λh' tk e ne=>⟨h',tk,e,ne,rfl,rfl⟩⟩
 rintro r s' ⟨h',tk,e,ne,rfl,rfl⟩;dsimp only;obtain⟨t,u,he⟩:=ne.there;have sub:isSubtype (.type "AttributeError") (.type "AttributeError")=pure true:=by rfl
 unfold getattributeRaised hookBehind hookOrError attributeErrorLeaves;refine ya (wpAny_isInstance (T:="AttributeError") ⟨_,he,rfl⟩ sub ?_);rw[if_pos rfl];refine ya ?_;rw[if_neg (by decide)];refine wpAny_of_eq am_list_getattr_none ?_;dsimp only
 wp_walk
 exact q _ _ ne.keeps
def z8k:entryFor table "dict.update.loop"=some Builtin.«dict.update.loop»:=by first|rfl|kernel_rfl
def zeg:plainId "dict.update.loop"=true:=by decide +kernel
section
variable {prog:yu}{w:yI}{A:yJ}{R:Result->yd->Prop}{I:yb}{fp wr:List yb}{n:Nat}{P:Nat->Value->Prop}{St:Nat->yR->Prop}
def zfl(kk:Nat->Int)(vv:Nat->Value):Nat->List (Key×Value)
 |0=>[]
 |i+1=>PySem.stored (zfl kk vv i) (yF (kk i)) (vv i)
def zhl(kk:Nat->Int)(vv:Nat->Value):∀i,(zfl kk vv i).length<=i
 |0=>yh _
 |i+1=>yA (stored_length_le _ _ _) (Nat.succ_le_succ (zhl kk vv i))
def zzo(W:Walks prog w A.in1 I fp wr n P St)(d:yb)(hdf:d∉fp)(kk:Nat->Int)(vv:Nat->Value)(tt:Nat->yb)(hP:∀i v,P i v->v=.ref (tt i))(hb:n+1<scanBound)(ht:∀i<n,tt i≠d/\tt i∉wr):∀(k i:Nat)(s:yd),n-i=k->i<=n->St i s.heap->s.heap.DictOf (z7 prog w) d (zfl kk vv i)->(∀j<n,∃tk,s.heap.IsTuple (tt j) #[.int (kk j) tk,vv j]) ->
 (∀h' tk,(∀b o,b∉d::wr->s.heap.get? b=some o->h'.get? b=some o)->h'.DictOf (z7 prog w) d (zfl kk vv n)->R (.ok (.ret .none)) {s with heap:=h',toks:=tk })->∀t0:Tok,codeAny (yy prog w) A (.builtin "dict.update.loop" ⟨[.ref d,.ref I,.int (i:Nat) t0,.none],[]⟩) R s:=by
 have hdw:d∉wr:=λq=>hdf (W.sub _ q);intro k
 induction k with
 |zero=>
  intro i s hk hi st hD hT hR t0;have e:i=n:=by omega
  subst e;refine xz z8k ?_;rw[xf zeg _];show yq _ A.in1 (pyNext (.ref I) >>= _) _ _ s;refine ya (W.done s _ _ st λh' tk hk'=>?_);dsimp only;unfold Builtin.Dict.addKeywords
  wp_walk
  refine hR h' tk (λb o hb e=>hk' b o (λq=>hb (mem_cons_of_mem _ q)) e) ?_;obtain⟨o,es,ep,g,r⟩:=hD;exact⟨o,es,ep,hk' _ _ hdw g,r⟩
 |succ k ih=>
  intro i s hk hi st hD hT hR t0;have hlt:i<n:=by omega
  refine xz z8k ?_;rw[xf zeg _];show yq _ A.in1 (pyNext (.ref I) >>= _) _ _ s;refine ya (W.item i s _ _ hlt st λv h1 tk hp st1 hk1=>?_);obtain rfl:=hP i v hp;obtain⟨tki,ot,hot,hct,nt,hdt⟩:=hT i hlt;have hot1:h1.get? (tt i)=some ot:=hk1 _ _ (ht i hlt).2 hot;show yq _ A.in1 (YX [yH (tt i)] _ >>= _) _ _ _;refine ya (yY (ya (wpAny_tryCatch ?_)))
  have hD1:Heap.DictOf (z7 prog w) h1 d (zfl kk vv i):=by
   obtain⟨o,es,ep,g,r⟩:=hD;exact⟨o,es,ep,hk1 _ _ hdw g,r⟩
  obtain⟨ocls,odict,odata,oslots⟩:=ot;simp only at hct hdt;subst hct;subst hdt;unfold Builtin.Dict.pairItems seqItems?;refine ya (wpAny_typeOf_ref hot1 ?_);rw[if_pos (show(YD "tuple" == YD "list" || YD "tuple" == YD "tuple")=true by decide)];refine ya (ya (wpAny_load hot1 (yp (yp ?_))));show yq _ A.in1 (YX [Value.int (kk i) tki,vv i] (dictSet d (Value.int (kk i) tki) (vv i))) _ _ _;refine yY (wpAny_dictSet_pairs (knd:=z7 prog w) (k:=yF (kk i)) (zsl (k:=.inl (kk i)) ⟨tki,rfl⟩) hD1 (λh2 hD2 sb=>?_) ?_)
  ·refine yp ⟨plainId_quiet zeg _,?_⟩;refine ih (i+1) _ (by omega) hlt (W.frame _ _ _ st1 λc hc o e=>sb.extBut c o (λq=>hdf (q▸hc)) e) hD2 (λj hj=>?_) (λh3 tk3 hk3 hD3=>?_) _
   ·obtain⟨tj,oj,hoj,rj⟩:=hT j hj;exact⟨tj,oj,sb.extBut _ _ (ht j hj).1 (hk1 _ _ (ht j hj).2 hoj),rj⟩
   ·exact hR h3 tk3 (λc o hc e=>hk3 c o hc (sb.extBut c o (λq=>hc (by rw[q];exact mem_cons_self)) (hk1 c o (λq=>hc (mem_cons_of_mem _ q)) e))) hD3
  ·have:=zhl kk vv i;have:scanBound<=yC:=by decide
   omega
end
section
variable {prog:yu}{w:yI}{A:yJ}{E:Value->yd->Prop}{s:yd}
abbrev zre:Yw:={cls:=.type "dict",data:=.dict #[]}
def zfr(a:Value){Q:Value->yd->Prop}(h:Q (.ref s.heap.objs.size) {s with heap:=s.heap.push zre }) :
 codeAny (yy prog w) A (.call (.builtin "dict.__new__") ⟨[.type "dict",a],[]⟩) (wants Q E) s:=by
 refine codeAny_of_tree ?_;show yq _ A.in1 (do checkBuiltinCall "dict.__new__" ⟨[.type "dict",a],[]⟩;again (.builtin "dict.__new__" ⟨[.type "dict",a],[]⟩)) _ _ s;refine ya (wpAny_of_eq (PySem.F.kt_newCall_dict_1 a) (yp ⟨plainId_quiet PySem.F.kt_plain_dict_new _,xz PySem.F.kt_entry_dict_new ?_⟩));rw[xf PySem.F.kt_plain_dict_new _];unfold Builtin.«dict.__new__»;have hsub:=PySem.F.kt_called_dict.sub;have hmro:=PySem.F.kt_mro_dict;obtain⟨hp,g,d,tk,os⟩:=s;dsimp only
 wp_walk
 exact h
def zZm(prog:yu)(w:yI)(s:yd)(kvs:List (Key×Value))(s':yd):Prop :=
 s'.heap.DictOf (z7 prog w) s.heap.objs.size kvs/\(∀b o,s.heap.get? b=some o->s'.heap.get? b=some o)/\∃h' tk,s' = {s with heap:=h',toks:=tk }
set_option maxHeartbeats 3200000 in
def zXk{l:yb}{ol:Yw}{nl:Nat}{its:Array Value}{kk:Nat->Int}{vv:Nat->Value}{tt:Nat->yb}{Q:Value->yd->Prop}(hh:A.handled=none)(hol:s.heap.get? l=some ol)(hcl:ol.cls=.type "list")(hdl:ol.data=.seq its nl)(hdn:ol.dict=none)(hits:∀(i:Nat)(v:Value),its[i]?=some v->v=yH (tt i))(hT:∀j<its.size,∃tk,s.heap.IsTuple (tt j) #[.int (kk j) tk,vv j])(hb:its.size+1<scanBound)
 (h:∀s',zZm prog w s (zfl kk vv its.size) s'->Q (.ref s.heap.objs.size) s'):yq (yy prog w) A (call (.type "dict") [.ref l]) Q E s:=by
 obtain⟨c,tl,hmro⟩:=PySem.F.kt_called_dict.mro;have hmade:=PySem.F.kt_called_dict.made;have hsub:=PySem.F.kt_called_dict.sub;refine wpAny_call (codeAny_of_tree ?_);show yq _ _ (callAny (.type "dict") _) _ _ _;refine yp ⟨Code.quiet_builtin _ (by decide +kernel),xz PySem.F.entry_type_call ?_⟩;rw[Around.under_plain (weight_type_call_type "dict" [.ref l] []) rfl];have t1:=PySem.F.kt_called_dict.notType;have t2:=PySem.F.kt_called_dict.canCreate;have t3:=PySem.F.kt_typeCall_dict_1 (.ref l)
 repeat (any_goals (first|assumption|wp_step))
 refine YO (zfr (w:=w) (.ref l) (E:=E) (Q:=λob s1=>ob=.ref s.heap.objs.size/\s1 = {s with heap:=s.heap.push zre }) ⟨rfl,rfl⟩) λr s1 hr=>?_
 cases r with
 |error e=>exact hr
 |ok fl=>
  cases fl with
  |ret ob=>
   obtain⟨rfl,rfl⟩:=hr;have hS:(s.heap.push zre).get? s.heap.objs.size=some zre:=yx _ rfl;have hTy:Shared.TypeIs {s with heap:=s.heap.push zre } (.ref s.heap.objs.size) "dict":=⟨_,hS,rfl⟩
   have i1:=PySem.F.kt_called_dict.init.lookup;have i2:=PySem.F.kt_called_dict.init.bind (.ref s.heap.objs.size)
   repeat (any_goals (first|assumption|wp_step))
   refine YO (xK (R:=wants (λr s2=>r=.none/\zZm prog w s (zfl kk vv its.size) s2) E) PySem.F.kt_called_dict.init.plain PySem.F.entry_dict_init (PySem.F.kt_called_dict.init.check _ _ _ _ _ _ _ _ hTy (PySem.F.args_dict_init_2 _ _) ?_)) λr2 s2 hr2=>?_
   ·obtain⟨ocls,odict,odata,oslots⟩:=ol;simp only at hcl hdl hdn;subst hcl;subst hdl;subst hdn;have hlS:l<s.heap.objs.size:=ym hol;have hol1:(s.heap.push zre).get? l=some {cls:=.type "list",dict:=none,data:=.seq its nl,slots:=oslots }:=ye _ hol;unfold Builtin.«dict.__init__» Builtin.Dict.selfAndRest Builtin.Dict.updateCommon Builtin.Dict.updateFrom;generalize hGA:getAttr?=GA
    wp_walk
    subst hGA;refine zzk (by simp[hh]) hol1 rfl rfl rfl λh1 tk1 kp1=>?_;dsimp only;rw[if_pos (show(none:Option Value).isNone=true from rfl)];have hS1:=kp1 _ _ hS;have hl1:h1.IsList l its:=⟨_,kp1 _ _ hol1,rfl,nl,rfl⟩
    have hlt1:s.heap.objs.size<h1.objs.size:=ym hS1;have hne:l≠h1.objs.size:=yw (Nat.lt_trans hlS hlt1)
    have hSf:s.heap.objs.size∉[h1.objs.size,l]:=by
     simp only[mem_cons,not_mem_nil,or_false,not_or];exact⟨yw hlt1,Ym hlS⟩
    generalize hPI:pyIter=PI
    wp_walk
    subst hPI;refine wpAny_pyIter_list hl1 ?_;refine yp ⟨plainId_quiet zeg _,?_⟩
    have hD0:Heap.DictOf (z7 prog w) h1 s.heap.objs.size []:=by
     obtain⟨o,es,ep,g,r⟩:=(Heap.DictOf.new (knd:=z7 prog w) s.heap:Heap.DictOf (z7 prog w) (s.heap.push zre) s.heap.objs.size [])
     exact⟨o,es,ep,kp1 _ _ g,r⟩
    refine zzo (Walks.list (by simp[hh]) _ l hne its) s.heap.objs.size hSf kk vv tt hits hb (λj hj=>?_) (its.size-0) 0 _ (by omega) (Yo _) ⟨⟨_,yx _ rfl,rfl,rfl⟩,hl1.push _⟩ ?_ (λj hj=>?_) (λh2 tk2 hk2 hD2=>?_) _
    ·obtain⟨tk,o,ho, -⟩:=hT j hj;have:=ym ho;simp only[mem_cons,not_mem_nil,or_false];exact⟨yw this,yw (Nat.lt_trans this hlt1)⟩
    ·obtain⟨o,es,ep,g,r⟩:=hD0;exact⟨o,es,ep,ye _ g,r⟩
    ·obtain⟨tk,o,ho,r⟩:=hT j hj;exact⟨tk,o,ye _ (kp1 _ _ (ye _ ho)),r⟩
    ·refine⟨rfl,hD2,λb o e=>?_,h2,tk2,rfl⟩;have hlt:b<s.heap.objs.size:=ym e;refine hk2 b o ?_ (ye _ (kp1 _ _ (ye _ e)));simp only[mem_cons,not_mem_nil,or_false,not_or];exact⟨yw hlt,yw (Nat.lt_trans hlt hlt1)⟩
   ·cases r2 with
    |error e=>exact hr2
    |ok fl2=>
     cases fl2 with
     |ret r=>
      obtain⟨rfl,hm⟩:=hr2
      repeat (any_goals (first|assumption|wp_step))
      exact h _ hm
     |_=>exact hr2.elim
  |_=>exact hr.elim
end
section
variable {X:Cx}{e:yz}{es:List yz}{φ ψ:FE}{pos:YR}
def zcj:GL:=λds μ=>match ds with
 |[x]=>(zP μ x).bind λkvs=>some (.loc μ.length,μ++[.dct kvs])
 |_=>none
def zIl:tV X (.type "dict") zcj:=by
 refine tV.of λpins s σ H xs us Q I r ρ ds μ d μ' r1 R e k=>?_;unfold zcj at e
 split at e
 ·obtain⟨kvs,e1,e⟩:=zf e;cases e;obtain⟨v,rr,rfl,q1,q2⟩:=r1.cons_inv;rw[q2.nil_inv]at r;obtain⟨p,vs,rfl,hq,w1,w2⟩:=zoc R q1 e1;obtain⟨u,rfl,ru⟩:=vals1 r;cases ru;obtain⟨hz,hd,us',rel,dd⟩:=zmd I.hok hq;have hf:=I.hok.fresh (yh s.heap.objs.size);refine kt_call_dict hd dd (by rw[<-rel.length];exact hz) λh' dd' hs=>?_;refine⟨.ref s.heap.objs.size,_,I.laid (a:=s.heap.objs.size) (o:=.dK vs) (t':=s.toks) (λb q hq=>(hs.2 b (yw (ym hq))).trans (ye _ hq)) (yh _) ⟨hz,beq_eq_false_iff_ne.mpr (yM (yw (big I))),us',rel,dd'⟩,rfl,k _ _ _ (Ext.push hf) (R.push hf ⟨vs,zt,w1,w2.ext (Ext.push hf)⟩) (.loc (zzb R))⟩
 ·cases e
def z9o:GL:=λds μ=>match ds with
 |[x]=>(zP μ x).bind λkvs=>some (.int kvs.length,μ)
 |_=>none
def zAn:tV X (.builtin "len") z9o:=by
 refine tV.of λpins s σ H xs us Q I r ρ ds μ d μ' r1 R e k=>?_;unfold z9o at e
 split at e
 ·obtain⟨kvs,e1,e⟩:=zf e;cases e;obtain⟨v,rr,rfl,q1,q2⟩:=r1.cons_inv;rw[q2.nil_inv]at r;obtain⟨p,vs,rfl,hq,w1,w2⟩:=zoc R q1 e1;obtain⟨u,rfl,ru⟩:=vals1 r;cases ru;obtain⟨hz,hd,us',rel,dd⟩:=zmd I.hok hq
  have hl:us'.length=kvs.length:=by
   rw[<-rel.length];have:=congrArg xq w1;simpa using this
  have hlt:us'.length<2^63:=by
   rw[<-rel.length];have:=Yh;omega
  refine call_len_dict hd dd (by omega) ?_;rw[hl];exact⟨.int kvs.length,H,I.kept (t':=_) λb o e=>e,⟨_,rfl⟩,k ρ H _ Ext.refl R .int⟩
 ·cases e
def zWu:G2:=λx y μ=>(zP μ x).bind λa=>(zP μ y).bind λb=>bif b.isEmpty then some (.bl (!a.isEmpty),μ) else none
def zUr(hu:X.A.units+64<cLine):OpM X (Yn .NotEq) zWu:=by
 refine OpM.of λpins s σ H x y v u Q I rx ry ρ dx dy μ d μ' r1 r2 R e k=>?_;obtain⟨ka,e1,e⟩:=zf e;obtain⟨kb,e2,e⟩:=zf e;obtain⟨hb,e⟩:=zR e;cases e;obtain⟨p,vs,rfl,hq,w1,w2⟩:=zoc R r1 e1;obtain⟨p',vs',rfl,hq',w1',w2'⟩:=zoc R r2 e2;cases rx;cases ry;obtain⟨hz,hd,us,rel,dd⟩:=zmd I.hok hq;obtain⟨hz',hd',us',rel',dd'⟩:=zmd I.hok hq'
 have hl:us.length=ka.length:=by
  rw[<-rel.length];have:=congrArg xq w1;simpa using this
 have hl':us'.length=0:=by
  rw[<-rel'.length];have:=congrArg xq w1';have hk:kb=[]:=by simpa using hb
  rw[hk]at this;simpa using this
 have hb':(!(us.length==us'.length&&true)) = !ka.isEmpty:=by
  rw[hl',hl];cases ka<;>simp
 refine W.keq_ne (r:=true) hd hd' dd dd' (by omega) (λh=>?_) ?_
 ·rw[hl']at h;have:us=[]:=List.length_eq_zero_iff.mp h;subst this;exact .nil
 ·rw[hb'];exact⟨.bl _,H,I.kept (t':=s.toks) λb o e=>e,rfl,k ρ H _ Ext.refl R .bl⟩
def zFo:D->Option (Int×D)
 |.tup [.int i,d]=>some (i,d)
 |_=>none
def z6q(kk:Nat->Int)(xx:Nat->V):Nat->List (Key×V)
 |0=>[]
 |i+1=>zKc (z6q kk xx i) (yF (kk i)) (xx i)
def zTn(kk:Nat->Int)(dd:Nat->D):Nat->List (Int×D)
 |0=>[]
 |i+1=>zsi (zTn kk dd i) (kk i) (dd i)
def zsp{kk:Nat->Int}{xx:Nat->V}{vv:Nat->Value}{n:Nat}(h:∀j<n,RelV (xx j) (vv j)):∀i≤n,KV (z6q kk xx i) (zfl kk vv i)
 |0,_ =>.nil
 |i+1,hi=>(zsp h i (by omega)).put _ (h i (by omega))
def zEp{K:yt}{ρ:List yb}{H:Hp}{kk:Nat->Int}{xx:Nat->V}{dd:Nat->D}{n:Nat}(h:∀j<n,tm K ρ H (dd j) (xx j)):∀i≤n,(z6q kk xx i).map (·.1)=(zTn kk dd i).map (λp=>yF p.1)/\tf K ρ H ((zTn kk dd i).map (·.2)) ((z6q kk xx i).map (·.2))
 |0,_=>⟨rfl,.nil⟩
 |i+1,hi=>by
  obtain⟨h1,h2⟩:=zEp h i (by omega);exact⟨zlg _ _ _ _ _ h1,zso (h i (by omega)) h1 h2⟩
def pkF(ps:List (Int×D)):Nat->Int:=λi=>(ps.getD i (0,.non)).1
def pdF(ps:List (Int×D)):Nat->D:=λi=>(ps.getD i (0,.non)).2
def zlj:GL:=λds μ=>match ds with
 |[.loc n]=>match μ[n]? with
  |some (.lst xs)=>(xs.mapM zFo).bind λps=>bif decide (ps.length<=4000) then some (.loc μ.length,μ++[.dct (zTn (pkF ps) (pdF ps) ps.length)]) else none
  |_=>none
 |_=>none
def zGk:∀{xs:List D} {ps:List (Int×D)},xs.mapM zFo=some ps->xs.length=ps.length/\∀j<ps.length,xs[j]?=some (.tup [.int (pkF ps j),pdF ps j])
 |[],ps,h=>by
  cases (show some []=some ps from h);exact⟨rfl,λj hj=>absurd hj (by simp)⟩
 |x::xs,ps,h=>by
  rw[mapM_cons]at h;obtain⟨p,e1,h⟩:=zf h;obtain⟨r,e2,h⟩:=zf h;cases h;obtain⟨h1,h2⟩:=zGk (show xs.mapM zFo=some r from e2);refine⟨by simp[h1],λj hj=>?_⟩
  cases j with
  |zero=>
   unfold zFo at e1
   split at e1
   ·cases e1;rfl
   ·cases e1
  |succ j=>exact h2 j (by simpa using hj)
def zbn(kk:Nat->Int)(xx:Nat->V):∀i,(z6q kk xx i).length<=i
 |0=>yh _
 |i+1=>by
  have h1:=zbn kk xx i;have h2:=zJh (z6q kk xx i) (yF (kk i)) (xx i);unfold z6q;omega
def zSh(hc:X.calm=true):tV X (.type "dict") zlj:=by
 refine tV.of λpins s σ H xs us Q I r ρ ds μ d μ' r1 R e k=>?_;unfold zlj at e
 split at e
 ·rename_i n
  split at e
  ·rename_i ys hm
   obtain⟨ps,e1,e⟩:=zf e;obtain⟨hb,e⟩:=zR e;have hb:=of_decide_eq_true hb;cases e;obtain⟨v,rr,rfl,q1,q2⟩:=r1.cons_inv;rw[q2.nil_inv]at r;obtain⟨a,rfl,ea⟩:=q1.tz;obtain⟨u,rfl,ru⟩:=vals1 r;cases ru;obtain⟨vs,hH,rep⟩:=R.at_ _ _ _ ea hm;obtain⟨its,rv,⟨o,nn,ho,hcl,hdn,hda⟩,hz⟩:=I.list (SqL.of hH);obtain⟨hl,hg⟩:=zGk e1;have hlv:ys.length=vs.length:=rep.length;have hli:vs.length=its.length:=rv.length
   have pick:∀j,∃t:yb×Value×V,j<ps.length->its[j]?=some (.ref t.1)/\(∃tk,s.heap.IsTuple t.1 #[.int (pkF ps j) tk,t.2.1])/\RelV t.2.2 t.2.1/\tm X.K ρ H (pdF ps j) t.2.2:=by
    intro j
    by_cases hj:j<ps.length
    ·obtain⟨w,ew,rw⟩:=rep.get (hg j hj);obtain⟨t,zs,rfl,ht,rz⟩:=rw.tU;obtain⟨z1,rz1,rfl,r1',rz⟩:=rz.cons_inv;obtain⟨z2,rz2,rfl,r2',rz⟩:=rz.cons_inv;rw[rz.nil_inv,r1'.int_inv]at ht;obtain⟨_,jts,rj,hj'⟩:=(show tF X.prog X.w H s.heap t (.tup [.int (pkF ps j),z2]) from I.hok t _ ht)
     cases rj with
     |cons b1 rj=>
      cases rj with
      |cons b2 rj=>
       cases rj;obtain⟨tk,rfl⟩:=b1
       rename_i b2v
       obtain⟨w',ew',hr⟩:=rv.get ew;cases hr;exact⟨(t,b2v,z2),λ_=>⟨ew',⟨tk,hj'⟩,b2,r2'⟩⟩
    ·exact⟨(0,.none,.non),λh=>absurd h hj⟩
   obtain⟨f,hf⟩:=Classical.axiomOfChoice pick
   have hsz:its.toArray.size=ps.length:=by
    have:its.toArray.size=its.length:=by simp
    omega
   refine zXk (I.ok.hd hc) ho hcl hda hdn (kk:=pkF ps) (vv:=λj=>(f j).2.1) (tt:=λj=>(f j).1) (λi v ev=>?_) (λj hj=>(hf j (by omega)).2.1) (by rw[hsz];unfold scanBound;omega) λs' ⟨hD,hk,h',tk,es⟩=>?_
   ·have hlt:i<ps.length:=by
     have:=(Array.getElem?_eq_some_iff.mp ev).1;omega
    have ev:its[i]?=some v:=by simpa using ev
    rw[(hf i hlt).1]at ev;cases ev;rfl
   ·subst es;rw[hsz]at hD;have hF:=I.hok.fresh (yh s.heap.objs.size);have hl1:=zbn (pkF ps) (λj=>(f j).2.2) ps.length;have x1:Ext ρ H (ρ++[s.heap.objs.size]) (upd H s.heap.objs.size (.dK (z6q (pkF ps) (λj=>(f j).2.2) ps.length))):=Ext.push hF;have hrep:=zEp (K:=X.K) (kk:=pkF ps) (xx:=λj=>(f j).2.2) (dd:=pdF ps) (n:=ps.length) (λj hj=>((hf j hj).2.2.2).ext x1) ps.length (yh _);have hmi:=Yh;refine⟨.ref s.heap.objs.size,_,I.laid (a:=s.heap.objs.size) (o:=.dK (z6q (pkF ps) (λj=>(f j).2.2) ps.length)) (t':=tk) hk (yh _) ⟨by omega,beq_eq_false_iff_ne.mpr (yM (yw (big I))),_,zsp (λj hj=>(hf j hj).2.2.1) ps.length (yh _),hD⟩,rfl,k _ _ _ x1 (R.push hF ⟨_,zt,hrep.1,hrep.2⟩) (.loc (zzb R))⟩
  ·cases e
 ·cases e
def zVt(td:TE):TE:=λσ H Q=>td σ H λx H1=>∃p vs,x=.ref p/\RdK H1 p vs/\∀q,H1 q=none->Q (.ref q) (upd H1 q (.ext λh=>h.IsItemsView q p))
def zoq{o:yz}{td:TE}{apos:YR}(ho:PE X o td)(hbase:Yt o "items" X.env (yV o X.env)=yV o X.env:=by rfl)(hline:(apos.endLine==pos.line)=true:=by rfl) :
 PE X (.Call (.Attribute o "items" apos) [] [] pos) (zVt td):=by
 intro pins s σ H Q I h;refine wpAny_Call_method (T:="dict") (id:="dict.items") hbase rfl hline PySem.F.plainAttrs_dict PySem.F.slot_dict_items PySem.F.type_dict_items (thn (ho pins s σ H _ I h) λu s1 ⟨x,H1,I1,rx,q⟩=>?_);obtain⟨p,vs,e,hq,k⟩:=q;subst e;cases rx;obtain⟨hz,hd,us,rel,dd⟩:=zmd I1.hok hq;refine⟨dd.typeIs,dd.mapOf.noDict,?_⟩;show yq _ _ (callWith pos (.builtin "dict.items") [.ref p] [] []) _ _ _;have hf:=I1.hok.fresh (yh s1.heap.objs.size);refine PySem.method_meetsIn PySem.F.slot_dict_items PySem.F.entry_dict_items rfl (PySem.evalArgs_none ⟨rfl,dd.typeIs,PySem.F.args_dict_items_1 _,_,meets_dict_items _ p hd,⟨us,dd⟩,?_⟩);refine⟨.ref s1.heap.objs.size,_,I1.laid (a:=s1.heap.objs.size) (t':=s1.toks) (λb o e=>ye _ e) (yh _) (show tF X.prog X.w _ _ _ (.ext λh=>h.IsItemsView s1.heap.objs.size p) from⟨⟨_,yx _ rfl,rfl,rfl⟩,⟨_,yx _ rfl⟩,λh1 h2 ⟨o,a,b⟩ y=>⟨o,y o a,b⟩⟩),rfl,k _ hf⟩
def zTs{P:yu}{w:yI}{k:Key}{v:Value}(h2:(z7 P w).is k v=true):RelV (kV k) v:=by
 cases k with
 |inl n=>
  rcases zX ((z0d P w _ _).symm.trans h2) with ⟨j,t,e1,e2⟩|⟨j,t,e1,e2⟩
  ·cases e1;exact⟨t,e2⟩
  ·cases e1
 |inr n=>
  rcases zX ((z0d P w _ _).symm.trans h2) with ⟨j,t,e1,e2⟩|⟨j,t,e1,e2⟩
  ·cases e1
  ·cases e1;exact⟨t,e2⟩
def z2t{vs:List (Key×V)}{us:List (Key×Value)}(r:KV vs us):∀{j:Nat} {p:Key×V} {q:Key×Value},vs[j]?=some p->us[j]?=some q->p.1=q.1/\RelV p.2 q.2:=by
 unfold KV at r
 induction r with
 |nil=>intro j p q e;simp at e
 |@cons a b as bs h t ih=>
  intro j p q e1 e2
  cases j with
  |zero=>cases e1;cases e2;exact h
  |succ j=>exact ih (by simpa using e1) (by simpa using e2)
def zcq{pins:List (yb×Yw)}{σ:L2.St}{H H':Hp}{s:yd}{h':yR}{tk:Nat}(I:Inv X pins σ H s)(k:∀b u,s.heap.get? b=some u->h'.get? b=some u)(hn:∀b,b<s.heap.objs.size->H' b=H b)
 (new:∀b o,s.heap.objs.size<=b->H' b=some o->tF X.prog X.w H' h' b o):Inv X pins σ H' {s with heap:=h',toks:=tk }:=by
 have lt:∀b o,H b=some o->b<s.heap.objs.size:=λb o e=>by
  rcases Nat.lt_or_ge b s.heap.objs.size with h|h
  ·exact h
  ·rw[I.hok.fresh h]at e;cases e
 refine I.un ⟨λb u q _ _ _=>k b u q,λb u q _ _ _=>⟨u.slots,k b u q⟩,λb u q n _=>by rw[hn b (ym q)];exact n,λb u q _=>⟨u,k b u q⟩,λb xs q=>by rw[hn b (lt b _ q)];exact q,λb o u q=>by rw[hn b (lt b _ q)];exact q,λb ps q=>⟨#[],by rw[hn b (lt b _ q),q];simp⟩⟩ λb o e=>?_;rcases Nat.lt_or_ge b s.heap.objs.size with h|h
 ·rw[hn b h]at e;exact(I.hok b o e).stay (λc v _ r=>k c v r) (λc r=>by rw[hn c (lt c _ r)];exact r) λc xs r=>by rw[hn c (lt c _ r)];exact r
 ·exact new b o h e
def zbh(H:Hp)(as:List yb)(vs:List (Key×V)):Hp:=λb=>if b∈as then(vs[as.idxOf b]?).map (λq=>HO.tup [kV q.1,q.2]) else H b
def z0l(hc:X.calm=true):z7l X (.type "list") (λxs H Q=>∃(q p:yb)(vs:List (Key×V)),xs=[.ref q]/\H q=some (.ext λh=>h.IsItemsView q p)/\RdK H p vs /\
 ∀(n:Nat)(as:List yb),(∀b o,H b=some o->b<n)->as.length=vs.length->as.Pairwise (· < ·)->(∀a∈as,n<a)->Q (.ref n) (upd (zbh H as vs) n (.lst (as.map V.ref)))):=by
 intro pins s σ H xs us Q I r ⟨q,p,vs,e,hv,hq,k⟩;subst e;obtain⟨u,rfl,rx⟩:=vals1 r;cases rx;obtain⟨hv,_,_⟩:=(show tF X.prog X.w H s.heap q (.ext λh=>h.IsItemsView q p) from I.hok q _ hv)
 obtain⟨hz,hd,_⟩:=zmd I.hok hq;obtain⟨us',ep,rel,da⟩:=z2l I.hok hq;have hl:=rel.length
 have lt:∀b o,H b=some o->b<s.heap.objs.size:=λb o e=>by
  rcases Nat.lt_or_ge b s.heap.objs.size with h|h
  ·exact h
  ·rw[I.hok.fresh h]at e;cases e
 refine W.kdx_call (I.ok.hd hc) hv da (by omega) λh' tk acc c as hk hS hla hG hacc=>?_;have hla':as.length=vs.length:=by omega
 refine⟨.ref s.heap.objs.size,_,zcq (tk:=tk) I hk (λb hb=>?_) (λb o hb e=>?_),rfl,k s.heap.objs.size as lt hla' hG.rise hG.above⟩
 ·rw[zr (yw hb)];unfold zbh;rw[if_neg λhm=>Nat.lt_asymm hb (hG.above b hm)]
 ·by_cases hbn:b=s.heap.objs.size
  ·subst hbn;rw[zt]at e;cases e;refine⟨by simp;omega,acc.toList,c,?_,by simpa using hS⟩;rw[hacc];clear hacc hG hla hla' k hS
   induction as with
   |nil=>exact .nil
   |cons a as ih=>exact .cons rfl ih
  ·rw[zr hbn]at e;unfold zbh at e
   split at e
   ·rename_i hm
    have hlt:as.idxOf b<as.length:=List.idxOf_lt_length_iff.mpr hm
    have hga:as[as.idxOf b]?=some b:=by
     rw[yG hlt,List.getElem_idxOf]
    obtain⟨key,kk,x,h1,h2,h3⟩:=hG.pairs _ b hga;obtain⟨qv,e1⟩:∃qv,vs[as.idxOf b]?=some qv:=⟨_,yG (by omega)⟩
    rw[e1]at e;cases e;obtain⟨hr1,hr2⟩:=z2t rel e1 h1;refine⟨by simp[Yh],[key,x],.cons ?_ (.cons hr2 .nil),⟨_,h3,rfl,0,rfl⟩⟩;have hr1:qv.1=kk:=hr1;rw[hr1];exact zTs h2
   ·rw[I.hok.fresh hb]at e;cases e
def zib(kvs:List (Int×D)):List D:=kvs.map λp =>.tup [.int p.1,p.2]
def zVm(φ:FE):FE:=λδ μ=>(φ δ μ).bind λp=>(zP p.2 p.1).bind λkvs=>some (.loc p.2.length,p.2++[.lst (zib kvs)])
def z7k{K:yt}{ρ:List yb}{H H':Hp}:∀{kvs:List (Int×D)} {vs:List (Key×V)} {as:List yb},vs.map (·.1)=kvs.map (λp=>yF p.1)->tf K ρ H (kvs.map (·.2)) (vs.map (·.2))->as.length=vs.length ->
 (∀(j:Nat) a q,as[j]?=some a->vs[j]?=some q->H a=some (.tup [kV q.1,q.2]))->tf K ρ H (zib kvs) (as.map V.ref)
 |[],vs,as,h1,h2,h3,h4=>by
  have:vs=[]:=by simpa using h1
  subst this;have:as=[]:=by simpa using h3
  subst this;exact .nil
 |(i,d)::kvs,[],as,h1,h2,h3,h4=>by simp at h1
 |(i,d)::kvs,(k,x)::vs,[],h1,h2,h3,h4=>by simp at h3
 |(i,d)::kvs,(k,x)::vs,a::as,h1,h2,h3,h4=>by
  rw[map_cons,map_cons,YC]at h1;obtain⟨hk,h1⟩:=h1;have hk:k=yF i:=hk;subst hk;obtain⟨v',r',e',q1,q2⟩:=h2.cons_inv;rw[map_cons,YC]at e';obtain⟨e1,e2⟩:=e';subst e2;have e1:x=v':=e1;subst e1;have h0:=h4 0 a _ rfl rfl;exact .cons (.tup h0 (.cons .int (.cons q1 .nil))) (z7k (H':=H') h1 q2 (by simpa using h3) λj a q e1 e2=>h4 (j+1) a q (by simpa using e1) (by simpa using e2))
def zdr{o:yz}{apos p1 pos2:YR}(hm:X.mg "list"=none)(hv:yL "list"=some (.type "list"))(h:ME X o φ)(hc:X.calm=true:=by rfl)(hg:Gl X "list":=by rfl)
 (hbase:Yt o "items" X.env (yV o X.env)=yV o X.env:=by rfl) (hline:(apos.endLine==pos2.line)=true:=by rfl)
 (he:yf [.Call (.Attribute o "items" apos) [] [] pos2] X.env=(false,yV (.Call (.Attribute o "items" apos) [] [] pos2) X.env)::yf [] X.env:=by rfl) :
 ME X (.Call (.Name "list" p1) [.Call (.Attribute o "items" apos) [] [] pos2] [] pos) (zVm φ) :=
 zud (z6h (z0l hc) hg hm hv (zNf (zoq h hbase hline) zXi he) (by decide) (by decide) he rfl) λρ δ μ σ H d μ' Q A e k=>by
  obtain⟨⟨x,μ1⟩,e1,e⟩:=zf e;refine⟨ρ,δ,μ,x,μ1,A,e1,λρ1 H1 v x1 R1 r1=>?_⟩;dsimp only at e;obtain⟨kvs,e2,e⟩:=zf e;cases e;obtain⟨p,vs,rfl,hq,w1,w2⟩:=zoc R1 r1 e2;refine⟨p,vs,rfl,hq,λq hq0=>?_⟩
  have hqp:p≠q:=by
   rintro rfl;rcases hq with hq|⟨o,hq⟩<;>rw[hq]at hq0<;>cases hq0
  refine⟨q,p,vs,rfl,zt,?_,λn as hlt hl hpw hab=>?_⟩
  ·rcases hq with hq|⟨o,hq⟩
   ·exact .inl (by rw[zr hqp];exact hq)
   ·exact .inr ⟨o,by rw[zr hqp];exact hq⟩
  ·have R2:=R1.Tr (o:=.ext λh=>h.IsItemsView q p) hq0;have x2:Ext ρ1 H1 ρ1 (upd H1 q (.ext λh=>h.IsItemsView q p)):=Ext.new hq0;generalize hH2:upd H1 q (.ext λh=>h.IsItemsView q p)=H2 at hlt R2 x2 ⊢
   have same:∀b o,H2 b=some o->zbh H2 as vs b=some o:=λb o e=>by
    unfold zbh;rw[if_neg λhm=>Nat.lt_asymm (hlt b o e) (hab b hm)];exact e
   have x3:Ext ρ1 H2 ρ1 (zbh H2 as vs):=⟨⟨[],by simp⟩,λa vs e=>same _ _ e,λa o u e=>same _ _ e,λa fs e=>same _ _ e⟩
   have R3:tG X.K ρ1 (zbh H2 as vs) μ1:=R2.other x3 λa ha=>by
    obtain⟨u,e⟩:=R2.mem_some ha;rw[e];exact same _ _ e
   have hn:zbh H2 as vs n=none:=by
    unfold zbh;rw[if_neg λhm=>yQ _ (hab n hm)]
    cases e:H2 n with
    |none=>rfl
    |some o=>exact absurd (hlt n o e) (yQ _)
   have x4:Ext ρ1 (zbh H2 as vs) (ρ1++[n]) (upd (zbh H2 as vs) n (.lst (as.map V.ref))):=Ext.push hn;refine k _ _ _ (x1.trans (x2.trans (x3.trans x4))) (R3.push hn ⟨_,zt,?_⟩) (.loc (zzb R3));refine tf.ext x4 (z7k (H':=H2) w1 (w2.ext (x2.trans x3)) hl λj a qv ea eq=>?_);have hm:a∈as:=mem_of_getElem? ea;have hnd:as.Nodup:=hpw.imp λh=>yw h
   have hix:as.idxOf a=j:=by
    obtain⟨hj,ej⟩:=List.getElem?_eq_some_iff.mp ea;subst ej;exact hnd.idxOf_getElem j hj
   unfold zbh;rw[if_pos hm,hix,eq];rfl
def zPq{pins:List (yb×Yw)}{σ:L2.St}{H:Hp}{s:yd}{p:yb}{o:Yw}{vs:List (Key×V)}(I:Inv X pins σ H s)(hp:H p=some (.frz o (.dK vs)))(h0:∀o u,X.H₀ p≠some (.frz o u)):Inv X pins σ (upd H p (.dK vs)) s:=by
 have nn:∀b,H b=none->b≠p:=λb n z=>by subst z;rw[n]at hp;cases hp
 have b:=I.base;refine⟨I.ok,I.os,I.bare,⟨b.keep,b.slot,λc u q n hx=>?_,b.there,λc xs q=>?_,λc u xs q=>?_,λc ps q=>?_⟩,I.loc,I.cell,?_,λx c e=>?_,λq hq=>?_,λc u e=>?_,I.len⟩
 ·rw[zr (nn c (b.free c u q n hx))];exact b.free c u q n hx
 ·have:=b.tups c xs q;rw[zr (by rintro rfl;rw[hp]at this;cases this)];exact this
 ·rw[zr (by rintro rfl;exact h0 _ _ q)];exact b.Tq c u xs q
 ·obtain⟨more,e⟩:=b.Tw c ps q;exact⟨more,by rw[zr (by rintro rfl;rw[hp]at e;cases e)];exact e⟩
 ·rw[zr (nn _ I.free)];exact I.free
 ·rw[zr (nn _ (I.freeC x c e))];exact I.freeC x c e
 ·obtain⟨a1,a2,a3⟩:=I.pin q hq;exact⟨a1,by rw[zr (nn _ a2)];exact a2,a3⟩
 ·by_cases hc:c=p
  ·subst hc;rw[zt]at e;cases e;obtain⟨_,a1,a2,us,rel,dd⟩:=(show tF X.prog X.w H s.heap c (.frz o (.dK vs)) from I.hok c _ hp)
   exact⟨a1,a2,us,rel,dd⟩
  ·rw[zr hc]at e;refine(I.hok c u e).stay (λ_ _ _ r=>r) (λa r=>?_) λa xs r=>?_
   ·rw[zr (by rintro rfl;rw[hp]at r;cases r)];exact r
   ·rw[zr (by rintro rfl;rw[hp]at r;cases r)];exact r
section
variable {K:yt}{ρ:List yb}{H H':Hp}
mutual
def tm.sd(h1:∀a vs,H a=some (.tup vs)->H' a=some (.tup vs))(h2:∀a vs,FzL K H a vs->FzL K H' a vs):∀{d:D} {v:V},tm K ρ H d v->tm K ρ H' d v
 |.non,_,h=>by unfold tm at h ⊢;exact h
 |.bl _,_,h=>by unfold tm at h ⊢;exact h
 |.int _,_,h=>by unfold tm at h ⊢;exact h
 |.str _,_,h=>by unfold tm at h ⊢;exact h
 |.ty _,_,h=>by unfold tm at h ⊢;exact h
 |.tup ds,_,h=>by
  unfold tm at h ⊢;obtain⟨a,vs,e1,e2,r⟩:=h;exact⟨a,vs,e1,h1 _ _ e2,tf.sd h1 h2 r⟩
 |.fz ds,_,h=>by
  unfold tm at h ⊢;obtain⟨a,vs,e1,e2,r⟩:=h;exact⟨a,vs,e1,h2 _ _ e2,tf.sd h1 h2 r⟩
 |.loc n,_,h=>by unfold tm at h ⊢;exact h
 |.own c,_,h=>by unfold tm at h ⊢;exact h
def tf.sd(h1:∀a vs,H a=some (.tup vs)->H' a=some (.tup vs))(h2:∀a vs,FzL K H a vs->FzL K H' a vs):∀{ds:List D} {vs:List V},tf K ρ H ds vs->tf K ρ H' ds vs
 |[],_,h=>by unfold tf at h ⊢;exact h
 |d::ds,_,h=>by
  unfold tf at h ⊢;obtain⟨v,r,e1,q1,q2⟩:=h;exact⟨v,r,e1,tm.sd h1 h2 q1,tf.sd h1 h2 q2⟩
end
def zKp{p a:yb}{o:Yw}{vs:List (Key×V)}{lo:tw}(hp:H p=some (.frz o (.dK vs)))(hap:a≠p)(h:su K ρ H a lo):su K ρ (upd H p (.dK vs)) a lo:=by
 have h1:∀a xs,H a=some (.tup xs)->(upd H p (.dK vs)) a=some (.tup xs):=λa xs e=>by rw[zr (by rintro rfl;rw[hp]at e;cases e)];exact e
 have h2:∀a xs,FzL K H a xs->FzL K (upd H p (.dK vs)) a xs:=λa xs e=>by
  rcases e with ⟨o',e⟩|e
  ·exact .inl ⟨o',by rw[zr (by rintro rfl;rw[hp]at e;cases e)];exact e⟩
  ·exact .inr e
 have s:upd H p (.dK vs) a=H a:=zr hap
 cases lo with
 |lst ds=>obtain⟨vs,q,r⟩:=h;exact⟨vs,s.trans q,r.sd h1 h2⟩
 |dct kvs=>obtain⟨vs,q,q2,r⟩:=h;exact⟨vs,s.trans q,q2,r.sd h1 h2⟩
 |dcf kvs=>obtain⟨o,vs,q,q2,r⟩:=h;exact⟨o,vs,s.trans q,q2,r.sd h1 h2⟩
 |exc c fs=>
  obtain⟨C,dx,n,q,r⟩:=h;refine⟨C,dx,n,s.trans q,?_⟩;rcases r with r|⟨p',vs',e1,e2,e3,r⟩
  ·exact .inl r
  ·exact .inr ⟨p',vs',e1,by rw[zr (by rintro rfl;rw[hp]at e2;cases e2)];exact e2,e3,r.sd h1 h2⟩
 |ins c fs=>obtain⟨C,dx,vs,n,q,q2,r⟩:=h;exact⟨C,dx,vs,n,s.trans q,q2,r.sd h1 h2⟩
end
def ztp(n:Nat)(μ:Mem):Mem:=match μ[n]? with
 |some (.dcf kvs)=>μ.set n (.dct kvs)
 |_=>μ
def zXl(i:Nat)(φ:FE):FE:=λδ μ=>match δ[i]? with
 |some (some (.loc n))=>match μ[n]? with
  |some (.dct _)=>(φ δ μ).bind λp=>some (p.1,ztp n p.2)
  |_=>φ δ μ
 |_=>φ δ μ
def zMo(i:Nat)(h:ME X e φ):ME X e (zXl i φ):=by
 intro pins s σ H Q I hh;obtain⟨ρ,δ,μ,d,μ',A,e,k⟩:=hh;unfold zXl at e
 split at e
 ·rename_i n hd
  split at e
  ·rename_i kv0 hm
   obtain⟨⟨x,μ1⟩,e1,e⟩:=zf e;cases e;obtain⟨w,hw,rw⟩:=A.st i _ hd;obtain⟨p,rfl,ep⟩:=rw.tz;obtain⟨vs0,hp0,_⟩:=A.hp.at_ _ _ _ ep hm
   have h0:∀o u,X.H₀ p≠some (.frz o u):=λo u e=>by
    have:=I.base.Tq _ _ _ e;rw[hp0]at this;cases this
   refine thn (h pins s σ H (λv H'=>∃ρ',Ext ρ H ρ' H'/\tG X.K ρ' H' μ1/\tm X.K ρ' H' x v) I ⟨ρ,δ,μ,x,μ1,A,e1,λρ' H' v x1 R1 r1=>⟨ρ',x1,R1,r1⟩⟩) λu s1 ⟨v,H1,I1,rv,ρ1,x1,R1,r1⟩=>?_;have ep1:=x1.get ep;unfold ztp at k
   split at k
   ·rename_i kvs hm1
    obtain⟨o,vs,hp1,q1,q2⟩:=R1.at_ _ _ _ ep1 hm1;have I2:=zPq I1 hp1 h0;have h1:∀a xs,H1 a=some (.tup xs)->(upd H1 p (.dK vs)) a=some (.tup xs):=λa xs e=>by rw[zr (by rintro rfl;rw[hp1]at e;cases e)];exact e
    have h2:∀a xs,FzL X.K H1 a xs->FzL X.K (upd H1 p (.dK vs)) a xs:=λa xs e=>by
     rcases e with ⟨o',e⟩|e
     ·exact .inl ⟨o',by rw[zr (by rintro rfl;rw[hp1]at e;cases e)];exact e⟩
     ·exact .inr e
    refine⟨v,_,I2,rv,k ρ1 _ v ⟨x1.pre,λa xs e=>h1 _ _ (x1.tup _ _ e),λa o' u e=>?_,λa fs e=>?_⟩ ⟨R1.nd,by simp[R1.len],λm a lo e1 e2=>?_⟩ (r1.sd h1 h2)⟩
    ·have hne:a≠p:=by rintro rfl;rw[hp0]at e;cases e
     rw[zr hne];exact x1.frz _ _ _ e
    ·have e':=x1.xd _ _ e;rw[zr (by rintro rfl;rw[hp1]at e';cases e')];exact e'
    ·by_cases hmn:m=n
     ·subst hmn;rw[ep1]at e1;cases e1;rw[yO (List.getElem?_eq_some_iff.mp hm1).1]at e2;cases e2;exact⟨vs,zt,q1,q2.sd h1 h2⟩
     ·rw[yP (yM hmn)]at e2
      have hap:a≠p:=by
       rintro rfl;obtain⟨z1,y1⟩:=List.getElem?_eq_some_iff.mp e1;obtain⟨z2,y2⟩:=List.getElem?_eq_some_iff.mp ep1;exact hmn ((List.getElem_inj R1.nd).mp (y1.trans y2.symm))
      exact zKp hp1 hap (R1.at_ m a lo e1 e2)
   ·exact⟨v,H1,I1,rv,k ρ1 H1 v x1 R1 r1⟩
  ·exact h pins s σ H Q I ⟨ρ,δ,μ,d,μ',A,e,k⟩
 ·exact h pins s σ H Q I ⟨ρ,δ,μ,d,μ',A,e,k⟩
end
@[simp] theorem zav{i j:Int}(h1:-18446744073709551616<j)(h2:j<18446744073709551616):zOf i j=true:=by
 unfold zOf;rw[decide_eq_true (p:=-(2^64)<j/\j<2^64) ⟨by omega,by omega⟩];simp
@[simp] theorem zNo{i j:Int}(h1:-18446744073709551616<i)(h2:i<18446744073709551616):zOf i j=true:=by
 unfold zOf;rw[decide_eq_true (p:=-(2^64)<i/\i<2^64) ⟨by omega,by omega⟩];simp
def zus{μ g:Mem}{n:Nat}(h:n<μ.length):(μ++g)[n]?=μ[n]?:=yk h
def zck{μ g:Mem}{n:Nat}{o:tw}(h:μ[n]?=some o):(μ++g)[n]?=some o:=by
 rw[zus (List.getElem?_eq_some_iff.mp h).1];exact h
mutual
def zfm:∀p:xm,p.canLay0=true->Yj p p=true
 |.none,_=>rfl
 |.bool b,_=>by simp[Yj]
 |.int b,_=>by simp[Yj]
 |.str b,_=>by simp[Yj]
 |.list xs,h=>by
  unfold Yj;exact eqvAll_refl xs (by simpa[PyData.canLay0] using h)
 |.tuple xs,h=>by
  unfold Yj;exact eqvAll_refl xs (by simpa[PyData.canLay0] using h)
 |.dict _,h=>by simp[PyData.canLay0]at h
def eqvAll_refl:∀ps:List xm,xJ ps=true->xB ps ps=true
 |[],_=>rfl
 |p::ps,h=>by
  simp only[xJ,yN]at h;unfold xB;rw[zfm p h.1,eqvAll_refl ps h.2];rfl
end
def z9q{x y:D}{μ:Mem}{p:xm}(h1:toP μ 8 x=some p)(h2:toP μ 8 y=some p):gNe x y μ=some (.bl false,μ):=by
 unfold gNe;rw[h1,h2];simp[zfm p (zci 8 x p h1).1]
def zqu{K:yt}{F:FF}{H:Hp}{a:yb}{ns:List Int}(hF:∃μ',F [.fz (ns.map D.int)] []=some (.bl true,μ'))(hO:z0u H)(hS:SqL K H a (ns.map V.int)):spM K 1 F [.ref a] H (λv _=>v=.bl true) λ_ _ _=>False:=by
 obtain⟨μ',e⟩:=hF
 have fz:FzL K H a (ns.map V.int):=by
  rcases hS with (h|⟨o,h⟩)|h
  ·rcases hO a with z|⟨o,xs,z⟩
   ·rw[h]at z;cases z
   ·rw[h]at z;cases z
  ·exact .inl ⟨o,h⟩
  ·exact .inr h
 have hints:∀ns:List Int,tf K [] H (ns.map D.int) (ns.map V.int):=λns=>by
  induction ns with
  |nil=>exact .nil
  |cons i r ih=>exact .cons .int ih
 exact⟨rfl,[],[.fz (ns.map D.int)],[],.bl true,μ',.cons (.fz fz (hints ns)) .nil,⟨List.nodup_nil,rfl,λn a o h1 _=>by simp at h1⟩,e,λρ' H' v _ _ r=>r.tO⟩
structure WE(φ:FE)(δ:Loc)(μ:Mem)(Q:D->Mem->Prop):Prop where
 ex:∃d μ',φ δ μ=some (d,μ')/\Q d μ'
structure WT(φ:FT)(δ:Loc)(μ:Mem)(Q:Bool->Mem->Prop):Prop where
 ex:∃d μ',φ δ μ=some (d,μ')/\Q d μ'
structure WA(φ:FA)(δ:Loc)(μ:Mem)(Q:List D->Mem->Prop):Prop where
 ex:∃d μ',φ δ μ=some (d,μ')/\Q d μ'
structure WO(φ:FO)(δ:Loc)(μ:Mem)(Q:Option Int->Mem->Prop):Prop where
 ex:∃d μ',φ δ μ=some (d,μ')/\Q d μ'
structure W2(g:G2)(x y:D)(μ:Mem)(Q:D->Mem->Prop):Prop where
 ex:∃d μ',g x y μ=some (d,μ')/\Q d μ'
structure WF(F:FF)(ds:List D)(μ:Mem)(Q:D->Mem->Prop):Prop where
 ex:∃d μ',F ds μ=some (d,μ')/\Q d μ'
structure WM(g:GM)(x:D)(ds:List D)(μ:Mem)(Q:D->Mem->Prop):Prop where
 ex:∃d μ',g x ds μ=some (d,μ')/\Q d μ'
structure WI(i:FI)(δ:Loc)(μ:Mem)(Q:List D->(Mem->Bool)->Mem->Prop):Prop where
 ex:∃ds ok μ',i δ μ=some (ds,ok,μ')/\Q ds ok μ'
structure WG(g:FG)(d:D)(δ:Loc)(μ:Mem)(Q:Loc->Mem->Prop):Prop where
 ex:∃δ' μ',g d δ μ=some (δ',μ')/\Q δ' μ'
structure WGs(g:FGs)(ds:List D)(δ:Loc)(μ:Mem)(Q:Loc->Mem->Prop):Prop where
 ex:∃δ' μ',g ds δ μ=some (δ',μ')/\Q δ' μ'
structure WL(g:FG)(c:FT)(φ:FE)(ok:Mem->Bool)(δ:Loc)(xs ys:List D)(μ:Mem)(Q:D->Mem->Prop):Prop where
 ex:∃d μ',zVp g c φ ok δ xs ys μ=some (d,μ')/\Q d μ'
def Ek(nx:Loc->Mem->Prop)(rt:D->Mem->Prop)(bk ct:Loc->Mem->Prop):Out->Prop
 |.next δ μ=>nx δ μ
 |.ret d μ=>rt d μ
 |.brk δ μ=>bk δ μ
 |.cont δ μ=>ct δ μ
 |.exc _ _ _=>False
structure WS(ψ:FS)(δ:Loc)(μ:Mem)(nx:Loc->Mem->Prop)(rt:D->Mem->Prop)(bk ct:Loc->Mem->Prop):Prop where
 ex:∃o,ψ δ μ=some o/\Ek nx rt bk ct o
structure WFor(g:FG)(body:FS)(ok:Mem->Bool)(xs:List D)(δ:Loc)(μ:Mem)(nx:Loc->Mem->Prop)(rt:D->Mem->Prop):Prop where
 ex:∃o,zvg g body ok xs δ μ=some o/\Ek nx rt (λ_ _=>False) (λ_ _=>False) o
def tq(μ μ':Mem):Prop:=∀(n:Nat)(o:tw),μ[n]?=some o->μ'[n]?=some o
def tq.refl{μ:Mem}:tq μ μ:=λ_ _ h=>h
def tq.trans{μ μ1 μ2:Mem}(a:tq μ μ1)(b:tq μ1 μ2):tq μ μ2:=λn o h=>b n o (a n o h)
def tq.app{μ g:Mem}:tq μ (μ++g):=λ_ _ h=>zck h
def tq.to{μ μ1 g:Mem}(a:tq μ μ1):tq μ (μ1++g):=a.trans .app
def tq.len{μ μ':Mem}(a:tq μ μ'):μ.length<=μ'.length:=by
 rcases Nat.lt_or_ge μ'.length μ.length with h|h
 ·have:=a μ'.length μ[μ'.length] (by simp[h]);simp at this
 ·exact h
def zz{μ:Mem}{o:tw}:(μ++[o])[μ.length]?=some o:=by simp
def zH{μ:Mem}{n:Nat}{o:tw}(h:μ[n]?=some o):n<μ.length:=(List.getElem?_eq_some_iff.mp h).1
def zjb{μ:Mem}{n m:Nat}{o o':tw}(h:μ[n]?=some o)(hne:m≠n):(μ.set m o')[n]?=some o:=by
 rw[yP hne];exact h
def zV{μ:Mem}{n:Nat}{o o':tw}(h:μ[n]?=some o):(μ.set n o')[n]?=some o':=by
 rw[yO (zH h)]
def zM{μ:Mem}{n:Nat}{ds:List D}(h:μ[n]?=some (.lst ds)):items μ (.loc n)=some ds:=by simp[h]
section
variable {φ ψ χ:FE}{g g2:G2}{δ:Loc}{μ:Mem}{Q:D->Mem->Prop}{i j:Int}{d x y:D}{ds xs:List D}
def zd{n:Nat}(h:δ[n]?=some (some d))(q:Q d μ):WE (zk n) δ μ Q:=⟨d,μ,by simp[h],q⟩
def w_c(q:Q d μ):WE (fC d) δ μ Q:=⟨d,μ,rfl,q⟩
def zq(h:WE φ δ μ λx μ1=>WE ψ δ μ1 λy μ2=>W2 g x y μ2 Q):WE (zJ g φ ψ) δ μ Q:=by
 obtain⟨x,μ1,e1,y,μ2,e2,d,μ3,e3,q⟩:=h;exact⟨d,μ3,by simp[e1,e2,e3],q⟩
def zGq(h:WE φ δ μ λx μ1=>∃b,x=.bl b/\(b=true->WE ψ δ μ1 Q)/\(b=false->Q (.bl false) μ1)):WE (zZt φ ψ) δ μ Q:=by
 obtain⟨x,μ1,e1,b,rfl,h1,h2⟩:=h
 cases b with
 |true=>obtain⟨d,μ2,e2,q⟩:=h1 rfl;exact⟨d,μ2,by simp[e1,e2],q⟩
 |false=>exact⟨_,μ1,by simp[e1],h2 rfl⟩
def zXv(h:WE φ δ μ λx μ1=>∃b,x=.bl b/\(b=false->WE ψ δ μ1 Q)/\(b=true->Q (.bl true) μ1)):WE (fOr φ ψ) δ μ Q:=by
 obtain⟨x,μ1,e1,b,rfl,h1,h2⟩:=h
 cases b with
 |false=>obtain⟨d,μ2,e2,q⟩:=h1 rfl;exact⟨d,μ2,by simp[e1,e2],q⟩
 |true=>exact⟨_,μ1,by simp[e1],h2 rfl⟩
def w_not(h:WE φ δ μ λx μ1=>∃b,x=.bl b/\Q (.bl (!b)) μ1):WE (zdw φ) δ μ Q:=by
 obtain⟨x,μ1,e1,b,rfl,q⟩:=h;exact⟨_,μ1,by simp[e1],q⟩
def zvv(h:WE φ δ μ λx μ1=>∃i,x=.int i/\Q (.int (-i)) μ1):WE (zcw φ) δ μ Q:=by
 obtain⟨x,μ1,e1,b,rfl,q⟩:=h;exact⟨_,μ1,by simp[e1],q⟩
def zxi{α:FA}(h:WA α δ μ λds μ1=>Q (.tup ds) μ1):WE (zCn α) δ μ Q:=by
 obtain⟨x,μ1,e1,q⟩:=h;exact⟨_,μ1,by simp[e1],q⟩
def z6g{α:FA}(h:WA α δ μ λds μ1=>Q (.loc μ1.length) (μ1++[.lst ds])):WE (zkl α) δ μ Q:=by
 obtain⟨x,μ1,e1,q⟩:=h;exact⟨_,_,by simp[e1]<;>rfl,q⟩
def zSq(h:Q (.loc μ.length) (μ++[.dct []])):WE zqt δ μ Q:=⟨_,_,rfl,h⟩
def z5u{R:Option Int->Mem->Prop}(q:R none μ):WO pNo δ μ R:=⟨_,_,rfl,q⟩
def z0t{R:Option Int->Mem->Prop}(h:WE φ δ μ λx μ1=>∃i,x=.int i/\R (some i) μ1):WO (zfw φ) δ μ R:=by
 obtain⟨x,μ1,e1,i,rfl,q⟩:=h;exact⟨_,_,by simp[e1]<;>rfl,q⟩
def zn{F:FF}{α:FA}(h:WA α δ μ λds μ1=>WF F ds μ1 Q):WE (zx F α) δ μ Q:=by
 obtain⟨ds,μ1,e1,d,μ2,e2,q⟩:=h;exact⟨d,μ2,by simp[e1,e2],q⟩
def zEm{m:GM}{α:FA}(h:WE φ δ μ λx μ1=>∃n xs,x=.loc n/\μ1[n]?=some (.lst xs)/\WA α δ μ1 λds μ2=>WM m (.loc n) ds μ2 Q):WE (zok m φ α) δ μ Q:=by
 obtain⟨x,μ1,e1,n,xs,rfl,e2,ds,μ2,e3,d,μ3,e4,q⟩:=h;exact⟨d,μ3,by simp[e1,e2,e3,e4],q⟩
def z5o{n:Nat}{fr:List Nat}{it:FI}{tg:FG}{c:FT}(h:WI it δ μ λds ok μ1=>few ds=true/\WL tg c φ ok (δC n fr δ) ds [] μ1 Q):WE (fLC n fr it tg c φ) δ μ Q:=by
 obtain⟨ds,ok,μ1,e1,hf,d,μ2,e2,q⟩:=h;exact⟨d,μ2,by unfold fLC;simp only[e1,yg,hf,cond_true];exact e2,q⟩
def zN{R:Bool->Mem->Prop}(h:WE φ δ μ λx μ1=>∃b,x=.bl b/\R b μ1):WT (zZ φ) δ μ R:=by
 obtain⟨x,μ1,e1,b,rfl,q⟩:=h;exact⟨_,_,by simp[e1]<;>rfl,q⟩
def zWm{c e:FT}{R:Bool->Mem->Prop}(h:WT c δ μ λb μ1=>(b=true->WT e δ μ1 R)/\(b=false->R false μ1)):WT (zxn c e) δ μ R:=by
 obtain⟨b,μ1,e1,h1,h2⟩:=h
 cases b with
 |true=>obtain⟨d,μ2,e2,q⟩:=h1 rfl;exact⟨d,μ2,by simp[e1,e2],q⟩
 |false=>exact⟨_,μ1,by simp[e1],h2 rfl⟩
def zah{c e:FT}{R:Bool->Mem->Prop}(h:WT c δ μ λb μ1=>(b=false->WT e δ μ1 R)/\(b=true->R true μ1)):WT (zIn c e) δ μ R:=by
 obtain⟨b,μ1,e1,h1,h2⟩:=h
 cases b with
 |false=>obtain⟨d,μ2,e2,q⟩:=h1 rfl;exact⟨d,μ2,by simp[e1,e2],q⟩
 |true=>exact⟨_,μ1,by simp[e1],h2 rfl⟩
def zHe{c:FT}{R:Bool->Mem->Prop}(h:WT c δ μ λb μ1=>R (!b) μ1):WT (zKf c) δ μ R:=by
 obtain⟨b,μ1,e1,q⟩:=h;exact⟨_,_,by simp[e1]<;>rfl,q⟩
def zlt{R:Bool->Mem->Prop}(q:R true μ):WT zgk δ μ R:=⟨_,_,rfl,q⟩
def zo{R:List D->Mem->Prop}(q:R [] μ):WA zL δ μ R:=⟨_,_,rfl,q⟩
def ze{α:FA}{R:List D->Mem->Prop}(h:WE φ δ μ λx μ1=>WA α δ μ1 λxs μ2=>R (x::xs) μ2):WA (zi φ α) δ μ R:=by
 obtain⟨x,μ1,e1,xs,μ2,e2,q⟩:=h;exact⟨_,_,by simp[e1,e2]<;>rfl,q⟩
def zAf(q:Q (.int (i+j)) μ):W2 zIf (.int i) (.int j) μ Q:=⟨_,_,rfl,q⟩
def z2o{l m:Nat}{as bs:List D}(h1:μ[l]?=some (.lst as))(h2:μ[m]?=some (.lst bs))(h:as.length+bs.length<=1000000)(q:Q (.loc μ.length) (μ++[.lst (as++bs)])):W2 zIf (.loc l) (.loc m) μ Q:=⟨_,_,by simp[h1,h2,h]<;>rfl,q⟩
def zFs(q:Q (.int (i-j)) μ):W2 zWq (.int i) (.int j) μ Q:=⟨_,_,rfl,q⟩
def zzi(h:zOf i j=true)(q:Q (.int (i*j)) μ):W2 zti (.int i) (.int j) μ Q:=⟨_,_,by simp[zti,h]<;>rfl,q⟩
def z9g(h:0<j)(q:Q (.int (i%j)) μ):W2 z4j (.int i) (.int j) μ Q:=⟨_,_,by simp[h]<;>rfl,q⟩
def zFq(h:0<j)(h':j<1606938044258990275541962092341162602522202993782792835301376)(q:Q (.int (i / j)) μ):W2 zis (.int i) (.int j) μ Q:=⟨_,_,by simp[h,h']<;>rfl,q⟩
def zYt(h:0<=j)(h1:j<=100000)(h2:i.natAbs<1606938044258990275541962092341162602522202993782792835301376)(q:Q (.int (i^j.toNat)) μ):W2 zst (.int i) (.int j) μ Q:=⟨_,_,by simp only[zst];rw[decide_eq_true ⟨h,h1,h2⟩];rfl,q⟩
def zbk{r:Int->Int->Bool}(q:Q (.bl (r i j)) μ):W2 (zRn r) (.int i) (.int j) μ Q:=⟨_,_,rfl,q⟩
def zoe(h:items μ x=some xs)(h2:atI xs i=some d)(q:Q d μ):W2 gIx x (.int i) μ Q:=⟨_,_,by show((items μ x).bind λds=>(atI ds i).bind λd=>some (d,μ))=_;rw[h,yg,h2,yg],q⟩
def z3g(q:Q (.bl (i==j)) μ):W2 gEq (.int i) (.int j) μ Q:=⟨_,_,by simp[gEq,toP,Yj]<;>rfl,q⟩
def zln(q:Q (.bl (!(i==j))) μ):W2 gNe (.int i) (.int j) μ Q:=⟨_,_,by simp[gNe,toP,Yj]<;>rfl,q⟩
def zAv{p:xm}(h1:toP μ 8 x=some p)(h2:toP μ 8 y=some p)(q:Q (.bl false) μ):W2 gNe x y μ Q:=⟨_,_,z9q h1 h2,q⟩
def zUv{p p':xm}(h1:toP μ 8 x=some p)(h2:toP μ 8 y=some p')(q:Q (.bl (Yj p p')) μ):W2 gEq x y μ Q:=⟨_,_,by simp[gEq,h1,h2]<;>rfl,q⟩
def zkw{p p':xm}(h1:toP μ 8 x=some p)(h2:toP μ 8 y=some p')(q:Q (.bl (!PyData.eqv p p')) μ):W2 gNe x y μ Q:=⟨_,_,by simp[gNe,h1,h2]<;>rfl,q⟩
def zSt{a b:Bool}(q:Q (.bl (a==b)) μ):W2 gIs (.bl a) (.bl b) μ Q:=⟨_,_,rfl,q⟩
def zsm{a b:Bool}(q:Q (.bl (a != b)) μ):W2 zdj (.bl a) (.bl b) μ Q:=⟨_,_,rfl,q⟩
def zmt(h:items μ y=some xs)(h1:z5d x=true)(h2:xs.all z5d=true)(q:Q (.bl (!xs.any λd=>eqF d x)) μ):W2 zal x y μ Q:=⟨_,_,by simp only[zal,h,yg,h1,h2,Bool.and_self,cond_true],q⟩
def zwg(h:items μ x=some xs)(q:Q (.int xs.length) μ):WF zik [x] μ Q:=⟨_,_,by show((items μ x).bind λxs=>some (D.int xs.length,μ))=_;rw[h,yg],q⟩
def zir(h:items μ x=some xs)(q:Q (.loc μ.length) (μ++[.lst xs])):WF zcr [x] μ Q:=⟨_,_,by show((items μ x).bind λxs=>some (D.loc μ.length,μ++[tw.lst xs]))=_;rw[h,yg],q⟩
def zDh(h:items μ x=some xs)(q:Q (.tup xs) μ):WF znf [x] μ Q:=by
 refine⟨_,_,?_,q⟩;cases x<;>first|(cases h;rfl)|(simp only[znf,h];rfl)
def z2s{c t:Ty}(h:zYu μ x=some t)(q:Q (.bl (zCv t c)) μ):WF (zlo c) [x,.ty c.name] μ Q:=⟨_,_,by simp only[zlo,beq_self_eq_true,cond_true,h,yg],q⟩
def zxj{n:Nat}(h:μ[n]?=some (.lst xs))(hl:xs.length<=1000000)(q:Q .non (μ.set n (.lst (xs++[d])))):WM zMf (.loc n) [d] μ Q:=⟨_,_,by simp[h,hl]<;>rfl,q⟩
def zQc{F:FF}{N:List yr}{p:FS}(hF:F=λds μ=>zGc (p (zU N ds) μ))(h:WS p (zU N ds) μ (λ_ μ'=>Q .non μ') Q (λ_ _=>False) λ_ _=>False):WF F ds μ Q:=by
 subst hF;obtain⟨o,e,k⟩:=h
 cases o with
 |next δ' μ'=>exact⟨_,_,by rw[e];rfl,k⟩
 |ret d μ'=>exact⟨_,_,by rw[e];rfl,k⟩
 |brk _ _=>exact k.elim
 |cont _ _=>exact k.elim
 |exc _ _ _=>exact k.elim
def zmi{α:FA}{R:List D->(Mem->Bool)->Mem->Prop}(h:WA α δ μ λds μ1=>∃j:Int,ds=[.int j]/\-(2^62)<=j/\j<2^62/\R ((Yc j.toNat).map λ(k:Nat) =>.int k) yes μ1):WI (zog α) δ μ R:=by
 obtain⟨ds,μ1,e1,j,rfl,h1,h2,q⟩:=h;refine⟨_,_,_,?_,q⟩;unfold zog;simp only[e1,yg];rw[decide_eq_true ⟨h1,h2⟩];rfl
def zDg{R:List D->(Mem->Bool)->Mem->Prop}(h:WE φ δ μ λx μ1=>(∃ds,x=.tup ds/\R ds yes μ1)\/(∃ds,x=.fz ds/\R ds yes μ1)\/∃n ds,x=.loc n/\μ1[n]?=some (.lst ds)/\R ds (zWk n ds) μ1):WI (zBg φ) δ μ R:=by
 obtain⟨x,μ1,e1,⟨ds,rfl,q⟩|⟨ds,rfl,q⟩|⟨n,ds,rfl,e2,q⟩⟩:=h
 ·exact⟨_,_,_,by simp[e1]<;>rfl,q⟩
 ·exact⟨_,_,_,by simp[e1]<;>rfl,q⟩
 ·exact⟨_,_,_,by simp[e1,e2]<;>rfl,q⟩
def zPf{n:Nat}{R:Loc->Mem->Prop}(q:R (δ.set n (some d)) μ):WG (gN n) d δ μ R:=⟨_,_,rfl,q⟩
def zZv{n:Nat}{gs:FGs}{R:Loc->Mem->Prop}(hl:ds.length=n)(h:WGs gs ds δ μ R):WG (gT n gs) (.tup ds) δ μ R:=by
 obtain⟨δ',μ',e,q⟩:=h;exact⟨δ',μ',by simp[hl,e],q⟩
def zOq{gs:FGs}{R:Loc->Mem->Prop}{a b:D}(h:WGs gs [a,b] δ μ R):WG (gT 2 gs) (.tup [a,b]) δ μ R:=zZv rfl h
def zgv{gs:FGs}{R:Loc->Mem->Prop}{a b c:D}(h:WGs gs [a,b,c] δ μ R):WG (gT 3 gs) (.tup [a,b,c]) δ μ R:=zZv rfl h
def zSo{R:Loc->Mem->Prop}(q:R δ μ):WGs z4g [] δ μ R:=⟨_,_,rfl,q⟩
def zUh{t:FG}{gs:FGs}{R:Loc->Mem->Prop}(h:WG t d δ μ λδ1 μ1=>WGs gs ds δ1 μ1 R):WGs (zfc t gs) (d::ds) δ μ R:=by
 obtain⟨δ1,μ1,e1,δ2,μ2,e2,q⟩:=h;exact⟨δ2,μ2,by simp[e1,e2],q⟩
end
section
variable {φ ψ:FE}{δ:Loc}{μ:Mem}{nx:Loc->Mem->Prop}{rt:D->Mem->Prop}{bk ct:Loc->Mem->Prop}{p q:FS}
def zPb(h:nx δ μ):WS zCc δ μ nx rt bk ct:=⟨.next δ μ,rfl,h⟩
def zF(h:WS p δ μ (λδ' μ'=>WS q δ' μ' nx rt bk ct) rt bk ct):WS (znb p q) δ μ nx rt bk ct:=by
 obtain⟨o,e,k⟩:=h
 cases o with
 |next δ' μ'=>obtain⟨o2,e2,k2⟩:=k;exact⟨o2,by simp[e,e2],k2⟩
 |ret d μ'=>exact⟨.ret d μ',by simp only[znb,e],k⟩
 |brk d μ'=>exact⟨.brk d μ',by simp only[znb,e],k⟩
 |cont d μ'=>exact⟨.cont d μ',by simp only[znb,e],k⟩
 |exc _ _ _=>exact k.elim
def zsb{n:Nat}(h:WE φ δ μ λd μ'=>nx (δ.set n (some d)) μ'):WS (zDc n φ) δ μ nx rt bk ct:=by
 obtain⟨d,μ',e,k⟩:=h;exact⟨.next _ _,by simp only[zDc,e,yg],k⟩
def zVj{g:FG}(h:WE φ δ μ λd μ1=>WG g d δ μ1 nx):WS (zSn φ g) δ μ nx rt bk ct:=by
 obtain⟨d,μ1,e,δ',μ2,e2,k⟩:=h;exact⟨.next _ _,by simp only[zSn,e,yg,e2],k⟩
def z6k(h:WE φ δ μ λ_ μ'=>nx δ μ'):WS (zUl φ) δ μ nx rt bk ct:=by
 obtain⟨d,μ',e,k⟩:=h;exact⟨.next _ _,by simp only[zUl,e,yg],k⟩
def zJc(h:WE φ δ μ rt):WS (zUc φ) δ μ nx rt bk ct:=by
 obtain⟨d,μ',e,k⟩:=h;exact⟨.ret _ _,by simp only[zUc,e,yg],k⟩
def zri{c:FT}(h:WT c δ μ λb μ1=>(b=true->WS p δ μ1 nx rt bk ct)/\(b=false->WS q δ μ1 nx rt bk ct)):WS (sIf c p q) δ μ nx rt bk ct:=by
 obtain⟨b,μ1,e,h1,h2⟩:=h
 cases b with
 |true=>obtain⟨o,e2,k⟩:=h1 rfl;exact⟨o,by simp[e,e2],k⟩
 |false=>obtain⟨o,e2,k⟩:=h2 rfl;exact⟨o,by simp[e,e2],k⟩
def zgi{it:FI}{g:FG}{body:FS}(h:WI it δ μ λds ok μ1=>WFor g body ok ds δ μ1 nx rt):WS (zll it g body) δ μ nx rt bk ct:=by
 obtain⟨ds,ok,μ1,e,o,e2,k⟩:=h;refine⟨o,by simp only[zll,e,yg];exact e2,?_⟩
 cases o with
 |next _ _=>exact k
 |ret _ _=>exact k
 |brk _ _=>exact k.elim
 |cont _ _=>exact k.elim
 |exc _ _ _=>exact k.elim
def z5n{g:FG}{body:FS}{ok:Mem->Bool}{nx:Loc->Mem->Prop}{rt:D->Mem->Prop}(I:Nat->Loc->Mem->Prop):∀{xs:List D} {n:Nat} {δ:Loc} {μ:Mem},I n δ μ->(∀m δ μ,I m δ μ->ok μ=true) ->
 (∀(m:Nat)(x:D)(δ:Loc)(μ:Mem),xs[m]?=some x->I (n+m) δ μ->WG g x δ μ λδ1 μ1=>WS body δ1 μ1 (I (n+m+1)) rt nx (I (n+m+1)))->(∀δ μ,I (n+xs.length) δ μ->nx δ μ)->WFor g body ok xs δ μ nx rt
 |[],n,δ,μ,h0,hok,_,hend=>⟨.next δ μ,by simp only[zvg,hok _ _ _ h0,cond_true],hend δ μ h0⟩
 |x::xs,n,δ,μ,h0,hok,hs,hend=>by
  obtain⟨δ1,μ1,e1,o,e2,k⟩:=hs 0 x δ μ rfl h0
  cases o with
  |next δ2 μ2=>
   obtain⟨o3,e3,k3⟩:=z5n I (xs:=xs) (n:=n+1) (δ:=δ2) (μ:=μ2) k hok (λm y δ μ hy hI=>by
    have:=hs (m+1) y δ μ (by simpa using hy) (by rw[show n+(m+1)=n+1+m by omega];exact hI);rw[show n+(m+1)=n+1+m by omega]at this;exact this) (λδ μ hI=>hend δ μ (by rw[length_cons,show n+(xs.length+1)=n+1+xs.length by omega];exact hI))
   exact⟨o3,by simp only[zvg,hok _ _ _ h0,cond_true,e1,yg,e2];exact e3,k3⟩
  |cont δ2 μ2=>
   obtain⟨o3,e3,k3⟩:=z5n I (xs:=xs) (n:=n+1) (δ:=δ2) (μ:=μ2) k hok (λm y δ μ hy hI=>by
    have:=hs (m+1) y δ μ (by simpa using hy) (by rw[show n+(m+1)=n+1+m by omega];exact hI);rw[show n+(m+1)=n+1+m by omega]at this;exact this) (λδ μ hI=>hend δ μ (by rw[length_cons,show n+(xs.length+1)=n+1+xs.length by omega];exact hI))
   exact⟨o3,by simp only[zvg,hok _ _ _ h0,cond_true,e1,yg,e2];exact e3,k3⟩
  |brk δ2 μ2=>exact⟨.next δ2 μ2,by simp only[zvg,hok _ _ _ h0,cond_true,e1,yg,e2],k⟩
  |ret d μ2=>exact⟨.ret d μ2,by simp only[zvg,hok _ _ _ h0,cond_true,e1,yg,e2],k⟩
  |exc _ _ _=>exact k.elim
end
def zEr{g:FG}{c:FT}{φ:FE}{ok:Mem->Bool}{δ:Loc}{Q:D->Mem->Prop}(I:Nat->List D->Mem->Prop):∀{xs ys:List D} {n:Nat} {μ:Mem},I n ys μ->(∀m ys μ,I m ys μ->ok μ=true) ->
 (∀(m:Nat)(x:D)(ys:List D)(μ:Mem),xs[m]?=some x->I (n+m) ys μ->WG g x δ μ λδ1 μ1=>WT c δ1 μ1 λb μ2=>(b=true->WE φ δ1 μ2 λd μ3=>I (n+m+1) (ys++[d]) μ3)/\(b=false->I (n+m+1) ys μ2)) ->
 (∀ys μ,I (n+xs.length) ys μ->Q (.loc μ.length) (μ++[.lst ys]))->WL g c φ ok δ xs ys μ Q
 |[],ys,n,μ,h0,hok,_,hend=>⟨_,_,by simp only[zVp,hok _ _ _ h0,cond_true],hend ys μ h0⟩
 |x::xs,ys,n,μ,h0,hok,hs,hend=>by
  obtain⟨δ1,μ1,e1,b,μ2,e2,ht,hf⟩:=hs 0 x ys μ rfl h0
  have step:∀ys2 μ3,I (n+1) ys2 μ3->WL g c φ ok δ xs ys2 μ3 Q:=λys2 μ3 h=>zEr I (n:=n+1) h hok (λm y ys μ hy hI=>by
   have:=hs (m+1) y ys μ (by simpa using hy) (by rw[show n+(m+1)=n+1+m by omega];exact hI);rw[show n+(m+1)=n+1+m by omega]at this;exact this) (λys μ hI=>hend ys μ (by rw[length_cons,show n+(xs.length+1)=n+1+xs.length by omega];exact hI))
  cases b with
  |true=>
   obtain⟨d,μ3,e3,h3⟩:=ht rfl;obtain⟨d',μ4,e4,q⟩:=step _ _ h3;exact⟨d',μ4,by simp only[zVp,hok _ _ _ h0,cond_true,e1,yg,e2,e3];exact e4,q⟩
  |false=>
   obtain⟨d',μ4,e4,q⟩:=step _ _ (hf rfl);exact⟨d',μ4,by simp only[zVp,hok _ _ _ h0,cond_true,e1,yg,e2,cond_false];exact e4,q⟩
def zUd{g:FG}{body:FS}{ok:Mem->Bool}{nx:Loc->Mem->Prop}{rt:D->Mem->Prop}{xs:List D}{δ:Loc}{μ:Mem}(I:Nat->Loc->Mem->Prop)(h0:I 0 δ μ)(hok:∀m δ μ,I m δ μ->ok μ=true)
 (hs:∀(m:Nat)(x:D)(δ:Loc)(μ:Mem),xs[m]?=some x->I m δ μ->WG g x δ μ λδ1 μ1=>WS body δ1 μ1 (I (m+1)) rt nx (I (m+1))) (hend:∀δ μ,I xs.length δ μ->nx δ μ):WFor g body ok xs δ μ nx rt :=
 z5n I (n:=0) h0 hok (λm x δ μ hx h=>by
  rw[Nat.zero_add]at h ⊢;exact hs m x δ μ hx h) (λδ μ h=>hend δ μ (by rw[Nat.zero_add]at h;exact h))
def zql{g:FG}{c:FT}{φ:FE}{ok:Mem->Bool}{δ:Loc}{Q:D->Mem->Prop}{xs:List D}{μ:Mem}(I:Nat->List D->Mem->Prop)(h0:I 0 [] μ)(hok:∀m ys μ,I m ys μ->ok μ=true)
 (hs:∀(m:Nat)(x:D)(ys:List D)(μ:Mem),xs[m]?=some x->I m ys μ->WG g x δ μ λδ1 μ1=>WT c δ1 μ1 λb μ2=>(b=true->WE φ δ1 μ2 λd μ3=>I (m+1) (ys++[d]) μ3)/\(b=false->I (m+1) ys μ2))
 (hend:∀ys μ,I xs.length ys μ->Q (.loc μ.length) (μ++[.lst ys])):WL g c φ ok δ xs [] μ Q :=
 zEr I (n:=0) h0 hok (λm x ys μ hx h=>by
  rw[Nat.zero_add]at h ⊢;exact hs m x ys μ hx h) (λys μ h=>hend ys μ (by rw[Nat.zero_add]at h;exact h))
def zkh{j m:Nat}{x:D}(h:((Yc j).map λ(k:Nat)=>D.int k)[m]?=some x):m<j/\x=.int m:=by
 have h1:=(List.getElem?_eq_some_iff.mp h).1;simp at h1;refine⟨h1,?_⟩;simp[h1]at h;exact h.symm
def zyf{α:Type}{g:FG}{c:FT}{φ:FE}{ok:Mem->Bool}{δ:Loc}{Q:D->Mem->Prop}{μ:Mem}(e:α->D)(l:List α)(f:α->D)(p:α->Bool)(hok:∀μ',tq μ μ'->ok μ'=true)
 (hs:∀x∈l,∀μ',tq μ μ'->WG g (e x) δ μ' λδ1 μ1=>WT c δ1 μ1 λb μ2=>b=p x/\tq μ μ2/\(b=true->WE φ δ1 μ2 λd μ3=>d=f x/\tq μ μ3))
 (hq:∀μ',tq μ μ'->Q (.loc μ'.length) (μ'++[.lst ((l.filter p).map f)])):WL g c φ ok δ (l.map e) [] μ Q:=by
 refine zql (λm ys μ'=>tq μ μ'/\ys=((l.take m).filter p).map f) ⟨.refl,by simp⟩ (λm ys μ' h=>hok μ' h.1) (λm x ys μ' hx h=>?_) (λys μ' h=>?_)
 ·rw[yn]at hx
  cases hy:l[m]? with
  |none=>rw[hy]at hx;cases hx
  |some y=>
   rw[hy]at hx;cases hx;obtain⟨δ1,μ1,e1,b,μ2,e2,hb,k2,h3⟩:=hs y (mem_of_getElem? hy) μ' h.1
   have ht:l.take (m+1)=l.take m++[y]:=by
    rw[take_succ,hy];rfl
   refine⟨δ1,μ1,e1,b,μ2,e2,λhb1=>?_,λhb1=>⟨k2,?_⟩⟩
   ·obtain⟨d,μ3,e3,rfl,k3⟩:=h3 hb1;refine⟨_,_,e3,k3,?_⟩;rw[ht,List.filter_append,map_append,<-h.2,List.filter_cons_of_pos (by rw[<-hb,hb1])];rfl
   ·rw[ht,List.filter_append,map_append,<-h.2,xo (by rw[<-hb,hb1];exact yB)];simp
 ·rw[length_map,take_length]at h;rw[h.2];exact hq μ' h.1
def zrj{α:Type}{g:FG}{φ:FE}{ok:Mem->Bool}{δ:Loc}{Q:D->Mem->Prop}{μ:Mem}(e:α->D)(l:List α)(f:α->D)(hok:∀μ',tq μ μ'->ok μ'=true)
 (hs:∀x∈l,∀μ',tq μ μ'->WG g (e x) δ μ' λδ1 μ1=>WE φ δ1 μ1 λd μ3=>d=f x/\tq μ μ3/\tq μ μ1)
 (hq:∀μ',tq μ μ'->Q (.loc μ'.length) (μ'++[.lst (l.map f)])):WL g zgk φ ok δ (l.map e) [] μ Q :=
 zyf e l f (λ_=>true) hok (λx hx μ' k=>by
  obtain⟨δ1,μ1,e1,d,μ3,e3,h1,h2,h3⟩:=hs x hx μ' k;exact⟨δ1,μ1,e1,true,μ1,rfl,rfl,h3,λ_=>⟨d,μ3,e3,h1,h2⟩⟩) (λμ' k=>by rw[List.filter_eq_self.mpr (λ_ _=>rfl)];exact hq μ' k)
def zLd{ds:List D}(h:ds.length<=1000000):few ds=true:=decide_eq_true h
def zXc{n:Nat}{ds:List D}{μ μ':Mem}(h:μ[n]?=some (.lst ds))(k:tq μ μ'):zWk n ds μ'=true:=TH.mpr (k n _ h)
structure KB(L:List Nat)(μ μ':Mem):Prop where
 len:μ.length<=μ'.length
 at_:∀(n:Nat)(o:tw),n∉L->μ[n]?=some o->μ'[n]?=some o
section
variable {L:List Nat}{μ μ1 μ2 μ':Mem}{n:Nat}{o:tw}
def KB.refl:KB L μ μ:=⟨yh _,λ_ _ _ h=>h⟩
def KB.trans(a:KB L μ μ1)(b:KB L μ1 μ2):KB L μ μ2:=⟨yA a.len b.len,λn o h e=>b.at_ n o h (a.at_ n o h e)⟩
def KB.app{g:Mem}(a:KB L μ μ1):KB L μ (μ1++g):=⟨by simp;have:=a.len;omega,λn o h e=>zck (a.at_ n o h e)⟩
def KB.set{m:Nat}(a:KB L μ μ1)(h:m∈L\/μ.length<=m):KB L μ (μ1.set m o):=⟨by simp;exact a.len,λn o' hn e=>by
 rw[yP]
 ·exact a.at_ n o' hn e
 ·rintro rfl;rcases h with h|h
  ·exact hn h
  ·exact absurd (zH e) (by omega)⟩
def KB.keep(a:KB [] μ μ'):tq μ μ':=λn o e=>a.at_ n o (by simp) e
def KB.of_keep(a:tq μ μ'):KB L μ μ':=⟨a.len,λn o _ e=>a n o e⟩
def KB.step{L':List Nat}(a:KB L μ μ1)(b:KB L' μ1 μ2)(h:∀n∈L',n∈L\/μ.length<=n):KB L μ μ2:=⟨yA a.len b.len,λn o hn e=>b.at_ n o (λq=>by
 rcases h n q with h|h
 ·exact hn h
 ·exact absurd (zH e) (by omega)) (a.at_ n o hn e)⟩
end
section
variable {φ ψ χ:FE}{g g2:G2}{δ:Loc}{μ:Mem}{Q:D->Mem->Prop}{i j:Int}{d x y:D}{ds xs:List D}
def zeq(h:WE φ δ μ λx μ1=>∃j:Int,x=.int j/\(-(2^62)<=j/\j<=1000000)/\Q (.loc μ1.length) (μ1++[.lst ((Yc j.toNat).map λ(k:Nat) =>.int k)])):WE (z2n φ) δ μ Q:=by
 obtain⟨x,μ1,e1,j,rfl,h1,q⟩:=h;exact⟨_,_,by simp only[z2n,e1,yg];rw[decide_eq_true h1];rfl,q⟩
def zBt(q:Q (.int i) μ):WF zWv [.int i] μ Q:=⟨_,_,rfl,q⟩
def zMu{b:Bool}(q:Q (.int (if b then 1 else 0)) μ):WF zWv [.bl b] μ Q:=⟨_,_,rfl,q⟩
def zUu(q:Q (.int (if j<i then j else i)) μ):WF zlv [.int i,.int j] μ Q:=⟨_,_,rfl,q⟩
def znu(q:Q (.int (if j>i then j else i)) μ):WF znv [.int i,.int j] μ Q:=⟨_,_,rfl,q⟩
def zev{c:FT}(h:WT c δ μ λb μ1=>(b=true->WE φ δ μ1 Q)/\(b=false->WE ψ δ μ1 Q)):WE (fIf c φ ψ) δ μ Q:=by
 obtain⟨b,μ1,e,h1,h2⟩:=h
 cases b with
 |true=>obtain⟨d,μ2,e2,k⟩:=h1 rfl;exact⟨d,μ2,by simp[e,e2],k⟩
 |false=>obtain⟨d,μ2,e2,k⟩:=h2 rfl;exact⟨d,μ2,by simp[e,e2],k⟩
def zls{R:Loc->Mem->Prop}(h:WE φ δ μ λx μ1=>WE ψ δ μ1 λy μ2=>∃(n:Nat)(i:Int)(zs:List D),x=.loc n/\y=.int i/\μ2[n]?=some (.lst zs)/\(0<=i/\i<zs.length)/\R δ (μ2.set n (.lst (zs.set i.toNat d)))):WG (gAt φ ψ) d δ μ R:=by
 obtain⟨x,μ1,e1,y,μ2,e2,n,i,zs,rfl,rfl,e3,hi,q⟩:=h;have e4:ixN zs.length i=some i.toNat:=by unfold ixN;rw[if_pos hi.1,if_pos hi.2]
 exact⟨_,_,by simp[e1,e2,e3,e4]<;>rfl,q⟩
end
abbrev nat(S:List Nat):List D:=S.map λ(k:Nat)=>D.int k
def zxg(a b:List Nat):nat (a++b)=nat a++nat b:=map_append
def zQj{α:Type}(f:α->Nat)(l:List α):nat (l.map f)=l.map λa=>D.int (f a:Nat):=map_map
class Enc(α:Type) where
 d:α->D
 p:α->xm
 dep:Nat
 rd:∀(μ:Mem)(n:Nat)(a:α),toP μ (n+dep) (d a)=some (p a)
 eq:∀a b:α,Yj (p a) (p b)=true↔a=b
instance:Enc Int:=⟨.int,.int,1,λ_ _ _=>rfl,λa b=>by simp[Yj]⟩
instance:Enc Nat:=⟨λ(k:Nat) =>.int k,λ(k:Nat) =>.int k,1,λ_ _ _=>rfl,λa b=>by simp[Yj];omega⟩
instance:Enc Bool:=⟨.bl,.bool,1,λ_ _ _=>rfl,λa b=>by simp[Yj]⟩
abbrev onD:Option Nat->D
 |none =>.non
 |some k =>.int k
instance:Enc (Option Nat):=⟨onD,fun|none =>.none|some k =>.int k,1,λ_ _ a=>by cases a<;>rfl,λa b=>by cases a<;>cases b<;>simp[Yj];omega⟩
def ztg{α:Type}[Enc α]:∀xs ys:List α,xB (xs.map Enc.p) (ys.map Enc.p)=true↔xs=ys
 |[],[]=>by simp[xB]
 |[],y::ys=>by simp[xB]
 |x::xs,[]=>by simp[xB]
 |x::xs,y::ys=>by
  rw[map_cons,map_cons,xB,yN,Enc.eq,ztg xs ys,YC]
def Sl{α:Type}[Enc α](μ:Mem)(n:Nat):∀xs:List α,(xs.map Enc.d).mapM (toP μ (n+Enc.dep α))=some (xs.map Enc.p)
 |[]=>rfl
 |x::xs=>by rw[map_cons,mapM_cons,Sl μ n xs,Enc.rd];rfl
instance instEncList{α:Type}[Enc α]:Enc (List α):=⟨λxs =>.tup (xs.map Enc.d),λxs =>.tuple (xs.map Enc.p),Enc.dep α+1,λμ n xs=>by
 show((xs.map Enc.d).mapM (toP μ (n+Enc.dep α))).bind (λps=>some (PyData.tuple ps))=_;rw[Sl];rfl,λa b=>by rw[Yj];exact ztg a b⟩
def zim{μ:Mem}{α:Type}[Enc α](a:α)(h:Enc.dep α<=8):toP μ 8 (Enc.d a)=some (Enc.p a):=by
 have:=Enc.rd μ (8-Enc.dep α) a;rw[Nat.sub_add_cancel h]at this;exact this
def zjh{b:Bool}{p:Prop}[Decidable p](h:b=true↔p):b=decide p:=by
 cases b<;>simp_all
section
variable {φ ψ χ:FE}{g g2:G2}{δ:Loc}{μ:Mem}{Q:D->Mem->Prop}{i j:Int}{d x y:D}{ds xs:List D}{α:Type}[Enc α][DecidableEq α]
def zov(a b:α)(q:Q (.bl (decide (a=b))) μ)(hx:x=Enc.d a:=by rfl)(hy:y=Enc.d b:=by rfl)(h:Enc.dep α<=8:=by decide):W2 gEq x y μ Q:=by
 subst hx hy;exact zUv (zim a h) (zim b h) (by rw[zjh (Enc.eq a b)];exact q)
def zzm{n:Nat}(as:List α)(e:μ[n]?=some (.lst (as.map Enc.d)))(h:Enc.dep α<=7):toP μ 8 (.loc n)=some (.list (as.map Enc.p)):=by
 show(match μ[n]? with
  |some (.lst ds)=>(ds.mapM (toP μ 7)).bind λps=>some (PyData.list ps)
  |_=>none)=_
 rw[e];show((as.map Enc.d).mapM (toP μ 7)).bind (λps=>some (PyData.list ps))=_;have:=Sl μ (7-Enc.dep α) as;rw[Nat.sub_add_cancel h]at this;rw[this];rfl
def zKt(as bs:List α){m n:Nat}(e1:μ[m]?=some (.lst (as.map Enc.d)))(e2:μ[n]?=some (.lst (bs.map Enc.d)))(q:Q (.bl (!decide (as=bs))) μ)(h:Enc.dep α<=7:=by decide):W2 gNe (.loc m) (.loc n) μ Q :=
 zkw (zzm as e1 h) (zzm bs e2 h) (by rw[Yj,zjh (ztg as bs)];exact q)
def zTq(S:List Nat):(nat S).all z5d=true:=List.all_eq_true.mpr λx hx=>by
 obtain⟨k,_,rfl⟩:=List.mem_map.mp hx;rfl
def z6r(k:Nat):∀S:List Nat,((nat S).any λd=>eqF d (.int k))=decide (k∈S):=λS=>by
 refine zjh ?_;rw[any_eq_true];constructor
 ·rintro⟨x,hx,e⟩;obtain⟨j,hj,rfl⟩:=List.mem_map.mp hx;have h1:(j:Int)=k:=beq_iff_eq.mp (show((j:Int)==(k:Int))=true from e);have h2:j=k:=by omega
  exact h2▸hj
 ·intro h;exact⟨.int k,List.mem_map.mpr ⟨k,h,rfl⟩,(show((k:Int)==(k:Int))=true from beq_self_eq_true _)⟩
def zQq{k:Nat}{S:List Nat}(h:items μ y=some (nat S))(q:Q (.bl (!decide (k∈S))) μ):W2 zal (.int k) y μ Q:=zmt h rfl (zTq S) (by rw[z6r];exact q)
def zCs(S:List (Option Nat)):(S.map onD).all z5d=true:=List.all_eq_true.mpr λx hx=>by
 obtain⟨k,_,rfl⟩:=List.mem_map.mp hx;cases k<;>rfl
def zFt(a b:Option Nat):eqF (onD a) (onD b)=decide (a=b):=by
 cases a<;>cases b<;>try rfl
 rename_i a b
 show(((a:Nat):Int)==(b:Nat))=decide (some a=some b);rw[Bool.eq_iff_iff,beq_iff_eq,decide_eq_true_iff,Option.some.injEq,Int.natCast_inj]
def zfh{S:List Nat}{i:Nat}(h:i<S.length):atI (nat S) (i:Int)=some (.int (S.getD i 0:Nat)):=zvc (by simp[h])
end
section
variable {φ ψ χ:FE}{g g2:G2}{δ:Loc}{μ:Mem}{Q:D->Mem->Prop}{i j:Int}{d x y:D}{ds xs:List D}
def zmo{R:List D->(Mem->Bool)->Mem->Prop}(h:WE φ δ μ λx μ1=>(∃ds,x=.tup ds/\R (zzg ds) yes μ1)\/(∃ds,x=.fz ds/\R (zzg ds) yes μ1)\/∃n ds,x=.loc n/\μ1[n]?=some (.lst ds)/\R (zzg ds) (zWk n ds) μ1):WI (zAo φ) δ μ R:=by
 obtain⟨x,μ1,e1,⟨ds,rfl,q⟩|⟨ds,rfl,q⟩|⟨n,ds,rfl,e2,q⟩⟩:=h
 ·exact⟨_,_,_,by simp[e1]<;>rfl,q⟩
 ·exact⟨_,_,_,by simp[e1]<;>rfl,q⟩
 ·exact⟨_,_,_,by simp[e1,e2]<;>rfl,q⟩
def z4s{n:Nat}(h:μ[n]?=some (.lst xs))(h1:z5d d=true)(h2:xs.all z5d=true)(q:Q (.int (xs.countP λy=>eqF y d:Nat)) μ):WM zni (.loc n) [d] μ Q:=⟨_,_,by simp only[zni,h,h1,h2,Bool.and_self,cond_true],q⟩
end
section
variable {φ ψ:FE}{δ:Loc}{μ:Mem}{nx:Loc->Mem->Prop}{rt:D->Mem->Prop}{bk ct:Loc->Mem->Prop}{p q:FS}
def z8u{i:Nat}{g:G2}{x:D}(hx:δ[i]?=some (some x))(h:WE φ δ μ λy μ1=>W2 g x y μ1 λd μ2=>nx (δ.set i (some d)) μ2):WS (zLt i g φ) δ μ nx rt bk ct:=by
 obtain⟨y,μ1,e1,d,μ2,e2,k⟩:=h;exact⟨.next _ _,by simp only[zLt,hx,e1,yg,e2],k⟩
def zBu{i j:Int}{Q:D->Mem->Prop}(q:Q (.int (i+j)) μ):W2 zJq (.int i) (.int j) μ Q:=⟨_,_,rfl,q⟩
def ztl{c:FT}{body:FS}(I:Nat->Loc->Mem->Prop):∀{n m:Nat} {δ:Loc} {μ:Mem},m<n->I m δ μ ->
 (∀m δ μ,I m δ μ->WT c δ μ λb μ1=>(b=true->WS body δ μ1 (λδ' μ'=>∃m',m'<m/\I m' δ' μ') rt nx (λδ' μ'=>∃m',m'<m/\I m' δ' μ'))/\(b=false->nx δ μ1))->WS (z8m n c body) δ μ nx rt bk ct
 |0,m,δ,μ,h,_,_=>absurd h (Nat.not_lt_zero _)
 |n+1,m,δ,μ,h,h0,hs=>by
  obtain⟨b,μ1,e1,ht,hf⟩:=hs m δ μ h0
  cases b with
  |false=>exact⟨.next δ μ1,by show z1b c body (n+1) δ μ=_;simp only[z1b,e1,yg,cond_false],hf rfl⟩
  |true=>
   obtain⟨o,e2,k⟩:=ht rfl
   have step:∀δ' μ',(∃m',m'<m/\I m' δ' μ')->∃o,z1b c body n δ' μ'=some o/\Ek nx rt bk ct o:=λδ' μ' ⟨m',hm',hI⟩=>by
    obtain⟨o,e,k⟩:=ztl I (n:=n) (m:=m') (by omega) hI hs;exact⟨o,e,k⟩
   cases o with
   |next δ' μ'=>obtain⟨o,e3,k3⟩:=step δ' μ' k;exact⟨o,by show z1b c body (n+1) δ μ=_;simp only[z1b,e1,yg,cond_true,e2];exact e3,k3⟩
   |cont δ' μ'=>obtain⟨o,e3,k3⟩:=step δ' μ' k;exact⟨o,by show z1b c body (n+1) δ μ=_;simp only[z1b,e1,yg,cond_true,e2];exact e3,k3⟩
   |brk δ' μ'=>exact⟨.next δ' μ',by show z1b c body (n+1) δ μ=_;simp only[z1b,e1,yg,cond_true,e2],k⟩
   |ret d μ'=>exact⟨.ret d μ',by show z1b c body (n+1) δ μ=_;simp only[z1b,e1,yg,cond_true,e2],k⟩
   |exc _ _ _=>exact k.elim
end
def zLf{α:Type}(f:α->D)(xs:List α)(d:α):zzg (xs.map f)=(Yc xs.length).map λ(k:Nat) =>.tup [.int k,f (xs.getD k d)]:=by
 refine ext_getElem? λi=>?_;unfold zzg;simp only[yn,List.getElem?_zipIdx]
 by_cases h:i<xs.length
 ·simp[h]
 ·simp[h]
def z6t{n:Nat}{xs:List D}{μ:Mem}{Q:D->Mem->Prop}(h:μ[n]?=some (.lst xs))(q:Q (.bl true) μ):WF (zlo .lst) [.loc n,.ty "list"] μ Q:=z2s (c:=.lst) (t:=.lst) (by simp[h]) q
def zwt{i:Int}{μ:Mem}{Q:D->Mem->Prop}(q:Q (.bl true) μ):WF (zlo .int) [.int i,.ty "int"] μ Q:=z2s (c:=.int) (t:=.int) rfl q
def zlp{i:Int}{μ:Mem}{Q:D->Mem->Prop}(q:Q (.bl false) μ):WF (zlo .bl) [.int i,.ty "bool"] μ Q:=z2s (c:=.bl) (t:=.int) rfl q
abbrev oiD:Option Int->D
 |none =>.non
 |some k =>.int k
instance:Enc (Option Int):=⟨oiD,fun|none =>.none|some k =>.int k,1,λ_ _ a=>by cases a<;>rfl,λa b=>by cases a<;>cases b<;>simp[Yj]⟩
def zGu:D->Bool
 |.non=>true
 |_=>false
def zxv{d:D}{μ:Mem}{Q:D->Mem->Prop}(h:z5d d=true)(q:Q (.bl (zGu d)) μ):W2 gIs d .non μ Q:=by
 cases d<;>first|exact⟨_,_,rfl,q⟩|cases h
def zrq{d:D}{μ:Mem}{Q:D->Mem->Prop}(h:z5d d=true)(q:Q (.bl (!zGu d)) μ):W2 zdj d .non μ Q:=by
 cases d<;>first|exact⟨_,_,rfl,q⟩|cases h
def ziq(a:Option Nat):z5d (onD a)=true:=by cases a<;>rfl
def z2v(ds:List D)(h:Nat):Nat:=ds.countP λy=>eqF y (.int h)
def zZr(lay:List (Option Nat))(h:Nat):z2v (lay.map onD) h=lay.count (some h):=by
 unfold z2v List.count;rw[List.countP_map]
 congr 1
 funext a
 have:=zFt a (some h);show eqF (onD a) (onD (some h))=_;rw[this];exact(Bool.beq_eq_decide_eq a (some h)).symm
def z9n{n:Nat}{lay:List (Option Nat)}{h:Nat}{μ:Mem}{Q:D->Mem->Prop}(e:μ[n]?=some (.lst (lay.map onD)))(q:Q (.int (lay.count (some h):Nat)) μ):WM zni (.loc n) [.int h] μ Q :=
 z4s e rfl (zCs lay) (by rw[show(lay.map onD).countP (λy=>eqF y (.int h))=lay.count (some h) from zZr lay h];exact q)
section
variable {φ ψ χ:FE}{g g2:G2}{δ:Loc}{μ:Mem}{Q:D->Mem->Prop}{i j:Int}{d x y:D}{ds xs:List D}{kvs:List (Int×D)}{n:Nat}
def zK(h:μ[n]?=some (.dct kvs)):zP μ (.loc n)=some kvs:=by simp[h]
def zUb(h:μ[n]?=some (.dcf kvs)):zP μ (.loc n)=some kvs:=by simp[h]
def zel(h:zP μ x=some kvs)(h2:zHc kvs i=some d)(q:Q d μ):W2 znn x (.int i) μ Q:=⟨_,_,by simp only[znn,h,yg,h2],q⟩
def zvr(h:zP μ y=some kvs)(q:Q (.bl (zHc kvs i).isSome) μ):W2 zAk (.int i) y μ Q:=⟨_,_,by simp only[zAk,h,yg],q⟩
def zTu(h:zP μ y=some kvs)(h2:kvs.all (λp=>decide (0<=p.1/\p.1<1000))=true)(q:Q (.bl false) μ):W2 zAk .non y μ Q:=⟨_,_,by simp only[zAk,h,yg,h2,cond_true],q⟩
def zNm(h:zP μ y=some kvs)(q:Q (.bl (!(zHc kvs i).isSome)) μ):W2 zwf (.int i) y μ Q:=⟨_,_,by simp only[zwf,h,yg],q⟩
def z7m{R:Loc->Mem->Prop}(h:WE φ δ μ λx μ1=>WE ψ δ μ1 λy μ2=>∃(n:Nat)(i:Int)(kvs:List (Int×D)),x=.loc n/\y=.int i/\μ2[n]?=some (.dct kvs)/\kvs.length<=1000000/\R δ (μ2.set n (.dct (zsi kvs i d)))):WG (zot φ ψ) d δ μ R:=by
 obtain⟨x,μ1,e1,y,μ2,e2,n,i,kvs,rfl,rfl,e3,hi,q⟩:=h;exact⟨_,_,by simp[e1,e2,e3,hi]<;>rfl,q⟩
def zOs(h:zP μ x=some kvs)(q:Q (.loc μ.length) (μ++[.lst (zLe kvs)])):WF zZk [x] μ Q:=⟨_,_,by simp only[zZk,h,yg],q⟩
def zdp{R:List D->(Mem->Bool)->Mem->Prop}(h:WE φ δ μ λx μ1=>∃n kvs,x=.loc n/\μ1[n]?=some (.dct kvs)/\R (zLe kvs) yes (μ1.set n (.dcf kvs))):WI (zpi φ) δ μ R:=by
 obtain⟨x,μ1,e1,n,kvs,rfl,e2,q⟩:=h;exact⟨_,_,_,by simp[e1,e2]<;>rfl,q⟩
def zhu(h:WE φ δ μ λx μ1=>∃n ds,x=.loc n/\μ1[n]?=some (.lst ds)/\Q (.loc μ1.length) (μ1++[.lst ds.reverse])):WE (zBq φ) δ μ Q:=by
 obtain⟨x,μ1,e1,n,ds,rfl,e2,q⟩:=h;exact⟨_,_,by simp[zBq,e1,e2]<;>rfl,q⟩
end
section
variable {φ χ:FE}{ψ:FA}{δ:Loc}{μ:Mem}{Q:D->Mem->Prop}{c f m:yr}
def zEi(h:WE φ δ μ λx μ1=>∃n fs d,x=.loc n/\μ1[n]?=some (.ins c fs)/\fs.lookup f=some d/\Q d μ1):WE (zTm c f φ) δ μ Q:=by
 obtain⟨x,μ1,e,n,fs,d,rfl,h1,h2,q⟩:=h;exact⟨d,μ1,by simp only[zTm,e,yg,h1,beq_self_eq_true,cond_true,h2],q⟩
def zAr{nx:Loc->Mem->Prop}{rt:D->Mem->Prop}{bk ct:Loc->Mem->Prop}(h:WE χ δ μ λy μ1=>WE φ δ μ1 λx μ2=>∃n fs,x=.loc n/\μ2[n]?=some (.ins c fs)/\fs.length<1000/\nx δ (μ2.set n (.ins c (zzh f y fs)))):WS (zPp c f φ χ) δ μ nx rt bk ct:=by
 obtain⟨y,μ1,e1,x,μ2,e2,n,fs,rfl,h1,h2,q⟩:=h;exact⟨.next δ _,by simp only[zPp,e1,e2,yg,h1,beq_self_eq_true,decide_eq_true h2,Bool.and_self,cond_true],q⟩
def zhc{R:List D->Mem->Prop}(h:WE φ δ μ λx μ1=>∃n fs,x=.loc n/\μ1[n]?=some (.ins c fs)/\fs.lookup m=none/\WA ψ δ μ1 λds μ2=>R (.loc n::ds) μ2):WA (z4b c m φ ψ) δ μ R:=by
 obtain⟨x,μ1,e,n,fs,rfl,h1,h2,ds,μ2,e2,q⟩:=h;exact⟨_,μ2,by simp only[z4b,e,yg,h1,h2,beq_self_eq_true,Option.isNone_none,Bool.and_self,cond_true,e2],q⟩
def zzt{F:FF}(h:WA ψ δ μ λds μ1=>WF F (.loc μ1.length::ds) (μ1++[.ins c []]) λd μ2=>d=.non/\Q (.loc μ1.length) μ2):WE (zDn c F ψ) δ μ Q:=by
 obtain⟨ds,μ1,e,d,μ2,e2,rfl,q⟩:=h;exact⟨_,μ2,by simp only[zDn,e,yg,e2],q⟩
def zbm{g:GM}(h:WE φ δ μ λx μ1=>∃n kvs,x=.loc n/\μ1[n]?=some (.dct kvs)/\WA ψ δ μ1 λds μ2=>WM g (.loc n) ds μ2 Q):WE (zQg g φ ψ) δ μ Q:=by
 obtain⟨x,μ1,e,n,kvs,rfl,h1,ds,μ2,e2,d,μ3,e3,q⟩:=h;exact⟨d,μ3,by simp only[zQg,e,yg,h1,e2,e3],q⟩
def ztt{x:D}{i:Int}{kvs:List (Int×D)}(h:zP μ x=some kvs)(q:Q ((zHc kvs i).getD .non) μ):WM ztn x [.int i] μ Q:=⟨_,_,by simp only[ztn,h,yg],q⟩
def zor{n:Nat}{i:Int}{kvs:List (Int×D)}{d:D}(h:μ[n]?=some (.dct kvs))(h2:zHc kvs i=some d)(q:Q d (μ.set n (.dct (zkt kvs i)))):WM z8l (.loc n) [.int i] μ Q:=⟨_,_,by simp only[z8l,h,h2,yg],q⟩
end
section
variable {μ:Mem}{δ:Loc}{x y:D}{φ:FE}{Q:D->Mem->Prop}{kvs:List (Int×D)}
def zds(h:zP μ x=some kvs)(q:Q (.loc μ.length) (μ++[.dct kvs])):WF zcj [x] μ Q:=⟨_,_,by simp only[zcj,h,yg],q⟩
def zDt(h:zP μ x=some kvs)(q:Q (.int kvs.length) μ):WF z9o [x] μ Q:=⟨_,_,by simp only[z9o,h,yg],q⟩
def z6u(h:zP μ x=some kvs)(h2:zP μ y=some [])(q:Q (.bl (!kvs.isEmpty)) μ):W2 zWu x y μ Q:=⟨_,_,by simp only[zWu,h,h2,yg];rfl,q⟩
def zTv(ps:List (Int×D)):List (Int×D):=ps.foldl (λkv p=>zsi kv p.1 p.2) []
def zPm(ps:List (Int×D)):∀i≤ps.length,zTn (pkF ps) (pdF ps) i=(ps.take i).foldl (λkv p=>zsi kv p.1 p.2) []
 |0,_=>rfl
 |i+1,h=>by
  have hi:i<ps.length:=by omega
  rw[take_add_one,List.foldl_append,<-zPm ps i (by omega),yG hi];show zsi _ _ _=zsi _ _ _;unfold pkF pdF;rw[getD_eq_getElem?_getD,yG hi];rfl
def z3i:∀ps:List (Int×D),(zib ps).mapM zFo=some ps
 |[]=>rfl
 |(i,d)::ps=>by
  have:=z3i ps;unfold zib at this ⊢;rw[map_cons,mapM_cons,this];rfl
def zNp{n:Nat}(ps:List (Int×D))(h:μ[n]?=some (.lst (zib ps)))(hl:ps.length<=4000)(q:Q (.loc μ.length) (μ++[.dct (zTv ps)])):WF zlj [.loc n] μ Q:=by
 refine⟨_,_,?_,q⟩;simp only[zlj,h,z3i,yg,decide_eq_true hl,cond_true];rw[zPm ps ps.length (yh _),take_length];rfl
def zPs(h:WE φ δ μ λx μ1=>∃kvs,zP μ1 x=some kvs/\Q (.loc μ1.length) (μ1++[.lst (zib kvs)])):WE (zVm φ) δ μ Q:=by
 obtain⟨d,μ1,e,kvs,h1,q⟩:=h;exact⟨_,_,by simp only[zVm,e,h1,yg],q⟩
def zhr{i n:Nat}(hd:δ[i]?=some (some (.loc n)))(hm:μ[n]?=some (.dct kvs))(h:WE φ δ μ λd μ1=>Q d (ztp n μ1)):WE (zXl i φ) δ μ Q:=by
 obtain⟨d,μ1,e,q⟩:=h;exact⟨_,_,by simp only[zXl,hd,hm,e,yg],q⟩
def zfo{n:Nat}{μ1:Mem}(h:μ1[n]?=some (.dcf kvs)):ztp n μ1=μ1.set n (.dct kvs):=by unfold ztp;rw[h]
def zsq{R:List D->(Mem->Bool)->Mem->Prop}(h:WE φ δ μ λx μ1=>∃n kvs,x=.loc n/\zP μ1 x=some kvs/\∀μ2,KB [n] μ1 μ2->μ2[n]?=some (.dcf kvs)->R (zLe kvs) yes μ2):WI (zpi φ) δ μ R:=by
 obtain⟨d,μ1,e,n,kvs,rfl,h1,q⟩:=h;unfold zP at h1;dsimp only at h1
 split at h1
 ·rename_i hm
  cases h1;exact⟨_,_,_,by simp only[zpi,e,hm,yg],q _ (KB.refl.set (.inl (by simp))) (zV hm)⟩
 ·rename_i hm
  cases h1;exact⟨_,_,_,by simp only[zpi,e,hm,yg],q _ KB.refl hm⟩
 ·cases h1
def zbq{R:List D->(Mem->Bool)->Mem->Prop}(h:WE φ δ μ λx μ1=>∃n kvs,x=.loc n/\μ1[n]?=some (.dcf kvs)/\R (zLe kvs) yes μ1):WI (zpi φ) δ μ R:=by
 obtain⟨d,μ1,e,n,kvs,rfl,h1,q⟩:=h;exact⟨_,_,_,by simp only[zpi,e,h1,yg],q⟩
end
end M
namespace M
open PySem PySem.W PyProof.Rows L2
def zul{h:yR}:∀{as:List yb} {a:yb} {o:Yw},(kOf as h).lookup a=some o->h.get? a=some o
 |[],a,o,e=>by cases e
 |b::as,a,o,e=>by
  unfold kOf at e;rw[filterMap_cons]at e
  cases hb:h.get? b with
  |none=>rw[hb]at e;exact zul (as:=as) e
  |some u=>
   rw[hb]at e
   change Yu a ((b,u)::kOf as h)=some o at e
   rw[lookup_cons]at e
   by_cases q:a==b
   ·rw[q]at e;cases e;rw[eq_of_beq q];exact hb
   ·rw[Bool.not_eq_true]at q;rw[q]at e;exact zul (as:=as) e
def zgs{h:yR}:(zlu h).In h:=λ_ _ e=>zul e
def zaq(s:yX):zSr s=z7c s:=by cases s<;>rfl
def zqq(s:yX):zKs s=zyc s:=by cases s<;>rfl
def zUn(s:yX):zmp s=zp s:=by cases s<;>rfl
def zqc{K:Frag}{a:yb}{nm qual:yr}{st:yX}(e:zqd K a qual=zKd nm qual st):∃(oc:Value)(od:Option yb)(sl:Array (Option Value)) (kV dc pm:Value) (an:Option yb) (cd ct:Value),
 K.lookup a=some ⟨oc,od,.func (fnOf nm qual (z7c st) (zyc st) (zp st) .none kV dc pm an cd ct),sl⟩/\codeIn K cd qual=true/\keepIn K (.ref a)=true:=by
 rw[<-zaq,<-zqq,<-zUn];unfold zqd at e
 split at e
 ·rename_i oc od fd sl hl
  obtain⟨x1,x2,x3,x4,x5,x6,x7,x8,x9,x10,x11,x12,x13,x14,x15⟩:=fd;have e:=yU e;simp only[TM.mk.injEq]at e;obtain⟨rfl,rfl,rfl,rfl,rfl,rfl,rfl,rfl,rfl,h1,h2⟩:=e;exact⟨_,_,_,_,_,_,_,_,_,hl,h1,h2⟩
 ·cases e
def fnl{K:Frag}{nm:yr}{st:yX}{l l':List (Option TM)}(e:zdc K nm::l=zic nm st::l'):(∃(f:yb)(oc:Value)(od:Option yb)(sl:Array (Option Value)) (kV dc pm:Value) (an:Option yb) (cd ct:Value),
 nsIn K yi nm=some (some (.ref f))/\K.lookup f=some ⟨oc,od,.func (fnOf nm nm (z7c st) (zyc st) (zp st) .none kV dc pm an cd ct),sl⟩/\codeIn K cd nm=true/\keepIn K (.ref f)=true)/\l=l':=by
 obtain⟨h1,h2⟩:=yc e;refine⟨?_,h2⟩;unfold zdc at h1
 split at h1
 ·rename_i a ha
  obtain⟨oc,od,sl,kV,dc,pm,an,cd,ct,q⟩:=zqc (show zqd K a nm=zKd nm nm st from h1);exact⟨a,oc,od,sl,kV,dc,pm,an,cd,ct,ha,q⟩
 ·cases h1
def fnc{K:Frag}{nm:yr}{st:yX}{l l':List (Option TM)}(e:zdc K nm::l=zic nm st::l'):(∃(f:yb)(fd:yj),nsIn K yi nm=some (some (.ref f))/\Fun K nm nm st f fd)/\l=l':=by
 obtain⟨⟨f,oc,od,sl,kV,dc,pm,an,cd,ct,a,l,c,k⟩,e⟩:=fnl e;exact⟨⟨f,_,a,zGd l c k⟩,e⟩
def zCk{K:Frag}{nm:yr}{i:Int}(e:zRj K nm=some i):∃t,nsIn K yi nm=some (some (.int i t)):=by
 unfold zRj at e
 split at e
 ·rename_i h
  cases e;exact⟨_,h⟩
 ·cases e
def Sm{l:OpenLaw}{q:yu}{loose:List yr}{d:DefRec}{α:Type}{obs:Frag->α}{good:α}{N:Nat}(said:l.wellSaid=true)
 (left:LeftO l.prog q loose (λ_=>true) (λs=>obs (zlu s.heap)) (λ_=>good) N) (hdef:defOf q l.name=some (d,[])) (hp:l.prog.theDef l.name=some (d.params,d.body,d.scope))
 (hk:kwWritten? d.params.kwonlyargs d.params.kw_defaults=some []) (ok:(chainsOk q&&opensWell l.prog&&(frees l.row.toRowW&&l.row.within.isEmpty))=true) (hb:l.prog.bare) (hw:l.row.toRowW.promised)
 (walk:∀K:Frag,obs K=good->WalkO q loose (λ_ _=>True) (λ_ h=>K.In h) l.row.toRowW d [] λf vs=>PySem.call f vs):l.Holds:=by
 refine holds_law said λsaid=>?_
 refine holds_open (r:=l.row) (q:=q) (loose:=loose) (Xt:=λ_=>true) (XP:=λ_ _=>True) (Yf:=λs=>obs (zlu s.heap)) (Ya:=λ_=>good) (YP:=λ_ h=>∃K:Frag,obs K=good/\K.In h) (N:=N) left
  (λw s e=>⟨_,e,zgs⟩) (λw h h' ⟨K,e,k⟩ x=>⟨K,e,k.keeps x⟩) (λ_ _=>trivial) (λ_ _ _ _ _=>trivial) hdef hp hk (λs _=>?_) ?_ said ok hb hw (λw s₀ s₁ mg mb G Y=>?_)
 ·exact(show RecFacts [] s.heap from⟨λx h=>(nomatch h),λx h=>(nomatch h),λc c' a hc=>(nomatch hc),λc fs hf=>(nomatch hf)⟩)
 ·show(!l.row.writes||true)=true;exact Bool.or_true _
 ·obtain⟨K,e,k⟩:=Y;exact walk K e w s₀ s₁ mg mb G k
end M
namespace M
open PySem PySem.W PyProof.Rows L2
def z0p{K:Frag}{C:yb}{n:String}{bm:List Value}(e:zPo K C=some (.type "type",n,.ref C::bm,true,false)) :
 ∃(nm q:yr)(N:yb)(bs:List Value)(sn:List yr)(sub:List Value)(ab:Bool)(col:Option Bool)(dd:Option yb)(k0 k1 k2 k3 k5:Option Value),K.lookup C=some (YJ nm q C N bs bm true sn sub ab col dd k0 k1 k2 k3 k5 n):=by
 unfold zPo at e
 split at e
 ·rename_i c dd cd sl hl
  split at e
  ·rename_i k0 k1 k2 k3 m k5 hs
   obtain⟨x1,x2,x3,x4,x5,x6,x7,x8,x9,x10,x11⟩:=cd;have e:=yU e;simp only[Prod.mk.injEq]at e;obtain⟨rfl,rfl,rfl,rfl,rfl⟩:=e;have:sl = #[k0,k1,k2,k3,some (.builtin m),k5]:=Array.toList_inj.mp hs;subst this;exact⟨_,_,_,_,_,_,_,_,_,_,_,_,_,_,hl⟩
  ·cases e
 ·cases e
end M
namespace P
local macro_rules | `(tactic| walk_at "s") => `(tactic| exact ⟨rfl, rfl, rfl, by decide +kernel, rfl, by decide +kernel, by decide +kernel⟩)
open PySem PySem.Spec PyProof.Rows L2 M
def top(i:Nat):yX:=PySem.Challenge.pw_keynests_k52_keys_taken_out.main.body.getD i (.Pass ⟨0,0,0,0⟩)
def zWi:List yr:=["_law_script"]
def zcf:FS:=(zUc (zkl (zi (zk 0) (zi (fOr (zJ gEq (zx zik (zi (zk 0) zL)) (fC (.int 0))) (zJ gEq (zJ z4j (zJ gIx (zk 0) (fC (.int 0))) (fC (.int 2))) (fC (.int 0)))) (zi (fC (.int 0)) (zi (fC (.int 0)) zL))))))
def zZe:FF:=λds μ=>zGc (zcf (zU zWi ds) μ)
def zXg:List yr:=["_law_script","_law_k","_law_cell","_law_one","_law_two"]
def zxd:FS:=(znb (zDc 2 (fC (.int 29))) (znb (sIf (zZ (zJ (zRn λi j=>decide (j<i)) (zx zik (zi (zk 0) zL)) (fC (.int 0)))) (zDc 2 (zJ gIx (zk 0) (zJ z4j (zk 1) (zx zik (zi (zk 0) zL))))) zCc) (znb (zDc 3 (zJ z4j (zJ zIf (zJ zti (zJ zIf (zJ zIf (zk 2) (zJ zti (fC (.int 40503)) (zk 1))) (fC (.int 1))) (fC (.int 48271))) (zJ zti (zk 1) (zk 1))) (fC (.int 2147483647)))) (znb (zDc 4 (zJ z4j (zJ zIf (zJ zIf (zJ zti (zk 3) (zk 3)) (zJ zti (fC (.int 69621)) (zk 3))) (zJ zti (fC (.int 31)) (zk 1))) (fC (.int 2147483629)))) (zUc (zJ z4j (zJ zIf (zJ zIf (zJ zti (zk 4) (zk 4)) (zJ zti (fC (.int 16807)) (zk 4))) (zk 1)) (fC (.int 1073741789))))))))
def zId:FF:=λds μ=>zGc (zxd (zU zXg ds) μ)
def zWh:List yr:=["_law_pen_here","_law_many","_law_script","_law_is_mixed","_law_k","_law_rest"]
def zbe:FS:=(znb (zSn (zk 0) (gTL 4 (zfc (gN 2) (zfc (gN 3) (zfc (gN 4) (zfc (gN 5) z4g)))))) (znb (zSn (zJ zIf (zk 4) (fC (.int 1))) (gAt (zk 0) (fC (.int 2)))) (znb (sIf (zZ (zk 3)) (zUc (zJ z4j (zx zId (zi (zk 2) (zi (zk 4) zL))) (zk 1))) zCc) (znb (sIf (zZ (zJ gEq (zJ z4j (zk 4) (fC (.int 60))) (fC (.int 0)))) (znb (zDc 5 (fC (.int 0))) (sIf (zZ (zJ (zRn λi j=>decide (i<j)) (zJ zIf (zJ zis (zk 4) (fC (.int 60))) (fC (.int 1))) (zx zik (zi (zk 2) zL)))) (zDc 5 (zJ gIx (zk 2) (zJ zIf (zJ zis (zk 4) (fC (.int 60))) (fC (.int 1))))) zCc)) zCc) (znb (zSn (zJ zis (zk 5) (zk 1)) (gAt (zk 0) (fC (.int 3)))) (zUc (zJ z4j (zk 5) (zk 1))))))))
def zB:FF:=λds μ=>zGc (zbe (zU zWh ds) μ)
def zve:FE:=(zCn (zi (zx zB (zi (zk 1) (zi (zk 2) zL))) (zi (zx zB (zi (zk 1) (zi (zk 2) zL))) zL)))
def z9d:FE:=(zx zB (zi (zk 1) (zi (zk 2) zL)))
def z3h:List yr:=["_law_pen_here","_law_nests","_law_wide","_law_rooms","_law_far"]
def zfe:FS:=(znb (zDc 1 (zJ zIf (fC (.int 1)) (zx zB (zi (zk 0) (zi (fC (.int 6)) zL))))) (znb (sIf (zZ (zJ gEq (zx zB (zi (zk 0) (zi (fC (.int 8)) zL))) (fC (.int 5)))) (zDc 1 (zJ zIf (fC (.int 5)) (zx zB (zi (zk 0) (zi (fC (.int 6)) zL))))) zCc) (znb (zDc 2 (zJ gIx (zkl (zi (fC (.int 2)) (zi (fC (.int 3)) (zi (fC (.int 3)) (zi (fC (.int 10)) zL))))) (zx zB (zi (zk 0) (zi (fC (.int 4)) zL))))) (znb (zDc 3 (zx znf (zi (fLC 1 [0,2] (zog (zi (zk 1) zL)) (gN 0) zgk z9d) zL))) (znb (zDc 4 (zJ gIx (zkl (zi (fC (.int 10007)) (zi (fC (.int 10007)) (zi (fC (.int 12)) zL)))) (zx zB (zi (zk 0) (zi (fC (.int 3)) zL))))) (zUc (zCn (zi (zk 3) (zi (zx znf (zi (fLC 1 [0,4] (zog (zi (zJ zIf (fC (.int 2)) (zx zB (zi (zk 0) (zi (fC (.int 2)) zL)))) zL)) (gN 0) zgk zve) zL)) zL)))))))))
def zte:FF:=λds μ=>zGc (zfe (zU z3h ds) μ)
def zFe:List yr:=["self","rule"]
def zpc:FS:=(znb (zPp "Shelf" "kept_rule" (zk 0) (zk 1)) (zPp "Shelf" "nest_of" (zk 0) zqt))
def zOb:FF:=λds μ=>zGc (zpc (zU zFe ds) μ)
def z7i:List yr:=["_law_pen_here","_law_keys","_law_way"]
def z2e:FS:=(znb (zDc 2 (zx zB (zi (zk 0) (zi (fC (.int 8)) zL)))) (znb (sIf (zxn (zZ (zJ (zRn λi j=>decide (i<j)) (zk 2) (fC (.int 3)))) (zZ (zJ gNe (zk 1) (zkl zL)))) (zUc (zJ gIx (zk 1) (zx zB (zi (zk 0) (zi (zx zik (zi (zk 1) zL)) zL))))) zCc) (znb (sIf (zZ (zJ gEq (zk 2) (fC (.int 3)))) (zUc (zx zB (zi (zk 0) (zi (zJ zst (fC (.int 10)) (fC (.int 59))) zL)))) zCc) (zUc (zx zB (zi (zk 0) (zi (fC (.int 40)) zL)))))))
def z6e:FF:=λds μ=>zGc (z2e (zU z7i ds) μ)
def zPe:FE:=(zk 0)
def zVe:FT:=(zIn (zKf (zZ (zx (zlo .int) (zi (zk 0) (zi (fC (.ty "int")) zL))))) (zZ (zx (zlo .bl) (zi (zk 0) (zi (fC (.ty "bool")) zL)))))
def zXf:List yr:=["_law_found","_law_due"]
def zid:FS:=(znb (sIf (zIn (zKf (zZ (zx (zlo .lst) (zi (zk 0) (zi (fC (.ty "list")) zL))))) (zZ (zJ gNe (zk 0) (zk 1)))) (zUc (fC (.bl false))) zCc) (zUc (zJ gEq (zx zik (zi (fLC 1 [] (zBg (zk 0)) (gN 0) zVe zPe) zL)) (fC (.int 0)))))
def zMb:FF:=λds μ=>zGc (zid (zU zXf ds) μ)
def zRq:FE:=(zJ zWq (zk 1) (zok zni (zk 2) (zi (zk 0) zL)))
def zkr:List yr:=["web","laying"]
def zpm:FS:=(zUc (fLC 2 [1] (zAo (zJ gIx (zk 0) (fC (.int 0)))) (gT 2 (zfc (gN 0) (zfc (gN 1) z4g))) zgk zRq))
def zZi:FF:=λds μ=>zGc (zpm (zU zkr ds) μ)
def zUk:FE:=(zJ z4j (zJ z4j (zJ zIf (zJ zti (zJ gIx (zk 0) (fC (.int 0))) (zk 1)) (zJ gIx (zk 0) (fC (.int 1)))) (fC (.int (10007)))) (zk 2))
def zko:List yr:=["rule","key","nests"]
def zzj:FS:=(znb (zDc 2 (zx zik (zi (zJ gIx (zk 0) (fC (.int 0))) zL))) (zUc (zx znf (zi (fLC 1 [1,2] (zBg (zJ gIx (zk 0) (fC (.int 1)))) (gN 0) zgk zUk) zL))))
def zAj:FF:=λds μ=>zGc (zzj (zU zko ds) μ)
def zoj:FE:=(zx zAj (zi (zk 1) (zi (zk 0) zL)))
def zdm:List yr:=["rule","keys"]
def znh:FS:=(zUc (zCn (zi (zJ gIx (zk 0) (fC (.int 0))) (zi (zx znf (zi (fLC 1 [0] (zBg (zk 1)) (gN 0) zgk zoj) zL)) zL))))
def zee:FF:=λds μ=>zGc (znh (zU zdm ds) μ)
def z1d:List yr:=["self"]
def zcc:FS:=(zUc (zx z8f (zi (zTm "Shelf" "nest_of" (zk 0)) zL)))
def zI:FF:=λds μ=>zGc (zcc (zU z1d ds) μ)
def zIe:FE:=(zJ znn (zTm "Shelf" "nest_of" (zk 1)) (zk 0))
def ztf:List yr:=["self"]
def zWc:FS:=(zUc (fLC 1 [0] (zBg (zx zI (z4b "Shelf" "all_there" (zk 0) zL))) (gN 0) zgk zIe))
def zyb:FF:=λds μ=>zGc (zWc (zU ztf ds) μ)
def zYg:List yr:=["self"]
def zvd:FS:=(zUc (zx zZi (zi (zx zee (zi (zTm "Shelf" "kept_rule" (zk 0)) (zi (zx zI (z4b "Shelf" "all_there" (zk 0) zL)) zL))) (zi (zx zyb (z4b "Shelf" "laying" (zk 0) zL)) zL))))
def zQd:FF:=λds μ=>zGc (zvd (zU zYg ds) μ)
def zHg:List yr:=["self"]
def zDd:FS:=(zUc (zTm "Shelf" "kept_rule" (zk 0)))
def zNd:FF:=λds μ=>zGc (zDd (zU zHg ds) μ)
def zji:List yr:=["self","key"]
def zqe:FS:=(zUc (zJ zAk (zk 1) (zTm "Shelf" "nest_of" (zk 0))))
def zwb:FF:=λds μ=>zGc (zqe (zU zji ds) μ)
def zhg:List yr:=["self","key"]
def zbd:FS:=(zUc (zQg ztn (zTm "Shelf" "nest_of" (zk 0)) (zi (zk 1) zL)))
def zac:FF:=λds μ=>zGc (zbd (zU zhg ds) μ)
def zuf:FS:=(zUl (zok zMf (zk 2) (zi (zJ z4j (zJ z4j (zJ zIf (zJ zti (zk 3) (zk 1)) (zk 4)) (fC (.int 10007))) (zx zik (zi (zJ gIx (zk 0) (fC (.int 0))) zL))) zL)))
def z0g:List yr:=["_law_rule_here","_law_key_here","_law_found","_law_factor","_law_shift"]
def zzd:FS:=(znb (zDc 2 (zkl zL)) (znb (zll (zBg (zJ gIx (zk 0) (fC (.int 1)))) (gT 2 (zfc (gN 3) (zfc (gN 4) z4g))) zuf) (zUc (zk 2))))
def zRd:FF:=λds μ=>zGc (zzd (zU z0g ds) μ)
def zjf:FE:=(zk 0)
def zkf:FT:=(zZ (zJ gEq (zJ znn (zTm "Shelf" "nest_of" (zk 1)) (zk 0)) (zk 2)))
def zOg:List yr:=["self","h"]
def zPd:FS:=(zUc (fLC 1 [0,1] (zBg (zx zI (z4b "Shelf" "all_there" (zk 0) zL))) (gN 0) zkf zjf))
def zEd:FF:=λds μ=>zGc (zPd (zU zOg ds) μ)
def zDe:FE:=(zk 0)
def zGe:FT:=(zZ (zJ gEq (zJ znn (zk 1) (zk 0)) (zk 2)))
def z8c:FS:=(znb (zDc 6 (zx zbg (zi (fLC 1 [2,5] (zpi (zk 2)) (gN 0) zGe zDe) zL))) (sIf (zIn (zZ (zJ (zRn λi j=>decide (i<j)) (zJ gIx (zk 3) (zk 5)) (fC (.int 0)))) (zKf (zZ (zx zMb (zi (zx zEd (z4b "Shelf" "nest" (zk 0) (zi (zk 5) zL))) (zi (zk 6) zL)))))) (zUc (fC (.bl false))) zCc))
def z5c:FS:=(znb (zDc 5 (zJ znn (zk 2) (zk 4))) (znb (sIf (zIn (zZ (zJ zdj (zx zwb (z4b "Shelf" "has" (zk 0) (zi (zk 4) zL))) (fC (.bl true)))) (zIn (zZ (zJ gNe (zx zac (z4b "Shelf" "where" (zk 0) (zi (zk 4) zL))) (zk 5))) (zZ (zJ zal (zk 5) (zx zRd (zi (zk 1) (zi (zk 4) zL))))))) (zUc (fC (.bl false))) zCc) (zSn (zJ zWq (zJ gIx (zk 3) (zk 5)) (fC (.int 1))) (gAt (zk 3) (zk 5)))))
def zvf:List yr:=["_law_shelf","_law_rule_here","_law_lying_there","_law_room","_law_key_here","_law_nest","_law_due"]
def zYc:FS:=(znb (sIf (zIn (zKf (zZ (zx zMb (zi (zx zI (z4b "Shelf" "all_there" (zk 0) zL)) (zi (zx z8f (zi (zk 2) zL)) zL))))) (zZ (zJ gNe (zx zNd (z4b "Shelf" "rule" (zk 0) zL)) (zk 1)))) (zUc (fC (.bl false))) zCc) (znb (zDc 3 (zx zcr (zi (zJ gIx (zk 1) (fC (.int 0))) zL))) (znb (zll (zpi (zk 2)) (gN 4) z5c) (znb (zll (zog (zi (zx zik (zi (zk 3) zL)) zL)) (gN 5) z8c) (zUc (zx zMb (zi (zx zQd (z4b "Shelf" "left" (zk 0) zL)) (zi (zk 3) zL))))))))
def zdb:FF:=λds μ=>zGc (zYc (zU zvf ds) μ)
def zoi:List yr:=["self","key"]
def zwe:FS:=(znb (sIf (zKf (zZ (zx zwb (z4b "Shelf" "has" (zk 0) (zi (zk 1) zL))))) (zBk "NoKey" (zi (fC (.str "the key isn't there")) zL)) zCc) (zUc (zQg z8l (zTm "Shelf" "nest_of" (zk 0)) (zi (zk 1) zL))))
def zuc:FX:=λds μ=>zXu (zwe (zU zoi ds) μ)
def zDk:FE:=(zk 0)
def zIp:FT:=(zZ (zJ gEq (zk 1) (zk 2)))
def zZo:List yr:=["laying","nest"]
def zBj:FS:=(zUc (fLC 2 [1] (zAo (zk 0)) (gT 2 (zfc (gN 0) (zfc (gN 1) z4g))) zIp zDk))
def zGj:FF:=λds μ=>zGc (zBj (zU zZo ds) μ)
def zSf:FS:=(sIf (zZ (zJ zwf (zk 4) (zk 3))) (znb (zSn (zCn (zi (zk 7) (zi (zJ gIx (zk 5) (zk 6)) zL))) (zot (zk 3) (zk 4))) (zUl (zok zMf (zk 5) (zi (zk 4) zL)))) zCc)
def zye:FS:=(zll (zBg (zJ gIx (zJ gIx (zk 0) (fC (.int 1))) (zk 7))) (gN 4) zSf)
def zWf:FS:=(znb (zll (zBg (zx zGj (zi (zk 1) (zi (zJ gIx (zk 5) (zk 6)) zL)))) (gN 7) zye) (zLt 6 zJq (fC (.int 1))))
def zTf:FS:=(zSn (zCn (zi (zk 2) (zi (fC .non) zL))) (zot (zk 3) (zk 4)))
def zYh:List yr:=["web","laying","key","pushes","nest","nests","at","other"]
def zue:FS:=(znb (zDc 3 zqt) (znb (zll (zBg (zJ gIx (zJ gIx (zk 0) (fC (.int 1))) (zk 2))) (gN 4) zTf) (znb (zDc 5 (zx zZk (zi (zk 3) zL))) (znb (zDc 6 (fC (.int 0))) (znb (z8m 100000 (zZ (zJ (zRn λi j=>decide (i<j)) (zk 6) (zx zik (zi (zk 5) zL)))) zWf) (zUc (zk 3)))))))
def zze:FF:=λds μ=>zGc (zue (zU zYh ds) μ)
def zQi:FS:=(znb (zUl (zok zMf (zk 2) (zi (zCn (zi (zJ gIx (zJ znn (zk 0) (zk 1)) (fC (.int 0))) (zi (zk 1) zL))) zL))) (zDc 1 (zJ gIx (zJ znn (zk 0) (zk 1)) (fC (.int 1)))))
def zUm:List yr:=["pushes","nest","row"]
def zuh:FS:=(znb (zDc 2 (zkl zL)) (znb (z8m 100000 (zZ (zJ zdj (zk 1) (fC .non))) zQi) (zUc (zBq (zk 2)))))
def zsh:FF:=λds μ=>zGc (zuh (zU zUm ds) μ)
def zfj:FE:=(zk 0)
def zaj:FT:=(zIn (zZ (zJ gEq (zk 0) (zk 2))) (zZ (zJ zAk (zk 1) (zk 3))))
def znj:FS:=(sIf (zZ (zJ (zRn λi j=>decide (j<i)) (zJ gIx (zk 4) (zk 5)) (fC (.int 0)))) (zUc (zCn (zi (fC (.str "put")) (zi (zx zsh (zi (zk 3) (zi (zk 5) zL))) zL)))) zCc)
def zvm:List yr:=["web","laying","key","pushes","room","nest"]
def zrh:FS:=(znb (zDc 3 (zx zze (zi (zk 0) (zi (zk 1) (zi (zk 2) zL))))) (znb (zDc 4 (zx zZi (zi (zk 0) (zi (zk 1) zL)))) (znb (zll (zpi (zk 3)) (gN 5) znj) (zUc (zCn (zi (fC (.str "full")) (zi (fLC 2 [2,3] (zAo (zk 1)) (gT 2 (zfc (gN 0) (zfc (gN 1) z4g))) zaj zfj) zL)))))))
def z5f:FF:=λds μ=>zGc (zrh (zU zvm ds) μ)
def zgd:FS:=(zSn (zJ gIx (zk 5) (fC (.int 1))) (zot (zTm "Shelf" "nest_of" (zk 0)) (zJ gIx (zk 5) (fC (.int 0)))))
def zhd:FE:=(zCn (zi (zJ gIx (zk 1) (zJ gIx (zk 0) (fC (.int 0)))) (zi (zJ gIx (zk 0) (fC (.int 1))) zL)))
def zjd:FE:=(zJ gIx (zk 1) (zk 0))
def zNh:List yr:=["self","key","keys","told","row","push"]
def zke:FS:=(znb (sIf (zZ (zx zwb (z4b "Shelf" "has" (zk 0) (zi (zk 1) zL)))) (zBk "Twice" (zi (fC (.str "the key is there already")) zL)) zCc) (znb (zDc 2 (zJ zIf (zx zI (z4b "Shelf" "all_there" (zk 0) zL)) (zkl (zi (zk 1) zL)))) (znb (sIf (zZ (zJ (zRn λi j=>decide (j<i)) (zx zik (zi (zk 2) zL)) (fC (.int (30))))) (zCe "Full" "some" (zi (zx zbg (zi (zk 2) zL)) zL)) zCc) (znb (zDc 3 (zx z5f (zi (zx zee (zi (zTm "Shelf" "kept_rule" (zk 0)) (zi (zk 2) zL))) (zi (zJ zIf (zx zyb (z4b "Shelf" "laying" (zk 0) zL)) (zkl (zi (fC .non) zL))) (zi (zJ zWq (zx zik (zi (zk 2) zL)) (fC (.int 1))) zL))))) (znb (sIf (zZ (zJ gEq (zJ gIx (zk 3) (fC (.int 0))) (fC (.str "full")))) (zCe "Full" "some" (zi (zx zbg (zi (fLC 1 [2] (zBg (zJ gIx (zk 3) (fC (.int 1)))) (gN 0) zgk zjd) zL)) zL)) zCc) (znb (zDc 4 (fLC 1 [2] (zBg (zJ gIx (zk 3) (fC (.int 1)))) (gN 0) zgk zhd)) (znb (zll (zBg (zk 4)) (gN 5) zgd) (zUc (zk 4)))))))))
def zxc:FX:=λds μ=>zXu (zke (zU zNh ds) μ)
def zjg:List yr:=["_law_shelf","_law_key_here","_law_refused"]
def zfd:FS:=(znb (zDc 2 (fC (.bl false))) (znb (zvp (zSp zuc (z4b "Shelf" "out" (zk 0) (zi (zk 1) zL))) (z5g [("NoKey",true),("Twice",false),("Full",false)] (zDc 2 (fC (.bl true))) z5s)) (zUc (zZt (zk 2) (zZt (zJ gIs (zx zwb (z4b "Shelf" "has" (zk 0) (zi (zk 1) zL))) (fC (.bl false))) (zJ gIs (zx zac (z4b "Shelf" "where" (zk 0) (zi (zk 1) zL))) (fC .non)))))))
def zLb:FF:=λds μ=>zGc (zfd (zU zjg ds) μ)
def zZg:FE:=(zCn (zi (zk 0) (zi (zJ znn (zk 1) (zk 0)) zL)))
def zUg:FT:=(zZ (zJ gNe (zk 0) (zk 2)))
def zqj:List yr:=["_law_shelf","_law_rule_here","_law_lying_there","_law_key_here","_law_nest","_law_less","_law_row"]
def zaf:FS:=(znb (zDc 4 (zmj zuc (z4b "Shelf" "out" (zk 0) (zi (zk 3) zL)))) (znb (sIf (zIn (zZ (zx (zlo .bl) (zi (zk 4) (zi (fC (.ty "bool")) zL)))) (zZ (zJ gNe (zk 4) (zJ znn (zk 2) (zk 3))))) (zUc (fC (.bl false))) zCc) (znb (zDc 5 (zx zlj (zi (fLC 1 [2,3] (zpi (zk 2)) (gN 0) zUg zZg) zL))) (znb (sIf (zIn (zKf (zZ (zx zdb (zi (zk 0) (zi (zk 1) (zi (zk 5) zL)))))) (zKf (zZ (zx zLb (zi (zk 0) (zi (zk 3) zL)))))) (zUc (fC (.bl false))) zCc) (znb (zDc 6 (zmj zxc (z4b "Shelf" "put" (zk 0) (zi (zk 3) zL)))) (znb (sIf (zIn (zZ (zJ gNe (zx zik (zi (zk 6) zL)) (fC (.int 1)))) (zIn (zZ (zJ gNe (zJ gIx (zJ gIx (zk 6) (fC (.int 0))) (fC (.int 0))) (zk 3))) (zKf (zZ (zx zdb (zi (zk 0) (zi (zk 1) (zi (zx zlj (zi (zJ zIf (zVm (zk 5)) (zk 6)) zL)) zL)))))))) (zUc (fC (.bl false))) zCc) (zUc (zZt (zJ gEq (zmj zuc (z4b "Shelf" "out" (zk 0) (zi (zk 3) zL))) (zJ gIx (zJ gIx (zk 6) (fC (.int 0))) (fC (.int 1)))) (zx zdb (zi (zk 0) (zi (zk 1) (zi (zk 5) zL))))))))))))
def z8e:FF:=λds μ=>zGc (zaf (zU zqj ds) μ)
def zXe:FS:=(zSn (zk 6) (zot (zk 4) (zk 5)))
def zTi:List yr:=["_law_shelf","_law_lying_there","_law_key_here","_law_row","_law_found","_law_one","_law_nest"]
def z7e:FS:=(znb (zDc 3 (zkl zL)) (znb (zvp (zWr 3 zxc (z4b "Shelf" "put" (zk 0) (zi (zk 2) zL))) (z5g [("NoKey",false),("Twice",true),("Full",false)] (zDc 3 (zkl zL)) (z5g [("NoKey",false),("Twice",false),("Full",true)] (zDc 3 (zkl zL)) z5s))) (znb (zDc 4 (zx zcj (zi (zk 1) zL))) (znb (zll (zBg (zk 3)) (gT 2 (zfc (gN 5) (zfc (gN 6) z4g))) zXe) (zUc (zk 4))))))
def zkd:FF:=λds μ=>zGc (z7e (zU zTi ds) μ)
def zJl:FS:=(znb (zDc 6 (zx zB (zi (zk 1) (zi (fC (.int 6)) zL)))) (znb (zDc 7 (zx z6e (zi (zk 1) (zi (zx z8f (zi (zk 4) zL)) zL)))) (znb (sIf (zxn (zZ (zJ (zRn λi j=>decide (i<j)) (zk 6) (fC (.int 2)))) (zZ (zJ zWu (zk 4) zqt))) (znb (zDc 7 (zJ gIx (zx z8f (zi (zk 4) zL)) (zx zB (zi (zk 1) (zi (zx z9o (zi (zk 4) zL)) zL))))) (znb (sIf (zKf (zZ (zXl 4 (zx z8e (zi (zk 3) (zi (zk 2) (zi (zk 4) (zi (zk 7) zL)))))))) (zUc (fC (.bl false))) zCc) (zUl (zQg z8l (zk 4) (zi (zk 7) zL))))) (sIf (zxn (zZ (zJ gEq (zk 6) (fC (.int 2)))) (zZ (zJ zwf (zk 7) (zk 4)))) (sIf (zKf (zZ (zx zLb (zi (zk 3) (zi (zk 7) zL))))) (zUc (fC (.bl false))) zCc) (zDc 4 (zx zkd (zi (zk 3) (zi (zk 4) (zi (zk 7) zL))))))) (sIf (zKf (zZ (zXl 4 (zx zdb (zi (zk 3) (zi (zk 2) (zi (zk 4) zL))))))) (zUc (fC (.bl false))) zCc))))
def zTt:List yr:=["_law_script","_law_pen_here","_law_rule_here","_law_shelf","_law_lying_there","_law_k","_law_way","_law_key_here"]
def z7q:FS:=(znb (zDc 1 (zx zZe (zi (zk 0) zL))) (znb (zDc 2 (zx zte (zi (zk 1) zL))) (znb (zDc 3 (zDn "Shelf" zOb (zi (zk 2) zL))) (znb (zDc 4 zqt) (znb (zll (zog (zi (zx zB (zi (zk 1) (zi (fC (.int 31)) zL))) zL)) (gN 5) zJl) (zUc (fC (.bl true))))))))
def zhn:FF:=λds μ=>zGc (z7q (zU zTt ds) μ)
structure Txt(K:yt)(mg:yr->Option Value):Prop where
 sY:∃C,yW K yi "NoKey"=some (some (.ref C))/\mg "NoKey"=some (.ref C)/\W.ktsIn K C "BaseException"=true
 x_Full:∃C,yW K yi "Full"=some (some (.ref C))/\mg "Full"=some (.ref C)/\W.ktsIn K C "BaseException"=true
 x_NestError:∃C,yW K yi "NestError"=some (some (.ref C))/\mg "NestError"=some (.ref C)/\W.ktsIn K C "BaseException"=true
 sZ:∃C,yW K yi "Twice"=some (some (.ref C))/\mg "Twice"=some (.ref C)/\W.ktsIn K C "BaseException"=true
 e_NoKey:∀C,yW K yi "NoKey"=some (some (.ref C))->W.excIn K C [.type "ValueError",.type "Exception",.type "BaseException",.type "object"] "ValueError.__new__"=true
 e_Twice:∀C,yW K yi "Twice"=some (some (.ref C))->W.excIn K C [.type "ValueError",.type "Exception",.type "BaseException",.type "object"] "ValueError.__new__"=true
 s_NoKey:∀C,yW K yi "NoKey"=some (some (.ref C))->Tn K C [("NoKey",true),("Twice",false),("Full",false)]
 s_Full:∀C,yW K yi "Full"=some (some (.ref C))->Tn K C [("NoKey",false),("Twice",false),("Full",true)]
 s_Twice:∀C,yW K yi "Twice"=some (some (.ref C))->Tn K C [("NoKey",false),("Twice",true),("Full",false)]
 tD:zGn K "Shelf" "nest_of"
 tJ:zGn K "Shelf" "kept_rule"
 tZ:mg "left_layings"=mg "left"
 Sn:mg "bool"=none
 sU:mg "dict"=none
 Tz:mg "enumerate"=none
 n_int:mg "int"=none
 Tf:mg "isinstance"=none
 Tk:mg "len"=none
 TV:mg "list"=none
 sg:mg "range"=none
 sV:mg "reversed"=none
 Th:mg "sorted"=none
 si:mg "tuple"=none
 Sd:∃t,mg "DIVISOR"=some (.int 10007 t)
 sK:∃t,mg "MOST_KEYS"=some (.int 30 t)
def zto:yL "bool"=some (.type "bool"):=by decide +kernel
def zTl:yL "dict"=some (.type "dict"):=by decide +kernel
def zNe:yL "enumerate"=some (.type "enumerate"):=by decide +kernel
def zKu:yL "int"=some (.type "int"):=by decide +kernel
def zdd:yL "isinstance"=some (.builtin "isinstance"):=by decide +kernel
def zJd:yL "len"=some (.builtin "len"):=by decide +kernel
def zyg:yL "list"=some (.type "list"):=by decide +kernel
def zvl:yL "reversed"=some (.type "reversed"):=by decide +kernel
def zld:yL "sorted"=some (.builtin "sorted"):=by decide +kernel
def zdh:yL "tuple"=some (.type "tuple"):=by decide +kernel
section
variable {P:yu}{w:yI}{K:yt}{mg:yr->Option Value}{base:yR}
set_option maxHeartbeats 4000000
abbrev zOc:yX:=zYr (top 5)
abbrev zEb:List yr:=["self","some"]
def zJk:tx zEb zEb (zp zOc):=by walk_at "s"
def zvj(T:Txt K mg){C NE fI:yb}{fd:yj}(B:Sj K mg "Full" "some" "Full.__init__" zOc zEb C NE fI fd):tu P w K mg base CX0 1 fI fd zEb (spL C "some"):=by
 refine B.fn.ok (k:=0) zJk (λvs H Q E ⟨e,a,ns,h,_⟩=>by rw[h];rfl) (λcdv A outer s H vs Q E hr ⟨e,a,ns,hv,hsm,ha,he,hq⟩=>⟨_,zqm (zbo (zPr B.ex B.ne (zNf (pv 0) (zNf (zZp (pv 1) hr.gd hr.units) zXi)))) (zGo (zXo B.ex (pv 0) (z6h zSg rfl T.TV zyg (zNf (pv 1) zXi)))),?_⟩);subst hv
 exact⟨_,rfl,_,rfl,a,ns,rfl,ha,hsm,λy=>⟨e,_,rfl,he,_,rfl,a,_,rfl,.inl (SqL.of ha),λl hl=>⟨_,rfl,e,rfl,by rw[zr (zE he hl)];exact he,λp hp hpe=>by
  have hpl:p≠l:=λz=>by rw[z,zt]at hp;cases hp
  exact hq l p hl (yM (zE he hl)) (by rwa [zr hpl]at hp) hpe hpl⟩⟩⟩
abbrev zdf:yX:=top 23
abbrev zSc:List yr:=["_law_script"]
def zHl:tx zWi zSc (zp zdf):=by walk_at "s"
def zPk(T:Txt K mg){f:yb}{fd:yj}(B:FnAt K mg "_law_pen" zdf zSc f fd):tu P w K mg base CX0 1 f fd zSc (spM K 1 zZe):=by
 refine fnM B.fn zHl rfl (λcdv A outer s H E hr=>⟨zcf,?_,λ_ _ _ _ _ e=>e⟩);have hu:=hr.units;exact(zl (zT (zKe (zb (mv 0) (zb (zLv (zOh (zZd hu) (zS zCb T.Tk zJd (zb (mv 0) zh)) zm) (zJo (zOh (zZd hu) (zob zad (zDb (mv 0) zm) zm) zm))) (zb zm (zb zm zh)))))))
abbrev zBd:yX:=top 24
abbrev z6b:List yr:=["_law_script","_law_k"]
def tY:tx zXg z6b (zp zBd):=by walk_at "s"
def zCi(T:Txt K mg){f:yb}{fd:yj}(B:FnAt K mg "_law_mixed" zBd z6b f fd):tu P w K mg base CX0 1 f fd z6b (spM K 2 zId):=by
 refine fnM B.fn tY rfl (λcdv A outer s H E hr=>⟨zxd,?_,λ_ _ _ _ _ e=>e⟩);have hu:=hr.units;exact(zj (zQ 2 zm (hN:=tY.nd)) (zj (z6c (zlb zop (zS zCb T.Tk zJd (zb (mv 0) zh)) zm) (zl (zQ 2 (zDb (mv 0) (zob zad (mv 1) (zS zCb T.Tk zJd (zb (mv 0) zh)))) (hN:=tY.nd))) zpb) (zj (zQ 3 (zob zad (zob zWb (zob zSd (zob zWb (zob zWb (mv 2) (zob zSd zm (mv 1))) zm) zm) (zob zSd (mv 1) (mv 1))) zm) (hN:=tY.nd)) (zj (zQ 4 (zob zad (zob zWb (zob zWb (zob zSd (mv 3) (mv 3)) (zob zSd zm (mv 3))) (zob zSd zm (mv 1))) zm) (hN:=tY.nd)) (zl (zT (zob zad (zob zWb (zob zWb (zob zSd (mv 4) (mv 4)) (zob zSd zm (mv 4))) (mv 1)) zm)))))))
abbrev zPc:yX:=top 25
abbrev zmb:List yr:=["_law_pen_here","_law_many"]
def tS:tx zWh zmb (zp zPc):=by walk_at "s"
def zyj(T:Txt K mg){zTg:yb}{zgg:yj}(zyd:FnAt K mg "_law_mixed" zBd z6b zTg zgg)(zAe:tu P w K mg base CX0 1 zTg zgg z6b (spM K 2 zId)){f:yb}{fd:yj}(B:FnAt K mg "_law_take" zPc zmb f fd):tu P w K mg base CX0 2 f fd zmb (spM K 2 zB):=by
 refine fnM B.fn tS rfl (λcdv A outer s H E hr=>⟨zbe,?_,λ_ _ _ _ _ e=>e⟩);have hu:=hr.units;exact(zj (zNg (mv 0) (z7s (zMd (zec 2 (hN:=tS.nd)) (zMd (zec 3 (hN:=tS.nd)) (zMd (zec 4 (hN:=tS.nd)) (zMd (zec 5 (hN:=tS.nd)) zEl)))))) (zj (zNg (zob zWb (mv 4) zm) (zWs (mv 0) zm)) (zj (z6c (zod (mv 3)) (zl (zT (zob zad (tI zyd zAe hr (zb (mv 2) (zb (mv 4) zh))) (mv 1)))) zpb) (zj (z6c (zlb (zZd hu) (zob zad (mv 4) zm) zm) (zj (zQ 5 zm (hN:=tS.nd)) (zl (z6c (zlb zsk (zob zWb (zob zKl (mv 4) zm) zm) (zS zCb T.Tk zJd (zb (mv 2) zh))) (zl (zQ 5 (zDb (mv 2) (zob zWb (zob zKl (mv 4) zm) zm)) (hN:=tS.nd))) zpb))) zpb) (zj (zNg (zob zKl (mv 5) (mv 1)) (zWs (mv 0) zm)) (zl (zT (zob zad (mv 5) (mv 1)))))))))
abbrev zhe:yX:=top 26
abbrev zAc:List yr:=["_law_pen_here"]
def tX:tx z3h zAc (zp zhe):=by walk_at "s"
def ztj(T:Txt K mg){z2b:yb}{zFb:yj}(zG:FnAt K mg "_law_take" zPc zmb z2b zFb)(zD:tu P w K mg base CX0 2 z2b zFb zmb (spM K 2 zB)){f:yb}{fd:yj}(B:FnAt K mg "_law_rule" zhe zAc f fd):tu P w K mg base CX0 3 f fd zAc (spM K 1 zte):=by
 refine fnM B.fn tX rfl (λcdv A outer s H E hr=>⟨zfe,?_,λ_ _ _ _ _ e=>e⟩);have hu:=hr.units;exact(zj (zQ 1 (zob zWb zm (tI zG zD hr (zb (mv 0) (zb zm zh)))) (hN:=tX.nd)) (zj (z6c (zlb (zZd hu) (tI zG zD hr (zb (mv 0) (zb zm zh))) zm) (zl (zQ 1 (zob zWb zm (tI zG zD hr (zb (mv 0) (zb zm zh)))) (hN:=tX.nd))) zpb) (zj (zQ 2 (zDb (zKe (zb zm (zb zm (zb zm (zb zm zh))))) (tI zG zD hr (zb (mv 0) (zb zm zh)))) (hN:=tX.nd)) (zj (zQ 3 (zed zle T.si zdh (zb (mlc ["_law_nest"] [0,2] (zxh T.sg (zb (mv 1) zh)) (λ_ _ _ _ _=>(zvb 0 (hN:=zrb (by rfl)))) (λ_ _ _ _ _=>zVg) (λ_ _ _ _ _=>(tI zG zD hr (zb (mv 1) (zb (mv 2) zh)))) (zAb ⟨_,rfl,rfl⟩ (zAb ⟨_,rfl,rfl⟩ zFd))) zh)) (hN:=tX.nd)) (zj (zQ 4 (zDb (zKe (zb zm (zb zm (zb zm zh)))) (tI zG zD hr (zb (mv 0) (zb zm zh)))) (hN:=tX.nd)) (zl (zT (zsf (zb (mv 3) (zb (zed zle T.si zdh (zb (mlc ["_law_k"] [0,4] (zxh T.sg (zb (zob zWb zm (tI zG zD hr (zb (mv 0) (zb zm zh)))) zh)) (λ_ _ _ _ _=>(zvb 0 (hN:=zrb (by rfl)))) (λ_ _ _ _ _=>zVg) (λ_ _ _ _ _=>(zsf (zb (tI zG zD hr (zb (mv 1) (zb (mv 2) zh))) (zb (tI zG zD hr (zb (mv 1) (zb (mv 2) zh))) zh)))) (zAb ⟨_,rfl,rfl⟩ (zAb ⟨_,rfl,rfl⟩ zFd))) zh)) zh))))))))))
abbrev zQb:yX:=zVd (top 21) 0
abbrev zbb:List yr:=["self","rule"]
def zsg:tx zFe zbb (zp zQb):=by walk_at "s"
def zYf(T:Txt K mg){C:yb}{f:yb}{fd:yj}(B:sC K mg "Shelf" zQb zbb C f fd):tu P w K mg base CX0 1 f fd zbb (spM K 2 zOb):=by
 refine fnM B.fn zsg rfl (λcdv A outer s H E hr=>⟨zpc,?_,λ_ _ _ _ _ e=>e⟩);have hu:=hr.units;exact(zj (zpr T.tJ (mv 0) (mv 1)) (zl (zpr T.tD (mv 0) zom)))
abbrev z9e:yX:=top 28
abbrev zLc:List yr:=["_law_pen_here","_law_keys"]
def TY:tx z7i zLc (zp z9e):=by walk_at "s"
def zbl(T:Txt K mg){z2b:yb}{zFb:yj}(zG:FnAt K mg "_law_take" zPc zmb z2b zFb)(zD:tu P w K mg base CX0 2 z2b zFb zmb (spM K 2 zB)){f:yb}{fd:yj}(B:FnAt K mg "_law_key" z9e zLc f fd):tu P w K mg base CX0 3 f fd zLc (spM K 2 z6e):=by
 refine fnM B.fn TY rfl (λcdv A outer s H E hr=>⟨z2e,?_,λ_ _ _ _ _ e=>e⟩);have hu:=hr.units;exact(zj (zQ 2 (tI zG zD hr (zb (mv 0) (zb zm zh))) (hN:=TY.nd)) (zj (z6c (MW.mt (zKo (zlb zsk (mv 2) zm) (zQl (zlb (zGg hu) (mv 1) (zKe zh))))) (zl (zT (zDb (mv 1) (tI zG zD hr (zb (mv 0) (zb (zS zCb T.Tk zJd (zb (mv 1) zh)) zh)))))) zpb) (zj (z6c (zlb (zZd hu) (mv 2) zm) (zl (zT (tI zG zD hr (zb (mv 0) (zb (zob zzs zm zm) zh))))) zpb) (zl (zT (tI zG zD hr (zb (mv 0) (zb zm zh))))))))
abbrev zcd:yX:=top 29
abbrev zTb:List yr:=["_law_found","_law_due"]
def zKi:tx zXf zTb (zp zcd):=by walk_at "s"
def zyh(T:Txt K mg){f:yb}{fd:yj}(B:FnAt K mg "_law_wholes" zcd zTb f fd):tu P w K mg base CX0 1 f fd zTb (spM K 2 zMb):=by
 refine fnM B.fn zKi rfl (λcdv A outer s H E hr=>⟨zid,?_,λ_ _ _ _ _ e=>e⟩);have hu:=hr.units;exact(zj (z6c (MW.mt (zXh (zMe (zod (zS (zUf .lst) T.Tf zdd (zb (mv 0) (zb (znm T.TV zyg) zh))))) (z0f (zlb (zGg hu) (mv 0) (mv 1))))) (zl (zT zzf)) zpb) (zl (zT (zOh (zZd hu) (zS zCb T.Tk zJd (zb (mlc ["_law_one"] [] (z3d (mv 0)) (λ_ _ _ _ _=>(zvb 0 (hN:=zrb (by rfl)))) (λ_ _ _ _ _=>(zij (MW.mt (zXh (zMe (zod (zS (zUf .int) T.Tf zdd (zb (mv 0) (zb (znm T.n_int zKu) zh))))) (z0f (zod (zS (zUf .bl) T.Tf zdd (zb (mv 0) (zb (znm T.Sn zto) zh))))))))) (λ_ _ _ _ _=>(mv 0)) zFd) zh)) zm))))
abbrev zMk:yX:=top 7
abbrev zWe:List yr:=["web","laying"]
def zRr:tx zkr zWe (zp zMk):=by walk_at "s"
def zXp(T:Txt K mg){f:yb}{fd:yj}(B:FnAt K mg "left" zMk zWe f fd):tu P w K mg base CX0 1 f fd zWe (spM K 2 zZi):=by
 refine fnM B.fn zRr rfl (λcdv A outer s H E hr=>⟨zpm,?_,λ_ _ _ _ _ e=>e⟩);have hu:=hr.units;exact(zl (zT (mlc ["nest","room"] [1] (zSl T.Tz zNe (zDb (mv 0) zm)) (λ_ _ _ _ _=>(zLl (zYd (zvb 0 (hN:=zrb (by rfl))) (zYd (zvb 1 (hN:=zrb (by rfl))) zFj)))) (λ_ _ _ _ _=>zVg) (λ_ _ _ _ _=>(zob z9l (mv 1) (z0q (mv 2) (zb (mv 0) zh)))) (zAb ⟨_,rfl,rfl⟩ zFd))))
abbrev z1j:yX:=top 16
abbrev zgf:List yr:=["rule","key"]
def sL:tx zko zgf (zp z1j):=by walk_at "s"
def zIo(T:Txt K mg){f:yb}{fd:yj}(B:FnAt K mg "homes" z1j zgf f fd):tu P w K mg base CX0 1 f fd zgf (spM K 2 zAj):=by
 refine fnM B.fn sL rfl (λcdv A outer s H E hr=>⟨zzj,?_,λ_ _ _ _ _ e=>e⟩);have hu:=hr.units;exact(zj (zQ 2 (zS zCb T.Tk zJd (zb (zDb (mv 0) zm) zh)) (hN:=sL.nd)) (zl (zT (zed zle T.si zdh (zb (mlc ["way"] [1,2] (z3d (zDb (mv 0) zm)) (λ_ _ _ _ _=>(zvb 0 (hN:=zrb (by rfl)))) (λ_ _ _ _ _=>zVg) (λ_ _ _ _ _=>(zob zad (zob zad (zob zWb (zob zSd (zDb (mv 0) zm) (mv 1)) (zDb (mv 0) zm)) (zHp T.Sd)) (mv 2))) (zAb ⟨_,rfl,rfl⟩ (zAb ⟨_,rfl,rfl⟩ zFd))) zh)))))
abbrev z3f:yX:=top 19
abbrev z2c:List yr:=["rule","keys"]
def zno:tx zdm z2c (zp z3f):=by walk_at "s"
def zvn(T:Txt K mg){z3n:yb}{zcn:yj}(zIj:FnAt K mg "homes" z1j zgf z3n zcn)(zKj:tu P w K mg base CX0 1 z3n zcn zgf (spM K 2 zAj)){f:yb}{fd:yj}(B:FnAt K mg "web_of" z3f z2c f fd):tu P w K mg base CX0 2 f fd z2c (spM K 2 zee):=by
 refine fnM B.fn zno rfl (λcdv A outer s H E hr=>⟨znh,?_,λ_ _ _ _ _ e=>e⟩);have hu:=hr.units;exact(zl (zT (zsf (zb (zDb (mv 0) zm) (zb (zed zle T.si zdh (zb (mlc ["key"] [0] (z3d (mv 1)) (λ_ _ _ _ _=>(zvb 0 (hN:=zrb (by rfl)))) (λ_ _ _ _ _=>zVg) (λ_ _ _ _ _=>(tI zIj zKj hr (zb (mv 1) (zb (mv 0) zh)))) (zAb ⟨_,rfl,rfl⟩ zFd)) zh)) zh)))))
abbrev zO:yX:=zVd (top 21) 5
abbrev zu:List yr:=["self"]
def z4f:tx z1d zu (zp zO):=by walk_at "s"
def zxf(T:Txt K mg){C:yb}{f:yb}{fd:yj}(B:MethAt K "Shelf" "all_there" "Shelf.all_there" zO zu C f fd):tu P w K mg base CX0 1 f fd zu (spM K 1 zI):=by
 refine fnM B.fn z4f rfl (λcdv A outer s H E hr=>⟨zcc,?_,λ_ _ _ _ _ e=>e⟩);have hu:=hr.units;exact(zl (zT (zS (zge rfl) T.Th zld (zb (zpf T.tD (mv 0)) zh))))
abbrev zSb:yX:=zVd (top 21) 7
abbrev zY:List yr:=["self"]
def z7h:tx ztf zY (zp zSb):=by walk_at "s"
def z8g(T:Txt K mg){tE:yb}{zC:yb}{zA:yj}(zy:MethAt K "Shelf" "all_there" "Shelf.all_there" zO zu tE zC zA)(zw:tu P w K mg base CX0 1 zC zA zu (spM K 1 zI)){C:yb}{f:yb}{fd:yj}(B:MethAt K "Shelf" "laying" "Shelf.laying" zSb zY C f fd):tu P w K mg base CX0 2 f fd zY (spM K 1 zyb):=by
 refine fnM B.fn z7h rfl (λcdv A outer s H E hr=>⟨zWc,?_,λ_ _ _ _ _ e=>e⟩);have hu:=hr.units;exact(zl (zT (mlc ["key"] [0] (z3d (Tt zy zw hr (mv 0))) (λ_ _ _ _ _=>(zvb 0 (hN:=zrb (by rfl)))) (λ_ _ _ _ _=>zVg) (λ_ _ _ _ _=>(z2g (zpf T.tD (mv 1)) (mv 0))) (zAb ⟨_,rfl,rfl⟩ zFd))))
abbrev z1c:yX:=zVd (top 21) 8
abbrev zHb:List yr:=["self"]
def zak:tx zYg zHb (zp z1c):=by walk_at "s"
def zHi(T:Txt K mg){zTk:yb}{zEh:yj}(Tu:FnAt K mg "left" zMk zWe zTk zEh)(zEg:tu P w K mg base CX0 1 zTk zEh zWe (spM K 2 zZi)){zmg:yb}{zJe:yj}(z7d:FnAt K mg "web_of" z3f z2c zmg zJe)(z2d:tu P w K mg base CX0 2 zmg zJe z2c (spM K 2 zee)){Ti:yb}{zlc:yb}{zYb:yj}(zxb:MethAt K "Shelf" "laying" "Shelf.laying" zSb zY Ti zlc zYb)(zBb:tu P w K mg base CX0 2 zlc zYb zY (spM K 1 zyb)){tE:yb}{zC:yb}{zA:yj}(zy:MethAt K "Shelf" "all_there" "Shelf.all_there" zO zu tE zC zA)(zw:tu P w K mg base CX0 1 zC zA zu (spM K 1 zI)){C:yb}{f:yb}{fd:yj}(B:MethAt K "Shelf" "left" "Shelf.left" z1c zHb C f fd):tu P w K mg base CX0 3 f fd zHb (spM K 1 zQd):=by
 refine fnM B.fn zak rfl (λcdv A outer s H E hr=>⟨zvd,?_,λ_ _ _ _ _ e=>e⟩);have hu:=hr.units;exact(zl (zT (Sk (Tu.al T.tZ) Tu zEg hr (zb (tI z7d z2d hr (zb (zpf T.tJ (mv 0)) (zb (Tt zy zw hr (mv 0)) zh))) (zb (Tt zxb zBb hr (mv 0)) zh)))))
abbrev zZc:yX:=zVd (top 21) 10
abbrev zIb:List yr:=["self"]
def zEj:tx zHg zIb (zp zZc):=by walk_at "s"
def zFi(T:Txt K mg){C:yb}{f:yb}{fd:yj}(B:MethAt K "Shelf" "rule" "Shelf.rule" zZc zIb C f fd):tu P w K mg base CX0 1 f fd zIb (spM K 1 zNd):=by
 refine fnM B.fn zEj rfl (λcdv A outer s H E hr=>⟨zDd,?_,λ_ _ _ _ _ e=>e⟩);have hu:=hr.units;exact(zl (zT (zpf T.tJ (mv 0))))
abbrev z5b:yX:=zVd (top 21) 3
abbrev zW:List yr:=["self","key"]
def zVk:tx zji zW (zp z5b):=by walk_at "s"
def zuj(T:Txt K mg){C:yb}{f:yb}{fd:yj}(B:MethAt K "Shelf" "has" "Shelf.has" z5b zW C f fd):tu P w K mg base CX0 1 f fd zW (spM K 2 zwb):=by
 refine fnM B.fn zVk rfl (λcdv A outer s H E hr=>⟨zqe,?_,λ_ _ _ _ _ e=>e⟩);have hu:=hr.units;exact(zl (zT (zOh zgn (mv 1) (zpf T.tD (mv 0)))))
abbrev z7b:yX:=zVd (top 21) 4
abbrev zcb:List yr:=["self","key"]
def zBi:tx zhg zcb (zp z7b):=by walk_at "s"
def zQh(T:Txt K mg){C:yb}{f:yb}{fd:yj}(B:MethAt K "Shelf" "where" "Shelf.where" z7b zcb C f fd):tu P w K mg base CX0 1 f fd zcb (spM K 2 zac):=by
 refine fnM B.fn zBi rfl (λcdv A outer s H E hr=>⟨zbd,?_,λ_ _ _ _ _ e=>e⟩);have hu:=hr.units;exact(zl (zT (zms (zpf T.tD (mv 0)) (zb (mv 1) zh))))
abbrev zwd:yX:=top 27
abbrev z9b:List yr:=["_law_rule_here","_law_key_here"]
def Td:tx z0g z9b (zp zwd):=by walk_at "s"
def zyi(T:Txt K mg){f:yb}{fd:yj}(B:FnAt K mg "_law_homes" zwd z9b f fd):tu P w K mg base CX0 1 f fd z9b (spM K 2 zRd):=by
 refine fnM B.fn Td rfl (λcdv A outer s H E hr=>⟨zzd,?_,λ_ _ _ _ _ e=>e⟩);have hu:=hr.units;exact(zj (zQ 2 (zKe zh) (hN:=Td.nd)) (zj (zof (z3d (zDb (mv 0) zm)) (zCr (zMd (zec 3 (hN:=Td.nd)) (zMd (zec 4 (hN:=Td.nd)) zEl))) (zl (zUj (zei (mv 2) (zb (zob zad (zob zad (zob zWb (zob zSd (mv 3) (mv 1)) (mv 4)) zm) (zS zCb T.Tk zJd (zb (zDb (mv 0) zm) zh))) zh))))) (zl (zT (mv 2)))))
abbrev z3c:yX:=zVd (top 21) 6
abbrev zKb:List yr:=["self","h"]
def zYj:tx zOg zKb (zp z3c):=by walk_at "s"
def zJi(T:Txt K mg){tE:yb}{zC:yb}{zA:yj}(zy:MethAt K "Shelf" "all_there" "Shelf.all_there" zO zu tE zC zA)(zw:tu P w K mg base CX0 1 zC zA zu (spM K 1 zI)){C:yb}{f:yb}{fd:yj}(B:MethAt K "Shelf" "nest" "Shelf.nest" z3c zKb C f fd):tu P w K mg base CX0 2 f fd zKb (spM K 2 zEd):=by
 refine fnM B.fn zYj rfl (λcdv A outer s H E hr=>⟨zPd,?_,λ_ _ _ _ _ e=>e⟩);have hu:=hr.units;exact(zl (zT (mlc ["key"] [0,1] (z3d (Tt zy zw hr (mv 0))) (λ_ _ _ _ _=>(zvb 0 (hN:=zrb (by rfl)))) (λ_ _ _ _ _=>(zij (zlb (zZd hu) (z2g (zpf T.tD (mv 1)) (mv 0)) (mv 2)))) (λ_ _ _ _ _=>(mv 0)) (zAb ⟨_,rfl,rfl⟩ (zAb ⟨_,rfl,rfl⟩ zFd)))))
abbrev zgc:yX:=top 30
abbrev zfb:List yr:=["_law_shelf","_law_rule_here","_law_lying_there"]
def tK:tx zvf zfb (zp zgc):=by walk_at "s"
def z7g(T:Txt K mg){zfg:yb}{zlf:yj}(z8b:FnAt K mg "_law_wholes" zcd zTb zfg zlf)(zmc:tu P w K mg base CX0 1 zfg zlf zTb (spM K 2 zMb)){sD:yb}{zKg:yb}{zag:yj}(zAd:MethAt K "Shelf" "left" "Shelf.left" z1c zHb sD zKg zag)(zje:tu P w K mg base CX0 3 zKg zag zHb (spM K 1 zQd)){sE:yb}{zPg:yb}{z7f:yj}(zOd:MethAt K "Shelf" "rule" "Shelf.rule" zZc zIb sE zPg z7f)(zie:tu P w K mg base CX0 1 zPg z7f zIb (spM K 1 zNd)){tE:yb}{zC:yb}{zA:yj}(zy:MethAt K "Shelf" "all_there" "Shelf.all_there" zO zu tE zC zA)(zw:tu P w K mg base CX0 1 zC zA zu (spM K 1 zI)){tW:yb}{zqb:yb}{zhb:yj}(zab:MethAt K "Shelf" "has" "Shelf.has" z5b zW tW zqb zhb)(z5:tu P w K mg base CX0 1 zqb zhb zW (spM K 2 zwb)){To:yb}{zFc:yb}{znc:yj}(zJb:MethAt K "Shelf" "where" "Shelf.where" z7b zcb To zFc znc)(zRb:tu P w K mg base CX0 1 zFc znc zcb (spM K 2 zac)){zIg:yb}{zZf:yj}(zCd:FnAt K mg "_law_homes" zwd z9b zIg zZf)(zxe:tu P w K mg base CX0 1 zIg zZf z9b (spM K 2 zRd)){sF:yb}{zRg:yb}{zkg:yj}(zHd:MethAt K "Shelf" "nest" "Shelf.nest" z3c zKb sF zRg zkg)(zBe:tu P w K mg base CX0 2 zRg zkg zKb (spM K 2 zEd)){f:yb}{fd:yj}(B:FnAt K mg "_law_is_kept" zgc zfb f fd):tu P w K mg base CX0 4 f fd zfb (spM K 3 zdb):=by
 refine fnM B.fn tK rfl (λcdv A outer s H E hr=>⟨zYc,?_,λ_ _ _ _ _ e=>e⟩);have hu:=hr.units;exact(zj (z6c (MW.mt (zXh (zMe (zod (tI z8b zmc hr (zb (Tt zy zw hr (mv 0)) (zb (zS (zge rfl) T.Th zld (zb (mv 2) zh)) zh))))) (z0f (zlb (zGg hu) (Tt zOd zie hr (mv 0)) (mv 1))))) (zl (zT zzf)) zpb) (zj (zQ 3 (zed zPn T.TV zyg (zb (zDb (mv 1) zm) zh)) (hN:=tK.nd)) (zj (zof (zXj (mv 2)) (zec 4 (hN:=tK.nd)) (zj (zQ 5 (z2g (mv 2) (mv 4)) (hN:=tK.nd)) (zj (z6c (MW.mt (zXh (zlb zil (sr zab z5 hr (mv 0) (zb (mv 4) zh)) zzf) (zXh (zlb (zGg hu) (sr zJb zRb hr (mv 0) (zb (mv 4) zh)) (mv 5)) (z0f (zlb z8o (mv 5) (tI zCd zxe hr (zb (mv 1) (zb (mv 4) zh)))))))) (zl (zT zzf)) zpb) (zl (zNg (zob z9l (zDb (mv 3) (mv 5)) zm) (zWs (mv 3) (mv 5))))))) (zj (zof (zxh T.sg (zb (zS zCb T.Tk zJd (zb (mv 3) zh)) zh)) (zec 5 (hN:=tK.nd)) (zj (zQ 6 (zS (zGf rfl) T.Th zld (zb (mlc ["_law_key_here"] [2,5] (zXj (mv 2)) (λ_ _ _ _ _=>(zvb 0 (hN:=zrb (by rfl)))) (λ_ _ _ _ _=>(zij (zlb (zZd hu) (z2g (mv 1) (mv 0)) (mv 2)))) (λ_ _ _ _ _=>(mv 0)) (zAb ⟨_,rfl,rfl⟩ (zAb ⟨_,rfl,rfl⟩ zFd))) zh)) (hN:=tK.nd)) (zl (z6c (MW.mt (zXh (zlb zsk (zDb (mv 3) (mv 5)) zm) (z0f (zMe (zod (tI z8b zmc hr (zb (sr zHd zBe hr (mv 0) (zb (mv 5) zh)) (zb (mv 6) zh)))))))) (zl (zT zzf)) zpb)))) (zl (zT (tI z8b zmc hr (zb (Tt zAd zje hr (mv 0)) (zb (mv 3) zh)))))))))
abbrev zNc:yX:=zVd (top 21) 2
abbrev ztb:List yr:=["self","key"]
def z2k:tx zoi ztb (zp zNc):=by walk_at "s"
def zwj(T:Txt K mg){tW:yb}{zqb:yb}{zhb:yj}(zab:MethAt K "Shelf" "has" "Shelf.has" z5b zW tW zqb zhb)(z5:tu P w K mg base CX0 1 zqb zhb zW (spM K 2 zwb)){C:yb}{f:yb}{fd:yj}(B:MethAt K "Shelf" "out" "Shelf.out" zNc ztb C f fd):tu P w K mg base (CXq P w) 2 f fd ztb (spX K 2 zuc):=by
 obtain⟨zBl,n_NoKey,m_NoKey,k_NoKey⟩:=T.sY;refine fnX B.fn z2k rfl (λcdv A outer s H E hr=>⟨zwe,?_,λ_ _ _ _ e=>e⟩);have hu:=hr.units;exact(zj (z6c (zMe (zod (sr zab z5 hr (mv 0) (zb (mv 1) zh)))) (zl (zCm n_NoKey (T.e_NoKey zBl n_NoKey) YV (zb z0k zh))) zpb) (zl (zT (zep (zpf T.tD (mv 0)) (zb (mv 1) zh)))))
abbrev z0j:yX:=top 9
abbrev zff:List yr:=["laying","nest"]
def z1q:tx zZo zff (zp z0j):=by walk_at "s"
def z0n(T:Txt K mg){f:yb}{fd:yj}(B:FnAt K mg "lying" z0j zff f fd):tu P w K mg base CX0 1 f fd zff (spM K 2 zGj):=by
 refine fnM B.fn z1q rfl (λcdv A outer s H E hr=>⟨zBj,?_,λ_ _ _ _ _ e=>e⟩);have hu:=hr.units;exact(zl (zT (mlc ["key","place"] [1] (zSl T.Tz zNe (mv 0)) (λ_ _ _ _ _=>(zLl (zYd (zvb 0 (hN:=zrb (by rfl))) (zYd (zvb 1 (hN:=zrb (by rfl))) zFj)))) (λ_ _ _ _ _=>(zij (zlb (zZd hu) (mv 1) (mv 2)))) (λ_ _ _ _ _=>(mv 0)) (zAb ⟨_,rfl,rfl⟩ zFd))))
abbrev zme:yX:=top 11
abbrev zzc:List yr:=["web","laying","key"]
def tL:tx zYh zzc (zp zme):=by walk_at "s"
def zOj(T:Txt K mg){zyp:yb}{zYm:yj}(zNj:FnAt K mg "lying" z0j zff zyp zYm)(z6j:tu P w K mg base CX0 1 zyp zYm zff (spM K 2 zGj)){f:yb}{fd:yj}(B:FnAt K mg "pushes_to" zme zzc f fd):tu P w K mg base CX0 2 f fd zzc (spM K 3 zze):=by
 refine fnM B.fn tL rfl (λcdv A outer s H E hr=>⟨zue,?_,λ_ _ _ _ _ e=>e⟩);have hu:=hr.units;exact(zj (zQ 3 zom (hN:=tL.nd)) (zj (zof (z3d (zDb (zDb (mv 0) zm) (mv 2))) (zec 4 (hN:=tL.nd)) (zl (zNg (zsf (zb (mv 2) (zb zAm zh))) (zmm (mv 3) (mv 4))))) (zj (zQ 5 (zed (zZl rfl) T.TV zyg (zb (mv 3) zh)) (hN:=tL.nd)) (zj (zQ 6 zm (hN:=tL.nd)) (zj (z9m 100000 (zlb zsk (mv 6) (zS zCb T.Tk zJd (zb (mv 5) zh))) (zj (zof (z3d (tI zNj z6j hr (zb (mv 1) (zb (zDb (mv 5) (mv 6)) zh)))) (zec 7 (hN:=tL.nd)) (zl (zof (z3d (zDb (zDb (mv 0) zm) (mv 7))) (zec 4 (hN:=tL.nd)) (zl (z6c (zlb zVi (mv 4) (mv 3)) (zj (zNg (zsf (zb (mv 7) (zb (zDb (mv 5) (mv 6)) zh))) (zmm (mv 3) (mv 4))) (zl (zUj (zei (mv 5) (zb (mv 4) zh))))) zpb))))) (zl (zvt 6 zbs zm (hN:=tL.nd))))) (zl (zT (mv 3))))))))
abbrev zvh:yX:=top 12
abbrev z6d:List yr:=["pushes","nest"]
def TW:tx zUm z6d (zp zvh):=by walk_at "s"
def zNn(T:Txt K mg){f:yb}{fd:yj}(B:FnAt K mg "row_to" zvh z6d f fd):tu P w K mg base CX0 1 f fd z6d (spM K 2 zsh):=by
 refine fnM B.fn TW rfl (λcdv A outer s H E hr=>⟨zuh,?_,λ_ _ _ _ _ e=>e⟩);have hu:=hr.units;exact(zj (zQ 2 (zKe zh) (hN:=TW.nd)) (zj (z9m 100000 (zlb zil (mv 1) zAm) (zj (zUj (zei (mv 2) (zb (zsf (zb (zDb (z2g (mv 0) (mv 1)) zm) (zb (mv 1) zh))) zh))) (zl (zQ 1 (zDb (z2g (mv 0) (mv 1)) zm) (hN:=TW.nd))))) (zl (zT (z4r T.TV zyg T.sV zvl (mv 2))))))
abbrev zph:yX:=top 13
abbrev zXd:List yr:=["web","laying","key"]
def TJ:tx zvm zXd (zp zph):=by walk_at "s"
def zpn(T:Txt K mg){z5h:yb}{zJg:yj}(zce:FnAt K mg "pushes_to" zme zzc z5h zJg)(zQe:tu P w K mg base CX0 2 z5h zJg zzc (spM K 3 zze)){zTk:yb}{zEh:yj}(Tu:FnAt K mg "left" zMk zWe zTk zEh)(zEg:tu P w K mg base CX0 1 zTk zEh zWe (spM K 2 zZi)){zen:yb}{zFk:yj}(zgh:FnAt K mg "row_to" zvh z6d zen zFk)(zBh:tu P w K mg base CX0 1 zen zFk z6d (spM K 2 zsh)){f:yb}{fd:yj}(B:FnAt K mg "put_in" zph zXd f fd):tu P w K mg base CX0 3 f fd zXd (spM K 3 z5f):=by
 refine fnM B.fn TJ rfl (λcdv A outer s H E hr=>⟨zrh,?_,λ_ _ _ _ _ e=>e⟩);have hu:=hr.units;exact(zj (zQ 3 (tI zce zQe hr (zb (mv 0) (zb (mv 1) (zb (mv 2) zh)))) (hN:=TJ.nd)) (zj (zQ 4 (Sk (Tu.al T.tZ) Tu zEg hr (zb (mv 0) (zb (mv 1) zh))) (hN:=TJ.nd)) (zj (zof (zXj (mv 3)) (zec 5 (hN:=TJ.nd)) (zl (z6c (zlb zop (zDb (mv 4) (mv 5)) zm) (zl (zT (zsf (zb z0k (zb (tI zgh zBh hr (zb (mv 3) (zb (mv 5) zh))) zh))))) zpb))) (zl (zT (zsf (zb z0k (zb (mlc ["other","nest"] [2,3] (zSl T.Tz zNe (mv 1)) (λ_ _ _ _ _=>(zLl (zYd (zvb 0 (hN:=zrb (by rfl))) (zYd (zvb 1 (hN:=zrb (by rfl))) zFj)))) (λ_ _ _ _ _=>(zij (MW.mt (zXh (zlb (zZd hu) (mv 0) (mv 2)) (z0f (zlb zgn (mv 1) (mv 3))))))) (λ_ _ _ _ _=>(mv 0)) (zAb ⟨_,rfl,rfl⟩ (zAb ⟨_,rfl,rfl⟩ zFd))) zh))))))))
abbrev zVc:yX:=zVd (top 21) 1
abbrev zub:List yr:=["self","key"]
def Tb:tx zNh zub (zp zVc):=by walk_at "s"
def zZj(T:Txt K mg){tW:yb}{zqb:yb}{zhb:yj}(zab:MethAt K "Shelf" "has" "Shelf.has" z5b zW tW zqb zhb)(z5:tu P w K mg base CX0 1 zqb zhb zW (spM K 2 zwb)){zwm:yb}{z1k:yj}(zih:FnAt K mg "put_in" zph zXd zwm z1k)(zZh:tu P w K mg base CX0 3 zwm z1k zXd (spM K 3 z5f)){tE:yb}{zC:yb}{zA:yj}(zy:MethAt K "Shelf" "all_there" "Shelf.all_there" zO zu tE zC zA)(zw:tu P w K mg base CX0 1 zC zA zu (spM K 1 zI)){zmg:yb}{zJe:yj}(z7d:FnAt K mg "web_of" z3f z2c zmg zJe)(z2d:tu P w K mg base CX0 2 zmg zJe z2c (spM K 2 zee)){Ti:yb}{zlc:yb}{zYb:yj}(zxb:MethAt K "Shelf" "laying" "Shelf.laying" zSb zY Ti zlc zYb)(zBb:tu P w K mg base CX0 2 zlc zYb zY (spM K 1 zyb)){zJm zMr zTo:yb}{TN:yj}(tN:Sj K mg "Full" "some" "Full.__init__" zOc zEb zJm zMr zTo TN)(Tg:tu P w K mg base CX0 1 zTo TN zEb (spL zJm "some")){C:yb}{f:yb}{fd:yj}(B:MethAt K "Shelf" "put" "Shelf.put" zVc zub C f fd):tu P w K mg base (CXq P w) 4 f fd zub (spX K 2 zxc):=by
 obtain⟨zPl,n_Twice,m_Twice,k_Twice⟩:=T.sZ;refine fnX B.fn Tb rfl (λcdv A outer s H E hr=>⟨zke,?_,λ_ _ _ _ e=>e⟩);have hu:=hr.units;exact(zj (z6c (zod (sr zab z5 hr (mv 0) (zb (mv 1) zh))) (zl (zCm n_Twice (T.e_Twice zPl n_Twice) YV (zb z0k zh))) zpb) (zj (zQ 2 (zob zWb (Tt zy zw hr (mv 0)) (zKe (zb (mv 1) zh))) (hN:=Tb.nd)) (zj (z6c (zlb zop (zS zCb T.Tk zJd (zb (mv 2) zh)) (zHp T.sK)) (zl (ztk tN.nm tN.ex Tg tN.bd hr (zb (zS (zGf rfl) T.Th zld (zb (mv 2) zh)) zh))) zpb) (zj (zQ 3 (tI zih zZh hr (zb (tI z7d z2d hr (zb (zpf T.tJ (mv 0)) (zb (mv 2) zh))) (zb (zob zWb (Tt zxb zBb hr (mv 0)) (zKe (zb zAm zh))) (zb (zob z9l (zS zCb T.Tk zJd (zb (mv 2) zh)) zm) zh)))) (hN:=Tb.nd)) (zj (z6c (zlb (zZd hu) (zDb (mv 3) zm) z0k) (zl (ztk tN.nm tN.ex Tg tN.bd hr (zb (zS (zGf rfl) T.Th zld (zb (mlc ["place"] [2] (z3d (zDb (mv 3) zm)) (λ_ _ _ _ _=>(zvb 0 (hN:=zrb (by rfl)))) (λ_ _ _ _ _=>zVg) (λ_ _ _ _ _=>(zDb (mv 1) (mv 0))) (zAb ⟨_,rfl,rfl⟩ zFd)) zh)) zh))) zpb) (zj (mslc 4 ["push"] [2] (z3d (zDb (mv 3) zm)) (λ_ _ _ _ _=>(zvb 0 (hN:=zrb (by rfl)))) (λ_ _ _ _ _=>zVg) (λ_ _ _ _ _=>(zsf (zb (zDb (mv 1) (zDb (mv 0) zm)) (zb (zDb (mv 0) zm) zh)))) (zAb ⟨_,rfl,rfl⟩ zFd) Tb.nd) (zj (zof (z3d (mv 4)) (zec 5 (hN:=Tb.nd)) (zl (zNg (zDb (mv 5) zm) (zmm (zpf T.tD (mv 0)) (zDb (mv 5) zm))))) (zl (zT (mv 4))))))))))
abbrev zIc:yX:=top 32
abbrev zkb:List yr:=["_law_shelf","_law_key_here"]
def Tj:tx zjg zkb (zp zIc):=by walk_at "s"
def zIh(T:Txt K mg){TB:yb}{znd:yb}{z0c:yj}(z0b:MethAt K "Shelf" "out" "Shelf.out" zNc ztb TB znd z0c)(z3b:tu P w K mg base (CXq P w) 2 znd z0c ztb (spX K 2 zuc)){tW:yb}{zqb:yb}{zhb:yj}(zab:MethAt K "Shelf" "has" "Shelf.has" z5b zW tW zqb zhb)(z5:tu P w K mg base CX0 1 zqb zhb zW (spM K 2 zwb)){To:yb}{zFc:yb}{znc:yj}(zJb:MethAt K "Shelf" "where" "Shelf.where" z7b zcb To zFc znc)(zRb:tu P w K mg base CX0 1 zFc znc zcb (spM K 2 zac)){f:yb}{fd:yj}(B:FnAt K mg "_law_no_key" zIc zkb f fd):tu P w K mg base CX0 3 f fd zkb (spM K 2 zLb):=by
 obtain⟨zBl,n_NoKey,m_NoKey,k_NoKey⟩:=T.sY;refine fnM B.fn Tj rfl (λcdv A outer s H E hr=>⟨zfd,?_,λ_ _ _ _ _ e=>e⟩);have hu:=hr.units;exact(zj (zQ 2 zzf (hN:=Tj.nd)) (zj (zgr (zmr (zmq z0b z3b hr (mv 0) (zb (mv 1) zh))) (z3l [("NoKey",true),("Twice",false),("Full",false)] n_NoKey k_NoKey (T.s_NoKey zBl n_NoKey) (λ_=>(zl (zQ 2 zzf (hN:=Tj.nd)))) z4n)) (zl (zT (zAp (mv 2) (zAp (zOh zDr (sr zab z5 hr (mv 0) (zb (mv 1) zh)) zzf) (zJo (zOh zDr (sr zJb zRb hr (mv 0) (zb (mv 1) zh)) zAm))))))))
abbrev z5e:yX:=top 33
abbrev zTc:List yr:=["_law_shelf","_law_rule_here","_law_lying_there","_law_key_here"]
def Tl:tx zqj zTc (zp z5e):=by walk_at "s"
def zxk(T:Txt K mg){TB:yb}{znd:yb}{z0c:yj}(z0b:MethAt K "Shelf" "out" "Shelf.out" zNc ztb TB znd z0c)(z3b:tu P w K mg base (CXq P w) 2 znd z0c ztb (spX K 2 zuc)){TC:yb}{zrd:yb}{z4c:yj}(zwc:MethAt K "Shelf" "put" "Shelf.put" zVc zub TC zrd z4c)(zBc:tu P w K mg base (CXq P w) 4 zrd z4c zub (spX K 2 zxc)){zjc:yb}{zZb:yj}(zeb:FnAt K mg "_law_is_kept" zgc zfb zjc zZb)(zgb:tu P w K mg base CX0 4 zjc zZb zfb (spM K 3 zdb)){zEc:yb}{zkc:yj}(zGb:FnAt K mg "_law_no_key" zIc zkb zEc zkc)(zVb:tu P w K mg base CX0 3 zEc zkc zkb (spM K 2 zLb)){f:yb}{fd:yj}(B:FnAt K mg "_law_out" z5e zTc f fd):tu P w K mg base CX0 5 f fd zTc (spM K 4 z8e):=by
 refine fnM B.fn Tl rfl (λcdv A outer s H E hr=>⟨zaf,?_,λ_ _ _ _ _ e=>e⟩);have hu:=hr.units;exact(zj (zQ 4 (sT z0b z3b hr (mv 0) (zb (mv 3) zh)) (hN:=Tl.nd)) (zj (z6c (MW.mt (zXh (zod (zS (zUf .bl) T.Tf zdd (zb (mv 4) (zb (znm T.Sn zto) zh)))) (z0f (zlb (zGg hu) (mv 4) (z2g (mv 2) (mv 3)))))) (zl (zT zzf)) zpb) (zj (zQ 5 (zed (zSh rfl) T.sU zTl (zb (mlc ["_law_one"] [2,3] (zXj (mv 2)) (λ_ _ _ _ _=>(zvb 0 (hN:=zrb (by rfl)))) (λ_ _ _ _ _=>(zij (zlb (zGg hu) (mv 0) (mv 2)))) (λ_ _ _ _ _=>(zsf (zb (mv 0) (zb (z2g (mv 1) (mv 0)) zh)))) (zAb ⟨_,rfl,rfl⟩ (zAb ⟨_,rfl,rfl⟩ zFd))) zh)) (hN:=Tl.nd)) (zj (z6c (MW.mt (zXh (zMe (zod (tI zeb zgb hr (zb (mv 0) (zb (mv 1) (zb (mv 5) zh)))))) (z0f (zMe (zod (tI zGb zVb hr (zb (mv 0) (zb (mv 3) zh)))))))) (zl (zT zzf)) zpb) (zj (zQ 6 (sT zwc zBc hr (mv 0) (zb (mv 3) zh)) (hN:=Tl.nd)) (zj (z6c (MW.mt (zXh (zlb (zGg hu) (zS zCb T.Tk zJd (zb (mv 6) zh)) zm) (zXh (zlb (zGg hu) (zDb (zDb (mv 6) zm) zm) (mv 3)) (z0f (zMe (zod (tI zeb zgb hr (zb (mv 0) (zb (mv 1) (zb (zed (zSh rfl) T.sU zTl (zb (zob zWb (zdr T.TV zyg (mv 5)) (mv 6)) zh)) zh)))))))))) (zl (zT zzf)) zpb) (zl (zT (zAp (zOh (zZd hu) (sT z0b z3b hr (mv 0) (zb (mv 3) zh)) (zDb (zDb (mv 6) zm) zm)) (zJo (tI zeb zgb hr (zb (mv 0) (zb (mv 1) (zb (mv 5) zh))))))))))))))
abbrev zYe:yX:=top 31
abbrev zRc:List yr:=["_law_shelf","_law_lying_there","_law_key_here"]
def tR:tx zTi zRc (zp zYe):=by walk_at "s"
def zNk(T:Txt K mg){TC:yb}{zrd:yb}{z4c:yj}(zwc:MethAt K "Shelf" "put" "Shelf.put" zVc zub TC zrd z4c)(zBc:tu P w K mg base (CXq P w) 4 zrd z4c zub (spX K 2 zxc)){f:yb}{fd:yj}(B:FnAt K mg "_law_put" zYe zRc f fd):tu P w K mg base CX0 5 f fd zRc (spM K 3 zkd):=by
 obtain⟨zJm,n_Full,m_Full,k_Full⟩:=T.x_Full;obtain⟨zPl,n_Twice,m_Twice,k_Twice⟩:=T.sZ;refine fnM B.fn tR rfl (λcdv A outer s H E hr=>⟨z7e,?_,λ_ _ _ _ _ e=>e⟩);have hu:=hr.units;exact(zj (zQ 3 (zKe zh) (hN:=tR.nd)) (zj (zgr (zmr (z9s 3 zwc zBc hr (mv 0) (zb (mv 2) zh) (hN:=tR.nd))) (z3l [("NoKey",false),("Twice",true),("Full",false)] n_Twice k_Twice (T.s_Twice zPl n_Twice) (λ_=>(zl (zQ 3 (zKe zh) (hN:=tR.nd)))) (z3l [("NoKey",false),("Twice",false),("Full",true)] n_Full k_Full (T.s_Full zJm n_Full) (λ_=>(zl (zQ 3 (zKe zh) (hN:=tR.nd)))) z4n))) (zj (zQ 4 (zed zIl T.sU zTl (zb (mv 1) zh)) (hN:=tR.nd)) (zj (zof (z3d (mv 3)) (zCr (zMd (zec 5 (hN:=tR.nd)) (zMd (zec 6 (hN:=tR.nd)) zEl))) (zl (zNg (mv 6) (zmm (mv 4) (mv 5))))) (zl (zT (mv 4)))))))
abbrev zGl:yX:=top 34
abbrev zrm:List yr:=["_law_script"]
def Tp:tx zTt zrm (zp zGl):=by walk_at "s"
def zYs(T:Txt K mg){z8i:yb}{zPh:yj}(zef:FnAt K mg "_law_pen" zdf zSc z8i zPh)(zJf:tu P w K mg base CX0 1 z8i zPh zSc (spM K 1 zZe)){z1h:yb}{z1g:yj}(z8d:FnAt K mg "_law_rule" zhe zAc z1h z1g)(zOe:tu P w K mg base CX0 3 z1h z1g zAc (spM K 1 zte)){TX:yb}{zEe:yb}{z4d:yj}(zsc:sC K mg "Shelf" zQb zbb TX zEe z4d)(zMc:tu P w K mg base CX0 1 zEe z4d zbb (spM K 2 zOb)){z2b:yb}{zFb:yj}(zG:FnAt K mg "_law_take" zPc zmb z2b zFb)(zD:tu P w K mg base CX0 2 z2b zFb zmb (spM K 2 zB)){zkj:yb}{z0h:yj}(zbf:FnAt K mg "_law_key" z9e zLc zkj z0h)(zDf:tu P w K mg base CX0 3 zkj z0h zLc (spM K 2 z6e)){zjc:yb}{zZb:yj}(zeb:FnAt K mg "_law_is_kept" zgc zfb zjc zZb)(zgb:tu P w K mg base CX0 4 zjc zZb zfb (spM K 3 zdb)){z2i:yb}{zVh:yj}(z3e:FnAt K mg "_law_out" z5e zTc z2i zVh)(zBf:tu P w K mg base CX0 5 z2i zVh zTc (spM K 4 z8e)){zsj:yb}{zai:yj}(zhf:FnAt K mg "_law_put" zYe zRc zsj zai)(zEf:tu P w K mg base CX0 5 zsj zai zRc (spM K 3 zkd)){zEc:yb}{zkc:yj}(zGb:FnAt K mg "_law_no_key" zIc zkb zEc zkc)(zVb:tu P w K mg base CX0 3 zEc zkc zkb (spM K 2 zLb)){f:yb}{fd:yj}(B:FnAt K mg "law" zGl zrm f fd):tu P w K mg base CX0 6 f fd zrm (spM K 1 zhn):=by
 refine fnM B.fn Tp rfl (λcdv A outer s H E hr=>⟨z7q,?_,λ_ _ _ _ _ e=>e⟩);have hu:=hr.units;exact(zj (zQ 1 (tI zef zJf hr (zb (mv 0) zh)) (hN:=Tp.nd)) (zj (zQ 2 (tI z8d zOe hr (zb (mv 1) zh)) (hN:=Tp.nd)) (zj (zQ 3 (mmakeA zsc zMc hr (zb (mv 2) zh)) (hN:=Tp.nd)) (zj (zQ 4 zom (hN:=Tp.nd)) (zj (zof (zxh T.sg (zb (tI zG zD hr (zb (mv 1) (zb zm zh))) zh)) (zec 5 (hN:=Tp.nd)) (zj (zQ 6 (tI zG zD hr (zb (mv 1) (zb zm zh))) (hN:=Tp.nd)) (zj (zQ 7 (tI zbf zDf hr (zb (mv 1) (zb (zS (zge rfl) T.Th zld (zb (mv 4) zh)) zh))) (hN:=Tp.nd)) (zj (z6c (MW.mt (zKo (zlb zsk (mv 6) zm) (zQl (zlb (zUr hu) (mv 4) zom)))) (zj (zQ 7 (zDb (zS (zge rfl) T.Th zld (zb (mv 4) zh)) (tI zG zD hr (zb (mv 1) (zb (zS zAn T.Tk zJd (zb (mv 4) zh)) zh)))) (hN:=Tp.nd)) (zj (z6c (zMe (zod (zMo 4 (tI z3e zBf hr (zb (mv 3) (zb (mv 2) (zb (mv 4) (zb (mv 7) zh)))))))) (zl (zT zzf)) zpb) (zl (zUj (zep (mv 4) (zb (mv 7) zh)))))) (zl (z6c (MW.mt (zKo (zlb (zZd hu) (mv 6) zm) (zQl (zlb zVi (mv 7) (mv 4))))) (zl (z6c (zMe (zod (tI zGb zVb hr (zb (mv 3) (zb (mv 7) zh))))) (zl (zT zzf)) zpb)) (zl (zQ 4 (tI zhf zEf hr (zb (mv 3) (zb (mv 4) (zb (mv 7) zh)))) (hN:=Tp.nd)))))) (zl (z6c (zMe (zod (zMo 4 (tI zeb zgb hr (zb (mv 3) (zb (mv 2) (zb (mv 4) zh))))))) (zl (zT zzf)) zpb)))))) (zl (zT zzf)))))))
end
end P
namespace P
open PySem PySem.Spec PyProof.Rows L2 M
set_option maxHeartbeats 4000000
variable {R:List Nat}{K:List (List Nat)}{μ:Mem}{Q:D->Mem->Prop}{i L l B m k n h:Nat}{μ':Mem}{δ:M.Loc}{φ:FA}{row kvs ts:List (Nat×Nat)}{nx bk ct:M.Loc->Mem->Prop}{rt:D->Mem->Prop}{S A:List Nat}{r:D}{F:FX}
local macro_rules | `(tactic| walk_at "w") => `(tactic| first
  | refine zF ?_ | refine zsb ?_ | refine zVj ?_ | refine zJc ?_ | refine z6k ?_ | refine zri ?_ | refine zPb ?_ | refine zgi ?_
  | refine zd rfl ?_ | refine w_c ?_ | refine zq ?_ | refine zn ?_ | refine ze ?_ | refine zo ?_ | refine zxi ?_ | refine z6g ?_ | refine zSq ?_ | refine z5u ?_ | refine z0t ?_ | refine zGq ?_ | refine zXv ?_ | refine w_not ?_ | refine zvv ?_ | refine zEm ?_ | refine z5o ?_ | refine zeq ?_ | refine zev ?_
  | refine zN ?_ | refine zWm ?_ | refine zah ?_ | refine zHe ?_ | refine zlt ?_ | refine zmi ?_ | refine zPf ?_ | refine zOq ?_ | refine zgv ?_ | refine zUh ?_ | refine zSo ?_
  | refine zAf ?_ | refine zFs ?_ | refine z9g (by first | decide | omega) ?_ | refine zFq (by first | decide | omega) (by first | decide | omega) ?_ | refine zbk ?_ | refine z3g ?_ | refine zln ?_ | refine zSt ?_ | refine zsm ?_ | refine zYt (by decide) (by decide) (by decide) ?_ | refine zBt ?_ | refine zMu ?_ | refine zUu ?_ | refine znu ?_
  | refine zwg rfl ?_ | refine zir rfl ?_ | refine zDh rfl ?_ | with_reducible refine ⟨_,rfl,?_⟩)
local macro_rules | `(tactic| walk_at "om") => `(tactic| first | omega | (simp only [length_map, length_range, Int.toNat_natCast, length_append, length_cons, List.length_nil] at *; omega) | (simp <;> omega))
structure WebA(L:Int)(rooms:List Int)(ks:List (List Int)):Prop where
 rl:1<=rooms.length/\rooms.length<=10
 rn:∀r∈rooms,0<=r
 kl:ks.length<=L
 kn:∀k∈ks,(2<=k.length/\k.length<=3)/\∀i∈k,0<=i/\i<rooms.length
def zIr{ds:List D}{i:Int}(h0:0<=i)(h1:i<ds.length):∃d,d∈ds/\ds[i.toNat]?=some d/\atI ds i=some d:=by
 have hi:i.toNat<ds.length:=by omega
 refine⟨ds[i.toNat],getElem_mem hi,by simp[hi],?_⟩;have:=zvc (xs:=ds) (j:=i.toNat) (v:=ds[i.toNat]) (by simp[hi]);rw[Int.toNat_of_nonneg h0]at this;exact this
def tT(ns:List Int)(μ:Mem)(l B:Nat):Prop:=∃(b:Bool)(k:Nat)(r:Int),k<=B/\μ[l]?=some (.lst [.fz (ns.map .int),.bl b,.int (k:Nat),.int r])
section
variable {ns:List Int}
def tT.kb{μ:Mem}{L:List Nat}(h:tT ns μ l B)(k:KB L μ μ')(hl:l∉L):tT ns μ' l B:=by
 obtain⟨b,j,r,hj,e⟩:=h;exact⟨b,j,r,hj,k.at_ _ _ hl e⟩
def tT.app{μ g:Mem}(h:tT ns μ l B):tT ns (μ++g) l B:=h.kb (L:=[]) (KB.refl.app) (by simp)
def tT.keep{μ:Mem}(h:tT ns μ l B)(k:tq μ μ'):tT ns μ' l B:=h.kb (L:=[]) (KB.of_keep k) (by simp)
def tT.lt(h:tT ns μ l B):l<μ.length:=by
 obtain⟨b,j,r,hj,e⟩:=h;exact zH e
def tT.set{o:tw}(h:tT ns μ l B)(hne:m≠l):tT ns (μ.set m o) l B:=by
 obtain⟨b,j,r,hj,e⟩:=h;exact⟨b,j,r,hj,zjb e hne⟩
def tT.up{B':Nat}(h:tT ns μ l B)(hb:B<=B'):tT ns μ l B':=by
 obtain⟨b,j,r,hj,e⟩:=h;exact⟨b,j,r,by omega,e⟩
def z6s(q:∀μ',tq μ μ'->tT ns μ' μ.length 0->μ'.length=μ.length+1->Q (.loc μ.length) μ'):WF zZe [.fz (ns.map .int)] μ Q:=by
 refine zQc rfl ?_;show WS zcf [some (.fz (ns.map .int))] μ _ _ _ _;unfold zcf;refine zJc (z6g (ze (zd rfl (ze (zXv (zq (zn (ze (zd rfl (zo (zwg rfl (w_c (z3g ⟨_,rfl,λh=>?_,λh=>?_⟩)))))))))))))
 ·have h0:ns≠[]:=by
   rintro rfl;simp at h
  obtain⟨n,ns',rfl⟩:=List.exists_cons_of_ne_nil h0;refine zq (zq (zq (zd rfl (w_c (zoe rfl (zvc (j:=0) (v:=D.int n) rfl) (w_c (z9g (by omega) (w_c (z3g ?_)))))))));exact ze (w_c (ze (w_c (zo (q _ .app ⟨_,0,0,yh _,zz⟩ (by simp))))))
 ·exact ze (w_c (ze (w_c (zo (q _ .app ⟨_,0,0,yh _,zz⟩ (by simp))))))
def zqp(hk:k<=1000000)(q:∀v:Int,Q (.int v) μ):WF zId [.fz (ns.map .int),.int (k:Nat)] μ Q:=by
 refine zQc rfl ?_;show WS zxd [some (.fz (ns.map .int)),some (.int (k:Nat)),none,none,none] μ _ _ _ _;unfold zxd
 have mk:∀{i:Int},zOf i (k:Nat)=true:=λ{i}=>by
  unfold zOf;rw[decide_eq_true (show -(2^64)<((k:Nat):Int)/\((k:Nat):Int)<2^64 by omega)];simp
 have rest:∀c:Int,WS (znb (zDc 3 (zJ z4j (zJ zIf (zJ zti (zJ zIf (zJ zIf (zk 2) (zJ zti (fC (.int 40503)) (zk 1))) (fC (.int 1))) (fC (.int 48271))) (zJ zti (zk 1) (zk 1))) (fC (.int 2147483647)))) (znb (zDc 4 (zJ z4j (zJ zIf (zJ zIf (zJ zti (zk 3) (zk 3)) (zJ zti (fC (.int 69621)) (zk 3))) (zJ zti (fC (.int 31)) (zk 1))) (fC (.int 2147483629)))) (zUc (zJ z4j (zJ zIf (zJ zIf (zJ zti (zk 4) (zk 4)) (zJ zti (fC (.int 16807)) (zk 4))) (zk 1)) (fC (.int 1073741789)))))) [some (.fz (ns.map .int)),some (.int (k:Nat)),some (.int c),none,none] μ (λ_ μ'=>Q .non μ') Q (λ_ _=>False) (λ_ _=>False):=λc=>by
  refine zF (zsb (zq (zq (zq (zq (zq (zd rfl (zq (w_c (zd rfl (zzi mk (zAf (w_c (zAf (w_c (zzi (by unfold zOf;simp) (zq (zd rfl (zd rfl (zzi mk (zAf (w_c (z9g (by omega) ?_)))))))))))))))))))))));have h1:∀x:Int,0<=x%2147483647/\x%2147483647<2147483647:=λx=>⟨Int.emod_nonneg _ (by omega),xu _ (by omega)⟩
  obtain⟨a1,b1⟩:=h1 ((c+40503*(k:Nat)+1)*48271+(k:Nat)*(k:Nat));generalize ((c+40503*((k:Nat):Int)+1)*48271+((k:Nat):Int)*((k:Nat):Int))%2147483647=x at a1 b1
  have mx:∀{i:Int},zOf i x=true:=λ{i}=>by
   unfold zOf;rw[decide_eq_true (show -(2^64)<x/\x<2^64 by omega)];simp
  refine zF (zsb (zq (zq (zq (zq (zd rfl (zd rfl (zzi mx (zq (w_c (zd rfl (zzi mx (zAf (zq (w_c (zd rfl (zzi mk (zAf (w_c (z9g (by omega) ?_))))))))))))))))))));have h2:∀y:Int,0<=y%2147483629/\y%2147483629<2147483629:=λy=>⟨Int.emod_nonneg _ (by omega),xu _ (by omega)⟩
  obtain⟨a2,b2⟩:=h2 (x*x+69621*x+31*(k:Nat));generalize (x*x+69621*x+31*((k:Nat):Int))%2147483629=y at a2 b2
  have my:∀{i:Int},zOf i y=true:=λ{i}=>by
   unfold zOf;rw[decide_eq_true (show -(2^64)<y/\y<2^64 by omega)];simp
  exact zJc (zq (zq (zq (zq (zd rfl (zd rfl (zzi my (zq (w_c (zd rfl (zzi my (zAf (zd rfl (zAf (w_c (z9g (by omega) (q _)))))))))))))))))
 refine zF (zsb (w_c ?_));refine zF (zri (zN (zq (zn (ze (zd rfl (zo (zwg rfl (w_c (zbk ⟨_,rfl,λh2=>?_,λh2=>zPb (rest _)⟩))))))))));have h2:=of_decide_eq_true h2;obtain⟨d,hm,_,ha⟩:=zIr (ds:=ns.map .int) (i:=(k:Nat)%((ns.map D.int).length:Int)) (Int.emod_nonneg _ (by omega)) (xu _ h2);obtain⟨v,_,rfl⟩:=List.mem_map.mp hm;exact zsb (zq (zd rfl (zq (zd rfl (zn (ze (zd rfl (zo (zwg rfl (z9g h2 (zoe rfl ha (rest _))))))))))))
def zHt{gs:FGs}{P:M.Loc->Mem->Prop}{a b c d:D}(e:μ[l]?=some (.lst [a,b,c,d]))(h:WGs gs [a,b,c,d] δ μ P):WG (gTL 4 gs) (.loc l) δ μ P:=by
 obtain⟨δ1,μ1,e1,q⟩:=h;refine⟨δ1,μ1,?_,q⟩;unfold gTL;dsimp only;rw[e];exact e1
def zch{s:Int}(h:tT ns μ l B)(hB:B<=1000000)(h0:0<s)(h1:s<1606938044258990275541962092341162602522202993782792835301376)
 (q:∀v μ',0<=v->v<s->KB [l] μ μ'->μ'.length=μ.length->tT ns μ' l (B+1)->Q (.int v) μ'):WF zB [.loc l,.int s] μ Q:=by
 obtain⟨b,k,r,hk,e⟩:=h;have hlt:=zH e;refine zQc rfl ?_;show WS zbe [some (.loc l),some (.int s),none,none,none,none] μ _ _ _ _;unfold zbe;refine zF (zVj (zd rfl (zHt e (zUh (zPf (zUh (zPf (zUh (zPf (zUh (zPf (zSo ?_))))))))))));refine zF (zVj (zq (zd rfl (w_c (zAf ?_)))));refine zls (zd rfl (w_c ⟨_,_,_,rfl,rfl,e,⟨by omega,by simp⟩,?_⟩));show WS _ _ (μ.set l (.lst [.fz (ns.map .int),.bl b,.int (((k:Nat):Int)+1),.int r])) _ _ _ _;have e2:(μ.set l (tw.lst [.fz (ns.map .int),.bl b,.int (((k:Nat):Int)+1),.int r]))[l]?=some (.lst [.fz (ns.map .int),.bl b,.int ((k+1:Nat):Int),.int r]):=zV e;have k2:KB [l] μ (μ.set l (tw.lst [.fz (ns.map .int),.bl b,.int (((k:Nat):Int)+1),.int r])):=KB.refl.set (.inl (by simp));have l2:(μ.set l (tw.lst [.fz (ns.map .int),.bl b,.int (((k:Nat):Int)+1),.int r])).length=μ.length:=by simp
 generalize μ.set l (tw.lst [.fz (ns.map .int),.bl b,.int (((k:Nat):Int)+1),.int r])=μ2 at e2 k2 l2;refine zF (zri (zN (zd rfl ⟨_,rfl,λhb=>?_,λhb=>zPb ?_⟩)))
 ·refine zJc (zq (zn (ze (zd rfl (ze (zd rfl (zo ?_))))))) ;refine zqp (by omega) λv=>zd rfl (z9g h0 ?_);exact q _ _ (Int.emod_nonneg _ (by omega)) (xu _ h0) k2 l2 ⟨b,k+1,r,by omega,e2⟩
 ·have last:∀r':Int,WS (znb (zSn (zJ zis (zk 5) (zk 1)) (gAt (zk 0) (fC (.int 3)))) (zUc (zJ z4j (zk 5) (zk 1)))) [some (.loc l),some (.int s),some (.fz (ns.map .int)),some (.bl b),some (.int (k:Nat)),some (.int r')] μ2 (λ_ μ'=>Q .non μ') Q (λ_ _=>False) (λ_ _=>False):=λr'=>by
   refine zF (zVj (zq (zd rfl (zd rfl (zFq h0 h1 ?_)))));refine zls (zd rfl (w_c ⟨_,_,_,rfl,rfl,e2,⟨by omega,by simp⟩,?_⟩));show WS _ _ (μ2.set l (.lst [.fz (ns.map .int),.bl b,.int ((k+1:Nat):Int),.int (r' / s)])) _ _ _ _;refine zJc (zq (zd rfl (zd rfl (z9g h0 ?_))));exact q _ _ (Int.emod_nonneg _ (by omega)) (xu _ h0) (k2.trans (KB.refl.set (.inl (by simp)))) (by simp[l2]) ⟨b,k+1,r' / s,by omega,zV e2⟩
  refine zF (zri (zN (zq (zq (zd rfl (w_c (z9g (by omega) (w_c (z3g ⟨_,rfl,λhz=>?_,λhz=>zPb (last r)⟩)))))))));refine zF (zsb (w_c ?_));refine zri (zN (zq (zq (zq (zd rfl (w_c (zFq (by omega) (by omega) (w_c (zAf (zn (ze (zd rfl (zo (zwg rfl (zbk ⟨_,rfl,λh2=>?_,λh2=>zPb (last 0)⟩)))))))))))))));have h2:=of_decide_eq_true h2;obtain⟨d,hm,_,ha⟩:=zIr (ds:=ns.map .int) (i:=((k:Nat):Int) / 60+1) (by omega) h2;obtain⟨v,_,rfl⟩:=List.mem_map.mp hm;exact zsb (zq (zd rfl (zq (zq (zd rfl (w_c (zFq (by omega) (by omega) (w_c (zAf (zoe rfl ha (last v)))))))))))
def zNq{s:Nat}{φ:FE}(hp:tT ns μ l B)
 (he:∀(k:Nat)(μ':Mem)(Q':D->Mem->Prop),k<m->tT ns μ' l (B+k)->KB [l] μ μ'->(∀v μ'',0<=v->v<(s:Int)->KB [l] μ' μ''->tT ns μ'' l (B+k+1)->Q' (.int v) μ'')->WE φ (δ.set 0 (some (.int k))) μ' Q')
 (q:∀(S:List Nat)(μ':Mem),S.length=m->(∀h∈S,h<s)->KB [l] μ μ'->tT ns μ' l (B+m)->Q (.loc μ'.length) (μ'++[.lst (nat S)])) :
 WL (gN 0) zgk φ yes δ ((Yc m).map λ(k:Nat) =>.int k) [] μ Q:=by
 refine zql (λi ys μ'=>∃S:List Nat,ys=nat S/\S.length=i/\(∀h∈S,h<s)/\KB [l] μ μ'/\tT ns μ' l (B+i)) ⟨[],rfl,rfl,by simp,.refl,hp⟩ (λ_ _ _ _=>rfl) ?_ ?_
 ·rintro i x ys μ' hx ⟨S,rfl,hl,hS,k,p⟩;obtain⟨hi,rfl⟩:=zkh hx;refine zPf (zlt ⟨λ_=>?_,λhf=>(by cases hf)⟩);refine he i μ' _ hi p k λv μ'' a b k' p'=>?_;obtain⟨v,rfl⟩:=YL a;refine⟨S++[v],by rw[zxg];rfl,by simp[hl],λh hh=>?_,k.trans k',p'⟩;rcases List.mem_append.mp hh with hh|hh
  ·exact hS h hh
  ·rw[List.mem_singleton.mp hh];omega
 ·rintro ys μ' ⟨S,rfl,hl,hS,k,p⟩;simp only[length_map,length_range]at hl p;exact q S μ' hl hS k p
end
def zbc{ns:List Int}{s:Nat}(h:tT ns μ l B)(hB:B<=1000000)(h0:0<s)(h1:s<=1000)(q:∀(v:Nat)(μ':Mem),v<s->KB [l] μ μ'->tT ns μ' l (B+1)->Q (.int (v:Nat)) μ'):WF zB [.loc l,.int (s:Nat)] μ Q :=
 zch h hB (by omega) (by omega) λv μ' a b k _ p=>by
  obtain⟨v,rfl⟩:=YL a;exact q v μ' (by omega) k p
def So{a:Nat}(h:l≠a):a∉[l]:=λhm=>h (List.mem_singleton.mp hm).symm
abbrev tn(ns:List Nat):D:=.tup (nat ns)
abbrev wn(R:List Nat)(K:List (List Nat)):D:=.tup [tn R,.tup (K.map tn)]
structure Wb(L:Nat)(R:List Nat)(K:List (List Nat)):Prop where
 rl:1<=R.length/\R.length<=10
 kl:K.length<=L
 kn:∀k∈K,(2<=k.length/\k.length<=3)/\∀h∈k,h<R.length
def Wb.key(w:Wb L R K){k:Nat}(h:k<K.length):(2<=(K.getD k []).length/\(K.getD k []).length<=3)/\∀x∈K.getD k [],x<R.length:=by
 have:K.getD k []=K[k]:=by simp[h]
 rw[this];exact w.kn _ (getElem_mem h)
def z2r(q:Q (tn R) μ):W2 gIx (wn R K) (.int 0) μ Q:=zoe rfl (show atI [tn R,.tup (K.map tn)] 0=some (tn R) from rfl) q
def zHr(q:Q (.tup (K.map tn)) μ):W2 gIx (wn R K) (.int 1) μ Q:=zoe rfl (show atI [tn R,.tup (K.map tn)] 1=some (.tup (K.map tn)) from rfl) q
def zQt(h:k<K.length)(q:Q (tn (K.getD k [])) μ):W2 gIx (.tup (K.map tn)) (.int k) μ Q :=
 zoe rfl (zvc (v:=tn (K.getD k [])) (by simp[h])) q
structure ss(R:List Nat)(K:List (List Nat))(lay:List (Option Nat)):Prop where
 len:lay.length=K.length
 home:∀k h,lay[k]?=some (some h)->h∈K.getD k []
 room:∀h,lay.count (some h)<=R.getD h 0
def z1e{α:Type}[DecidableEq α]:∀{l m:List α},l.Nodup->(∀x∈l,x∈m)->l.length<=m.length
 |[],_,_,_=>Yo _
 |x::l,m,nd,h=>by
  obtain⟨h1,h2⟩:=List.nodup_cons.mp nd;have hx:=h x mem_cons_self;have ih:=z1e (l:=l) (m:=m.erase x) h2 λy hy=>(List.mem_erase_of_ne (by rintro rfl;exact h1 hy)).mpr (h y (mem_cons_of_mem _ hy));rw[List.length_erase_of_mem hx]at ih;have:=List.length_pos_of_mem hx;rw[length_cons];omega
structure Sq(R:List Nat)(K:List (List Nat))(lay:List (Option Nat))(C:List Nat):Prop where
 keys:∀k∈C,k<K.length
 full:∀k∈C,∀h∈K.getD k [],R.getD h 0<=lay.count (some h)
 lies:∀k∈C,∀h∈K.getD k [],∀o,lay.getD o none=some h->o∈C
structure TD(K:List (List Nat))(lay:List (Option Nat))(key:Nat)(row:List (Nat×Nat)):Prop where
 first:∃h r,row=(key,h)::r
 mem:∀p∈row,p.1<K.length/\p.2∈K.getD p.1 []/\lay.getD p.1 none≠some p.2
 link:∀i p q,row[i]?=some p->row[i+1]?=some q->lay.getD q.1 none=some p.2
 nd:(row.map (·.1)).Nodup
def zif(lay:List (Option Nat))(row:List (Nat×Nat)):List (Option Nat):=row.foldl (λl p=>l.set p.1 (some p.2)) lay
def zHk(row:List (Nat×Nat)):∀lay:List (Option Nat),(zif lay row).length=lay.length:=by
 induction row with
 |nil=>intro lay;rfl
 |cons p row ih=>intro lay;show(zif (lay.set p.1 (some p.2)) row).length=_;rw[ih];simp
def zEn(lay:List (Option Nat))(row:List (Nat×Nat))(p:Nat×Nat):zif lay (row++[p])=(zif lay row).set p.1 (some p.2):=by
 unfold zif;rw[List.foldl_append];rfl
def z8h :∀{lay:List (Option Nat)} {k:Nat},k∉row.map (·.1)->(zif lay row).getD k none=lay.getD k none:=by
 induction row with
 |nil=>intro lay k _;rfl
 |cons p row ih=>
  intro lay k hk;rw[map_cons,mem_cons,not_or]at hk;show(zif (lay.set p.1 (some p.2)) row).getD k none=_;rw[ih hk.2];simp only[getD_eq_getElem?_getD];rw[yP (yM hk.1)]
def z7p(nd:(row.map (·.1)).Nodup):∀{lay:List (Option Nat)} {p:Nat×Nat},p∈row->p.1<lay.length->(zif lay row).getD p.1 none=some p.2:=by
 induction row with
 |nil=>intro lay p hp;cases hp
 |cons q row ih=>
  intro lay p hp hl;rw[map_cons,nodup_cons]at nd;show(zif (lay.set q.1 (some q.2)) row).getD p.1 none=_;rcases List.mem_cons.mp hp with rfl|hp
  ·rw[z8h nd.1];simp[hl]
  ·exact ih nd.2 hp (by simpa using hl)
def zyk{lay:List (Option Nat)}{a b:Option Nat}(hk:k<lay.length)(ha:lay.getD k none=a)(x:Option Nat):(lay.set k b).count x+(if a=x then 1 else 0)=lay.count x+(if b=x then 1 else 0):=by
 have e1:lay=lay.take k++a::lay.drop (k+1):=by
  have:lay[k]=a:=by simpa[hk] using ha
  rw[<-this,List.getElem_cons_drop,List.take_append_drop]
 have e2:lay.set k b=lay.take k++b::lay.drop (k+1):=by rw[List.set_eq_take_append_cons_drop,if_pos hk]
 rw[e2]
 conv=>rhs;rw[e1]
 rw[count_append,count_append,List.count_cons,List.count_cons];simp only[beq_iff_eq]
 split<;>split<;>omega
def zyl{lay:List (Option Nat)}{key:Nat}(r:TD K lay key row)(hl:lay.length=K.length)(hkey:lay.getD key none=none):∀i,i<row.length->∀h:Nat,(zif lay (row.take (i+1))).count (some h)=lay.count (some h)+(if(row.getD i (0,0)).2=h then 1 else 0):=by
 intro i
 induction i with
 |zero=>
  intro hi h;obtain⟨h0,r0,e⟩:=r.first
  have hm:=r.mem (key,h0) (by rw[e];simp);subst e;have:=zyk (lay:=lay) (k:=key) (b:=some h0) (by rw[hl];exact hm.1) hkey (some h);show(lay.set key (some h0)).count (some h)=_;simpa using this
 |succ i ih=>
  intro hi h;have ih:=ih (by omega) h;have hp:row[i]?=some row[i]:=by simp[show i<row.length by omega]
  have hq:row[i+1]?=some row[i+1]:=by simp[hi]
  have hlink:=r.link i _ _ hp hq;have hm:=r.mem row[i+1] (getElem_mem hi);have et:row.take (i+1+1)=row.take (i+1)++[row[i+1]]:=by simp
  have hnot:(row[i+1]).1∉(row.take (i+1)).map (·.1):=by
   intro hmem;have nd:=r.nd;rw[<-List.take_append_drop (i+1) row,map_append,nodup_append]at nd;refine nd.2.2 _ hmem _ ?_ rfl;refine List.mem_map.mpr ⟨row[i+1],?_,rfl⟩;rw[YY hi];exact mem_cons_self
  have hcur:(zif lay (row.take (i+1))).getD (row[i+1]).1 none=some (row[i]).2:=by rw[z8h hnot];exact hlink
  rw[et,zEn];have:=zyk (lay:=zif lay (row.take (i+1))) (k:=(row[i+1]).1) (b:=some (row[i+1]).2) (by rw[zHk,hl];exact hm.1) hcur (some h);have e1:row.getD i (0,0)=row[i]:=by simp[show i<row.length by omega]
  have e2:row.getD (i+1) (0,0)=row[i+1]:=by simp[hi]
  rw[e1]at ih;rw[e2];simp only[Option.some.injEq]at this;omega
def zNl{lay:List (Option Nat)}{key:Nat}(rt:ss R K lay)(r:TD K lay key row)(hkey:lay.getD key none=none)(hroom:lay.count (some (row.getD (row.length-1) (0,0)).2)<R.getD (row.getD (row.length-1) (0,0)).2 0):ss R K (zif lay row):=by
 have hpos:0<row.length:=by
  obtain⟨h,q,e⟩:=r.first
  rw[e];simp
 refine⟨by rw[zHk];exact rt.len,λk h e=>?_,λh=>?_⟩
 ·have e':(zif lay row).getD k none=some h:=by rw[getD_eq_getElem?_getD,e];rfl
  by_cases hk:k∈row.map (·.1)
  ·obtain⟨p,hp,rfl⟩:=List.mem_map.mp hk;have hm:=r.mem p hp;rw[z7p r.nd hp (by rw[rt.len];exact hm.1)]at e';cases e';exact hm.2.1
  ·rw[z8h hk]at e';refine rt.home k h ?_;rw[getD_eq_getElem?_getD]at e'
   cases q:lay[k]? with
   |none=>rw[q]at e';cases e'
   |some z=>rw[q]at e';exact congrArg some e'
 ·have:=zyl r rt.len hkey (row.length-1) (by omega) h;rw[show row.length-1+1=row.length by omega,take_length]at this;rw[this];have hr:=rt.room h
  split
  ·rename_i e
   rw[e]at hroom;omega
  ·omega
def z8r{lay:List (Option Nat)}{key:Nat}{C:List Nat}(s:Sq R K lay C)(r:TD K lay key row)(hroom:lay.count (some (row.getD (row.length-1) (0,0)).2)<R.getD (row.getD (row.length-1) (0,0)).2 0) :
 ∀p∈row,∀k∈C,p.2∉K.getD k []:=by
 have key1:∀(j i:Nat),i+j+1=row.length->∀k∈C,(row.getD i (0,0)).2∉K.getD k []:=by
  intro j
  induction j with
  |zero=>
   intro i hi k hk hm;have:=s.full k hk _ hm;rw[show row.length-1=i by omega]at hroom;omega
  |succ j ih=>
   intro i hi k hk hm;have hp:row[i]?=some row[i]:=by simp[show i<row.length by omega]
   have hq:row[i+1]?=some row[i+1]:=by simp[show i+1<row.length by omega]
   have e1:row.getD i (0,0)=row[i]:=by simp[show i<row.length by omega]
   have e2:row.getD (i+1) (0,0)=row[i+1]:=by simp[show i+1<row.length by omega]
   rw[e1]at hm;have hin:=s.lies k hk _ hm _ (r.link i _ _ hp hq);refine ih (i+1) (by omega) _ hin ?_;rw[e2];exact(r.mem _ (getElem_mem _)).2.1
 intro p hp k hk;obtain⟨i,hi,rfl⟩:=List.mem_iff_getElem.mp hp;have:=key1 (row.length-1-i) i (by omega) k hk
 rwa [show row.getD i (0,0)=row[i] by simp[hi]]at this
def zpj(lay:List (Option Nat))(h:Nat):List Nat:=(Yc lay.length).filter λk=>decide (lay.getD k none=some h)
def z9c(R:List Nat)(lay:List (Option Nat)):List Int:=(Yc R.length).map λh=>(R.getD h 0:Int)-(lay.count (some h):Nat)
def zuq{lay:List (Option Nat)}(hn:μ[n]?=some (.lst (lay.map onD)))(hl:lay.length<=1000)(q:∀(l:Nat)(μ':Mem),tq μ μ'->μ.length<=l->μ'[l]?=some (.lst (nat (zpj lay h)))->Q (.loc l) μ'):WF zGj [.loc n,.int h] μ Q:=by
 refine zQc rfl ?_;show WS zBj [some (.loc n),some (.int h)] μ _ _ _ _;unfold zBj
 repeat walk_at "w"
 refine zmo (zd rfl (.inr (.inr ⟨n,_,rfl,hn,zLd (by rw[zTe,length_map];omega),?_⟩)));rw[zLf onD lay none];refine zyf (λ(k:Nat) =>.tup [.int k,onD (lay.getD k none)]) (Yc lay.length) (λ(k:Nat)=>D.int k) (λk=>decide (lay.getD k none=some h)) (λμ' k=>zXc hn k) (λk hk μ' kp=>?_) (λμ' kp=>?_)
 ·repeat walk_at "w"
  refine zov (α:=Option Nat) (lay.getD k none) (some h) ?_
  repeat walk_at "w"
  refine⟨rfl,kp,λ_=>?_⟩;unfold zDk;exact zd rfl ⟨rfl,kp⟩
 ·exact q _ _ kp.to kp.len zz
def zgp{lay:List (Option Nat)}(w:Wb L R K)(hn:μ[n]?=some (.lst (lay.map onD)))(q:∀(l:Nat)(μ':Mem),tq μ μ'->μ.length<=l->μ'[l]?=some (.lst ((z9c R lay).map .int))->Q (.loc l) μ'):WF zZi [wn R K,.loc n] μ Q:=by
 have hrl:=w.rl;refine zQc rfl ?_;show WS zpm [some (wn R K),some (.loc n)] μ _ _ _ _;unfold zpm
 repeat walk_at "w"
 refine zmo ?_
 repeat walk_at "w"
 refine z2r (.inl ⟨_,rfl,zLd (by rw[zTe,length_map];omega),?_⟩);rw[zLf (λ(k:Nat)=>D.int k) R 0];refine zrj (λ(k:Nat) =>.tup [.int k,.int (R.getD k 0:Nat)]) (Yc R.length) (λ(k:Nat)=>D.int ((R.getD k 0:Int)-(lay.count (some k):Nat))) (λ_ _=>rfl) (λk hk μ' kp=>?_) (λμ' kp=>?_)
 ·repeat walk_at "w"
  refine⟨_,_,rfl,kp _ _ hn,?_⟩
  repeat walk_at "w"
  refine z9n (kp _ _ hn) ?_
  repeat walk_at "w"
  exact⟨rfl,kp,kp⟩
 ·refine q _ _ kp.to kp.len ?_;rw[zz];unfold z9c;rw[map_map];rfl
def zIm{lay:List (Option Nat)}(hh:h<R.length):atI ((z9c R lay).map D.int) (h:Int)=some (.int ((R.getD h 0:Int)-(lay.count (some h):Nat))):=zvc (by unfold z9c;simp[hh])
def z5r(R:List Nat):nat R=(z9c R []).map D.int:=by
 refine ext_getElem? λi=>?_;unfold z9c
 by_cases hi:i<R.length
 ·simp[hi]
 ·rw[Yp (by simp;omega),Yp (by simp;omega)]
def zsn{lay:List (Option Nat)}(hh:h<R.length):((z9c R lay).map D.int).set h (.int ((R.getD h 0:Int)-(lay.count (some h):Nat)-1))=(z9c R (lay++[some h])).map D.int:=by
 refine ext_getElem? λi=>?_;unfold z9c
 by_cases hi:i<R.length
 ·by_cases e:h=i
  ·subst e;rw[yO (by simpa using hh)];simp only[yn,List.getElem?_range hi,Option.map_some,count_append,List.count_singleton_self]
   congr 2
   omega
  ·rw[yP e];simp only[yn,List.getElem?_range hi,Option.map_some,count_append];rw[List.count_cons_of_ne (by simpa using e)];simp
 ·rw[Yp (by simp;omega),Yp (by simp;omega)]
abbrev PT:=List (Nat×Nat×Option Nat)
def dkP(P:PT):List (Int×D):=P.map λp=>((p.1:Int),.tup [.int (p.2.1:Nat),onD p.2.2])
def z3m(P:PT):zLe (dkP P)=nat (P.map (·.1)):=by
 unfold zLe dkP;rw[map_map,zQj];rfl
def zRl(P:PT)(h:Nat):((dkP P).any λp=>decide (p.1=(h:Int)))=decide (h∈P.map (·.1)):=by
 refine zjh ?_;unfold dkP;rw[any_map,any_eq_true];simp only[Function.comp,decide_eq_true_iff,List.mem_map];constructor
 ·rintro⟨p,hp,e⟩;exact⟨p,hp,by omega⟩
 ·rintro⟨p,hp,e⟩;exact⟨p,hp,by omega⟩
def zRh{P:PT}:(zHc (dkP P) (h:Int)).isSome=decide (h∈P.map (·.1)):=by
 rw[<-zRl,Bool.eq_iff_iff];unfold zHc;rw[Option.isSome_map,List.find?_isSome,any_eq_true]
def zxs{P:PT}(nd:(P.map (·.1)).Nodup){p:Nat×Nat×Option Nat}(hp:p∈P):zHc (dkP P) (p.1:Int)=some (.tup [.int (p.2.1:Nat),onD p.2.2]):=by
 induction P with
 |nil=>cases hp
 |cons q P ih=>
  rw[map_cons,nodup_cons]at nd
  have e:zHc (dkP (q::P)) (p.1:Int)=if(q.1:Int)=p.1 then some (.tup [.int (q.2.1:Nat),onD q.2.2]) else zHc (dkP P) (p.1:Int):=by
   unfold zHc dkP;rw[map_cons,xy]
   by_cases h:(q.1:Int)=p.1
   ·simp[h]
   ·simp[h]
  rw[e];rcases List.mem_cons.mp hp with rfl|hp
  ·rw[if_pos rfl]
  ·rw[if_neg,ih nd.2 hp];intro h;refine nd.1 (List.mem_map.mpr ⟨p,hp,by omega⟩)
def zCo{P:PT}{f:Option Nat}(hn:h∉P.map (·.1)):zsi (dkP P) (h:Int) (.tup [.int k,onD f])=dkP (P++[(h,k,f)]):=by
 unfold zsi;rw[zRl,decide_eq_false hn,if_neg yB];simp[dkP]
def zdt{P:PT}{f:Option Nat}(hn:h∈P.map (·.1))(ha:∀p∈P,p.2=(k,f)):zsi (dkP P) (h:Int) (.tup [.int k,onD f])=dkP P:=by
 unfold zsi;rw[zRl,decide_eq_true hn,if_pos rfl];unfold dkP;rw[map_map];refine map_congr_left λp hp=>?_;simp only[Function.comp]
 split
 ·rw[ha p hp]
 ·rfl
def PR(P:PT)(f:Option Nat)(r:Nat):Prop:=(f=none/\r=0)\/∃(i:Nat)(p:Nat×Nat×Option Nat),P[i]?=some p/\f=some p.1/\r=i+1
def Rk(P:PT)(b:Nat):Prop:=∀(i:Nat) p a,P[i]?=some p->PR P p.2.2 a->a<=b
structure Tree(R:List Nat)(K:List (List Nat))(lay:List (Option Nat))(key:Nat)(P:PT):Prop where
 nd:(P.map (·.1)).Nodup
 lt:∀p∈P,p.1<R.length
 ok:∀(i:Nat) p,P[i]?=some p->p.2.1<K.length/\p.1∈K.getD p.2.1 []/\((p.2.2=none/\p.2.1=key)\/∃(j:Nat)(q:Nat×Nat×Option Nat),j<i/\P[j]?=some q/\p.2.2=some q.1/\lay.getD p.2.1 none=some q.1)
 mono:∀(i j:Nat) p q a b,i<j->P[i]?=some p->P[j]?=some q->PR P p.2.2 a->PR P q.2.2 b->a<=b
def zGp{P:PT}(nd:(P.map (·.1)).Nodup){i j:Nat}{p q:Nat×Nat×Option Nat}(e1:P[i]?=some p)(e2:P[j]?=some q)(h:p.1=q.1):i=j:=by
 have h1:(P.map (·.1))[i]?=some p.1:=by rw[yn,e1];rfl
 have h2:(P.map (·.1))[j]?=some p.1:=by rw[yn,e2,h];rfl
 obtain⟨a,h1⟩:=List.getElem?_eq_some_iff.mp h1;obtain⟨b,h2⟩:=List.getElem?_eq_some_iff.mp h2;have pw:=List.pairwise_iff_getElem.mp nd;rcases Nat.lt_trichotomy i j with h|h|h
 ·exact absurd (h1.trans h2.symm) (pw i j a b h)
 ·exact h
 ·exact absurd (h2.trans h1.symm) (pw j i b a h)
def PR.uniq{P:PT}(nd:(P.map (·.1)).Nodup){f:Option Nat}{a b:Nat}(h1:PR P f a)(h2:PR P f b):a=b:=by
 rcases h1 with ⟨e1,rfl⟩|⟨i,p,ep,e1,rfl⟩
 ·rcases h2 with ⟨_,rfl⟩|⟨j,q,eq,e2,rfl⟩
  ·rfl
  ·rw[e1]at e2;cases e2
 ·rcases h2 with ⟨e2,_⟩|⟨j,q,eq,e2,rfl⟩
  ·rw[e2]at e1;cases e1
  ·rw[e1]at e2;rw[zGp nd ep eq (by injection e2)]
def PR.app{P E:PT}{f:Option Nat}{a:Nat}(h:PR P f a):PR (P++E) f a:=by
 rcases h with h|⟨i,p,ep,e1,rfl⟩
 ·exact .inl h
 ·exact .inr ⟨i,p,by rw[yk (List.getElem?_eq_some_iff.mp ep).1];exact ep,e1,rfl⟩
def Tree.rank{lay:List (Option Nat)}{key:Nat}{P:PT}(t:Tree R K lay key P){i:Nat}{p:Nat×Nat×Option Nat}(e:P[i]?=some p):∃a,PR P p.2.2 a/\a<=i:=by
 rcases(t.ok i p e).2.2 with ⟨h,_⟩|⟨j,q,hj,eq,h,_⟩
 ·exact⟨0,.inl ⟨h,rfl⟩,Yo _⟩
 ·exact⟨j+1,.inr ⟨j,q,eq,h,rfl⟩,hj⟩
def Tree.len{lay:List (Option Nat)}{key:Nat}{P:PT}(t:Tree R K lay key P):P.length<=R.length:=by
 have:=z1e t.nd (m:=Yc R.length) λx hx=>by
  obtain⟨p,hp,rfl⟩:=List.mem_map.mp hx;simpa using t.lt p hp
 simpa using this
def Tree.add{lay:List (Option Nat)}{key:Nat}{P:PT}(t:Tree R K lay key P){h k:Nat}{f:Option Nat}(hn:h∉P.map (·.1))(hr:h<R.length)(hk:k<K.length)(hm:h∈K.getD k []){b:Nat}(hb:Rk P b)(hp:PR P f b)
 (hf:(f=none/\k=key)\/∃(j:Nat)(q:Nat×Nat×Option Nat),P[j]?=some q/\f=some q.1/\lay.getD k none=some q.1):Tree R K lay key (P++[(h,k,f)]):=by
 have nd':((P++[(h,k,f)]).map (·.1)).Nodup:=by
  rw[map_append,nodup_append];refine⟨t.nd,by simp,λa ha b hb=>?_⟩;simp at hb;subst hb;exact λe=>hn (e▸ha)
 refine⟨nd',λp hp=>?_,λi p e=>?_,λi j p q a c hij ei ej ha hc=>?_⟩
 ·rcases List.mem_append.mp hp with hp|hp
  ·exact t.lt p hp
  ·rw[List.mem_singleton.mp hp];exact hr
 ·by_cases hi:i<P.length
  ·rw[yk hi]at e;obtain⟨h1,h2,h3⟩:=t.ok i p e;refine⟨h1,h2,?_⟩;rcases h3 with h3|⟨j,q,hj,eq,h4⟩
   ·exact .inl h3
   ·exact .inr ⟨j,q,hj,by rw[yk (by omega)];exact eq,h4⟩
  ·rw[yE (by omega)]at e
   have hi0:i-P.length=0:=by
    have:=(List.getElem?_eq_some_iff.mp e).1;simp at this;omega
   rw[hi0]at e;have e:(h,k,f)=p:=by simpa using e
   subst e;refine⟨hk,hm,?_⟩;rcases hf with hf|⟨j,q,eq,h4⟩
   ·exact .inl hf
   ·have hj:=(List.getElem?_eq_some_iff.mp eq).1;exact .inr ⟨j,q,by omega,by rw[yk hj];exact eq,h4⟩
 ·have hi:i<P.length:=by
   have:=(List.getElem?_eq_some_iff.mp ej).1;simp at this;omega
  rw[yk hi]at ei;obtain⟨a',ha',_⟩:=t.rank ei;have ea:=PR.uniq nd' ha ha'.app;subst ea
  by_cases hj:j<P.length
  ·rw[yk hj]at ej;obtain⟨c',hc',_⟩:=t.rank ej;have ec:=PR.uniq nd' hc hc'.app;subst ec;exact t.mono i j p q _ _ hij ei ej ha' hc'
  ·rw[yE (by omega)]at ej
   have hj0:j-P.length=0:=by
    have:=(List.getElem?_eq_some_iff.mp ej).1;simp at this;omega
   rw[hj0]at ej;have ej:(h,k,f)=q:=by simpa using ej
   subst ej;have ec:=PR.uniq nd' hc hp.app;subst ec;exact hb i p _ ei ha'
def Rk.add{lay:List (Option Nat)}{key:Nat}{P:PT}(t:Tree R K lay key P){h k:Nat}{f:Option Nat}{b:Nat}(t2:Tree R K lay key (P++[(h,k,f)]))(hb:Rk P b)(hp:PR P f b):Rk (P++[(h,k,f)]) b:=by
 intro i p a e ha
 by_cases hi:i<P.length
 ·rw[yk hi]at e;obtain⟨a',ha',_⟩:=t.rank e;have ea:=PR.uniq t2.nd ha ha'.app;subst ea;exact hb i p _ e ha'
 ·rw[yE (by omega)]at e
  have hi0:i-P.length=0:=by
   have:=(List.getElem?_eq_some_iff.mp e).1;simp at this;omega
  rw[hi0]at e;have e:(h,k,f)=p:=by simpa using e
  subst e;rw[PR.uniq t2.nd ha hp.app];exact yh _
structure Bfs(R:List Nat)(K:List (List Nat))(lay:List (Option Nat))(key:Nat)(P:PT):Prop where
 tree:Tree R K lay key P
 home:∀h∈K.getD key [],∃(i:Nat)(p:Nat×Nat×Option Nat),P[i]?=some p/\p.1=h/\p.2.2=none
 next:∀(i:Nat) p,P[i]?=some p->∀o,lay.getD o none=some p.1->∀h∈K.getD o [],∃(j:Nat)(q:Nat×Nat×Option Nat)(a:Nat),P[j]?=some q/\q.1=h/\PR P q.2.2 a/\a<=i+1
def zJp(d l:Nat)(μ ν:Mem):Prop:=∀i o,i≠d->i≠l->μ[i]?=some o->ν[i]?=some o
def zDq{lay:List (Option Nat)}{key d l2 at_ o:Nat}{P0:PT}{q:Nat×Nat×Option Nat}{x4:Option D}{ν:Mem}(w:Wb L R K)(t:Tree R K lay key P0)(ho:o<K.length)(hq:P0[at_]?=some q)(hlo:lay.getD o none=some q.1)
 (hrk:Rk P0 (at_+1)) (hl2:d<l2) (gd:ν[d]?=some (.dct (dkP P0))) (gl:ν[l2]?=some (.lst (nat (P0.map (·.1)))))
 (k:∀(P:PT)(x:Option D)(ν':Mem),(∃E,P=P0++E)->Tree R K lay key P->Rk P (at_+1)->(∀h∈K.getD o [],h∈P.map (·.1))->zJp d l2 ν ν'->ν'[d]?=some (.dct (dkP P))->ν'[l2]?=some (.lst (nat (P.map (·.1))))->nx [some (wn R K),some (.loc n),some (.int key),some (.loc d),x,some (.loc l2),some (.int at_),some (.int o)] ν') :
 WS zye [some (wn R K),some (.loc n),some (.int key),some (.loc d),x4,some (.loc l2),some (.int at_),some (.int o)] ν nx rt bk ct:=by
 unfold zye;refine zgi (zDg (zq (zq (zd rfl (w_c (zHr (zd rfl (zQt ho (.inl ⟨_,rfl,?_⟩)))))))));refine zUd (λm δ ν'=>∃(P:PT)(x:Option D),δ=[some (wn R K),some (.loc n),some (.int key),some (.loc d),x,some (.loc l2),some (.int at_),some (.int o)]/\(∃E,P=P0++E)/\Tree R K lay key P/\Rk P (at_+1)/\(∀h∈(K.getD o []).take m,h∈P.map (·.1))/\zJp d l2 ν ν'/\ν'[d]?=some (.dct (dkP P))/\ν'[l2]?=some (.lst (nat (P.map (·.1))))) ⟨P0,_,rfl,⟨[],by simp⟩,t,hrk,by simp,λ_ _ _ _ e=>e,gd,gl⟩ (λ_ _ _ _=>rfl) ?_ ?_
 ·rintro m x δ ν1 hx ⟨P,y,rfl,⟨E,hE⟩,tP,rP,hm,k1,g1,g2⟩;rw[yn]at hx
  cases hy:(K.getD o [])[m]? with
  |none=>rw[hy]at hx;cases hx
  |some h=>
   rw[hy]at hx;cases hx;have hmem:=mem_of_getElem? hy;have htk:(K.getD o []).take (m+1)=(K.getD o []).take m++[h]:=by rw[take_succ,hy];rfl
   have hpl:=tP.len;have hrl:=w.rl
   have hat:(P.map (·.1))[at_]?=some q.1:=by
    have hlt:=(List.getElem?_eq_some_iff.mp hq).1;rw[hE,map_append,yk (by simpa using hlt),yn,hq];rfl
   refine zPf ?_;unfold zSf;refine zri (zN (zq (zd rfl (zd rfl (zNm (zK g1) ⟨_,rfl,λhb=>?_,λhb=>zPb ?_⟩)))))
   ·have hnew:h∉P.map (·.1):=by
     rw[zRh]at hb;simpa using hb
    refine zF (zVj (zxi (ze (zd rfl (ze (zq (zd rfl (zd rfl (zoe (zM g2) (zvc (v:=.int (q.1:Nat)) (by rw[yn,hat];rfl)) (zo ?_))))))))));refine z7m (zd rfl (zd rfl ⟨_,_,_,rfl,rfl,g1,by simp[dkP];omega,?_⟩));rw[show(D.tup [.int (o:Nat),.int (q.1:Nat)])=.tup [.int (o:Nat),onD (some q.1)] from rfl,zCo hnew];have g1':=zV (o':=tw.dct (dkP (P++[(h,o,some q.1)]))) g1;have g2':=zjb (o':=tw.dct (dkP (P++[(h,o,some q.1)]))) g2 (by omega:d≠l2);refine z6k (zEm (zd rfl ⟨_,_,rfl,g2',?_⟩));refine ze (zd rfl (zo ?_));refine zxj g2' (by rw[length_map,length_map];omega) ?_
    have hatP:P[at_]?=some q:=by
     have hlt:=(List.getElem?_eq_some_iff.mp hq).1;rw[hE,yk hlt];exact hq
    have hpr:PR P (some q.1) (at_+1) :=.inr ⟨at_,q,hatP,rfl,rfl⟩;have tP2:=tP.add hnew ((w.key ho).2 h hmem) ho hmem rP hpr (.inr ⟨at_,q,hatP,rfl,hlo⟩);refine⟨P++[(h,o,some q.1)],_,rfl,⟨E++[(h,o,some q.1)],by rw[hE];simp⟩,tP2,Rk.add tP tP2 rP hpr,λg hg=>?_,λi o' hi1 hi2 e'=>zjb (zjb (k1 i o' hi1 hi2 e') (yM hi1)) (yM hi2),zjb g1' (by omega),?_⟩
    ·rw[htk]at hg;rw[map_append,mem_append];rcases List.mem_append.mp hg with hg|hg
     ·exact .inl (hm g hg)
     ·rw[List.mem_singleton.mp hg];exact .inr (by simp)
    ·rw[zV g2',map_append,zxg];rfl
   ·have hold:h∈P.map (·.1):=by
     rw[zRh]at hb;simpa using hb
    refine⟨P,_,rfl,⟨E,hE⟩,tP,rP,λg hg=>?_,k1,g1,g2⟩;rw[htk]at hg;rcases List.mem_append.mp hg with hg|hg
    ·exact hm g hg
    ·rw[List.mem_singleton.mp hg];exact hold
 ·rintro δ ν1 ⟨P,y,rfl,hE,tP,rP,hm,k1,g1,g2⟩;rw[length_map,take_length]at hm;exact k P y ν1 hE tP rP hm k1 g1 g2
def zCl{lay:List (Option Nat)}{key:Nat}(w:Wb L R K)(hlen:lay.length=K.length)(hL:L<=1000)(hn:μ[n]?=some (.lst (lay.map onD)))(hk:key<K.length)
 (q:∀(P:PT)(d:Nat)(μ':Mem),Bfs R K lay key P->tq μ μ'->μ.length<=d->μ'[d]?=some (.dct (dkP P))->Q (.loc d) μ'):WF zze [wn R K,.loc n,.int key] μ Q:=by
 have hrl:=w.rl;have hkl:=w.kl;refine zQc rfl ?_;show WS zue [some (wn R K),some (.loc n),some (.int key),none,none,none,none,none] μ _ _ _ _;unfold zue;refine zF (zsb (zSq (zF (zgi (zDg (zq (zq (zd rfl (w_c (zHr (zd rfl (zQt hk (.inl ⟨_,rfl,?_⟩))))))))))))) ;refine zUd (λm δ ν=>∃(P:PT)(x:Option D),δ=[some (wn R K),some (.loc n),some (.int key),some (.loc μ.length),x,none,none,none]/\Tree R K lay key P/\(∀p∈P,p.2=(key,none))/\(∀h∈(K.getD key []).take m,h∈P.map (·.1))/\tq μ ν/\ν[μ.length]?=some (.dct (dkP P))) ⟨[],_,rfl,⟨by simp,by simp,λi p e=>by simp at e,λi j p q a b _ e=>by simp at e⟩,by simp,by simp,.app,zz⟩ (λ_ _ _ _=>rfl) ?_ ?_
 ·rintro m x δ ν1 hx ⟨P,y,rfl,tP,ha,hm,k1,g1⟩;rw[yn]at hx
  cases hy:(K.getD key [])[m]? with
  |none=>rw[hy]at hx;cases hx
  |some h=>
   rw[hy]at hx;cases hx;have hmem:=mem_of_getElem? hy;have htk:(K.getD key []).take (m+1)=(K.getD key []).take m++[h]:=by rw[take_succ,hy];rfl
   have hpl:=tP.len;refine zPf ?_;unfold zTf;refine zVj (zxi (ze (zd rfl (ze (w_c (zo ?_))))));refine z7m (zd rfl (zd rfl ⟨_,_,_,rfl,rfl,g1,by simp[dkP];omega,?_⟩));rw[show(D.tup [.int (key:Nat),.non])=.tup [.int (key:Nat),onD none] from rfl];have kk:∀o':tw,tq μ (ν1.set μ.length o'):=λo' i o e=>zjb (k1 i o e) (Ym (zH e));have ha0:∀p∈P,p.2.2=none:=λp hp=>by rw[ha p hp]
   by_cases hin:h∈P.map (·.1)
   ·rw[zdt hin ha];refine⟨P,_,rfl,tP,ha,λg hg=>?_,kk _,zV g1⟩;rw[htk]at hg;rcases List.mem_append.mp hg with hg|hg
    ·exact hm g hg
    ·rw[List.mem_singleton.mp hg];exact hin
   ·rw[zCo hin]
    have r0:Rk P 0:=λi p a e ha=>by
     rw[ha0 p (mem_of_getElem? e)]at ha;rcases ha with ⟨_,rfl⟩|⟨_,_,_,h,_⟩
     ·exact yh _
     ·cases h
    refine⟨P++[(h,key,none)],_,rfl,tP.add hin ((w.key hk).2 h hmem) hk hmem r0 (.inl ⟨rfl,rfl⟩) (.inl ⟨rfl,rfl⟩),λp hp=>?_,λg hg=>?_,kk _,zV g1⟩
    ·rcases List.mem_append.mp hp with hp|hp
     ·exact ha p hp
     ·rw[List.mem_singleton.mp hp]
    ·rw[htk]at hg;rw[map_append,mem_append];rcases List.mem_append.mp hg with hg|hg
     ·exact .inl (hm g hg)
     ·rw[List.mem_singleton.mp hg];exact .inr (by simp)
 ·rintro δ ν1 ⟨P0,y,rfl,tP0,ha0,hm0,k1,g1⟩;rw[length_map,take_length]at hm0;refine zF (zsb (zn (ze (zd rfl (zo (zOs (zK g1) ?_))))));rw[z3m];have hl2:μ.length<ν1.length:=zH g1
  have hm1:∀h∈K.getD key [],∃(i:Nat)(p:Nat×Nat×Option Nat),P0[i]?=some p/\p.1=h/\p.2.2=none:=λh hh=>by
   obtain⟨p,hp,e⟩:=List.mem_map.mp (hm0 h hh);obtain⟨i,hi,e2⟩:=List.mem_iff_getElem.mp hp;exact⟨i,p,by rw[<-e2];simp[hi],e,by rw[ha0 p hp]⟩
  have r0:Rk P0 0:=λi p a e ha=>by
   rw[show p.2.2=none by rw[ha0 p (mem_of_getElem? e)]]at ha;rcases ha with ⟨_,rfl⟩|⟨_,_,_,h,_⟩
   ·exact yh _
   ·cases h
  refine zF (zsb (w_c (zF ?_)));refine ztl (λm δ ν=>∃(P:PT)(at_:Nat)(x y:Option D),m=R.length-at_/\at_<=P.length/\δ=[some (wn R K),some (.loc n),some (.int key),some (.loc μ.length),x,some (.loc ν1.length),some (.int at_),y]/\Tree R K lay key P/\Rk P at_/\(∀h∈K.getD key [],∃(i:Nat)(p:Nat×Nat×Option Nat),P[i]?=some p/\p.1=h/\p.2.2=none)/\(∀(i:Nat) p,i<at_->P[i]?=some p->∀o,lay.getD o none=some p.1->∀h∈K.getD o [],∃(j:Nat)(q:Nat×Nat×Option Nat)(a:Nat),P[j]?=some q/\q.1=h/\PR P q.2.2 a/\a<=i+1)/\tq μ ν/\ν[μ.length]?=some (.dct (dkP P))/\ν[ν1.length]?=some (.lst (nat (P.map (·.1))))) (m:=R.length) (by omega) ⟨P0,0,_,_,by simp,by simp,rfl,tP0,r0,hm1,by simp,k1.to,zck g1,zz⟩ ?_;rintro m δ ν2 ⟨P,at_,x,y,rfl,hat,rfl,tP,rP,hkey,hcl,k2,g2,g3⟩;have hpl:=tP.len
  repeat walk_at "w"
  refine zwg (zM g3) ?_;refine zbk ⟨_,rfl,λh1=>?_,λh1=>?_⟩
  ·have h1:at_<P.length:=by
    have:=of_decide_eq_true h1;simp only[length_map]at this;omega
   have hq:P[at_]?=some P[at_]:=by simp[h1]
   generalize P[at_]=q0 at hq;have hat':(P.map (·.1))[at_]?=some q0.1:=by rw[yn,hq];rfl
   unfold zWf;refine zF (zgi (zDg (zn (ze (zd rfl (ze (zq (zd rfl (zd rfl (zoe (zM g3) (zvc (v:=.int (q0.1:Nat)) (by rw[yn,hat'];rfl)) (zo ?_)))))))))));refine zuq (h:=q0.1) (k2 _ _ hn) (by omega) λl4 ν4 k4 hl4 g4 =>.inr (.inr ⟨l4,_,rfl,g4,?_⟩);have hν2:=zH g3;refine zUd (λj δ ν=>∃(P':PT)(x y:Option D),δ=[some (wn R K),some (.loc n),some (.int key),some (.loc μ.length),x,some (.loc ν1.length),some (.int at_),y]/\(∃E,P'=P++E)/\Tree R K lay key P'/\Rk P' (at_+1)/\(∀o∈(zpj lay q0.1).take j,∀h∈K.getD o [],h∈P'.map (·.1))/\tq μ ν/\ν[μ.length]?=some (.dct (dkP P'))/\ν[ν1.length]?=some (.lst (nat (P'.map (·.1))))/\ν[l4]?=some (.lst (nat (zpj lay q0.1)))) ⟨P,_,_,rfl,⟨[],by simp⟩,tP,λi p a e h=>Nat.le_succ_of_le (rP i p a e h),by simp,k2.trans k4,k4 _ _ g2,k4 _ _ g3,g4⟩ (λj δ ν ⟨_,_,_,_,_,_,_,_,_,_,_,h⟩=>zXc h .refl) ?_ ?_
   ·rintro j z δ ν5 hz ⟨P',x',y',rfl,⟨E,hE⟩,tP',rP',hdone,k5,g5,g6,g7⟩;rw[yn]at hz
    cases ho:(zpj lay q0.1)[j]? with
    |none=>rw[ho]at hz;cases hz
    |some o=>
     rw[ho]at hz;cases hz;have hom:=mem_of_getElem? ho;have hom':=List.mem_filter.mp hom;have hol:o<K.length:=by rw[<-hlen];simpa using hom'.1
     have hlo:=of_decide_eq_true hom'.2;have htk:(zpj lay q0.1).take (j+1)=(zpj lay q0.1).take j++[o]:=by rw[take_succ,ho];rfl
     have hq':P'[at_]?=some q0:=by rw[hE,yk h1];exact hq
     refine zPf ?_;have hl5:=zH g6;refine zDq w tP' hol hq' hlo rP' hl2 g5 g6 λP'' x'' ν6 ⟨E',hE'⟩ tP'' rP'' hall k6 g8 g9=>⟨P'',_,_,rfl,⟨E++E',by rw[hE',hE,append_assoc]⟩,tP'',rP'',λo' ho' h hh=>?_,λi o' e'=>k6 i o' (yw (zH e')) (by have:=zH e';omega) (k5 i o' e'),g8,g9,k6 l4 _ (by omega) (by omega) g7⟩
     rw[htk]at ho';rcases List.mem_append.mp ho' with ho'|ho'
     ·rw[hE',map_append,mem_append];exact .inl (hdone o' ho' h hh)
     ·rw[List.mem_singleton.mp ho']at hh;exact hall h hh
   ·rintro δ ν5 ⟨P',x',y',rfl,⟨E,hE⟩,tP',rP',hdone,k5,g5,g6,g7⟩;rw[nat,length_map,take_length]at hdone;have hpl':=tP'.len;refine z8u rfl (w_c (zBu ?_))
    have up:∀{j:Nat} {q:Nat×Nat×Option Nat},P[j]?=some q->P'[j]?=some q:=λ{j q} e=>by
     rw[hE,yk (List.getElem?_eq_some_iff.mp e).1];exact e
    refine⟨R.length-(at_+1),by omega,P',at_+1,_,_,rfl,by rw[hE];simp;omega,rfl,tP',rP',λh hh=>?_,λi p hi e o ho h hh=>?_,k5,g5,g6⟩
    ·obtain⟨i,p,e1,e2⟩:=hkey h hh;exact⟨i,p,up e1,e2⟩
    ·by_cases hia:i<at_
     ·rw[hE,yk (by omega)]at e;obtain⟨j,q',a,e1,e2,e3,e4⟩:=hcl i p hia e o ho h hh;exact⟨j,q',a,up e1,e2,by rw[hE];exact e3.app,e4⟩
     ·have:i=at_:=by omega
      subst this;rw[hE,yk h1,hq]at e;cases e
      have hin:=hdone o (by
       refine List.mem_filter.mpr ⟨?_,decide_eq_true ho⟩;rw[List.mem_range];refine Nat.lt_of_not_le λhle=>?_;rw[getD_eq_getElem?_getD,Yp hle]at ho;cases ho) h hh
      obtain⟨q',hq1,hq2⟩:=List.mem_map.mp hin;obtain⟨j,hj,ej⟩:=List.mem_iff_getElem.mp hq1;have ej':P'[j]?=some q':=by rw[<-ej];simp[hj]
      obtain⟨a,ha,_⟩:=tP'.rank ej';exact⟨j,q',a,ej',hq2,ha,rP' j q' a ej' ha⟩
  ·refine zJc (zd rfl ?_)
   have h1:at_=P.length:=by
    have:=of_decide_eq_false h1;simp only[length_map]at this;omega
   refine q P _ ν2 ⟨tP,hkey,λi p e o ho h hh=>hcl i p ?_ e o ho h hh⟩ k2 (yh _) g2;have:=(List.getElem?_eq_some_iff.mp e).1;omega
abbrev pD(p:Nat×Nat):D:=.tup [.int (p.1:Nat),.int (p.2:Nat)]
inductive Path(P:PT)(lay:List (Option Nat)):Nat->List (Nat×Nat)->Prop
 |one {i:Nat} {p:Nat×Nat×Option Nat} (e:P[i]?=some p):Path P lay i [(p.2.1,p.1)]
 |up {i j:Nat} {p q:Nat×Nat×Option Nat} {row:List (Nat×Nat)} (h:Path P lay i row) (e:P[i]?=some p) (eq:P[j]?=some q) (hj:j<i) (hf:p.2.2=some q.1) (hl:lay.getD p.2.1 none=some q.1):Path P lay j ((q.2.1,q.1)::row)
def Path.head{P:PT}{lay:List (Option Nat)}(h:Path P lay i row):∃p r,P[i]?=some p/\row=(p.2.1,p.1)::r:=by
 cases h with
 |one e=>exact⟨_,_,e,rfl⟩
 |up h e eq hj hf hl=>exact⟨_,_,eq,rfl⟩
def Path.idx{P:PT}{lay:List (Option Nat)}(h:Path P lay i row):∀x∈row,∃j p,i<=j/\P[j]?=some p/\x=(p.2.1,p.1):=by
 induction h with
 |one e=>intro x hx;rw[List.mem_singleton.mp hx];exact⟨_,_,yh _,e,rfl⟩
 |up h e eq hj hf hl ih=>
  intro x hx;rcases List.mem_cons.mp hx with rfl|hx
  ·exact⟨_,_,yh _,eq,rfl⟩
  ·obtain⟨m,p,hm,e',r⟩:=ih x hx;exact⟨m,p,by omega,e',r⟩
def Path.tail{P:PT}{lay:List (Option Nat)}(h:Path P lay i row):∀x∈row.tail,∃j p,i<=j/\P[j]?=some p/\lay.getD x.1 none=some p.1:=by
 induction h with
 |one e=>intro x hx;cases hx
 |up h e eq hj hf hl ih=>
  intro x hx;obtain⟨p',r,e',er⟩:=h.head;rw[e]at e';cases e';rw[List.tail_cons,er]at hx;rcases List.mem_cons.mp hx with rfl|hx
  ·exact⟨_,_,yh _,eq,hl⟩
  ·obtain⟨m,p,hm,e',r⟩:=ih x (by rw[er];exact hx);exact⟨m,p,by omega,e',r⟩
def Path.link{P:PT}{lay:List (Option Nat)}(h:Path P lay i row):∀n p q,row[n]?=some p->row[n+1]?=some q->lay.getD q.1 none=some p.2:=by
 induction h with
 |one e=>intro n p q _ e2;simp at e2
 |up h e eq hj hf hl ih=>
  intro n p q e1 e2
  cases n with
  |zero=>
   obtain⟨p',r,e',er⟩:=h.head;rw[e]at e';cases e';rw[er]at e2;simp at e1 e2;subst e1 e2;exact hl
  |succ n=>exact ih n p q (by simpa using e1) (by simpa using e2)
def Path.ndk{P:PT}{lay:List (Option Nat)}{key:Nat}(t:Tree R K lay key P)(hkey:lay.getD key none=none)(h:Path P lay i row):(row.map (·.1)).Nodup:=by
 induction h with
 |one e=>simp
 |@up i j p q row h e eq hj hf hl ih=>
  rw[map_cons,nodup_cons];refine⟨λhm=>?_,ih⟩;obtain⟨x,hx,ex⟩:=List.mem_map.mp hm;have ht:=(Path.up h e eq hj hf hl).tail x hx;obtain⟨m,p',hm',e',el⟩:=ht;rw[ex]at el;obtain⟨_,_,h3⟩:=t.ok j q eq;rcases h3 with ⟨_,h3⟩|⟨j',q',hj',eq',_,h4⟩
  ·simp only at el;rw[h3,hkey]at el;cases el
  ·simp only at el;rw[h4]at el;have:=zGp t.nd eq' e' (by injection el);omega
def Path.ok{P:PT}{lay:List (Option Nat)}{key:Nat}{p:Nat×Nat×Option Nat}(t:Tree R K lay key P)(hkey:lay.getD key none=none)(h:Path P lay i row)(e:P[i]?=some p)(hp:p.2.2=none):TD K lay key row:=by
 refine⟨?_,λx hx=>?_,h.link,h.ndk t hkey⟩
 ·obtain⟨p',r,e',er⟩:=h.head;rw[e]at e';cases e';rcases(t.ok i p e).2.2 with ⟨_,h3⟩|⟨_,_,_,_,h3,_⟩
  ·exact⟨p.1,r,by rw[er,h3]⟩
  ·rw[hp]at h3;cases h3
 ·obtain⟨j,q,_,eq,rfl⟩:=h.idx x hx;obtain⟨h1,h2,h3⟩:=t.ok j q eq;refine⟨h1,h2,?_⟩;rcases h3 with ⟨_,h3⟩|⟨j',q',hj',eq',_,h4⟩
  ·simp only;rw[h3,hkey];exact λh=>by cases h
  ·simp only;rw[h4];intro h;have:=zGp t.nd eq' eq (by injection h);omega
inductive Dep(P:PT):Nat->Nat->Prop
 |base {i:Nat} {p:Nat×Nat×Option Nat} (e:P[i]?=some p) (h:p.2.2=none):Dep P i 1
 |step {i j d:Nat} {p q:Nat×Nat×Option Nat} (e:P[i]?=some p) (eq:P[j]?=some q) (h:p.2.2=some q.1) (hd:Dep P j d):Dep P i (d+1)
def Dep.pos{P:PT}{d:Nat}(h:Dep P i d):1<=d:=by cases h<;>omega
def Dep.ex{R:List Nat}{K:List (List Nat)}{P:PT}{lay:List (Option Nat)}{key:Nat}(t:Tree R K lay key P):∀(n i:Nat)(p:Nat×Nat×Option Nat),i<n->P[i]?=some p->∃d,Dep P i d
 |0,i,p,h,_=>absurd h (Nat.not_lt_zero _)
 |n+1,i,p,h,e=>by
  rcases(t.ok i p e).2.2 with ⟨h1,_⟩|⟨j,q,hj,eq,h1,_⟩
  ·exact⟨1,.base e h1⟩
  ·obtain⟨d,hd⟩:=Dep.ex t n j q (by omega) eq;exact⟨d+1,.step e eq h1 hd⟩
def Dep.mono{R:List Nat}{K:List (List Nat)}{P:PT}{lay:List (Option Nat)}{key:Nat}(t:Tree R K lay key P):∀(n i j a b:Nat),j<n->i<=j->Dep P i a->Dep P j b->a<=b
 |0,i,j,a,b,h,_,_,_=>absurd h (Nat.not_lt_zero _)
 |n+1,i,j,a,b,h,hij,ha,hb=>by
  cases ha with
  |base e he=>exact hb.pos
  |@step _ i' a' p p' e ep he hd=>
   have ra:PR P p.2.2 (i'+1) :=.inr ⟨i',p',ep,he,rfl⟩
   cases hb with
   |@base _ q eq hq=>
    exfalso;have rb:PR P q.2.2 0:=.inl ⟨hq,rfl⟩;rcases Nat.lt_or_eq_of_le hij with hlt|rfl
    ·have:=t.mono i j p q _ _ hlt e eq ra rb;omega
    ·rw[e]at eq;cases eq;rw[hq]at he;cases he
   |@step _ j' b' q q' eq eq' hq hd'=>
    have rb:PR P q.2.2 (j'+1) :=.inr ⟨j',q',eq',hq,rfl⟩
    have hle:i'+1<=j'+1:=by
     rcases Nat.lt_or_eq_of_le hij with hlt|rfl
     ·exact t.mono i j p q _ _ hlt e eq ra rb
     ·rw[e]at eq;cases eq;rw[PR.uniq t.nd ra rb];exact yh _
    have hj':j'<j:=by
     rcases(t.ok j q eq).2.2 with ⟨h1,_⟩|⟨j2,q2,hj2,eq2,h1,_⟩
     ·rw[hq]at h1;cases h1
     ·rw[hq]at h1;rw[zGp t.nd eq' eq2 (by injection h1)];exact hj2
    have:=Dep.mono t n i' j' a' b' (by omega) (by omega) hd hd';omega
def Path.dep{P:PT}{lay:List (Option Nat)}(h:Path P lay i row):∀{d:Nat},Dep P i d->∃(il:Nat)(pl:Nat×Nat×Option Nat),P[il]?=some pl/\Dep P il (d+row.length-1)/\(row.getD (row.length-1) (0,0)).2=pl.1:=by
 induction h with
 |@one i p e=>intro d hd;exact⟨i,p,e,by simpa using hd,rfl⟩
 |@up i j p q row h e eq hj hf hl ih=>
  intro d hd;obtain⟨il,pl,el,dl,hl'⟩:=ih (.step e eq hf hd)
  have hpos:0<row.length:=by
   obtain⟨_,r,_,er⟩:=h.head;rw[er];simp
  refine⟨il,pl,el,?_,?_⟩
  ·rw[length_cons,show d+(row.length+1)-1=d+1+row.length-1 by omega];exact dl
  ·rw[<-hl',length_cons,show row.length+1-1=(row.length-1)+1 by omega,List.getD_cons_succ]
structure Walk(K:List (List Nat))(lay:List (Option Nat))(key:Nat)(row:List (Nat×Nat)):Prop where
 first:∃h r,row=(key,h)::r
 mem:∀p∈row,p.2∈K.getD p.1 []
 link:∀i p q,row[i]?=some p->row[i+1]?=some q->lay.getD q.1 none=some p.2
def TD.walk{lay:List (Option Nat)}{key:Nat}(r:TD K lay key row):Walk K lay key row:=⟨r.first,λp hp=>(r.mem p hp).2.1,r.link⟩
def Bfs.walk{R:List Nat}{K:List (List Nat)}{P:PT}{lay:List (Option Nat)}{key:Nat}{row:List (Nat×Nat)}(b:Bfs R K lay key P)(w:Walk K lay key row):∀(n:Nat)(x:Nat×Nat),row[n]?=some x->∃(i:Nat)(p:Nat×Nat×Option Nat)(d:Nat),P[i]?=some p/\p.1=x.2/\Dep P i d/\d<=n+1
 |0,x,e=>by
  obtain⟨h,r,er⟩:=w.first
  have hx:x=(key,h):=by rw[er]at e;simpa using e.symm
  obtain⟨i,p,e1,e2,e3⟩:=b.home x.2 (by
   have:=w.mem x (mem_of_getElem? e);rw[hx]at this ⊢;exact this)
  exact⟨i,p,1,e1,e2,.base e1 e3,yh _⟩
 |n+1,x,e=>by
  have hn:n<row.length:=by
   have:=(List.getElem?_eq_some_iff.mp e).1;omega
  have ey:row[n]?=some row[n]:=by simp[hn]
  obtain⟨i,p,d,e1,e2,e3,e4⟩:=Bfs.walk b w n _ ey;have hl:=w.link n _ _ ey e;rw[<-e2]at hl;obtain⟨j,q,a,f1,f2,f3,f4⟩:=b.next i p e1 x.1 hl x.2 (w.mem x (mem_of_getElem? e));rcases f3 with ⟨g1,_⟩|⟨i',p',g1,g2,rfl⟩
  ·exact⟨j,q,1,f1,f2,.base f1 g1,by omega⟩
  ·obtain⟨d',hd'⟩:=Dep.ex b.tree (i'+1) i' p' (YE _) g1;have:=Dep.mono b.tree (i+1) i' i d' d (YE _) (by omega) hd' e3;exact⟨j,q,d'+1,f1,f2,.step f1 g1 g2 hd',by omega⟩
def z9p{lay:List (Option Nat)}{key d i0:Nat}{p0:Nat×Nat×Option Nat}{P:PT}(t:Tree R K lay key P)(hR:R.length<=10)(hkey:lay.getD key none=none)(hd:zP μ (.loc d)=some (dkP P))(hp0:P[i0]?=some p0)
 (q:∀(row:List (Nat×Nat)) (l:Nat) (μ':Mem),TD K lay key row->(row.getD (row.length-1) (0,0)).2=p0.1->Dep P i0 row.length->row.length<=P.length->tq μ μ'->μ.length<=l->μ'[l]?=some (.lst (row.map pD))->Q (.loc l) μ'):WF zsh [.loc d,.int p0.1] μ Q:=by
 have hpl:=t.len;refine zQc rfl ?_;show WS zuh [some (.loc d),some (.int p0.1),none] μ _ _ _ _;unfold zuh;refine zF (zsb (z6g (zo (zF ?_))));have hi0:=(List.getElem?_eq_some_iff.mp hp0).1
 have hdk:∀{μ':Mem},tq μ μ'->zP μ' (.loc d)=some (dkP P):=λ{μ'} kp=>by
  cases e:μ[d]? with
  |none=>simp[e]at hd
  |some o=>
   have e':=kp _ _ e;simp only[zP,e]at hd;simp only[zP,e'];exact hd
 refine ztl (λm δ ν=>∃(acc:List (Nat×Nat)) (f:Option Nat),δ=[some (.loc d),some (onD f),some (.loc μ.length)]/\tq μ ν/\ν[μ.length]?=some (.lst (acc.map pD))/\acc.length+m<=P.length /\
  ((f=none∧(∃ k,acc[0]?=some (k,p0.1))∧∃ i p,Path P lay i acc.reverse∧P[i]?=some p∧p.2.2=none) ∨
   (∃i p,m=i+1/\P[i]?=some p/\f=some p.1/\((acc=[]/\p=p0)\/((∃k,acc[0]?=some (k,p0.1))/\∃i' p',i<i'/\Path P lay i' acc.reverse/\P[i']?=some p'/\p'.2.2=some p.1/\lay.getD p'.2.1 none=some p.1))))) (m:=i0+1) (by omega)
  ⟨[],some p0.1,rfl,.app,zz,by simp;omega,.inr ⟨i0,p0,rfl,hp0,rfl,.inl ⟨rfl,rfl⟩⟩⟩ ?_
 rintro m δ ν ⟨acc,f,rfl,kp,g,hlen,h⟩;refine zN (zq (zd rfl (w_c (zrq (ziq _) ⟨_,rfl,λh1=>?_,λh1=>?_⟩))))
 ·rcases h with ⟨rfl,_⟩|⟨i,p,rfl,ep,rfl,h⟩
  ·cases h1
  ·have hlook:=zxs t.nd (mem_of_getElem? ep)
   have hnew:Path P lay i ((p.2.1,p.1)::acc.reverse):=by
    rcases h with ⟨rfl,rfl⟩|⟨_,i',p',hi',hpa,ep',hf,hl⟩
    ·exact .one ep
    ·exact .up hpa ep' ep hi' hf hl
   have hac:∃k,(acc++[(p.2.1,p.1)])[0]?=some (k,p0.1):=by
    rcases h with ⟨rfl,rfl⟩|⟨⟨k,hk⟩,_⟩
    ·exact⟨p.2.1,rfl⟩
    ·refine⟨k,?_⟩;rw[yk (List.getElem?_eq_some_iff.mp hk).1];exact hk
   unfold zQi;refine zF (z6k (zEm (zd rfl ⟨_,_,rfl,g,?_⟩)));refine ze (zxi (ze (zq (zq (zd rfl (zd rfl (zel (hdk kp) hlook (w_c (zoe rfl rfl (ze (zd rfl (zo (zo ?_)))))))))))));refine zxj g (by rw[length_map];omega) ?_;have kp2:tq μ (ν.set μ.length (.lst (acc.map pD++[pD (p.2.1,p.1)]))):=λa o e=>zjb (kp a o e) (Ym (zH e));refine zsb (zq (zq (zd rfl (zd rfl (zel (hdk kp2) hlook (w_c (zoe rfl rfl ?_)))))));obtain⟨_,_,h3⟩:=t.ok i p ep;rcases h3 with ⟨h3,_⟩|⟨j,q',hj,eq',h3,h4⟩
   ·refine⟨0,by omega,acc++[(p.2.1,p.1)],none,?_,kp2,?_,by rw[length_append];simp;omega,.inl ⟨rfl,hac,i,p,?_,ep,h3⟩⟩
    ·rw[h3];rfl
    ·rw[zV g,map_append];rfl
    ·rw[List.reverse_append];exact hnew
   ·refine⟨j+1,by omega,acc++[(p.2.1,p.1)],some q'.1,?_,kp2,?_,by rw[length_append];simp;omega,.inr ⟨j,q',rfl,eq',rfl,.inr ⟨hac,i,p,hj,?_,ep,h3,h4⟩⟩⟩
    ·rw[h3];rfl
    ·rw[zV g,map_append];rfl
    ·rw[List.reverse_append];exact hnew
 ·rcases h with ⟨rfl,⟨k,hk⟩,i,p,hpa,ep,hn⟩|⟨i,p,rfl,ep,rfl,h⟩
  ·refine zJc (zhu (zd rfl ⟨_,_,rfl,g,?_⟩))
   have hlast:(acc.reverse.getD (acc.reverse.length-1) (0,0)).2=p0.1:=by
    have h0:=(List.getElem?_eq_some_iff.mp hk).1
    have:acc.reverse[acc.reverse.length-1]?=some (k,p0.1):=by
     rw[List.length_reverse,List.getElem?_reverse (by omega),show acc.length-1-(acc.length-1)=0 by omega];exact hk
    rw[getD_eq_getElem?_getD,this];rfl
   refine q acc.reverse _ _ (hpa.ok t hkey ep hn) hlast ?_ (by rw[List.length_reverse];omega) kp.to kp.len ?_
   ·obtain⟨il,pl,el,dl,hl'⟩:=hpa.dep (.base ep hn);rw[hlast]at hl';have:=zGp t.nd hp0 el hl';subst this;rw[show 1+acc.reverse.length-1=acc.reverse.length by omega]at dl;exact dl
   ·rw[zz,List.map_reverse]
  ·cases h1
def zyt(P:PT)(lay:List (Option Nat))(key:Nat):List Nat:=(Yc lay.length).filter λo=>decide (o=key)||decide (∃p∈P,lay.getD o none=some p.1)
def zHq{lay:List (Option Nat)}{key:Nat}(w:Wb L R K)(hlen:lay.length=K.length)(hL:L<=1000)(hn:μ[n]?=some (.lst (lay.map onD)))(hk:key<K.length)(hkey:lay.getD key none=none)
 (q1:∀(row:List (Nat×Nat)) (l:Nat) (μ':Mem),TD K lay key row->lay.count (some (row.getD (row.length-1) (0,0)).2)<R.getD (row.getD (row.length-1) (0,0)).2 0->(∀row',Walk K lay key row'->lay.count (some (row'.getD (row'.length-1) (0,0)).2)<R.getD (row'.getD (row'.length-1) (0,0)).2 0->row.length<=row'.length)->row.length<=10->tq μ μ'->μ.length<=l->μ'[l]?=some (.lst (row.map pD))->Q (.tup [.str "put",.loc l]) μ')
 (q2:∀(S:List Nat)(l:Nat)(μ':Mem),S.Sublist (Yc K.length)->key∈S->Sq R K lay S->tq μ μ'->μ.length<=l->μ'[l]?=some (.lst (nat S))->Q (.tup [.str "full",.loc l]) μ'):WF z5f [wn R K,.loc n,.int key] μ Q:=by
 have hrl:=w.rl;have hkl:=w.kl;refine zQc rfl ?_;show WS zrh [some (wn R K),some (.loc n),some (.int key),none,none,none] μ _ _ _ _;unfold zrh;refine zF (zsb (zn (ze (zd rfl (ze (zd rfl (ze (zd rfl (zo ?_)))))))));refine zCl w hlen hL hn hk λP d μ1 b k1 hd g1=>?_;have t:=b.tree;refine zF (zsb (zn (ze (zd rfl (ze (zd rfl (zo ?_)))))));refine zgp w (k1 _ _ hn) λl2 μ2 k2 hl2 g2=>?_;have g1':=k2 _ _ g1;have hpl:=t.len;refine zF (zgi (zdp (zd rfl ⟨_,_,rfl,g1',?_⟩)));have hd1:d<μ1.length:=zH g1;have kf:tq μ (μ2.set d (.dcf (dkP P))):=λi o e=>zjb ((k1.trans k2) i o e) (by have:=zH e;omega);have gd:=zV (o':=tw.dcf (dkP P)) g1';have gl:=zjb (o':=tw.dcf (dkP P)) g2 (by omega:d≠l2);generalize μ2.set d (.dcf (dkP P))=μ3 at kf gd gl;rw[z3m];refine zUd (λm δ ν=>∃x:Option D,δ=[some (wn R K),some (.loc n),some (.int key),some (.loc d),some (.loc l2),x]/\ν=μ3/\∀(i:Nat) p,i<m->P[i]?=some p->R.getD p.1 0<=lay.count (some p.1)) ⟨_,rfl,rfl,by simp⟩ (λ_ _ _ _=>rfl) ?_ ?_
 ·rintro m x δ ν hx ⟨y,rfl,rfl,hb⟩;rw[yn,yn]at hx
  cases ep:P[m]? with
  |none=>rw[ep]at hx;cases hx
  |some p=>
   rw[ep]at hx;cases hx;have hlt:=t.lt p (mem_of_getElem? ep);refine zPf ?_;unfold znj;refine zri (zN (zq (zq (zd rfl (zd rfl (zoe (zM gl) (zvc (v:=.int ((R.getD p.1 0:Int)-(lay.count (some p.1):Nat))) (by unfold z9c;simp[hlt])) (w_c (zbk ⟨_,rfl,λh1=>?_,λh1=>?_⟩))))))))
   ·have h1:=of_decide_eq_true h1;refine zJc (zxi (ze (w_c (ze (zn (ze (zd rfl (ze (zd rfl (zo ?_))))))))));refine z9p t hrl.2 hkey (zUb gd) ep λrow l μ4 hrow hlast hdep hrl4 k4 hl4 g4=>zo ?_;refine q1 row l μ4 hrow ?_ (λrow' hw hroom=>?_) (by omega) (kf.trans k4) (by have:=kf.len;omega) g4
    ·rw[hlast];omega
    ·have hpos:0<row'.length:=by
      obtain⟨h,r,e⟩:=hw.first
      rw[e];simp
     have ex:row'[row'.length-1]?=some (row'.getD (row'.length-1) (0,0)):=by
      rw[getD_eq_getElem?_getD,yG (by omega)];rfl
     obtain⟨i,p',d',f1,f2,f3,f4⟩:=b.walk hw _ _ ex;rw[<-f2]at hroom
     have him:m<=i:=Nat.le_of_not_lt λhlt=>by
      have:=hb i p' hlt f1;omega
     have:=Dep.mono t (i+1) m i _ _ (YE _) him hdep f3;omega
   ·have h1:=of_decide_eq_false h1;refine zPb ⟨_,rfl,rfl,λi p' hi e'=>?_⟩
    by_cases hm:i=m
    ·subst hm;rw[ep]at e';cases e';omega
    ·exact hb i p' (by omega) e'
 ·rintro δ ν ⟨y,rfl,rfl,hb⟩;rw[nat,length_map,length_map]at hb
  have hfull:∀p∈P,R.getD p.1 0<=lay.count (some p.1):=λp hp=>by
   obtain⟨i,hi,rfl⟩:=List.mem_iff_getElem.mp hp;exact hb i P[i] hi (by simp[hi])
  refine zJc (zxi (ze (w_c (ze (z5o ?_)))));refine zmo (zd rfl (.inr (.inr ⟨n,_,rfl,kf _ _ hn,zLd (by rw[zTe,length_map];omega),?_⟩)));rw[zLf onD lay none];refine zyf (λ(k:Nat) =>.tup [.int k,onD (lay.getD k none)]) (Yc lay.length) (λ(k:Nat)=>D.int k) (λo=>decide (o=key)||decide (∃p∈P,lay.getD o none=some p.1)) (λμ' k'=>zXc (kf _ _ hn) k') (λk hk' μ' kp=>?_) (λμ' kp=>?_)
  ·have gd':=kp _ _ gd;refine zOq (zUh (zPf (zUh (zPf (zSo ?_)))));unfold zaj zfj;refine zah (zN (zq (zd rfl (zd rfl (z3g ⟨_,rfl,λh1=>?_,λh1=>?_⟩)))))
   ·have h1:k≠key:=by
     intro e;rw[e]at h1;simp at h1
    rw[decide_eq_false h1,Bool.false_or]
    cases e:lay.getD k none with
    |none=>
     refine zN (zq (zd rfl (zd rfl (zTu (zUb gd') ?_ ⟨_,rfl,?_,kp,λhb=>(by cases hb)⟩))))
     ·rw[List.all_eq_true];intro x hx;obtain⟨p,hp,rfl⟩:=List.mem_map.mp hx;have:=t.lt p hp;exact decide_eq_true (by simp only;omega)
     ·symm
      refine decide_eq_false ?_;rintro⟨p,_,e⟩;cases e
    |some h=>
     refine zN (zq (zd rfl (zd rfl (zvr (zUb gd') ⟨_,rfl,?_,kp,λhb=>zd rfl ⟨rfl,kp⟩⟩))));rw[zRh];refine decide_eq_decide.mpr ?_;rw[List.mem_map];constructor
     ·rintro⟨p,hp,rfl⟩;exact⟨p,hp,rfl⟩
     ·rintro⟨p,hp,e⟩;cases e;exact⟨p,hp,rfl⟩
   ·have h1:k=key:=by
     have:=beq_iff_eq.mp h1;omega
    rw[decide_eq_true h1,Bool.true_or];exact⟨rfl,kp,λ_=>zd rfl ⟨rfl,kp⟩⟩
  ·refine zo (q2 (zyt P lay key) _ _ ?_ ?_ ?_ (kf.trans kp.to) (kf.trans kp).len zz)
   ·rw[<-hlen];exact List.filter_sublist
   ·exact List.mem_filter.mpr ⟨by simpa[hlen] using hk,by simp⟩
   ·have hin:∀k∈zyt P lay key,∀h∈K.getD k [],∃p∈P,p.1=h:=λk hkm h hh=>by
     have hm:=(List.mem_filter.mp hkm).2;rw[Bool.or_eq_true,decide_eq_true_iff,decide_eq_true_iff]at hm;rcases hm with rfl|⟨p,hp,e⟩
     ·obtain⟨i,p,e1,e2,_⟩:=b.home h hh;exact⟨p,mem_of_getElem? e1,e2⟩
     ·obtain⟨i,hi,e1⟩:=List.mem_iff_getElem.mp hp;obtain⟨j,q',a,f1,f2,_⟩:=b.next i p (by rw[<-e1];simp[hi]) k e h hh;exact⟨q',mem_of_getElem? f1,f2⟩
    refine⟨λk hkm=>?_,λk hkm h hh=>?_,λk hkm h hh o e=>?_⟩
    ·have:=(List.mem_filter.mp hkm).1;rw[<-hlen];simpa using this
    ·obtain⟨p,hp,rfl⟩:=hin k hkm h hh;exact hfull p hp
    ·obtain⟨p,hp,rfl⟩:=hin k hkm h hh;refine List.mem_filter.mpr ⟨?_,?_⟩
     ·rw[List.mem_range];refine Nat.lt_of_not_le λhle=>?_;rw[getD_eq_getElem?_getD,Yp hle]at e;cases e
     ·rw[Bool.or_eq_true];exact .inr (decide_eq_true ⟨p,hp,e⟩)
def zVl{T:List Nat}(h:μ[n]?=some (.lst (nat S)))(hp:T.Perm S)(hT:T.Pairwise (· < ·))(hl:S.length<64)(q:Q (.loc μ.length) (μ++[.lst (nat T)])):WF zbg [.loc n] μ Q:=by
 have e1:nat S=(S.map λ(k:Nat)=>(k:Int)).map D.int:=by rw[map_map];rfl
 have e2:nat T=(T.map λ(k:Nat)=>(k:Int)).map D.int:=by rw[map_map];rfl
 have e3:zGh (S.map λ(k:Nat)=>(k:Int))=T.map λ(k:Nat)=>(k:Int):=by
  refine zsd ((mergeSort_perm _ _).trans (hp.symm.map _)) (zKh _) ?_;rw[List.pairwise_map];exact hT.imp λh=>by omega
 refine⟨_,_,?_,q⟩;simp only[zbg,h];rw[e1,zMh,yg,length_map,decide_eq_true hl,cond_true,e3,<-e2]
def dkN(kvs:List (Nat×Nat)):List (Int×D):=kvs.map λp=>((p.1:Int),D.int (p.2:Nat))
def zrc(k:Nat):∀kvs:List (Nat×Nat),zHc (dkN kvs) (k:Int)=(kvs.lookup k).map λh=>D.int (h:Nat)
 |[]=>rfl
 |(j,h)::kvs=>by
  have ih:=zrc k kvs;unfold zHc dkN at ih ⊢;rw[map_cons,xy,lookup_cons]
  by_cases hj:j=k
  ·subst hj;simp
  ·have h1:(decide (((j:Nat):Int)=(k:Int)))=false:=decide_eq_false (by omega);have h2:(k==j)=false:=beq_eq_false_iff_ne.mpr (yM hj);simp only[h1,h2];exact ih
abbrev fsD(r:D)(m:Nat):List (yr×D):=[("kept_rule",r),("nest_of",.loc m)]
structure Sh(μ:Mem)(n m:Nat)(r:D)(kvs:List (Nat×Nat)):Prop where
 at_:μ[n]?=some (.ins "Shelf" (fsD r m))
 dc:μ[m]?=some (.dct (dkN kvs))
 nd:(kvs.map (·.1)).Nodup
 few:kvs.length<=30
def Sh.keep{μ:Mem}(s:Sh μ n m r kvs)(k:tq μ μ'):Sh μ' n m r kvs:=⟨k _ _ s.at_,k _ _ s.dc,s.nd,s.few⟩
section
variable {μ:Mem}{n m:Nat}{r:D}{kvs:List (Nat×Nat)}{Q:D->Mem->Prop}
def zIq(s:Sh μ n m r kvs)(q:Q r μ):WF zNd [.loc n] μ Q:=by
 refine zQc rfl ?_;show WS zDd [some (.loc n)] μ _ _ _ _;unfold zDd;exact zJc (zEi (zd rfl ⟨n,_,r,rfl,s.at_,rfl,q⟩))
def zpd(r:D)(m:Nat):(fsD r m).lookup ("nest_of":yr)=some (D.loc m):=by
 have h1:(("nest_of":yr) == "kept_rule")=false:=by decide +kernel
 have h2:(("nest_of":yr) == "nest_of")=true:=by decide +kernel
 simp only[fsD,lookup_cons,h1,h2]
def z2f(r:D)(m:Nat):(fsD r m).lookup ("all_there":yr)=none:=by
 have h1:(("all_there":yr) == "kept_rule")=false:=by decide +kernel
 have h2:(("all_there":yr) == "nest_of")=false:=by decide +kernel
 simp only[fsD,lookup_cons,h1,h2,lookup_nil]
def zKm(s:Sh μ n m r kvs)(q:Q (.bl (kvs.lookup k).isSome) μ):WF zwb [.loc n,.int k] μ Q:=by
 refine zQc rfl ?_;show WS zqe [some (.loc n),some (.int k)] μ _ _ _ _;unfold zqe;refine zJc (zq (zd rfl (zEi (zd rfl ⟨n,_,.loc m,rfl,s.at_,zpd r m,zvr (zK s.dc) ?_⟩))));rw[zrc,Option.isSome_map];exact q
def zan(s:Sh μ n m r kvs)(q:Q (onD (kvs.lookup k)) μ):WF zac [.loc n,.int k] μ Q:=by
 refine zQc rfl ?_;show WS zbd [some (.loc n),some (.int k)] μ _ _ _ _;unfold zbd;refine zJc (zbm (zEi (zd rfl ⟨n,_,.loc m,rfl,s.at_,zpd r m,m,_,rfl,s.dc,ze (zd rfl (zo (ztt (zK s.dc) ?_)))⟩)));rw[zrc]
 cases e:kvs.lookup k with
 |none=>rw[e]at q;exact q
 |some h=>rw[e]at q;exact q
structure Tc(kvs:List (Nat×Nat))(S:List Nat):Prop where
 pm:S.Perm (kvs.map (·.1))
 pw:S.Pairwise (· < ·)
def Tc.ex(nd:(kvs.map (·.1)).Nodup):∃S,Tc kvs S:=by
 refine⟨(kvs.map (·.1)).mergeSort (λa b=>decide (a<=b)),mergeSort_perm _ _,?_⟩;have h1:=List.pairwise_mergeSort (le:=λa b:Nat=>decide (a<=b)) (λa b c h1 h2=>by simp at h1 h2 ⊢;omega) (λa b=>by simp;omega) (kvs.map (·.1));have h2:((kvs.map (·.1)).mergeSort (λa b=>decide (a<=b))).Pairwise (·≠·):=(mergeSort_perm _ _).nodup_iff.mpr nd;refine(h1.and h2).imp λh=>?_;have:=of_decide_eq_true h.1;have:=h.2;omega
def Tc.len(k:Tc kvs S):S.length=kvs.length:=by rw[k.pm.length_eq,length_map]
def ztd(s:Sh μ n m r kvs)(k:Tc kvs S)(q:Q (.loc μ.length) (μ++[.lst (nat S)])):WF zI [.loc n] μ Q:=by
 have hf:=s.few;refine zQc rfl ?_;show WS zcc [some (.loc n)] μ _ _ _ _;unfold zcc;refine zJc (zn (ze (zEi (zd rfl ⟨n,_,.loc m,rfl,s.at_,zpd r m,zo ?_⟩))));have e0:(dkN kvs).map (·.1)=(kvs.map (·.1)).map λ(k:Nat)=>(k:Int):=by unfold dkN;rw[map_map,map_map];rfl
 have e2:nat S=(S.map λ(k:Nat)=>(k:Int)).map D.int:=by rw[map_map];rfl
 have e3:zGh ((kvs.map (·.1)).map λ(k:Nat)=>(k:Int))=S.map λ(k:Nat)=>(k:Int):=by
  refine zsd ((mergeSort_perm _ _).trans (k.pm.symm.map _)) (zKh _) ?_;rw[List.pairwise_map];exact k.pw.imp λh=>by omega
 have e4:(dkN kvs).length<64:=by unfold dkN;rw[length_map];omega
 refine⟨_,_,?_,q⟩;simp only[z8f,zK s.dc,yg];rw[decide_eq_true e4,cond_true,e0,e3,<-e2]
def Tc.look(k:Tc kvs S){x:Nat}(h:x∈S):∃v,kvs.lookup x=some v:=by
 have h1:x∈kvs.map (·.1):=k.pm.mem_iff.mp h;obtain⟨p,hp,rfl⟩:=List.mem_map.mp h1
 cases e:kvs.lookup p.1 with
 |some v=>exact⟨v,rfl⟩
 |none=>
  rw[List.lookup_eq_none_iff]at e;exact absurd (e p hp) (by simp)
def zOk(s:Sh μ n m r kvs)(k:Tc kvs S)(q:∀l μ',tq μ μ'->μ.length<=l->μ'[l]?=some (.lst (S.map λx=>onD (kvs.lookup x)))->Q (.loc l) μ'):WF zyb [.loc n] μ Q:=by
 have hf:=s.few;have hl:=k.len;refine zQc rfl ?_;show WS zWc [some (.loc n)] μ _ _ _ _;unfold zWc;refine zJc (z5o (zDg (zn (zhc (zd rfl ⟨n,_,rfl,s.at_,z2f r m,zo (ztd s k (.inr (.inr ⟨_,_,rfl,zz,zLd (by rw[length_map];omega),?_⟩)))⟩)))));refine zrj (λ(x:Nat)=>D.int x) S (λx=>onD (kvs.lookup x)) (λμ' k=>zXc zz k) (λx hx μ' kp=>?_) (λμ' kp=>?_)
 ·have s':=s.keep (tq.app.trans kp);obtain⟨v,hv⟩:=k.look hx;refine zPf ?_;unfold zIe;exact zq (zEi (zd rfl ⟨n,_,.loc m,rfl,s'.at_,zpd r m,zd rfl (zel (zK s'.dc) (by rw[zrc,hv];rfl) ⟨by rw[hv],kp,kp⟩)⟩))
 ·exact q _ _ (tq.app.trans kp.to) (yA (by simp) kp.len) zz
end
def hmN(n k:Nat)(t:Nat×Nat):Nat:=(t.1*k+t.2)%10007%n
def pr2(t:Nat×Nat):D:=.tup [.int (t.1:Nat),.int (t.2:Nat)]
abbrev rlN(R:List Nat)(ts:List (Nat×Nat)):D:=.tup [tn R,.tup (ts.map pr2)]
structure Rl(R:List Nat)(ts:List (Nat×Nat)):Prop where
 rl:1<=R.length/\R.length<=10
 tl:2<=ts.length/\ts.length<=3
 tn:∀t∈ts,t.1<=10006/\t.2<=10006
def zKq(h:Rl R ts)(q:∀μ',tq μ μ'->Q (tn (ts.map (hmN R.length k))) μ'):WF zAj [rlN R ts,.int k] μ Q:=by
 have hrl:=h.rl;have htl:=h.tl;refine zQc rfl ?_;show WS zzj [some (rlN R ts),some (.int k),none] μ _ _ _ _;unfold zzj
 repeat walk_at "w"
 refine zoe rfl (show atI [tn R,.tup (ts.map pr2)] 0=some (tn R) from rfl) ?_
 repeat walk_at "w"
 refine zDg ?_
 repeat walk_at "w"
 refine zoe rfl (show atI [tn R,.tup (ts.map pr2)] 1=some (.tup (ts.map pr2)) from rfl) (.inl ⟨_,rfl,zLd (by rw[length_map];omega),?_⟩);refine zrj pr2 ts (λt=>D.int (hmN R.length k t:Nat)) (λ_ _=>rfl) (λt ht μ' kp=>?_) (λμ' kp=>?_)
 ·have hb:=h.tn t ht;refine zPf ?_;unfold zUk
  repeat walk_at "w"
  refine zoe (x:=pr2 t) rfl (show atI [D.int (t.1:Nat),D.int (t.2:Nat)] 0=some (D.int (t.1:Nat)) from rfl) ?_
  repeat walk_at "w"
  refine zzi (zNo (by omega) (by omega)) ?_
  repeat walk_at "w"
  refine zoe (x:=pr2 t) rfl (show atI [D.int (t.1:Nat),D.int (t.2:Nat)] 1=some (D.int (t.2:Nat)) from rfl) ?_
  repeat walk_at "w"
  have e:((nat R).length:Int)=R.length:=by rw[length_map]
  rw[e];refine z9g (by omega) ⟨?_,kp,kp⟩;unfold hmN
  push_cast
  rfl
 ·refine zo (zDh (zM zz) ?_);have e:ts.map (λt=>D.int (hmN R.length k t:Nat))=nat (ts.map (hmN R.length k)):=by rw[zQj]
  rw[e];exact q _ kp.to
abbrev zjl(R:List Nat)(ts:List (Nat×Nat))(S:List Nat):List (List Nat):=S.map λk=>ts.map (hmN R.length k)
def Rl.wb(h:Rl R ts){S:List Nat}{L:Nat}(hS:S.length<=L):Wb L R (zjl R ts S) where
 rl:=h.rl
 kl:=by rw[length_map];exact hS
 kn:=λk hk=>by
  obtain⟨x, -,rfl⟩:=List.mem_map.mp hk;refine⟨by rw[length_map];exact h.tl,λy hy=>?_⟩;obtain⟨t, -,rfl⟩:=List.mem_map.mp hy;exact Nat.mod_lt _ h.rl.1
def ztm(h:Rl R ts)(hl:μ[l]?=some (.lst (nat S)))(hS:S.length<=1000)(q:∀μ',tq μ μ'->Q (wn R (zjl R ts S)) μ'):WF zee [rlN R ts,.loc l] μ Q:=by
 refine zQc rfl ?_;show WS znh [some (rlN R ts),some (.loc l)] μ _ _ _ _;unfold znh
 repeat walk_at "w"
 refine zoe rfl (show atI [tn R,.tup (ts.map pr2)] 0=some (tn R) from rfl) ?_
 repeat walk_at "w"
 refine zDg ?_
 repeat walk_at "w"
 refine .inr (.inr ⟨_,_,rfl,hl,zLd (by rw[length_map];omega),?_⟩);refine zrj (λ(x:Nat)=>D.int x) S (λk=>tn (ts.map (hmN R.length k))) (λμ' k=>zXc hl k) (λx hx μ' kp=>?_) (λμ' kp=>?_)
 ·refine zPf ?_;unfold zoj
  repeat walk_at "w"
  exact zKq h λμ2 k2=>⟨rfl,kp.trans k2,kp⟩
 ·refine zo (zDh (zM zz) ?_)
  repeat walk_at "w"
  have e:S.map (λk=>tn (ts.map (hmN R.length k)))=(zjl R ts S).map tn:=by rw[map_map];rfl
  rw[e];exact q _ kp.to
section
variable {μ:Mem}{n m:Nat}{R:List Nat}{ts:List (Nat×Nat)}{kvs:List (Nat×Nat)}{Q:D->Mem->Prop}
def zcm(r:D)(m:Nat):(fsD r m).lookup ("laying":yr)=none:=by
 have h1:(("laying":yr) == "kept_rule")=false:=by decide +kernel
 have h2:(("laying":yr) == "nest_of")=false:=by decide +kernel
 simp only[fsD,lookup_cons,h1,h2,lookup_nil]
end
section
variable {μ:Mem}{n m:Nat}{R:List Nat}{ts:List (Nat×Nat)}{kvs:List (Nat×Nat)}{Q:D->Mem->Prop}
def zCp(h:Rl R ts)(s:Sh μ n m (rlN R ts) kvs)(k:Tc kvs S)(q:∀l μ',tq μ μ'->μ.length<=l->μ'[l]?=some (.lst ((z9c R (S.map λx=>kvs.lookup x)).map .int))->Q (.loc l) μ'):WF zQd [.loc n] μ Q:=by
 have hf:=s.few;have hl:=k.len;refine zQc rfl ?_;show WS zvd [some (.loc n)] μ _ _ _ _;unfold zvd;refine zJc (zn (ze (zn (ze (zEi (zd rfl ⟨n,_,rlN R ts,rfl,s.at_,rfl,?_⟩))))));refine ze (zn (zhc (zd rfl ⟨n,_,rfl,s.at_,z2f _ m,zo (ztd s k ?_)⟩)));refine zo (ztm h zz (by omega) λμ1 k1=>?_);have s1:=s.keep (tq.app.trans k1);refine ze (zn (zhc (zd rfl ⟨n,_,rfl,s1.at_,zcm _ m,zo (zOk s1 k λl2 μ2 k2 g2 e2=>?_)⟩)));have e3:(S.map λx=>onD (kvs.lookup x))=(S.map λx=>kvs.lookup x).map onD:=by rw[map_map];rfl
 rw[e3]at e2;exact zo (zgp (L:=30) (h.wb (by omega)) e2 λl3 μ3 k3 g3 e4=>q _ _ ((tq.app.trans k1).trans (k2.trans k3)) (yA (tq.app.trans (k1.trans k2)).len g3) e4)
end
structure WX(F:FX)(ds:List D)(μ:Mem)(Q:D->Mem->Prop):Prop where
 ex:∃d μ',F ds μ=some (.ok d μ')/\Q d μ'
def z4l(h:WA φ δ μ λds μ1=>WX F ds μ1 Q):WE (zmj F φ) δ μ Q:=by
 obtain⟨ds,μ1,e1,d,μ2,e2,q⟩:=h;exact⟨d,μ2,by simp[e1,e2],q⟩
def z1v(nx:M.Loc->Mem->Prop)(rt:D->Mem->Prop)(ex:yr->List (yr×D)->Mem->Prop):Out->Prop
 |.next δ μ=>nx δ μ
 |.ret d μ=>rt d μ
 |.exc c fs μ=>ex c fs μ
 |_=>False
structure WXs(p:FS)(δ:M.Loc)(μ:Mem)(nx:M.Loc->Mem->Prop)(rt:D->Mem->Prop)(ex:yr->List (yr×D)->Mem->Prop):Prop where
 ex:∃o,p δ μ=some o/\z1v nx rt ex o
section
variable {p q:FS}{δ:M.Loc}{μ:Mem}{nx:M.Loc->Mem->Prop}{rt:D->Mem->Prop}{ex:yr->List (yr×D)->Mem->Prop}
def zWp(h:WS p δ μ nx rt (λ_ _=>False) λ_ _=>False):WXs p δ μ nx rt ex:=by
 obtain⟨o,e,k⟩:=h
 cases o with
 |next _ _=>exact⟨_,e,k⟩
 |ret _ _=>exact⟨_,e,k⟩
 |brk _ _=>exact k.elim
 |cont _ _=>exact k.elim
 |exc _ _ _=>exact k.elim
def zFg(h:WXs p δ μ (λδ' μ'=>WXs q δ' μ' nx rt ex) rt ex):WXs (znb p q) δ μ nx rt ex:=by
 obtain⟨o,e,k⟩:=h
 cases o with
 |next δ' μ'=>obtain⟨o2,e2,k2⟩:=k;exact⟨o2,by simp[e,e2],k2⟩
 |ret d μ'=>exact⟨.ret d μ',by simp only[znb,e],k⟩
 |exc c fs μ'=>exact⟨.exc c fs μ',by simp only[znb,e],k⟩
 |brk _ _=>exact k.elim
 |cont _ _=>exact k.elim
def zUt{c:FT}(h:WT c δ μ λb μ1=>(b=true->WXs p δ μ1 nx rt ex)/\(b=false->WXs q δ μ1 nx rt ex)):WXs (sIf c p q) δ μ nx rt ex:=by
 obtain⟨b,μ1,e,h1,h2⟩:=h
 cases b with
 |true=>obtain⟨o,e2,k⟩:=h1 rfl;exact⟨o,by simp[e,e2],k⟩
 |false=>obtain⟨o,e2,k⟩:=h2 rfl;exact⟨o,by simp[e,e2],k⟩
end
structure WXr(F:FX)(ds:List D)(μ:Mem)(Q:D->Mem->Prop)(ex:yr->List (yr×D)->Mem->Prop):Prop where
 ex:(∃d μ',F ds μ=some (.ok d μ')/\Q d μ')\/∃c fs μ',F ds μ=some (.exc c fs μ')/\ex c fs μ'
def zvu{N:List yr}{p:FS}{ds:List D}{ex:yr->List (yr×D)->Mem->Prop}(hF:F=λds μ=>zXu (p (zU N ds) μ))(h:WXs p (zU N ds) μ (λ_ μ'=>Q .non μ') Q ex):WXr F ds μ Q ex:=by
 subst hF;obtain⟨o,e,k⟩:=h
 cases o with
 |next δ' μ'=>exact⟨.inl ⟨_,_,by rw[e];rfl,k⟩⟩
 |ret d μ'=>exact⟨.inl ⟨_,_,by rw[e];rfl,k⟩⟩
 |exc c fs μ'=>exact⟨.inr ⟨_,_,_,by rw[e];rfl,k⟩⟩
 |brk _ _=>exact k.elim
 |cont _ _=>exact k.elim
abbrev zXb(kvs:List (Nat×Nat))(k:Nat):List (Nat×Nat):=kvs.filter λp=>decide (p.1≠k)
def zDp(k:Nat)(kvs:List (Nat×Nat)):zkt (dkN kvs) (k:Int)=dkN (zXb kvs k):=by
 unfold zkt dkN zXb;rw[List.filter_map]
 congr 1
 refine List.filter_congr λp _=>?_;show decide (((p.1:Nat):Int)≠(k:Int))=decide (p.1≠k);exact decide_eq_decide.mpr (by omega)
def Sh.ne(s:Sh μ n m r kvs):n≠m:=by
 rintro rfl;have h1:=s.at_;rw[s.dc]at h1;cases h1
def Sh.set{kvs':List (Nat×Nat)}(s:Sh μ n m r kvs)(nd:(kvs'.map (·.1)).Nodup)(few:kvs'.length<=30):Sh (μ.set m (.dct (dkN kvs'))) n m r kvs' where
 at_:=by rw[yP (yM s.ne)];exact s.at_
 dc:=by
  have hm:m<μ.length:=by
   obtain⟨h, -⟩:=List.getElem?_eq_some_iff.mp s.dc;exact h
  rw[yO hm]
 nd:=nd
 few:=few
def Sh.pop(s:Sh μ n m r kvs)(k:Nat):Sh (μ.set m (.dct (dkN (zXb kvs k)))) n m r (zXb kvs k) :=
 s.set (List.Nodup.sublist (List.filter_sublist.map _) s.nd) (yA List.filter_sublist.length_le s.few)
def z1m{c:yr}{ex:yr->List (yr×D)->Mem->Prop}(h:WA φ δ μ λ_ μ1=>ex c [] μ1):WXs (zBk c φ) δ μ nx rt ex:=by
 obtain⟨ds,μ1,e,k⟩:=h;exact⟨.exc c [] μ1,by simp only[zBk,e,yg],k⟩
def zoh(r:D)(m:Nat):(fsD r m).lookup ("has":yr)=none:=by
 have h1:(("has":yr) == "kept_rule")=false:=by decide +kernel
 have h2:(("has":yr) == "nest_of")=false:=by decide +kernel
 simp only[fsD,lookup_cons,h1,h2,lookup_nil]
def z6n{ex:yr->List (yr×D)->Mem->Prop}(s:Sh μ n m r kvs)(q:∀h:Nat,kvs.lookup k=some h->Q (.int h) (μ.set m (.dct (dkN (zXb kvs k)))))(qe:kvs.lookup k=none->ex "NoKey" [] μ):WXr zuc [.loc n,.int k] μ Q ex:=by
 refine zvu rfl ?_;show WXs zwe [some (.loc n),some (.int k)] μ _ _ _;unfold zwe;refine zFg (zUt (zHe (zN (zn (zhc (zd rfl ⟨n,_,rfl,s.at_,zoh _ m,ze (zd rfl (zo (zKm s ⟨_,rfl,λhb=>?_,λhb=>?_⟩)))⟩))))))
 ·have h0:kvs.lookup k=none:=by
   cases e:kvs.lookup k with
   |none=>rfl
   |some v=>rw[e]at hb;cases hb
  exact z1m (ze (w_c (zo (qe h0))))
 ·cases e:kvs.lookup k with
  |none=>rw[e]at hb;cases hb
  |some v=>
   refine zWp (zPb (zWp (zJc (zbm (zEi (zd rfl ⟨n,_,.loc m,rfl,s.at_,zpd r m,m,_,rfl,s.dc,ze (zd rfl (zo (zor s.dc (by rw[zrc,e];rfl) ?_)))⟩))))));rw[zDp];exact q v e
def zgt(h:μ[n]?=some (.ins "Shelf" []))(q:Q .non (μ.set n (.ins "Shelf" (fsD r μ.length))++[.dct []])):WF zOb [.loc n,r] μ Q:=by
 have hn:n<μ.length:=(List.getElem?_eq_some_iff.mp h).1;refine zQc rfl ?_;show WS zpc [some (.loc n),some r] μ _ _ _ _;unfold zpc;refine zF (zAr (zd rfl (zd rfl ⟨n,_,rfl,h,by decide,?_⟩)));refine zAr ?_
 repeat walk_at "w"
 have g1:∀(X Y:tw),(List.set μ n X++[Y])[n]?=some X:=λX Y=>by rw[yk (by rw[length_set];exact hn),yO hn]
 have h2:¬("kept_rule":yr)="nest_of":=by decide +kernel
 have e:∀l:Nat,zzh "nest_of" (.loc l) (zzh "kept_rule" r [])=fsD r l:=λl=>by simp only[zzh,h2,if_false]
 refine⟨n,_,rfl,g1 _ _,by simp[zzh],?_⟩;rw[e,length_set,List.set_append_left _ _ (by rw[length_set];exact hn),List.set_set];exact q
def zgu:Sh ((μ++[tw.ins "Shelf" []]).set μ.length (.ins "Shelf" (fsD r (μ++[tw.ins "Shelf" []]).length))++[.dct []]) μ.length (μ++[tw.ins "Shelf" []]).length r [] where
 at_:=by rw[yk (by simp),yO (by simp)]
 dc:=by rw[yE (by simp)];simp[dkN]
 nd:=List.nodup_nil
 few:=Yo _
def zjo{s:yr}(h:PyData.strOk s=true):toP μ 8 (.str s)=some (.str s):=by
 show(bif PyData.strOk s then some (PyData.str s) else none)=_;rw[h];rfl
def zrp{a b:yr}(q:Q (.bl (Yj (.str a) (.str b))) μ)(ha:PyData.strOk a=true:=by decide +kernel)(hb:PyData.strOk b=true:=by decide +kernel):W2 gEq (.str a) (.str b) μ Q:=zUv (zjo ha) (zjo hb) q
def zLq{c f:yr}{ex:yr->List (yr×D)->Mem->Prop}(h:WA φ δ μ λds μ1=>∃(n:Nat)(ns:List Int),ds=[.loc n]/\μ1[n]?=some (.lst (ns.map D.int))/\zmf ns/\ex c [(f,.loc μ1.length)] (μ1++[.lst (ns.map D.int)])):WXs (zCe c f φ) δ μ nx rt ex:=by
 obtain⟨ds,μ1,e,n,ns,rfl,hm,hs,k⟩:=h;exact⟨Out.exc c [(f,D.loc μ1.length)] (μ1++[tw.lst (ns.map D.int)]),by simp only[zCe,e,yg,hm,zMh,decide_eq_true hs,cond_true],k⟩
def zum(T:List Nat):nat T=(T.map λ(k:Nat)=>(k:Int)).map D.int:=by rw[map_map];rfl
def zqr{xs:List Nat}(nd:xs.Nodup):∃T:List Nat,T.Perm xs/\T.Pairwise (· < ·):=by
 have e:(xs.map λx=>(x,0)).map (·.1)=xs:=by rw[map_map];exact List.map_id' xs
 obtain⟨T,h⟩:=Tc.ex (kvs:=xs.map λx=>(x,0)) (by rw[e];exact nd);exact⟨T,by have:=h.pm;rw[e]at this;exact this,h.pw⟩
def Tc.not(K:Tc kvs S){k:Nat}(h:kvs.lookup k=none):k∉S:=λhm=>by
 obtain⟨v,hv⟩:=K.look hm;rw[h]at hv;cases hv
def Tc.nd(K:Tc kvs S){k:Nat}(h:kvs.lookup k=none):(S++[k]).Nodup:=by
 rw[nodup_append];refine⟨K.pw.imp λh=>yw h,by simp,λa ha b hb e=>K.not h ?_⟩;rw[List.mem_singleton]at hb;subst hb e;exact ha
def zur{ex:yr->List (yr×D)->Mem->Prop}(h:WA φ δ μ λds μ1=>∃(l:Nat)(T:List Nat),ds=[.loc l]/\μ1[l]?=some (.lst (nat T))/\T.length<=31/\(∀x∈T,x<10^60)/\ex "Full" [("some",.loc μ1.length)] (μ1++[.lst (nat T)])):WXs (zCe "Full" "some" φ) δ μ nx rt ex:=by
 obtain⟨ds,μ1,e,l,T,rfl,hm,hl,hs,k⟩:=h;refine zLq ⟨_,μ1,e,l,T.map λ(k:Nat)=>(k:Int),rfl,by rw[<-zum];exact hm,⟨by rw[length_map];omega,λn hn=>?_⟩,by rw[<-zum];exact k⟩;obtain⟨x,hx,rfl⟩:=List.mem_map.mp hn;have:=hs x hx;omega
def ztv:FS:=(znb (zDc 3 (zx z5f (zi (zx zee (zi (zTm "Shelf" "kept_rule" (zk 0)) (zi (zk 2) zL))) (zi (zJ zIf (zx zyb (z4b "Shelf" "laying" (zk 0) zL)) (zkl (zi (fC .non) zL))) (zi (zJ zWq (zx zik (zi (zk 2) zL)) (fC (.int 1))) zL))))) (znb (sIf (zZ (zJ gEq (zJ gIx (zk 3) (fC (.int 0))) (fC (.str "full")))) (zCe "Full" "some" (zi (zx zbg (zi (fLC 1 [2] (zBg (zJ gIx (zk 3) (fC (.int 1)))) (gN 0) zgk zjd) zL)) zL)) zCc) (znb (zDc 4 (fLC 1 [2] (zBg (zJ gIx (zk 3) (fC (.int 1)))) (gN 0) zgk zhd)) (znb (zll (zBg (zk 4)) (gN 5) zgd) (zUc (zk 4))))))
def zSs{ex:yr->List (yr×D)->Mem->Prop}(s:Sh μ n m r kvs)(K:Tc kvs S)(hS:∀x∈S,x<10^60)(hk:k<10^60)
 (qt:∀h:Nat,kvs.lookup k=some h->ex "Twice" [] μ)
 (qf:∀(T:List Nat)(l:Nat)(μ':Mem),kvs.lookup k=none->S.length=30->T.Perm (S++[k])->T.Pairwise (· < ·)->tq μ μ'->μ.length<=l->μ'[l]?=some (.lst (nat T))->ex "Full" [("some",.loc l)] μ')
 (qb:∀(l:Nat)(μ':Mem),kvs.lookup k=none->S.length<30->tq μ μ'->μ.length<=l->μ'[l]?=some (.lst (nat (S++[k])))->WXs ztv [some (.loc n),some (.int k),some (.loc l),none,none,none] μ' (λ_ μ''=>Q .non μ'') Q ex):WXr zxc [.loc n,.int k] μ Q ex:=by
 have hf:=s.few;have hl:=K.len;refine zvu rfl ?_;show WXs zke [some (.loc n),some (.int k),none,none,none,none] μ _ _ _;unfold zke;refine zFg (zUt (zN (zn (zhc (zd rfl ⟨n,_,rfl,s.at_,zoh _ m,ze (zd rfl (zo (zKm s ⟨_,rfl,λhb=>?_,λhb=>?_⟩)))⟩)))))
 ·cases e:kvs.lookup k with
  |none=>rw[e]at hb;cases hb
  |some v=>exact z1m (ze (w_c (zo (qt v e))))
 ·have h0:kvs.lookup k=none:=by
   cases e:kvs.lookup k with
   |none=>rfl
   |some v=>rw[e]at hb;cases hb
  refine zWp (zPb ?_);have g1:((μ++[tw.lst (nat S)])++[tw.lst [D.int k]])[μ.length]?=some (.lst (nat S)):=by rw[yk (by simp)];exact zz
  refine zFg (zWp (zsb (zq (zn (zhc (zd rfl ⟨n,_,rfl,s.at_,z2f _ m,zo (ztd s K (z6g (ze (zd rfl (zo (z2o g1 zz ?_ ?_))))))⟩))))))
  ·simp;omega
  ·have e1:nat S++[D.int k]=nat (S++[k]):=by simp[nat]
   have e2:(nat (S++[k])).length=S.length+1:=by rw[length_map,length_append,length_singleton]
   rw[e1];refine zFg (zUt (zN (zq (zn (ze (zd rfl (zo (zwg (zM zz) (w_c (zbk ⟨_,rfl,λhb=>?_,λhb=>?_⟩))))))))))
   ·have hb':=of_decide_eq_true hb;rw[e2]at hb';obtain⟨T,hT,pT⟩:=zqr (K.nd h0);have lT:=hT.length_eq;rw[length_append,length_singleton]at lT;refine zur (ze (zn (ze (zd rfl (zo (zVl zz hT pT ?_ (zo ⟨_,T,rfl,zz,?_,λx hx=>?_,?_⟩)))))))
    ·rw[length_append,length_singleton];omega
    ·omega
    ·rcases List.mem_append.mp (hT.mem_iff.mp hx) with h|h
     ·exact hS x h
     ·rw[List.mem_singleton]at h;subst h;exact hk
    ·refine qf T _ _ h0 (by omega) hT pT ?_ ?_ zz
     ·exact(((tq.app.trans tq.app).trans tq.app).trans tq.app).trans tq.app
     ·simp
   ·have hb':=of_decide_eq_false hb;rw[e2]at hb';refine zWp (zPb ?_);exact qb _ _ h0 (by omega) ((tq.app.trans tq.app).trans tq.app) (by simp) zz
def zpt:FS:=(znb (sIf (zZ (zJ gEq (zJ gIx (zk 3) (fC (.int 0))) (fC (.str "full")))) (zCe "Full" "some" (zi (zx zbg (zi (fLC 1 [2] (zBg (zJ gIx (zk 3) (fC (.int 1)))) (gN 0) zgk zjd) zL)) zL)) zCc) (znb (zDc 4 (fLC 1 [2] (zBg (zJ gIx (zk 3) (fC (.int 1)))) (gN 0) zgk zhd)) (znb (zll (zBg (zk 4)) (gN 5) zgd) (zUc (zk 4)))))
def zsu{ex:yr->List (yr×D)->Mem->Prop}(h:Rl R ts)(s:Sh μ n m (rlN R ts) kvs)(K:Tc kvs S)(h30:S.length<30)(hl:μ[l]?=some (.lst (nat (S++[k]))))
 (q1:∀(row:List (Nat×Nat)) (l':Nat) (μ':Mem),TD (zjl R ts (S++[k])) ((S.map λx=>kvs.lookup x)++[none]) S.length row->((S.map λx=>kvs.lookup x)++[none]).count (some (row.getD (row.length-1) (0,0)).2)<R.getD (row.getD (row.length-1) (0,0)).2 0->(∀row',Walk (zjl R ts (S++[k])) ((S.map λx=>kvs.lookup x)++[none]) S.length row'->((S.map λx=>kvs.lookup x)++[none]).count (some (row'.getD (row'.length-1) (0,0)).2)<R.getD (row'.getD (row'.length-1) (0,0)).2 0->row.length<=row'.length)->row.length<=10->tq μ μ'->μ'[l']?=some (.lst (row.map pD))->WXs zpt [some (.loc n),some (.int k),some (.loc l),some (.tup [.str "put",.loc l']),none,none] μ' nx rt ex)
 (q2:∀(T:List Nat)(l':Nat)(μ':Mem),T.Sublist (Yc (S.length+1))->S.length∈T->Sq R (zjl R ts (S++[k])) ((S.map λx=>kvs.lookup x)++[none]) T->tq μ μ'->μ'[l']?=some (.lst (nat T))->WXs zpt [some (.loc n),some (.int k),some (.loc l),some (.tup [.str "full",.loc l']),none,none] μ' nx rt ex) :
 WXs ztv [some (.loc n),some (.int k),some (.loc l),none,none,none] μ nx rt ex:=by
 have hlen:(S++[k]).length=S.length+1:=by simp
 have hK:(zjl R ts (S++[k])).length=S.length+1:=by rw[length_map,hlen]
 have hy:((S.map λx=>kvs.lookup x)++[none]).length=S.length+1:=by simp
 unfold ztv;refine zFg (zWp (zsb (zn (ze (zn (ze (zEi (zd rfl ⟨n,_,rlN R ts,rfl,s.at_,rfl,ze (zd rfl (zo (ztm h hl (by omega) λμ1 k1=>?_)))⟩))))))));have s1:=s.keep k1;refine ze (zq (zn (zhc (zd rfl ⟨n,_,rfl,s1.at_,zcm _ m,zo (zOk s1 K λl2 μ2 k2 g2 e2=>z6g (ze (w_c (zo (z2o (tq.app _ _ e2) zz ?_ ?_)))))⟩))))
 ·simp;omega
 ·have e3:(S.map λx=>onD (kvs.lookup x))++[D.non]=((S.map λx=>kvs.lookup x)++[none]).map onD:=by rw[map_append,map_map];rfl
  rw[e3];have kk:tq μ ((μ2++[tw.lst [D.non]])++[tw.lst (((S.map λx=>kvs.lookup x)++[none]).map onD)]):=((k1.trans k2).trans tq.app).trans tq.app;refine ze (zq (zn (ze (zd rfl (zo (zwg (zM (kk _ _ hl)) (w_c (zFs (zo ?_)))))))));have e4:(((nat (S++[k])).length:Nat):Int)-1=((S.length:Nat):Int):=by rw[length_map,hlen];omega
  rw[e4];refine zHq (L:=30) (h.wb (by omega)) (by rw[hK,hy]) (by omega) zz (by omega) (by simp) (λrow l' μ' ro hr hf r10 k' _ e'=>?_) (λT l' μ' sb hm sh k' _ e'=>?_)
  ·exact q1 row l' μ' ro hr hf r10 (kk.trans k') e'
  ·exact q2 T l' μ' (by rw[hK]at sb;exact sb) hm sh (kk.trans k') e'
def zmu{l':Nat}{T:List Nat}{ex:yr->List (yr×D)->Mem->Prop}(hS:∀x∈S++[k],x<10^60)(nd:(S++[k]).Nodup)(h30:S.length<30)(hl:μ[l]?=some (.lst (nat (S++[k]))))(sb:T.Sublist (Yc (S.length+1)))(hm:S.length∈T)(hl':μ[l']?=some (.lst (nat T)))
 (q:∀(V:List Nat)(l2:Nat)(μ':Mem),V.Pairwise (· < ·)->k∈V->V.Perm (T.map λi=>(S++[k]).getD i 0)->tq μ μ'->μ.length<=l2->μ'[l2]?=some (.lst (nat V))->ex "Full" [("some",.loc l2)] μ') :
 WXs zpt [some (.loc n),some (.int k),some (.loc l),some (.tup [.str "full",.loc l']),none,none] μ nx rt ex:=by
 have hlen:(S++[k]).length=S.length+1:=by simp
 have lT:T.length<=S.length+1:=by have:=sb.length_le;rw[length_range]at this;exact this
 have hT:∀i∈T,i<(S++[k]).length:=λi hi=>by have:=List.mem_range.mp (sb.subset hi);omega
 have g:∀(i:Nat)(h:i<(S++[k]).length),(S++[k]).getD i 0=(S++[k])[i]:=λi h=>by rw[getD_eq_getElem?_getD,yG h,Option.getD_some]
 have hc:Yj (.str ("full":yr)) (.str ("full":yr))=true:=by decide +kernel
 unfold zpt;refine zFg (zUt (zN (zq (zq (zd rfl (w_c (zoe rfl rfl (w_c (zrp ⟨_,rfl,λ_=>?_,λhb=>?_⟩)))))))))
 ·have ndV:(T.map λi=>(S++[k]).getD i 0).Nodup:=by
   rw[List.Nodup,List.pairwise_map];refine List.Pairwise.imp_of_mem (λ{a b} ha hb hab e=>?_) (List.Nodup.sublist sb List.nodup_range);have h1:=hT a ha;have h2:=hT b hb;rw[g a h1,g b h2]at e;exact hab ((List.getElem?_inj h1 nd).mp (by rw[yG h1,yG h2,e]))
  obtain⟨V,hV,pV⟩:=zqr ndV;have lV:=hV.length_eq;rw[length_map]at lV;refine zur (ze (zn (ze (z5o (zDg (zq (zd rfl (w_c (zoe rfl rfl (.inr (.inr ⟨_,_,rfl,hl',zLd (by rw[length_map];omega),?_⟩)))))))))));refine zrj (λ(x:Nat)=>D.int x) T (λi=>D.int ((S++[k]).getD i 0:Nat)) (λμ' k=>zXc hl' k) (λi hi μ' kp=>?_) (λμ' kp=>?_)
  ·refine zPf ?_;unfold zjd;exact zq (zd rfl (zd rfl (zoe (zM (kp _ _ hl)) (zfh (hT i hi)) ⟨rfl,kp,kp⟩)))
  ·have e:(T.map λi=>D.int ((S++[k]).getD i 0:Nat))=nat (T.map λi=>(S++[k]).getD i 0):=by rw[zQj]
   rw[e];refine zo (zVl zz hV pV (by rw[length_map];omega) (zo ⟨_,V,rfl,zz,by omega,λx hx=>?_,?_⟩))
   ·obtain⟨i,hi,rfl⟩:=List.mem_map.mp (hV.mem_iff.mp hx);have:=hT i hi;rw[g i this];exact hS _ (getElem_mem this)
   ·refine q V _ _ pV ?_ hV ((kp.to.trans tq.app).trans tq.app) ?_ zz
    ·refine hV.mem_iff.mpr (List.mem_map.mpr ⟨S.length,hm,by simp⟩)
    ·have:=kp.len;simp;omega
 ·rw[hc]at hb;cases hb
def zqi(kvs:List (Nat×Nat))(k h:Nat):List (Nat×Nat):=if k∈kvs.map (·.1) then kvs.map (λp=>if p.1=k then(p.1,h) else p) else kvs++[(k,h)]
def z6l(k h:Nat)(kvs:List (Nat×Nat)):zsi (dkN kvs) (k:Int) (.int (h:Nat))=dkN (zqi kvs k h):=by
 have e:((dkN kvs).any λp=>decide (p.1=(k:Int)))=decide (k∈kvs.map (·.1)):=by
  unfold dkN;rw[any_map];apply Bool.eq_iff_iff.mpr;rw[any_eq_true,decide_eq_true_iff,List.mem_map];constructor
  ·rintro⟨p,hp,h⟩;have h:((p.1:Nat):Int)=k:=of_decide_eq_true h;exact⟨p,hp,by omega⟩
  ·rintro⟨p,hp,h⟩;refine⟨p,hp,decide_eq_true (show((p.1:Nat):Int)=k from ?_)⟩;omega
 unfold zsi zqi;rw[e]
 by_cases hk:k∈kvs.map (·.1)
 ·rw[if_pos (decide_eq_true hk),if_pos hk];unfold dkN;rw[map_map,map_map];refine map_congr_left λp _=>?_;show(if((p.1:Nat):Int)=k then _ else _)=_
  by_cases hp:p.1=k
  ·rw[if_pos (by omega)];show _=((((if p.1=k then(p.1,h) else p).1:Nat):Int),D.int ((if p.1=k then(p.1,h) else p).2:Nat));rw[if_pos hp]
  ·rw[if_neg (by omega)];show _=((((if p.1=k then(p.1,h) else p).1:Nat):Int),D.int ((if p.1=k then(p.1,h) else p).2:Nat));rw[if_neg hp]
 ·rw[if_neg (by rw[decide_eq_true_iff];exact hk),if_neg hk];unfold dkN;rw[map_append];rfl
def z3k(kvs:List (Nat×Nat))(k h:Nat):(zqi kvs k h).map (·.1)=if k∈kvs.map (·.1) then kvs.map (·.1) else kvs.map (·.1)++[k]:=by
 unfold zqi
 by_cases hk:k∈kvs.map (·.1)
 ·rw[if_pos hk,if_pos hk,map_map];refine map_congr_left λp _=>?_;show(if p.1=k then(p.1,h) else p).1=p.1
  by_cases hp:p.1=k
  ·rw[if_pos hp]
  ·rw[if_neg hp]
 ·rw[if_neg hk,if_neg hk,map_append];rfl
def zXr(nd:(kvs.map (·.1)).Nodup):((zqi kvs k h).map (·.1)).Nodup:=by
 rw[z3k]
 by_cases hk:k∈kvs.map (·.1)
 ·rw[if_pos hk];exact nd
 ·rw[if_neg hk,nodup_append];refine⟨nd,by simp,λa ha b hb e=>hk ?_⟩;rw[List.mem_singleton]at hb;subst hb e;exact ha
def z5q{x:Nat}:x∈(zqi kvs k h).map (·.1)↔x∈kvs.map (·.1)\/x=k:=by
 rw[z3k]
 by_cases hk:k∈kvs.map (·.1)
 ·rw[if_pos hk];exact⟨.inl,λh=>h.elim id λh=>h▸hk⟩
 ·rw[if_neg hk,mem_append,List.mem_singleton]
def zcg{k h x:Nat}(hx:x≠k):∀kvs:List (Nat×Nat),(kvs.map (λp=>if p.1=k then(p.1,h) else p)).lookup x=kvs.lookup x
 |[]=>rfl
 |(j,v)::kvs=>by
  have ih:=zcg (h:=h) hx kvs;rw[map_cons]
  by_cases hj:j=k
  ·have e:(x==j)=false:=beq_eq_false_iff_ne.mpr (by omega);rw[if_pos hj,lookup_cons,lookup_cons,e];exact ih
  ·rw[if_neg hj,lookup_cons,lookup_cons,ih]
def zQf{k h:Nat}:∀kvs:List (Nat×Nat),k∈kvs.map (·.1)->(kvs.map (λp=>if p.1=k then(p.1,h) else p)).lookup k=some h
 |[],hk=>absurd hk (by simp)
 |(j,v)::kvs,hk=>by
  rw[map_cons]
  by_cases hj:j=k
  ·rw[if_pos hj,lookup_cons,hj,beq_self_eq_true]
  ·have e:(k==j)=false:=beq_eq_false_iff_ne.mpr (by omega);rw[if_neg hj,lookup_cons,e];rw[map_cons,mem_cons]at hk;exact zQf kvs (hk.resolve_left (yM hj))
def zdi(kvs:List (Nat×Nat))(k h x:Nat):(zqi kvs k h).lookup x=if x=k then some h else kvs.lookup x:=by
 unfold zqi
 by_cases hk:k∈kvs.map (·.1)
 ·rw[if_pos hk]
  by_cases hx:x=k
  ·subst hx;rw[if_pos rfl];exact zQf kvs hk
  ·rw[if_neg hx];exact zcg hx kvs
 ·rw[if_neg hk,List.lookup_append]
  by_cases hx:x=k
  ·subst hx
   have e:kvs.lookup x=none:=List.lookup_eq_none_iff.mpr λp hp=>by
    apply bne_iff_ne.mpr;intro e;exact hk (List.mem_map.mpr ⟨p,hp,e.symm⟩)
   rw[if_pos rfl,e,Option.none_or,lookup_cons,beq_self_eq_true]
  ·have e:(x==k)=false:=beq_eq_false_iff_ne.mpr hx;rw[if_neg hx,lookup_cons,e];exact Option.or_none
def zKc(kvs row:List (Nat×Nat)):List (Nat×Nat):=row.foldl (λkv p=>zqi kv p.1 p.2) kvs
def z4k(kvs row:List (Nat×Nat))(p:Nat×Nat):zKc kvs (row++[p])=zqi (zKc kvs row) p.1 p.2:=by
 unfold zKc;rw[List.foldl_append];rfl
def zLh(row:List (Nat×Nat)):∀kvs:List (Nat×Nat),(kvs.map (·.1)).Nodup->((zKc kvs row).map (·.1)).Nodup:=by
 induction row with
 |nil=>exact λ_ h=>h
 |cons p row ih=>exact λkvs h=>ih _ (zXr h)
def zSm(row:List (Nat×Nat)):∀(kvs:List (Nat×Nat)) (x:Nat),x∈(zKc kvs row).map (·.1)↔x∈kvs.map (·.1)\/x∈row.map (·.1):=by
 induction row with
 |nil=>intro kvs x;simp[zKc]
 |cons p row ih=>
  intro kvs x;show x∈(zKc (zqi kvs p.1 p.2) row).map (·.1)↔_;rw[ih,z5q,map_cons,mem_cons,or_assoc]
def zgq(nd:(kvs.map (·.1)).Nodup)(h1:∀x∈kvs.map (·.1),x∈A)(h2:∀x∈row.map (·.1),x∈A):(zKc kvs row).length<=A.length:=by
 have h:((zKc kvs row).map (·.1)).length<=A.length:=by
  refine z1e (zLh row kvs nd) λx hx=>?_;rcases(zSm row kvs x).mp hx with h|h
  ·exact h1 x h
  ·exact h2 x h
 rw[length_map]at h;exact h
abbrev zfk(A:List Nat)(row:List (Nat×Nat)):List (Nat×Nat):=row.map λp=>(A.getD p.1 0,p.2)
def zxm(hm:∀p∈row,p.1<A.length):∀p∈zfk A row,p.1∈A:=λp hp=>by
 obtain⟨q,hq,rfl⟩:=List.mem_map.mp hp;have h:=hm q hq;show A.getD q.1 0∈A;rw[getD_eq_getElem?_getD,yG h,Option.getD_some];exact getElem_mem h
abbrev JPt(n m k l l' lr:Nat)(r:D)(kvs rw_:List (Nat×Nat))(μ:Mem):Nat->M.Loc->Mem->Prop:=λi δ μ'=>∃x5:Option D,δ=[some (.loc n),some (.int k),some (.loc l),some (.tup [.str "put",.loc l']),some (.loc lr),x5]/\KB [m] μ μ'/\Sh μ' n m r (zKc kvs (rw_.take i))
def z5t{l':Nat}{ex:yr->List (yr×D)->Mem->Prop}(s:Sh μ n m r kvs)(K:Tc kvs S)(h30:S.length<30)(hl:μ[l]?=some (.lst (nat (S++[k]))))(hm:∀p∈row,p.1<S.length+1)(r10:row.length<=10)(hl':μ[l']?=some (.lst (row.map pD)))
 (q:∀(lr:Nat)(μ':Mem),KB [m] μ μ'->μ.length<=lr->μ'[lr]?=some (.lst ((zfk (S++[k]) row).map pD))->Sh μ' n m r (zKc kvs (zfk (S++[k]) row))->rt (.loc lr) μ') :
 WXs zpt [some (.loc n),some (.int k),some (.loc l),some (.tup [.str "put",.loc l']),none,none] μ nx rt ex:=by
 have hlen:(S++[k]).length=S.length+1:=by simp
 have hm':∀p∈row,p.1<(S++[k]).length:=λp hp=>by have:=hm p hp;omega
 have hc:Yj (.str ("put":yr)) (.str ("full":yr))=false:=by decide +kernel
 have hmm:=zH s.dc;unfold zpt;refine zFg (zUt (zN (zq (zq (zd rfl (w_c (zoe rfl rfl (w_c (zrp ⟨_,rfl,λhb=>?_,λ_=>?_⟩)))))))))
 ·rw[hc]at hb;cases hb
 refine zWp (zPb ?_);refine zFg (zWp (zsb (z5o (zDg (zq (zd rfl (w_c (zoe rfl rfl (.inr (.inr ⟨_,_,rfl,hl',zLd (by rw[length_map];omega),?_⟩))))))))));refine zrj pD row (λp=>pD ((S++[k]).getD p.1 0,p.2)) (λμ' k=>zXc hl' k) (λp hp μ' kp=>?_) (λμ' kp=>?_)
 ·refine zPf ?_;unfold zhd;refine zxi (ze (zq (zd rfl (zq (zd rfl (w_c (zoe (x:=pD p) rfl (show atI [D.int (p.1:Nat),D.int (p.2:Nat)] 0=some (D.int (p.1:Nat)) from rfl) (zoe (zM (kp _ _ hl)) (zfh (hm' p hp)) ?_))))))));exact ze (zq (zd rfl (w_c (zoe (x:=pD p) rfl (show atI [D.int (p.1:Nat),D.int (p.2:Nat)] 1=some (D.int (p.2:Nat)) from rfl) (zo ⟨rfl,kp,kp⟩)))))
 ·have e:(row.map λp=>pD ((S++[k]).getD p.1 0,p.2))=(zfk (S++[k]) row).map pD:=by rw[map_map];rfl
  rw[e];have k2:tq μ (μ'++[tw.lst ((zfk (S++[k]) row).map pD)]):=kp.to;have gl:(μ'++[tw.lst ((zfk (S++[k]) row).map pD)])[μ'.length]?=some (.lst ((zfk (S++[k]) row).map pD)):=zz;have hle:=kp.len;have rl:(zfk (S++[k]) row).length<=10:=by rw[length_map];exact r10
  have rm:=zxm hm';generalize zfk (S++[k]) row=rw_ at k2 gl rl rm q;generalize μ'++[tw.lst (rw_.map pD)]=μ2 at k2 gl;generalize μ'.length=lr at gl hle;have hne:lr≠m:=by omega
  refine zWp (zF (zgi (zDg (zd rfl (.inr (.inr ⟨_,_,rfl,gl,?_⟩))))));refine zUd (JPt n m k l l' lr r kvs rw_ μ2) ⟨_,rfl,.refl,s.keep k2⟩ ?_ ?_ ?_
  ·rintro i δ μ3 ⟨x5,rfl,k3,s3⟩;exact TH.mpr (k3.at_ _ _ (by simp;exact hne) gl)
  ·rintro i x δ μ3 hx ⟨x5,rfl,k3,s3⟩;rw[yn]at hx
   cases hp:rw_[i]? with
   |none=>rw[hp]at hx;cases hx
   |some p=>
    rw[hp]at hx;obtain rfl:pD p=x:=by simpa using hx
    refine zPf ?_;unfold zgd;refine zVj (zq (zd rfl (w_c (zoe (x:=pD p) rfl (show atI [D.int (p.1:Nat),D.int (p.2:Nat)] 1=some (D.int (p.2:Nat)) from rfl) (z7m (zEi (zd rfl ⟨n,_,.loc m,rfl,s3.at_,zpd r m,?_⟩)))))));have ht:rw_.take (i+1)=rw_.take i++[p]:=by rw[take_add_one,hp];rfl
    have ekv:=z4k kvs (rw_.take i) p;rw[<-ht]at ekv;refine zq (zd rfl (w_c (zoe (x:=pD p) rfl (show atI [D.int (p.1:Nat),D.int (p.2:Nat)] 0=some (D.int (p.1:Nat)) from rfl) ⟨m,_,_,rfl,rfl,s3.dc,?_,_,rfl,k3.trans (KB.refl.set (.inl (by simp))),?_⟩)))
    ·have:=s3.few;unfold dkN;rw[length_map];omega
    ·rw[z6l,<-ekv];refine s3.set (zLh _ _ s.nd) ?_;refine yA (zgq (A:=S++[k]) s.nd (λx hx=>List.mem_append_left _ (K.pm.mem_iff.mpr hx)) λx hx=>?_) (by omega);obtain⟨y,hy,rfl⟩:=List.mem_map.mp hx;exact rm y (List.mem_of_mem_take hy)
  ·rintro δ μ3 ⟨x5,rfl,k3,s3⟩;rw[length_map,take_length]at s3;have k4:=(KB.of_keep (L:=[m]) k2).trans k3;exact zJc (zd rfl (q lr μ3 k4 hle (k3.at_ _ _ (by simp;exact hne) gl) s3))
abbrev Can(R:List Nat)(ts:List (Nat×Nat))(kvs:List (Nat×Nat))(S:List Nat)(k:Nat)(row:List (Nat×Nat)):Prop:=TD (zjl R ts (S++[k])) ((S.map λx=>kvs.lookup x)++[none]) S.length row/\((S.map λx=>kvs.lookup x)++[none]).count (some (row.getD (row.length-1) (0,0)).2)<R.getD (row.getD (row.length-1) (0,0)).2 0
def Can.not{T:List Nat}(sh:Sq R (zjl R ts (S++[k])) ((S.map λx=>kvs.lookup x)++[none]) T)(hm:S.length∈T)(row:List (Nat×Nat)):¬Can R ts kvs S k row:=λc=>by
 obtain⟨h,r,e⟩:=c.1.first
 have h1:(S.length,h)∈row:=by rw[e];exact mem_cons_self
 exact z8r sh c.1 c.2 _ h1 _ hm (c.1.mem _ h1).2.1
abbrev Few(R:List Nat)(ts:List (Nat×Nat))(kvs:List (Nat×Nat))(S:List Nat)(k:Nat)(row:List (Nat×Nat)):Prop:=∀row',Walk (zjl R ts (S++[k])) ((S.map λx=>kvs.lookup x)++[none]) S.length row'->((S.map λx=>kvs.lookup x)++[none]).count (some (row'.getD (row'.length-1) (0,0)).2)<R.getD (row'.getD (row'.length-1) (0,0)).2 0->row.length<=row'.length
abbrev Sr(R:List Nat)(ts kvs:List (Nat×Nat))(S:List Nat)(k:Nat)(V:List Nat):Prop:=∃T:List Nat,T.Sublist (Yc (S.length+1))/\S.length∈T/\Sq R (zjl R ts (S++[k])) ((S.map λx=>kvs.lookup x)++[none]) T/\V.Perm (T.map λi=>(S++[k]).getD i 0)
def Sr.no{V:List Nat}(h:Sr R ts kvs S k V)(row:List (Nat×Nat)):¬Can R ts kvs S k row:=by
 obtain⟨T,_,hm,sh,_⟩:=h;exact Can.not sh hm row
def zxr{ex:yr->List (yr×D)->Mem->Prop}(h:Rl R ts)(s:Sh μ n m (rlN R ts) kvs)(K:Tc kvs S)(hS:∀x∈S,x<10^60)(hk:k<10^60)
 (qt:∀h:Nat,kvs.lookup k=some h->ex "Twice" [] μ)
 (qf:∀(V:List Nat)(l:Nat)(μ':Mem),kvs.lookup k=none->V.Pairwise (· < ·)->k∈V->(S.length=30/\V.Perm (S++[k])\/S.length<30/\Sr R ts kvs S k V)->tq μ μ'->μ.length<=l->μ'[l]?=some (.lst (nat V))->ex "Full" [("some",.loc l)] μ')
 (q:∀(row:List (Nat×Nat)) (lr:Nat) (μ':Mem),kvs.lookup k=none->S.length<30->Can R ts kvs S k row->Few R ts kvs S k row->KB [m] μ μ'->μ.length<=lr->μ'[lr]?=some (.lst ((zfk (S++[k]) row).map pD))->Sh μ' n m (rlN R ts) (zKc kvs (zfk (S++[k]) row))->Q (.loc lr) μ'):WXr zxc [.loc n,.int k] μ Q ex:=by
 refine zSs s K hS hk qt (λT l μ' h0 h30 hT pT k' g e=>qf T l μ' h0 pT (hT.mem_iff.mpr (by simp)) (.inl ⟨h30,hT⟩) k' g e) λl μ1 h0 h30 k1 g1 e1=>?_
 have hSk:∀x∈S++[k],x<10^60:=λx hx=>by
  rcases List.mem_append.mp hx with hx|hx
  ·exact hS x hx
  ·rw[List.mem_singleton.mp hx];exact hk
 refine zsu h (s.keep k1) K h30 e1 (λrow l' μ2 ro hr hf r10 k2 e2=>?_) (λT l' μ2 sb hm sh k2 e2=>?_)
 ·refine z5t (s.keep (k1.trans k2)) K h30 (k2 _ _ e1) (λp hp=>?_) r10 e2 λlr μ3 k3 g3 e3 s3=>?_
  ·have:=(ro.mem p hp).1;rw[length_map,length_append,length_singleton]at this;exact this
  ·exact q row lr μ3 h0 h30 ⟨ro,hr⟩ hf ((KB.of_keep (k1.trans k2)).trans k3) (yA (k1.trans k2).len g3) e3 s3
 ·exact zmu hSk (K.nd h0) h30 (k2 _ _ e1) sb hm e2 λV l2 μ3 pV hV pm k3 g3 e3=>qf V l2 μ3 h0 pV hV (.inr ⟨h30,T,sb,hm,sh,pm⟩) ((k1.trans k2).trans k3) (yA (k1.trans k2).len g3) e3
def zlg{x:Nat}(K:Tc kvs S)(ro:TD (zjl R ts (S++[k])) ((S.map λx=>kvs.lookup x)++[none]) S.length row):x∈(zKc kvs (zfk (S++[k]) row)).map (·.1)↔x∈S\/x=k:=by
 have hm:∀p∈row,p.1<(S++[k]).length:=λp hp=>by
  have:=(ro.mem p hp).1;rw[length_map]at this;exact this
 rw[zSm];constructor
 ·rintro(h|h)
  ·exact .inl (K.pm.mem_iff.mpr h)
  ·obtain⟨p,hp,rfl⟩:=List.mem_map.mp h;simpa using zxm hm p hp
 ·rintro(h|rfl)
  ·exact .inl (K.pm.mem_iff.mp h)
  ·obtain⟨h,r,e⟩:=ro.first
   refine .inr ?_;rw[e];simp
def zQr{ex:yr->List (yr×D)->Mem->Prop}(h:WA φ δ μ λds μ1=>WXr F ds μ1 (λ_ μ'=>nx δ μ') ex):WXs (zSp F φ) δ μ nx rt ex:=by
 obtain⟨ds,μ1,e1,⟨d,μ',e2,k⟩|⟨c,fs,μ',e2,k⟩⟩:=h
 ·exact⟨.next δ μ',by simp[e1,e2],k⟩
 ·exact⟨.exc c fs μ',by simp[e1,e2],k⟩
def pick4:∀v:Nat,v<4->∃s:Nat,atI [D.int 2,.int 3,.int 3,.int 10] (v:Int)=some (.int (s:Nat))/\0<s/\s<=1000
 |0,_=>⟨2,zvc (j:=0) rfl,by decide,by decide⟩
 |1,_=>⟨3,zvc (j:=1) rfl,by decide,by decide⟩
 |2,_=>⟨3,zvc (j:=2) rfl,by decide,by decide⟩
 |3,_=>⟨10,zvc (j:=3) rfl,by decide,by decide⟩
 |v+4,h=>absurd h (by omega)
def pick3:∀v:Nat,v<3->∃s:Nat,atI [D.int 10007,.int 10007,.int 12] (v:Int)=some (.int (s:Nat))/\0<s/\s<=10007
 |0,_=>⟨10007,zvc (j:=0) rfl,by decide,by decide⟩
 |1,_=>⟨10007,zvc (j:=1) rfl,by decide,by decide⟩
 |2,_=>⟨12,zvc (j:=2) rfl,by decide,by decide⟩
 |v+3,h=>absurd h (by omega)
section
variable {ns:List Int}
def zMl(hp:tT ns μ l B)(hB:B<=100000)(q:∀(R:List Nat)(ts:List (Nat×Nat)) (μ':Mem),Rl R ts->KB [l] μ μ'->tT ns μ' l (B+30)->Q (rlN R ts) μ'):WF zte [.loc l] μ Q:=by
 refine zQc rfl ?_;show WS zfe [some (.loc l),none,none,none,none] μ _ _ _ _;unfold zfe;refine zF (zsb (zq (w_c (zn (ze (zd rfl (ze (w_c (zo (zbc (s:=6) hp (by omega) (by decide) (by decide) λv1 μ1 b1 k1 p1=>zAf ?_))))))))))
 have rest:∀(N:Nat)(ν:Mem),1<=N->N<=10->KB [l] μ ν->tT ns ν l (B+3)->WS (znb (zDc 2 (zJ gIx (zkl (zi (fC (.int 2)) (zi (fC (.int 3)) (zi (fC (.int 3)) (zi (fC (.int 10)) zL))))) (zx zB (zi (zk 0) (zi (fC (.int 4)) zL))))) (znb (zDc 3 (zx znf (zi (fLC 1 [0,2] (zog (zi (zk 1) zL)) (gN 0) zgk z9d) zL))) (znb (zDc 4 (zJ gIx (zkl (zi (fC (.int 10007)) (zi (fC (.int 10007)) (zi (fC (.int 12)) zL)))) (zx zB (zi (zk 0) (zi (fC (.int 3)) zL))))) (zUc (zCn (zi (zk 3) (zi (zx znf (zi (fLC 1 [0,4] (zog (zi (zJ zIf (fC (.int 2)) (zx zB (zi (zk 0) (zi (fC (.int 2)) zL)))) zL)) (gN 0) zgk zve) zL)) zL))))))) [some (.loc l),some (.int (N:Nat)),none,none,none] ν (λ_ μ'=>Q .non μ') Q (λ_ _=>False) (λ_ _=>False):=λN ν hN1 hN k0 p0=>by
  have hlc:l≠ν.length:=yw p0.lt;refine zF (zsb (zq (z6g (ze (w_c (ze (w_c (ze (w_c (ze (w_c (zo ?_))))))))))));refine zn (ze (zd rfl (ze (w_c (zo (zbc (s:=4) p0.app (by omega) (by decide) (by decide) λv2 μ2 b2 k2 p2=>?_))))));obtain⟨s,es,hs1,hs2⟩:=pick4 v2 b2;refine zoe (zM (k2.at_ _ _ (So hlc) zz)) es ?_;have k02:KB [l] μ μ2:=(k0.app).trans k2;refine zF (zsb (zn (ze (z5o (zmi (ze (zd rfl (zo ⟨_,rfl,by omega,by omega,zLd (by simp;omega),?_⟩)))))))) ;rw[YK];refine zNq (s:=s) p2 (λj μ' Q' hj p' k' hq=>?_) λR μ3 hl hR k3 p3=>?_
  ·unfold z9d;exact zn (ze (zd rfl (ze (zd rfl (zo (zbc p' (by omega) hs1 hs2 λv μ'' b k'' p''=>hq _ _ (by omega) (by omega) k'' p''))))))
  refine zo (zDh (zM zz) ?_);have p4:=(p3.up (B':=B+14) (by omega)).app (g:=[tw.lst (nat R)]);have k4:KB [l] μ (μ3++[tw.lst (nat R)]):=(k02.trans k3).app;generalize μ3++[tw.lst (nat R)]=μ4 at p4 k4;have hlc4:l≠μ4.length:=yw p4.lt;refine zF (zsb (zq (z6g (ze (w_c (ze (w_c (ze (w_c (zo ?_))))))))));refine zn (ze (zd rfl (ze (w_c (zo (zbc (s:=3) p4.app (by omega) (by decide) (by decide) λv5 μ5 b5 k5 p5=>?_))))));obtain⟨f,ef,hf1,hf2⟩:=pick3 v5 b5;refine zoe (zM (k5.at_ _ _ (So hlc4) zz)) ef ?_;have k05:KB [l] μ μ5:=(k4.app).trans k5;refine zJc (zxi (ze (zd rfl (ze (zn (ze (z5o (zmi (ze (zq (w_c (zn (ze (zd rfl (ze (w_c (zo (zbc (s:=2) p5 (by omega) (by decide) (by decide) λv6 μ6 b6 k6 p6=>zAf (zo ?_)))))))))))))))))));have e4:(2:Int)+(v6:Nat)=((2+v6:Nat):Int):=by omega
  rw[e4];refine⟨_,rfl,by omega,by omega,zLd (by simp;omega),?_⟩;rw[YK];refine zql (λi ys μ'=>∃ts:List (Nat×Nat),ys=ts.map pr2/\ts.length=i/\(∀t∈ts,t.1<=10006/\t.2<=10006)/\KB [l] μ6 μ'/\tT ns μ' l (B+16+2*i)) ⟨[],rfl,rfl,by simp,.refl,p6⟩ (λ_ _ _ _=>rfl) ?_ ?_
  ·rintro i x ys μ' hx ⟨ts,rfl,hl,hS,k,p⟩;obtain⟨hi,rfl⟩:=zkh hx;refine zPf (zlt ⟨λ_=>?_,λhf=>(by cases hf)⟩);unfold zve;refine zxi (ze (zn (ze (zd rfl (ze (zd rfl (zo (zch p (by omega) (by omega) (by omega) λv7 μ7 a7 b7 k7 _ p7=>?_))))))));refine ze (zn (ze (zd rfl (ze (zd rfl (zo (zch p7 (by omega) (by omega) (by omega) λv8 μ8 a8 b8 k8 _ p8=>zo ?_)))))));obtain⟨v7,rfl⟩:=YL a7;obtain⟨v8,rfl⟩:=YL a8;refine⟨ts++[(v7,v8)],by rw[map_append];rfl,by simp[hl],λt ht=>?_,k.trans (k7.trans k8),p8.up (by omega)⟩;rcases List.mem_append.mp ht with ht|ht
   ·exact hS t ht
   ·rw[List.mem_singleton.mp ht];exact⟨by show v7<=10006;omega,by show v8<=10006;omega⟩
  ·rintro ys μ' ⟨ts,rfl,ht,hS,k,p⟩;simp only[length_map,length_range]at ht p;refine zo (zDh (zM zz) (zo ?_));exact q R ts _ ⟨by omega,by omega,hS⟩ ((k05.trans (k6.trans k)).app) ((p.up (by omega)).app)
 refine zF (zri (zN (zq (zn (ze (zd rfl (ze (w_c (zo (zbc (s:=8) p1 (by omega) (by decide) (by decide) λv2 μ2 b2 k2 p2=>w_c (z3g ⟨_,rfl,λ_=>?_,λ_=>zPb ?_⟩)))))))))))
 ·refine zsb (zq (w_c (zn (ze (zd rfl (ze (w_c (zo (zbc (s:=6) p2 (by omega) (by decide) (by decide) λv3 μ3 b3 k3 p3=>zAf ?_)))))))));have e:(5:Int)+(v3:Nat)=((5+v3:Nat):Int):=by omega
  rw[e];exact rest (5+v3) μ3 (by omega) (by omega) (k1.trans (k2.trans k3)) p3
 ·have e:(1:Int)+(v1:Nat)=((1+v1:Nat):Int):=by omega
  rw[e];exact rest (1+v1) μ2 (by omega) (by omega) (k1.trans k2) (p2.up (by omega))
end
section
variable {μ:Mem}{n m:Nat}{r:D}{kvs:List (Nat×Nat)}{S:List Nat}{Q:D->Mem->Prop}
abbrev inN(kvs:List (Nat×Nat))(S:List Nat)(h:Nat):List Nat:=S.filter λx=>decide (kvs.lookup x=some h)
def z9r(s:Sh μ n m r kvs)(k:Tc kvs S)(q:∀l μ',tq μ μ'->μ.length<=l->μ'[l]?=some (.lst (nat (inN kvs S h)))->Q (.loc l) μ'):WF zEd [.loc n,.int h] μ Q:=by
 have hf:=s.few;have hl:=k.len;refine zQc rfl ?_;show WS zPd [some (.loc n),some (.int h)] μ _ _ _ _;unfold zPd;refine zJc (z5o (zDg (zn (zhc (zd rfl ⟨n,_,rfl,s.at_,z2f r m,zo (ztd s k (.inr (.inr ⟨_,_,rfl,zz,zLd (by rw[length_map];omega),?_⟩)))⟩)))));refine zyf (λ(x:Nat)=>D.int x) S (λx=>D.int (x:Nat)) (λx=>decide (kvs.lookup x=some h)) (λμ' k=>zXc zz k) (λx hx μ' kp=>?_) (λμ' kp=>?_)
 ·have s':=s.keep (tq.app.trans kp);obtain⟨v,hv⟩:=k.look hx;refine zPf ?_;unfold zkf;refine zN (zq (zq (zEi (zd rfl ⟨n,_,.loc m,rfl,s'.at_,zpd r m,zd rfl (zel (zK s'.dc) (by rw[zrc,hv];rfl) (zd rfl (z3g ⟨_,rfl,?_,kp,λ_=>?_⟩)))⟩))))
  ·rw[hv];apply Bool.eq_iff_iff.mpr;rw[decide_eq_true_iff,beq_iff_eq,Option.some.injEq];omega
  ·unfold zjf;exact zd rfl ⟨rfl,kp⟩
 ·exact q _ _ (tq.app.trans kp.to) (yA (by simp) kp.len) zz
end
structure WH(η:FH)(c:yr)(fs:List (yr×D))(δ:M.Loc)(μ:Mem)(nx:M.Loc->Mem->Prop)(rt:D->Mem->Prop):Prop where
 ex:∃o,η c fs δ μ=some o/\z1v nx rt (λ_ _ _=>False) o
section
variable {p q:FS}{i:Nat}{tb:List (yr×Bool)}{η:FH}{c:yr}{fs:List (yr×D)}{δ:M.Loc}{μ:Mem}{nx:M.Loc->Mem->Prop}{rt:D->Mem->Prop}{bk ct:M.Loc->Mem->Prop}{ex:yr->List (yr×D)->Mem->Prop}
def zNu(h:WXs p δ μ nx rt (λc fs μ'=>WH η c fs δ μ' nx rt)):WS (zvp p η) δ μ nx rt bk ct:=by
 obtain⟨o,e,k⟩:=h
 cases o with
 |next δ' μ'=>exact⟨.next δ' μ',by simp only[zvp,e],k⟩
 |ret d μ'=>exact⟨.ret d μ',by simp only[zvp,e],k⟩
 |brk _ _=>exact k.elim
 |cont _ _=>exact k.elim
 |exc c fs μ'=>
  obtain⟨o,e3,k⟩:=k
  cases o with
  |next δ' μ2=>exact⟨.next δ' μ2,by simp only[zvp,e,e3],k⟩
  |ret d μ2=>exact⟨.ret d μ2,by simp only[zvp,e,e3],k⟩
  |brk _ _=>exact k.elim
  |cont _ _=>exact k.elim
  |exc _ _ _=>exact k.elim
def zpp(ht:tb.lookup c=some true)(h:WS q δ μ nx rt (λ_ _=>False) (λ_ _=>False)):WH (z5g tb q η) c fs δ μ nx rt:=by
 obtain⟨o,e,k⟩:=h
 cases o with
 |next δ' μ2=>exact⟨.next _ μ2,by simp only[z5g,ht,e],k⟩
 |ret d μ2=>exact⟨.ret d μ2,by simp only[z5g,ht,e],k⟩
 |brk _ _=>exact k.elim
 |cont _ _=>exact k.elim
 |exc _ _ _=>exact k.elim
def zhs(ht:tb.lookup c=some false)(h:WH η c fs δ μ nx rt):WH (z5g tb q η) c fs δ μ nx rt:=by
 obtain⟨o,e,k⟩:=h;exact⟨o,by simp only[z5g,ht,e],k⟩
def zVu(h:WA φ δ μ λds μ1=>WXr F ds μ1 (λd μ'=>nx (δ.set i (some d)) μ') ex):WXs (zWr i F φ) δ μ nx rt ex:=by
 obtain⟨ds,μ1,e1,⟨d,μ',e2,k⟩|⟨c,fs,μ',e2,k⟩⟩:=h
 ·exact⟨.next _ μ',by simp[e1,e2],k⟩
 ·exact⟨.exc c fs μ',by simp[e1,e2],k⟩
end
structure Ta(R:List Nat)(ts kvs:List (Nat×Nat)):Prop where
 home:∀p∈kvs,p.2∈ts.map (hmN R.length p.1)
 room:∀h,(kvs.map λp=>some p.2).count (some h)<=R.getD h 0
def zRe:∀{kvs:List (Nat×Nat)},(kvs.map (·.1)).Nodup->∀p∈kvs,kvs.lookup p.1=some p.2
 |[],_,p,hp=>absurd hp (by simp)
 |(j,v)::kvs,nd,p,hp=>by
  rw[map_cons,nodup_cons]at nd;rw[lookup_cons];rcases List.mem_cons.mp hp with rfl|hp
  ·rw[beq_self_eq_true]
  ·have:p.1≠j:=λe=>nd.1 (e▸List.mem_map.mpr ⟨p,hp,rfl⟩);rw[beq_eq_false_iff_ne.mpr this];exact zRe nd.2 p hp
def zJj{x:Nat}:kvs.lookup x=some h->(x,h)∈kvs:=by
 induction kvs with
 |nil=>intro e;cases e
 |cons p kvs ih=>
  intro e;rw[lookup_cons]at e
  by_cases hx:x=p.1
  ·subst hx;rw[beq_self_eq_true]at e;cases e;exact mem_cons_self
  ·rw[beq_eq_false_iff_ne.mpr hx]at e;exact mem_cons_of_mem _ (ih e)
def zwh(nd:(kvs.map (·.1)).Nodup)(h:A.Perm (kvs.map (·.1))):(A.map λx=>kvs.lookup x).Perm (kvs.map λp=>some p.2):=by
 have e:(kvs.map λp=>some p.2)=(kvs.map (·.1)).map λx=>kvs.lookup x:=by
  rw[map_map];exact map_congr_left λp hp=>(zRe nd p hp).symm
 rw[e];exact h.map _
def Ta.lay(r:Ta R ts kvs)(nd:(kvs.map (·.1)).Nodup)(h:A.Perm (kvs.map (·.1))):ss R (zjl R ts A) (A.map λx=>kvs.lookup x) where
 len:=by rw[length_map,length_map]
 home:=λk v e=>by
  rw[yn]at e
  cases ea:A[k]? with
  |none=>rw[ea]at e;cases e
  |some x=>
   rw[ea]at e;have e':kvs.lookup x=some v:=by simpa using e
   rw[getD_eq_getElem?_getD,yn,ea];exact r.home _ (zJj e')
 room:=λv=>by rw[(zwh nd h).count_eq];exact r.room v
def Ta.of(r:ss R (zjl R ts A) (A.map λx=>kvs.lookup x))(nd:(kvs.map (·.1)).Nodup)(h:A.Perm (kvs.map (·.1))):Ta R ts kvs where
 home:=λp hp=>by
  have hm:p.1∈A:=h.mem_iff.mpr (List.mem_map.mpr ⟨p,hp,rfl⟩);obtain⟨i,hi⟩:=List.mem_iff_getElem?.mp hm;have:=r.home i p.2 (by rw[yn,hi];simp[zRe nd p hp]);rw[getD_eq_getElem?_getD,yn,hi]at this;exact this
 room:=λv=>by rw[<-(zwh nd h).count_eq];exact r.room v
def zxq(nd:A.Nodup)(row:List (Nat×Nat)):∀(kvs:List (Nat×Nat)),(∀p∈row,p.1<A.length)->zif (A.map λx=>kvs.lookup x) row=A.map λx=>(zKc kvs (zfk A row)).lookup x:=by
 induction row with
 |nil=>intro kvs _;rfl
 |cons p row ih=>
  intro kvs hm;have hp:=hm p mem_cons_self
  have e:(A.map fun x=>kvs.lookup x).set p.1 (some p.2)=A.map fun x=>(zqi kvs (A.getD p.1 0) p.2).lookup x:=by
   refine ext_getElem? λi=>?_;rw[yn]
   by_cases hi:i=p.1
   ·subst hi;rw[yO (by rw[length_map];exact hp),yG hp];simp[zdi,hp]
   ·rw[yP (yM hi),yn]
    cases ea:A[i]? with
    |none=>rfl
    |some x=>
     have hx:x≠A.getD p.1 0:=by
      intro ex;have h1:A[p.1]?=some x:=by rw[ex,getD_eq_getElem?_getD,yG hp];rfl
      have hi':=(List.getElem?_eq_some_iff.mp ea).1;exact hi ((List.getElem?_inj hi' nd).mp (by rw[ea,h1]))
     simp only[Option.map_some];rw[zdi,if_neg hx]
  show zif ((A.map λx=>kvs.lookup x).set p.1 (some p.2)) row=_;rw[e];exact ih _ λq hq=>hm q (mem_cons_of_mem _ hq)
section
variable {R:List Nat}{ts kvs row:List (Nat×Nat)}{S:List Nat}{k:Nat}
def zpg(h0:kvs.lookup k=none):(S.map λx=>kvs.lookup x)++[none]=(S++[k]).map λx=>kvs.lookup x:=by rw[map_append,map_cons,map_nil,h0]
def zhk(r:Ta R ts kvs)(nd:(kvs.map (·.1)).Nodup)(K:Tc kvs S)(h0:kvs.lookup k=none)(c:Can R ts kvs S k row):Ta R ts (zKc kvs (zfk (S++[k]) row)):=by
 have hlen:(S++[k]).length=S.length+1:=by simp
 have hm:∀p∈row,p.1<(S++[k]).length:=λp hp=>by
  have:=(c.1.mem p hp).1;rw[length_map]at this;exact this
 have r1:ss R (zjl R ts (S++[k])) ((S++[k]).map λx=>kvs.lookup x):=by
  have r0:=r.lay nd K.pm;rw[<-zpg h0];refine⟨by simp,λi v e=>?_,λv=>?_⟩
  ·by_cases hi:i<S.length
   ·rw[yk (by simpa using hi)]at e;have:=r0.home i v e;rw[getD_eq_getElem?_getD,yn]at this ⊢;rw[yk hi];exact this
   ·rw[yE (by simp;omega)]at e;have:=mem_of_getElem? e;simp at this
  ·rw[count_append];have:=r0.room v;simp;exact this
 have r2:=zNl r1 (by rw[<-zpg h0];exact c.1) (by rw[<-zpg h0];simp) (by rw[<-zpg h0];exact c.2);rw[zxq (K.nd h0) row kvs hm]at r2;refine Ta.of r2 (zLh _ _ nd) ((List.perm_ext_iff_of_nodup (K.nd h0) (zLh _ _ nd)).mpr λx=>?_);rw[zlg K c.1];simp
end
def zFr(f:Nat)(R:List Nat)(ts:List (Nat×Nat)):toP μ (f+4) (rlN R ts)=some (.tuple [Enc.p R,Enc.p (ts.map λt=>[t.1,t.2])]):=by
 have h4:toP μ (f+3) (tn R)=some (Enc.p R):=Enc.rd μ (f+1) R
 have h5:toP μ (f+3) (.tup (ts.map pr2))=some (Enc.p (ts.map λt=>[t.1,t.2])):=by
  have e:(D.tup (ts.map pr2))=Enc.d (ts.map λt=>[t.1,t.2]):=by
   show _=D.tup ((ts.map λt=>[t.1,t.2]).map Enc.d);rw[map_map];rfl
  rw[e];exact Enc.rd μ f (ts.map λt=>[t.1,t.2])
 show([tn R,D.tup (ts.map pr2)].mapM (toP μ (f+3))).bind (λps=>some (PyData.tuple ps))=_;simp only[mapM_cons,List.mapM_nil,h4,h5];rfl
def z4i(r:D)(m:Nat)(x:yr)(h1:(x == "kept_rule")=false)(h2:(x == "nest_of")=false):(fsD r m).lookup x=none:=by
 simp only[fsD,lookup_cons,h1,h2,lookup_nil]
def zBm(r:D)(m:Nat):(fsD r m).lookup ("put":yr)=none:=z4i r m _ (by decide +kernel) (by decide +kernel)
def zCj(r:D)(m:Nat):(fsD r m).lookup ("out":yr)=none:=z4i r m _ (by decide +kernel) (by decide +kernel)
def zUi(r:D)(m:Nat):(fsD r m).lookup ("where":yr)=none:=z4i r m _ (by decide +kernel) (by decide +kernel)
def zho(r:D)(m:Nat):(fsD r m).lookup ("left":yr)=none:=z4i r m _ (by decide +kernel) (by decide +kernel)
def z1o(r:D)(m:Nat):(fsD r m).lookup ("rule":yr)=none:=z4i r m _ (by decide +kernel) (by decide +kernel)
def zBn(r:D)(m:Nat):(fsD r m).lookup ("nest":yr)=none:=z4i r m _ (by decide +kernel) (by decide +kernel)
def zEs{ψ:FA}(h:WA ψ δ μ λds μ1=>∃r,ds=[r]/\∀n m μ',tq μ1 μ'->μ1.length<=n->μ1.length<=m->n<μ'.length->m<μ'.length->Sh μ' n m r []->Q (.loc n) μ'):WE (zDn "Shelf" zOb ψ) δ μ Q:=by
 obtain⟨ds,μ1,e,r,rfl,q⟩:=h;refine zzt ⟨_,μ1,e,zgt zz ⟨rfl,?_⟩⟩;refine q μ1.length (μ1++[tw.ins "Shelf" []]).length _ (λi o ei=>?_) (yh _) (by simp) (by simp) (by simp) zgu;exact tq.app _ _ (zjb (tq.app _ _ ei) (Ym (zH ei)))
def zml{x:Nat}(h:x∈kvs.map (·.1)):(kvs.lookup x).isSome=true:=by
 cases e:kvs.lookup x with
 |some v=>rfl
 |none=>
  rw[List.lookup_eq_none_iff]at e;obtain⟨p,hp,rfl⟩:=List.mem_map.mp h;exact absurd (e p hp) (by simp)
def zem:(zXb kvs k).lookup k=none:=by
 rw[List.lookup_eq_none_iff];intro p hp;apply bne_iff_ne.mpr;rintro rfl;have:=(List.mem_filter.mp hp).2;simp at this
def z1i{S:List Int}{a b:Nat}(hS:S.length<=1000)(ga:μ[a]?=some (.lst (S.map .int)))(gb:μ[b]?=some (.lst (S.map .int)))(q:∀μ',tq μ μ'->Q (.bl true) μ'):WF zMb [.loc a,.loc b] μ Q:=by
 refine zQc rfl ?_;show WS zid [some (.loc a),some (.loc b)] μ _ _ _ _;unfold zid;refine zF (zri (zah (zHe (zN (zn (ze (zd rfl (ze (w_c (zo (z6t ga ⟨_,rfl,λ_=>?_,λh=>(by cases h)⟩)))))))))));refine zN (zq (zd rfl (zd rfl (zKt S S ga gb ⟨_,rfl,λh=>?_,λ_=>zPb ?_⟩))))
 ·simp at h
 refine zJc (zq (zn (ze (z5o (zDg (zd rfl (.inr (.inr ⟨a,_,rfl,ga,zLd (by rw[length_map];omega),?_⟩))))))));refine zyf D.int S D.int (λ_=>false) (λμ' k=>zXc ga k) (λk hk μ' kp=>?_) (λμ' kp=>?_)
 ·refine zPf ?_;unfold zVe zPe;refine zah (zHe (zN (zn (ze (zd rfl (ze (w_c (zo (zwt ⟨_,rfl,λ_=>?_,λh=>(by cases h)⟩)))))))));exact zN (zn (ze (zd rfl (ze (w_c (zo (zlp ⟨_,rfl,rfl,kp,λh=>(by cases h)⟩)))))))
 ·refine zo (zwg (zM zz) (w_c (z3g ?_)));have e:(S.filter λ_=>false)=[]:=by simp
  rw[e];exact q _ kp.to
def zOl(S:List Nat):nat S=(S.map λ(k:Nat)=>(k:Int)).map D.int:=by rw[map_map];rfl
def zSi{a b:Nat}(hS:S.length<=1000)(ga:μ[a]?=some (.lst (nat S)))(gb:μ[b]?=some (.lst (nat S)))(q:∀μ',tq μ μ'->Q (.bl true) μ'):WF zMb [.loc a,.loc b] μ Q :=
 z1i (S:=S.map λ(k:Nat)=>(k:Int)) (by simpa using hS) (by rw[<-zOl];exact ga) (by rw[<-zOl];exact gb) q
def zpo(h:Rl R ts)(q:∀l μ',tq μ μ'->μ.length<=l->μ'[l]?=some (.lst (nat (ts.map (hmN R.length k))))->Q (.loc l) μ'):WF zRd [rlN R ts,.int k] μ Q:=by
 have hrl:=h.rl;have htl:=h.tl;refine zQc rfl ?_;show WS zzd [some (rlN R ts),some (.int k),none,none,none] μ _ _ _ _;unfold zzd;refine zF (zsb (z6g (zo ?_)));refine zF (zgi (zDg (zq (zd rfl (w_c (zoe rfl (show atI [tn R,.tup (ts.map pr2)] 1=some (.tup (ts.map pr2)) from rfl) (.inl ⟨_,rfl,?_⟩)))))));refine zUd (λi δ μ'=>∃x3 x4:Option D,δ=[some (rlN R ts),some (.int k),some (.loc μ.length),x3,x4]/\tq μ μ'/\μ'[μ.length]?=some (.lst (nat ((ts.take i).map (hmN R.length k))))) ⟨_,_,rfl,tq.app,zz⟩ (λ_ _ _ _=>rfl) ?_ ?_
 ·rintro i x δ μ' hx ⟨x3,x4,rfl,kp,e⟩;rw[yn]at hx
  cases ht:ts[i]? with
  |none=>rw[ht]at hx;cases hx
  |some t=>
   rw[ht]at hx;cases hx;have hb:=h.tn t (mem_of_getElem? ht);have hi:=(List.getElem?_eq_some_iff.mp ht).1;refine zOq (zUh (zPf (zUh (zPf (zSo ?_)))));unfold zuf;refine z6k (zEm (zd rfl ⟨_,_,rfl,e,ze (zq (zq (zq (zq (zd rfl (zd rfl (zzi (zNo (by omega) (by omega)) (zd rfl (zAf (w_c (z9g (by decide) (zn (ze (zq (zd rfl (w_c (zoe rfl (show atI [tn R,.tup (ts.map pr2)] 0=some (tn R) from rfl) (zo (zwg rfl (z9g ?_ (zo (zxj e ?_ ?_))))))))))))))))))))))⟩))
   ·rw[length_map];omega
   ·rw[length_map,length_map,List.length_take];omega
   ·refine⟨_,_,rfl,?_,?_⟩
    ·refine(KB.keep ((KB.of_keep kp).set (L:=[]) (.inr (yh _))))
    ·rw[zV e,take_add_one,ht,map_append,zxg,length_map];have e1:((t.1:Int)*(k:Int)+(t.2:Int))%10007%((R.length:Nat):Int)=((hmN R.length k t:Nat):Int):=by unfold hmN;push_cast;rfl
     rw[e1];rfl
 ·rintro δ μ' ⟨x3,x4,rfl,kp,e⟩;rw[length_map,take_length]at e;exact zJc (zd rfl (q _ _ kp (yh _) e))
def z8j{kvl:List (Nat×Nat)}{x:D}(h:zP μ x=some (dkN kvl))(hp:S.Perm (kvl.map (·.1)))(hS:S.Pairwise (· < ·))(hl:kvl.length<64)(q:Q (.loc μ.length) (μ++[.lst (nat S)])):WF z8f [x] μ Q:=by
 have e1:(dkN kvl).map (·.1)=(kvl.map (·.1)).map λ(k:Nat)=>(k:Int):=by unfold dkN;rw[map_map,map_map];rfl
 have e3:zGh ((dkN kvl).map (·.1))=S.map λ(k:Nat)=>(k:Int):=by
  rw[e1];refine zsd ((mergeSort_perm _ _).trans (hp.symm.map _)) (zKh _) ?_;rw[List.pairwise_map];exact hS.imp λh=>by omega
 have hl':(dkN kvl).length<64:=by unfold dkN;rw[length_map];exact hl
 refine⟨_,_,?_,q⟩;simp only[z8f,h,yg,decide_eq_true hl',cond_true,e3];rw[zOl]
def zHj(kvs:List (Nat×Nat)):zLe (dkN kvs)=kvs.map λp=>D.int (p.1:Nat):=by unfold zLe dkN;rw[map_map];rfl
section
variable {μ:Mem}{n m dl:Nat}{R:List Nat}{ts kvs kvl:List (Nat×Nat)}{S:List Nat}{Q:D->Mem->Prop}
def Sh.kb{L:List Nat}(s:Sh μ n m r kvs)(k:KB L μ μ')(h1:n∉L)(h2:m∉L):Sh μ' n m r kvs:=⟨k.at_ _ _ h1 s.at_,k.at_ _ _ h2 s.dc,s.nd,s.few⟩
def Sh.Sa(s:Sh μ n m r kvs)(hd:zP μ (.loc dl)=some (dkN kvl)):n≠dl:=by
 rintro rfl;simp[s.at_]at hd
def zhi{kv:List (Int×D)}(hd:zP μ (.loc dl)=some kv)(k:tq μ μ'):zP μ' (.loc dl)=some kv:=by
 unfold zP at hd;dsimp only at hd
 split at hd
 ·rename_i h;cases hd;exact zK (k _ _ h)
 ·rename_i h;cases hd;exact zUb (k _ _ h)
 ·cases hd
def z0o{a b:List (Option Nat)}(h:a.Perm b):z9c R a=z9c R b:=by
 unfold z9c;exact map_congr_left λh' _=>by rw[h.count_eq]
def zOr(nd:(kvs.map (·.1)).Nodup)(K:Tc kvs S)(hp:kvl.Perm kvs)(h:Nat):(inN kvs S h).Perm ((kvl.filter λp=>decide (p.2=h)).map (·.1)):=by
 have nd':(kvl.map (·.1)).Nodup:=(hp.map _).nodup_iff.mpr nd
 have e:(kvl.filter λp=>decide (p.2=h)).map (·.1)=(kvl.map (·.1)).filter λx=>decide (kvs.lookup x=some h):=by
  rw[List.filter_map]
  congr 1
  refine List.filter_congr λp hm=>?_;have:=zRe nd _ (hp.mem_iff.mp hm);show decide (p.2=h)=decide (kvs.lookup p.1=some h);rw[this];exact decide_eq_decide.mpr (by simp)
 rw[e];exact(K.pm.trans (hp.map _).symm).filter _
abbrev JK1(n dl rl:Nat)(R:List Nat)(ts kvl:List (Nat×Nat))(μ:Mem):Nat->M.Loc->Mem->Prop:=λi δ μ'=>∃x4 x5:Option D,δ=[some (.loc n),some (rlN R ts),some (.loc dl),some (.loc rl),x4,x5,none]/\KB [rl] μ μ'/\μ'[rl]?=some (.lst ((z9c R ((kvl.take i).map λp=>some p.2)).map .int))
def z1p{rl:Nat}{p:Nat×Nat}{x5:Option D}(h:Rl R ts)(s:Sh μ' n m (rlN R ts) kvs)(r:Ta R ts kvs)(hp:kvl.Perm kvs)(hd:μ'[dl]?=some (.dcf (dkN kvl)))(hi:kvl[i]?=some p)
 (e:μ'[rl]?=some (.lst ((z9c R ((kvl.take i).map λp=>some p.2)).map .int))) (q:∀μ2,KB [rl] μ' μ2->μ2[rl]?=some (.lst ((z9c R ((kvl.take (i+1)).map λp=>some p.2)).map .int))->nx [some (.loc n),some (rlN R ts),some (.loc dl),some (.loc rl),some (.int (p.1:Nat)),some (.int (p.2:Nat)),none] μ2) :
 WS z5c [some (.loc n),some (rlN R ts),some (.loc dl),some (.loc rl),some (.int (p.1:Nat)),x5,none] μ' nx rt bk ct:=by
 have nd':(kvl.map (·.1)).Nodup:=(hp.map _).nodup_iff.mpr s.nd;have hm:=mem_of_getElem? hi;have hk:=zRe s.nd _ (hp.mem_iff.mp hm);have hhome:=r.home p (hp.mem_iff.mp hm)
 have hlt:p.2<R.length:=by
  obtain⟨t,_,et⟩:=List.mem_map.mp hhome;have:=h.rl;rw[<-et];exact Nat.mod_lt _ (by omega)
 unfold z5c;refine zF (zsb (zq (zd rfl (zd rfl (zel (zUb hd) (by rw[zrc,zRe nd' _ hm];rfl) ?_)))));refine zF (zri (zah (zN (zq (zn (zhc (zd rfl ⟨n,_,rfl,s.at_,zoh _ m,ze (zd rfl (zo (zKm s (w_c (zsm ⟨_,rfl,λ_=>?_,λhb=>?_⟩)))))⟩)))))))
 ·refine zah (zN (zq (zn (zhc (zd rfl ⟨n,_,rfl,s.at_,zUi _ m,ze (zd rfl (zo (zan s (zd rfl ?_))))⟩)))));rw[hk];refine zln ⟨_,rfl,λ_=>?_,λhb=>?_⟩
  ·refine zN (zq (zd rfl (zn (ze (zd rfl (ze (zd rfl (zo (zpo h λl μ2 k2 g2 e2=>zQq (zM e2) ⟨_,rfl,λhb=>?_,λ_=>zPb ?_⟩)))))))))
   ·rw[decide_eq_true hhome]at hb;cases hb
   ·have e':=k2 _ _ e;refine zVj (zq (zq (zd rfl (zd rfl (zoe (zM e') (zIm hlt) (w_c (zFs ?_)))))));refine zls (zd rfl (zd rfl ⟨_,_,_,rfl,rfl,e',⟨by omega,by simp[z9c];omega⟩,?_⟩));refine q _ ((KB.of_keep k2).set (.inl (by simp))) ?_;rw[zV e',YK,zsn hlt,take_add_one,hi];simp
  ·simp at hb
 ·rw[hk]at hb;cases hb
def zCq{rl:Nat}{x4 x6:Option D}(h:Rl R ts)(s:Sh μ' n m (rlN R ts) kvs)(K:Tc kvs S)(r:Ta R ts kvs)(hp:kvl.Perm kvs)(hd:μ'[dl]?=some (.dcf (dkN kvl)))(hi:i<R.length)
 (e:μ'[rl]?=some (.lst ((z9c R (kvl.map λp=>some p.2)).map .int))) (q:∀(x6:Option D) μ2,tq μ' μ2->nx [some (.loc n),some (rlN R ts),some (.loc dl),some (.loc rl),x4,some (.int (i:Nat)),x6] μ2) :
 WS z8c [some (.loc n),some (rlN R ts),some (.loc dl),some (.loc rl),x4,some (.int (i:Nat)),x6] μ' nx rt bk ct:=by
 have nd':(kvl.map (·.1)).Nodup:=(hp.map _).nodup_iff.mpr s.nd;have hf:=s.few;have hlk:=hp.length_eq;have hl:=K.len;have pm:=zOr s.nd K hp i;unfold z8c;refine zF (zsb (zn (ze (z5o (zbq (zd rfl ⟨dl,_,rfl,hd,zLd (by unfold zLe dkN;simp;omega),?_⟩))))));rw[zHj];refine zyf (λp:Nat×Nat=>D.int (p.1:Nat)) kvl (λp=>D.int (p.1:Nat)) (λp=>decide (p.2=i)) (λ_ _=>rfl) (λp hm μ2 kp=>?_) (λμ2 kp=>?_)
 ·refine zPf ?_;unfold zGe;refine zN (zq (zq (zd rfl (zd rfl (zel (zUb (kp _ _ hd)) (by rw[zrc,zRe nd' _ hm];rfl) (zd rfl (z3g ⟨_,rfl,?_,kp,λ_=>?_⟩)))))))
  ·apply Bool.eq_iff_iff.mpr;rw[decide_eq_true_iff,beq_iff_eq];omega
  ·unfold zDe;exact zd rfl ⟨rfl,kp⟩
 ·have e1:((kvl.filter λp=>decide (p.2=i)).map λp=>D.int (p.1:Nat))=nat ((kvl.filter λp=>decide (p.2=i)).map (·.1)):=by rw[zQj]
  rw[e1]
  have hlen:((kvl.filter λp=>decide (p.2=i)).map (·.1)).length<64:=by
   rw[length_map];have:=xF (λp:Nat×Nat=>decide (p.2=i)) kvl;omega
  refine zo (zVl zz pm (K.pw.filter _) hlen ?_);have k3:tq μ' ((μ2++[tw.lst (nat ((kvl.filter λp=>decide (p.2=i)).map (·.1)))])++[tw.lst (nat (inN kvs S i))]):=kp.to.to;have e3:((μ2++[tw.lst (nat ((kvl.filter λp=>decide (p.2=i)).map (·.1)))])++[tw.lst (nat (inN kvs S i))])[(μ2++[tw.lst (nat ((kvl.filter λp=>decide (p.2=i)).map (·.1)))]).length]?=some (.lst (nat (inN kvs S i))):=zz;generalize (μ2++[tw.lst (nat ((kvl.filter λp=>decide (p.2=i)).map (·.1)))]).length=l3 at e3 ⊢;generalize (μ2++[tw.lst (nat ((kvl.filter λp=>decide (p.2=i)).map (·.1)))])++[tw.lst (nat (inN kvs S i))]=μ3 at k3 e3 ⊢;have s3:=s.keep k3;have hroom:=r.room i;have hcnt:(kvl.map λp=>some p.2).count (some i)=(kvs.map λp=>some p.2).count (some i):=(hp.map _).count_eq _;refine zri (zah (zN (zq (zq (zd rfl (zd rfl (zoe (zM (k3 _ _ e)) (zIm hi) (w_c (zbk ⟨_,rfl,λ_=>?_,λhb=>?_⟩)))))))))
  ·refine zHe (zN (zn (ze (zn (zhc (zd rfl ⟨n,_,rfl,s3.at_,zBn _ m,ze (zd rfl (zo (z9r s3 K λl4 μ4 k4 g4 e4=>ze (zd rfl (zo (zSi ?_ e4 (k4 _ _ e3) λμ5 k5=>⟨_,rfl,λhb=>(by cases hb),λ_=>zPb (q _ _ (k3.trans (k4.trans k5)))⟩))))))⟩))))));have:(inN kvs S i).length<=S.length:=xF _ _;omega
  ·have:=of_decide_eq_true hb;omega
def zdg(h:Rl R ts)(s:Sh μ n m (rlN R ts) kvs)(r:Ta R ts kvs)(hp:kvl.Perm kvs)(hd:zP μ (.loc dl)=some (dkN kvl))(hne:dl≠m)(q:∀μ',KB [dl] μ μ'->μ'[dl]?=some (.dcf (dkN kvl))->Q (.bl true) μ'):WF zdb [.loc n,rlN R ts,.loc dl] μ Q:=by
 obtain⟨S,K⟩:=Tc.ex s.nd;have hf:=s.few;have hlk:=hp.length_eq;have hl:=K.len;have hrl:=h.rl;have hn:=s.Sa hd;refine zQc rfl ?_;show WS zYc [some (.loc n),some (rlN R ts),some (.loc dl),none,none,none,none] μ _ _ _ _;unfold zYc;refine zF (zri (zah (zHe (zN (zn (ze (zn (zhc (zd rfl ⟨n,_,rfl,s.at_,z2f _ m,zo (ztd s K (ze (zn (ze (zd rfl (zo (z8j (zhi hd tq.app) (K.pm.trans (hp.map _).symm) K.pw (by omega) ?_)))))))⟩)))))))));refine zo (zSi (S:=S) (by omega) (tq.app _ _ zz) zz λμ1 k1=>⟨_,rfl,λ_=>?_,λhb=>(by cases hb)⟩);have k01:tq μ μ1:=(tq.app.trans tq.app).trans k1;clear k1;have s1:=s.keep k01;refine zN (zq (zn (zhc (zd rfl ⟨n,_,rfl,s1.at_,z1o _ m,zo (zIq s1 (zd rfl (zAv (zFr 4 R ts) (zFr 4 R ts) ⟨_,rfl,λhb=>(by cases hb),λ_=>zPb ?_⟩)))⟩))));refine zF (zsb (zn (ze (zq (zd rfl (w_c (zoe rfl (show atI [tn R,.tup (ts.map pr2)] 0=some (tn R) from rfl) (zo (zir rfl ?_)))))))));have k02:tq μ (μ1++[tw.lst (nat R)]):=k01.to;have e2:(μ1++[tw.lst (nat R)])[μ1.length]?=some (.lst (nat R)):=zz;have g2:μ.length<=μ1.length:=k01.len;generalize μ1++[tw.lst (nat R)]=μ2 at k02 e2 ⊢;generalize μ1.length=rl at g2 e2 ⊢;have hd2:=zhi hd k02;have s2:=s.keep k02
 have hdl:dl<μ.length:=by
  unfold zP at hd;dsimp only at hd
  split at hd
  ·rename_i h;exact zH h
  ·rename_i h;exact zH h
  ·cases hd
 have hnl:n<μ.length:=zH s.at_;have hml:m<μ.length:=zH s.dc;refine zF (zgi (zsq (zd rfl ⟨dl,_,rfl,hd2,λμ3 k3 e3=>?_⟩)));have s3:Sh μ3 n m (rlN R ts) kvs:=s2.kb k3 (by simp;exact hn) (by simp;exact yM hne);have r3:μ3[rl]?=some (.lst (nat R)):=k3.at_ _ _ (by simp;omega) e2;rw[zHj];refine zUd (JK1 n dl rl R ts kvl μ3) ⟨_,_,rfl,.refl,by rw[r3];show _=some (tw.lst ((z9c R []).map .int));rw[<-z5r]⟩ (λ_ _ _ _=>rfl) ?_ ?_
 ·rintro i x δ μ' hx ⟨x4,x5,rfl,kp,e⟩;rw[yn]at hx
  cases hi:kvl[i]? with
  |none=>rw[hi]at hx;cases hx
  |some p=>
   rw[hi]at hx;cases hx;refine zPf ?_;refine z1p (m:=m) (kvs:=kvs) (kvl:=kvl) h (s3.kb kp (by simp;omega) (by simp;omega)) r hp (kp.at_ _ _ (by simp;omega) e3) hi e λμ4 k4 e4=>⟨_,_,rfl,kp.trans k4,e4⟩
 ·rintro δ μ4 ⟨x4,x5,rfl,k4,e4⟩;rw[length_map,take_length]at e4;have s4:Sh μ4 n m (rlN R ts) kvs:=s3.kb k4 (by simp;omega) (by simp;omega);have d4:μ4[dl]?=some (.dcf (dkN kvl)):=k4.at_ _ _ (by simp;omega) e3;have k04:KB [dl] μ μ4:=((KB.of_keep k02).trans k3).step k4 λi hi =>.inr (by rw[List.mem_singleton.mp hi];exact g2);refine zF (zgi (zmi (ze (zn (ze (zd rfl (zo (zwg (zM e4) (zo ?_)))))))));have ll:((z9c R (kvl.map λp=>some p.2)).map D.int).length=R.length:=by simp[z9c]
  rw[ll];refine⟨_,rfl,by omega,by omega,?_⟩;rw[YK];refine zUd (λi δ μ'=>∃x5 x6:Option D,δ=[some (.loc n),some (rlN R ts),some (.loc dl),some (.loc rl),x4,x5,x6]/\tq μ4 μ') ⟨_,_,rfl,.refl⟩ (λ_ _ _ _=>rfl) ?_ ?_
  ·rintro i x δ μ' hx ⟨x5,x6,rfl,kp⟩;obtain⟨hi,rfl⟩:=zkh hx;refine zPf ?_;exact zCq (m:=m) (kvs:=kvs) (kvl:=kvl) (S:=S) h (s4.keep kp) K r hp (kp _ _ d4) hi (kp _ _ e4) λx6 μ5 k5=>⟨_,_,rfl,kp.trans k5⟩
  ·rintro δ μ5 ⟨x5,x6,rfl,k5⟩;have s5:=s4.keep k5;refine zJc (zn (ze (zn (zhc (zd rfl ⟨n,_,rfl,s5.at_,zho _ m,zo (zCp h s5 K λl6 μ6 k6 g6 e6=>ze (zd rfl (zo ?_)))⟩)))));have el:z9c R (S.map λx=>kvs.lookup x)=z9c R (kvl.map λp=>some p.2):=z0o ((zwh s.nd K.pm).trans (hp.map _).symm);rw[el]at e6;refine z1i (by simp[z9c];omega) e6 (k6 _ _ (k5 _ _ e4)) λμ7 k7=>?_;exact q _ (k04.trans (KB.of_keep (k5.trans (k6.trans k7)))) (k7 _ _ (k6 _ _ (k5 _ _ d4)))
end
structure S55(μ:Mem)(n m:Nat)(R:List Nat)(ts kvs:List (Nat×Nat)):Prop where
 rl:Rl R ts
 sh:Sh μ n m (rlN R ts) kvs
 rs:Ta R ts kvs
 bd:∀x∈kvs.map (·.1),x<10^60
section
variable {μ μ':Mem}{n m k a:Nat}{R:List Nat}{ts kvs:List (Nat×Nat)}{S:List Nat}{Q:D->Mem->Prop}
def S55.keep(s:S55 μ n m R ts kvs)(k:tq μ μ'):S55 μ' n m R ts kvs:=⟨s.rl,s.sh.keep k,s.rs,s.bd⟩
def S55.key(s:S55 μ n m R ts kvs)(K:Tc kvs S):∀x∈S,x<10^60:=λx hx=>s.bd x (K.pm.mem_iff.mp hx)
def zXq{ns:List Int}{pl:Nat}(hp:tT ns μ pl B)(hB:B<=100000)(ea:μ[a]?=some (.lst (nat S)))(ha:a≠pl)(hS:S.length<=30)(hbd:∀x∈S,x<10^60)
 (q:∀(k:Nat)(μ':Mem),k<10^60->KB [pl] μ μ'->tT ns μ' pl (B+2)->Q (.int (k:Nat)) μ'):WF z6e [.loc pl,.loc a] μ Q:=by
 refine zQc rfl ?_;show WS z2e [some (.loc pl),some (.loc a),none] μ _ _ _ _;unfold z2e;refine zF (zsb (zn (ze (zd rfl (ze (w_c (zo (zbc (s:=8) hp (by omega) (by decide) (by decide) λv1 μ1 b1 k1 p1=>?_))))))));have e1:=k1.at_ _ _ (So (yM ha)) ea
 have rest:∀μ2,KB [pl] μ μ2->tT ns μ2 pl (B+1)->WS (znb (sIf (zZ (zJ gEq (zk 2) (fC (.int 3)))) (zUc (zx zB (zi (zk 0) (zi (zJ zst (fC (.int 10)) (fC (.int 59))) zL)))) zCc) (zUc (zx zB (zi (zk 0) (zi (fC (.int 40)) zL))))) [some (.loc pl),some (.loc a),some (.int (v1:Nat))] μ2 (λ_ μ'=>Q .non μ') Q (λ_ _=>False) (λ_ _=>False):=λμ2 k2 p2=>by
  have p59:((10:Int)^(59:Int).toNat)=100000000000000000000000000000000000000000000000000000000000:=by decide
  refine zF (zri (zN (zq (zd rfl (w_c (z3g ⟨_,rfl,λ_=>?_,λ_=>zPb ?_⟩))))))
  ·refine zJc (zn (ze (zd rfl (ze (zq (w_c (w_c (zYt (by decide) (by decide) (by decide) (zo ?_)))))))));rw[p59];refine zch p2 (by omega) (by omega) (by omega) λv μ3 a3 b3 k3 _ p3=>?_;obtain⟨v,rfl⟩:=YL a3;exact q v μ3 (by omega) (k2.trans k3) (p3.up (by omega))
  ·exact zJc (zn (ze (zd rfl (ze (w_c (zo (zbc (s:=40) p2 (by omega) (by decide) (by decide) λv μ3 b3 k3 p3=>q v μ3 (by omega) (k2.trans k3) (p3.up (by omega)))))))))
 refine zF (zri (zWm (zN (zq (zd rfl (w_c (zbk ⟨_,rfl,λ_=>?_,λ_=>⟨λhb=>(by cases hb),λ_=>zPb (rest μ1 k1 p1)⟩⟩)))))));refine zN (zq (zd rfl (z6g (zo (zKt (α:=Nat) S [] (tq.app _ _ e1) zz ⟨_,rfl,λhb=>?_,λ_=>zPb (rest _ k1.app p1.app)⟩)))))
 have hne:0<S.length:=by
  rcases Nat.eq_zero_or_pos S.length with h0|h0
  ·rw[decide_eq_true (List.length_eq_zero_iff.mp h0)]at hb;cases hb
  ·exact h0
 have e2:(μ1++[tw.lst []])[a]?=some (.lst (nat S)):=tq.app _ _ e1;have p2:=p1.app (g:=[tw.lst []]);have k2:KB [pl] μ (μ1++[tw.lst []]):=k1.app;generalize μ1++[tw.lst []]=μ2 at e2 p2 k2;have lS:((nat S).length:Int)=((S.length:Nat):Int):=by rw[length_map]
 refine zJc (zq (zd rfl (zn (ze (zd rfl (ze (zn (ze (zd rfl (zo (zwg (zM e2) (zo ?_))))))))))));rw[lS];refine zbc p2 (by omega) hne (by omega) λv μ3 b3 k3 p3=>?_;have e3:=k3.at_ _ _ (So (yM ha)) e2;refine zoe (zM e3) (zfh b3) (q _ _ ?_ (k2.trans k3) p3);rw[getD_eq_getElem?_getD,yG b3,Option.getD_some];exact hbd _ (getElem_mem b3)
end
def WX.of{ds:List D}(h:WXr F ds μ Q (λ_ _ _=>False)):WX F ds μ Q:=by
 obtain⟨⟨d,μ',e,q⟩|⟨c,fs,μ',e,q⟩⟩:=h
 ·exact⟨d,μ',e,q⟩
 ·exact q.elim
def zon(r:Ta R ts kvs):Ta R ts (zXb kvs k) :=
 ⟨λp hp=>r.home p (List.mem_filter.mp hp).1,λh=>yA ((List.filter_sublist.map _).count_le _) (r.room h)⟩
def zVs(row:List (Nat×Nat)):∀kvs:List (Nat×Nat),(dkN row).foldl (λkv p=>zsi kv p.1 p.2) (dkN kvs)=dkN (zKc kvs row):=by
 induction row with
 |nil=>exact λ_=>rfl
 |cons p row ih=>
  intro kvs;show(dkN row).foldl (λkv p=>zsi kv p.1 p.2) (zsi (dkN kvs) (p.1:Int) (.int (p.2:Nat)))=_;rw[z6l,ih];rfl
def zZq :∀pre:List (Nat×Nat),((pre++kvs).map (·.1)).Nodup->zKc pre kvs=pre++kvs:=by
 induction kvs with
 |nil=>intro pre _;simp[zKc]
 |cons p kvs ih=>
  intro pre nd
  have hn:p.1∉pre.map (·.1):=λhm=>by
   rw[map_append,nodup_append]at nd;exact nd.2.2 _ hm _ (by simp) rfl
  have e:zqi pre p.1 p.2=pre++[p]:=by unfold zqi;rw[if_neg hn]
  show zKc (zqi pre p.1 p.2) kvs=_;rw[e,ih (pre++[p]) (by simpa using nd)];simp
def zQo(nd:(kvs.map (·.1)).Nodup):zTv (dkN kvs)=dkN kvs:=by
 show(dkN kvs).foldl (λkv p=>zsi kv p.1 p.2) (dkN [])=_;rw[zVs,zZq [] (by simpa using nd)];rfl
def zhq(row:List (Nat×Nat)):∀kvs:List (Nat×Nat),(zKc kvs row).length<=kvs.length+row.length:=by
 induction row with
 |nil=>exact λ_=>yh _
 |cons p row ih=>
  intro kvs;have h1:=ih (zqi kvs p.1 p.2)
  have h2:(zqi kvs p.1 p.2).length<=kvs.length+1:=by
   unfold zqi
   split<;>simp
  show(zKc (zqi kvs p.1 p.2) row).length<=_;simp only[length_cons];omega
def z2h(kvs:List (Nat×Nat)):(dkN kvs).length=kvs.length:=by unfold dkN;rw[length_map]
section
variable {μ μ':Mem}{n m k dl:Nat}{R:List Nat}{ts kvs:List (Nat×Nat)}{S:List Nat}{Q:D->Mem->Prop}
def zOm(s:Sh μ n m (rlN R ts) kvs)(h0:kvs.lookup k=none)(q:Q (.bl true) μ):WF zLb [.loc n,.int (k:Nat)] μ Q:=by
 refine zQc rfl ?_;show WS zfd [some (.loc n),some (.int (k:Nat)),none] μ _ _ _ _;unfold zfd;refine zF (zsb (w_c ?_));refine zF (zNu (zQr (zhc (zd rfl ⟨n,_,rfl,s.at_,zCj _ m,ze (zd rfl (zo (z6n s (λv e=>?_) λe=>?_)))⟩))))
 ·rw[h0]at e;cases e
 ·refine zpp (by decide +kernel) (zsb (w_c ?_));refine zJc (zGq (zd rfl ⟨_,rfl,λ_=>?_,λhb=>(by cases hb)⟩));refine zGq (zq (zn (zhc (zd rfl ⟨n,_,rfl,s.at_,zoh _ m,ze (zd rfl (zo (zKm s (w_c ?_))))⟩))));rw[h0];refine zSt ⟨_,rfl,λ_=>?_,λhb=>(by cases hb)⟩;refine zq (zn (zhc (zd rfl ⟨n,_,rfl,s.at_,zUi _ m,ze (zd rfl (zo (zan s (w_c ?_))))⟩)));rw[h0];exact zxv rfl q
def zzv:FS:=(znb (zDc 4 (zx zcj (zi (zk 1) zL))) (znb (zll (zBg (zk 3)) (gT 2 (zfc (gN 5) (zfc (gN 6) z4g))) zXe) (zUc (zk 4))))
def zcp{lr:Nat}{rw_:List (Nat×Nat)}(hd:zP μ (.loc dl)=some (dkN kvs))(hl:kvs.length+rw_.length<=1000)(er:μ[lr]?=some (.lst (rw_.map pD)))(q:∀μ',tq μ μ'->μ'[μ.length]?=some (.dct (dkN (zKc kvs rw_)))->Q (.loc μ.length) μ') :
 WS zzv [some (.loc n),some (.loc dl),some (.int (k:Nat)),some (.loc lr),none,none,none] μ nx Q bk ct:=by
 unfold zzv;refine zF (zsb (zn (ze (zd rfl (zo (zds hd ?_))))));have hlr:=zH er;refine zF (zgi (zDg (zd rfl (.inr (.inr ⟨_,_,rfl,tq.app _ _ er,?_⟩)))));refine zUd (λi δ μ'=>∃x5 x6:Option D,δ=[some (.loc n),some (.loc dl),some (.int (k:Nat)),some (.loc lr),some (.loc μ.length),x5,x6]/\tq μ μ'/\μ'[μ.length]?=some (.dct (dkN (zKc kvs (rw_.take i))))) ⟨_,_,rfl,tq.app,zz⟩ (λi δ μ' ⟨_,_,_,kp,_⟩=>zXc er kp) ?_ ?_
 ·rintro i x δ μ' hx ⟨x5,x6,rfl,kp,e⟩;rw[yn]at hx
  cases hi:rw_[i]? with
  |none=>rw[hi]at hx;cases hx
  |some p=>
   rw[hi]at hx;cases hx;refine zOq (zUh (zPf (zUh (zPf (zSo ?_)))));unfold zXe;refine zVj (zd rfl (z7m (zd rfl (zd rfl ⟨_,_,_,rfl,rfl,e,?_,?_⟩))))
   ·rw[z2h];have h1:=zhq (rw_.take i) kvs;have h2:=(List.take_sublist i rw_).length_le;omega
   ·refine⟨_,_,rfl,KB.keep ((KB.of_keep kp).set (L:=[]) (.inr (yh _))),?_⟩;rw[zV e,z6l,take_add_one,hi];show _=some (tw.dct (dkN (zKc kvs (rw_.take i++[p]))));rw[z4k]
 ·rintro δ μ' ⟨x5,x6,rfl,kp,e⟩;rw[length_map,take_length]at e;exact zJc (zd rfl (q _ kp e))
def zft(s:S55 μ n m R ts kvs)(hd:zP μ (.loc dl)=some (dkN kvs))(hdm:dl≠m)(hk:k<10^60)
 (q:∀(kvs':List (Nat×Nat)) (d':Nat) (μ':Mem),S55 μ' n m R ts kvs'->KB [m] μ μ'->μ.length<=d'->μ'[d']?=some (.dct (dkN kvs'))->Q (.loc d') μ'):WF zkd [.loc n,.loc dl,.int (k:Nat)] μ Q:=by
 obtain⟨S,K⟩:=Tc.ex s.sh.nd;have hf:=s.sh.few;have hl:=K.len;refine zQc rfl ?_;show WS z7e [some (.loc n),some (.loc dl),some (.int (k:Nat)),none,none,none,none] μ _ _ _ _;unfold z7e;refine zF (zsb (z6g (zo ?_)));have s1:=s.keep (μ':=μ++[tw.lst []]) tq.app;have k1:tq μ (μ++[tw.lst []]):=tq.app;have e1:(μ++[tw.lst []])[μ.length]?=some (.lst []):=zz;generalize μ++[tw.lst []]=μ1 at s1 k1 e1
 have dn:∀{μ2:Mem},KB [m] μ1 μ2->zP μ2 (.loc dl)=some (dkN kvs):=λ{μ2} k2=>by
  have:=zhi hd k1;unfold zP at this;dsimp only at this
  split at this
  ·rename_i h;cases this;exact zK (k2.at_ _ _ (by simp;exact hdm) h)
  ·rename_i h;cases this;exact zUb (k2.at_ _ _ (by simp;exact hdm) h)
  ·cases this
 have none:∀{μ2:Mem},tq μ1 μ2->WS zzv [some (.loc n),some (.loc dl),some (.int (k:Nat)),some (.loc μ2.length),Option.none,Option.none,Option.none] (μ2++[tw.lst []]) (λ_ μ'=>Q .non μ') Q (λ_ _=>False) (λ_ _=>False):=λ{μ2} k2=>by
  refine zcp (rw_:=[]) (dn (KB.of_keep k2.to)) (by simp;omega) zz λμ3 k3 e3=>?_;have k03:tq μ μ3:=(k1.trans k2.to).trans k3;exact q kvs _ μ3 (s.keep k03) (KB.of_keep k03) (by simp;have:=(k1.trans k2).len;omega) e3
 refine zF (zNu (zVu (zhc (zd rfl ⟨n,_,rfl,s1.sh.at_,zBm _ m,ze (zd rfl (zo (zxr s.rl s1.sh K (s.key K) hk (λh e=>?_) (λV l μ2 h0 pV hV hT k2 g2 e2=>?_) λrow lr μ2 h0 h30 c cf k2 g2 e2 s2=>?_)))⟩))))
 ·exact zpp (by decide +kernel) (zsb (z6g (zo (none .refl))))
 ·exact zhs (by decide +kernel) (zpp (by decide +kernel) (zsb (z6g (zo (none k2)))))
 ·have hlen:(zfk (S++[k]) row).length<=900:=by
   rw[length_map]
   have h1:=z1e (l:=row.map (·.1)) (m:=Yc (S.length+1)) c.1.nd λx hx=>by
    obtain⟨p,hp,rfl⟩:=List.mem_map.mp hx;have:=(c.1.mem p hp).1;rw[length_map,length_append,length_singleton]at this;exact List.mem_range.mpr this
   rw[length_map,length_range]at h1;omega
  refine zcp (rw_:=zfk (S++[k]) row) (dn k2) (by omega) e2 λμ3 k3 e3=>?_;refine q (zKc kvs (zfk (S++[k]) row)) _ μ3 ⟨s.rl,s2.keep k3,zhk s.rs s.sh.nd K h0 c,λx hx=>?_⟩ (((KB.of_keep k1).trans k2).trans (KB.of_keep k3)) (((KB.of_keep (L:=[m]) k1).trans k2).len) e3;rcases(zlg K c.1).mp hx with hx|rfl
  ·exact s.key K x hx
  ·exact hk
end
section
variable {μ μ':Mem}{n m k dl:Nat}{R:List Nat}{ts kvs:List (Nat×Nat)}{S:List Nat}{Q:D->Mem->Prop}
def z1r(h0:kvs.lookup k=none):zKc kvs [(k,h)]=kvs++[(k,h)]/\zXb (zKc kvs [(k,h)]) k=kvs:=by
 have hn:k∉kvs.map (·.1):=λhm=>by
  have:=zml hm;rw[h0]at this;cases this
 have e:zKc kvs [(k,h)]=kvs++[(k,h)]:=by
  show zqi kvs k h=_;unfold zqi;rw[if_neg hn]
 refine⟨e,?_⟩;rw[e];unfold zXb;rw[List.filter_append,List.filter_eq_self.mpr]
 ·simp
 ·intro p hp;exact decide_eq_true λe=>hn (List.mem_map.mpr ⟨p,hp,e⟩)
def zYo(nd:(kvs.map (·.1)).Nodup)(hk:kvs.lookup k=some h)(r:Ta R ts kvs):((zXb kvs k).map λp=>some p.2).count (some h)<R.getD h 0:=by
 have hm:=zJj hk;have h1:=r.room h;obtain⟨a,b,rfl⟩:=List.append_of_mem hm
 have hs:(zXb (a++(k,h)::b) k).Sublist (a++b):=by
  unfold zXb;rw[List.filter_append,xo (by simp)];exact List.Sublist.append List.filter_sublist List.filter_sublist
 have h2:=(hs.map λp=>some p.2).count_le (some h);rw[map_append,map_cons,count_append,List.count_cons_self]at h1;rw[map_append,count_append]at h2;omega
def zcs(hk:kvs.lookup k≠none):(zXb kvs k).length<kvs.length:=by
 rcases Nat.lt_or_ge (zXb kvs k).length kvs.length with h|h
 ·exact h
 ·have hl:(zXb kvs k).length=kvs.length:=Nat.le_antisymm (xF _ _) h;exfalso;apply hk;have e:zXb kvs k=kvs:=List.filter_sublist.eq_of_length hl;rw[<-e];exact zem
def zat(hl:Rl R ts)(nd:(kvs.map (·.1)).Nodup)(K:Tc kvs S)(h0:kvs.lookup k=none)(hh:h∈ts.map (hmN R.length k))(hc:(kvs.map λp=>some p.2).count (some h)<R.getD h 0):Can R ts kvs S k [(S.length,h)]:=by
 have hg:(zjl R ts (S++[k])).getD S.length []=ts.map (hmN R.length k):=by
  rw[getD_eq_getElem?_getD,yn,yE (yh _)];simp
 have hln:((S.map λx=>kvs.lookup x)++[none]).getD S.length none=none:=by
  rw[getD_eq_getElem?_getD,yE (by simp)];simp
 refine⟨⟨⟨h,[],rfl⟩,λp hp=>?_,λi p q e1 e2=>?_,by simp⟩,?_⟩
 ·rw[List.mem_singleton.mp hp];refine⟨by simp,by rw[hg];exact hh,?_⟩;rw[hln];simp
 ·cases i<;>simp at e2
 ·show((S.map λx=>kvs.lookup x)++[none]).count (some h)<R.getD h 0;rw[count_append,(zwh nd K.pm).count_eq];simpa using hc
def zNs{h0:Nat}(s:S55 μ n m R ts kvs)(hd:μ[dl]?=some (.dct (dkN kvs)))(hdm:dl≠m)(hk:kvs.lookup k=some h0)(hkb:k<10^60)
 (q:∀μ',S55 μ' n m R ts (zXb kvs k)->KB [m,dl] μ μ'->μ'[dl]?=some (.dcf (dkN kvs))->Q (.bl true) μ'):WF z8e [.loc n,rlN R ts,.loc dl,.int (k:Nat)] μ Q:=by
 have hf:=s.sh.few;have nd:=s.sh.nd;have hn:n≠dl:=s.sh.Sa (zK hd);have hnm:=s.sh.ne;have hhome:=s.rs.home _ (zJj hk);have hp0:(zXb kvs k).lookup k=none:=zem;have ndp:((zXb kvs k).map (·.1)).Nodup:=List.Nodup.sublist (List.filter_sublist.map _) nd
 have hlp:(zXb kvs k).length<30:=by
  have:=zcs (kvs:=kvs) (k:=k) (by rw[hk];simp);omega
 have bdp:∀x∈(zXb kvs k).map (·.1),x<10^60:=λx hx=>s.bd x ((List.filter_sublist.map _).subset hx);refine zQc rfl ?_;show WS zaf [some (.loc n),some (rlN R ts),some (.loc dl),some (.int (k:Nat)),none,none,none] μ _ _ _ _;unfold zaf;refine zF (zsb (z4l (zhc (zd rfl ⟨n,_,rfl,s.sh.at_,zCj _ m,ze (zd rfl (zo (WX.of (z6n s.sh (λv e=>?_) λe=>?_))))⟩))))
 ·rw[hk]at e;cases e;have s1:=s.sh.pop k;have k1:KB [m,dl] μ (μ.set m (.dct (dkN (zXb kvs k)))):=KB.refl.set (.inl (by simp));have d1:(μ.set m (.dct (dkN (zXb kvs k))))[dl]?=some (.dct (dkN kvs)):=zjb hd (yM hdm);generalize μ.set m (.dct (dkN (zXb kvs k)))=μ1 at s1 k1 d1;refine zF (zri (zah (zN (zn (ze (zd rfl (ze (w_c (zo (zlp ⟨_,rfl,λ_=>?_,λhb=>(by cases hb)⟩))))))))));refine zN (zq (zd rfl (zq (zd rfl (zd rfl (zel (zK d1) (by rw[zrc,hk];rfl) (zln ⟨_,rfl,λhb=>?_,λ_=>zPb ?_⟩)))))))
  ·simp at hb
  refine zF (zsb (zn (ze (z5o (zdp (zd rfl ⟨dl,_,rfl,d1,zLd (by unfold zLe;rw[length_map,z2h];omega),?_⟩))))));have k2:KB [m,dl] μ (μ1.set dl (.dcf (dkN kvs))):=k1.set (.inl (by simp));have d2:(μ1.set dl (.dcf (dkN kvs)))[dl]?=some (.dcf (dkN kvs)):=zV d1;have s2:Sh (μ1.set dl (.dcf (dkN kvs))) n m (rlN R ts) (zXb kvs k):=s1.kb (KB.refl.set (.inl (by simp)):KB [dl] μ1 _) (by simp;exact hn) (by simp;exact yM hdm);generalize μ1.set dl (.dcf (dkN kvs))=μ2 at k2 d2 s2;rw[zHj];refine zyf (λp:Nat×Nat=>D.int (p.1:Nat)) kvs (λp=>D.tup [.int (p.1:Nat),.int (p.2:Nat)]) (λp=>decide (p.1≠k)) (λ_ _=>rfl) (λp hm μ3 kp=>?_) (λμ3 k3=>?_)
  ·refine zPf ?_;unfold zUg;refine zN (zq (zd rfl (zd rfl (zln ⟨_,rfl,?_,kp,λ_=>?_⟩))))
   ·apply Bool.eq_iff_iff.mpr;rw[decide_eq_true_iff,Bool.not_eq_true',beq_eq_false_iff_ne];omega
   ·unfold zZg;exact zxi (ze (zd rfl (ze (zq (zd rfl (zd rfl (zel (zUb (kp _ _ d2)) (by rw[zrc,zRe nd _ hm];rfl) (zo ⟨rfl,kp⟩))))))))
  ·have ei:(kvs.filter λp=>decide (p.1≠k)).map (λp=>D.tup [.int (p.1:Nat),.int (p.2:Nat)])=zib (dkN (zXb kvs k)):=by
    unfold zib dkN;rw[map_map];rfl
   rw[ei];refine zo (zNp (dkN (zXb kvs k)) zz (by rw[z2h];omega) ?_);rw[zQo ndp];have k4:tq μ2 ((μ3++[tw.lst (zib (dkN (zXb kvs k)))])++[tw.dct (dkN (zXb kvs k))]):=k3.to.to;have e4:((μ3++[tw.lst (zib (dkN (zXb kvs k)))])++[tw.dct (dkN (zXb kvs k))])[(μ3++[tw.lst (zib (dkN (zXb kvs k)))]).length]?=some (.dct (dkN (zXb kvs k))):=zz;have g4:μ2.length<=(μ3++[tw.lst (zib (dkN (zXb kvs k)))]).length:=k3.to.len;generalize (μ3++[tw.lst (zib (dkN (zXb kvs k)))]).length=dz at e4 g4 ⊢;generalize (μ3++[tw.lst (zib (dkN (zXb kvs k)))])++[tw.dct (dkN (zXb kvs k))]=μ4 at k4 e4 ⊢;clear k3;have s4:=s2.keep k4;have hml:m<μ2.length:=zH s2.dc;have hnl:n<μ2.length:=zH s2.at_;have hdl:dl<μ2.length:=zH d2;have hzm:dz≠m:=by omega
   have hzn:dz≠n:=by omega
   have hzd:dz≠dl:=by omega
   have rp:Ta R ts (zXb kvs k):=zon s.rs;refine zF (zri (zah (zHe (zN (zn (ze (zd rfl (ze (zd rfl (ze (zd rfl (zo (zdg s.rl s4 rp (List.Perm.refl _) (zK e4) hzm λμ5 k5 e5=>⟨_,rfl,λ_=>?_,λhb=>(by cases hb)⟩)))))))))))));have s5:Sh μ5 n m (rlN R ts) (zXb kvs k):=s4.kb k5 (by simp;omega) (by simp;omega);refine zHe (zN (zn (ze (zd rfl (ze (zd rfl (zo (zOm s5 hp0 ⟨_,rfl,λhb=>(by cases hb),λ_=>zPb ?_⟩))))))));obtain⟨S,K⟩:=Tc.ex ndp;have hlS:=K.len;have bdS:∀x∈S,x<10^60:=λx hx=>bdp x (K.pm.mem_iff.mp hx);have c1:=zat s.rl ndp K hp0 hhome (zYo nd hk s.rs);refine zF (zsb (z4l (zhc (zd rfl ⟨n,_,rfl,s5.at_,zBm _ m,ze (zd rfl (zo (WX.of (zxr s.rl s5 K bdS hkb (λh e=>?_) (λV l μ6 h0 pV hV hT k6 g6 e6=>?_) λrow lr μ6 h0 h30 c cf k6 g6 e6 s6=>?_))))⟩))))
   ·rw[hp0]at e;cases e
   ·rcases hT with ⟨hT,_⟩|⟨_,hT⟩
    ·omega
    ·exact absurd c1 (hT.no _)
   ·have hone:=cf _ c1.1.walk c1.2;obtain⟨h,r,er⟩:=c.1.first
    have hr:r=[]:=by
     rw[er]at hone;simp at hone;exact hone
    rw[hr]at er;have ek:zfk (S++[k]) row=[(k,h)]:=by rw[er];simp
    rw[ek]at e6 s6;have rs6:=zhk rp ndp K hp0 c;rw[ek]at rs6;obtain⟨ep,eq⟩:=z1r (kvs:=zXb kvs k) (k:=k) (h:=h) hp0;have e6':μ6[lr]?=some (.lst (zib (dkN [(k,h)]))):=e6;have hlr:=zH e6;have z6:μ6[dz]?=some (.dcf (dkN (zXb kvs k))):=k6.at_ _ _ (by simp;exact hzm) e5;have d6:μ6[dl]?=some (.dcf (dkN kvs)):=k6.at_ _ _ (by simp;exact hdm) (k5.at_ _ _ (by simp;omega) (k4 _ _ d2));refine zF (zri (zah (zN (zq (zn (ze (zd rfl (zo (zwg (zM e6) (w_c (zln ⟨_,rfl,λ_=>?_,λhb=>?_⟩)))))))))))
    ·refine zah (zN (zq (zq (zq (zd rfl (w_c (zoe (zM e6) (show atI [pD (k,h)] 0=some (pD (k,h)) from rfl) (w_c (zoe rfl (show atI [D.int (k:Nat),D.int (h:Nat)] 0=some (.int (k:Nat)) from rfl) (zd rfl (zln ⟨_,rfl,λ_=>?_,λhb=>?_⟩)))))))))))
     ·refine zHe (zN (zn (ze (zd rfl (ze (zd rfl (ze (zn (ze (zq (zPs (zd rfl ⟨_,zUb z6,zd rfl (z2o zz (tq.app _ _ e6') ?_ ?_)⟩))))))))))))
      ·unfold zib;rw[length_map,length_map,z2h,z2h];simp;omega
      ·have ej:zib (dkN (zXb kvs k))++zib (dkN [(k,h)])=zib (dkN (zKc (zXb kvs k) [(k,h)])):=by
        rw[ep];unfold zib dkN;rw[<-map_append,<-map_append]
       rw[ej];have ndq:=zLh [(k,h)] _ ndp;refine zo (zNp (dkN (zKc (zXb kvs k) [(k,h)])) zz (by rw[z2h,ep];simp;omega) ?_);rw[zQo ndq];have k7:tq μ6 (((μ6++[tw.lst (zib (dkN (zXb kvs k)))])++[tw.lst (zib (dkN (zKc (zXb kvs k) [(k,h)])))])++[tw.dct (dkN (zKc (zXb kvs k) [(k,h)]))]):=tq.app.to.to;have e7:(((μ6++[tw.lst (zib (dkN (zXb kvs k)))])++[tw.lst (zib (dkN (zKc (zXb kvs k) [(k,h)])))])++[tw.dct (dkN (zKc (zXb kvs k) [(k,h)]))])[((μ6++[tw.lst (zib (dkN (zXb kvs k)))])++[tw.lst (zib (dkN (zKc (zXb kvs k) [(k,h)])))]).length]?=some (.dct (dkN (zKc (zXb kvs k) [(k,h)]))):=zz;have g7:μ6.length<=((μ6++[tw.lst (zib (dkN (zXb kvs k)))])++[tw.lst (zib (dkN (zKc (zXb kvs k) [(k,h)])))]).length:=(tq.app.to:tq μ6 ((μ6++[tw.lst (zib (dkN (zXb kvs k)))])++[tw.lst (zib (dkN (zKc (zXb kvs k) [(k,h)])))])).len;generalize ((μ6++[tw.lst (zib (dkN (zXb kvs k)))])++[tw.lst (zib (dkN (zKc (zXb kvs k) [(k,h)])))]).length=dy at e7 g7 ⊢;generalize ((μ6++[tw.lst (zib (dkN (zXb kvs k)))])++[tw.lst (zib (dkN (zKc (zXb kvs k) [(k,h)])))])++[tw.dct (dkN (zKc (zXb kvs k) [(k,h)]))]=μ7 at k7 e7 ⊢;have s7:=s6.keep k7;have hml6:m<μ6.length:=zH s6.dc;have hnl6:n<μ6.length:=zH s6.at_;have hdl6:dl<μ6.length:=zH d6;have hzl6:dz<μ6.length:=zH z6;refine zo (zdg s.rl s7 rs6 (List.Perm.refl _) (zK e7) (by omega) λμ8 k8 e8=>⟨_,rfl,λhb=>(by cases hb),λ_=>zPb ?_⟩);have s8:Sh μ8 n m (rlN R ts) (zKc (zXb kvs k) [(k,h)]):=s7.kb k8 (by simp;omega) (by simp;omega);have r8:=k8.at_ _ _ (by simp;omega) (k7 _ _ e6);have z8:=k8.at_ _ _ (by simp;omega) (k7 _ _ z6);have d8:=k8.at_ _ _ (by simp;omega) (k7 _ _ d6)
       have lk:(zKc (zXb kvs k) [(k,h)]).lookup k=some h:=by
        show(zqi (zXb kvs k) k h).lookup k=some h;rw[zdi,if_pos rfl]
       have k08:KB [m,dl] μ μ8:=by
        have a1:KB [m,dl] μ μ4:=k2.trans (KB.of_keep k4);have a2:KB [m,dl] μ μ5:=a1.step k5 λi hi =>.inr (by rw[List.mem_singleton.mp hi];exact yA k2.len g4);have a3:KB [m,dl] μ μ6:=a2.step k6 λi hi =>.inl (by rw[List.mem_singleton.mp hi];simp);have a4:KB [m,dl] μ μ7:=a3.trans (KB.of_keep k7);exact a4.step k8 λi hi =>.inr (by rw[List.mem_singleton.mp hi];exact yA a3.len g7)
       refine zJc (zGq (zq (z4l (zhc (zd rfl ⟨n,_,rfl,s8.at_,zCj _ m,ze (zd rfl (zo (WX.of (z6n s8 (λv e=>?_) λe=>?_))))⟩)))))
       ·rw[lk]at e;cases e;rw[eq];have s9:=s8.set (kvs':=zXb kvs k) ndp (by omega);have k9:KB [m,dl] μ (μ8.set m (.dct (dkN (zXb kvs k)))):=k08.set (.inl (by simp));have r9:(μ8.set m (.dct (dkN (zXb kvs k))))[lr]?=some (.lst ([(k,h)].map pD)):=zjb r8 (by rintro rfl;rw[s8.dc]at r8;cases r8);have z9:(μ8.set m (.dct (dkN (zXb kvs k))))[dz]?=some (.dcf (dkN (zXb kvs k))):=zjb z8 (by omega);have d9:(μ8.set m (.dct (dkN (zXb kvs k))))[dl]?=some (.dcf (dkN kvs)):=zjb d8 (by omega);generalize μ8.set m (.dct (dkN (zXb kvs k)))=μ9 at s9 k9 r9 z9 d9;refine zq (zq (zd rfl (w_c (zoe (zM r9) (show atI [pD (k,h)] 0=some (pD (k,h)) from rfl) (w_c (zoe rfl (show atI [D.int (k:Nat),D.int (h:Nat)] 1=some (.int (h:Nat)) from rfl) (z3g ⟨_,rfl,λ_=>?_,λhb=>?_⟩)))))))
        ·refine zn (ze (zd rfl (ze (zd rfl (ze (zd rfl (zo (zdg s.rl s9 rp (List.Perm.refl _) (zUb z9) hzm λμa ka ea=>?_))))))));refine q _ ⟨s.rl,s9.kb ka (by simp;omega) (by simp;omega),rp,bdp⟩ (k9.step ka λi hi =>.inr ?_) (ka.at_ _ _ (by simp;omega) d9);rw[List.mem_singleton.mp hi];exact yA k2.len g4
        ·simp at hb
       ·rw[lk]at e;cases e
     ·simp at hb
    ·simp at hb
 ·rw[hk]at e;cases e
end
structure T52(ns:List Int)(μ:Mem)(pl B n m dl:Nat)(R:List Nat)(ts kvs:List (Nat×Nat)):Prop where
 s:S55 μ n m R ts kvs
 p:tT ns μ pl B
 d:μ[dl]?=some (.dct (dkN kvs))
 dm:dl≠m
section
variable {ns:List Int}{μ μ':Mem}{pl B B' n m dl:Nat}{R:List Nat}{ts kvs:List (Nat×Nat)}{x0 x5 x6 x7:Option D}{nx:M.Loc->Mem->Prop}{rt:D->Mem->Prop}{bk ct:M.Loc->Mem->Prop}
def T52.ne(t:T52 ns μ pl B n m dl R ts kvs):pl≠n/\pl≠m/\pl≠dl:=by
 obtain⟨b,j,r,hj,e⟩:=t.p;refine⟨?_,?_,?_⟩
 ·rintro rfl;rw[t.s.sh.at_]at e;cases e
 ·rintro rfl;rw[t.s.sh.dc]at e;cases e
 ·rintro rfl;rw[t.d]at e;cases e
def T52.kb{L:List Nat}(t:T52 ns μ pl B n m dl R ts kvs)(k:KB L μ μ')(hL:∀x∈L,x=pl)(p:tT ns μ' pl B'):T52 ns μ' pl B' n m dl R ts kvs:=by
 obtain⟨h1,h2,h3⟩:=t.ne;have nn:∀x,pl≠x->x∉L:=λx hx hm=>hx (hL x hm).symm;exact⟨⟨t.s.rl,t.s.sh.kb k (nn _ h1) (nn _ h2),t.s.rs,t.s.bd⟩,p,k.at_ _ _ (nn _ h3) t.d,t.dm⟩
def T52.take(t:T52 ns μ pl B n m dl R ts kvs)(k:KB [pl] μ μ')(p:tT ns μ' pl B'):T52 ns μ' pl B' n m dl R ts kvs:=t.kb k (λx hx=>List.mem_singleton.mp hx) p
def T52.keep(t:T52 ns μ pl B n m dl R ts kvs)(k:tq μ μ'):T52 ns μ' pl B n m dl R ts kvs:=t.kb (L:=[]) (KB.of_keep k) (by simp) (t.p.keep k)
def T52.up(t:T52 ns μ pl B n m dl R ts kvs)(h:B<=B'):T52 ns μ pl B' n m dl R ts kvs:=⟨t.s,t.p.up h,t.d,t.dm⟩
def zRk:FS:=(sIf (zKf (zZ (zXl 4 (zx zdb (zi (zk 3) (zi (zk 2) (zi (zk 4) zL))))))) (zUc (fC (.bl false))) zCc)
def zap(t:T52 ns μ pl B n m dl R ts kvs)(q:∀μ',T52 ns μ' pl B n m dl R ts kvs->nx [x0,some (.loc pl),some (rlN R ts),some (.loc n),some (.loc dl),x5,x6,x7] μ'):WS zRk [x0,some (.loc pl),some (rlN R ts),some (.loc n),some (.loc dl),x5,x6,x7] μ nx rt bk ct:=by
 obtain⟨h1,h2,h3⟩:=t.ne;have hn:n≠dl:=t.s.sh.Sa (zK t.d);unfold zRk;refine zri (zHe (zN (zhr rfl t.d (zn (ze (zd rfl (ze (zd rfl (ze (zd rfl (zo (zdg t.s.rl t.s.sh t.s.rs (List.Perm.refl _) (zK t.d) t.dm λμ1 k1 e1=>?_))))))))))));rw[zfo e1];refine⟨_,rfl,λhb=>(by cases hb),λ_=>zPb (q _ ?_)⟩;have k2:KB [dl] μ (μ1.set dl (.dct (dkN kvs))):=k1.set (.inl (by simp));exact⟨⟨t.s.rl,t.s.sh.kb k2 (by simp;exact hn) (by simp;exact yM t.dm),t.s.rs,t.s.bd⟩,t.p.kb k2 (by simp;exact h3),zV e1,t.dm⟩
def zBo(t:T52 ns μ pl B n m dl R ts kvs)(hB:B<=10000)
 (q:∀(y6 y7:Option D)(dl':Nat)(kvs':List (Nat×Nat)) (μ':Mem),T52 ns μ' pl (B+10) n m dl' R ts kvs'->nx [x0,some (.loc pl),some (rlN R ts),some (.loc n),some (.loc dl'),x5,y6,y7] μ'):WS zJl [x0,some (.loc pl),some (rlN R ts),some (.loc n),some (.loc dl),x5,x6,x7] μ nx rt bk ct:=by
 obtain⟨S,K⟩:=Tc.ex t.s.sh.nd;have hf:=t.s.sh.few;have hl:=K.len;have hnd:=t.s.sh.Sa (zK t.d);have hlast:∀{dl':Nat} {kvs':List (Nat×Nat)} {μ':Mem} {y6 y7:Option D},T52 ns μ' pl (B+10) n m dl' R ts kvs'->WS zRk [x0,some (.loc pl),some (rlN R ts),some (.loc n),some (.loc dl'),x5,y6,y7] μ' nx rt bk ct:=λt'=>zap t' λμ2 t2=>q _ _ _ _ _ t2;unfold zJl;refine zF (zsb (zn (ze (zd rfl (ze (w_c (zo (zbc (s:=6) t.p (by omega) (by decide) (by decide) λv μ1 hv k1 p1=>?_))))))));have t1:=t.take k1 p1;refine zF (zsb (zn (ze (zd rfl (ze (zn (ze (zd rfl (zo (z8j (zK t1.d) K.pm K.pw (by omega) ?_))))))))));have t2:=t1.keep (μ':=μ1++[tw.lst (nat S)]) tq.app;have e2:(μ1++[tw.lst (nat S)])[μ1.length]?=some (.lst (nat S)):=zz;have ha:μ1.length≠pl:=by have:=t1.p.lt;omega
 generalize μ1++[tw.lst (nat S)]=μ2 at t2 e2 ⊢;generalize μ1.length=a at e2 ha ⊢;refine zo (zXq t2.p (by omega) e2 ha (by omega) (t2.s.key K) λk μ3 hk k3 p3=>?_);have t3:=t2.take k3 p3
 have third:∀{μ4:Mem},tq μ3 μ4->WS (sIf (zxn (zZ (zJ gEq (zk 6) (fC (.int 2)))) (zZ (zJ zwf (zk 7) (zk 4)))) (sIf (zKf (zZ (zx zLb (zi (zk 3) (zi (zk 7) zL))))) (zUc (fC (.bl false))) zCc) (zDc 4 (zx zkd (zi (zk 3) (zi (zk 4) (zi (zk 7) zL)))))) [x0,some (.loc pl),some (rlN R ts),some (.loc n),some (.loc dl),x5,some (.int (v:Nat)),some (.int (k:Nat))] μ4 (λδ' μ'=>WS zRk δ' μ' nx rt bk ct) rt bk ct:=λ{μ4} k4=>by
  have t4:=t3.keep k4
  have put:WS (zDc 4 (zx zkd (zi (zk 3) (zi (zk 4) (zi (zk 7) zL))))) [x0,some (.loc pl),some (rlN R ts),some (.loc n),some (.loc dl),x5,some (.int (v:Nat)),some (.int (k:Nat))] μ4 (λδ' μ'=>WS zRk δ' μ' nx rt bk ct) rt bk ct:=by
   refine zsb (zn (ze (zd rfl (ze (zd rfl (ze (zd rfl (zo (zft t4.s (zK t4.d) t4.dm hk λkvs' d' μ5 s5 k5 g5 e5=>?_)))))))));refine hlast ⟨s5,(t4.p.kb k5 (by simp;exact t4.ne.2.1)).up (by omega),e5,?_⟩;have:=zH t4.s.sh.dc;omega
  refine zri (zWm (zN (zq (zd rfl (w_c (z3g ⟨_,rfl,λ_=>?_,λ_=>⟨λhb=>(by cases hb),λ_=>put⟩⟩))))));refine zN (zq (zd rfl (zd rfl (zNm (zK t4.d) ⟨_,rfl,λhb=>?_,λ_=>put⟩))))
  have h0:kvs.lookup k=none:=by
   rw[zrc]at hb
   cases e:kvs.lookup k with
   |none=>rfl
   |some v=>rw[e]at hb;cases hb
  exact zri (zHe (zN (zn (ze (zd rfl (ze (zd rfl (zo (zOm t4.s.sh h0 ⟨_,rfl,λhb=>(by cases hb),λ_=>zPb (hlast (t4.up (by omega)))⟩)))))))))
 refine zF (zri (zWm (zN (zq (zd rfl (w_c (zbk ⟨_,rfl,λ_=>?_,λ_=>⟨λhb=>(by cases hb),λ_=>third .refl⟩⟩)))))));refine zN (zq (zd rfl (zSq (z6u (zK (tq.app _ _ t3.d)) (zK zz) ⟨_,rfl,λhb=>?_,λ_=>third tq.app⟩))))
 have hne:0<kvs.length:=by
  rcases Nat.eq_zero_or_pos kvs.length with h0|h0
  ·rw[List.length_eq_zero_iff.mp h0]at hb;cases hb
  ·exact h0
 have t4:=t3.keep (μ':=μ3++[tw.dct []]) tq.app;generalize μ3++[tw.dct []]=μ4 at t4 ⊢;refine zF (zsb (zq (zn (ze (zd rfl (zo (z8j (zK t4.d) K.pm K.pw (by omega) ?_)))))));have t5:=t4.keep (μ':=μ4++[tw.lst (nat S)]) tq.app;have e5:(μ4++[tw.lst (nat S)])[μ4.length]?=some (.lst (nat S)):=zz;have ha5:μ4.length≠pl:=by have:=t4.p.lt;omega
 generalize μ4++[tw.lst (nat S)]=μ5 at t5 e5 ⊢;generalize μ4.length=a5 at e5 ha5 ⊢;refine zn (ze (zd rfl (ze (zn (ze (zd rfl (zo (zDt (zK t5.d) (zo ?_)))))))));rw[z2h];refine zbc t5.p (by omega) hne (by omega) λw μ6 hw k6 p6=>?_;have t6:=t5.take k6 p6;have e6:=k6.at_ _ _ (So (yM ha5)) e5;refine zoe (zM e6) (zfh (by omega)) ?_
 have hmem:S.getD w 0∈S:=by
  rw[getD_eq_getElem?_getD,yG (by omega),Option.getD_some];exact getElem_mem _
 obtain⟨h0,hh0⟩:=K.look hmem;generalize S.getD w 0=x at hmem hh0 ⊢;refine zF (zri (zHe (zN (zhr rfl t6.d (zn (ze (zd rfl (ze (zd rfl (ze (zd rfl (ze (zd rfl (zo (zNs t6.s t6.d t6.dm hh0 (t6.s.key K x hmem) λμ7 s7 k7 d7=>?_)))))))))))))));rw[zfo d7];refine⟨_,rfl,λhb=>(by cases hb),λ_=>zPb ?_⟩;have k8:KB [dl] μ7 (μ7.set dl (.dct (dkN kvs))):=KB.refl.set (.inl (by simp));have d8:(μ7.set dl (.dct (dkN kvs)))[dl]?=some (.dct (dkN kvs)):=zV d7;have s8:Sh (μ7.set dl (.dct (dkN kvs))) n m (rlN R ts) (zXb kvs x):=s7.sh.kb k8 (by simp;exact hnd) (by simp;exact yM t.dm);have p8:tT ns (μ7.set dl (.dct (dkN kvs))) pl (B+10):=((t6.p.kb k7 (by simp;exact t6.ne.2)).set (yM t6.ne.2.2)).up (by omega);generalize μ7.set dl (.dct (dkN kvs))=μ8 at d8 s8 p8 ⊢;refine z6k (zbm (zd rfl ⟨dl,_,rfl,d8,ze (zd rfl (zo (zor d8 (by rw[zrc,hh0];rfl) ?_)))⟩));rw[zDp];refine hlast ⟨⟨t.s.rl,s8.kb (KB.refl.set (.inl (by simp)):KB [dl] μ8 _) (by simp;exact hnd) (by simp;exact yM t.dm),s7.rs,s7.bd⟩,p8.set (yM t6.ne.2.2),zV d8,t.dm⟩
end
def zAq(ns:List Int)(_hn:ns.length<=63):∃μ',zhn [.fz (ns.map .int)] []=some (.bl true,μ'):=by
 have main:WF zhn [.fz (ns.map .int)] [] λd _=>d=.bl true:=by
  refine zQc rfl ?_;show WS z7q [some (.fz (ns.map .int)),none,none,none,none,none,none,none] [] _ _ _ _;unfold z7q;refine zF (zsb (zn (ze (zd rfl (zo (z6s λμ1 k1 p1 _=>?_))))));generalize ([]:Mem).length=pl at p1;refine zF (zsb (zn (ze (zd rfl (zo (zMl p1 (by omega) λR ts μ2 hr k2 p2=>?_))))));refine zF (zsb (zEs (ze (zd rfl (zo ⟨_,rfl,λn m μ3 k3 _ _ _ hm s3=>?_⟩)))));refine zF (zsb (zSq ?_));have t4:T52 ns (μ3++[tw.dct []]) pl (0+30) n m μ3.length R ts []:=⟨⟨hr,s3.keep tq.app,⟨by simp,by simp⟩,by simp⟩,(p2.keep k3).app,zz,by omega⟩
  generalize μ3++[tw.dct []]=μ4 at t4 ⊢;generalize μ3.length=dl at t4 ⊢;refine zF (zgi (zmi (ze (zn (ze (zd rfl (ze (w_c (zo (zbc (s:=31) t4.p (by omega) (by decide) (by decide) λv μ5 hv k5 p5=>zo ⟨_,rfl,by omega,by omega,?_⟩))))))))));rw[YK];have t5:=t4.take k5 p5;refine zUd (λi δ μ=>∃(x5 x6 x7:Option D)(dl:Nat)(kvs:List (Nat×Nat)),δ=[some (.fz (ns.map .int)),some (.loc pl),some (rlN R ts),some (.loc n),some (.loc dl),x5,x6,x7]/\T52 ns μ pl (31+10*i) n m dl R ts kvs) ⟨_,_,_,_,_,rfl,t5⟩ (λ_ _ _ _=>rfl) ?_ ?_
  ·rintro i x δ μ hx ⟨x5,x6,x7,dl,kvs,rfl,t⟩;obtain⟨hi,rfl⟩:=zkh hx;refine zPf ?_;exact zBo t (by omega) λy6 y7 dl' kvs' μ' t'=>⟨_,_,_,_,_,rfl,t'⟩
  ·rintro δ μ ⟨x5,x6,x7,dl,kvs,rfl,t⟩;exact zJc (w_c rfl)
 obtain⟨d,μ',e,rfl⟩:=main;exact⟨μ',e⟩
end P
namespace P
open PySem PySem.Spec PyProof.Rows L2 M
set_option maxHeartbeats 4000000
def ln1{α:Type}:∀{us:List α},us.length=1->∃a0,us=[a0]
 |[a0],_=>⟨a0,rfl⟩
def fa1{K:yt}{mg:yr->Option Value}{h:yR}{x p0:yr}{st:yX}{f:yb}{fd:yj}(X:K.In h)(G:h.Ns yi mg)(a:yW K yi x=some (some (.ref f)))(u:Fun K x x st f fd)
 (b:∀(kV doc pm:Value)(an:Option yb)(cdv ct a0:Value),bindArgs (W.fnOf x x (z7c st) (zyc st) (zp st) .none kV doc pm an cdv ct) ⟨[a0],[]⟩=pure [(p0,a0)]):FnAt K mg x st [p0] f fd :=
 ⟨u,xc X G a,u.binds λkV doc pm an cdv ct us hl=>by obtain⟨a0,rfl⟩:=ln1 hl;exact b kV doc pm an cdv ct a0⟩
def ln2{α:Type}:∀{us:List α},us.length=2->∃a0 a1,us=[a0,a1]
 |[a0,a1],_=>⟨a0,a1,rfl⟩
def fa2{K:yt}{mg:yr->Option Value}{h:yR}{x p0 p1:yr}{st:yX}{f:yb}{fd:yj}(X:K.In h)(G:h.Ns yi mg)(a:yW K yi x=some (some (.ref f)))(u:Fun K x x st f fd)
 (b:∀(kV doc pm:Value)(an:Option yb)(cdv ct a0 a1:Value),bindArgs (W.fnOf x x (z7c st) (zyc st) (zp st) .none kV doc pm an cdv ct) ⟨[a0,a1],[]⟩=pure [(p0,a0),(p1,a1)]):FnAt K mg x st [p0,p1] f fd :=
 ⟨u,xc X G a,u.binds λkV doc pm an cdv ct us hl=>by obtain⟨a0,a1,rfl⟩:=ln2 hl;exact b kV doc pm an cdv ct a0 a1⟩
def ln3{α:Type}:∀{us:List α},us.length=3->∃a0 a1 a2,us=[a0,a1,a2]
 |[a0,a1,a2],_=>⟨a0,a1,a2,rfl⟩
def fa3{K:yt}{mg:yr->Option Value}{h:yR}{x p0 p1 p2:yr}{st:yX}{f:yb}{fd:yj}(X:K.In h)(G:h.Ns yi mg)(a:yW K yi x=some (some (.ref f)))(u:Fun K x x st f fd)
 (b:∀(kV doc pm:Value)(an:Option yb)(cdv ct a0 a1 a2:Value),bindArgs (W.fnOf x x (z7c st) (zyc st) (zp st) .none kV doc pm an cdv ct) ⟨[a0,a1,a2],[]⟩=pure [(p0,a0),(p1,a1),(p2,a2)]):FnAt K mg x st [p0,p1,p2] f fd :=
 ⟨u,xc X G a,u.binds λkV doc pm an cdv ct us hl=>by obtain⟨a0,a1,a2,rfl⟩:=ln3 hl;exact b kV doc pm an cdv ct a0 a1 a2⟩
def ln4{α:Type}:∀{us:List α},us.length=4->∃a0 a1 a2 a3,us=[a0,a1,a2,a3]
 |[a0,a1,a2,a3],_=>⟨a0,a1,a2,a3,rfl⟩
def fa4{K:yt}{mg:yr->Option Value}{h:yR}{x p0 p1 p2 p3:yr}{st:yX}{f:yb}{fd:yj}(X:K.In h)(G:h.Ns yi mg)(a:yW K yi x=some (some (.ref f)))(u:Fun K x x st f fd)
 (b:∀(kV doc pm:Value)(an:Option yb)(cdv ct a0 a1 a2 a3:Value),bindArgs (W.fnOf x x (z7c st) (zyc st) (zp st) .none kV doc pm an cdv ct) ⟨[a0,a1,a2,a3],[]⟩=pure [(p0,a0),(p1,a1),(p2,a2),(p3,a3)]):FnAt K mg x st [p0,p1,p2,p3] f fd :=
 ⟨u,xc X G a,u.binds λkV doc pm an cdv ct us hl=>by obtain⟨a0,a1,a2,a3,rfl⟩:=ln4 hl;exact b kV doc pm an cdv ct a0 a1 a2 a3⟩
def all_of{l:W.OpenLaw}{w:yI}{K:yt}{h:yR}{mg:yr->Option Value}{fa:yb}(X:K.In h)(G:h.Ns yi mg)(hfa:mg "law"=some (.ref fa))(e:Hd.obs K=Hd.good)
 : ∃fd:yj,(∀(s:yd)(v:Value),BindsTo s fd ⟨[v],[]⟩ [("_law_script",v)])/\∀base:yR,K.In base->base.Ns yi mg->tu l.prog w K mg base CX0 6 fa fd ["_law_script"] (spM K 1 zhn):=by
 have e_fn:=congrArg (·.1) e;have e_vv:=congrArg (·.2.1) e;have e_it:=congrArg (·.2.2.1) e;have e_bb:=congrArg (·.2.2.2.1) e;have e_ob:=congrArg (·.2.2.2.2.1) e;have e_ov:=congrArg (·.2.2.2.2.2.1) e;have e_cf:=congrArg (·.2.2.2.2.2.2.1) e;have e_ex:=congrArg (·.2.2.2.2.2.2.2) e;obtain⟨⟨_,_,a0,u0⟩,e_fn⟩:=fnc e_fn;have zef:FnAt K mg "_law_pen" zdf zSc _ _:=fa1 X G a0 u0 λ_ _ _ _ _ _ _=>rfl;obtain⟨⟨_,_,a1,u1⟩,e_fn⟩:=fnc e_fn;have zyd:FnAt K mg "_law_mixed" zBd z6b _ _:=fa2 X G a1 u1 λ_ _ _ _ _ _ _ _=>rfl;obtain⟨⟨_,_,a2,u2⟩,e_fn⟩:=fnc e_fn;have zG:FnAt K mg "_law_take" zPc zmb _ _:=fa2 X G a2 u2 λ_ _ _ _ _ _ _ _=>rfl;obtain⟨⟨_,_,a3,u3⟩,e_fn⟩:=fnc e_fn;have z8d:FnAt K mg "_law_rule" zhe zAc _ _:=fa1 X G a3 u3 λ_ _ _ _ _ _ _=>rfl;obtain⟨pn_Shelf,e_vv⟩:=yc e_vv;obtain⟨pg_Shelf,e_bb⟩:=yc e_bb;obtain⟨ph_Shelf,e_bb⟩:=yc e_bb;obtain⟨po_Shelf,e_bb⟩:=yc e_bb;obtain⟨ps0_Shelf,e_vv⟩:=yc e_vv;have cl_Shelf:Cls K 197:=⟨pg_Shelf,ph_Shelf,po_Shelf,ps0_Shelf⟩
 obtain⟨na,e_vv⟩:=yc e_vv;have tD:zGn K "Shelf" "nest_of":=λC h=>by rw[pn_Shelf]at h;cases h;exact⟨cl_Shelf,na⟩
 obtain⟨na,e_vv⟩:=yc e_vv;have tJ:zGn K "Shelf" "kept_rule":=λC h=>by rw[pn_Shelf]at h;cases h;exact⟨cl_Shelf,na⟩
 obtain⟨ma,e_vv⟩:=yc e_vv;obtain⟨mb,e_bb⟩:=yc e_bb;obtain⟨_,_,_,_,_,_,_,_,_,ml,mc,mk⟩:=zqc (yc e_fn).1;replace e_fn:=(yc e_fn).2;have u4:=zGd (st:=zQb) ml mc mk;obtain⟨mm,e_bb⟩:=yc e_bb;obtain⟨mq,e_bb⟩:=yc e_bb;have zsc:sC K mg "Shelf" zQb zbb _ _ _:=⟨pn_Shelf,xc X G pn_Shelf,⟨mm,ma,mb,mq⟩,u4,(u4.binds (ps:=zbb) λ_ _ _ _ _ _ us hl=>by obtain⟨_,_,rfl⟩:=ln2 hl;rfl)⟩
 obtain⟨⟨_,_,a5,u5⟩,e_fn⟩:=fnc e_fn;have zbf:FnAt K mg "_law_key" z9e zLc _ _:=fa2 X G a5 u5 λ_ _ _ _ _ _ _ _=>rfl;obtain⟨⟨_,_,a6,u6⟩,e_fn⟩:=fnc e_fn;have z8b:FnAt K mg "_law_wholes" zcd zTb _ _:=fa2 X G a6 u6 λ_ _ _ _ _ _ _ _=>rfl;obtain⟨⟨_,_,a7,u7⟩,e_fn⟩:=fnc e_fn;have Tu:FnAt K mg "left" zMk zWe _ _:=fa2 X G a7 u7 λ_ _ _ _ _ _ _ _=>rfl;obtain⟨⟨_,_,a8,u8⟩,e_fn⟩:=fnc e_fn;have zIj:FnAt K mg "homes" z1j zgf _ _:=fa2 X G a8 u8 λ_ _ _ _ _ _ _ _=>rfl;obtain⟨⟨_,_,a9,u9⟩,e_fn⟩:=fnc e_fn;have z7d:FnAt K mg "web_of" z3f z2c _ _:=fa2 X G a9 u9 λ_ _ _ _ _ _ _ _=>rfl;obtain⟨ma,e_vv⟩:=yc e_vv;obtain⟨mb,e_bb⟩:=yc e_bb;obtain⟨_,_,_,_,_,_,_,_,_,ml,mc,mk⟩:=zqc (yc e_fn).1;replace e_fn:=(yc e_fn).2;have u10:=zGd (st:=zO) ml mc mk;have zy:MethAt K "Shelf" "all_there" "Shelf.all_there" zO zu _ _ _:=⟨pn_Shelf,cl_Shelf,⟨ma,mb,mk⟩,u10,(u10.binds (ps:=zu) λ_ _ _ _ _ _ us hl=>by obtain⟨_,rfl⟩:=ln1 hl;rfl)⟩
 obtain⟨ma,e_vv⟩:=yc e_vv;obtain⟨mb,e_bb⟩:=yc e_bb;obtain⟨_,_,_,_,_,_,_,_,_,ml,mc,mk⟩:=zqc (yc e_fn).1;replace e_fn:=(yc e_fn).2;have u11:=zGd (st:=zSb) ml mc mk;have zxb:MethAt K "Shelf" "laying" "Shelf.laying" zSb zY _ _ _:=⟨pn_Shelf,cl_Shelf,⟨ma,mb,mk⟩,u11,(u11.binds (ps:=zY) λ_ _ _ _ _ _ us hl=>by obtain⟨_,rfl⟩:=ln1 hl;rfl)⟩
 obtain⟨ma,e_vv⟩:=yc e_vv;obtain⟨mb,e_bb⟩:=yc e_bb;obtain⟨_,_,_,_,_,_,_,_,_,ml,mc,mk⟩:=zqc (yc e_fn).1;replace e_fn:=(yc e_fn).2;have u12:=zGd (st:=z1c) ml mc mk;have zAd:MethAt K "Shelf" "left" "Shelf.left" z1c zHb _ _ _:=⟨pn_Shelf,cl_Shelf,⟨ma,mb,mk⟩,u12,(u12.binds (ps:=zHb) λ_ _ _ _ _ _ us hl=>by obtain⟨_,rfl⟩:=ln1 hl;rfl)⟩
 obtain⟨ma,e_vv⟩:=yc e_vv;obtain⟨mb,e_bb⟩:=yc e_bb;obtain⟨_,_,_,_,_,_,_,_,_,ml,mc,mk⟩:=zqc (yc e_fn).1;replace e_fn:=(yc e_fn).2;have u13:=zGd (st:=zZc) ml mc mk;have zOd:MethAt K "Shelf" "rule" "Shelf.rule" zZc zIb _ _ _:=⟨pn_Shelf,cl_Shelf,⟨ma,mb,mk⟩,u13,(u13.binds (ps:=zIb) λ_ _ _ _ _ _ us hl=>by obtain⟨_,rfl⟩:=ln1 hl;rfl)⟩
 obtain⟨ma,e_vv⟩:=yc e_vv;obtain⟨mb,e_bb⟩:=yc e_bb;obtain⟨_,_,_,_,_,_,_,_,_,ml,mc,mk⟩:=zqc (yc e_fn).1;replace e_fn:=(yc e_fn).2;have u14:=zGd (st:=z5b) ml mc mk;have zab:MethAt K "Shelf" "has" "Shelf.has" z5b zW _ _ _:=⟨pn_Shelf,cl_Shelf,⟨ma,mb,mk⟩,u14,(u14.binds (ps:=zW) λ_ _ _ _ _ _ us hl=>by obtain⟨_,_,rfl⟩:=ln2 hl;rfl)⟩
 obtain⟨ma,e_vv⟩:=yc e_vv;obtain⟨mb,e_bb⟩:=yc e_bb;obtain⟨_,_,_,_,_,_,_,_,_,ml,mc,mk⟩:=zqc (yc e_fn).1;replace e_fn:=(yc e_fn).2;have u15:=zGd (st:=z7b) ml mc mk;have zJb:MethAt K "Shelf" "where" "Shelf.where" z7b zcb _ _ _:=⟨pn_Shelf,cl_Shelf,⟨ma,mb,mk⟩,u15,(u15.binds (ps:=zcb) λ_ _ _ _ _ _ us hl=>by obtain⟨_,_,rfl⟩:=ln2 hl;rfl)⟩
 obtain⟨⟨_,_,a16,u16⟩,e_fn⟩:=fnc e_fn;have zCd:FnAt K mg "_law_homes" zwd z9b _ _:=fa2 X G a16 u16 λ_ _ _ _ _ _ _ _=>rfl;obtain⟨ma,e_vv⟩:=yc e_vv;obtain⟨mb,e_bb⟩:=yc e_bb;obtain⟨_,_,_,_,_,_,_,_,_,ml,mc,mk⟩:=zqc (yc e_fn).1;replace e_fn:=(yc e_fn).2;have u17:=zGd (st:=z3c) ml mc mk;have zHd:MethAt K "Shelf" "nest" "Shelf.nest" z3c zKb _ _ _:=⟨pn_Shelf,cl_Shelf,⟨ma,mb,mk⟩,u17,(u17.binds (ps:=zKb) λ_ _ _ _ _ _ us hl=>by obtain⟨_,_,rfl⟩:=ln2 hl;rfl)⟩
 obtain⟨⟨_,_,a18,u18⟩,e_fn⟩:=fnc e_fn;have zeb:FnAt K mg "_law_is_kept" zgc zfb _ _:=fa3 X G a18 u18 λ_ _ _ _ _ _ _ _ _=>rfl;obtain⟨ma,e_vv⟩:=yc e_vv;obtain⟨mb,e_bb⟩:=yc e_bb;obtain⟨_,_,_,_,_,_,_,_,_,ml,mc,mk⟩:=zqc (yc e_fn).1;replace e_fn:=(yc e_fn).2;have u19:=zGd (st:=zNc) ml mc mk;have z0b:MethAt K "Shelf" "out" "Shelf.out" zNc ztb _ _ _:=⟨pn_Shelf,cl_Shelf,⟨ma,mb,mk⟩,u19,(u19.binds (ps:=ztb) λ_ _ _ _ _ _ us hl=>by obtain⟨_,_,rfl⟩:=ln2 hl;rfl)⟩
 obtain⟨⟨_,_,a20,u20⟩,e_fn⟩:=fnc e_fn;have zNj:FnAt K mg "lying" z0j zff _ _:=fa2 X G a20 u20 λ_ _ _ _ _ _ _ _=>rfl;obtain⟨⟨_,_,a21,u21⟩,e_fn⟩:=fnc e_fn;have zce:FnAt K mg "pushes_to" zme zzc _ _:=fa3 X G a21 u21 λ_ _ _ _ _ _ _ _ _=>rfl;obtain⟨⟨_,_,a22,u22⟩,e_fn⟩:=fnc e_fn;have zgh:FnAt K mg "row_to" zvh z6d _ _:=fa2 X G a22 u22 λ_ _ _ _ _ _ _ _=>rfl;obtain⟨⟨_,_,a23,u23⟩,e_fn⟩:=fnc e_fn;have zih:FnAt K mg "put_in" zph zXd _ _:=fa3 X G a23 u23 λ_ _ _ _ _ _ _ _ _=>rfl;obtain⟨ma,e_vv⟩:=yc e_vv;obtain⟨mb,e_bb⟩:=yc e_bb;obtain⟨_,_,_,_,_,_,_,_,_,ml,mc,mk⟩:=zqc (yc e_fn).1;replace e_fn:=(yc e_fn).2;have u24:=zGd (st:=zVc) ml mc mk;have zwc:MethAt K "Shelf" "put" "Shelf.put" zVc zub _ _ _:=⟨pn_Shelf,cl_Shelf,⟨ma,mb,mk⟩,u24,(u24.binds (ps:=zub) λ_ _ _ _ _ _ us hl=>by obtain⟨_,_,rfl⟩:=ln2 hl;rfl)⟩
 obtain⟨⟨_,_,a25,u25⟩,e_fn⟩:=fnc e_fn;have zGb:FnAt K mg "_law_no_key" zIc zkb _ _:=fa2 X G a25 u25 λ_ _ _ _ _ _ _ _=>rfl;obtain⟨⟨_,_,a26,u26⟩,e_fn⟩:=fnc e_fn;have z3e:FnAt K mg "_law_out" z5e zTc _ _:=fa4 X G a26 u26 λ_ _ _ _ _ _ _ _ _ _=>rfl;obtain⟨⟨_,_,a27,u27⟩,e_fn⟩:=fnc e_fn;have zhf:FnAt K mg "_law_put" zYe zRc _ _:=fa3 X G a27 u27 λ_ _ _ _ _ _ _ _ _=>rfl;obtain⟨⟨f28,oc28,od28,sl28,kV28,dc28,pm28,an28,cd28,ct28,a28,l28,c28,k28⟩,e_fn⟩:=fnl e_fn;have u28:=zGd (st:=zGl) l28 c28 k28;have zpv:FnAt K mg "law" zGl zrm _ _:=fa1 X G a28 u28 λ_ _ _ _ _ _ _=>rfl;have e:=hfa.symm.trans (xc X G a28);cases e;obtain⟨za,e_vv⟩:=yc e_vv;obtain⟨zc,e_vv⟩:=yc e_vv;have tZ:mg "left_layings"=mg "left":=(xc X G za).trans (xc X G zc).symm;obtain⟨zDu,e_vv⟩:=yc e_vv;obtain⟨zeu,e_vv⟩:=yc e_vv;obtain⟨zzl,e_vv⟩:=yc e_vv;obtain⟨zDv,e_vv⟩:=yc e_vv;obtain⟨zgl,e_vv⟩:=yc e_vv;obtain⟨zGv,e_vv⟩:=yc e_vv;obtain⟨zWt,e_vv⟩:=yc e_vv;obtain⟨z7r,e_vv⟩:=yc e_vv;obtain⟨zrn,e_vv⟩:=yc e_vv;obtain⟨zEq,e_vv⟩:=yc e_vv;obtain⟨zJs,e_vv⟩:=yc e_vv;obtain⟨t_DIVISOR,v_DIVISOR⟩:=zCk (yc e_it).1;replace e_it:=(yc e_it).2;obtain⟨t_MOST_KEYS,v_MOST_KEYS⟩:=zCk (yc e_it).1;replace e_it:=(yc e_it).2;obtain⟨zde,e_vv⟩:=yc e_vv;obtain⟨zhh,e_bb⟩:=yc e_bb;obtain⟨zFf,e_vv⟩:=yc e_vv;obtain⟨zdk,e_bb⟩:=yc e_bb;obtain⟨zUe,e_vv⟩:=yc e_vv;obtain⟨zvk,e_bb⟩:=yc e_bb;obtain⟨zae,e_vv⟩:=yc e_vv;obtain⟨zmh,e_bb⟩:=yc e_bb;obtain⟨xe_NoKey,e_bb⟩:=yc e_bb;obtain⟨zMi,e_ob⟩:=yc e_ob;obtain⟨z5j,e_ob⟩:=yc e_ob;obtain⟨zvi,e_ob⟩:=yc e_ob;obtain⟨xe_Twice,e_bb⟩:=yc e_bb;obtain⟨zGi,e_ob⟩:=yc e_ob;obtain⟨zWj,e_ob⟩:=yc e_ob;obtain⟨zDi,e_ob⟩:=yc e_ob;obtain⟨zMj,e_ob⟩:=yc e_ob;obtain⟨zmk,e_ob⟩:=yc e_ob;obtain⟨zTj,e_ob⟩:=yc e_ob;obtain⟨i4,e_bb⟩:=yc e_bb;obtain⟨i7,e_vv⟩:=yc e_vv;obtain⟨i8,e_bb⟩:=yc e_bb;obtain⟨i9,e_cf⟩:=yc e_cf;obtain⟨_,_,_,_,_,_,_,_,_,_,_,_,_,_,zVr⟩:=z0p (yc e_ex).1;replace e_ex:=(yc e_ex).2;obtain⟨zNr,e_vv⟩:=yc e_vv;obtain⟨zys,e_ov⟩:=yc e_ov;obtain⟨zss,e_vv⟩:=yc e_vv;obtain⟨z8s,e_vv⟩:=yc e_vv;obtain⟨zKv,e_bb⟩:=yc e_bb;obtain⟨_,_,_,_,_,_,_,_,_,zeo,z7n,zQp⟩:=zqc (yc e_fn).1;replace e_fn:=(yc e_fn).2;have T:Txt K mg:=⟨⟨56,zde,xc X G zde,zhh⟩,⟨75,zFf,xc X G zFf,zdk⟩,⟨31,zUe,xc X G zUe,zvk⟩,⟨44,zae,xc X G zae,zmh⟩,(λC h=>by rw[zde]at h;cases h;exact xe_NoKey),(λC h=>by rw[zae]at h;cases h;exact xe_Twice),(λC h=>by rw[zde]at h;cases h;exact(Tn.cons zde zhh zMi (Tn.cons zae zmh zGi (Tn.cons zFf zdk zMj Tn.nil)))),(λC h=>by rw[zFf]at h;cases h;exact(Tn.cons zde zhh z5j (Tn.cons zae zmh zWj (Tn.cons zFf zdk zmk Tn.nil)))),(λC h=>by rw[zae]at h;cases h;exact(Tn.cons zde zhh zvi (Tn.cons zae zmh zDi (Tn.cons zFf zdk zTj Tn.nil)))),tD,tJ,tZ,YG X G zDu,YG X G zeu,YG X G zzl,YG X G zDv,YG X G zgl,YG X G zGv,YG X G zWt,YG X G z7r,YG X G zrn,YG X G zEq,YG X G zJs,⟨t_DIVISOR,xc X G v_DIVISOR⟩,⟨t_MOST_KEYS,xc X G v_MOST_KEYS⟩⟩
 refine⟨W.fnOf "law" "law" (z7c zGl) (zyc zGl) (zp zGl) .none kV28 dc28 pm28 an28 cd28 ct28,λs v =>.of_eq rfl,λbase _ _=>?_⟩;have tN:Sj K mg "Full" "some" "Full.__init__" zOc zEb _ _ _ _:=⟨zFf,xc X G zUe,⟨⟨_,_,_,_,_,_,_,_,_,_,_,_,_,_,zVr⟩,zNr,zys,i4,zss,z8s,i7,i8,i9⟩,(zGd (st:=zOc) zeo z7n zQp),(zGd (st:=zOc) zeo z7n zQp).binds (ps:=zEb) λ_ _ _ _ _ _ us hl=>by obtain⟨_,_,rfl⟩:=ln2 hl;rfl⟩
 have Tg:=zvj (P:=l.prog) (w:=w) (base:=base) T tN;have zJf:=zPk (P:=l.prog) (w:=w) (base:=base) T zef;have zAe:=zCi (P:=l.prog) (w:=w) (base:=base) T zyd;have zD:=zyj T zyd zAe zG;have zOe:=ztj T zG zD z8d;have zMc:=zYf (P:=l.prog) (w:=w) (base:=base) T zsc;have zDf:=zbl T zG zD zbf;have zmc:=zyh (P:=l.prog) (w:=w) (base:=base) T z8b;have zEg:=zXp (P:=l.prog) (w:=w) (base:=base) T Tu;have zKj:=zIo (P:=l.prog) (w:=w) (base:=base) T zIj;have z2d:=zvn T zIj zKj z7d;have zw:=zxf (P:=l.prog) (w:=w) (base:=base) T zy;have zBb:=z8g T zy zw zxb;have zje:=zHi T Tu zEg z7d z2d zxb zBb zy zw zAd;have zie:=zFi (P:=l.prog) (w:=w) (base:=base) T zOd;have z5:=zuj (P:=l.prog) (w:=w) (base:=base) T zab;have zRb:=zQh (P:=l.prog) (w:=w) (base:=base) T zJb;have zxe:=zyi (P:=l.prog) (w:=w) (base:=base) T zCd;have zBe:=zJi T zy zw zHd;have zgb:=z7g T z8b zmc zAd zje zOd zie zy zw zab z5 zJb zRb zCd zxe zHd zBe zeb;have z3b:=zwj T zab z5 z0b;have z6j:=z0n (P:=l.prog) (w:=w) (base:=base) T zNj;have zQe:=zOj T zNj z6j zce;have zBh:=zNn (P:=l.prog) (w:=w) (base:=base) T zgh;have zZh:=zpn T zce zQe Tu zEg zgh zBh zih;have zBc:=zZj T zab z5 zih zZh zy zw z7d z2d zxb zBb tN Tg zwc;have zVb:=zIh T z0b z3b zab z5 zJb zRb zGb;have zBf:=zxk T z0b z3b zwc zBc zeb zgb zGb zVb z3e;have zEf:=zNk T zwc zBc zhf;exact zYs T zef zJf z8d zOe zsc zMc zG zD zbf zDf zeb zgb z3e zBf zhf zEf zGb zVb zpv
def walk{l:W.OpenLaw}{q:yu}{loose:List yr}{XP:(yr->Option Value)->yR->Prop}{YP:yI->yR->Prop}{d:DefRec}{K:Params->yt}(hn:l.most=some 63)(hdf:d.params.defaults=[])
 (hY:∀(w:yI)(h:yR),YP w h->(K w.params).In h)
 (F:∀(w:yI)(mg:yr->Option Value)(fa:yb)(h:yR),(K w.params).In h->h.Ns yi mg->mg d.name=some (.ref fa) ->
  ∃fd:yj,(∀(s:yd)(u:Value),BindsTo s fd ⟨[u],[]⟩ [("_law_script",u)])/\∀base:yR,(K w.params).In base->base.Ns yi mg->tu l.prog w (K w.params) mg base CX0 6 fa fd ["_law_script"] (spM (K w.params) 1 zhn)) :
 W.WalkO q loose XP YP l.row.toRowW d [] (λf vs=>PySem.call f vs) :=
 L2.walk_of (n:=63) (k:=6) (x:="_law_script") (CX:=λ_=>CX0) (sp:=λw=>spM (K w.params) 1 zhn) hn (by decide) hdf (by first|exact⟨rfl,by decide,by decide,rfl⟩|exact⟨rfl,by decide,by decide⟩) hY F (λ_ _ a ns hl hO hS=>zqu (zAq ns hl) hO hS) λ_ _ _ _ _ z=>z
end P
open PySem PySem.W PyProof.Rows
set_option maxRecDepth 100000 in
set_option maxHeartbeats 0 in
theorem PySem.Challenge.cw_keynests_k52_keys_taken_out_holds : PySem.Challenge.rw_keynests_k52_keys_taken_out.Holds := by
 refine M.Sm (l:=xj) (q:=Hd.qv) (loose:=Hd.lse) (d:=Hd.dl) (obs:=Hd.obs) (good:=Hd.good) (N:=60000) Hd.hd1 Hd.hd2 Hd.hd3 Hd.hd4 Hd.hd5 Hd.hd6 Hd.hd7 ?hw λK e=>?_
 case hw=>w_witness2
 exact P.walk (l:=xj) (K:=λ_=>K) (by rfl) (by rfl) (λw h Y=>Y) λw mg fa h KX G hmg=>P.all_of KX G hmg e
