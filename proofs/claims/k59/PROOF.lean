import PyProof.Rows.All
import Wide.All
import OpenK.AllK
import Wide.FinOn
import Lean
import PyProof.EqAt
import PyProof.EqKinds
import PyProof.TupleCall
import OpenK.KRaise
import PySem.SetOps
import PyProof.SetKind
import PyProof.DictStraight
import PyProof.CollectWalk
import PyProof.Seq
import PyProof.Walks
import PyProof.FactsAll.set
import PyProof.Rows.SortShell
import PyProof.Rows.SortWalk
import PyProof.Rows.SetFrom
import PyProof.SumAny
import PyProof.ListRange
import PyProof.EnumMake
import KE.KDictList
import KE.KRevIter
import KE.BitLaws
import PyProof.Rows.MinMaxN
import PyProof.DictDisplay
import KE.KRevSl
import PyProof.PureInt
import KE.KSortAsk
import PyProof.FactsAll.list_2
import KE.KEqDict
import PySem.Challenge.RW_keynests_k59_whole_carried_along
set_option autoImplicit false
open List (all_cons all_eq_true all_map any_cons any_eq_true any_map append_assoc countP_cons count_cons drop_eq_getElem_cons ext_getElem ext_getElem? filterMap_cons filter_congr filter_sublist flatten_cons getD_eq_getElem?_getD getElem_mem length_append length_cons length_drop length_map length_range length_singleton length_take lookup_cons mapM_cons map_append map_congr_left map_cons map_map mem_append mem_append_left mem_append_right mem_cons mem_cons_of_mem mem_cons_self mem_filter mem_map mem_of_getElem? mem_range mergeSort_perm nodup_append nodup_range not_mem_nil pairwise_map perm_ext_iff_of_nodup replicate_succ size_toArray sum_cons take_append_drop take_length take_succ)
set_option maxRecDepth 100000
set_option linter.all false
set_option Elab.async false
open PySem renaming wpAny_bind→ya,Value→yb,Shared→yc,wpAny_pure→yf,Addr→yg,FuncData→yk,wpAny→yo,starEach→yr,model→yx,Program→yy,mainGlobals→yB,Expr→yD,sizeLine→yE,Str→yF,World→yH,bootBuiltins→yI,Around→yN,wpAny_holding→yP,wpAny_call_entry→yQ,wpAny_newObj_type→yT,mem_of_lookup→yV,wpAny_callSpecial?_slot→yW,sizeLine_eq→yY,Heap→Yb,Stmt→Yg,compareOp→Yh,cellsFrom→Yi,assignEach→Ym,eval→Yt,rawInt→YF,attributeBase→YI,wpAny_truthy_bool→YJ,foldedSetIterable→YK,wpAny_setState_of→YM,wpAny_field→YO,wpAny_ite_split→YR,codeAny_builtin→YS,wpAny_mono→YU,Builtin→YY,backTo→YZ,NameKind→xa,Obj→xb,wpAny_loadPart'→xc,wpAny_specialOf→xf,binaryOp→xl,SetTable→xm,wpAny_passesOwn→xq,wpAny_pyIter_list→xt,codeAny_mono→xu,wpAny_typeOf→xv,call_meets→xw,plainId_quiet→xy,Keyword→xD,wpAny_setEntries_of→xE,wpAny_setField→xI,wpAny_Call_Name_kw→xL,wpAny_setField_rec→xM,builtinLookup_eq_fast→xS,Scope→xU,Pos→xV,pyNext→xY,keywordEach→xZ,PyData→Xa
open List renaming getElem?_eq_getElem→yd,getElem?_map→yh,range→yi,replicate→yu,getElem?_append_left→yw,getElem?_eq_none→yK,getElem?_append_right→yL,getElem?_range→yZ,getElem?_set_ne→Yk,getElem?_replicate→Yw,getElem?_set_self→Yz,take_of_length_le→xi,eraseIdx_cons_succ→xG,length_replicate→xQ
open PySem.Heap renaming get?_push_of_some→ye,lt_size→ym,get?_push_size→yn,get?_update_self→Yd,SameBut→Yj,size_push→Yr,get?_update_other→xh,ExtBut→Xd
open Nat renaming le_refl→yj,ne_of_lt→yt,le_trans→yA,lt_of_lt_of_le→yC,zero_le→yR,lt_succ_of_lt→yX,ne_of_gt→Yc,lt_irrefl→Ye,lt_succ_self→YA,le_of_lt→YD,le_succ→xJ,add_le_add_right→Xe
open Option renaming bind_some→yp,map_some→xr
open PySem.NameKind renaming free→yq,cell→yM
open Bool renaming false_ne_true→yv,and_eq_true→yG,false_eq_true→YV
open PySem.W renaming Frag→yz,mg_none_of→YN,nsIn→xF
open Int renaming toNat_natCast→yJ,emod_lt_of_pos→xO
open Sum renaming inl→yO
open Option.some renaming inj→yS,injEq→xX
open PySem.Obj renaming mapSeq→yU,data_mapFields→Yq,isFreed_of_fields→xo
open PySem.Value renaming type→Yl,none→YE,ref→YG
open PySem.Builtin.List renaming listExtendWith→Yn,listTooLong→YX,listLengthHint→xj,listSameRef→xz,listItems→xN
open PySem.Heap.SameBut renaming update→Yo
open PyProof.Rows renaming seqObj→Yp,callWith_type1→YH,slot_tuple_getitem→YT,IntsAre→Xf,listItems_at→Xh
open PySem.PyData renaming eqvAll→Ys,eqv→Yu,strOk→Xg
open Ne renaming symm→Yv
open PySem.Around renaming under_plainId→Yx
open List.cons renaming inj→Yy
open PySem.Builtin.SmallTypes renaming nextOf→YB
open PySem.SetTable renaming below→YC,grown→Xc
open PySem.Str renaming ofString→YL
open ForInStep renaming yield→YQ
open PySem.Builtin.Tuple renaming tupleExact→YW
open PyProof.Rows.F renaming plain_set_update_loop→xg
open PySem.Challenge renaming rw_keynests_k59_whole_carried_along→xk
open PySem.F renaming slot_tuple_iterator_next→xn,slot_enumerate_next→xT
open PySem.Builtin.Slice renaming slicePlaces→xp
open PySem.AutoSeq1 renaming wpAny_loadPart'→xA
open List.Pairwise renaming imp_of_mem→xB
open Array renaming length_toList→xC,getElem?_toList→xR,getD→Xb
open Classical renaming propDecidable→xH
open False renaming elim→xK
open Function renaming comp→xP
open PySem.SetTable.below renaming go→xW
noncomputable section
namespace M
open PySem PySem.W PyProof.Rows
def kOf(as:List yg)(h:Yb):Frag:=as.filterMap λa=>(h.get? a).map λo=>(a,o)
def zfw(h:Yb):Frag:=kOf (yi h.objs.size) h
def ztu(s:Yg):Arguments:=match s with
 |.FunctionDef _ a _ _ _ _ _ _ _ _=>a
 |_=>{posonlyargs:=[],args:=[],vararg:=none,kwonlyargs:=[],kw_defaults:=[],kwarg:=none,defaults:=[]}
def zru(s:Yg):List Yg:=match s with
 |.FunctionDef _ _ b _ _ _ _ _ _ _=>b
 |_=>[]
def z5q(s:Yg):xU:=match s with
 |.FunctionDef _ _ _ _ _ _ sc _ _ _=>sc
 |_=>{kind:=.function,names:=[],isGenerator:=false,isCoroutine:=false }
def zHy(s:Yg):xV:=match s with
 |.FunctionDef _ _ _ _ _ _ _ _ _ p=>p
 |_=>⟨0,0,0,0⟩
structure TD where
 name:yF
 qual:yF
 params:Arguments
 body:FuncBody
 scope:xU
 globals:yg
 closure:List (yF×yg)
 defaults:yb
 builtins:yg
 code:Bool
 keep:Bool
def z3o(K:Frag)(a:yg)(qual:yF):Option TD:=match K.lookup a with
 |some ⟨_,_,.func fd,_⟩=>some ⟨fd.name,fd.qualname,fd.params,fd.body,fd.scope,fd.globals,fd.closure,fd.defaults,fd.builtins,codeIn K fd.code qual,keepIn K (.ref a)⟩
 |_=>none
def zQ(K:Frag)(nm:yF):Option TD:=match nsIn K yB nm with
 |some (some (.ref a))=>z3o K a nm
 |_=>none
def z1r(nm qual:yF)(st:Yg):Option TD:=some ⟨nm,qual,ztu st,.stmts (zru st),z5q st,yB,[],.none,builtinsNs,true,true⟩
def zT(nm:yF)(st:Yg):Option TD:=z1r nm nm st
def z7s{p q:yy}{loose:List yF}{α:Type}{Yf:yc->α}{y:α}{N:Nat}(h1:LeftO p q loose (λ_=>true) (λ_=>()) (λ_=>()) N)(h2:∀w,(openEnds treeTable p w N).map Yf=some y):LeftO p q loose (λ_=>true) Yf (λ_=>y) N:=λw=>by
 obtain⟨s,e,a⟩:=Option.map_eq_some_iff.mp (h1 w);obtain⟨s',e',b⟩:=Option.map_eq_some_iff.mp (h2 w);rw[e]at e';cases e';rw[e];show some (_,Yf s)=some (_,y);rw[b];exact congrArg (λz=>some (z.1,y)) a
end M
namespace Hd
open PySem PySem.Spec PyProof.Rows M
def top(i:Nat):Yg:=PySem.Challenge.pw_keynests_k59_whole_carried_along.main.body.getD i (.Pass ⟨0,0,0,0⟩)
def qv:yy:={PySem.Challenge.pw_keynests_k59_whole_carried_along with main:={PySem.Challenge.pw_keynests_k59_whole_carried_along.main with body:=[top 51]}}
def lse:List yF:=(PySem.Challenge.pw_keynests_k59_whole_carried_along.main.scope.names.map (·.1)).filter λx=>!(x == "law")
def dl:DefRec:={name:="law",params:=ztu (top 51),body:=zru (top 51),scope:=z5q (top 51),pos:=zHy (top 51)}
def obs(K:yz):List (Option TD)×List (Option (Option yb)):=([zQ K "_law_pen",zQ K "_law_mixed",zQ K "_law_take",zQ K "_law_web",zQ K "_law_order",zQ K "placed",zQ K "keys_named",zQ K "nests_named",zQ K "some_named",zQ K "room_of",zQ K "homes_of",zQ K "is_crowd",zQ K "has_home_beyond",zQ K "bound",zQ K "_law_of_some",zQ K "laying_of_keys",zQ K "left",zQ K "nest_named",zQ K "laying_of_nests",zQ K "fault",zQ K "laid",zQ K "_law_of_laying",zQ K "lying",zQ K "pushes_to",zQ K "row_to",zQ K "put_in",zQ K "is_push",zQ K "follows",zQ K "pushed",zQ K "laid_more",zQ K "laid_at_all",zQ K "spare_key",zQ K "trimmed",zQ K "fitted",zQ K "_law_about",zQ K "is_whole",zQ K "_law_fits",zQ K "joined_to",zQ K "part_of",zQ K "parts",zQ K "law"],[xF K yB "all",xF K yB "any",xF K yB "enumerate",xF K yB "len",xF K yB "list",xF K yB "min",xF K yB "range",xF K yB "reversed",xF K yB "set",xF K yB "sorted",xF K yB "sum",xF K yB "tuple"])
def good:List (Option TD)×List (Option (Option yb)):=([zT "_law_pen" (top 42),zT "_law_mixed" (top 43),zT "_law_take" (top 44),zT "_law_web" (top 45),zT "_law_order" (top 46),zT "placed" (top 1),zT "keys_named" (top 3),zT "nests_named" (top 2),zT "some_named" (top 7),zT "room_of" (top 28),zT "homes_of" (top 27),zT "is_crowd" (top 30),zT "has_home_beyond" (top 35),zT "bound" (top 36),zT "_law_of_some" (top 49),zT "laying_of_keys" (top 6),zT "left" (top 12),zT "nest_named" (top 4),zT "laying_of_nests" (top 5),zT "fault" (top 13),zT "laid" (top 15),zT "_law_of_laying" (top 50),zT "lying" (top 16),zT "pushes_to" (top 21),zT "row_to" (top 22),zT "put_in" (top 23),zT "is_push" (top 18),zT "follows" (top 19),zT "pushed" (top 20),zT "laid_more" (top 24),zT "laid_at_all" (top 25),zT "spare_key" (top 31),zT "trimmed" (top 32),zT "fitted" (top 33),zT "_law_about" (top 47),zT "is_whole" (top 14),zT "_law_fits" (top 48),zT "joined_to" (top 38),zT "part_of" (top 39),zT "parts" (top 40),zT "law" (top 51)],[some none,some none,some none,some none,some none,some none,some none,some none,some none,some none,some none,some none])
set_option maxHeartbeats 0
def hd21:W.LeftO PySem.Challenge.rw_keynests_k59_whole_carried_along.prog qv lse (λ_=>true) (λ_=>()) (λ_=>()) 60000:=λw=>by kernel_rfl
def hd22:∀w,(W.openEnds treeTable PySem.Challenge.rw_keynests_k59_whole_carried_along.prog w 60000).map (λs=>obs (zfw s.heap))=some good:=λw=>by kernel_rfl
def hd2:W.LeftO PySem.Challenge.rw_keynests_k59_whole_carried_along.prog qv lse (λ_=>true) (λs=>obs (zfw s.heap)) (λ_=>good) 60000:=z7s hd21 hd22
def hd1:PySem.Challenge.rw_keynests_k59_whole_carried_along.wellSaid=true:=by kernel_rfl
def hd3:W.defOf qv PySem.Challenge.rw_keynests_k59_whole_carried_along.name=some (dl,[]):=by kernel_rfl
def hd4:PySem.Challenge.rw_keynests_k59_whole_carried_along.prog.theDef PySem.Challenge.rw_keynests_k59_whole_carried_along.name=some (dl.params,dl.body,dl.scope):=by kernel_rfl
def hd5:W.kwWritten? dl.params.kwonlyargs dl.params.kw_defaults=some []:=by kernel_rfl
def hd6:(W.chainsOk qv&&W.opensWell PySem.Challenge.rw_keynests_k59_whole_carried_along.prog&&(W.frees PySem.Challenge.rw_keynests_k59_whole_carried_along.row.toRowW&&PySem.Challenge.rw_keynests_k59_whole_carried_along.row.within.isEmpty))=true:=by kernel_rfl
def hd7:PySem.Challenge.rw_keynests_k59_whole_carried_along.prog.bare:=⟨rfl,rfl,rfl,rfl,rfl,by decide +kernel⟩
end Hd
namespace L2
open PySem PySem.Spec PyProof.Rows
abbrev Key:=Sum Int yF
def zzn:Key->yb->Bool
 |.inl k,v=>Value.isInt k v
 |.inr x,v=>Value.isStrOf x v
def zMy(w:yH):Key->Int
 |.inl k=>hashInt k
 |.inr x=>hashStr w x
def zfb:∀{k:Key} {v:yb},zzn k v=true->(∃i t,k=yO i/\v=Value.int i t)\/(∃x t,k=Sum.inr x/\v=Value.str x t)
 |.inl i,v,h=>by
  obtain⟨t,e⟩:=Value.isInt_shape (k:=i) (v:=v) h;exact .inl ⟨i,t,rfl,e⟩
 |.inr x,v,h=>by
  obtain⟨t,e⟩:=Value.isStrOf_shape (x:=x) (v:=v) h;exact .inr ⟨x,t,rfl,e⟩
def zbr(i:Int)(t:Tok):zzn (.inl i) (.int i t)=true:=by simp[zzn,Value.isInt]
def zxr(x:yF)(t:Tok):zzn (.inr x) (.str x t)=true:=by simp[zzn,Value.isStrOf]
def zlw(a b:Int):decide ((yO a:Key)=yO b)=(a==b):=by
 by_cases e:a=b
 ·subst e;simp
 ·have h:¬(yO a:Key)=yO b:=λq=>e (Sum.inl.inj q);rw[decide_eq_false h];exact(beq_eq_false_iff_ne.mpr e).symm
def z0w(a b:yF):decide ((Sum.inr a:Key)=Sum.inr b)=decide (a=b):=by
 by_cases e:a=b
 ·subst e;simp
 ·have h:¬(Sum.inr a:Key)=Sum.inr b:=λq=>e (Sum.inr.inj q);rw[decide_eq_false h,decide_eq_false e]
def zHv(a:Int)(b:yF):decide ((yO a:Key)=Sum.inr b)=false:=decide_eq_false (λq=>nomatch q)
def zMw(a:yF)(b:Int):decide ((Sum.inr a:Key)=yO b)=false:=decide_eq_false (λq=>nomatch q)
def zRb(prog:yy)(w:yH):PySem.KeyKind prog w Key where
 is:=zzn
 hash:=zMy w
 inj:=λv a b ha hb=>by
  rcases zfb ha with ⟨i,t,rfl,rfl⟩|⟨x,t,rfl,rfl⟩
  ·rcases zfb hb with ⟨j,u,rfl,e⟩|⟨y,u,rfl,e⟩
   ·injection e with e1 _;rw[e1]
   ·exact nomatch e
  ·rcases zfb hb with ⟨j,u,rfl,e⟩|⟨y,u,rfl,e⟩
   ·exact nomatch e
   ·injection e with e1 _;rw[e1]
 byValue:=λk v h=>by
  rcases zfb h with ⟨i,t,rfl,rfl⟩|⟨x,t,rfl,rfl⟩<;>rfl
 pyHash:=λhv h=>by
  rcases zfb hv with ⟨i,t,rfl,rfl⟩|⟨x,t,rfl,rfl⟩
  ·exact wpAny_pyHash_int h
  ·exact wpAny_pyHash_str h
 eqBool:=λhu hv h=>by
  rcases zfb hu with ⟨i,t,rfl,rfl⟩|⟨x,t,rfl,rfl⟩
  ·rcases zfb hv with ⟨j,u,rfl,rfl⟩|⟨y,u,rfl,rfl⟩
   ·rw[zlw]at h;exact wpAny_eqBool_int h
   ·rw[zHv]at h;exact SeqAt.EqAt.int_str i t y u _ _ _ _ h
  ·rcases zfb hv with ⟨j,u,rfl,rfl⟩|⟨y,u,rfl,rfl⟩
   ·rw[zMw]at h;exact SeqAt.EqAt.str_int x t j u _ _ _ _ h
   ·rw[z0w]at h;exact wpAny_eqBool_str h
 «strs»:=λk x t v h=>by
  rcases zfb h with ⟨i,u,rfl,e⟩|⟨y,u,rfl,e⟩
  ·exact nomatch e
  ·injection e with e1 _;subst e1;cases v<;>rfl
def zSh(prog:yy)(w:yH)(k:Key)(v:yb):(zRb prog w).is k v=zzn k v:=rfl
def zMn(prog:yy)(w:yH)(i:Int)(t:Tok):(zRb prog w).is (.inl i) (.int i t)=true:=zbr i t
def zko(prog:yy)(w:yH)(x:yF)(t:Tok):(zRb prog w).is (.inr x) (.str x t)=true:=zxr x t
inductive V where
 |non|bl (b:Bool)|int (i:Int)|str (x:yF)|byt (b:Array UInt8)|flt (b:UInt64)|ref (a:yg)|ty (n:String)
 deriving DecidableEq
def RelV:V->yb->Prop
 |.non,u=>u=YE
 |.bl b,u=>u=Value.bool b
 |.int i,u=>∃t,u=Value.int i t
 |.str x,u=>∃t,u=Value.str x t
 |.byt b,u=>∃t,u=Value.bytes b t
 |.flt b,u=>∃t,u=Value.float b t
 |.ref a,u=>u=YG a
 |.ty n,u=>u=Yl n
abbrev Vals:List V->List yb->Prop:=Paired RelV
def Vals.length{xs:List V}{us:List yb}(r:Vals xs us):xs.length=us.length:=Paired.length r
def Vals.get:∀{xs:List V} {us:List yb} {i:Nat} {x:V},Vals xs us->xs[i]?=some x->∃u,us[i]?=some u/\RelV x u
 |_,_,_,_,.nil,e=>by simp at e
 |_,_,0,_,.cons r _,e=>by simp at e;subst e;exact⟨_,rfl,r⟩
 |_,_,i+1,x,.cons _ t,e=>by
  obtain⟨u,h1,h2⟩:=Vals.get (i:=i) (x:=x) t (by simpa using e);exact⟨u,by simpa using h1,h2⟩
def Vals.set{x:V}{u:yb}(r:RelV x u):∀{xs:List V} {us:List yb} (i:Nat),Vals xs us->Vals (xs.set i x) (us.set i u)
 |_,_,_,.nil =>.nil
 |_,_,0,.cons _ t =>.cons r t
 |_,_,i+1,.cons q t =>.cons q (Vals.set r i t)
def Vals.append:∀{xs ys:List V} {us ws:List yb},Vals xs us->Vals ys ws->Vals (xs++ys) (us++ws)
 |_,_,_,_,.nil,s=>s
 |_,_,_,_,.cons r t,s =>.cons r (Vals.append t s)
def Vals.take:∀{xs:List V} {us:List yb} (n:Nat),Vals xs us->Vals (xs.take n) (us.take n)
 |_,_,0,_ =>.nil
 |_,_,_+1,.nil =>.nil
 |_,_,n+1,.cons r t =>.cons r (Vals.take n t)
def Vals.drop:∀{xs:List V} {us:List yb} (n:Nat),Vals xs us->Vals (xs.drop n) (us.drop n)
 |_,_,0,r=>r
 |_,_,_+1,.nil =>.nil
 |_,_,n+1,.cons _ t=>Vals.drop n t
def su:Option V->Option yb->Prop
 |some v,some u=>RelV v u
 |none,none=>True
 |_,_=>False
def KV{κ:Type}:List (κ×V)->List (κ×yb)->Prop:=Paired λ(p:κ×V) (q:κ×yb)=>p.1=q.1/\RelV p.2 q.2
def kV:Key->V
 |.inl i =>.int i
 |.inr x =>.str x
inductive HO where
 |lst (xs:List V)
 |tup (xs:List V)
 |dK (kvs:List (Key×V))|dT (kvs:List (List Key×V))
 |set (S:Int->Bool) (n:Nat)
 |ins (C dx:yg) (fs:List (yF×V))
 |own (x:yg)
 |xd (fs:List (yF×V))
 |met (f x:yg)
 |rng (lo hi:Int)
 |frz (o:xb) (u:HO)
 |tbl (ps:Array yb)
 |ext (G:Yb->Prop)
abbrev Hp:=yg->Option HO
def upd(H:Hp)(a:yg)(o:HO):Hp:=λb=>if b=a then some o else H b
def zx{H:Hp}{a:yg}{o:HO}:upd H a o a=some o:=by unfold upd;rw[if_pos rfl]
def zY{H:Hp}{a b:yg}{o:HO}(h:b≠a):upd H a o b=H b:=by unfold upd;rw[if_neg h]
def zG{H:Hp}{a b:yg}{o:HO}(h:H a=some o)(h':H b=none):a≠b:=by
 intro e;subst e;rw[h]at h';cases h'
section
variable (P:yy)(w:yH)
def tH(H:Hp)(h:Yb)(a:yg):HO->Prop
 |.lst xs=>xs.length<=yE/\∃(its:List yb)(n:Nat),Vals xs its/\h.get? a=some {cls:=.type "list",data:=.seq its.toArray n }
 |.tup xs=>xs.length<=yE/\∃its:List yb,Vals xs its/\IsTup h a its.toArray
 |.dK kvs=>kvs.length<=yE/\(a==sysModules)=false/\∃vs,KV kvs vs/\h.DictOf (zRb P w) a vs
 |.dT kvs=>kvs.length<=yE/\(a==sysModules)=false/\∃xs:List (List Key×yg×yb),
  Paired (λ(p:List Key×V) (q:List Key×yg×yb)=>p.1=q.1/\H q.2.1=some (.tup (p.1.map kV))/\RelV p.2 q.2.2) kvs xs /\
  ∃o es ep,h.get? a=some o/\o.ExactDict/\o.data=.dict es ep/\es.toList=xs.map (entryOfKey (tupleKind (zRb P w)))/\(xs.map (·.1)).Nodup
 |.set S n=>h.SetOf (intKind P w) a S n
 |.ins C dx fs=>H dx=some (.own a)/\fs.length<=1000/\dx≠a/\h.get? a=some (W.instObj C dx) /\
  ∃mA,h.Ns1 dx mA/\(∀f,su (fs.lookup f) (mA f))/\PySem.Within mA (fs.map (·.1))
 |.own _=>∃o,h.get? a=some o
 |.xd fs=>∃mA,h.Ns1 a mA/\∀f,su (fs.lookup f) (mA f)
 |.rng lo hi=>∃t u v,h.get? a=some {cls:=.type "range",data:=.fields #[.int lo t,.int hi u,.int 1 v]}
 |.frz o u=>h.get? a=some o/\tH H h a u
 |.tbl ps=>h.get? a=some {cls:=.none,data:=.fields ps }
 |.met f x=>h.get? a=some (W.methodObj (.ref f) (.ref x))
 |.ext G=>G h/\(∃o,h.get? a=some o)/\∀h1 h2:Yb,G h1->(∀o,h1.get? a=some o->h2.get? a=some o)->G h2
def HOk(H:Hp)(h:Yb):Prop:=∀a o,H a=some o->tH P w H h a o
variable {P:yy}{w:yH}{H H':Hp}{h h':Yb}{a:yg}{o:HO}
def tH.lt(x:tH P w H h a o):a<h.objs.size:=by
 cases o with
 |lst xs=>obtain⟨_,_,_,_,e⟩:=x;exact ym e
 |tup xs=>obtain⟨_,_,_,p⟩:=x;exact p.lt
 |dK kvs=>obtain⟨_,_,_,_,o,_,_,e,_⟩:=x;exact ym e
 |dT kvs=>obtain⟨_,_,_,_,o,_,_,e,_⟩:=x;exact ym e
 |set S n=>obtain⟨o,_,_,_,e,_⟩:=x;exact ym e
 |ins C dx fs=>obtain⟨_,_,_,e,_⟩:=x;exact ym e
 |own y=>obtain⟨_,e⟩:=x;exact ym e
 |xd fs=>obtain⟨_,⟨_,_,_,e,_⟩,_⟩:=x;exact ym e
 |rng lo hi=>obtain⟨_,_,_,e⟩:=x;exact ym e
 |frz ob u=>obtain⟨e,_⟩:=x;exact ym e
 |tbl ps=>exact ym (show h.get? a=some _ from x)
 |met f y=>exact ym (show h.get? a=some _ from x)
 |ext G=>obtain⟨_,⟨_,e⟩,_⟩:=x;exact ym e
def Paired.mapP{α β:Type}{F φ:α->β->Prop}:∀{l₁:List α} {l₂:List β},Paired F l₁ l₂->(∀a b,F a b->φ a b)->Paired φ l₁ l₂
 |_,_,.nil,_ =>.nil
 |_,_,.cons r t,f =>.cons (f _ _ r) (Paired.mapP t f)
def tH.stay(x:tH P w H h a o)(k:∀b u,(b=a\/H b=some (.own a))->h.get? b=some u->h'.get? b=some u)
 (ho:∀b,H b=some (.own a)->H' b=some (.own a)) (ht:∀b xs,H b=some (.tup xs)->H' b=some (.tup xs)):tH P w H' h' a o:=by
 induction o with
 |lst xs=>obtain⟨z,its,n,r,e⟩:=x;exact⟨z,its,n,r,k _ _ (.inl rfl) e⟩
 |tup xs=>obtain⟨z,its,r,ob,e,c⟩:=x;exact⟨z,its,r,ob,k _ _ (.inl rfl) e,c⟩
 |dK kvs=>obtain⟨z,y,vs,r,ob,es,ep,e,c⟩:=x;exact⟨z,y,vs,r,ob,es,ep,k _ _ (.inl rfl) e,c⟩
 |dT kvs=>
  obtain⟨z,y,xs,r,ob,es,ep,e,c⟩:=x;exact⟨z,y,xs,Paired.mapP r λp q z=>⟨z.1,ht _ _ z.2.1,z.2.2⟩,ob,es,ep,k _ _ (.inl rfl) e,c⟩
 |set S n=>obtain⟨ob,es,ep,t,e,c⟩:=x;exact⟨ob,es,ep,t,k _ _ (.inl rfl) e,c⟩
 |ins C dx fs=>
  obtain⟨d,z,ne,e,mA,⟨od,es,ep,e2,c⟩,r⟩:=x;exact⟨ho _ d,z,ne,k _ _ (.inl rfl) e,mA,⟨od,es,ep,k _ _ (.inr d) e2,c⟩,r⟩
 |own y=>obtain⟨ob,e⟩:=x;exact⟨ob,k _ _ (.inl rfl) e⟩
 |xd fs=>obtain⟨mA,⟨od,es,ep,e,c⟩,r⟩:=x;exact⟨mA,⟨od,es,ep,k _ _ (.inl rfl) e,c⟩,r⟩
 |rng lo hi=>obtain⟨t,u,v,e⟩:=x;exact⟨t,u,v,k _ _ (.inl rfl) e⟩
 |frz ob u ih=>obtain⟨e,q⟩:=x;exact⟨k _ _ (.inl rfl) e,ih q⟩
 |tbl ps=>
  have e:h.get? a=some {cls:=.none,data:=.fields ps }:=x;show h'.get? a=some {cls:=.none,data:=.fields ps };exact k a _ (.inl rfl) e
 |met f y=>
  have e:h.get? a=some (W.methodObj (.ref f) (.ref y)):=x;show h'.get? a=some (W.methodObj (.ref f) (.ref y));exact k a _ (.inl rfl) e
 |ext G=>obtain⟨p,⟨o,e⟩,st⟩:=x;exact⟨st _ _ p λo q=>k _ _ (.inl rfl) q,⟨o,k _ _ (.inl rfl) e⟩,st⟩
def HOk.lt(x:HOk P w H h)(e:H a=some o):a<h.objs.size:=(x a o e).lt
def HOk.fresh(x:HOk P w H h)(e:h.objs.size<=a):H a=none:=by
 cases q:H a with
 |none=>rfl
 |some u=>exact absurd (yC (x.lt q) e) (Ye _)
def HOk.kept(x:HOk P w H h)(k:∀b u,h.get? b=some u->h'.get? b=some u):HOk P w H h':=λa o e=>
 (x a o e).stay (λb u _ q=>k b u q) (λ_ q=>q) λ_ _ q=>q
def HOk.laid(x:HOk P w H h)(k:∀b u,h.get? b=some u->h'.get? b=some u)(hp:h.objs.size<=a)(new:tH P w (upd H a o) h' a o):HOk P w (upd H a o) h':=λb u e=>by
 have hn:=x.fresh hp
 by_cases hb:b=a
 ·subst hb;rw[zx]at e;cases e;exact new
 ·rw[zY hb]at e;exact(x b u e).stay (λc v _ q=>k c v q) (λc q=>by rw[zY (zG q hn)];exact q) λc xs q=>by rw[zY (zG q hn)];exact q
end
def Rd(H:Hp)(a:yg)(u:HO):Prop:=H a=some u\/∃o,H a=some (.frz o u)
def Rd.ok{P:yy}{w:yH}{H:Hp}{h:Yb}{a:yg}{u:HO}(r:Rd H a u)(x:HOk P w H h):tH P w H h a u:=by
 rcases r with r|⟨o,r⟩
 ·exact x a u r
 ·obtain⟨_,q⟩:=x a _ r;exact q
def Mut:Option HO->Prop
 |some (.lst _)=>True
 |some (.dK _)=>True
 |some (.dT _)=>True
 |some (.set _ _)=>True
 |some (.ins _ _ _)=>True
 |some (.ext _)=>True
 |_=>False
section
variable {P:yy}{w:yH}{H:Hp}{h h':Yb}{x e:yg}{o':HO}
def HOk.write(ok:HOk P w H h)(mu:Mut (H x))(he:e=x\/H e=some (.own x))(k:∀b u,b≠e->h.get? b=some u->h'.get? b=some u)(heo:∃u,h'.get? e=some u)
 (new:tH P w (upd H x o') h' x o'):HOk P w (upd H x o') h':=λb u q=>by
 have nown:∀c y,H c=some (.own y)->c≠x:=λc y r z=>by subst z;rw[r]at mu;exact mu
 have ntup:∀c xs,H c=some (.tup xs)->c≠x:=λc xs r z=>by subst z;rw[r]at mu;exact mu
 by_cases hb:b=x
 ·subst hb;rw[zx]at q;cases q;exact new
 ·rw[zY hb]at q
  by_cases hbe:b=e
  ·have q':H b=some (.own x):=by
    rcases he with z|z
    ·exact absurd (hbe.trans z) hb
    ·rw[hbe];exact z
   rw[q]at q';cases q';obtain⟨v,hv⟩:=heo;exact⟨v,by rw[hbe];exact hv⟩
  ·refine(ok b u q).stay (λc v hc r=>k c v ?_ r) (λc r=>by rw[zY (nown c b r)];exact r) λc xs r=>by rw[zY (ntup c xs r)];exact r
   rcases hc with rfl|hc
   ·exact hbe
   ·rintro rfl;rcases he with z|z
    ·exact nown c b hc z
    ·rw[hc]at z;cases z;exact hb rfl
end
structure Un(fs ex:List yg)(H H':Hp)(h h':Yb):Prop where
 keep:∀b o,h.get? b=some o->H b=none->b∉fs->b∉ex->h'.get? b=some o
 slot:∀b o,h.get? b=some o->H b=none->b∈fs->b∉ex->∃sl,h'.get? b=some {o with slots:=sl }
 free:∀b o,h.get? b=some o->H b=none->b∉ex->H' b=none
 there:∀b o,h.get? b=some o->b∉ex->∃o',h'.get? b=some o'
 tups:∀b xs,H b=some (.tup xs)->H' b=some (.tup xs)
 sd:∀b o u,H b=some (.frz o u)->H' b=some (.frz o u)
 sk:∀b ps,H b=some (.tbl ps)->∃more,H' b=some (.tbl (ps++more))
section
variable {fs fs' ex ex':List yg}{H H1 H2:Hp}{h h1 h2 h':Yb}{a x e:yg}{o:HO}
def Un.any(u:Un fs ex H H1 h h1){b:yg}{ob:xb}(q:h.get? b=some ob)(n:H b=none)(hx:b∉ex):∃sl,h1.get? b=some {ob with slots:=sl }:=by
 by_cases hb:b∈fs
 ·exact u.slot b ob q n hb hx
 ·exact⟨ob.slots,u.keep b ob q n hb hx⟩
def Un.kept(k:∀b u,h.get? b=some u->h'.get? b=some u):Un fs ex H H h h' :=
 ⟨λb ob q _ _ _=>k b ob q,λb ob q _ _ _=>⟨ob.slots,k b ob q⟩,λ_ _ _ n _=>n,λb ob q _=>⟨ob,k b ob q⟩,λ_ _ q=>q,λ_ _ _ q=>q,λ_ ps q=>⟨#[],by rw[q];simp⟩⟩
def Un.refl:Un fs ex H H h h:=Un.kept λ_ _ q=>q
def Un.laid(k:∀b u,h.get? b=some u->h'.get? b=some u)(hp:h.objs.size<=a)(hn:H a=none):Un fs ex H (upd H a o) h h' where
 keep:=λb u q _ _ _=>k b u q
 slot:=λb u q _ _ _=>⟨u.slots,k b u q⟩
 free:=λb u q n _=>by rw[zY (yt (yC (ym q) hp))];exact n
 there:=λb u q _=>⟨u,k b u q⟩
 tups:=λb xs q=>by rw[zY (zG q hn)];exact q
 sd:=λb u xs q=>by rw[zY (zG q hn)];exact q
 sk:=λb ps q=>⟨#[],by rw[zY (zG q hn),q];simp⟩
def Un.write(mu:Mut (H x))(he:e=x\/H e=some (.own x))(k:∀b u,b≠e->h.get? b=some u->h'.get? b=some u)(heo:∃u,h'.get? e=some u):Un fs ex H (upd H x o) h h':=by
 have hx:∀b,H b=none->b≠x:=λb n z=>by subst z;rw[n]at mu;exact mu
 have hb:∀b,H b=none->b≠e:=λb n z=>by
  subst z;rcases he with r|r
  ·exact hx b n r
  ·rw[n]at r;cases r
 have hm:∀b u,H b=some u->¬Mut (some u)->b≠x:=λb u q nm z=>by subst z;rw[q]at mu;exact nm mu
 refine⟨λb u q n _ _=>k b u (hb b n) q,λb u q n _ _=>⟨u.slots,k b u (hb b n) q⟩,λb u q n _=>by rw[zY (hx b n)];exact n,λb u q _=>?_,
  λb xs q=>by rw[zY (hm b _ q λz=>z)];exact q,λb u xs q=>by rw[zY (hm b _ q λz=>z)];exact q,λb ps q=>⟨#[],by rw[zY (hm b _ q λz=>z),q];simp⟩⟩
 by_cases hbe:b=e
 ·subst hbe;exact heo
 ·exact⟨u,k b u hbe q⟩
end
def trk(h:Yb)(H:Hp):List yg:=(yi h.objs.size).filter λa=>(H a).isSome
def zxt(h:Yb)(H:Hp):Yb:=W.hideAll h (trk h H)
def zGq(h:Yb)(H:Hp):(zxt h H).objs.size=h.objs.size:=W.hideAll_size _ _
def zEs{h:Yb}{H:Hp}{b:yg}{o:xb}(e:h.get? b=some o)(n:H b=none):(zxt h H).get? b=some o :=
 W.hideAll_get _ e λhm=>by
  have q:(H b).isSome=true:=(List.mem_filter.mp hm).2;rw[n]at q;simp at q
def zfu{h:Yb}{H:Hp}{b:yg}{o:xb}(e:(zxt h H).get? b=some o):h.get? b=some o/\H b=none:=by
 have e':h.get? b=some o:=W.of_hideAll (trk h H) e;refine⟨e',?_⟩
 cases q:H b with
 |none=>rfl
 |some x=>
  have hm:b∈trk h H:=List.mem_filter.mpr ⟨List.mem_range.mpr (ym e'),by simp[q]⟩;have z:(zxt h H).get? b=none:=W.hideAll_none (trk h H) hm;rw[z]at e;cases e
def z2u(g h:Yb)(L:yg):List (yg×xb):=(yi h.objs.size).filterMap λa=>if a=L\/(g.get? a).isSome=true then none else(h.get? a).map λo=>(a,o)
def rest(g h:Yb)(L d:yg):List (yg×xb):=(z2u g h L).filter λp=>decide (p.1≠d)
structure Mod(K:yz)(mg:yF->Option yb)(base:Yb):Prop where
 kin:K.In base
 glob:base.Ns yB mg
 blt:∃mb,base.Ns builtinsNs mb/\∀x:yF,x≠"__name__"->mb x=yI x
 nolimit:base.NoLimit
structure Cx where
 prog:yy
 w:yH
 K:yz
 mg:yF->Option yb
 base:Yb
 A:yN
 N:List yF
 s₀:yc
 H₀:Hp
 env:Env
 outer:List Env
 stack:List Env
 ex:List yg
 fn:yF->Bool
 calm:Bool
 pn:List (yg×xb)
 xe:yb->yc->Prop
def frs(l:List Env):List yg:=l.filterMap (·.frame)
abbrev Cx.fs(X:Cx):List yg:=frs X.outer
def Vis(sc:xU)(x:yF):Prop:=sc.names.lookup x=some .local\/sc.names.lookup x=some .cell\/sc.names.lookup x=some .free
def Loc(sc:xU)(x:yF):Prop:=sc.names.lookup x=some .local\/sc.names.lookup x=some .cell
def zxy(env:Env)(h:Yb)(m:yF->Option yb)(x:yF)(u:yb):Prop :=
 (env.kindOf x=some .local/\m x=some u)\/((env.kindOf x=some .cell\/env.kindOf x=some .free)/\∃c,env.cells.lookup x=some c/\h.IsCell c (some u))
structure Cx.Ok(X:Cx):Prop where
 mod:Mod X.K X.mg X.base
 kind:X.env.scope.kind=.function
 glob:X.env.globals=yB
 blt:X.env.builtins=builtinsNs
 above:X.s₀.heap.objs.size<=X.env.locals
 inj:∀x y c,X.env.cells.lookup x=some c->X.env.cells.lookup y=some c->x=y
 has:∀x,(X.env.kindOf x=some .cell\/X.env.kindOf x=some .free)->∃c,X.env.cells.lookup x=some c
 cab:∀x c,X.fn x=true->X.env.cells.lookup x=some c->X.s₀.heap.objs.size<=c
 hd:X.calm=true->X.A.handled=none
 frames:X.A.frames=some X.stack
 stk:X.stack=X.outer\/(X.stack=X.env::X.outer/\X.env.frame=some X.env.locals)
 exf:∀b∈X.ex,b≠X.env.locals/\∀x c,X.env.cells.lookup x=some c->c≠b
 bs:∀b o,X.base.get? b=some o->X.s₀.heap.get? b=some o/\X.H₀ b=none
 bsz:X.base.objs.size<=X.s₀.heap.objs.size
 sP:∀b o,X.base.get? b=some o->b∉X.ex
 exfs:∀b∈X.ex,b∉X.fs
 TQ:X.s₀.heap.FunFrames X.base X.outer
 frf:∀b∈X.fs,X.H₀ b=none
structure Inv(X:Cx)(U:List (yg×xb))(Y:List (Option V))(H:Hp)(s:yc):Prop where
 ok:X.Ok
 os:s.os=X.s₀.os
 bare:AllBare s.gens
 base:Un X.fs X.ex X.H₀ H X.s₀.heap s.heap
 loc:∃m,s.heap.Ns X.env.locals m/\∀(i:Nat)(x:yF)(v:V),X.N[i]?=some x->Y[i]?=some (some v)->Vis X.env.scope x->∃u,RelV v u/\zxy X.env s.heap m x u
 cell:∀x c,X.env.cells.lookup x=some c->∃v,s.heap.IsCell c v
 free:H X.env.locals=none
 freeC:∀x c,X.env.cells.lookup x=some c->H c=none
 pin:∀p∈X.pn++U,s.heap.get? p.1=some p.2/\H p.1=none/\p.1≠X.env.locals/\p.1∉X.fs/\∀v,p.2.data≠.cell v
 hok:HOk X.prog X.w H s.heap
 len:Y.length=X.N.length
section
variable {X:Cx}{U:List (yg×xb)}{Y:List (Option V)}{H H':Hp}{s:yc}{h':Yb}
def Cx.Ok.nofr(ok:X.Ok){b:yg}{o:xb}(e:X.base.get? b=some o):b∉X.fs:=λhb=>by
 have:=(ok.TQ.mem hb).1;rw[e]at this;cases this
def Inv.bs(I:Inv X U Y H s):∀b o,X.base.get? b=some o->s.heap.get? b=some o/\H b=none:=λb o e=>
 ⟨I.base.keep b o (I.ok.bs b o e).1 (I.ok.bs b o e).2 (I.ok.nofr e) (I.ok.sP b o e),I.base.free b o (I.ok.bs b o e).1 (I.ok.bs b o e).2 (I.ok.sP b o e)⟩
def Inv.bk(I:Inv X U Y H s):∀b o,X.base.get? b=some o->s.heap.get? b=some o:=λb o e=>(I.bs b o e).1
def Inv.mod(I:Inv X U Y H s):Mod X.K X.mg X.base:=I.ok.mod
def Inv.kIn(I:Inv X U Y H s):X.K.In s.heap:=I.ok.mod.kin.keeps I.bk
def Inv.fr(I:Inv X U Y H s):∃m,Fr X.base X.env.locals s.heap m :=
 let ⟨m,hn,_⟩:=I.loc
 ⟨m,hn,I.bk,yA I.ok.bsz I.ok.above⟩
def Inv.lt(I:Inv X U Y H s):X.env.locals<s.heap.objs.size:=let ⟨_,hn,_⟩:=I.loc;hn.lt
def Inv.sz(I:Inv X U Y H s):X.s₀.heap.objs.size<=s.heap.objs.size:=yA I.ok.above (YD I.lt)
def Inv.nofs(I:Inv X U Y H s){a:yg}(h:s.heap.objs.size<=a):a∉X.fs:=λhb=>by
 obtain⟨_,o,ho,_⟩:=I.ok.TQ.mem hb;exact absurd (yC (ym ho) (yA I.sz h)) (Ye _)
def Inv.cne(I:Inv X U Y H s):∀x c,X.env.cells.lookup x=some c->c≠X.env.locals:=λx c e z=>by
 obtain⟨v,o,ho,hd⟩:=I.cell x c e;obtain⟨m,⟨o',es,ep,ho',hd',_⟩,_⟩:=I.loc;rw[z,ho']at ho;cases ho;rw[hd']at hd;cases hd
def Inv.TQ(I:Inv X U Y H s):s.heap.FunFrames X.base X.outer:=by
 have all:∀(l:List Env),(∀b∈frs l,b∈X.fs)->X.s₀.heap.FunFrames X.base l->s.heap.FunFrames X.base l:=by
  intro l
  induction l with
  |nil=>intro _ _;trivial
  |cons env r ih=>
   intro hs hl;obtain⟨hk,⟨L,o,hf,hn,ho,hd⟩,hr⟩:=hl;have hL:L∈X.fs:=hs L (by unfold frs;rw[filterMap_cons,hf];exact mem_cons_self);obtain⟨sl,e⟩:=I.base.slot L o ho (I.ok.frf L hL) hL λz=>I.ok.exfs L z hL;exact⟨hk,⟨L,_,hf,hn,e,hd⟩,ih (λb hb=>hs b (by unfold frs;rw[filterMap_cons,hf];exact mem_cons_of_mem _ hb)) hr⟩
 exact all X.outer (λ_ hb=>hb) I.ok.TQ
def Inv.stack(I:Inv X U Y H s):s.heap.FunFrames X.base X.stack:=by
 rcases I.ok.stk with e|⟨e,hf⟩
 ·rw[e];exact I.TQ
 ·rw[e];obtain⟨m,hn,_⟩:=I.loc;refine .cons (by rw[I.ok.kind];decide) hf hn ?_ I.TQ;exact Heap.get?_none_of_le (yA I.ok.bsz I.ok.above)
def Inv.sm(I:Inv X U Y H s):∀b∈frs X.stack,b∈X.env.locals::X.fs:=λb hb=>by
 rcases I.ok.stk with e|⟨e,hf⟩
 ·rw[e]at hb;exact mem_cons_of_mem _ hb
 ·rw[e]at hb;unfold frs at hb;rw[filterMap_cons,hf]at hb;exact hb
def Inv.sJ(I:Inv X U Y H s):∀b∈frs X.stack,H b=none:=λb hb=>by
 rcases List.mem_cons.mp (I.sm b hb) with e|hb
 ·rw[e];exact I.free
 ·obtain⟨_,o,ho,_⟩:=I.ok.TQ.mem hb;exact I.base.free b o ho (I.ok.frf b hb) λz=>I.ok.exfs b z hb
def Inv.step{g':Array GenState}{t':Nat}{d':Drawn}{ch:List yg}(I:Inv X U Y H s)
 (hch:∀b∈ch,(b∈X.ex\/X.s₀.heap.objs.size<=b)/\b≠X.env.locals/\(∀x c,X.env.cells.lookup x=some c->c≠b)/\∀p∈X.pn++U,p.1≠b)
 (keep:∀b o,b≠X.env.locals->b∉X.fs->b∉ch->s.heap.get? b=some o->H b=none->h'.get? b=some o)
 (slot:∀b o,b≠X.env.locals->b∈X.fs->b∉ch->s.heap.get? b=some o->H b=none->∃sl,h'.get? b=some {o with slots:=sl }) (free:∀b o,b∉ch->s.heap.get? b=some o->H b=none->H' b=none)
 (there:∀b o,b∉ch->s.heap.get? b=some o->∃o',h'.get? b=some o')
 (tups:∀b xs,H b=some (.tup xs)->H' b=some (.tup xs)) (sd:∀b o u,H b=some (.frz o u)->H' b=some (.frz o u)) (sk:∀b ps,H b=some (.tbl ps)->∃more,H' b=some (.tbl (ps++more)))
 (ns:∀m,s.heap.Ns X.env.locals m->h'.Ns X.env.locals m) (hok:HOk X.prog X.w H' h') (hg:AllBare g') :
 Inv X U Y H' {s with heap:=h',gens:=g',drawn:=d',toks:=t' }:=by
 have neL:∀b o,X.s₀.heap.get? b=some o->b≠X.env.locals:=λb o e=>yt (yC (ym e) I.ok.above)
 have neC:∀b o,X.s₀.heap.get? b=some o->b∉X.ex->b∉ch:=λb o e hx hb=>by
  rcases(hch b hb).1 with z|z
  ·exact hx z
  ·exact absurd (yC (ym e) z) (Ye _)
 have cellK:∀x c,X.env.cells.lookup x=some c->∀v,s.heap.IsCell c v->h'.IsCell c v:=λx c e v ⟨o,ho,hd⟩=>by
  have nch:c∉ch:=λz=>(hch c z).2.2.1 x c e rfl
  by_cases hc:c∈X.fs
  ·obtain⟨sl,q⟩:=slot c o (I.cne x c e) hc nch ho (I.freeC x c e);exact⟨_,q,hd⟩
  ·exact⟨o,keep c o (I.cne x c e) hc nch ho (I.freeC x c e),hd⟩
 refine⟨I.ok,I.os,hg,⟨λb o e n hb hx=>?_,λb o e n hb hx=>?_,λb o e n hx=>?_,λb o e hx=>?_,λb xs e=>tups b xs (I.base.tups b xs e),λb o xs e=>sd b o xs (I.base.sd b o xs e),λb ps e=>?_⟩,?_,λx c e=>?_,?_,λx c e=>?_,λp hp=>?_,hok,I.len⟩
 ·exact keep b o (neL b o e) hb (neC b o e hx) (I.base.keep b o e n hb hx) (I.base.free b o e n hx)
 ·obtain⟨sl,e1⟩:=I.base.slot b o e n hb hx;obtain⟨sl',e2⟩:=slot b _ (neL b o e) hb (neC b o e hx) e1 (I.base.free b o e n hx);exact⟨sl',e2⟩
 ·obtain⟨o',e1⟩:=I.base.there b o e hx;exact free b o' (neC b o e hx) e1 (I.base.free b o e n hx)
 ·obtain⟨o',e1⟩:=I.base.there b o e hx;exact there b o' (neC b o e hx) e1
 ·obtain⟨m1,e1⟩:=I.base.sk b ps e;obtain⟨m2,e2⟩:=sk b _ e1;exact⟨m1++m2,by rw[e2,Array.append_assoc]⟩
 ·obtain⟨m,hn,hl⟩:=I.loc;refine⟨m,ns m hn,λi x v e1 e2 e3=>?_⟩;obtain⟨u,r,l⟩:=hl i x v e1 e2 e3;refine⟨u,r,?_⟩;rcases l with l|⟨k,c,e,z⟩
  ·exact .inl l
  ·exact .inr ⟨k,c,e,cellK x c e _ z⟩
 ·obtain⟨v,z⟩:=I.cell x c e;exact⟨v,cellK x c e v z⟩
 ·obtain⟨m,⟨o,_,_,ho,_⟩,_⟩:=I.loc;exact free _ o (λz=>(hch _ z).2.1 rfl) ho I.free
 ·obtain⟨v,o,ho,hd⟩:=I.cell x c e;exact free c o (λz=>(hch c z).2.2.1 x c e rfl) ho (I.freeC x c e)
 ·obtain⟨e,n,ne,nf,d⟩:=I.pin p hp;have nch:p.1∉ch:=λz=>(hch p.1 z).2.2.2 p hp rfl;exact⟨keep p.1 p.2 ne nf nch e n,free p.1 p.2 nch e n,ne,nf,d⟩
def Inv.un{t':Nat}(I:Inv X U Y H s)(u:Un X.fs [] H H' s.heap h')(hok:HOk X.prog X.w H' h'):Inv X U Y H' {s with heap:=h',toks:=t' }:=by
 obtain⟨m,⟨o,es,ep,ho,r⟩,_⟩:=id I.loc;obtain⟨sl,hL⟩:=u.any ho I.free (by simp)
 exact I.step (g':=s.gens) (d':=s.drawn) (ch:=[]) (λ_ z=>nomatch z) (λb o _ hb _ e n=>u.keep b o e n hb (by simp)) (λb o _ hb _ e n=>u.slot b o e n hb (by simp)) (λb o _ e n=>u.free b o e n (by simp)) (λb o _ e=>u.there b o e (by simp)) u.tups u.sd u.sk (λm' hm=>by
  obtain⟨o',es',ep',ho',r'⟩:=hm;rw[ho]at ho';cases ho';exact⟨_,es',ep',hL,r'⟩) hok I.bare
def Inv.call{g':Array GenState}{t':Nat}{d':Drawn}{ch:List yg}(I:Inv X U Y H s)(u:Un (frs X.stack) ch H H' s.heap h')(hok:HOk X.prog X.w H' h')(hg:AllBare g')
 (hch:∀b∈ch,(b∈X.ex\/X.s₀.heap.objs.size<=b)/\b≠X.env.locals/\(∀x c,X.env.cells.lookup x=some c->c≠b)/\∀p∈X.pn++U,p.1≠b) :
 Inv X U Y H' {s with heap:=h',gens:=g',drawn:=d',toks:=t' }:=by
 obtain⟨m,⟨o,es,ep,ho,r⟩,_⟩:=id I.loc;obtain⟨sl,hL⟩:=u.any ho I.free λz=>(hch _ z).2.1 rfl
 exact I.step (ch:=ch) hch (λb o hL hb hc e n=>u.keep b o e n (λz=>(List.mem_cons.mp (I.sm b z)).elim hL hb) hc) (λb o _ _ hc e n=>u.any e n hc) (λb o hc e n=>u.free b o e n hc) (λb o hc e=>u.there b o e hc) u.tups u.sd u.sk (λm' hm=>by
  obtain⟨o',es',ep',ho',r'⟩:=hm;rw[ho]at ho';cases ho';exact⟨_,es',ep',hL,r'⟩) hok hg
def Inv.turned{t':Nat}{it:yg}(I:Inv X U Y H s)(k:∀b o,b≠it->s.heap.get? b=some o->h'.get? b=some o)(hn:H it=none)(hL:it≠X.env.locals)
 (h1:it∈X.ex\/X.s₀.heap.objs.size<=it) (h2:∀x c,X.env.cells.lookup x=some c->c≠it) (h3:∀p∈X.pn++U,p.1≠it):Inv X U Y H {s with heap:=h',toks:=t' }:=by
 have nit:∀b u,H b=some u->b≠it:=λb u e z=>by rw[z,hn]at e;cases e
 refine I.step (g':=s.gens) (d':=s.drawn) (ch:=[it]) (λb hb=>?_) (λb o _ _ hc e _=>k b o (λz=>hc (by simp[z])) e) (λb o _ _ hc e _=>⟨o.slots,k b o (λz=>hc (by simp[z])) e⟩) (λ_ _ _ _ n=>n)
  (λb o hc e=>⟨o,k b o (λz=>hc (by simp[z])) e⟩) (λ_ _ e=>e) (λ_ _ _ e=>e) (λb ps e=>⟨#[],by rw[e];simp⟩) (λm hm=>?_) (λb u e=>?_) I.bare
 ·have e:b=it:=by simpa using hb
  subst e;exact⟨h1,hL,h2,h3⟩
 ·obtain⟨o,es,ep,ho,r⟩:=hm;exact⟨o,es,ep,k _ o (Yv hL) ho,r⟩
 ·refine(I.hok b u e).stay (λc v hc q=>k c v ?_ q) (λ_ q=>q) λ_ _ q=>q;rcases hc with z|z
  ·rw[z];exact nit b u e
  ·exact nit c _ z
def Inv.tok(I:Inv X U Y H s)(t:Nat):Inv X U Y H {s with toks:=t }:=I.un (h':=s.heap) (t':=t) Un.refl I.hok
def Inv.kept{t':Nat}(I:Inv X U Y H s)(k:∀b u,s.heap.get? b=some u->h'.get? b=some u):Inv X U Y H {s with heap:=h',toks:=t' }:=I.un (Un.kept k) (I.hok.kept k)
def Inv.laid{a:yg}{o:HO}{t':Nat}(I:Inv X U Y H s)(k:∀b u,s.heap.get? b=some u->h'.get? b=some u)(hp:s.heap.objs.size<=a)(new:tH X.prog X.w (upd H a o) h' a o) :
 Inv X U Y (upd H a o) {s with heap:=h',toks:=t' }:=I.un (Un.laid k hp (I.hok.fresh hp)) (I.hok.laid k hp new)
def Inv.write{x e:yg}{o:HO}{t':Nat}(I:Inv X U Y H s)(mu:Mut (H x))(he:e=x\/H e=some (.own x))(k:∀b u,b≠e->s.heap.get? b=some u->h'.get? b=some u)(heo:∃u,h'.get? e=some u)
 (new:tH X.prog X.w (upd H x o) h' x o):Inv X U Y (upd H x o) {s with heap:=h',toks:=t' }:=I.un (Un.write mu he k heo) (I.hok.write mu he k heo new)
def Inv.weak{Y':List (Option V)}(I:Inv X U Y H s)(hl:Y'.length=Y.length)(w:∀(i:Nat) v,Y'[i]?=some (some v)->Y[i]?=some (some v)):Inv X U Y' H s :=
 ⟨I.ok,I.os,I.bare,I.base,let ⟨m,hn,hl'⟩:=I.loc;⟨m,hn,λi x v e1 e2 e3=>hl' i x v e1 (w i v e2) e3⟩,I.cell,I.free,I.freeC,I.pin,I.hok,hl.trans I.len⟩
def Inv.sn{U':List (yg×xb)}(I:Inv X U Y H s)(h:∀p∈U',s.heap.get? p.1=some p.2/\H p.1=none/\p.1≠X.env.locals/\p.1∉X.fs/\∀v,p.2.data≠.cell v):Inv X U' Y H s :=
 ⟨I.ok,I.os,I.bare,I.base,I.loc,I.cell,I.free,I.freeC,λp hp=>(List.mem_append.mp hp).elim (λz=>I.pin p (mem_append_left _ z)) (h p),I.hok,I.len⟩
def zzo{N:List yF}(hN:N.Nodup){i j:Nat}{x:yF}(a:N[i]?=some x)(b:N[j]?=some x):i=j:=by
 obtain⟨h1,e1⟩:=List.getElem?_eq_some_iff.mp a;obtain⟨h2,e2⟩:=List.getElem?_eq_some_iff.mp b;exact(List.getElem_inj hN).mp (e1.trans e2.symm)
def zLm{M:Model}{A:yN}{E:yb->yc->Prop}{i:Nat}{x:yF}{v:V}{u:yb}{Q:Unit->yc->Prop}(I:Inv X U Y H s)(hN:X.N.Nodup)(hi:X.N[i]?=some x)(hx:Loc X.env.scope x)(r:RelV v u)
 (h:∀s',Inv X U (Y.set i (some v)) H s'->(∃a,Yj a s.heap s'.heap/\(a=X.env.locals\/X.env.cells.lookup x=some a))->Q () s') (hf:X.fn x=true\/X.env.scope.names.lookup x=some .local:=by first|exact .inl rfl|exact .inr rfl|assumption):yo M A (storeName X.env x u) Q E s:=by
 obtain⟨m,hn,hl⟩:=id I.loc;have hcls:(X.env.scope.kind == .class||(X.env.scope.kind == .module&&X.env.locals != X.env.globals))=false:=by rw[I.ok.kind];rfl
 have hiσ:i<Y.length:=by rw[I.len];exact(List.getElem?_eq_some_iff.mp hi).1
 have cne:=I.cne
 have tracked:∀{a:yg} {h':Yb},(∃o,s.heap.get? a=some o/\H a=none)->Yj a s.heap h'->HOk X.prog X.w H h':=λ{a h'} ha hs b ob e=>by
  obtain⟨_,_,hfree⟩:=ha;refine(I.hok b ob e).stay (λc w' hc q=>(hs.2 c ?_).trans q) (λ_ q=>q) λ_ _ q=>q;rintro rfl;rcases hc with rfl|hc
  ·rw[hfree]at e;cases e
  ·rw[hfree]at hc;cases hc
 rcases hx with hk|hk
 ·refine wpAny_storeName_local hk hn (λh' hn' hs=>?_) hcls;obtain⟨oL,_,_,hoL,_⟩:=id hn;refine h _ ⟨I.ok,I.os,I.bare,⟨λb o e n hb hx=>?_,λb o e n hb hx=>?_,I.base.free,λb o e hx=>?_,I.base.tups,I.base.sd,I.base.sk⟩,⟨_,hn',λj y v' e1 e2 e3=>?_⟩,λy c e=>?_,I.free,I.freeC,λp hp=>?_,tracked ⟨oL,hoL,I.free⟩ hs,by simpa using I.len⟩ ⟨_,hs,.inl rfl⟩
  ·exact(hs.2 b (yt (yC (ym e) I.ok.above))).trans (I.base.keep b o e n hb hx)
  ·obtain⟨sl,e1⟩:=I.base.slot b o e n hb hx;exact⟨sl,(hs.2 b (yt (yC (ym e) I.ok.above))).trans e1⟩
  ·obtain⟨o',e1⟩:=I.base.there b o e hx;exact⟨o',(hs.2 b (yt (yC (ym e) I.ok.above))).trans e1⟩
  ·by_cases hj:j=i
   ·subst hj;rw[hi]at e1;cases e1;rw[Yz hiσ]at e2;cases e2;exact⟨u,r,.inl ⟨hk,by simp⟩⟩
   ·rw[Yk (Yv hj)]at e2;obtain⟨u',r',q⟩:=hl j y v' e1 e2 e3;refine⟨u',r',?_⟩;rcases q with ⟨k,e⟩|⟨k,c,e,z⟩
    ·refine .inl ⟨k,?_⟩;have:y≠x:=λe=>hj (zzo hN e1 (e▸hi));simp[this,e]
    ·exact .inr ⟨k,c,e,z.sameBut hs (cne y c e)⟩
  ·obtain⟨w',z⟩:=I.cell y c e;exact⟨w',z.sameBut hs (cne y c e)⟩
  ·obtain⟨e,n,ne,nf,d⟩:=I.pin p hp;exact⟨(hs.2 p.1 ne).trans e,n,ne,nf,d⟩
 ·have hfn:X.fn x=true:=by
   rcases hf with z|z
   ·exact z
   ·rw[z]at hk;cases hk
  obtain⟨c,hc⟩:=I.ok.has x (.inl hk);obtain⟨w',z⟩:=I.cell x c hc;refine wpAny_storeName_cell I.ok.kind hk hc z (λh' hc' hs=>?_);obtain⟨oc,hoc,hocd⟩:=id z;refine h {s with heap:=h' } ⟨I.ok,I.os,I.bare,⟨λb o e n hb hx=>?_,λb o e n hb hx=>?_,I.base.free,λb o e hx=>?_,I.base.tups,I.base.sd,I.base.sk⟩,⟨m,hn.sameBut hs (Yv (cne x c hc)),λj y v' e1 e2 e3=>?_⟩,λy c' e=>?_,I.free,I.freeC,λp hp=>?_,tracked ⟨oc,hoc,I.freeC x c hc⟩ hs,by simpa using I.len⟩ ⟨c,hs,.inr hc⟩
  ·exact(hs.2 b (yt (yC (ym e) (I.ok.cab x c hfn hc)))).trans (I.base.keep b o e n hb hx)
  ·obtain⟨sl,e1⟩:=I.base.slot b o e n hb hx;exact⟨sl,(hs.2 b (yt (yC (ym e) (I.ok.cab x c hfn hc)))).trans e1⟩
  ·obtain⟨o',e1⟩:=I.base.there b o e hx;exact⟨o',(hs.2 b (yt (yC (ym e) (I.ok.cab x c hfn hc)))).trans e1⟩
  ·by_cases hj:j=i
   ·subst hj;rw[hi]at e1;cases e1;rw[Yz hiσ]at e2;cases e2;exact⟨u,r,.inr ⟨.inl hk,c,hc,hc'⟩⟩
   ·rw[Yk (Yv hj)]at e2;obtain⟨u',r',q⟩:=hl j y v' e1 e2 e3;refine⟨u',r',?_⟩;rcases q with q|⟨k,c',e,z'⟩
    ·exact .inl q
    ·refine .inr ⟨k,c',e,z'.sameBut hs ?_⟩;rintro rfl;exact hj (zzo hN e1 (I.ok.inj _ _ _ e hc▸hi))
  ·by_cases hcc:c'=c
   ·subst hcc;exact⟨_,hc'⟩
   ·obtain⟨w2,z2⟩:=I.cell y c' e;exact⟨w2,z2.sameBut hs hcc⟩
  ·obtain⟨e,n,ne,nf,d⟩:=I.pin p hp;refine⟨(hs.2 p.1 ?_).trans e,n,ne,nf,d⟩;intro q;rw[q,hoc]at e;have q':oc=p.2:=yS e;exact d w' (by rw[<-q'];exact hocd)
def zol{M:Model}{A:yN}{E:yb->yc->Prop}{i:Nat}{x:yF}{v:V}{u:yb}{Q:Unit->yc->Prop}(I:Inv X U Y H s)(hN:X.N.Nodup)(hi:X.N[i]?=some x)(hx:Loc X.env.scope x)(r:RelV v u)
 (h:∀s',Inv X U (Y.set i (some v)) H s'->Q () s') (hf:X.fn x=true\/X.env.scope.names.lookup x=some .local:=by first|exact .inl rfl|exact .inr rfl|assumption):yo M A (storeName X.env x u) Q E s :=
 zLm I hN hi hx r (λs' I' _=>h s' I') hf
def Inv.call'{s':yc}{ch:List yg}(I:Inv X U Y H s)(ho:s'.os=s.os)(u:Un (frs X.stack) ch H H' s.heap s'.heap)(hok:HOk X.prog X.w H' s'.heap)(hg:AllBare s'.gens)
 (hch:∀b∈ch,(b∈X.ex\/X.s₀.heap.objs.size<=b)/\b≠X.env.locals/\(∀x c,X.env.cells.lookup x=some c->c≠b)/\∀p∈X.pn++U,p.1≠b):Inv X U Y H' s':=by
 obtain⟨h',g',d',t',o'⟩:=s';have e:o'=s.os:=ho;subst e;exact I.call (g':=g') (t':=t') (d':=d') u hok hg hch
end
abbrev XK:=yb->Option yg->Hp->Prop
abbrev St:=List (Option V)
abbrev VK:=V->Hp->Prop
abbrev TE:=St->Hp->VK->Prop
abbrev TT:=St->Hp->(Bool->Hp->Prop)->Prop
abbrev TA:=St->Hp->(List V->Hp->Prop)->Prop
structure Ends where
 nx:St->Hp->Prop
 rt:VK
 bk:St->Hp->Prop:=λ_ _=>False
 ct:St->Hp->Prop:=λ_ _=>False
abbrev TS:=Ends->St->Hp->Prop
def EP(X:Cx)(U:List (yg×xb))(Y:St)(Q:VK)(u:yb)(s':yc):Prop:=∃v H',Inv X U Y H' s'/\RelV v u/\Q v H'
def TP(X:Cx)(U:List (yg×xb))(Y:St)(Q:Bool->Hp->Prop)(b:Bool)(s':yc):Prop:=∃H',Inv X U Y H' s'/\Q b H'
def AP(X:Cx)(U:List (yg×xb))(Y:St)(Q:List V->Hp->Prop)(us:List yb)(s':yc):Prop:=∃vs H',Inv X U Y H' s'/\Vals vs us/\Q vs H'
def SP(X:Cx)(U:List (yg×xb))(D:Ends)(f:Flow)(s':yc):Prop :=
 match f with
 |.next=>∃Y' H',Inv X U Y' H' s'/\D.nx Y' H'
 |.brk=>∃Y' H',Inv X U Y' H' s'/\D.bk Y' H'
 |.cont=>∃Y' H',Inv X U Y' H' s'/\D.ct Y' H'
 |.ret u=>∃v Y' H',Inv X U Y' H' s'/\RelV v u/\D.rt v H'
def PE(X:Cx)(e:yD)(t:TE):Prop :=
 ∀(U:List (yg×xb)) (s:yc) (Y:St) (H:Hp) (Q:VK),Inv X U Y H s->t Y H Q->yo (yx X.prog X.w) X.A (Yt e X.env) (EP X U Y Q) X.xe s
def PT(X:Cx)(e:yD)(t:TT):Prop :=
 ∀(U:List (yg×xb)) (s:yc) (Y:St) (H:Hp) (Q:Bool->Hp->Prop),Inv X U Y H s->t Y H Q->yo (yx X.prog X.w) X.A (isTrue e X.env (Yt e X.env)) (TP X U Y Q) X.xe s
def PW(X:Cx)(e:yD)(t:TT):Prop :=
 ∀(whole:Sem yb)(U:List (yg×xb)) (s:yc) (Y:St) (H:Hp) (Q:Bool->Hp->Prop),Inv X U Y H s->t Y H Q->yo (yx X.prog X.w) X.A (isTrue e X.env whole) (TP X U Y Q) X.xe s
def PA(X:Cx)(es:List yD)(t:TA):Prop :=
 ∀(pos:xV)(U:List (yg×xb)) (s:yc) (Y:St) (H:Hp) (Q:List V->Hp->Prop),Inv X U Y H s->t Y H Q->yo (yx X.prog X.w) X.A (spliced (YZ pos (yr es X.env))) (AP X U Y Q) X.xe s
def PS(X:Cx)(st:Yg)(t:TS):Prop :=
 ∀(U:List (yg×xb)) (s:yc) (Y:St) (H:Hp) (D:Ends),Inv X U Y H s->t D Y H->yo (yx X.prog X.w) X.A (exec st X.env) (SP X U D) X.xe s
def PSs(X:Cx)(st:List Yg)(t:TS):Prop :=
 ∀(U:List (yg×xb)) (s:yc) (Y:St) (H:Hp) (D:Ends),Inv X U Y H s->t D Y H->yo (yx X.prog X.w) X.A (execs st X.env) (SP X U D) X.xe s
def thn{α:Type}{t:Sem α}{Q Q':α->yc->Prop}{M:Model}{A:yN}{E:yb->yc->Prop}{s:yc}(h:yo M A t Q E s)(hQ:∀a s,Q a s->Q' a s):yo M A t Q' E s:=YU h hQ λ_ _ x=>x
section
variable {X:Cx}
def zfy(i:Nat):TE:=λY H Q=>∃v,Y[i]?=some (some v)/\Q v H
def tC(v:V):TE:=λ_ H Q=>Q v H
def znw{i:Nat}{x:yF}{pos:xV}(hN:X.N[i]?=some x)(hv:Vis X.env.scope x)(hd:(x==("__debug__":yF))=false:=by decide)(hcd:(x==("__classdict__":yF))=false:=by decide):PE X (.Name x pos) (zfy i):=by
 intro U s Y H Q I h;obtain⟨v,e,h⟩:=h;obtain⟨m,hn,hl⟩:=I.loc;obtain⟨u,r,l⟩:=hl i x v hN e hv;have fin:EP X U Y Q u s:=⟨v,H,I,r,h⟩
 rcases l with ⟨hk,hm⟩|⟨hk,c,hc,hcell⟩
 ·exact wpAny_Name (wpAny_loadName_local I.ok.kind hk hn hm fin) hd
 ·rcases hk with hk|hk
  ·exact wpAny_Name (wpAny_loadName_cell I.ok.kind hk hc hcell fin) hd
  ·exact wpAny_Name (wpAny_loadName_free I.ok.kind hk hc hcell fin hcd) hd
def zaw{i j pos}:PE X (.Constant (.int i) j pos) (tC (.int i)):=λ_ _ _ H _ I h=>wpAny_Constant_int ⟨.int i,H,I.tok _,⟨_,rfl⟩,h⟩
def z1x{b j pos}:PE X (.Constant (.bool b) j pos) (tC (.bl b)):=λ_ _ _ H _ I h=>Constant_bool ⟨.bl b,H,I,rfl,h⟩
def z2w{j pos}:PE X (.Constant .none j pos) (tC .non):=λ_ _ _ H _ I h=>Constant_none ⟨.non,H,I,rfl,h⟩
def zOv{x j pos}:PE X (.Constant (.str x) j pos) (tC (.str x)):=λ_ _ _ H _ I h=>Calls.Constant_str ⟨.str x,H,I.tok _,⟨_,rfl⟩,h⟩
def Gl(X:Cx)(x:yF):Prop:=X.env.kindOf x=some .globalImplicit
def zPu{E:yb->yc->Prop}{U:List (yg×xb)}{s:yc}{Y:St}{H:Hp}{x:yF}{u:yb}{pos:xV}{Q:yb->yc->Prop}(I:Inv X U Y H s)(hg:Gl X x)(hm:X.mg x=some u)(h:Q u s)
 (hd:(x==("__debug__":yF))=false:=by decide):yo (yx X.prog X.w) X.A (Yt (.Name x pos) X.env) Q E s :=
 Calls.Name_function_global I.ok.kind hg (Calls.loadGlobal_global (by rw[I.ok.glob];exact I.mod.glob.keeps I.bk) hm h) hd
def zEk{E:yb->yc->Prop}{U:List (yg×xb)}{s:yc}{Y:St}{H:Hp}{x:yF}{u:yb}{pos:xV}{Q:yb->yc->Prop}(I:Inv X U Y H s)(hg:Gl X x)(hm:X.mg x=none)(hv:yI x=some u)(h:Q u s)
 (hn:x≠"__name__":=by decide) (hd:(x==("__debug__":yF))=false:=by decide):yo (yx X.prog X.w) X.A (Yt (.Name x pos) X.env) Q E s:=by
 obtain⟨mb,h1,h2⟩:=I.mod.blt;exact Calls.Name_function_global I.ok.kind hg (Calls.loadGlobal_builtin (by rw[I.ok.glob];exact I.mod.glob.keeps I.bk) hm (by rw[I.ok.blt];exact h1.keeps I.bk) ((h2 x hn).trans hv) h) hd
variable {a b:yD}{ta tb:TE}{pos:xV}
def sv(b:yD){op:CmpOp}(h:op≠.In)(h2:op≠.NotIn):behindInMarks op b=false:=by
 have e1:(op==CmpOp.In)=false:=by cases op<;>first|rfl|exact absurd rfl h
 have e2:(op==CmpOp.NotIn)=false:=by cases op<;>first|rfl|exact absurd rfl h2
 cases b<;>simp[behindInMarks,e1,e2]
def tB(t:TE):TT:=λY H Q=>t Y H λx H1=>∃c,x=.bl c/\Q c H1
def zWw{e:yD}{t:TE}(h:PE X e t)(he:∀whole,isTrue e X.env whole=(do let v <-whole;standAt e.pos;holding [v] (truthy v)):=by intro _;rfl):PT X e (tB t):=by
 intro U s Y H Q I hw;refine isTrue_plain (thn (h U s Y H _ I hw) λv s1 ⟨x,H1,I1,r1,q1⟩=>?_) (he _);obtain⟨d,rfl,q⟩:=q1;cases r1;exact YJ ⟨H1,I1,q⟩
variable {tA tB':TT}{rest:List yD}
def zvy(t u:TT):TT:=λY H Q=>t Y H λc H1=>if c=true then u Y H1 Q else Q false H1
def tOr(t u:TT):TT:=λY H Q=>t Y H λc H1=>if c=true then Q true H1 else u Y H1 Q
def zyy(t:TT):TT:=λY H Q=>t Y H λc H1=>Q (!c) H1
def zKu(ha:PT X a tA):PW X (.BoolOp .And [a] pos) tA:=by
 intro wh U s Y H Q I h;refine isTrue_and (thn (ha U s Y H Q I h) λc s1 e=>?_)
 cases c with
 |true=>exact isTrue_and_nil e
 |false=>exact e
def zmw(ha:PT X a tA):PW X (.BoolOp .Or [a] pos) tA:=by
 intro wh U s Y H Q I h;refine isTrue_or (thn (ha U s Y H Q I h) λc s1 e=>?_)
 cases c with
 |false=>exact isTrue_or_nil e
 |true=>exact e
def zVv(ha:PT X a tA)(hb:PW X (.BoolOp .And (b::rest) pos) tB'):PW X (.BoolOp .And (a::b::rest) pos) (zvy tA tB'):=by
 intro wh U s Y H Q I h;refine isTrue_and (thn (ha U s Y H _ I h) λc s1 ⟨H1,I1,q1⟩=>?_)
 cases c with
 |true=>exact hb wh U s1 Y H1 Q I1 q1
 |false=>exact⟨H1,I1,q1⟩
def zYx(ha:PT X a tA)(hb:PW X (.BoolOp .Or (b::rest) pos) tB'):PW X (.BoolOp .Or (a::b::rest) pos) (tOr tA tB'):=by
 intro wh U s Y H Q I h;refine isTrue_or (thn (ha U s Y H _ I h) λc s1 ⟨H1,I1,q1⟩=>?_)
 cases c with
 |true=>exact⟨H1,I1,q1⟩
 |false=>exact hb wh U s1 Y H1 Q I1 q1
def zow(ha:PT X a tA):PT X (.UnaryOp .Not a pos) (zyy tA):=by
 intro U s Y H Q I h;exact isTrue_not (ha U s Y H (λc H1=>Q (!c) H1) I h)
def zmx(ta tb:TE):TE:=λY H Q=>ta Y H λx H1=>∃c,x=.bl c/\if c=true then tb Y H1 Q else Q (.bl false) H1
def zGy(ta tb:TE):TE:=λY H Q=>ta Y H λx H1=>∃c,x=.bl c/\if c=true then Q (.bl true) H1 else tb Y H1 Q
def z4v{op}{t:TE}(h:PE X a t):PE X (.BoolOp op [a] pos) t:=λU s Y H Q I hw=>BoolOp_one (h U s Y H Q I hw)
def zdw(ha:PE X a ta)(hb:PE X (.BoolOp .And (b::rest) pos) tb):PE X (.BoolOp .And (a::b::rest) pos) (zmx ta tb):=by
 intro U s Y H Q I h;refine BoolOp_and (thn (ha U s Y H _ I h) λv s1 ⟨x,H1,I1,r1,q1⟩=>?_);obtain⟨c,rfl,q1⟩:=q1;cases r1;refine YJ ?_
 cases c with
 |true=>exact hb U s1 Y H1 Q I1 q1
 |false=>exact⟨.bl false,H1,I1,rfl,q1⟩
def zQx(ha:PE X a ta)(hb:PE X (.BoolOp .Or (b::rest) pos) tb):PE X (.BoolOp .Or (a::b::rest) pos) (zGy ta tb):=by
 intro U s Y H Q I h;refine BoolOp_or (thn (ha U s Y H _ I h) λv s1 ⟨x,H1,I1,r1,q1⟩=>?_);obtain⟨c,rfl,q1⟩:=q1;cases r1;refine YJ ?_
 cases c with
 |false=>exact hb U s1 Y H1 Q I1 q1
 |true=>exact⟨.bl true,H1,I1,rfl,q1⟩
end
def SqL(K:yz)(H:Hp)(a:yg)(xs:List V):Prop :=
 Rd H a (.lst xs) \/
  ∃(o:xb)(its:Array yb)(n:Nat),K.lookup a=some o/\o.cls=.type "list"/\o.dict=none/\o.data=.seq its n/\its.size<=yE/\Vals xs its.toList
def SqT(K:yz)(H:Hp)(a:yg)(xs:List V):Prop :=
 Rd H a (.tup xs) \/
  ∃(o:xb)(its:Array yb)(n:Nat),K.lookup a=some o/\o.cls=.type "tuple"/\o.data=.seq its n/\its.size<=yE/\Vals xs its.toList
def zTy:yb->Option V
 |.none=>some .non
 |.bool b=>some (.bl b)
 |.int i _=>some (.int i)
 |.str x _=>some (.str x)
 |.bytes b _=>some (.byt b)
 |.float b _=>some (.flt b)
 |.ref a=>some (.ref a)
 |.type n=>some (.ty n)
 |_=>none
def RelV.abs{x:V}{u:yb}(r:RelV x u):zTy u=some x:=by
 cases x with
 |non=>cases r;rfl
 |bl _=>cases r;rfl
 |int _=>obtain⟨t,rfl⟩:=r;rfl
 |str _=>obtain⟨t,rfl⟩:=r;rfl
 |byt _=>obtain⟨t,rfl⟩:=r;rfl
 |flt _=>obtain⟨t,rfl⟩:=r;rfl
 |ref _=>cases r;rfl
 |ty _=>cases r;rfl
def RelV.inj{x y:V}{u:yb}(r:RelV x u)(q:RelV y u):x=y:=yS (r.abs.symm.trans q.abs)
def Vals.inj{xs ys:List V}{us:List yb}(h:Vals xs us):Vals ys us->xs=ys:=by
 induction h generalizing ys with
 |nil=>intro h;cases h;rfl
 |cons r _ ih=>
  intro h
  cases h with
  |cons r' t'=>rw[r.inj r',ih t']
section
variable {X:Cx}{U:List (yg×xb)}{Y:St}{H:Hp}{s:yc}{a:yg}{xs ys:List V}
def SqL.of{K:yz}(h:H a=some (.lst xs)):SqL K H a xs:=.inl (.inl h)
def SqT.of{K:yz}(h:H a=some (.tup xs)):SqT K H a xs:=.inl (.inl h)
def Inv.list(I:Inv X U Y H s)(h:SqL X.K H a xs):∃its:List yb,Vals xs its/\PlainL s.heap a its.toArray/\xs.length<=yE:=by
 rcases h with h|⟨o,its,n,hk,hc,hd,hs,hz,r⟩
 ·obtain⟨z,its,n,r,e⟩:=h.ok I.hok;exact⟨its,r,⟨_,n,e,rfl,rfl,rfl⟩,z⟩
 ·refine⟨its.toList,r,⟨o,n,I.kIn a o hk,hc,hd,by simpa using hs⟩,?_⟩;have e:=r.length;simp only[xC]at e;omega
def Inv.tuple(I:Inv X U Y H s)(h:SqT X.K H a xs):∃its:List yb,Vals xs its/\IsTup s.heap a its.toArray/\xs.length<=yE:=by
 rcases h with h|⟨o,its,n,hk,hc,hs,hz,r⟩
 ·obtain⟨z,its,r,p⟩:=h.ok I.hok;exact⟨its,r,p,z⟩
 ·refine⟨its.toList,r,⟨o,I.kIn a o hk,hc,n,by simpa using hs⟩,?_⟩;have e:=r.length;simp only[xC]at e;omega
def Inv.sw(I:Inv X U Y H s)(h:SqL X.K H a xs)(h':SqL X.K H a ys):xs=ys:=by
 obtain⟨its,r,⟨o,n,e,_,_,d⟩,_⟩:=I.list h;obtain⟨its',r',⟨o',n',e',_,_,d'⟩,_⟩:=I.list h';rw[e]at e';cases e';rw[d]at d';injection d' with d1 _;have:its=its':=by simpa using congrArg Array.toList d1
 subst this;exact r.inj r'
def Inv.sf(I:Inv X U Y H s)(h:SqT X.K H a xs)(h':SqT X.K H a ys):xs=ys:=by
 obtain⟨its,r,⟨o,e,_,n,d⟩,_⟩:=I.tuple h;obtain⟨its',r',⟨o',e',_,n',d'⟩,_⟩:=I.tuple h';rw[e]at e';cases e';rw[d]at d';injection d' with d1 _;have:its=its':=by simpa using congrArg Array.toList d1
 subst this;exact r.inj r'
end
abbrev Cx.se(X:Cx)(E:yb->yc->Prop):Cx:={X with xe:=E }
abbrev Cx.nox(X:Cx):Cx:=X.se λ_ _=>False
def Cx.Ok.se{X:Cx}(ok:X.Ok)(E:yb->yc->Prop):(X.se E).Ok :=
 ⟨ok.mod,ok.kind,ok.glob,ok.blt,ok.above,ok.inj,ok.has,ok.cab,ok.hd,ok.frames,ok.stk,ok.exf,ok.bs,ok.bsz,ok.sP,ok.exfs,ok.TQ,ok.frf⟩
def Cx.Ok.Tq{X:Cx}{E:yb->yc->Prop}(ok:(X.se E).Ok):X.Ok :=
 ⟨ok.mod,ok.kind,ok.glob,ok.blt,ok.above,ok.inj,ok.has,ok.cab,ok.hd,ok.frames,ok.stk,ok.exf,ok.bs,ok.bsz,ok.sP,ok.exfs,ok.TQ,ok.frf⟩
section
variable {X:Cx}{U:List (yg×xb)}{Y:St}{H:Hp}{s:yc}{E:yb->yc->Prop}
def Inv.se(I:Inv X U Y H s)(E:yb->yc->Prop):Inv (X.se E) U Y H s:=⟨I.ok.se E,I.os,I.bare,I.base,I.loc,I.cell,I.free,I.freeC,I.pin,I.hok,I.len⟩
def Inv.Tq(I:Inv (X.se E) U Y H s):Inv X U Y H s:=⟨I.ok.Tq,I.os,I.bare,I.base,I.loc,I.cell,I.free,I.freeC,I.pin,I.hok,I.len⟩
def SP.Tq{D:Ends}{f:Flow}{s':yc}(h:SP (X.se E) U D f s'):SP X U D f s':=by
 cases f with
 |next=>obtain⟨Y',H',I,q⟩:=h;exact⟨Y',H',I.Tq,q⟩
 |brk=>obtain⟨Y',H',I,q⟩:=h;exact⟨Y',H',I.Tq,q⟩
 |cont=>obtain⟨Y',H',I,q⟩:=h;exact⟨Y',H',I.Tq,q⟩
 |ret u=>obtain⟨v,Y',H',I,r,q⟩:=h;exact⟨v,Y',H',I.Tq,r,q⟩
def PSs.nox{st:List Yg}{t:TS}(h:PSs X.nox st t):PSs X st t:=λU s Y H D I hw=>
 YU (h U s Y H D (I.se _) hw) (λ_ _ q=>q.Tq) λ_ _ z=>xK z
variable {st:Yg}{rest:List Yg}{t u:TS}{e:yD}{te:TE}{pos:xV}
def zMx:TS:=λD Y H=>D.nx Y H
def zuy(t u:TS):TS:=λD Y H=>t {D with nx:=u D } Y H
def zFu:PSs X [] zMx:=λ_ _ Y H _ I h=>wpAny_execs_nil ⟨Y,H,I,h⟩
def z2s(h1:PS X st t)(h2:PSs X rest u):PSs X (st::rest) (zuy t u):=by
 intro U s Y H D I h;refine wpAny_execs_cons (thn (h1 U s Y H {D with nx:=u D } I h) λf s1 q=>?_)
 cases f with
 |next=>
  obtain⟨Y',H',I',q⟩:=q;exact h2 U s1 Y' H' D I' q
 |ret v=>exact q
 |brk=>exact q
 |cont=>exact q
def zyu(h1:PS X st t):PSs X [st] t:=by
 intro U s Y H D I h;refine wpAny_execs_cons (thn (h1 U s Y H D I h) λf s1 q=>?_)
 cases f with
 |next=>exact wpAny_execs_nil q
 |ret v=>exact q
 |brk=>exact q
 |cont=>exact q
def Inv.quiet{U:List (yg×xb)}{Y:St}{H:Hp}{s:yc}(I:Inv X U Y H s):interactive X.env=false:=by simp[interactive,I.ok.kind]
def zvx(te:TE):TS:=λD Y H=>te Y H λ_ H1=>D.nx Y H1
def zCu(he:PE X e te)(hs:swapsWith e none pos.line X.env=pure false:=by rfl):PS X (.Expr e pos) (zvx te):=by
 intro U s Y H D I h;exact wpAny_Expr_any (thn (he U s Y H _ I h) λv s1 ⟨x,H1,I1,r1,q1⟩=>⟨Y,H1,I1,q1⟩) I.quiet hs
def zJy(te:TE):TS:=λD Y H=>te Y H D.rt
def zbw(he:PE X e te):PS X (.Return (some e) pos) (zJy te):=by
 intro U s Y H D I h;exact wpAny_Return_some (thn (he U s Y H _ I h) λv s1 ⟨x,H1,I1,r1,q1⟩=>⟨x,Y,H1,I1,r1,q1⟩)
def zry(c:TT)(t u:TS):TS:=λD Y H=>c Y H λb H1=>if b=true then t D Y H1 else u D Y H1
def zkx{c:yD}{a b:List Yg}{tc:TT}(hc:PT X c tc)(ha:PSs X a t)(hb:PSs X b u):PS X (.If c a b pos) (zry tc t u):=by
 intro U s Y H D I h;refine wpAny_If (thn (hc U s Y H _ I h) λd s1 ⟨H1,I1,q1⟩=>?_)
 cases d with
 |true=>exact ha U s1 Y H1 D I1 q1
 |false=>exact hb U s1 Y H1 D I1 q1
def zhw:TS:=λ_ _ _=>False
def zjt:PS X st zhw:=λ_ _ _ _ _ _ h=>h.elim
end
abbrev TG:=V->St->Hp->(St->Hp->Prop)->Prop
abbrev TGs:=List V->St->Hp->(St->Hp->Prop)->Prop
def PG(X:Cx)(target:yD)(t:TG):Prop :=
 ∀(U:List (yg×xb)) (s:yc) (Y:St) (H:Hp) (v:V) (u:yb) (Q:St->Hp->Prop),Inv X U Y H s->RelV v u->t v Y H Q ->
  yo (yx X.prog X.w) X.A (assign target X.env u) (λ_ s'=>∃Y' H',Inv X U Y' H' s'/\Q Y' H') X.xe s
def PGs(X:Cx)(ts:List yD)(t:TGs):Prop :=
 ∀(U:List (yg×xb)) (s:yc) (Y:St) (H:Hp) (vs:List V) (us:List yb) (Q:St->Hp->Prop),Inv X U Y H s->Vals vs us->t vs Y H Q ->
  yo (yx X.prog X.w) X.A (assignInOrder ((Ym ts X.env).map (·.2)) us) (λ_ s'=>∃Y' H',Inv X U Y' H' s'/\Q Y' H') X.xe s
abbrev z7x:=V->V->V->Hp->(Hp->Prop)->Prop
def zix(X:Cx)(t:z7x):Prop :=
 ∀(U:List (yg×xb)) (s:yc) (Y:St) (H:Hp) (o i v:V) (ov iv u:yb) (Q:Hp->Prop),Inv X U Y H s->RelV o ov->RelV i iv->RelV v u->t o i v H Q ->
  yo (yx X.prog X.w) X.A (setItem ov iv u) (λ_ s'=>∃H',Inv X U Y H' s'/\Q H') X.xe s
abbrev TIp:=V->V->Hp->VK->Prop
def PIp(X:Cx)(op:Operator)(t:TIp):Prop :=
 ∀(U:List (yg×xb)) (s:yc) (Y:St) (H:Hp) (x y:V) (v u:yb) (Q:VK),Inv X U Y H s->RelV x v->RelV y u->t x y H Q ->
  yo (yx X.prog X.w) X.A (inplaceOp op v u) (EP X U Y Q) X.xe s
section
variable {X:Cx}{pos:xV}
def zRu(i:Nat):TG:=λv Y H Q=>Q (Y.set i (some v)) H
def zQr{i:Nat}{x:yF}(hN:X.N.Nodup)(hi:X.N[i]?=some x)(hx:Loc X.env.scope x)(hf:X.fn x=true\/X.env.scope.names.lookup x=some .local:=by first|exact .inl rfl|exact .inr rfl|assumption):PG X (.Name x pos) (zRu i):=by
 intro U s Y H v u Q I r h;exact wpAny_assign_Name (zol I hN hi hx r (λs' I'=>⟨_,H,I',h⟩) hf)
def zCy:TGs:=λvs Y H Q=>vs=[]/\Q Y H
def zDx(t:TG)(u:TGs):TGs:=λvs Y H Q=>∃v r,vs=v::r/\t v Y H λY' H'=>u r Y' H' Q
def z4q:PGs X [] zCy:=by
 intro U s Y H vs us Q I r h;obtain⟨e,h⟩:=h;subst e;cases r;exact assignInOrder_nil ⟨Y,H,I,h⟩
def zAo{e:yD}{es:List yD}{t:TG}{u:TGs}(h1:PG X e t)(h2:PGs X es u)
 (hs:(Ym (e::es) X.env).map (·.2)=assign e X.env::(Ym es X.env).map (·.2):=by rfl):PGs X (e::es) (zDx t u):=by
 intro U s Y H vs us Q I r h;obtain⟨v,vr,e1,h⟩:=h;subst e1
 cases r with
 |cons r rr=>
  rw[hs];refine assignInOrder_cons (thn (h1 U s Y H _ _ _ I r h) λ_ s1 ⟨Y1,H1,I1,q1⟩=>?_);exact h2 U s1 Y1 H1 _ _ Q I1 rr q1
def zLy(K:yz)(n:Nat)(t:TGs):TG:=λv Y H Q=>∃a xs,v=.ref a/\SqT K H a xs/\xs.length=n/\t xs Y H Q
def zGt{es:List yD}{k:Nat}{t:TGs}{n:Nat}(hc:X.calm=true)(h:PGs X es t)
 (hn:(Ym es X.env).length=n:=by rfl) (hst:(Ym es X.env).findIdx? (·.1)=none:=by rfl):PG X (.Tuple es k pos) (zLy X.K n t):=by
 intro U s Y H v u Q I r hw;obtain⟨a,xs,e1,hq,hl,hw⟩:=hw;subst e1;cases r;obtain⟨its,rv,ht,hz⟩:=I.tuple hq;refine assign_Tuple_tuple (I.ok.hd hc) ht (by simp[hn,<-hl,rv.length]) hst λh' hx=>?_;have I1:Inv X U Y H {s with heap:=h' }:=I.kept (t':=s.toks) λb o e=>hx b o (yt (ym e)) e;exact h U _ Y H xs _ Q I1 (by simpa using rv) hw
def zav(to ti:TE)(t:z7x):TG:=λv Y H Q=>to Y H λo H1=>ti Y H1 λi H2=>t o i v H2 λH3=>Q Y H3
def zPt{o i:yD}{to ti:TE}{t:z7x}(ho:PE X o to)(hi:PE X i ti)(hs:zix X t)
 (ha:∀v,assign (.Subscript o i pos) X.env v=(do
  let ov <-holding [v] (Yt o X.env)
  let iv <-holding [v,ov] (Yt i X.env)
  standAt pos
  holding [v,ov,iv] (setItem ov iv v)
  release [v,ov,iv] []):=by intro _;rfl):PG X (.Subscript o i pos) (zav to ti t):=by
 intro U s Y H v u Q I r h;rw[ha];refine ya (yP (thn (ho U s Y H _ I h) λov s1 ⟨x,H1,I1,r1,q1⟩=>?_));refine ya (yP (thn (hi U s1 Y H1 _ I1 q1) λiv s2 ⟨y,H2,I2,r2,q2⟩=>?_));refine ya (wpAny_standAt (ya (yP (thn (hs U s2 Y H2 x y v ov iv u _ I2 r1 r2 r q2) λ_ s3 ⟨H3,I3,q3⟩=>?_))));exact wpAny_release ⟨Y,H3,I3,q3⟩
def zHx(te:TE)(g:TG):TS:=λD Y H=>te Y H λx H1=>g x Y H1 D.nx
def zOw{tg e:yD}{te:TE}{g:TG}(he:PE X e te)(hg:PG X tg g)(hs:swapsWithSole [tg] e pos.line X.env=pure false:=by rfl)(hw:swappedStores [tg] e X.env=pure none:=by rfl)
 (h1:(Ym [tg] X.env).map (·.2)=[assign tg X.env]:=by rfl):PS X (.Assign [tg] e pos) (zHx te g):=by
 intro U s Y H D I h;refine wpAny_Assign_stores (thn (he U s Y H _ I h) λv s1 ⟨x,H1,I1,r1,q1⟩=>?_) hs hw;rw[h1];exact thn (hg U s1 Y H1 x v _ I1 r1 q1) λ_ s2 q=>q
def zzw{i:Nat}{x:yF}{e:yD}{te:TE}{pos':xV}(hN:X.N.Nodup)(hi:X.N[i]?=some x)(hx:Loc X.env.scope x)(he:PE X e te)(hs:swapsWith e (some (.Name x pos')) pos.line X.env=pure false:=by rfl)(hf:X.fn x=true\/X.env.scope.names.lookup x=some .local:=by first|exact .inl rfl|exact .inr rfl|assumption) :
 PS X (.Assign [.Name x pos'] e pos) (zHx te (zRu i)):=by
 intro U s Y H D I h;refine wpAny_Assign_Name (thn (he U s Y H _ I h) λv s1 ⟨y,H1,I1,r1,q1⟩=>?_) hs;exact zol I1 hN hi hx r1 (λs2 I2=>⟨_,H1,I2,q1⟩) hf
def zQy(i:Nat)(te:TE)(ti:TIp):TS:=λD Y H=>∃x,Y[i]?=some (some x)/\te Y H λy H1=>ti x y H1 λz H2=>D.nx (Y.set i (some z)) H2
def zRw{i:Nat}{x:yF}{e:yD}{te:TE}{op:Operator}{ti:TIp}{pos':xV}(hN:X.N.Nodup)(hi:X.N[i]?=some x)(hx:Loc X.env.scope x)(he:PE X e te)(ho:PIp X op ti)(hf:X.fn x=true\/X.env.scope.names.lookup x=some .local:=by first|exact .inl rfl|exact .inr rfl|assumption) :
 PS X (.AugAssign (.Name x pos') op e pos) (zQy i te ti):=by
 intro U s Y H D I h;obtain⟨v,e1,h⟩:=h;obtain⟨m,hn,hl⟩:=I.loc;have vis:Vis X.env.scope x:=by rcases hx with k|k;exact .inl k;exact .inr (.inl k)
 obtain⟨u,r,l⟩:=hl i x v hi e1 vis;refine wpAny_AugAssign_Name ?_
 have go:yo (yx X.prog X.w) X.A (Yt e X.env) (λw s₂=>yo (yx X.prog X.w) X.A (inplaceOp op u w) (λr s₃=>yo (yx X.prog X.w) X.A (storeName X.env x r) (λ_=>SP X U D .next) X.xe s₃) X.xe s₂) X.xe s:=by
  refine thn (he U s Y H _ I h) λw s1 ⟨y,H1,I1,r1,q1⟩=>?_;refine thn (ho U s1 Y H1 v y u w _ I1 r r1 q1) λz s2 ⟨zv,H2,I2,r2,q2⟩=>?_;exact zol I2 hN hi hx r2 (λs3 I3=>⟨_,H2,I3,q2⟩) hf
 rcases l with ⟨hk,hm⟩|⟨hk,c,hc,hcell⟩
 ·exact wpAny_loadName_local I.ok.kind hk hn hm go
 ·rcases hk with hk|hk
  ·exact wpAny_loadName_cell I.ok.kind hk hc hcell go
  ·rcases hx with k|k
   ·have:X.env.scope.names.lookup x=some .free:=hk;rw[k]at this;cases this
   ·have:X.env.scope.names.lookup x=some .free:=hk;rw[k]at this;cases this
def z6w(c:TT)(tb:TS):TS:=λD Y H=>∃W:Nat->St->Hp->Prop,(∃m,W m Y H)/\∀m Y H,W m Y H ->
 c Y H λb H1=>if b=true then ∃N:St->Hp->Prop,(∀Y' H',N Y' H'->∃m',m'<m/\W m' Y' H')/\tb {D with nx:=N,ct:=N,bk:=D.nx } Y H1 else D.nx Y H1
def zUs{c:yD}{body:List Yg}{tc:TT}{tb:TS}(hp:PassesOwn (yx X.prog X.w) X.A X.env X.xe)(hc:PT X c tc)(hb:PSs X body tb):PS X (.While c body [] pos) (z6w tc tb):=by
 intro U s Y H D I h;obtain⟨W,⟨m0,w0⟩,turn⟩:=h;refine wpAny_While (codeAny_whileLoop (λn s'=>∃Y' H',Inv X U Y' H' s'/\W n Y' H') ?_ m0 ⟨Y,H,I,w0⟩);rintro n s1 ⟨Y1,H1,I1,w1⟩;refine xq hp (thn (hc U s1 Y1 H1 _ I1 (turn n Y1 H1 w1)) λb s2 ⟨H2,I2,q2⟩=>?_)
 cases b with
 |true=>
  obtain⟨N,hN,q2⟩:=q2;rw[if_pos rfl];refine xq hp (thn (hb U s2 Y1 H2 _ I2 q2) λf s3 q3=>?_)
  cases f with
  |next=>
   obtain⟨Y3,H3,I3,n3⟩:=q3;obtain⟨m',hm,w3⟩:=hN Y3 H3 n3;exact⟨m',hm,Y3,H3,I3,w3⟩
  |cont=>
   obtain⟨Y3,H3,I3,n3⟩:=q3;obtain⟨m',hm,w3⟩:=hN Y3 H3 n3;exact⟨m',hm,Y3,H3,I3,w3⟩
  |brk=>exact q3
  |ret v=>exact q3
 |false=>
  rw[if_neg yv];exact wpAny_execs_nil ⟨Y1,H2,I2,q2⟩
end
structure It where
 go:Nat->Hp->Prop
 yld:Nat->Hp->V->Hp->Prop
 stop:Nat->Hp->Prop
def zlp(X:Cx)(U:List (yg×xb))(H:Hp)(b:yg):Prop :=
 H b=none/\b≠X.env.locals/\b∉X.fs/\(b∈X.ex\/X.s₀.heap.objs.size<=b)/\(∀x c,X.env.cells.lookup x=some c->c≠b)/\∀p∈X.pn++U,p.1≠b
def Inv.sC{X:Cx}{U:List (yg×xb)}{Y:St}{H H':Hp}{s:yc}{b:yg}(I:Inv X U Y H s)(hb:s.heap.objs.size<=b)(hn:H' b=none):zlp X U H' b:=by
 refine⟨hn,Yc (yC I.lt hb),I.nofs hb,.inr (yA I.sz hb),λx c e z=>?_,λp hp z=>?_⟩
 ·obtain⟨v,q⟩:=I.cell x c e;exact absurd (yC q.lt (by rw[z];exact hb)) (Ye _)
 ·exact absurd (yC (ym (I.pin p hp).1) (by rw[z];exact hb)) (Ye _)
structure Turn(P:yy)(w:yH)(K:yz)(tg:yD)(δ:It)(fp:List yg)(it:yg)(tn:Nat->Yb->Prop):Prop where
 mem:it∈fp
 obj:∀i h,tn i h->∀b∈fp,∃o,h.get? b=some o/\∀v,o.data≠.cell v
 keep:∀i h h',tn i h->(∀b∈fp,∀o,h.get? b=some o->h'.get? b=some o)->tn i h'
 item:∀(X:Cx),X.prog=P->X.w=w->X.K=K->X.calm=true->∀(i:Nat)(U:List (yg×xb)) (s:yc) (Y:St) (H:Hp) (E:yb->yc->Prop),Inv X U Y H s->(∀b∈fp,zlp X U H b)->tn i s.heap->δ.go i H ->
  yo (yx P w) X.A (xY (.ref it)) (λr s1=>∃u,r=some u /\
   yo (yx P w) X.A (letOwnedTupleGo tg (.ref it) u) (λ_ s2=>∃x H',Inv X U Y H' s2/\RelV x u/\δ.yld i H x H'/\tn (i+1) s2.heap/\∀b∈fp,H' b=none) E s1) E s
 done:∀(X:Cx),X.prog=P->X.w=w->X.K=K->X.calm=true->∀(i:Nat)(U:List (yg×xb)) (s:yc) (Y:St) (H:Hp) (E:yb->yc->Prop),Inv X U Y H s->(∀b∈fp,zlp X U H b)->tn i s.heap->δ.stop i H ->
  yo (yx P w) X.A (xY (.ref it)) (λr s1=>r=none/\Inv X U Y H s1) E s
 self:∀(A:yN)(i:Nat)(s:yc)(Q:yb->yc->Prop)(E:yb->yc->Prop),tn i s.heap->Q (.ref it) s->yo (yx P w) A (pyIter (.ref it)) Q E s
abbrev TI:=St->Hp->(It->Hp->Prop)->Prop
def PIE(X:Cx)(U:List (yg×xb))(Y:St)(tg:yD)(R:It->Hp->Prop)(itv:yb)(s2:yc):Prop :=
 ∃(it:yg)(fp:List yg)(tn:Nat->Yb->Prop)(δ:It)(H':Hp),itv=.ref it/\Inv X U Y H' s2/\Turn X.prog X.w X.K tg δ fp it tn/\tn 0 s2.heap/\(∀b∈fp,zlp X U H' b)/\R δ H'
def PI(X:Cx)(tg iter:yD)(wi:TI):Prop :=
 ∀(U:List (yg×xb)) (s:yc) (Y:St) (H:Hp) (R:It->Hp->Prop),Inv X U Y H s->wi Y H R ->
  yo (yx X.prog X.w) X.A (Yt iter X.env) (λv s1=>yo (yx X.prog X.w) X.A (pyIter v) (PIE X U Y tg R) X.xe s1) X.xe s
def zzt{M:Model}{A:yN}{E:yb->yc->Prop}{s:yc}{tg:yD}{it:yg}{u:yb}{o:xb}{n:String}{vs:Array yb}{Q:Unit->yc->Prop}(ho:s.heap.get? it=some o)(hc:o.cls=.type n)(hd:o.data=.fields vs)
 (hn:["enumerate","zip","dict_itemiterator","dict_reverseitemiterator","odict_iterator","itertools.zip_longest","itertools.pairwise"].contains n=false) (hQ:Q () s):yo M A (letOwnedTupleGo tg (.ref it) u) Q E s:=by
 unfold letOwnedTupleGo
 cases tg<;>first
  |exact yf hQ
  |(cases u<;>first
   |exact yf hQ
   | (refine ya (wpAny_load ho ?_)
      rw[hc,hd];show yo M A (if(["enumerate","zip","dict_itemiterator","dict_reverseitemiterator","odict_iterator","itertools.zip_longest","itertools.pairwise"].contains n&&vs[0]?==some (YF _))=true then _ else _) Q E s;rw[if_neg (by intro h;rw[hn,Bool.false_and]at h;cases h)];exact yf hQ))
def Itl(K:yz)(a:yg):It :=
 ⟨λi H=>∃xs x,SqL K H a xs/\xs[i]?=some x,λi H x H'=>H'=H/\∀xs,SqL K H a xs->xs[i]?=some x,λi H=>∃xs,SqL K H a xs/\xs.length<=i⟩
def Itt(K:yz)(a:yg):It :=
 ⟨λi H=>∃xs x,SqT K H a xs/\xs[i]?=some x,λi H x H'=>H'=H/\∀xs,SqT K H a xs->xs[i]?=some x,λi H=>∃xs,SqT K H a xs/\xs.length<=i⟩
def Itr(lo:Int)(n:Nat):It:=⟨λi _=>i<n,λi H x H'=>H'=H/\x=.int (lo+i),λi _=>n<=i⟩
def zvq{P:yy}{w:yH}{K:yz}{tg:yD}(a it:yg):Turn P w K tg (Itl K a) [it] it (λi h=>h.IsListIter it a i) where
 mem:=by simp
 obj:=λi h st b hb=>by
  have e:b=it:=by simpa using hb
  subst e;obtain⟨o,e,c,d⟩:=st;exact⟨o,e,λv z=>by rw[d]at z;cases z⟩
 keep:=λi h h' st k=>st.at λo e=>k it (by simp) o e
 item:=by
  intro X hP hw hK hc i U s Y H E I hf st hg;subst hP hw hK;obtain⟨xs,x,hq,hx⟩:=hg;obtain⟨its,rv,p,hz⟩:=I.list hq;obtain⟨u,hu,ru⟩:=rv.get hx;obtain⟨f0,f1,f2,f3,f4,f5⟩:=hf it (by simp);refine wpAny_pyNext_list_item st p.isList (x:=u) (by simpa using hu) λh' st' sb=>?_;have I1:Inv X U Y H {s with heap:=h' }:=I.turned (t':=s.toks) (λb o hb e=>(sb.2 b hb).trans e) f0 f1 f3 f4 f5;obtain⟨o,e,c,d⟩:=id st';exact⟨u,rfl,zzt (s:={s with heap:=h' }) e c d (by decide) ⟨x,H,I1,ru,⟨rfl,λys hy=>by rw[I.sw hy hq];exact hx⟩,st',λb hb=>(hf b hb).1⟩⟩
 done:=by
  intro X hP hw hK hc i U s Y H E I hf st hg;subst hP hw hK;obtain⟨xs,hq,hx⟩:=hg;obtain⟨its,rv,p,hz⟩:=I.list hq;obtain⟨f0,f1,f2,f3,f4,f5⟩:=hf it (by simp);have hl:=rv.length;exact wpAny_pyNext_list_end (I.ok.hd hc) st p.isList (by simp;omega) λh' eb=>⟨rfl,I.turned (t':=s.toks) (λb o hb e=>eb b o hb e) f0 f1 f3 f4 f5⟩
 self:=λ_ _ _ _ _ st h=>wpAny_pyIter_listiter st h
def zhq{P:yy}{w:yH}{K:yz}{tg:yD}(a it:yg):Turn P w K tg (Itt K a) [it] it (λi h=>h.IsTupleIter it a i) where
 mem:=by simp
 obj:=λi h st b hb=>by
  have e:b=it:=by simpa using hb
  subst e;obtain⟨o,e,c,d⟩:=st;exact⟨o,e,λv z=>by rw[d]at z;cases z⟩
 keep:=λi h h' st k=>st.at λo e=>k it (by simp) o e
 item:=by
  intro X hP hw hK hc i U s Y H E I hf st hg;subst hP hw hK;obtain⟨xs,x,hq,hx⟩:=hg;obtain⟨its,rv,p,hz⟩:=I.tuple hq;obtain⟨u,hu,ru⟩:=rv.get hx;obtain⟨f0,f1,f2,f3,f4,f5⟩:=hf it (by simp);refine wpAny_pyNext_tuple_item st (show s.heap.IsTuple a its.toArray from p) (x:=u) (by simpa using hu) λh' st' sb=>?_;have I1:Inv X U Y H {s with heap:=h' }:=I.turned (t':=s.toks) (λb o hb e=>(sb.2 b hb).trans e) f0 f1 f3 f4 f5;obtain⟨o,e,c,d⟩:=id st';exact⟨u,rfl,zzt (s:={s with heap:=h' }) e c d (by decide) ⟨x,H,I1,ru,⟨rfl,λys hy=>by rw[I.sf hy hq];exact hx⟩,st',λb hb=>(hf b hb).1⟩⟩
 done:=by
  intro X hP hw hK hc i U s Y H E I hf st hg;subst hP hw hK;obtain⟨xs,hq,hx⟩:=hg;obtain⟨its,rv,p,hz⟩:=I.tuple hq;obtain⟨f0,f1,f2,f3,f4,f5⟩:=hf it (by simp);have hl:=rv.length;exact wpAny_pyNext_tuple_end (I.ok.hd hc) st (show s.heap.IsTuple a its.toArray from p) (by simp;omega) λh' eb=>⟨rfl,I.turned (t':=s.toks) (λb o hb e=>eb b o hb e) f0 f1 f3 f4 f5⟩
 self:=λ_ _ _ _ _ st h=>wpAny_pyIter_tupleiter st h
def zkq{P:yy}{w:yH}{K:PySem.W.Frag}{tg:yD}(it:yg)(lo:Int)(n:Nat):Turn P w K tg (Itr lo n) [it] it (λi h=>IsRangeIter h it (lo+(i:Nat)*1) ((n:Int)-(i:Nat)) 1) where
 mem:=by simp
 obj:=λi h st b hb=>by
  have e:b=it:=by simpa using hb
  subst e
  exact⟨_,st,λv z=>by
   have z':Data.fields _=Data.cell v:=z;cases z'⟩
 keep:=λi h h' st k=>k it (by simp) _ st
 item:=by
  intro X hP hw hK hc i U s Y H E I hf st hg;subst hP hw hK;obtain⟨f0,f1,f2,f3,f4,f5⟩:=hf it (by simp);have W:=Walks.range (prog:=X.prog) (w:=X.w) (I.ok.hd hc) it lo 1 n;refine W.item i s _ _ hg st λv h' tk hv st' kk=>?_;obtain⟨t,rfl⟩:=hv;have I1:Inv X U Y H {s with heap:=h',toks:=tk }:=I.turned (λb o hb e=>kk b o (by simpa using hb) e) f0 f1 f3 f4 f5;refine⟨_,rfl,zzt (s:={s with heap:=h',toks:=tk }) (n:="range_iterator") st' rfl rfl (by decide) ⟨.int (lo+i),H,I1,⟨t,?_⟩,⟨rfl,rfl⟩,st',λb hb=>(hf b hb).1⟩⟩;rw[Int.mul_one]
 done:=by
  intro X hP hw hK hc i U s Y H E I hf st hg;subst hP hw hK;obtain⟨f0,f1,f2,f3,f4,f5⟩:=hf it (by simp);exact wpAny_pyNext_range_end (I.ok.hd hc) st (by have:n<=i:=hg;omega) λh' eb=>⟨rfl,I.turned (t':=s.toks) (λb o hb e=>eb b o hb e) f0 f1 f3 f4 f5⟩
 self:=λ_ _ _ _ _ st h=>wpAny_pyIter_rangeiter st h
section
variable {X:Cx}{tg:yD}
def zrq(K:yz)(tl:TE):TI:=λY H R=>tl Y H λx H1=>∃a,x=.ref a/\(∃xs,SqL K H1 a xs)/\R (Itl K a) H1
def zEy(K:yz)(tl:TE):TI:=λY H R=>tl Y H λx H1=>∃a,x=.ref a/\(∃xs,SqT K H1 a xs)/\R (Itt K a) H1
def zYu{l:yD}{tl:TE}(hl:PE X l tl):PI X tg l (zrq X.K tl):=by
 intro U s Y H R I h;refine thn (hl U s Y H _ I h) λv s1 ⟨x,H1,I1,r1,q1⟩=>?_;obtain⟨a,e,⟨xs,hq⟩,q⟩:=q1;subst e;cases r1;obtain⟨its,rv,p,hz⟩:=I1.list hq;refine xt p.isList ?_;refine⟨s1.heap.objs.size,[s1.heap.objs.size],_,_,H1,rfl,I1.kept (t':=s1.toks) λb o e=>ye _ e,zvq a _,⟨_,yn _ rfl,rfl,rfl⟩,λb hb=>?_,q⟩;have e:b=s1.heap.objs.size:=by simpa using hb
 subst e;exact I1.sC (yj _) (I1.hok.fresh (yj _))
def zKw{l:yD}{tl:TE}(hl:PE X l tl):PI X tg l (zEy X.K tl):=by
 intro U s Y H R I h;refine thn (hl U s Y H _ I h) λv s1 ⟨x,H1,I1,r1,q1⟩=>?_;obtain⟨a,e,⟨xs,hq⟩,q⟩:=q1;subst e;cases r1;obtain⟨its,rv,p,hz⟩:=I1.tuple hq;refine wpAny_pyIter_tuple (show s1.heap.IsTuple a its.toArray from p) ?_;refine⟨s1.heap.objs.size,[s1.heap.objs.size],_,_,H1,rfl,I1.kept (t':=s1.toks) λb o e=>ye _ e,zhq a _,⟨_,yn _ rfl,rfl,rfl⟩,λb hb=>?_,q⟩;have e:b=s1.heap.objs.size:=by simpa using hb
 subst e;exact I1.sC (yj _) (I1.hok.fresh (yj _))
def zrt{U:List (yg×xb)}{Y:St}{H:Hp}{s:yc}{R:It->Hp->Prop}{E:yb->yc->Prop}{lo hi:Int}{t u v:Tok}{tk:Nat}(I:Inv X U Y H s)(h1:-(2^62)<=lo)(h2:lo<2^62)(h3:-(2^62)<=hi)(h4:hi<2^62)
 (q:R (Itr lo (hi-lo).toNat) H):yo (yx X.prog X.w) X.A (pyIter (.ref s.heap.objs.size)) (PIE X U Y tg R) E {s with heap:=s.heap.push {cls:=.type "range",data:=.fields #[.int lo t,.int hi u,.int 1 v]},toks:=tk }:=by
 refine wpAny_pyIter_range (IsRange.new ..) (small_one h1 h2 h3 h4) ?_;have I1:Inv X U Y H {s with heap:=s.heap.push {cls:=.type "range",data:=.fields #[.int lo t,.int hi u,.int 1 v]},toks:=tk }:=I.kept λb o e=>ye _ e
 refine⟨(s.heap.push {cls:=.type "range",data:=.fields #[.int lo t,.int hi u,.int 1 v]}).objs.size,[(s.heap.push {cls:=.type "range",data:=.fields #[.int lo t,.int hi u,.int 1 v]}).objs.size],_,_,H,rfl,
  I1.kept (t':=tk) λb o e=>ye _ e,zkq _ lo (hi-lo).toNat,?_,λb hb=>?_,q⟩
 ·have e1:lo+((0:Nat):Int)*1=lo:=by simp
  have e2:(((hi-lo).toNat:Nat):Int)-((0:Nat):Int)=Builtin.Range.rangeSize lo hi 1:=by rw[rangeSize_one];split<;>omega
  show IsRangeIter _ _ (lo+((0:Nat):Int)*1) ((((hi-lo).toNat:Nat):Int)-((0:Nat):Int)) 1;rw[e1,e2];exact yn _ rfl
 ·have e:b=(s.heap.push {cls:=.type "range",data:=.fields #[.int lo t,.int hi u,.int 1 v]}).objs.size:=by simpa using hb
  subst e;exact I1.sC (yj _) (I1.hok.fresh (yj _))
def z8x(ta:TA):TI:=λY H R=>ta Y H λvs H1=>∃j:Int,vs=[.int j]/\-(2^62)<=j/\j<2^62/\R (Itr 0 j.toNat) H1
def zjr{a:yD}{ta:TA}{p pos:xV}(hg:Gl X "range")(hm:X.mg "range"=none)(ha:PA X [a] ta)(hs:yr [a] X.env=[(false,Yt a X.env)]:=by rfl):PI X tg (.Call (.Name "range" p) [a] [] pos) (z8x ta):=by
 intro U s Y H R I h;refine Call_ (zEk I hg hm boot_range (YH (thn (ha pos U s Y H _ I h) λus s1 ⟨vs,H1,I1,r1,q1⟩=>?_) hs rfl));obtain⟨j,e,q1,q2,q⟩:=q1;subst e
 cases r1 with
 |cons r rr=>
  cases rr;obtain⟨t,rfl⟩:=r;exact call_range_1 (zrt I1 (by omega) (by omega) q1 q2 (by simpa using q))
def zwy(wi:TI)(g:TG)(tb:TS):TS:=λD Y H=>wi Y H λδ H1=>∃W:Nat->Nat->St->Hp->Prop,(∃m,W 0 m Y H1)/\∀i m Y H,W i m Y H ->
 (δ.stop i H/\D.nx Y H)\/(δ.go i H/\∃N:St->Hp->Prop,(∀Y' H',N Y' H'->∃m',m'<m/\W (i+1) m' Y' H')/\∀x H',δ.yld i H x H'->g x Y H' λY2 H2=>tb {D with nx:=N,ct:=N,bk:=D.nx } Y2 H2)
def zWm(fp:List yg)(h:Yb):List (yg×xb):=fp.filterMap λb=>(h.get? b).map λo=>(b,o)
def z7f{fp:List yg}{h:Yb}{b:yg}{o:xb}(hb:b∈fp)(e:h.get? b=some o):(b,o)∈zWm fp h:=List.mem_filterMap.mpr ⟨b,hb,by rw[e];rfl⟩
def zLr{fp:List yg}{h:Yb}{p:yg×xb}(hp:p∈zWm fp h):p.1∈fp/\h.get? p.1=some p.2:=by
 obtain⟨b,hb,e⟩:=List.mem_filterMap.mp hp
 cases q:h.get? b with
 |none=>rw[q]at e;cases e
 |some o=>
  rw[q]at e;have e':(b,o)=p:=yS e;subst e';exact⟨hb,q⟩
def Inv.pinned{U:List (yg×xb)}{Y:St}{H:Hp}{s:yc}{fp:List yg}(I:Inv X U Y H s)(hf:∀b∈fp,zlp X U H b)(ho:∀b∈fp,∃o,s.heap.get? b=some o/\∀v,o.data≠.cell v):Inv X (U++zWm fp s.heap) Y H s :=
 I.sn λp hp=>(List.mem_append.mp hp).elim (λz=>I.pin p (mem_append_right _ z)) λz=>by
  obtain⟨hb,e⟩:=zLr z;obtain⟨f0,f1,f2,_⟩:=hf p.1 hb;obtain⟨o,e',d⟩:=ho p.1 hb;rw[e]at e';cases e';exact⟨e,f0,f1,f2,d⟩
def Inv.Tr{U pl:List (yg×xb)}{Y:St}{H:Hp}{s:yc}(I:Inv X (U++pl) Y H s):Inv X U Y H s:=I.sn λp hp=>I.pin p (mem_append_right _ (mem_append_left _ hp))
def zTw{iter:yD}{body:List Yg}{wi:TI}{g:TG}{tb:TS}{pos:xV}(hp:PassesOwn (yx X.prog X.w) X.A X.env X.xe)(hc:X.calm=true)(hi:PI X tg iter wi)(hg:PG X tg g)(hb:PSs X body tb)
 (hs:∀x,YK iter X.env x=pure x:=by intro _;rfl):PS X (.For tg iter body [] pos) (zwy wi g tb):=by
 intro U s Y H D I h;refine wpAny_For (thn (hi U s Y H _ I h) λv s1 h1=>thn h1 λitv s2 h2=>?_) hs;obtain⟨it,fp,tn,δ,H2,e,I2,T,st2,f2,W,⟨m0,w0⟩,turn⟩:=h2;subst e;have stat:∀{H':Hp},(∀b∈fp,H' b=none)->∀b∈fp,zlp X U H' b:=λhn b hb=>⟨hn b hb,(f2 b hb).2⟩
 refine codeAny_forLoop_any (λn s'=>∃i Y' H',Inv X U Y' H' s'/\tn i s'.heap/\(∀b∈fp,H' b=none)/\W i n Y' H') ?_ m0 ⟨0,Y,H2,I2,st2,λb hb=>(f2 b hb).1,w0⟩;rintro n s3 ⟨i,Y3,H3,I3,st3,fr3,w3⟩;rcases turn i n Y3 H3 w3 with ⟨stop,qn⟩|⟨go,N,hN,step⟩
 ·refine xq hp (thn (T.done X rfl rfl rfl hc i U s3 Y3 H3 X.xe I3 (stat fr3) st3 stop) λr s4 ⟨hr,I4⟩=>?_);subst hr;exact wpAny_execs_nil ⟨Y3,H3,I4,qn⟩
 ·refine xq hp (thn (T.item X rfl rfl rfl hc i U s3 Y3 H3 X.xe I3 (stat fr3) st3 go) λr s4 ⟨u,hr,h4⟩=>?_);subst hr;refine xq hp (thn h4 λ_ s5 ⟨x,H5,I5,r5,y5,st5,fr5⟩=>?_);have I5':=I5.pinned (stat fr5) (T.obj _ _ st5);refine xq hp (thn (hg _ s5 Y3 H5 x u _ I5' r5 (step x H5 y5)) λ_ s6 ⟨Y6,H6,I6,q6⟩=>?_);refine xq hp (thn (hb _ s6 Y6 H6 _ I6 q6) λf s7 q7=>?_)
  have again:∀{Y7:St} {H7:Hp},Inv X (U++zWm fp s5.heap) Y7 H7 s7->N Y7 H7->∃m,m<n/\∃i Y' H',Inv X U Y' H' s7/\tn i s7.heap/\(∀b∈fp,H' b=none)/\W i m Y' H':=λ{Y7 H7} I7 n7=>by
   obtain⟨m',hm,w7⟩:=hN Y7 H7 n7;refine⟨m',hm,i+1,Y7,H7,I7.Tr,T.keep _ _ _ st5 λb hb o e=>(I7.pin (b,o) (mem_append_right _ (mem_append_right _ (z7f hb e)))).1,λb hb=>?_,w7⟩;obtain⟨o,e,d⟩:=T.obj _ _ st5 b hb;exact(I7.pin (b,o) (mem_append_right _ (mem_append_right _ (z7f hb e)))).2.1
  cases f with
  |next=>obtain⟨Y7,H7,I7,n7⟩:=q7;exact again I7 n7
  |cont=>obtain⟨Y7,H7,I7,n7⟩:=q7;exact again I7 n7
  |brk=>obtain⟨Y7,H7,I7,q7⟩:=q7;exact⟨Y7,H7,I7.Tr,q7⟩
  |ret v=>obtain⟨x7,Y7,H7,I7,r7,q7⟩:=q7;exact⟨x7,Y7,H7,I7.Tr,r7,q7⟩
end
abbrev R2:=V->V->Hp->VK->Prop
def OpR(X:Cx)(f:yb->yb->Sem yb)(r:R2):Prop :=
 ∀(U:List (yg×xb)) (s:yc) (Y:St) (H:Hp) (x y:V) (v u:yb) (Q:VK),Inv X U Y H s->RelV x v->RelV y u->r x y H Q ->
  yo (yx X.prog X.w) X.A (f v u) (EP X U Y Q) X.xe s
def zZj(X:Cx)(f:yb)(r:List V->Hp->VK->Prop):Prop :=
 ∀(U:List (yg×xb)) (s:yc) (Y:St) (H:Hp) (xs:List V) (us:List yb) (Q:VK),Inv X U Y H s->Vals xs us->r xs H Q ->
  yo (yx X.prog X.w) X.A (call f us) (EP X U Y Q) X.xe s
def tOp(r:R2)(ta tb:TE):TE:=λY H Q=>ta Y H λx H1=>tb Y H1 λy H2=>r x y H2 Q
def rI(C:Int->Int->Prop)(g:Int->Int->V):R2:=λx y H Q=>∃i j,x=.int i/\y=.int j/\C i j/\Q (g i j) H
def rI0(g:Int->Int->V):R2:=λx y H Q=>∃i j,x=.int i/\y=.int j/\Q (g i j) H
section
variable {X:Cx}{a b c:yD}{ta tb tc:TE}{pos:xV}
def binT(ha:PE X a ta)(hb:PE X b tb){U:List (yg×xb)}{s:yc}{Y:St}{H:Hp}{R:V->V->Hp->Prop}(I:Inv X U Y H s)
 (h:ta Y H λx H1=>tb Y H1 λy H2=>R x y H2) {Q:yb->yc->Prop} {f:yb->yb->Sem yb}
 (hf:∀v u s2 x y H2,Inv X U Y H2 s2->RelV x v->RelV y u->R x y H2->yo (yx X.prog X.w) X.A (f v u) Q X.xe s2) :
 yo (yx X.prog X.w) X.A (Yt a X.env) (λv s₁=>yo (yx X.prog X.w) X.A (Yt b X.env) (λu s₂=>yo (yx X.prog X.w) X.A (f v u) Q X.xe s₂) X.xe s₁) X.xe s:=by
 refine thn (ha U s Y H _ I h) λv s1 ⟨x,H1,I1,r1,q1⟩=>?_;refine thn (hb U s1 Y H1 _ I1 q1) λu s2 ⟨y,H2,I2,r2,q2⟩=>?_;exact hf v u s2 x y H2 I2 r1 r2 q2
def z3x{op:Operator}{r:R2}(ho:OpR X (xl op) r)(ha:PE X a ta)(hb:PE X b tb):PE X (.BinOp a op b pos) (tOp r ta tb):=by
 intro U s Y H Q I h;exact wpAny_BinOp (binT ha hb I h λv u s2 x y H2 I2 rx ry q=>ho U s2 Y H2 x y v u Q I2 rx ry q)
def opI{f:yb->yb->Sem yb}{C:Int->Int->Prop}{g:Int->Int->Int}
 (rule:∀(i j:Int)(t u:Tok)(s:yc)(Q:yb->yc->Prop)(E:yb->yc->Prop),C i j->Q (.int (g i j) s.toks) {s with toks:=s.toks+1 }->yo (yx X.prog X.w) X.A (f (.int i t) (.int j u)) Q E s) :
 OpR X f (rI C λi j =>.int (g i j)):=by
 intro U s Y H x y v u Q I rx ry h;obtain⟨i,j,rfl,rfl,hc,q⟩:=h;obtain⟨t,rfl⟩:=rx;obtain⟨t',rfl⟩:=ry;exact rule i j t t' s _ _ hc ⟨.int (g i j),H,I.tok _,⟨_,rfl⟩,q⟩
def opI0{f:yb->yb->Sem yb}{g:Int->Int->Int}
 (rule:∀(i j:Int)(t u:Tok)(s:yc)(Q:yb->yc->Prop)(E:yb->yc->Prop),Q (.int (g i j) s.toks) {s with toks:=s.toks+1 }->yo (yx X.prog X.w) X.A (f (.int i t) (.int j u)) Q E s) :
 OpR X f (rI0 λi j =>.int (g i j)):=by
 intro U s Y H x y v u Q I rx ry h;obtain⟨i,j,rfl,rfl,q⟩:=h;obtain⟨t,rfl⟩:=rx;obtain⟨t',rfl⟩:=ry;exact rule i j t t' s _ _ ⟨.int (g i j),H,I.tok _,⟨_,rfl⟩,q⟩
def opB0{f:yb->yb->Sem yb}{g:Int->Int->Bool}
 (rule:∀(i j:Int)(t u:Tok)(s:yc)(Q:yb->yc->Prop)(E:yb->yc->Prop),Q (.bool (g i j)) s->yo (yx X.prog X.w) X.A (f (.int i t) (.int j u)) Q E s) :
 OpR X f (rI0 λi j =>.bl (g i j)):=by
 intro U s Y H x y v u Q I rx ry h;obtain⟨i,j,rfl,rfl,q⟩:=h;obtain⟨t,rfl⟩:=rx;obtain⟨t',rfl⟩:=ry;exact rule i j t t' s _ _ ⟨.bl (g i j),H,I,rfl,q⟩
def zKv:OpR X (xl .Mod) (rI (λ_ j=>0<j) λi j =>.int (i%j)):=opI λi j _ _ _ _ _ hc q=>by
 have h1:(0:Int)<j:=hc;exact mod_int' (by omega) (by rw[Int.fmod_eq_emod_of_nonneg i (by omega)];exact q)
def ziu:OpR X (inplaceOp .Add) (rI0 λi j =>.int (i+j)):=opI0 λ_ _ _ _ _ _ _ q=>iadd_int q
def z7t{U:List (yg×xb)}{Y:St}{H:Hp}{s:yc}{Q:VK}{k k':Bool}(I:Inv X U Y H s)(q:Q (.bl k) H)(e:k=k'):EP X U Y Q (.bool k') s:=by
 subst e;exact⟨.bl k,H,I,rfl,q⟩
def zAx:OpR X (Yh .Lt) (rI0 λi j =>.bl (decide (i<j))):=opB0 λ_ _ _ _ _ _ _ q=>lt_int q
def zjx:OpR X (Yh .Gt) (rI0 λi j =>.bl (decide (j<i))):=opB0 λ_ _ _ _ _ _ _ q=>gt_int q
def zsx:OpR X (Yh .GtE) (rI0 λi j =>.bl (decide (j<=i))):=opB0 λ_ _ _ _ _ _ _ q=>ge_int q
def zgl:OpR X (Yh .Is) (λx y H Q=>y=.non/\Q (.bl (decide (x=.non))) H):=by
 intro U s Y H x y v u Q I rx ry h;obtain⟨rfl,q⟩:=h;cases ry;refine is_none_gen (z7t I q ?_)
 cases x<;>first
  |(cases rx;rfl)
  |(obtain⟨t,rfl⟩:=rx;rfl)
def z1h:OpR X (Yh .IsNot) (λx y H Q=>y=.non/\Q (.bl (!decide (x=.non))) H):=by
 intro U s Y H x y v u Q I rx ry h;obtain⟨rfl,q⟩:=h;cases ry;refine isnot_none_gen (z7t I q ?_)
 cases x<;>first
  |(cases rx;rfl)
  |(obtain⟨t,rfl⟩:=rx;rfl)
def zXu{op:CmpOp}{r:R2}(ho:OpR X (Yh op) r)(ha:PE X a ta)(hb:PE X b tb)(hm:behindInMarks op b=false):PE X (.Compare a [op] [b] pos) (tOp r ta tb):=by
 intro U s Y H Q I h;exact wpAny_Compare1 (binT ha hb I h λv u s2 x y H2 I2 rx ry q=>ho U s2 Y H2 x y v u Q I2 rx ry q) hm
def zKx(t:TE):TT:=λY H Q=>t Y H λx H'=>∃k,x=.bl k/\Q k H'
def zev{op:CmpOp}{r:R2}(ho:OpR X (Yh op) r)(ha:PE X a ta)(hb:PE X b tb)(hm:behindInMarks op b=false):PT X (.Compare a [op] [b] pos) (zKx (tOp r ta tb)):=by
 intro U s Y H Q I h
 refine wpAny_isTrue_Compare1 (thn (ha U s Y H _ I h) λv s1 ⟨x,H1,I1,r1,q1⟩=>thn (hb U s1 Y H1 _ I1 q1) λu s2 ⟨y,H2,I2,r2,q2⟩=>
  thn (ho U s2 Y H2 x y v u _ I2 r1 r2 q2) λc s3 ⟨z,H3,I3,r3,k,e,q3⟩=>?_) hm
 subst e;cases r3;exact YJ ⟨H3,I3,q3⟩
def TR:(yE:Nat)<2^63:=by rw[yY];decide
def vals1{x:V}{us:List yb}(r:Vals [x] us):∃u,us=[u]/\RelV x u:=by
 cases r with
 |cons r1 r2=>cases r2;exact⟨_,rfl,r1⟩
def vals2{x y:V}{us:List yb}(r:Vals [x,y] us):∃u w',us=[u,w']/\RelV x u/\RelV y w':=by
 cases r with
 |cons r1 r2=>
  cases r2 with
  |cons r3 r4=>cases r4;exact⟨_,_,rfl,r1,r3⟩
def zUr(hc:X.calm=true):zZj X (.builtin "min") (λxs H Q=>∃i j,xs=[.int i,.int j]/\Q (.int (if j<i then j else i)) H):=by
 intro U s Y H xs us Q I r h;obtain⟨i,j,rfl,q⟩:=h;obtain⟨u,w',rfl,⟨t,rfl⟩,⟨t',rfl⟩⟩:=vals2 r;refine min_two_ints (I.ok.hd hc) λh' tk k=>⟨_,H,I.kept k,?_,q⟩
 by_cases hj:j<i
 ·rw[if_pos hj,if_pos hj];exact⟨_,rfl⟩
 ·rw[if_neg hj,if_neg hj];exact⟨_,rfl⟩
end
structure ObjM(h:Yb)(x dx C:yg)(mA:yF->Option yb):Prop where
 obj:h.get? x=some (W.instObj C dx)
 ns:h.Ns1 dx mA
 ne:dx≠x
section
variable {prog:yy}{w:yH}{A:yN}{E:yb->yc->Prop}{s:yc}{K:yz}{x dx C f:yg}{mA:yF->Option yb}{name:yF}{v:yb}
end
def su.some_of{v:V}{o:Option yb}(r:su (some v) o):∃u,o=some u/\RelV v u:=by
 cases o with
 |none=>exact(show False from r).elim
 |some u=>exact⟨u,rfl,r⟩
section
variable {P:yy}{w:yH}{H H':Hp}{h h':Yb}{a C dx:yg}{fs fs':List (yF×V)}
end
structure Cls(K:yz)(C:yg):Prop where
 pg:W.plainGet K C Str.empty=true
 hd:W.hasDictIn K C=true
 po:W.plainOver K C=true
 sa:W.findIn K (.ref C) "__setattr__"=some (some (.builtin "object.__setattr__"))
structure Con(K:yz)(C:yg)(f:yF)(v:V)(u:yb):Prop where
 at_:W.findIn K (.ref C) f=some (some u)
 rel:RelV v u
 get:W.specialIn K u "__get__"=some none
 cp:W.copiedNames.contains f=false
structure Meth(K:yz)(C:yg)(m:yF)(f:yg):Prop where
 at_:W.findIn K (.ref C) m=some (some (.ref f))
 fn:W.isFn K (.ref f)=true
 kp:W.keepIn K (.ref f)=true
section
variable {X:Cx}{U:List (yg×xb)}{Y:St}{H:Hp}{s:yc}{a C dx:yg}{fs:List (yF×V)}{f:yF}{v:V}{A:yN}{E:yb->yc->Prop}
variable {o e value:yD}{pos pos' tpos:xV}{ta tv:TE}
variable {Q:yb->yc->Prop}{c:yb}{b:Bool}
inductive TU(K:yz)(H:Hp):V->yb->Prop where
 |non:TU K H .non (.type "NoneType")
 |bl (x:Bool):TU K H (.bl x) (.type "bool")
 |int (i:Int):TU K H (.int i) (.type "int")
 |str (x:yF):TU K H (.str x) (.type "str")
 |flt (x:UInt64):TU K H (.flt x) (.type "float")
 |lst {a:yg} {xs:List V} (e:H a=some (.lst xs)):TU K H (.ref a) (.type "list")
 |frz {a:yg} {o:xb} {xs:List V} (e:H a=some (.frz o (.lst xs))):TU K H (.ref a) (.type "list")
 |tup {a:yg} {xs:List V} (e:H a=some (.tup xs)):TU K H (.ref a) (.type "tuple")
 |dK {a:yg} {kvs:List (Key×V)} (e:H a=some (.dK kvs)):TU K H (.ref a) (.type "dict")
 |dT {a:yg} {kvs:List (List Key×V)} (e:H a=some (.dT kvs)):TU K H (.ref a) (.type "dict")
 |ins {a C dx:yg} {fs:List (yF×V)} (e:H a=some (.ins C dx fs)) (cl:Cls K C) (ha:W.findIn K (.ref C) "__class__"=some (some (.builtin "object.__class__")))
  (hn:W.specialIn K (.builtin "object.__class__") "__get__"=some (some (.builtin "getset_descriptor.__get__"))) (htk:W.takesIn K (.builtin "object.__class__")=some true)
  (hm:W.mroIn K C (.type "object")=some true):TU K H (.ref a) (.ref C)
end
structure Th(k:Nat)(A:yN):Prop where
 hd:A.handled=none
 dp:A.depth+3*k+5<recursionLimit
 un:A.units+16*k+200<cLine
 gd:A.guards=some []
def Th.mono{j k:Nat}{A:yN}(r:Th k A)(h:j<=k):Th j A:=⟨r.hd,by have:=r.dp;omega,by have:=r.un;omega,r.gd⟩
def Th.deeper{k:Nat}{A:yN}(r:Th (k+1) A)(env:Env):Th k (A.deeper env) :=
 ⟨r.hd,by have:=r.dp;show A.depth+1+3*k+5<_;omega,by have:=r.un;show A.units+3+16*k+200<_;omega,r.gd⟩
def Th.depth{k:Nat}{A:yN}(r:Th k A):A.depth<recursionLimit:=by have:=r.dp;omega
def Th.units{k:Nat}{A:yN}(r:Th k A):A.units+64<cLine:=by have:=r.un;omega
def zsy:TA:=λ_ H Q=>Q [] H
def z2x(ta:TE)(tr:TA):TA:=λY H Q=>ta Y H λx H1=>tr Y H1 λxs H2=>Q (x::xs) H2
section
variable {X:Cx}{e:yD}{es:List yD}{te:TE}{t:TA}{pos:xV}
def zFj:PA X [] zsy:=λ_ _ _ _ H Q I h=>Calls.spliced_nil ⟨[],H,I,.nil,h⟩
def zHg(ha:PE X e te)(hr:PA X es t)(hs:yr (e::es) X.env=(false,Yt e X.env)::yr es X.env:=by rfl):PA X (e::es) (z2x te t):=by
 intro pos U s Y H Q I h;rw[hs];show yo _ _ (spliced ((false,Yt e X.env)::YZ pos (yr es X.env))) _ _ s;refine Calls.spliced_cons (thn (ha U s Y H _ I h) λu s1 ⟨x,H1,I1,r1,q1⟩=>?_);exact thn (hr pos U s1 Y H1 _ I1 q1) λus s2 ⟨xs,H2,I2,r2,q2⟩=>⟨x::xs,H2,I2,.cons r1 r2,q2⟩
def zpy(t:TA):TE:=λY H Q=>t Y H λxs H1=>xs.length<=yE/\∀p,H1 p=none->Q (.ref p) (upd H1 p (.tup xs))
def zRy(t:TA):TE:=λY H Q=>t Y H λxs H1=>xs.length<=yE/\∀p,H1 p=none->Q (.ref p) (upd H1 p (.lst xs))
def zGv{x1}(h:PA X es t):PE X (.Tuple es x1 pos) (zpy t):=by
 intro U s Y H Q I hq;refine wpAny_Tuple_spliced (thn (h pos U s Y H _ I hq) λus s1 ⟨xs,H1,I1,r,z,q⟩=>⟨by rw[<-r.length];exact z,?_⟩);have hf:H1 s1.heap.objs.size=none:=I1.hok.fresh (yj _);refine⟨.ref s1.heap.objs.size,upd H1 s1.heap.objs.size (.tup xs),I1.laid (t':=s1.toks) (λb u e=>ye _ e) (yj _) ?_,rfl,q _ hf⟩;exact⟨z,us,r,⟨_,yn _ rfl,rfl,_,rfl⟩⟩
def zQw(h:PA X es t):PE X (.List es pos) (zRy t):=by
 intro U s Y H Q I hq;refine wpAny_List_spliced (thn (h pos U s Y H _ I hq) λus s1 ⟨xs,H1,I1,r,z,q⟩=>⟨by rw[<-r.length];exact z,?_⟩);have hf:H1 s1.heap.objs.size=none:=I1.hok.fresh (yj _);refine⟨.ref s1.heap.objs.size,upd H1 s1.heap.objs.size (.lst xs),I1.laid (t':=s1.toks) (λb u e=>ye _ e) (yj _) ?_,rfl,q _ hf⟩;exact⟨z,us,0,r,yn _ rfl⟩
end
abbrev Sp:=List V->Hp->VK->XK->Prop
abbrev CXT:=List Env->Hp->yc->XK->yb->yc->Prop
structure Env0(P:yy)(w:yH)(K:yz)(mg:yF->Option yb)(base:Yb)(A:yN)(outer:List Env)(s:yc)(H:Hp):Prop where
 frames:A.frames=some outer
 mod:Mod K mg base
 bs:∀b o,base.get? b=some o->s.heap.get? b=some o/\H b=none
 bsz:base.objs.size<=s.heap.objs.size
 TQ:s.heap.FunFrames base outer
 frf:∀b∈frs outer,H b=none
 hok:HOk P w H s.heap
 bare:AllBare s.gens
def CE(outer:List Env)(P:yy)(w:yH)(H:Hp)(s:yc)(Q:VK)(u:yb)(s':yc):Prop :=
 ∃v H',s'.os=s.os/\AllBare s'.gens/\Un (frs outer) [] H H' s.heap s'.heap/\HOk P w H' s'.heap/\RelV v u/\Q v H'
def CR(CX:CXT)(outer:List Env)(P:yy)(w:yH)(H:Hp)(s:yc)(Q:VK)(E:XK)(r:Result)(s':yc):Prop :=
 match r with
 |.ok (.ret u)=>CE outer P w H s Q u s'
 |.ok _=>False
 |.error e=>CX outer H s E e s'
structure tq(P:yy)(w:yH)(K:yz)(mg:yF->Option yb)(base:Yb)(CX:CXT)(k:Nat)(f:yg)(fd:yk)(ps:List yF)(sp:Sp):Prop where
 len:∀vs H Q E,sp vs H Q E->vs.length=ps.length
 run:∀(A:yN)(outer:List Env)(s:yc)(H:Hp)(args:Args)(us:List yb)(vs:List V)(Q:VK)(E:XK),Th k A->Env0 P w K mg base A outer s H->BindsTo s fd args (ps.zip us)->Vals vs us->sp vs H Q E ->
  codeAny (yx P w) A (.call (.ref f) args) (CR CX outer P w H s Q E) s
section
variable {X:Cx}{U:List (yg×xb)}{Y:St}{H:Hp}{s s':yc}
def Inv.env0(I:Inv X U Y H s):Env0 X.prog X.w X.K X.mg X.base X.A X.stack s H :=
 ⟨I.ok.frames,I.ok.mod,I.bs,yA I.ok.bsz I.sz,I.stack,I.sJ,I.hok,I.bare⟩
def Inv.after{Q:VK}{u:yb}(I:Inv X U Y H s)(h:CE X.stack X.prog X.w H s Q u s'):EP X U Y Q u s':=by
 obtain⟨v,H',os,bare,un,hok,r,q⟩:=h;obtain⟨hh,g,d,t,os'⟩:=s';obtain rfl:os'=s.os:=os;exact⟨v,H',I.call (h':=hh) (g':=g) (d':=d) (t':=t) (ch:=[]) un hok bare (λb z=>absurd z (by simp)),r,q⟩
end
def z5x(sp:Sp)(dvs:List V)(E:XK)(t:TA):TE:=λY H Q=>t Y H λvs H1=>sp (vs++dvs) H1 Q E
def Binds(K:yz)(fd:yk)(ps:List yF)(ds:List yb):Prop :=
 ∀(s:yc)(us:List yb),K.In s.heap->(us++ds).length=ps.length->BindsTo s fd ⟨us,[]⟩ (ps.zip (us++ds))
def Binds.all{K:yz}{fd:yk}{ps:List yF}(h:∀us:List yb,us.length=ps.length->bindArgs fd ⟨us,[]⟩=pure (ps.zip us)):Binds K fd ps []:=λs us _ hl=>by
 rw[List.append_nil]at hl ⊢;exact .of_eq (h us hl)
def zis(CX:CXT)(X:Cx)(E:XK):Prop:=∀(U:List (yg×xb)) (Y:St) (H:Hp) (s:yc) (e:yb) (s':yc),Inv X U Y H s->CX X.stack H s E e s'->X.xe e s'
section
variable {X:Cx}{CX:CXT}{k:Nat}{f C:yg}{fd:yk}{ps:List yF}{sp:Sp}{dvs:List V}{ds:List yb}{E:XK}{x m:yF}{p pos apos:xV}{e o:yD}{es:List yD}{ta:TE}{t:TA}
def z3w{U:List (yg×xb)}{Y:St}{H:Hp}{s:yc}{Q:VK}{us:List yb}{vs:List V}(F:tq X.prog X.w X.K X.mg X.base CX k f fd ps sp)(hr:Th k X.A)(hb:Binds X.K fd ps ds)(hd:Vals dvs ds)(hx:zis CX X E)
 (I:Inv X U Y H s) (r:Vals vs us) (h:sp (vs++dvs) H Q E):yo (yx X.prog X.w) X.A (call (.ref f) us) (EP X U Y Q) X.xe s:=by
 have r2:Vals (vs++dvs) (us++ds):=r.append hd;have hl:(us++ds).length=ps.length:=by rw[<-r2.length];exact F.len _ _ _ _ h
 refine wpAny_call (xu (F.run X.A X.stack s H ⟨us,[]⟩ (us++ds) (vs++dvs) Q E hr I.env0 (hb s us I.kIn hl) r2 h) λr s' hq=>?_)
 cases r with
 |error e=>exact hx U Y H s e s' I hq
 |ok fl=>
  cases fl with
  |ret u=>exact I.after hq
  |next=>exact xK hq
  |brk=>exact xK hq
  |cont=>exact xK hq
def z9u(F:tq X.prog X.w X.K X.mg X.base CX k f fd ps sp)(hr:Th k X.A)(hg:Gl X x)(hm:X.mg x=some (.ref f))(hk:W.keepIn X.K (.ref f)=true)(hb:Binds X.K fd ps ds)(hd:Vals dvs ds)(hx:zis CX X E)
 (ha:PA X (e::es) t) (hdb:(x==("__debug__":yF))=false:=by decide) (he:yr (e::es) X.env=(false,Yt e X.env)::yr es X.env:=by rfl) (hpl:(YZ pos (yr es X.env)).any (·.1)=false:=by rfl) :
 PE X (.Call (.Name x p) (e::es) [] pos) (z5x sp dvs E t):=by
 intro U s Y H Q I h;refine xL (zPu I hg hm ?_ hdb);refine W.callWith_K (h₀:=X.base) I.ok.mod.kin hk (thn (ha pos U s Y H _ I h) λus s1 ⟨vs,H1,I1,r,q⟩=>⟨I1.kIn,?_⟩) he hpl;exact z3w F hr hb hd hx I1 r q
structure Mk(K:yz)(C f:yg):Prop where
 makes:W.makesIn K C=true
 init:W.findIn K (.ref C) "__init__"=some (some (.ref f))
 fn:W.isFn K (.ref f)=true
 kp:W.keepIn K (.ref C)=true
variable {ks:List yF}{kpos:xV}{kws:List xD}{te:TE}{tk:TA}{nm:Option yF}
structure KBinds(K:yz)(fd:yk)(ps ks:List yF)(g:List yb->List yb->List yb)(gV:List V->List V->List V):Prop where
 to:∀(s:yc)(us ws:List yb),K.In s.heap->(g us ws).length=ps.length->BindsTo s fd ⟨us,ks.zip ws⟩ (ps.zip (g us ws))
 rel:∀{vs:List V} {us:List yb} {zs:List V} {ws:List yb},Vals vs us->Vals zs ws->Vals (gV vs zs) (g us ws)
variable {g:List yb->List yb->List yb}{gV:List V->List V->List V}
end
structure tm(N P:List yF)(sc:xU):Prop where
 kind:sc.kind=.function
 co:sc.isCoroutine=false
 gen:sc.isGenerator=false
 nd:N.Nodup
 pre:N.take P.length=P
 par:∀x∈P,sc.names.lookup x=some .local\/sc.names.lookup x=some .cell
 nofree:∀y∈sc.names,y.2≠.free
def zsm{kindOf:yF->Option xa}{x:yF}:∀{binds:List (yF×yb)} {m:yF->Option yb},(∀v,(x,v)∉binds)->bindL kindOf binds m x=m x
 |[],_,_=>rfl
 |(n,v)::r,m,h=>by
  unfold bindL;rw[zsm λw hw=>h w (mem_cons_of_mem _ hw)]
  split
  ·have:x≠n:=by rintro rfl;exact h v mem_cons_self
   simp[this]
  ·rfl
def zvn{kindOf:yF->Option xa}{x:yF}:∀{binds:List (yF×yb)} {m:yF->Option yb},(∀v,(x,v)∉binds)->bindC kindOf binds m x=m x
 |[],_,_=>rfl
 |(n,v)::r,m,h=>by
  unfold bindC;rw[zvn λw hw=>h w (mem_cons_of_mem _ hw)]
  split
  ·rfl
  ·have:x≠n:=by rintro rfl;exact h v mem_cons_self
   simp[this]
def zln{kindOf:yF->Option xa}{x:yF}{v:yb}:∀{P:List yF} {vs:List yb} {i:Nat} {m:yF->Option yb},P.Nodup->P[i]?=some x->vs[i]?=some v->kindOf x=some .local ->
 bindL kindOf (P.zip vs) m x=some v
 |[],_,_,_,_,h,_,_=>by simp at h
 |_::_,[],_,_,_,_,h,_=>by simp at h
 |p::P,w::vs,0,m,nd,h1,h2,hk=>by
  simp at h1 h2;subst h1;subst h2;show bindL kindOf ((p,w)::P.zip vs) m p=_;unfold bindL;rw[zsm λv hv=>(List.nodup_cons.mp nd).1 (List.of_mem_zip hv).1,if_pos hk];simp
 |p::P,w::vs,i+1,m,nd,h1,h2,hk=>by
  show bindL kindOf ((p,w)::P.zip vs) m x=_;unfold bindL;exact zln (i:=i) (List.nodup_cons.mp nd).2 (by simpa using h1) (by simpa using h2) hk
def z8m{kindOf:yF->Option xa}{x:yF}{v:yb}:∀{P:List yF} {vs:List yb} {i:Nat} {m:yF->Option yb},P.Nodup->P[i]?=some x->vs[i]?=some v->kindOf x≠some .local ->
 bindC kindOf (P.zip vs) m x=some v
 |[],_,_,_,_,h,_,_=>by simp at h
 |_::_,[],_,_,_,_,h,_=>by simp at h
 |p::P,w::vs,0,m,nd,h1,h2,hk=>by
  simp at h1 h2;subst h1;subst h2;show bindC kindOf ((p,w)::P.zip vs) m p=_;unfold bindC;rw[zvn λv hv=>(List.nodup_cons.mp nd).1 (List.of_mem_zip hv).1,if_neg hk];simp
 |p::P,w::vs,i+1,m,nd,h1,h2,hk=>by
  show bindC kindOf ((p,w)::P.zip vs) m x=_;unfold bindC;exact z8m (i:=i) (List.nodup_cons.mp nd).2 (by simpa using h1) (by simpa using h2) hk
def start(N:List yF)(vs:List V):St:=vs.map some++yu (N.length-vs.length) none
def zGu(CX:CXT)(P:yy)(w:yH)(K:yz)(mg:yF->Option yb)(base:Yb)(N:List yF)(qual:yF)(scope:xU)(f:yg)(cd:yb)(A:yN)(outer:List Env)(s:yc)(H:Hp)(E:XK):Cx where
 prog:=P
 w:=w
 K:=K
 mg:=mg
 base:=base
 A:=A.deeper (envOfC qual scope s.heap.objs.size f cd)
 N:=N
 s₀:=s
 H₀:=H
 env:=envOfC qual scope s.heap.objs.size f cd
 outer:=outer
 stack:=envOfC qual scope s.heap.objs.size f cd::outer
 ex:=[]
 calm:=true
 fn:=λ_=>true
 pn:=[]
 xe:=λe s'=>yo (yx P w) (A.deeper (envOfC qual scope s.heap.objs.size f cd)) (leaving (envOfC qual scope s.heap.objs.size f cd) e) (λ_ s''=>CX outer H s E e s'') (λe' s''=>CX outer H s E e' s'') s'
def z2o{sc:xU}{n:Nat}{x:yF}(h:sc.names.lookup x=some .cell):∃c,(Yi n sc.names []).lookup x=some c:=by
 have q:=W.cellsFrom_some sc.names n [] (.inl h);exact Option.isSome_iff_exists.mp q
def zNr{CX:CXT}{P:yy}{w:yH}{K:yz}{mg:yF->Option yb}{base:Yb}{N ps:List yF}{qual:yF}{scope:xU}{f:yg}{cd:yb}{A:yN}{outer:List Env}{s s1:yc}{H:Hp}{E:XK}{us:List yb}{vs:List V}
 (S:tm N ps scope) (hd:A.handled=none) (e0:Env0 P w K mg base A outer s H) (hl:vs.length=ps.length) (r:Vals vs us)
 (x:InCallC s s.heap.objs.size (bindL (envOfC qual scope s.heap.objs.size f cd).kindOf (ps.zip us) λ_=>none) (Yi (s.heap.objs.size+1) scope.names []) (bindC (envOfC qual scope s.heap.objs.size f cd).kindOf (ps.zip us) λ_=>none) s1) :
 Inv (zGu CX P w K mg base N qual scope f cd A outer s H E) [] (start N vs) H s1:=by
 have hpl:ps.length<=N.length:=by have:=congrArg List.length S.pre;rw[length_take]at this;omega
 obtain⟨h1,tk,rfl,hk⟩:=x.done;have noA:∀b:yg,b∉(zGu CX P w K mg base N qual scope f cd A outer s H E).ex:=λb z=>absurd (show b∈([]:List yg) from z) (by simp)
 refine⟨⟨e0.mod,S.kind,rfl,rfl,yj _,λy z c h1 h2=>?_,λy hy=>?_,λy c _ h=>?_,λ_=>hd,Around.frames_deeper e0.frames,.inr ⟨rfl,rfl⟩,λb z=>absurd z (noA b),e0.bs,e0.bsz,λb _ _=>noA b,λb z=>absurd z (noA b),e0.TQ,e0.frf⟩,
  rfl,e0.bare,Un.kept hk,⟨_,x.toInCall.ns,λi y v h1 h2 h3=>?_⟩,λy c h=>⟨_,x.cell y c h⟩,e0.hok.fresh (yj _),λy c h=>?_,λp hp=>absurd (show p∈([]:List (yg×xb)) from hp) (by simp),e0.hok.kept hk,?_⟩
 ·exact name_of_addr x.apart (yV h1) (yV h2)
 ·have hy:scope.names.lookup y=some .cell\/scope.names.lookup y=some .free:=hy;rcases hy with hy|hy
  ·exact z2o hy
  ·exact absurd rfl (S.nofree _ (yV hy))
 ·exact YD (x.above y c (yV h))
 ·have hi:i<vs.length:=by
   unfold start at h2
   by_cases hi:i<vs.length
   ·exact hi
   ·rw[yL (by simpa using hi)]at h2;rw[Yw]at h2
    split at h2<;>cases h2
  have ha:vs[i]?=some v:=by
   unfold start at h2;rw[yw (by simpa using hi),yh]at h2
   cases e:vs[i]? with
   |none=>rw[e]at h2;cases h2
   |some a=>rw[e]at h2;cases h2;rfl
  obtain⟨u,hu,rv⟩:=r.get ha
  have hp:ps[i]?=some y:=by
   rw[<-S.pre,List.getElem?_take_of_lt (by omega)];exact h1
  have ndP:ps.Nodup:=by rw[<-S.pre];exact S.nd.sublist (List.take_sublist _ _)
  refine⟨u,rv,?_⟩;rcases S.par y (mem_of_getElem? hp) with k|k
  ·exact .inl ⟨k,zln ndP hp hu k⟩
  ·obtain⟨c,e⟩:=z2o (n:=s.heap.objs.size+1) k;refine .inr ⟨.inl k,c,e,?_⟩;have q:=x.cell y c e;rw[z8m ndP hp hu (by show scope.names.lookup y≠_;rw[k];decide)]at q;exact q
 ·exact e0.hok.fresh (YD (x.above y c (yV h)))
 ·unfold start;show _=N.length;rw[length_append,length_map,xQ];omega
def zRx{CX:CXT}{P:yy}{w:yH}{K:yz}{mg:yF->Option yb}{base:Yb}{k:Nat}{f:yg}{name qual:yF}{params:Arguments}{body:List Yg}{scope:xU}{dV kV doc pm cdv ct oc:yb}{an od:Option yg}
 {osl:Array (Option yb)} {N ps:List yF} {sp:Sp} (lk:K.lookup f=some ⟨oc,od,.func (W.fnOf name qual params body scope dV kV doc pm an cdv ct),osl⟩) (hcd:W.codeIn K cdv qual=true) (S:tm N ps scope)
 (len:∀vs H Q E,sp vs H Q E->vs.length=ps.length)
 (hbody:∀(A:yN)(outer:List Env)(s:yc)(H:Hp)(vs:List V)(Q:VK)(E:XK),Th k (A.deeper (envOfC qual scope s.heap.objs.size f cdv))->sp vs H Q E ->
  ∃t,PSs (zGu CX P w K mg base N qual scope f cdv A outer s H E) body t/\t {nx:=λ_ H'=>Q .non H',rt:=Q } (start N vs) H) :
 tq P w K mg base CX (k+1) f (W.fnOf name qual params body scope dV kV doc pm an cdv ct) ps sp:=by
 refine⟨len,λA outer s H args us vs Q E hr e0 hb r hsp=>?_⟩;have hl:=len _ _ _ _ hsp;have KX:K.In s.heap:=e0.mod.kin.keeps λb o e=>(e0.bs b o e).1;have lim:s.heap.NoLimit:=e0.mod.nolimit.keeps λb o e=>(e0.bs b o e).1
 have hkind:∀y∈ps.zip us,scope.names.lookup y.1=some .local\/(scope.names.lookup y.1=some .cell/\((Yi (s.heap.objs.size+1) scope.names []).lookup y.1).isSome=true):=λ⟨n,v⟩ hy=>by
  rcases S.par n (List.of_mem_zip hy).1 with q|q
  ·exact .inl q
  ·exact .inr ⟨q,W.cellsFrom_some _ _ _ (.inl q)⟩
 refine codeAny_call_function hr.depth (KX _ _ lk) rfl S.co S.gen rfl (W.codeRec_of KX hcd) (hb _ _ _ _ ?_);refine wpAny_newFunctionEnv_cells S.kind hkind λenv he s1 x=>?_;subst he;refine⟨lim.keeps x.toInCall.keep,codeAny_func ?_⟩;obtain⟨t,ht,hq⟩:=hbody A outer s H vs Q E (hr.deeper _) hsp;have I:Inv (zGu CX P w K mg base N qual scope f cdv A outer s H E) [] (start N vs) H s1:=zNr S hr.hd e0 hl r x;refine YU (ht [] s1 (start N vs) H _ I hq) (λfl s' hs=>?_) λe s' hs=>hs
 have fin:∀{Y':St} {H':Hp} {v:V} {u:yb},Inv (zGu CX P w K mg base N qual scope f cdv A outer s H E) [] Y' H' s'->RelV v u->Q v H'->CE outer P w H s Q u s' :=
  λ{Y' H' v u} δ rv q=>⟨v,H',δ.os,δ.bare,δ.base,δ.hok,rv,q⟩
 cases fl with
 |ret u=>
  obtain⟨v,Y',H',δ,rv,q⟩:=hs;exact fin δ rv q
 |next=>
  obtain⟨Y',H',δ,q⟩:=hs;exact fin (v:=V.non) (u:=YE) δ rfl q
 |brk=>
  obtain⟨_,_,_,q⟩:=hs;exact xK q
 |cont=>
  obtain⟨_,_,_,q⟩:=hs;exact xK q
section
variable {X:Cx}{x:yF}{p pos:xV}{e:yD}{es:List yD}{t:TA}{id T:String}{r:List V->Hp->VK->Prop}
def tCB(r:List V->Hp->VK->Prop)(t:TA):TE:=λY H Q=>t Y H λvs H1=>r vs H1 Q
def zkp(hc:zZj X (.builtin id) r)(hg:Gl X x)(hm:X.mg x=none)(hv:yI x=some (.builtin id))(ha:PA X (e::es) t)(hn:x≠"__name__":=by decide)(hdb:(x==("__debug__":yF))=false:=by decide)
 (he:yr (e::es) X.env=(false,Yt e X.env)::yr es X.env:=by rfl) (hpl:(YZ pos (yr es X.env)).any (·.1)=false:=by rfl):PE X (.Call (.Name x p) (e::es) [] pos) (tCB r t):=by
 intro U s Y H Q I h;refine xL (zEk I hg hm hv ?_ hn hdb);exact PyProof.Rows.callWith_builtin1 (thn (ha pos U s Y H _ I h) λus s1 ⟨vs,H1,I1,r1,q1⟩=>hc U s1 Y H1 vs us Q I1 r1 q1) he hpl
def z4g(hc:zZj X (.type T) r)(hg:Gl X x)(hm:X.mg x=none)(hv:yI x=some (.type T))(ha:PA X (e::es) t)(hn:x≠"__name__":=by decide)(hdb:(x==("__debug__":yF))=false:=by decide)
 (he:yr (e::es) X.env=(false,Yt e X.env)::yr es X.env:=by rfl) (hpl:(YZ pos (yr es X.env)).any (·.1)=false:=by rfl):PE X (.Call (.Name x p) (e::es) [] pos) (tCB r t):=by
 intro U s Y H Q I h;refine xL (zEk I hg hm hv ?_ hn hdb);exact YH (thn (ha pos U s Y H _ I h) λus s1 ⟨vs,H1,I1,r1,q1⟩=>hc U s1 Y H1 vs us Q I1 r1 q1) he hpl
end
end L2
namespace HT
open PySem PyProof.Rows
def sQ(A:yN)(s:yc)(a:Int)(t:Tok)(c:Int)(u:Tok):∃e,SeqAt.EqAt A s (.int a t) (.int c u) e/\(e=true↔a=c) :=
 ⟨(a==c),SeqAt.EqAt.int_int a t c u,by simp⟩
def sR(A:yN)(s:yc)(a:Int)(t:Tok)(c:Int)(u:Tok)(prog:yy)(w:yH)(E:yb->yc->Prop)(Q:yb->yc->Prop)(h:Q (.bool (decide (a<c))) s) :
 yo (yx prog w) A (richCompare .Lt (.int a t) (.int c u)) Q E s :=
 (PyProof.Rows.lt_int h:yo (yx prog w) A (Yh .Lt (.int a t) (.int c u)) Q E s)
section
open PySem.SeqAt
open PySem.AutoSeq1 (wpAny_loadPart')
open PySem.MeetsSeq PySem.MeetsSeq2 PySem.MeetsSeq3
end
section
variable {prog:yy}{w:yH}{A:yN}{E:yb->yc->Prop}{s:yc}
def cat_tup{t b:yg}{vs ws:List yb}{Q:yb->yc->Prop}(ht:IsTup s.heap t vs.toArray)(hb:IsTup s.heap b ws.toArray)(hv:vs≠[])
 (h1:ws=[]->Q (.ref t) s) (h2:ws≠[]->Q (.ref s.heap.objs.size) {s with heap:=s.heap.push {cls:=.type "tuple",data:=.seq (vs++ws).toArray }})
 (hsz:vs.length+ws.length<=yE):yo (yx prog w) A (xl .Add (.ref t) (.ref b)) Q E s:=by
 obtain⟨⟨cls,dd,data,sl⟩,ho,hc,n,hd⟩:=id ht;obtain⟨⟨cls2,dd2,data2,sl2⟩,ho2,hc2,n2,hd2⟩:=id hb;simp only at hc hd hc2 hd2;subst hc hd hc2 hd2;have e:vs.toArray++ws.toArray=(vs++ws).toArray:=by simp
 by_cases hw:ws=[]
 ·exact concat_meets ⟨_,ho,rfl⟩ ⟨_,ho2,rfl⟩ noFill_tuple_add seq_tuple_add PySem.F.slot_tuple_add PySem.F.entry_tuple_add (PySem.F.args_tuple_add_2 _ _)
   (tuple_addW1 t b vs.toArray ws.toArray n n2 dd dd2 sl sl2 (by simpa using hv) (by simp[hw])) ⟨ho,ho2,h1 hw⟩
 ·refine concat_meets ⟨_,ho,rfl⟩ ⟨_,ho2,rfl⟩ noFill_tuple_add seq_tuple_add PySem.F.slot_tuple_add PySem.F.entry_tuple_add (PySem.F.args_tuple_add_2 _ _)
   (tuple_addW2 t b vs.toArray ws.toArray n n2 dd dd2 sl sl2 (by simpa using hv) (by simpa using hw) (by rw[size_toArray,size_toArray];exact hsz)) ⟨ho,ho2,?_⟩
  rw[e];exact h2 hw
def sIx(n d:Nat):Option Int->Nat
 |none=>d
 |some v=>if v<0 then(v+(n:Int)).toNat else min v.toNat n
def sx(n d:Nat):sIx n d none=d:=rfl
def sK(n d k:Nat):sIx n d (some (k:Int))=min k n:=by
 show(if(k:Int)<0 then((k:Int)+(n:Int)).toNat else min (k:Int).toNat n)=min k n;rw[if_neg (by omega),yJ]
def zRv(n d:Nat)(hd:d<=n)(o:Option Int):sIx n d o<=n:=by
 cases o with
 |none=>exact hd
 |some v=>
  show(if v<0 then(v+(n:Int)).toNat else min v.toNat n)<=n
  by_cases hv:v<0
  ·rw[if_pos hv];omega
  ·rw[if_neg hv];exact Nat.min_le_right _ _
def zOr(v:Int)(n d:Nat):(if v<0 then max (v+(n:Int)) 0 else min v (n:Int))=((sIx n d (some v):Nat):Int):=by
 show(if v<0 then max (v+(n:Int)) 0 else min v (n:Int))=(((if v<0 then(v+(n:Int)).toNat else min v.toNat n):Nat):Int)
 by_cases hv:v<0
 ·simp only[if_pos hv];omega
 ·simp only[if_neg hv];omega
def zFp(lo hi:Option Int)(n:Nat):Builtin.Slice.sliceAdjust lo hi 1 (n:Int)=(((sIx n 0 lo:Nat):Int),((sIx n n hi:Nat):Int)):=by
 have h1:¬((1:Int)<0):=by omega
 unfold Builtin.Slice.sliceAdjust;simp only[h1,if_false];refine Prod.ext ?_ ?_
 ·cases lo with
  |none=>rfl
  |some v=>exact zOr v n 0
 ·cases hi with
  |none=>rfl
  |some v=>exact zOr v n n
def zGp(i j:Nat):xp (i:Int) (j:Int) 1=j-i:=by
 unfold xp;have h1:(1:Int)>0:=by omega
 simp only[h1,if_true,Int.ediv_one]
 split<;>omega
def zQk{v:yb}{o:Option Int}{Q:Option Int->yc->Prop}(p:IsPart v o)(h:Q o s):yo (yx prog w) A (Builtin.Slice.slicePartIndex v) Q E s:=by
 cases p with
 |none=>exact slicePart_none h
 |int i t=>exact slicePart_int h
def Tl{sl:yg}{vl vu:yb}{lo hi:Option Int}{n:Nat}{Q:Int×Int×Nat->yc->Prop}(hs:s.heap.IsSliceOf sl vl vu .none)(pl:IsPart vl lo)(pu:IsPart vu hi)
 (h:Q (((sIx n 0 lo:Nat):Int),1,sIx n n hi-sIx n 0 lo) s):yo (yx prog w) A (Builtin.Slice.sliceApplied (.ref sl) (pure (n:Int))) Q E s:=by
 obtain⟨os,hos,hcs,hds⟩:=id hs;unfold Builtin.Slice.sliceApplied Builtin.Slice.sliceFields;refine ya (ya (YO hos hds (x:=vl) rfl (ya (YO hos hds (x:=vu) rfl (ya (YO hos hds (x:=.none) rfl (yf ?_)))))));refine ya (slicePart_none ?_);show yo _ _ (if((1:Int)==0)=true then _ else _) _ _ s;rw[if_neg (by decide)];refine ya (zQk pl (ya (zQk pu (ya (yf ?_)))));show yo _ _ (match Builtin.Slice.sliceAdjust lo hi 1 (n:Int) with|(lo,hi)=>pure (lo,(1:Int),xp lo hi 1)) _ _ s;rw[zFp lo hi n];show yo _ _ (pure (((sIx n 0 lo:Nat):Int),(1:Int),xp ((sIx n 0 lo:Nat):Int) ((sIx n n hi:Nat):Int) 1)) _ _ s;rw[zGp];exact yf h
def ztt(xs:Array yb)(i k:Nat):((yi k).filterMap λ(m:Nat)=>xs[((i:Int)+(m:Int)*1).toNat]?).toArray=((xs.toList.drop i).take k).toArray:=by
 have e:(λ(m:Nat)=>xs[((i:Int)+(m:Int)*1).toNat]?)=λm=>xs[i+m]?:=by
  funext m
  have:((i:Int)+(m:Int)*1).toNat=i+m:=by omega
  rw[this]
 rw[e];have:=pick_run xs i k;rw[List.filterMap_map]at this;have e2:((λx=>xs[x]?)∘λx=>i+x)=λm=>xs[i+m]?:=rfl;rw[e2]at this;rw[this]
def TF{t sl:yg}{items:Array yb}{vl vu:yb}{lo hi:Option Int}{Q:yb->yc->Prop}(ht:IsTup s.heap t items)(hs:s.heap.IsSliceOf sl vl vu .none)(pl:IsPart vl lo)(pu:IsPart vu hi)
 (hw:¬(sIx items.size 0 lo=0/\sIx items.size items.size hi=items.size))
 (h:Q (.ref s.heap.objs.size) {s with heap:=s.heap.push {cls:=.type "tuple",data:=.seq ((items.toList.drop (sIx items.size 0 lo)).take (sIx items.size items.size hi-sIx items.size 0 lo)).toArray }})
 (hsz:items.size<=yE):yo (yx prog w) A (getItem (.ref t) (.ref sl)) Q E s:=by
 have htake:sizeOk (.seq ((items.toList.drop (sIx items.size 0 lo)).take (sIx items.size items.size hi-sIx items.size 0 lo)).toArray):=by
  show((items.toList.drop (sIx items.size 0 lo)).take (sIx items.size items.size hi-sIx items.size 0 lo)).toArray.size<=yE;rw[size_toArray,length_take,length_drop,xC];omega
 have hj:sIx items.size items.size hi<=items.size:=zRv _ _ (yj _) hi;obtain⟨os,hos,hcs,hds⟩:=id hs;have hTs:s.TypeIs (.ref sl) "slice":=⟨os,hos,hcs⟩
 unfold getItem
 try with_reducible refine yP ?_
 first|refine ya (yf ?_)|skip
 refine ya (wpAny_sequenceKey ht.typeIs (by decide) ?_)
 refine ya (yW (name:=YL "__getitem__") ht.typeIs YT
  (yQ YT ht.typeIs entry_tuple_getitem ?_ (args_tuple_getitem _ _)))
 show yo _ _ (Builtin.Tuple.tupleItemsOf (.ref t) >>= _) _ _ s;refine ya (tupleItemsOf_ ht ?_);refine ya (xv hTs ?_);rw[if_pos (by decide)];refine ya (Tl hs pl pu ?_)
 have hno:¬((((sIx items.size 0 lo:Nat):Int)==0&&(1:Int)==1&&(sIx items.size items.size hi-sIx items.size 0 lo)==items.size)=true):=by
  intro q;rw[yG,yG]at q;have q1:((sIx items.size 0 lo:Nat):Int)=0:=eq_of_beq q.1.1;have q2:sIx items.size items.size hi-sIx items.size 0 lo=items.size:=eq_of_beq q.2;exact hw ⟨by omega,by omega⟩
 show yo _ _ (if(((sIx items.size 0 lo:Nat):Int)==0&&(1:Int)==1&&(sIx items.size items.size hi-sIx items.size 0 lo)==items.size)=true then _ else _) _ _ s;rw[if_neg hno,ztt]
 first
  |exact ya (m:=YW _) (yT (yf ⟨_,rfl,yf h⟩) htake)
  |exact ya (m:=YW _) (yT (ya (yf (yf ⟨_,rfl,yf h⟩))) htake)
  |exact ya (ya (m:=YW _) (yT (yf (yf ⟨_,rfl,yf h⟩)) htake))
  |exact ya (ya (m:=YW _) (yT (yf ⟨_,rfl,yf h⟩) htake))
end
end HT
namespace L2
open PySem PySem.Spec PyProof.Rows
abbrev TO:=St->Hp->(Option Int->Hp->Prop)->Prop
def PO(X:Cx)(e:Option yD)(t:TO):Prop :=
 ∀(U:List (yg×xb)) (s:yc) (Y:St) (H:Hp) (Q:Option Int->Hp->Prop),Inv X U Y H s->t Y H Q ->
  yo (yx X.prog X.w) X.A (evalPart e X.env) (λu s'=>∃o H',Inv X U Y H' s'/\IsPart u o/\Q o H') X.xe s
def zTu:TO:=λ_ H Q=>Q none H
def zIx(t:TE):TO:=λY H Q=>t Y H λx H1=>∃i,x=.int i/\Q (some i) H1
def zLe{ns:List Int}:∀{us:List yb},Vals (ns.map V.int) us->Xf us ns:=by
 induction ns with
 |nil=>intro us r;rw[List.map_nil]at r;cases r;exact .nil
 |cons n ns ih=>
  intro us r;rw[map_cons]at r
  cases r with
  |cons r1 r2=>
   obtain⟨t,e⟩:=r1;subst e;exact .cons n t (ih r2)
section
variable {X:Cx}{e:yD}{te:TE}{lo hi:Option yD}{tl th:TO}{pos p2:xV}
def zgu:PO X none zTu:=by
 intro U s Y H Q I h;rw[evalPart_none];exact yf ⟨none,H,I,.none,h⟩
def zmu(h:PE X e te):PO X (some e) (zIx te):=by
 intro U s Y H Q I hw;rw[evalPart_some];refine thn (h U s Y H _ I hw) λu s1 ⟨x,H1,I1,r1,q1⟩=>?_;obtain⟨i,rfl,q⟩:=q1;obtain⟨t,rfl⟩:=r1;exact⟨some i,H1,I1,.int i t,q⟩
def SlR(X:Cx)(r:V->Option Int->Option Int->Hp->VK->Prop):Prop :=
 ∀(U:List (yg×xb)) (s:yc) (Y:St) (H:Hp) (x:V) (v vl vu:yb) (lo hi:Option Int) (sl:yg) (Q:VK),Inv X U Y H s->RelV x v->s.heap.IsSliceOf sl vl vu .none->IsPart vl lo->IsPart vu hi->r x lo hi H Q ->
  ∃T id,typeLookup (.type T) "__getitem__"=pure (some (.builtin id))/\s.TypeIs v T/\yo (yx X.prog X.w) X.A (getItem v (.ref sl)) (EP X U Y Q) X.xe s
def SlR.or{r r':V->Option Int->Option Int->Hp->VK->Prop}(h:SlR X r)(h':SlR X r'):SlR X (λx lo hi H Q=>r x lo hi H Q\/r' x lo hi H Q):=by
 intro U s Y H x v vl vu lo hi sl Q I rx hs pl pu q;rcases q with q|q
 ·exact h U s Y H x v vl vu lo hi sl Q I rx hs pl pu q
 ·exact h' U s Y H x v vl vu lo hi sl Q I rx hs pl pu q
def tSl(r:V->Option Int->Option Int->Hp->VK->Prop)(te:TE)(tl th:TO):TE:=λY H Q=>te Y H λx H1=>tl Y H1 λl H2=>th Y H2 λu H3=>r x l u H3 Q
def zHs{r:V->Option Int->Option Int->Hp->VK->Prop}(hr:SlR X r)(he:PE X e te)(hl:PO X lo tl)(hu:PO X hi th):PE X (.Subscript e (.Slice lo hi none p2) pos) (tSl r te tl th):=by
 intro U s Y H Q I h;refine Subscript_ (thn (he U s Y H _ I h) λv s1 ⟨x,H1,I1,r1,q1⟩=>?_);refine wpAny_Slice (thn (hl U s1 Y H1 _ I1 q1) λvl s2 ⟨l,H2,I2,pl,q2⟩=>thn (hu U s2 Y H2 _ I2 q2) λvu s3 ⟨u,H3,I3,pu,q3⟩=>?_);rw[evalPart_none];refine yf ?_;have I4:Inv X U Y H3 {s3 with heap:=s3.heap.push {cls:=.type "slice",data:=.fields #[vl,vu,.none]}}:=I3.kept (t':=s3.toks) λb ob q=>ye _ q;obtain⟨T,id,hT,ht,hg⟩:=hr U {s3 with heap:=s3.heap.push {cls:=.type "slice",data:=.fields #[vl,vu,.none]}} Y H3 x v vl vu l u s3.heap.objs.size Q I4 r1 (Heap.IsSliceOf.new ..) pl pu q3;show yo (yx X.prog X.w) X.A (subscriptTail e (.Slice lo hi none p2) v (.ref s3.heap.objs.size)) (EP X U Y Q) X.xe {s3 with heap:=s3.heap.push {cls:=.type "slice",data:=.fields #[vl,vu,.none]}};exact tail_any (ops:=[.ref s3.heap.objs.size,v]) ht hT hg (by with_unfolding_all rfl)
def zir(xs:List V)(lo hi:Option Int):List V:=(xs.drop (HT.sIx xs.length 0 lo)).take (HT.sIx xs.length xs.length hi-HT.sIx xs.length 0 lo)
def zYj(xs:List V)(lo hi:Option Int):(zir xs lo hi).length<=xs.length:=by
 unfold zir;rw[length_take,length_drop];omega
def zSy(K:yz):V->Option Int->Option Int->Hp->VK->Prop:=λx lo hi H Q=>∃a xs,x=.ref a/\SqT K H a xs /\
 ¬(HT.sIx xs.length 0 lo=0/\HT.sIx xs.length xs.length hi=xs.length)/\∀p,H p=none->Q (.ref p) (upd H p (.tup (zir xs lo hi)))
def zxw:SlR X (zSy X.K):=by
 intro U s Y H x v vl vu lo hi sl Q I rx hs pl pu h;obtain⟨a,xs,rfl,hx,hw,q⟩:=h;cases rx;obtain⟨its,r,ht,hz⟩:=I.tuple hx;have hlen:its.toArray.size=xs.length:=by rw[size_toArray];exact r.length.symm
 refine⟨"tuple",_,PyProof.Rows.slot_tuple_getitem.lookup,ht.typeIs,?_⟩;refine HT.TF ht hs pl pu (by rw[hlen];exact hw) ?_ (by rw[hlen];exact hz);rw[hlen];refine⟨.ref s.heap.objs.size,_,I.laid (t':=s.toks) (o:=.tup (zir xs lo hi)) (λb ob q=>ye _ q) (yj _) ?_,rfl,q _ (I.hok.fresh (yj _))⟩;exact⟨yA (zYj xs lo hi) hz,_,(r.drop (HT.sIx xs.length 0 lo)).take (HT.sIx xs.length xs.length hi-HT.sIx xs.length 0 lo),IsTup.new _ _⟩
def zWx(K:yz):R2:=λx y H Q=>∃a b xs ys,x=.ref a/\y=.ref b/\SqT K H a xs/\SqT K H b ys/\xs≠[]/\xs.length+ys.length<=yE /\
 (ys=[]->Q (.ref a) H)/\(ys≠[]->∀p,H p=none->Q (.ref p) (upd H p (.tup (xs++ys))))
def Vals.TN{xs:List V}{us:List yb}(r:Vals xs us):us=[]↔xs=[]:=by
 cases r with
 |nil=>simp
 |cons _ _=>simp
def zQu:OpR X (xl .Add) (zWx X.K):=by
 intro U s Y H x y v u Q I rx ry h;obtain⟨a,b,xs,ys,rfl,rfl,ha,hb,hx,hz,q1,q2⟩:=h;cases rx;cases ry;obtain⟨its,r1,p1,_⟩:=I.tuple ha;obtain⟨its2,r2,p2,_⟩:=I.tuple hb;refine HT.cat_tup p1 p2 (λz=>hx (r1.TN.mp z)) (λz=>⟨.ref a,H,I,rfl,q1 (r2.TN.mp z)⟩) (λz=>?_) (by rw[<-r1.length,<-r2.length];exact hz);refine⟨.ref s.heap.objs.size,_,I.laid (t':=s.toks) (o:=.tup (xs++ys)) (λb ob q=>ye _ q) (yj _) ?_,rfl,q2 (λw=>z (r2.TN.mpr w)) _ (I.hok.fresh (yj _))⟩;exact⟨by rw[length_append];exact hz,_,r1.append r2,IsTup.new _ _⟩
end
def ixN(n:Nat)(i:Int):Option Nat:=if 0<=i then(if i<n then some i.toNat else none) else if -(n:Int)<=i then some (i+n).toNat else none
def atI{α:Type}(xs:List α)(i:Int):Option α:=(ixN xs.length i).bind λj=>xs[j]?
def zXq{n:Nat}{i:Int}{j:Nat}(h:ixN n i=some j):seqIndex? i n=some j/\j<n/\-(n:Int)<=i/\i<n:=by
 unfold ixN at h
 by_cases h0:0<=i
 ·rw[if_pos h0]at h
  by_cases h1:i<n
  ·rw[if_pos h1]at h;have e:i.toNat=j:=yS h;exact⟨by rw[seqIndex_of h0 h1,e],by omega,by omega,h1⟩
  ·rw[if_neg h1]at h;cases h
 ·rw[if_neg h0]at h
  by_cases h1:-(n:Int)<=i
  ·rw[if_pos h1]at h;have e:(i+n).toNat=j:=yS h;exact⟨by rw[seqIndex_neg (by omega) h1,e],by omega,h1,by omega⟩
  ·rw[if_neg h1]at h;cases h
def zpo{α:Type}{xs:List α}{i:Int}{v:α}(h:atI xs i=some v):∃j,seqIndex? i xs.length=some j/\xs[j]?=some v/\j<xs.length/\-(xs.length:Int)<=i/\i<xs.length:=by
 unfold atI at h
 cases e:ixN xs.length i with
 |none=>rw[e]at h;cases h
 |some j=>
  rw[e]at h;obtain⟨h1,h2,h3,h4⟩:=zXq e;exact⟨j,h1,h,h2,h3,h4⟩
def zke{α:Type}{xs:List α}{j:Nat}{v:α}(h:xs[j]?=some v):atI xs (j:Int)=some v:=by
 have hj:j<xs.length:=(List.getElem?_eq_some_iff.mp h).1
 have e:ixN xs.length (j:Int)=some j:=by
  unfold ixN;rw[if_pos (by omega),if_pos (by omega)];simp
 unfold atI;rw[e];exact h
def z4n(b:yD):Prop:=∀o i,subscripted b false o i=operate [o,i] (getItem o i)
def IxR(X:Cx)(r:R2):Prop :=
 ∀(value slice:yD)(U:List (yg×xb)) (s:yc) (Y:St) (H:Hp) (x y:V) (v u:yb) (Q:VK),Inv X U Y H s->RelV x v->RelV y u->r x y H Q ->
  subscripted slice false v u=operate [v,u] (getItem v u)->yo (yx X.prog X.w) X.A (subscriptTail value slice v u) (EP X U Y Q) X.xe s
def MtR(X:Cx)(id:String)(r:V->List V->Hp->VK->Prop):Prop :=
 ∀(U:List (yg×xb)) (s:yc) (Y:St) (H:Hp) (x:V) (xs:List V) (v:yb) (us:List yb) (Q:VK),Inv X U Y H s->RelV x v->Vals xs us->r x xs H Q ->
  yo (yx X.prog X.w) X.A (call (.builtin id) (v::us)) (EP X U Y Q) X.xe s
section
variable {X:Cx}{a b:yD}{ta tb:TE}{pos:xV}
def IxR.or{r r':R2}(h:IxR X r)(h':IxR X r'):IxR X (λx y H Q=>r x y H Q\/r' x y H Q):=by
 intro value slice U s Y H x y v u Q I rx ry q hs;rcases q with q|q
 ·exact h value slice U s Y H x y v u Q I rx ry q hs
 ·exact h' value slice U s Y H x y v u Q I rx ry q hs
def zSw{r:R2}(hr:IxR X r)(ha:PE X a ta)(hb:PE X b tb)(hs:z4n b):PE X (.Subscript a b pos) (tOp r ta tb):=by
 intro U s Y H Q I h;exact Subscript_ (binT ha hb I h λv u s2 x y H2 I2 rx ry q=>hr a b U s2 Y H2 x y v u Q I2 rx ry q (hs _ _))
def zmy(K:yz):R2:=λx y H Q=>∃p xs i v,x=.ref p/\y=.int i/\SqL K H p xs/\atI xs i=some v/\Q v H
def zay(K:yz):R2:=λx y H Q=>∃p xs i v,x=.ref p/\y=.int i/\SqT K H p xs/\atI xs i=some v/\Q v H
def zoy:R2:=λx y H Q=>∃z i c,x=.str z/\y=.int i/\z.length<=yE/\atI z.cps.toList i=some c/\Q (.str ⟨#[c]⟩) H
def ix_list:IxR X (zmy X.K):=by
 intro value slice U s Y H x y v u Q I rx ry h hs;obtain⟨p,xs,i,z,rfl,rfl,hq,he,q⟩:=h;cases rx;obtain⟨t,rfl⟩:=ry;obtain⟨its,r,pl,hz⟩:=I.list hq;obtain⟨j,h1,h2,h3,h4,h5⟩:=zpo he;obtain⟨w,ew,rw'⟩:=r.get h2;have hl:=r.length;have hn:=TR;have fin:EP X U Y Q w s:=⟨z,H,I,rw',q⟩
 by_cases h0:0<=i
 ·have hj:i.toNat=j:=by
   rw[seqIndex_of h0 h5]at h1;exact yS h1
  exact item_listR pl.isList h0 (by omega) (by rw[hj];simpa using ew) fin hs
 ·have hj:(i+(its.toArray.size:Int)).toNat=j:=by
   rw[seqIndex_neg (by omega) h4]at h1;rw[size_toArray,<-hl];exact yS h1
  exact subscriptTail_builtinR (x:=w) pl.isList.typeIs slot_list_getitem.lookup
   (wpAny_getItem_list_neg (Q:=λr s'=>r=w/\EP X U Y Q r s') pl.isList (by omega) (by rw[size_toArray]<;>omega) (by omega) (by rw[hj];simpa using ew) ⟨rfl,fin⟩) hs
def ix_tup:IxR X (zay X.K):=by
 intro value slice U s Y H x y v u Q I rx ry h hs;obtain⟨p,xs,i,z,rfl,rfl,hq,he,q⟩:=h;cases rx;obtain⟨t,rfl⟩:=ry;obtain⟨its,r,pl,hz⟩:=I.tuple hq;obtain⟨j,h1,h2,h3,h4,h5⟩:=zpo he;obtain⟨w,ew,rw'⟩:=r.get h2;have hl:=r.length;have hn:=TR;have fin:EP X U Y Q w s:=⟨z,H,I,rw',q⟩
 exact subscriptTail_builtinR (x:=w) pl.typeIs slot_tuple_getitem.lookup
  (getItem_tuple (j:=j) (Q:=λr s'=>r=w/\EP X U Y Q r s') pl (by omega) (by omega) (by rw[size_toArray,<-hl];exact h1) (by simpa using ew) ⟨rfl,fin⟩) hs
def z1w:IxR X zoy:=by
 intro value slice U s Y H x y v u Q I rx ry h hs;obtain⟨z,i,c,rfl,rfl,hz,he,q⟩:=h;obtain⟨t,rfl⟩:=rx;obtain⟨t',rfl⟩:=ry;obtain⟨j,h1,h2,h3,h4,h5⟩:=zpo he;have hl:z.cps.toList.length=z.length:=by simp[Str.length]
 rw[hl]at h1 h4 h5;have hn:=TR
 exact tail_any (typeIs_str s z t) slot_str_getitem.lookup (getItem_str (c:=c) (by
  have e1:decide (i < -(2^63:Int))=false:=decide_eq_false (by omega);have e2:decide (i≥2^63)=false:=decide_eq_false (by omega);rw[e1,e2,Bool.or_false]) (by rw[h1];simpa using h2) ⟨.str ⟨#[c]⟩,H,I.tok _,⟨_,rfl⟩,q⟩) hs
def rIx(K:yz):R2:=λx y H Q=>zmy K x y H Q\/zay K x y H Q\/zoy x y H Q
def zRt:IxR X (rIx X.K):=ix_list.or (ix_tup.or z1w)
def zNp(its:List yb)(n j:Nat)(u:yb):yU (·.setIfInBounds j u) {cls:=.type "list",data:=.seq its.toArray n } = {cls:=.type "list",data:=.seq (its.set j u).toArray n }:=by
 simp[yU]
def Inv.lst{U:List (yg×xb)}{Y:St}{H:Hp}{s:yc}{p:yg}{xs:List V}(I:Inv X U Y H s)(h:H p=some (.lst xs)) :
 ∃(its:List yb)(n:Nat),Vals xs its/\s.heap.get? p=some {cls:=.type "list",data:=.seq its.toArray n }/\xs.length<=yE:=by
 obtain⟨z,its,n,r,e⟩:=I.hok p _ h;exact⟨its,n,r,e,z⟩
def Inv.lstUpd{U:List (yg×xb)}{Y:St}{H:Hp}{s:yc}{p:yg}{xs ys:List V}{its its':List yb}{n n':Nat}{f:xb->xb}(I:Inv X U Y H s)(h:H p=some (.lst xs))
 (ho:s.heap.get? p=some {cls:=.type "list",data:=.seq its.toArray n }) (hf:f {cls:=.type "list",data:=.seq its.toArray n } = {cls:=.type "list",data:=.seq its'.toArray n' }) (r:Vals ys its') (hz:ys.length<=yE) (t:Nat) :
 Inv X U Y (upd H p (.lst ys)) {s with heap:=s.heap.update p f,toks:=t }:=by
 have e:(s.heap.update p f).get? p=some {cls:=.type "list",data:=.seq its'.toArray n' }:=by
  rw[Yd f ho (by rw[hf]<;>rfl),hf]
 refine I.write (x:=p) (e:=p) (by rw[h];trivial) (.inl rfl) (λb u hb q=>(xh _ _ (Yv hb)).trans q) ⟨_,e⟩ ?_;exact⟨hz,its',n',r,e⟩
def zXx:V->V->V->Hp->(Hp->Prop)->Prop:=λo i v H Q=>∃p xs k j,o=.ref p/\i=.int k/\H p=some (.lst xs)/\ixN xs.length k=some j/\Q (upd H p (.lst (xs.set j v)))
def zCt:zix X zXx:=by
 intro U s Y H o i v ov iv u Q I ro ri rv h;obtain⟨p,xs,k,j,rfl,rfl,hp,hj,q⟩:=h;cases ro;obtain⟨t,rfl⟩:=ri;obtain⟨its,n,r,ho,hz⟩:=I.lst hp;obtain⟨h1,h2,h3,h4⟩:=zXq hj;have hl:=r.length;have hn:=TR
 have I':Inv X U Y (upd H p (.lst (xs.set j v))) {s with heap:=s.heap.update p (yU (·.setIfInBounds j u))} :=
  I.lstUpd hp ho (zNp its n j u) (r.set rv j) (by rw[List.length_set];exact hz) s.toks
 by_cases h0:0<=k
 ·have hk:k.toNat=j:=by
   rw[seqIndex_of h0 h4]at h1;exact yS h1
  exact W.ki_setAt ho h0 (by omega) (by rw[size_toArray,<-hl];exact h4) (by rw[hk];exact⟨_,I',q⟩)
 ·have hk:(k+(its.toArray.size:Int)).toNat=j:=by
   rw[seqIndex_neg (by omega) h3]at h1;rw[size_toArray,<-hl];exact yS h1
  exact W.ki_setBack ho (by omega) (by rw[size_toArray,<-hl];exact h3) (by omega) (by rw[hk];exact⟨_,I',q⟩)
def zJm(lo hi:Option Int)(n:Nat):(sliceBounds lo hi none n).1=((HT.sIx n 0 lo:Nat):Int)/\(sliceBounds lo hi none n).2.1=((HT.sIx n n hi:Nat):Int)/\(sliceBounds lo hi none n).2.2=1:=by
 refine⟨?_,?_,rfl⟩
 ·cases lo with
  |none=>simp[sliceBounds,HT.sIx]
  |some i=>
   simp only[sliceBounds,HT.sIx,Option.getD_none,show(1:Int)>0 by decide,if_true]
   by_cases h:i<0
   ·simp only[h,if_true]<;>omega
   ·simp only[h,if_false]<;>omega
 ·cases hi with
  |none=>simp[sliceBounds,HT.sIx]
  |some i=>
   simp only[sliceBounds,HT.sIx,Option.getD_none,show(1:Int)>0 by decide,if_true]
   by_cases h:i<0
   ·simp only[h,if_true]<;>omega
   ·simp only[h,if_false]<;>omega
def zxl(its:List yb)(lo hi:Option Int):slicePick its.toArray lo hi none=((its.drop (HT.sIx its.length 0 lo)).take (HT.sIx its.length its.length hi-HT.sIx its.length 0 lo)).toArray:=by
 obtain⟨h1,h2,h3⟩:=zJm lo hi its.toArray.size;unfold slicePick;rw[h1,h2,h3];simp only[sliceRange_one,pick_run,size_toArray]<;>rfl
def zDy(K:yz):V->Option Int->Option Int->Hp->VK->Prop:=λx lo hi H Q=>∃a xs,x=.ref a/\SqL K H a xs/\∀p,H p=none->Q (.ref p) (upd H p (.lst (zir xs lo hi)))
def zjv:SlR X (zDy X.K):=by
 intro U s Y H x v vl vu lo hi sl Q I rx hs pl pu h;obtain⟨a,xs,rfl,hx,q⟩:=h;cases rx;obtain⟨its,r,ht,hz⟩:=I.list hx;have hlen:=r.length;refine⟨"list",_,slot_list_getitem.lookup,ht.isList.typeIs,?_⟩;refine wpAny_getItem_list_slice ht.isList hs pl pu .none (by simp) ?_ (by rw[size_toArray]<;>omega);rw[zxl,<-hlen];refine⟨.ref s.heap.objs.size,_,I.laid (t':=s.toks) (o:=.lst (zir xs lo hi)) (λb ob q=>ye _ q) (yj _) ?_,rfl,q _ (I.hok.fresh (yj _))⟩;exact⟨yA (zYj xs lo hi) hz,_,0,(r.drop (HT.sIx xs.length 0 lo)).take (HT.sIx xs.length xs.length hi-HT.sIx xs.length 0 lo),yn _ rfl⟩
def zIi:V->Bool
 |.non=>true
 |.bl _=>true
 |.int _=>true
 |.str _=>true
 |_=>false
def eqV:V->V->Bool
 |.non,.non=>true
 |.bl a,.bl b=>a==b
 |.bl a,.int b=>(if a then 1 else 0)==b
 |.int a,.bl b=>a==(if b then 1 else 0)
 |.int a,.int b=>a==b
 |.str a,.str b=>a==b
 |_,_=>false
def zAw{A:yN}{s:yc}{y x:V}{u v:yb}(ry:RelV y u)(rx:RelV x v)(fy:zIi y=true)(fx:zIi x=true):SeqAt.EqAt A s u v (eqV y x):=by
 cases y with
 |non=>
  cases ry
  cases x with
  |non=>cases rx;exact SeqAt.EqAt.same _
  |bl b=>cases rx;exact SeqAt.EqAt.none_bool b
  |int b=>obtain⟨t,rfl⟩:=rx;exact SeqAt.EqAt.none_int b t
  |str b=>obtain⟨t,rfl⟩:=rx;exact SeqAt.EqAt.none_str b t
  |_=>exact absurd (show false=true from fx) yv
 |bl a=>
  cases ry
  cases x with
  |non=>cases rx;exact SeqAt.EqAt.bool_none a
  |bl b=>cases rx;exact SeqAt.EqAt.bool_bool a b
  |int b=>obtain⟨t,rfl⟩:=rx;exact SeqAt.EqAt.bool_int a b t
  |str b=>obtain⟨t,rfl⟩:=rx;exact SeqAt.EqAt.bool_str a b t
  |_=>exact absurd (show false=true from fx) yv
 |int a=>
  obtain⟨t',rfl⟩:=ry
  cases x with
  |non=>cases rx;exact SeqAt.EqAt.int_none a t'
  |bl b=>cases rx;exact SeqAt.EqAt.int_bool a t' b
  |int b=>obtain⟨t,rfl⟩:=rx;exact SeqAt.EqAt.int_int a t' b t
  |str b=>obtain⟨t,rfl⟩:=rx;exact SeqAt.EqAt.int_str a t' b t
  |_=>exact absurd (show false=true from fx) yv
 |str a=>
  obtain⟨t',rfl⟩:=ry
  cases x with
  |non=>cases rx;exact SeqAt.EqAt.str_none a t'
  |bl b=>cases rx;exact SeqAt.EqAt.str_bool a t' b
  |int b=>obtain⟨t,rfl⟩:=rx;exact SeqAt.EqAt.str_int a t' b t
  |str b=>obtain⟨t,rfl⟩:=rx;exact SeqAt.EqAt.str_str a t' b t
  |_=>exact absurd (show false=true from fx) yv
 |_=>exact absurd (show false=true from fy) yv
def eqU(x:V)(u:yb):Bool:=match u with
 |.none=>eqV .non x
 |.bool b=>eqV (.bl b) x
 |.int i _=>eqV (.int i) x
 |.str z _=>eqV (.str z) x
 |_=>false
def zep{x y:V}{u:yb}(r:RelV y u)(f:zIi y=true):eqU x u=eqV y x:=by
 cases y with
 |non=>cases r;rfl
 |bl b=>cases r;rfl
 |int i=>obtain⟨t,rfl⟩:=r;rfl
 |str z=>obtain⟨t,rfl⟩:=r;rfl
 |_=>exact absurd (show false=true from f) yv
def z6j{x:V}:∀{xs:List V} {us:List yb},Vals xs us->xs.all zIi=true->us.any (eqU x)=xs.any λy=>eqV y x
 |_,_,.nil,_=>rfl
 |y::xs,u::us,.cons r t,f=>by
  rw[all_cons,yG]at f;rw[any_cons,any_cons,zep r f.1,z6j t f.2]
def zQe{A:yN}{s:yc}{x:V}{v:yb}(rx:RelV x v)(fx:zIi x=true):∀{xs:List V} {us:List yb},Vals xs us->xs.all zIi=true->∀u∈us,SeqAt.EqAt A s u v (eqU x u)
 |_,_,.nil,_=>λu hu=>by cases hu
 |y::xs,u::us,.cons r t,f=>λu' hu=>by
  rw[all_cons,yG]at f;rcases List.mem_cons.mp hu with rfl|hu
  ·rw[zep r f.1];exact zAw r rx f.1 fx
  ·exact zQe rx fx t f.2 u' hu
def inV(x:V)(xs:List V):Bool:=xs.any λy=>eqV y x
def rIn(K:yz)(neg:Bool):R2:=λx y H Q=>∃p xs,y=.ref p/\(SqL K H p xs\/SqT K H p xs)/\zIi x=true/\xs.all zIi=true/\Q (.bl (if neg then !inV x xs else inV x xs)) H
def zAr:OpR X (Yh .In) (rIn X.K false):=by
 intro U s Y H x y v u Q I rx ry h;obtain⟨p,xs,rfl,hq,fx,fs,q⟩:=h;cases ry;rcases hq with hq|hq
 ·obtain⟨its,r,pl,hz⟩:=I.list hq;refine SeqAt.in_listAt (eqU x) pl.isList (λw hw=>zQe rx fx r fs w (by simpa using hw)) ⟨.bl _,H,I,rfl,?_⟩;rw[show its.toArray.any (eqU x)=its.any (eqU x) by simp,z6j r fs];exact q
 ·obtain⟨its,r,pl,hz⟩:=I.tuple hq;refine SeqAt.in_tupleAt (eqU x) pl (λw hw=>zQe rx fx r fs w (by simpa using hw)) ⟨.bl _,H,I,rfl,?_⟩;rw[show its.toArray.any (eqU x)=its.any (eqU x) by simp,z6j r fs];exact q
def zAm:OpR X (Yh .NotIn) (rIn X.K true):=by
 intro U s Y H x y v u Q I rx ry h;obtain⟨p,xs,rfl,hq,fx,fs,q⟩:=h;cases ry;rcases hq with hq|hq
 ·obtain⟨its,r,pl,hz⟩:=I.list hq;refine SeqAt.notIn_listAt (eqU x) pl.isList (λw hw=>zQe rx fx r fs w (by simpa using hw)) ⟨.bl _,H,I,rfl,?_⟩;rw[show its.toArray.any (eqU x)=its.any (eqU x) by simp,z6j r fs];exact q
 ·obtain⟨its,r,pl,hz⟩:=I.tuple hq;refine SeqAt.notIn_tupleAt (eqU x) pl (λw hw=>zQe rx fx r fs w (by simpa using hw)) ⟨.bl _,H,I,rfl,?_⟩;rw[show its.toArray.any (eqU x)=its.any (eqU x) by simp,z6j r fs];exact q
def z0m:zZj X (.builtin "len") (λxs H Q=>∃p ys,xs=[.ref p]/\(SqL X.K H p ys\/SqT X.K H p ys)/\Q (.int ys.length) H):=by
 intro U s Y H xs us Q I r h;obtain⟨p,ys,rfl,hq,q⟩:=h;obtain⟨u,rfl,rx⟩:=vals1 r;cases rx;have hn:=TR;rcases hq with hq|hq
 ·obtain⟨its,r',pl,hz⟩:=I.list hq;have hlen:=r'.length;exact Calls.call_len_list pl.isList (by simp only[size_toArray]<;>omega) ⟨.int ys.length,H,I.tok _,⟨s.toks+1,by rw[size_toArray,hlen]⟩,q⟩
 ·obtain⟨its,r',pl,hz⟩:=I.tuple hq;have hlen:=r'.length;exact len_tuple pl (by simp only[size_toArray]<;>omega) ⟨.int ys.length,H,I.tok _,⟨s.toks+1,by rw[size_toArray,hlen]⟩,q⟩
def z2m:zZj X (.type "list") (λxs H Q=>∃p ys,xs=[.ref p]/\(SqL X.K H p ys\/SqT X.K H p ys)/\∀l,H l=none->Q (.ref l) (upd H l (.lst ys))):=by
 intro U s Y H xs us Q I r h;obtain⟨p,ys,rfl,hq,q⟩:=h;obtain⟨u,rfl,rx⟩:=vals1 r;cases rx
 have fin:∀(its:List yb),Vals ys its->ys.length<=yE->∀(h':Yb)(c':Nat),(∀b o',s.heap.get? b=some o'->h'.get? b=some o') ->
  h'.get? s.heap.objs.size=some {cls:=.type "list",dict:=none,data:=.seq its.toArray c',slots:=#[]}->EP X U Y Q (.ref s.heap.objs.size) {s with heap:=h' }:=λits r' hz h' c' kp e=>
  ⟨.ref s.heap.objs.size,_,I.laid (t':=s.toks) kp (yj _) (show tH X.prog X.w _ h' _ (.lst ys) from⟨hz,its,c',r',e⟩),rfl,q _ (I.hok.fresh (yj _))⟩
 rcases hq with hq|hq
 ·obtain⟨its,r',pl,hz⟩:=I.list hq;have hlen:=r'.length;obtain⟨o,ho,hc,n,hd⟩:=pl.isList;exact call_list_seq p (.inl rfl) ho hc hd (λh' c' kp e=>fin its r' hz h' c' kp e) (by simp only[size_toArray]<;>omega)
 ·obtain⟨its,r',pl,hz⟩:=I.tuple hq;have hlen:=r'.length;obtain⟨o,ho,hc,n,hd⟩:=pl;exact call_list_seq p (.inr rfl) ho hc hd (λh' c' kp e=>fin its r' hz h' c' kp e) (by simp only[size_toArray]<;>omega)
def zff:zZj X (.type "tuple") (λxs H Q=>∃p ys,xs=[.ref p]/\((SqL X.K H p ys/\∀l,H l=none->Q (.ref l) (upd H l (.tup ys)))\/(SqT X.K H p ys/\Q (.ref p) H))):=by
 intro U s Y H xs us Q I r h;obtain⟨p,ys,rfl,h⟩:=h;obtain⟨u,rfl,rx⟩:=vals1 r;cases rx;rcases h with ⟨hq,q⟩|⟨hq,q⟩
 ·obtain⟨its,r',pl,hz⟩:=I.list hq;have hlen:=r'.length;refine call_tuple_list pl.isList (λh' kp=>?_) (by simp only[size_toArray]<;>omega);have I1:Inv X U Y H {s with heap:=h' }:=I.kept (t':=s.toks) kp
  have I2:Inv X U Y (upd H h'.objs.size (.tup ys)) {s with heap:=h'.push {cls:=.type "tuple",data:=.seq its.toArray }} :=
   I1.laid (t':=s.toks) (λb o e=>ye _ e) (yj _) (show tH X.prog X.w _ _ _ (.tup ys) from⟨hz,its,r',IsTup.new _ _⟩)
  exact⟨.ref h'.objs.size,_,I2,rfl,q _ (I1.hok.fresh (yj _))⟩
 ·obtain⟨its,r',pl,hz⟩:=I.tuple hq;exact call_tuple_same pl ⟨.ref p,H,I,rfl,q⟩
def tyV(K:yz)(T:String)(x:V)(H:Hp):Prop:=match x with
 |.str _=>T="str"
 |.int _=>T="int"
 |.ref p=>(T="list"/\∃xs,SqL K H p xs)\/(T="tuple"/\∃o,K.lookup p=some o/\o.cls=.type "tuple"/\o.dict=none) \/
  (T="dict"/\((∃kvs,H p=some (.dK kvs))\/∃kvs,H p=some (.dT kvs)))\/(T="set"/\∃S n,H p=some (.set S n))
 |_=>False
def zOt{U:List (yg×xb)}{Y:St}{H:Hp}{s:yc}{T:String}{x:V}{v:yb}(I:Inv X U Y H s)(r:RelV x v)(ty:tyV X.K T x H) :
 s.TypeIs v T/\∀a,v=.ref a->∃ob,s.heap.get? a=some ob/\ob.dict=none:=by
 cases x with
 |str z=>
  obtain⟨t,rfl⟩:=r;cases (show T="str" from ty);exact⟨typeIs_str s z t,λ_ e=>nomatch e⟩
 |int i=>
  obtain⟨t,rfl⟩:=r;cases (show T="int" from ty);exact⟨typeIs_int s i t,λ_ e=>nomatch e⟩
 |ref p=>
  cases r;rcases ty with ⟨rfl,xs,hq⟩|⟨rfl,o,hk,hc,hd⟩|⟨rfl,hk⟩|⟨rfl,S,n,hk⟩
  ·obtain⟨its,_,pl,_⟩:=I.list hq;refine⟨pl.isList.typeIs,λa e=>?_⟩;cases e;obtain⟨o,n,e,c,hd,_⟩:=pl;exact⟨o,e,hd⟩
  ·refine⟨⟨o,I.kIn p o hk,hc⟩,λa e=>?_⟩;cases e;exact⟨o,I.kIn _ o hk,hd⟩
  ·have z:∃o,s.heap.get? p=some o/\o.ExactDict:=by
    rcases hk with ⟨kvs,hk⟩|⟨kvs,hk⟩
    ·obtain⟨_,_,_,_,o,_,_,e,ex,_⟩:=I.hok p _ hk;exact⟨o,e,ex⟩
    ·obtain⟨_,_,_,_,o,_,_,e,ex,_⟩:=I.hok p _ hk;exact⟨o,e,ex⟩
   obtain⟨o,e,ex⟩:=z;refine⟨⟨o,e,ex.1⟩,λa e2=>?_⟩;cases e2;exact⟨o,e,ex.2.1⟩
  ·obtain⟨o,_,_,_,e,ex,_⟩:=I.hok p _ hk;refine⟨⟨o,e,ex.1⟩,λa e2=>?_⟩;cases e2;exact⟨o,e,ex.2.1⟩
 |_=>exact xK ty
def zqy(K:yz)(T:String)(r:V->List V->Hp->VK->Prop)(to:TE):TE:=λY H Q=>to Y H λx H1=>tyV K T x H1/\r x [] H1 Q
def tBM(K:yz)(T:String)(r:V->List V->Hp->VK->Prop)(to:TE)(t:TA):TE:=λY H Q=>to Y H λx H1=>tyV K T x H1/\t Y H1 λxs H2=>r x xs H2 Q
variable {o e:yD}{es:List yD}{to:TE}{t:TA}{name:yF}{apos cpos:xV}{T id:String}{r:V->List V->Hp->VK->Prop}
def z5w(pa:PlainAttrs T)(slot:Slot T name id)(hty:typeOf (.builtin id)=pure (.type "method_descriptor"))(hm:MtR X id r)(ho:PE X o to)
 (hbase:YI o name X.env (Yt o X.env)=Yt o X.env:=by rfl) (hline:(apos.endLine==cpos.line)=true:=by rfl):PE X (.Call (.Attribute o name apos) [] [] cpos) (zqy X.K T r to):=by
 intro U s Y H Q I h;refine wpAny_Call_method0_late hbase hline (thn (ho U s Y H _ I h) λv s1 ⟨x,H1,I1,r1,ty,q1⟩=>?_);obtain⟨h1,h2⟩:=zOt I1 r1 ty;exact⟨T,id,pa,slot,hty,h1,h2,Calls.callWith_builtin rfl (PySem.evalArgs_none (hm U s1 Y H1 x [] v [] Q I1 r1 .nil q1))⟩
def ztx(pa:PlainAttrs T)(slot:Slot T name id)(hty:typeOf (.builtin id)=pure (.type "method_descriptor"))(hm:MtR X id r)(ho:PE X o to)(ha:PA X (e::es) t)
 (hbase:YI o name X.env (Yt o X.env)=Yt o X.env:=by rfl)
 (hfew:((YZ cpos (yr (e::es) X.env)).all (λx=>!x.1)&&(backToKw cpos (xZ [] X.env)).all (λx=>x.1.isSome)
  && decide ((e::es).length+([]:List xD).length+(if([]:List xD).isEmpty then 0 else 1)<30))=true:=by rfl)
 (hline:(apos.endLine==cpos.line)=true:=by rfl) (hs:yr (e::es) X.env=(false,Yt e X.env)::yr es X.env:=by rfl) (hplain:(YZ cpos (yr es X.env)).any (·.1)=false:=by rfl) :
 PE X (.Call (.Attribute o name apos) (e::es) [] cpos) (tBM X.K T r to t):=by
 intro U s Y H Q I h;refine wpAny_Call_method_late hbase hfew hline rfl (thn (ho U s Y H _ I h) λv s1 ⟨x,H1,I1,r1,ty,q1⟩=>?_);obtain⟨h1,h2⟩:=zOt I1 r1 ty;refine⟨T,id,pa,slot,hty,h1,h2,?_⟩;have hA:=ha cpos U s1 Y H1 _ I1 q1;rw[hs]at hA ⊢;refine Calls.callWith_builtin (by show(false||(YZ cpos (yr es X.env)).any (·.1))=false;rw[hplain]<;>rfl) (Calls.evalArgs_plain ?_);exact thn hA λus s2 ⟨vs,H2,I2,r2,q2⟩=>hm U s2 Y H2 x vs v us Q I2 r1 r2 q2
end
def MtM(X:Cx)(id:String)(r:V->List V->Hp->VK->Prop):Prop :=
 ∀(U:List (yg×xb)) (s:yc) (Y:St) (H:Hp) (x:V) (xs:List V) (v:yb) (us:List yb) (Q:VK),Inv X U Y H s->RelV x v->Vals xs us->r x xs H Q ->
  yo (yx X.prog X.w) X.A (call (.builtin id) (v::us)) (EP X U Y Q) X.xe s
def Vals.uncons{x:V}{xs:List V}{us:List yb}(h:Vals (x::xs) us):∃u ws,us=u::ws/\RelV x u/\Vals xs ws:=by
 cases h with
 |cons r t=>exact⟨_,_,rfl,r,t⟩
def Vals.unnil{us:List yb}(h:Vals [] us):us=[]:=by
 cases h;rfl
def Vals.one{x:V}{us:List yb}(h:Vals [x] us):∃u,us=[u]/\RelV x u:=by
 obtain⟨u,ws,e,r,t⟩:=h.uncons;exact⟨u,by rw[e,t.unnil],r⟩
def Vals.zero:∀{us:List yb},Vals [] us->us=[]
 |_,.nil=>rfl
def Vals.dropLast{xs:List V}{us:List yb}(h:Vals xs us):Vals xs.dropLast us.dropLast:=by
 induction h with
 |nil=>exact .nil
 |cons r t ih=>
  cases t with
  |nil=>exact .nil
  |cons q t'=>exact .cons r ih
def Vals.reverse{xs:List V}{us:List yb}(h:Vals xs us):Vals xs.reverse us.reverse:=by
 induction h with
 |nil=>exact .nil
 |cons r t ih=>rw[List.reverse_cons,List.reverse_cons];exact Vals.append ih (.cons r .nil)
def Vals.rep{xs:List V}{us:List yb}(h:Vals xs us):∀k:Nat,Vals (yu k xs).flatten (yu k us).flatten
 |0 =>.nil
 |k+1=>by
  rw[replicate_succ,replicate_succ,flatten_cons,flatten_cons];exact Vals.append h (Vals.rep h k)
def zCp{α:Type}(l:List α):l.eraseIdx (l.length-1)=l.dropLast:=by
 induction l with
 |nil=>rfl
 |cons a r ih=>
  cases r with
  |nil=>rfl
  |cons b r=>
   have e:(a::b::r).length-1=((b::r).length-1)+1:=by
    have h1:(a::b::r).length=r.length+2:=rfl;have h2:(b::r).length=r.length+1:=rfl;omega
   rw[e,xG,ih]
   all_goals rfl
def zsn(its:List yb):∀(k:Nat)(acc:List yb),
 List.foldl (λx1 x2=>x1++x2) acc.toArray (yu k its.toArray)=(acc++(yu k its).flatten).toArray
 |0,acc=>by simp
 |k+1,acc=>by
  have e:acc.toArray++its.toArray=(acc++its).toArray:=by simp
  have e2:(acc++its)++(yu k its).flatten=acc++(yu (k+1) its).flatten:=by
   rw[replicate_succ,flatten_cons,append_assoc]
  rw[<-e2,<-zsn its k (acc++its),<-e,replicate_succ,List.foldl_cons]
section
variable {X:Cx}{U:List (yg×xb)}{Y:St}{H:Hp}{s:yc}{l b:yg}{xs ys zs:List V}
def Inv.sN{its its':List yb}{n:Nat}{f:Array yb->Array yb}{t':Nat}(I:Inv X U Y H s)(hH:H l=some (.lst xs))
 (e:s.heap.get? l=some {cls:=.type "list",data:=.seq its.toArray n }) (hf:f its.toArray=its'.toArray) (hv:Vals ys its') (hz:ys.length<=yE) :
 Inv X U Y (upd H l (.lst ys)) {s with heap:=s.heap.update l (yU f),toks:=t' }:=by
 have q:=PySem.IsL.update e f;rw[hf]at q;refine I.write (x:=l) (e:=l) (by rw[hH];exact trivial) (.inl rfl) (λb' u hb hu=>(xh s.heap (yU f) (Yv hb)).trans hu) ⟨_,q⟩ ?_;exact⟨hz,its',_,hv,q⟩
def Inv.lnew{its:List yb}{t':Nat}(I:Inv X U Y H s)(hv:Vals ys its)(hz:ys.length<=yE) :
 Inv X U Y (upd H s.heap.objs.size (.lst ys)) {s with heap:=s.heap.push {cls:=.type "list",data:=.seq its.toArray },toks:=t' } :=
 I.laid (λ_ _ q=>ye _ q) (yj _) ⟨hz,its,0,hv,yn _ rfl⟩
def Inv.fresh(I:Inv X U Y H s):H s.heap.objs.size=none:=I.hok.fresh (yj _)
def Inv.TM(I:Inv X U Y H s)(hH:H l=some (.lst xs)):xs.length<=yE/\∃(its:List yb)(n:Nat),Vals xs its/\xs.length=its.length/\s.heap.get? l=some {cls:=.type "list",data:=.seq its.toArray n }:=by
 obtain⟨z,its,n,r,e⟩:=I.hok l _ hH;exact⟨z,its,n,r,r.length,e⟩
def TV{n:Nat}(h:n<=yE):YX n=false:=by
 unfold YX;exact decide_eq_false (by omega)
def zgv:V->List V->Hp->VK->Prop:=λx vs H Q=>∃l xs y,x=.ref l/\vs=[y]/\H l=some (.lst xs)/\xs.length<yE/\Q .non (upd H l (.lst (xs++[y])))
def zPq:MtM X "list.append" zgv:=by
 intro U s Y H x vs v us Q I rx rv h;obtain⟨l,xs,y,rfl,rfl,hH,hz,q⟩:=h;cases rx;obtain⟨u,rfl,ru⟩:=rv.one;obtain⟨z,its,n,r,hl,e⟩:=I.TM hH;refine xw F.slot_list_append ⟨_,e,rfl⟩ F.entry_list_append (F.args_list_append_2 _ _) (PySem.list_append l its.toArray n u (by rw[size_toArray];omega)) ⟨e,?_⟩;refine⟨.non,_,I.sN (its':=its++[u]) hH e (by simp) (r.append (.cons ru .nil)) ?_,rfl,q⟩;rw[length_append,length_singleton];omega
def zMu:V->List V->Hp->VK->Prop:=λx vs H Q=>∃l b xs zs,x=.ref l/\vs=[.ref b]/\H l=some (.lst xs)/\H b=some (.lst zs)/\xs.length+zs.length<=yE/\Q .non (upd H l (.lst (xs++zs)))
def z8r:MtM X "list.extend" zMu:=by
 intro U s Y H x vs v us Q I rx rv h;obtain⟨l,b,xs,zs,rfl,rfl,hH,hB,hz,q⟩:=h;cases rx;obtain⟨u,rfl,ru⟩:=rv.one;cases ru;obtain⟨z,its,n,r,hl,e⟩:=I.TM hH;obtain⟨z2,its2,n2,r2,hl2,e2⟩:=I.TM hB;have hsz:its.toArray.size+its2.toArray.size<=yE:=by rw[size_toArray,size_toArray];omega
 have hlong:¬(!its.toArray.isEmpty&&YX (its.toArray.size+its2.toArray.size))=true:=by
  rw[TV hsz,Bool.and_false];exact yv
 refine xw F.slot_list_extend ⟨_,e,rfl⟩ F.entry_list_extend (F.args_list_extend_2 _ _)
  (AutoSeq1.list_extend_list_list_0 l its.toArray n b its2.toArray n2 hlong (by rw[size_toArray];omega) (by omega)) ⟨e,e2,?_⟩
 refine⟨.non,_,I.sN (its':=its++its2) hH e (by simp) (r.append r2) ?_,rfl,q⟩;rw[length_append];omega
def zBy:V->List V->Hp->VK->Prop:=λx vs H Q=>∃l xs y,x=.ref l/\vs=[]/\H l=some (.lst xs)/\xs[xs.length-1]?=some y/\Q y (upd H l (.lst xs.dropLast))
def z8v:MtM X "list.pop" zBy:=by
 intro U s Y H x vs v us Q I rx rv h;obtain⟨l,xs,y,rfl,rfl,hH,hy,q⟩:=h;cases rx;have hus:=rv.zero;subst hus;obtain⟨z,its,n,r,hl,e⟩:=I.TM hH;obtain⟨u,hu,ru⟩:=r.get hy
 have hy':its.toArray[its.toArray.size-1]?=some u:=by
  show its.toArray[its.length-1]?=some u;rw[<-xR,<-hl];exact hu
 refine xw F.slot_list_pop ⟨_,e,rfl⟩ F.entry_list_pop (F.args_list_pop_1 _) (MeetsSeq.list_pop_last l its.toArray n u hy' (by rw[size_toArray];omega)) ⟨e,?_⟩;refine⟨y,_,I.sN (its':=its.dropLast) hH e ?_ r.dropLast ?_,ru,q⟩
 ·show its.toArray.eraseIdxIfInBounds (its.toArray.size-1)=its.dropLast.toArray;rw[size_toArray,List.eraseIdxIfInBounds_toArray,zCp]
 ·rw[List.length_dropLast];omega
def zKy:R2:=λx y H Q=>∃l b xs zs,x=.ref l/\y=.ref b/\H l=some (.lst xs)/\H b=some (.lst zs)/\xs.length+zs.length<=yE/\∀p,H p=none->Q (.ref p) (upd H p (.lst (xs++zs)))
def zPw:OpR X (xl .Add) zKy:=by
 intro U s Y H x y v u Q I rx ry h;obtain⟨l,b,xs,zs,rfl,rfl,hH,hB,hz,q⟩:=h;cases rx;cases ry;obtain⟨z,its,n,r,hl,e⟩:=I.TM hH;obtain⟨z2,its2,n2,r2,hl2,e2⟩:=I.TM hB;refine PySem.P.add_list e e2 ?_ (by rw[size_toArray,size_toArray];omega);have ea:its.toArray++its2.toArray=(its++its2).toArray:=by simp
 rw[ea];exact⟨.ref _,_,I.lnew (t':=s.toks) (r.append r2) (by rw[length_append];omega),rfl,q _ I.fresh⟩
def zPy:R2:=λx y H Q=>∃l k xs,x=.ref l/\y=.int k/\H l=some (.lst xs)/\-(2^63)<=k/\k<2^63/\xs.length*k.toNat<=yE /\
 ∀p,H p=none->Q (.ref p) (upd H p (.lst (yu k.toNat xs).flatten))
def zas{α:Type}(xs:List α)(k:Nat):(yu k xs).flatten.length=k*xs.length:=by
 induction k with
 |zero=>simp
 |succ k ih=>rw[replicate_succ,flatten_cons,length_append,ih,Nat.succ_mul,Nat.add_comm]
def zLv:OpR X (xl .Mult) zPy:=by
 intro U s Y H x y v u Q I rx ry h;obtain⟨l,k,xs,rfl,rfl,hH,h1,h2,hz,q⟩:=h;cases rx;obtain⟨t,rfl⟩:=ry;obtain⟨z,its,n,r,hl,e⟩:=I.TM hH;have hlen:its.toArray.size*k.toNat<=yE:=by rw[size_toArray,<-hl];exact hz
 have hcap:¬its.toArray.size*k.toNat>(2^63-1) / 8:=by
  have:(yE:Nat)<=(2^63-1) / 8:=by decide
  omega
 have hfit:¬(!Builtin.List.listFitsIndex k)=true:=by
  rw[fitsIndex_both h1 h2];exact yv
 have hlong:¬YX (its.toArray.size*k.toNat)=true:=by
  rw[TV hlen];exact yv
 have hnew:List.foldl (λx1 x2=>x1++x2) #[] (yu (if its.toArray.isEmpty=true then 0 else k.toNat) its.toArray)=(yu k.toNat its).flatten.toArray:=by
  have f0:∀m:Nat,List.foldl (λx1 x2=>x1++x2) #[] (yu m its.toArray)=(yu m its).flatten.toArray:=λm=>by
   have:=zsn its m [];rw[List.nil_append]at this;exact this
  rw[f0]
  cases its with
  |nil=>simp
  |cons a r'=>rw[if_neg (by simp)]
 refine wpAny_binaryOp_repeat_ref (T:="list") (U:="int") (by decide) ⟨_,e,rfl⟩ (λs'=>typeIs_int s' k t) noFill_list_mul F.fills_int_mul F.slot_int_rmul repeat_list F.slot_int_index.lookup
  (xw F.slot_int_rmul (typeIs_int s k t) F.entry_int_rmul (F.args_int_rmul_2 _ _) (int___rmul___int_list k t l its.toArray n)
   ⟨e,rfl,⟨_,e,rfl⟩,xw F.slot_list_mul ⟨_,e,rfl⟩ F.entry_list_mul (F.args_list_mul_2 _ _) (AutoListH.list___mul___list_int_3 l its.toArray n k t hfit hcap hlong) ⟨e,?_⟩⟩)
 rw[hnew];exact⟨.ref _,_,I.lnew (t':=s.toks) (r.rep k.toNat) (by rw[zas,Nat.mul_comm];exact hz),rfl,q _ I.fresh⟩
variable {prog:yy}{w:yH}{A:yN}{E:yb->yc->Prop}
end
end L2
namespace Att
open PySem PySem.W PySem.Calls PyProof.Rows
def zej{P:Params}{h:Yb}:∀(ns:List Int)(vs:List yb),WellAll P h vs (ns.map WData.int)->Xf vs ns:=by
 intro ns
 induction ns with
 |nil=>
  intro vs w;rw[List.map_nil]at w;cases w;exact .nil
 |cons n ns ih=>
  intro vs w;rw[map_cons]at w
  cases w with
  |cons a b=>
   cases a;exact .cons _ _ (ih _ b)
def zWq{l:OpenLaw}{n:Nat}(hn:l.most=some n){P:Params}{h:Yb}{args:List WData}{vals:List yb}
 (hpre:l.row.toRowW.claim.pre args=true) (hwl:WellAll P h vals args) :
 ∃a vs ns,vals=[YG a]/\args=[WData.list (ns.map WData.int)]/\h.get? a=some {cls:=.type "list",data:=.seq vs.toArray }/\Xf vs ns/\ns.length<=n:=by
 have hsh:WShape.hasAll [] args [.list .int]=true:=(pre_splitW hpre).1;have hc:l.pre.holds [] {args:=args } = true:=(pre_splitW hpre).2;obtain⟨d,r,rfl,h1,h2⟩:=hasAllW_cons hsh;obtain rfl:=hasAllW_nil h2;obtain⟨xs,rfl,h3⟩:=hasW_list h1;obtain⟨ns,rfl⟩:=items_int h3
 have hlen:ns.length<=n:=by
  unfold OpenLaw.pre at hc
  have h4:(WTm.not (.lt (.lit (.int (n:Int))) (.len (.arg 0)))).holds [] {args:=[.list (ns.map .int)]} = true:=by
   have h4:=(holds_andW hc).1;rw[hn]at h4;exact h4
  have h5:=condW_of h4 (w_not (w_lt w_lit (w_len_list (w_arg rfl))));rw[length_map]at h5;refine Nat.le_of_not_lt λq=>?_;have q':(n:Int)<((ns.length:Nat):Int):=by omega
  first
   |(rw[decide_eq_true q']at h5;exact absurd h5 (by decide))
   |(simp at h5;omega)
 cases hwl with
 |cons w1 w2=>
  cases w2
  cases w1 with
  |list ho hall=>exact⟨_,_,ns,rfl,rfl,ho,zej ns _ hall,hlen⟩
def zhs(l:OpenLaw)(args:List WData):l.row.toRowW.claim.post args (.bool true) args=true :=
 postW_of (r:=l.row.toRowW) (X:=(true==true))
  (show WShape.has [] (.bool true) .bool=true by first|rfl|decide|simp[WShape.has,WShape.arms,WShape.armsAll])
  (show(WTm.eq .res (.lit (.bool true))).value [] {args:=args,res:=some (.bool true),after:=args } = some (.bool (true==true)) from w_eq_bool (w_res rfl) w_lit) rfl
def sy{l:OpenLaw}{n:Nat}{q:yy}{loose:List yF}{XP:(yF->Option yb)->Yb->Prop}{YP:yH->Yb->Prop}{d:DefRec}
 (hn:l.most=some n) (hdf:d.params.defaults=[])
 (call:∀(w:yH)(s₀ s₁:yc)(mg mb:yF->Option yb)(fa:yg)(o:xb)(pm cd doc:yb)(a:yg)(vs:List yb)(ns:List Int),
  Ground q loose [] XP w s₀ mg mb s₁.heap->YP w s₁.heap ->
  s₁.heap.get? fa=some o->o.data=.func (docDef d.name d.params d.body d.scope pm cd doc)->s₁.heap.CodeRec cd d.name->mg d.name=some (.ref fa) ->
  s₁.heap.get? a=some {cls:=.type "list",data:=.seq vs.toArray }->Xf vs ns->ns.length<=n->s₁.gens = #[] ->
  codeAny (yx l.prog w) callerA (.call (.ref fa) ⟨[.ref a],[]⟩) (λr s'=>r=.ok (.ret (.bool true))/\OldK s₁.heap s'.heap/\s'.os=s₁.os/\AllBare s'.gens) s₁) :
 WalkO q loose XP YP l.row.toRowW d [] (λf vs=>PySem.call f vs):=by
 intro w s₀ s₁ mg mb φ σ fa o pm cd doc dV kV ho hd hcd hD hmg hg args vals as hpre hlay hrd hwl hlo;obtain rfl:dV=.none:=Dflts.none hD hdf;obtain rfl:kV=.none:=Dflts.noKw hD;obtain⟨a,vs,ns,rfl,rfl,hobj,hints,hlen⟩:=zWq hn hpre hwl;refine enter_call (xu (call w s₀ s₁ mg mb fa o pm cd doc a vs ns φ σ ho (fd_plain hd) hcd hmg hobj hints hlen hg) λr s' hq=>?_);obtain⟨rfl,h2,h3,h4⟩:=hq;exact⟨.inl ⟨.bool true,.bool true,[],rfl,λ_=>rfl,.bool true,zhs l _,λ_=>⟨List.Pairwise.nil,λ_ hm=>(nomatch hm)⟩⟩,h2,h3,h4⟩
section
variable {prog:yy}{w:yH}{A:yN}{E:yb->yc->Prop}{s:yc}{K:Frag}
end
end Att
namespace L2
open PySem PySem.Spec PyProof.Rows
def z6m:∀{vs:List yb} {ns:List Int},Xf vs ns->Vals (ns.map V.int) vs
 |_,_,.nil =>.nil
 |_,_,.cons n t h =>.cons ⟨t,rfl⟩ (z6m h)
def zcx(H:Hp):Prop:=∀b,H b=none\/∃o xs,H b=some (.frz o (.lst xs))
def zqt{P:yy}{w:yH}{K:yz}{mg mb:yF->Option yb}{CX:CXT}{k:Nat}{fa a:yg}{fd:yk}{x:yF}{sp:Sp}{s₁:yc}{vs:List yb}{ns:List Int}
 (KX:K.In s₁.heap) (hns:s₁.heap.Ns yB mg) (hb:s₁.heap.Ns builtinsNs mb) (hbb:∀x:yF,x≠"__name__"->mb x=yI x) (hlim:s₁.heap.NoLimit) (hg:s₁.gens = #[])
 (ha:s₁.heap.get? a=some {cls:=.type "list",data:=.seq vs.toArray }) (hi:Xf vs ns) (hl:ns.length<=yE) (hr:Th k callerA)
 (F:∀base:Yb,K.In base->base.Ns yB mg->tq P w K mg base CX k fa fd [x] sp) (hbind:∀(s:yc)(u:yb),BindsTo s fd ⟨[u],[]⟩ [(x,u)])
 (hsp:∀H:Hp,zcx H->SqL K H a (ns.map V.int)->sp [.ref a] H (λv _=>v=.bl true) λ_ _ _=>False)
 (hCX:∀H e s',CX [] H s₁ (λ_ _ _=>False) e s'->False) :
 codeAny (yx P w) callerA (.call (.ref fa) ⟨[.ref a],[]⟩) (λr s'=>r=.ok (.ret (.bool true))/\OldK s₁.heap s'.heap/\s'.os=s₁.os/\AllBare s'.gens) s₁:=by
 have rv:=z6m hi;have lenV:=hi.length
 have core:∀H:Hp,zcx H->SqL K H a (ns.map V.int)->HOk P w H s₁.heap->(∀b,H b≠none->b=a)->(H a≠none->K.lookup a=none) ->
  codeAny (yx P w) callerA (.call (.ref fa) ⟨[.ref a],[]⟩) (λr s'=>r=.ok (.ret (.bool true))/\OldK s₁.heap s'.heap/\s'.os=s₁.os/\AllBare s'.gens) s₁:=by
  intro H hO hS hok hA hK;have base_of:∀{b:yg} {o:xb},s₁.heap.get? b=some o->H b=none->(zxt s₁.heap H).get? b=some o:=λe n=>zEs e n
  have noA:∀{b:yg} {o:xb} {es:Array DictEntry} {ep:Nat},s₁.heap.get? b=some o->o.data=.dict es ep->H b=none:=λ{b o es ep} e d=>by
   cases q:H b with
   |none=>rfl
   |some u=>
    have e':b=a:=hA b (by rw[q];simp);subst e';rw[ha]at e;cases e;have d':Data.seq vs.toArray _=Data.dict es ep:=d;cases d'
  have nsK:∀{b:yg} {m:yF->Option yb},s₁.heap.Ns b m->(zxt s₁.heap H).Ns b m:=λ{b m} ⟨o,es,ep,e,d,r⟩=>⟨o,es,ep,base_of e (noA e d),d,r⟩
  have hKb:K.In (zxt s₁.heap H):=λb o e=>base_of (KX b o e) (by
   cases q:H b with
   |none=>rfl
   |some u=>
    have e':b=a:=hA b (by rw[q];simp);subst e';rw[hK (by rw[q];simp)]at e;cases e)
  have hM:Mod K mg (zxt s₁.heap H):=⟨hKb,nsK hns,⟨mb,nsK hb,hbb⟩,let ⟨mc,h1,h2⟩:=hlim;⟨mc,nsK h1,h2⟩⟩
  have e0:Env0 P w K mg (zxt s₁.heap H) callerA [] s₁ H:=⟨rfl,hM,λb o e=>zfu e,Nat.le_of_eq (zGq _ _),trivial,λb hb=>absurd (show b∈([]:List yg) from hb) (by simp),hok,.of_eq hg⟩
  refine xu ((F _ hKb (nsK hns)).run callerA [] s₁ H ⟨[.ref a],[]⟩ [.ref a] [.ref a] _ _ hr e0 (hbind s₁ (.ref a)) (.cons rfl .nil) (hsp H hO hS)) λr s' h=>?_
  cases r with
  |error e=>exact(hCX H e s' h).elim
  |ok fl=>
   cases fl with
   |next=>exact xK h
   |brk=>exact xK h
   |cont=>exact xK h
   |ret u=>
    obtain⟨v,H',os,bare,un,hok',r',q⟩:=h;have q':v=.bl true:=q;subst q';obtain rfl:u=Value.bool true:=r';refine⟨rfl,OldK.of_keep λb o e=>?_,os,bare⟩
    cases q:H b with
    |none=>exact un.keep b o e q (by intro z;exact absurd (show b∈([]:List yg) from z) (by simp)) (by simp)
    |some u=>
     rcases hO b with z|⟨ob,xs,z⟩
     ·rw[q]at z;cases z
     ·have z2:=un.sd b ob _ z;obtain⟨e1,_⟩:=hok b _ z;obtain⟨e2,_⟩:=hok' b _ z2;rw[e]at e1;cases e1;exact e2
 cases hk:K.lookup a with
 |some o=>
  have e:=KX a o hk;rw[ha]at e;cases e;refine core (λ_=>none) (λ_ =>.inl rfl) (.inr ⟨_,vs.toArray,_,hk,rfl,rfl,rfl,by rw[size_toArray,lenV];exact hl,by simpa using rv⟩) (λb u z=>by have z':(none:Option HO)=some u:=z;cases z') (λb z=>absurd rfl z) λz=>absurd rfl z
 |none=>
  refine core (λb=>if b=a then some (.frz {cls:=.type "list",data:=.seq vs.toArray } (.lst (ns.map V.int))) else none) (λb=>?_) (.inl (.inr ⟨{cls:=.type "list",data:=.seq vs.toArray },if_pos rfl⟩)) (λb u z=>?_) (λb z=>?_) λ_=>hk
  ·by_cases hb:b=a
   ·exact .inr ⟨_,_,if_pos hb⟩
   ·exact .inl (if_neg hb)
  ·by_cases hb:b=a
   ·have z':=(if_pos hb).symm.trans z;cases z';subst hb;exact⟨ha,by rw[length_map];exact hl,vs,_,rv,ha⟩
   ·have z':=(if_neg hb).symm.trans z;cases z'
  ·by_cases hb:b=a
   ·exact hb
   ·exact absurd (if_neg hb) z
def walk_of{l:W.OpenLaw}{n k:Nat}{q:yy}{loose:List yF}{XP:(yF->Option yb)->Yb->Prop}{YP:yH->Yb->Prop}{d:DefRec}{K:Params->yz}{CX:yH->CXT}{sp:yH->Sp}{x:yF}
 (hn:l.most=some n) (hn2:n<=yE) (hdf:d.params.defaults=[]) (hr:Th k callerA)
 (hY:∀(w:yH)(h:Yb),YP w h->(K w.params).In h)
 (F:∀(w:yH)(mg:yF->Option yb)(fa:yg)(h:Yb),(K w.params).In h->h.Ns yB mg->mg d.name=some (.ref fa) ->
  ∃fd:yk,(∀(s:yc)(u:yb),BindsTo s fd ⟨[u],[]⟩ [(x,u)]) /\
   ∀base:Yb,(K w.params).In base->base.Ns yB mg->tq l.prog w (K w.params) mg base (CX w) k fa fd [x] (sp w))
 (hsp:∀(w:yH)(H:Hp)(a:yg)(ns:List Int),ns.length<=n->zcx H->SqL (K w.params) H a (ns.map V.int)->sp w [.ref a] H (λv _=>v=.bl true) λ_ _ _=>False)
 (hCX:∀(w:yH)(H:Hp)(s:yc)(e:yb)(s':yc),CX w [] H s (λ_ _ _=>False) e s'->False) :
 W.WalkO q loose XP YP l.row.toRowW d [] (λf vs=>PySem.call f vs):=by
 refine Att.sy hn hdf λw s₀ s₁ mg mb fa o pm cd doc a vs ns φ σ ho hd hcd hmg hobj hints hlen hg=>?_;have KX:=hY w _ σ;obtain⟨fd,hb,hF⟩:=F w mg fa _ KX φ.T.g hmg;exact zqt KX φ.T.g φ.T.b φ.T.builtins φ.T.nolimit hg hobj hints (yA hlen hn2) hr hF hb (λH hO hS=>hsp w H a ns hlen hO hS) λH e s'=>hCX w H s₁ e s'
def zMc(s:Yg):Arguments:=match s with
 |.FunctionDef _ a _ _ _ _ _ _ _ _=>a
 |_=>{posonlyargs:=[],args:=[],vararg:=none,kwonlyargs:=[],kw_defaults:=[],kwarg:=none,defaults:=[]}
def zfc(s:Yg):List Yg:=match s with
 |.FunctionDef _ _ b _ _ _ _ _ _ _=>b
 |_=>[]
def zn(s:Yg):xU:=match s with
 |.FunctionDef _ _ _ _ _ _ sc _ _ _=>sc
 |_=>{kind:=.function,names:=[],isGenerator:=false,isCoroutine:=false }
abbrev CX0:CXT:=λ_ _ _ _ _ _=>False
abbrev E0:XK:=λ_ _ _=>False
def pass0{X:Cx}:zis CX0 X E0:=λ_ _ _ _ _ _ _ h=>h.elim
structure Fun(K:yz)(x qual:yF)(st:Yg)(f:yg)(fd:yk):Prop where
 ex:∃(oc:yb)(od:Option yg)(kV doc pm:yb)(an:Option yg)(cdv ct:yb)(osl:Array (Option yb)),
  fd=W.fnOf x qual (zMc st) (zfc st) (zn st) .none kV doc pm an cdv ct/\K.lookup f=some ⟨oc,od,.func fd,osl⟩/\W.codeIn K cdv qual=true
 kp:W.keepIn K (.ref f)=true
section
variable {P:yy}{w:yH}{K:yz}{mg:yF->Option yb}{base:Yb}
def Fun.ok{x qual:yF}{st:Yg}{f:yg}{fd:yk}{N ps:List yF}{k:Nat}{sp:Sp}(F:Fun K x qual st f fd)(S:tm N ps (zn st))(len:∀vs H Q E,sp vs H Q E->vs.length=ps.length)
 (hbody:∀(cdv:yb)(A:yN)(outer:List Env)(s:yc)(H:Hp)(vs:List V)(Q:VK)(E:XK),Th k (A.deeper (envOfC qual (zn st) s.heap.objs.size f cdv))->sp vs H Q E ->
  ∃t,PSs (zGu CX0 P w K mg base N qual (zn st) f cdv A outer s H E).nox (zfc st) t/\t {nx:=λ_ H'=>Q .non H',rt:=Q } (start N vs) H):tq P w K mg base CX0 (k+1) f fd ps sp:=by
 obtain⟨oc,od,kV,doc,pm,an,cdv,ct,osl,rfl,lk,hcd⟩:=F.ex;refine zRx lk hcd S len λA outer s H vs Q E hr hsp=>?_;obtain⟨t,h,q⟩:=hbody cdv A outer s H vs Q E hr hsp;exact⟨t,h.nox,q⟩
def Fun.binds{x qual:yF}{st:Yg}{f:yg}{fd:yk}{ps:List yF}(F:Fun K x qual st f fd)
 (h:∀(kV doc pm:yb)(an:Option yg)(cdv ct:yb)(us:List yb),us.length=ps.length->bindArgs (W.fnOf x qual (zMc st) (zfc st) (zn st) .none kV doc pm an cdv ct) ⟨us,[]⟩=pure (ps.zip us)):Binds K fd ps []:=by
 obtain⟨oc,od,kV,doc,pm,an,cdv,ct,osl,rfl,lk,hcd⟩:=F.ex;exact .all (h kV doc pm an cdv ct)
def zWt{x qual:yF}{st:Yg}{f:yg}{oc:yb}{od an:Option yg}{osl:Array (Option yb)}{kV doc pm cdv ct:yb}(l:K.lookup f=some ⟨oc,od,.func (W.fnOf x qual (zMc st) (zfc st) (zn st) .none kV doc pm an cdv ct),osl⟩)
 (c:W.codeIn K cdv qual=true) (k:W.keepIn K (.ref f)=true):Fun K x qual st f (W.fnOf x qual (zMc st) (zfc st) (zn st) .none kV doc pm an cdv ct):=⟨⟨oc,od,kV,doc,pm,an,cdv,ct,osl,rfl,l,c⟩,k⟩
end
def sg{n:Nat}(h:n<=1000):n<yE:=Nat.lt_of_le_of_lt h (by decide)
section
variable {X:Cx}
end
def sD{A B:Prop}(h:B):if false=true then A else B:=by
 rw[if_neg yv];exact h
def sE{A B:Prop}(h:A):if true=true then A else B:=by
 rw[if_pos rfl];exact h
def Trc(B h:Yb)(e:yg)(x:yb):Prop:=x=.none\/∃T oT ts y,x=.ref T/\B.get? T=none/\T≠e/\h.get? T=some oT/\oT.data=.fields ts/\ts[3]?=some y
structure Fly(B:Yb)(l:List Env)(e:yg)(cls:yb)(dx:Option yg)(h:Yb):Prop where
 st:B.StaysIn h
 new:B.get? e=none
 ff:h.FunFrames B l
 ob:∃oe vs x,h.get? e=some oe/\oe.cls=cls/\oe.dict=dx/\oe.data=.fields vs/\vs[1]?=some x/\Trc B h e x
section
variable {M:Model}{A:yN}{E:yb->yc->Prop}{s:yc}{B:Yb}{l outer:List Env}{env:Env}{e L:yg}{cls:yb}{dx:Option yg}{Q:Unit->yc->Prop}
end
structure Cov(outer:List Env)(H':Hp)(h B:Yb):Prop where
 tr:∀b o,H' b=some o->∃u,B.get? b=some u
 old:∀b o,h.get? b=some o->b∉frs outer->∃u,B.get? b=some u
structure FlyX(P:yy)(w:yH)(outer:List Env)(H:Hp)(s:yc)(C:yb)(dx:Option yg)(H':Hp)(e:yb)(s':yc):Prop where
 os:s'.os=s.os
 bare:AllBare s'.gens
 un:Un (frs outer) [] H H' s.heap s'.heap
 hok:HOk P w H' s'.heap
 fly:∃a B,e=.ref a/\Fly B outer a C dx s'.heap/\Cov outer H' s.heap B
section
variable {P:yy}{w:yH}{outer:List Env}{H H':Hp}{h0 h h' B base:Yb}
variable {X:Cx}{U:List (yg×xb)}{Y:St}{s s':yc}{C:yb}{a:yg}{dx:Option yg}
end
def zEp(X:Cx)(C:yb)(dx:Option yg)(H':Hp):Prop:=∀U Y H s e s',Inv X U Y H s->FlyX X.prog X.w X.stack H s C dx H' e s'->X.xe e s'
section
variable {P:yy}{w:yH}{K:yz}{mg:yF->Option yb}{base:Yb}{N:List yF}{qual:yF}{scope:xU}{f:yg}{cd:yb}{A:yN}{outer:List Env}{s:yc}{H H':Hp}{E:XK}{C:yb}{dx:Option yg}
end
end L2
namespace M
open PySem PySem.Spec PyProof.Rows L2
inductive D where
 |non|bl (b:Bool)|int (i:Int)|str (x:yF)|ty (n:String)
  |tup (ds:List D)
  |fz (ds:List D)
  |loc (n:Nat)
  |own (c:yF)
inductive tD where
 |lst (ds:List D)
  |dct (kvs:List (Int×D))
  |dcf (kvs:List (Int×D))
  |exc (c:yF) (fs:List (yF×D))
  |ins (c:yF) (fs:List (yF×D))
abbrev Mem:=List tD
def zlx(a C:yg)(dx:Option yg):Yb->Prop:=λh=>∃o vs,h.get? a=some o/\o.cls=.ref C/\o.dict=dx/\o.data=.fields vs
abbrev Loc:=List (Option D)
section
variable (K:yz)
def FzL(H:Hp)(a:yg)(vs:List V):Prop :=
 (∃o,H a=some (.frz o (.lst vs)))\/∃(o:xb)(its:Array yb)(n:Nat),K.lookup a=some o/\o.cls=.type "list"/\o.dict=none/\o.data=.seq its n/\its.size<=yE/\Vals vs its.toList
mutual
def tu(Z:List yg)(H:Hp):D->V->Prop
 |.non,v=>v=.non
 |.bl b,v=>v=.bl b
 |.int i,v=>v=.int i
 |.str x,v=>v=.str x
 |.ty n,v=>v=.ty n
 |.tup ds,v=>∃a vs,v=.ref a/\H a=some (.tup vs)/\tf Z H ds vs
 |.fz ds,v=>∃a vs,v=.ref a/\FzL K H a vs/\tf Z H ds vs
 |.loc n,v=>∃a,v=.ref a/\Z[n]?=some a
 |.own c,v=>∃a,v=.ref a/\xF K yB c=some (some (.ref a))
def tf(Z:List yg)(H:Hp):List D->List V->Prop
 |[],vs=>vs=[]
 |d::ds,vs=>∃v r,vs=v::r/\tu Z H d v/\tf Z H ds r
end
def sS(Z:List yg)(H:Hp)(fs:List (yF×D))(dx:Option yg):Prop:=(fs=[]/\dx=none)\/∃p vs,dx=some p/\H p=some (.xd vs)/\vs.map (·.1)=fs.map (·.1)/\tf K Z H (fs.map (·.2)) (vs.map (·.2))
def sA(Z:List yg)(H:Hp)(a:yg):tD->Prop
 |.lst ds=>∃vs,H a=some (.lst vs)/\tf K Z H ds vs
 |.dct kvs=>∃vs,H a=some (.dK vs)/\vs.map (·.1)=kvs.map (λp=>yO p.1)/\tf K Z H (kvs.map (·.2)) (vs.map (·.2))
 |.dcf kvs=>∃o vs,H a=some (.frz o (.dK vs))/\vs.map (·.1)=kvs.map (λp=>yO p.1)/\tf K Z H (kvs.map (·.2)) (vs.map (·.2))
 |.exc c fs=>∃C dx,xF K yB c=some (some (.ref C))/\H a=some (.ext (zlx a C dx))/\sS K Z H fs dx
 |.ins c fs=>∃C dx vs,xF K yB c=some (some (.ref C))/\H a=some (.ins C dx vs)/\vs.map (·.1)=fs.map (·.1)/\tf K Z H (fs.map (·.2)) (vs.map (·.2))
structure tF(Z:List yg)(H:Hp)(μ:Mem):Prop where
 nd:Z.Nodup
 len:Z.length=μ.length
 at_:∀(n:Nat) a o,Z[n]?=some a->μ[n]?=some o->sA K Z H a o
structure Ext(Z:List yg)(H:Hp)(Z':List yg)(H':Hp):Prop where
 pre:∃more,Z'=Z++more
 tup:∀a vs,H a=some (.tup vs)->H' a=some (.tup vs)
 frz:∀a o u,H a=some (.frz o u)->H' a=some (.frz o u)
 xd:∀a fs,H a=some (.xd fs)->H' a=some (.xd fs)
def sL(Z:List yg)(H:Hp)(Y:L2.St)(J:Loc):Prop:=∀(i:Nat) d,J[i]?=some (some d)->∃v,Y[i]?=some (some v)/\tu K Z H d v
end
section
variable {K:yz}{Z Z' Z'':List yg}{H H' H'':Hp}{μ:Mem}{Y:L2.St}{J:Loc}
def Ext.refl:Ext Z H Z H:=⟨⟨[],by simp⟩,λ_ _ h=>h,λ_ _ _ h=>h,λ_ _ h=>h⟩
def Ext.trans(a:Ext Z H Z' H')(b:Ext Z' H' Z'' H''):Ext Z H Z'' H'':=by
 obtain⟨m,e⟩:=a.pre;obtain⟨m',e'⟩:=b.pre;exact⟨⟨m++m',by rw[e',e,append_assoc]⟩,λ_ _ h=>b.tup _ _ (a.tup _ _ h),λ_ _ _ h=>b.frz _ _ _ (a.frz _ _ _ h),λ_ _ h=>b.xd _ _ (a.xd _ _ h)⟩
def Ext.get(e:Ext Z H Z' H'){n:Nat}{a:yg}(h:Z[n]?=some a):Z'[n]?=some a:=by
 obtain⟨m,e⟩:=e.pre;rw[e,yw (List.getElem?_eq_some_iff.mp h).1];exact h
def Ext.fz(e:Ext Z H Z' H'){a:yg}{vs:List V}(h:FzL K H a vs):FzL K H' a vs:=by
 rcases h with ⟨o,h⟩|h
 ·exact .inl ⟨o,e.frz _ _ _ h⟩
 ·exact .inr h
mutual
def tu.ext(e:Ext Z H Z' H'):∀{d:D} {v:V},tu K Z H d v->tu K Z' H' d v
 |.non,_,h=>by unfold tu at h ⊢;exact h
 |.bl _,_,h=>by unfold tu at h ⊢;exact h
 |.int _,_,h=>by unfold tu at h ⊢;exact h
 |.str _,_,h=>by unfold tu at h ⊢;exact h
 |.ty _,_,h=>by unfold tu at h ⊢;exact h
 |.tup ds,_,h=>by
  unfold tu at h ⊢;obtain⟨a,vs,e1,e2,r⟩:=h;exact⟨a,vs,e1,e.tup _ _ e2,tf.ext e r⟩
 |.fz ds,_,h=>by
  unfold tu at h ⊢;obtain⟨a,vs,e1,e2,r⟩:=h;exact⟨a,vs,e1,e.fz e2,tf.ext e r⟩
 |.loc n,_,h=>by
  unfold tu at h ⊢;obtain⟨a,e1,e2⟩:=h;exact⟨a,e1,e.get e2⟩
 |.own c,_,h=>by unfold tu at h ⊢;exact h
def tf.ext(e:Ext Z H Z' H'):∀{ds:List D} {vs:List V},tf K Z H ds vs->tf K Z' H' ds vs
 |[],_,h=>by unfold tf at h ⊢;exact h
 |d::ds,_,h=>by
  unfold tf at h ⊢;obtain⟨v,r,e1,h1,h2⟩:=h;exact⟨v,r,e1,tu.ext e h1,tf.ext e h2⟩
end
def sL.ext(e:Ext Z H Z' H')(h:sL K Z H Y J):sL K Z' H' Y J:=λi d q=>
 let ⟨v,e1,r⟩:=h i d q
 ⟨v,e1,r.ext e⟩
def tf.length:∀{ds:List D} {vs:List V},tf K Z H ds vs->ds.length=vs.length
 |[],_,h=>by unfold tf at h;subst h;rfl
 |d::ds,_,h=>by
  unfold tf at h;obtain⟨v,r,e1,_,h2⟩:=h;subst e1;have:=tf.length h2;simp[this]
def tf.get:∀{ds:List D} {vs:List V} {i:Nat} {d:D},tf K Z H ds vs->ds[i]?=some d->∃v,vs[i]?=some v/\tu K Z H d v
 |[],_,_,_,_,q=>by simp at q
 |d::ds,_,0,d',h,q=>by
  unfold tf at h;obtain⟨v,r,e1,h1,_⟩:=h;subst e1;simp at q;subst q;exact⟨v,by simp,h1⟩
 |d::ds,_,i+1,d',h,q=>by
  unfold tf at h;obtain⟨v,r,e1,_,h2⟩:=h;subst e1;obtain⟨w,e2,h3⟩:=tf.get (i:=i) h2 (by simpa using q);exact⟨w,by simpa using e2,h3⟩
def tf.cons{d:D}{v:V}{ds:List D}{vs:List V}(h1:tu K Z H d v)(h2:tf K Z H ds vs):tf K Z H (d::ds) (v::vs):=by
 unfold tf;exact⟨v,vs,rfl,h1,h2⟩
def tf.nil:tf K Z H [] []:=by unfold tf;rfl
def tf.cons_inv{d:D}{ds:List D}{vs:List V}(h:tf K Z H (d::ds) vs):∃v r,vs=v::r/\tu K Z H d v/\tf K Z H ds r:=by
 unfold tf at h;exact h
def tf.nil_inv{vs:List V}(h:tf K Z H [] vs):vs=[]:=by unfold tf at h;exact h
def tf.append:∀{ds es:List D} {vs us:List V},tf K Z H ds vs->tf K Z H es us->tf K Z H (ds++es) (vs++us)
 |[],_,_,_,h,q=>by rw[h.nil_inv];exact q
 |d::ds,_,_,_,h,q=>by
  obtain⟨v,r,rfl,h1,h2⟩:=h.cons_inv;exact .cons h1 (tf.append h2 q)
def tf.take:∀{ds:List D} {vs:List V} (n:Nat),tf K Z H ds vs->tf K Z H (ds.take n) (vs.take n)
 |[],_,n,h=>by rw[h.nil_inv];simp[tf.nil]
 |d::ds,_,0,h=>by simp[tf.nil]
 |d::ds,_,n+1,h=>by
  obtain⟨v,r,rfl,h1,h2⟩:=h.cons_inv;simpa using tf.cons h1 (tf.take n h2)
def tf.drop:∀{ds:List D} {vs:List V} (n:Nat),tf K Z H ds vs->tf K Z H (ds.drop n) (vs.drop n)
 |[],_,n,h=>by rw[h.nil_inv];simp[tf.nil]
 |d::ds,_,0,h=>by simpa using h
 |d::ds,_,n+1,h=>by
  obtain⟨v,r,rfl,h1,h2⟩:=h.cons_inv;simpa using tf.drop n h2
def tf.set:∀{ds:List D} {vs:List V} {d:D} {v:V} (n:Nat),tu K Z H d v->tf K Z H ds vs->tf K Z H (ds.set n d) (vs.set n v)
 |[],_,_,_,n,_,h=>by rw[h.nil_inv];simp[tf.nil]
 |d::ds,_,_,_,0,q,h=>by
  obtain⟨v,r,rfl,h1,h2⟩:=h.cons_inv;simpa using tf.cons q h2
 |d::ds,_,_,_,n+1,q,h=>by
  obtain⟨v,r,rfl,h1,h2⟩:=h.cons_inv;simpa using tf.cons h1 (tf.set n q h2)
def tu.int_inv{i:Int}{v:V}(h:tu K Z H (.int i) v):v=.int i:=by unfold tu at h;exact h
def tu.tK{i:Bool}{v:V}(h:tu K Z H (.bl i) v):v=.bl i:=by unfold tu at h;exact h
def tu.tG{v:V}(h:tu K Z H .non v):v=.non:=by unfold tu at h;exact h
def tu.str_inv{x:yF}{v:V}(h:tu K Z H (.str x) v):v=.str x:=by unfold tu at h;exact h
def tu.tR{ds:List D}{v:V}(h:tu K Z H (.tup ds) v):∃a vs,v=.ref a/\H a=some (.tup vs)/\tf K Z H ds vs:=by unfold tu at h;exact h
def tu.TW{ds:List D}{v:V}(h:tu K Z H (.fz ds) v):∃a vs,v=.ref a/\FzL K H a vs/\tf K Z H ds vs:=by unfold tu at h;exact h
def tu.tz{n:Nat}{v:V}(h:tu K Z H (.loc n) v):∃a,v=.ref a/\Z[n]?=some a:=by unfold tu at h;exact h
def tu.int{i:Int}:tu K Z H (.int i) (.int i):=by unfold tu;rfl
def tu.bl{i:Bool}:tu K Z H (.bl i) (.bl i):=by unfold tu;rfl
def tu.non:tu K Z H .non .non:=by unfold tu;rfl
def tu.str{x:yF}:tu K Z H (.str x) (.str x):=by unfold tu;rfl
def tu.tup{ds:List D}{a:yg}{vs:List V}(e:H a=some (.tup vs))(h:tf K Z H ds vs):tu K Z H (.tup ds) (.ref a):=by unfold tu;exact⟨a,vs,rfl,e,h⟩
def tu.fz{ds:List D}{a:yg}{vs:List V}(e:FzL K H a vs)(h:tf K Z H ds vs):tu K Z H (.fz ds) (.ref a):=by unfold tu;exact⟨a,vs,rfl,e,h⟩
def tu.loc{n:Nat}{a:yg}(e:Z[n]?=some a):tu K Z H (.loc n) (.ref a):=by unfold tu;exact⟨a,rfl,e⟩
def FzL.sq{a:yg}{vs:List V}(h:FzL K H a vs):SqL K H a vs:=by
 rcases h with h|h
 ·exact .inl (.inr h)
 ·exact .inr h
def sA.some{a:yg}{o:tD}(h:sA K Z H a o):∃u,H a=some u:=by
 cases o with
 |lst ds=>obtain⟨vs,e,_⟩:=h;exact⟨_,e⟩
 |dct kvs=>obtain⟨vs,e,_⟩:=h;exact⟨_,e⟩
 |dcf kvs=>obtain⟨o,vs,e,_⟩:=h;exact⟨_,e⟩
 |exc c fs=>obtain⟨C,dx,_,e,_⟩:=h;exact⟨_,e⟩
 |ins c fs=>obtain⟨C,dx,vs,_,e,_⟩:=h;exact⟨_,e⟩
def tF.mem_some(R:tF K Z H μ){a:yg}(h:a∈Z):∃u,H a=some u:=by
 obtain⟨n,h1,e⟩:=List.mem_iff_getElem.mp h;have h2:n<μ.length:=by rw[<-R.len];exact h1
 exact(R.at_ n a μ[n] (by rw[yd h1,e]) (by simp[h2])).some
def sS.ext{fs:List (yF×D)}{dx:Option yg}(e:Ext Z H Z' H')(h:sS K Z H fs dx):sS K Z' H' fs dx:=by
 rcases h with h|⟨p,vs,e1,e2,e3,r⟩
 ·exact .inl h
 ·exact .inr ⟨p,vs,e1,e.xd _ _ e2,e3,r.ext e⟩
def sA.ext{a:yg}{o:tD}(e:Ext Z H Z' H')(h:sA K Z H a o)(s:H' a=H a):sA K Z' H' a o:=by
 cases o with
 |lst ds=>obtain⟨vs,q,r⟩:=h;exact⟨vs,s.trans q,r.ext e⟩
 |dct kvs=>obtain⟨vs,q,q2,r⟩:=h;exact⟨vs,s.trans q,q2,r.ext e⟩
 |dcf kvs=>obtain⟨o,vs,q,q2,r⟩:=h;exact⟨o,vs,s.trans q,q2,r.ext e⟩
 |exc c fs=>obtain⟨C,dx,n,q,r⟩:=h;exact⟨C,dx,n,s.trans q,r.ext e⟩
 |ins c fs=>obtain⟨C,dx,vs,n,q,q2,r⟩:=h;exact⟨C,dx,vs,n,s.trans q,q2,r.ext e⟩
def Ext.new{p:yg}{o:HO}(hp:H p=none):Ext Z H Z (upd H p o) :=
 ⟨⟨[],by simp⟩,λa vs e=>by rw[zY (zG e hp)];exact e,λa o u e=>by rw[zY (zG e hp)];exact e,λa fs e=>by rw[zY (zG e hp)];exact e⟩
def tF.other(R:tF K Z H μ)(e:Ext Z H Z H')(s:∀a∈Z,H' a=H a):tF K Z H' μ :=
 ⟨R.nd,R.len,λn a o h1 h2=>(R.at_ n a o h1 h2).ext e (s a (mem_of_getElem? h1))⟩
def tF.Tm(R:tF K Z H μ){p:yg}{o:HO}(hp:H p=none):tF K Z (upd H p o) μ :=
 R.other (Ext.new hp) λa ha=>by
  obtain⟨u,e⟩:=R.mem_some ha;exact zY (zG e hp)
def Ext.push{p:yg}{o:HO}(hp:H p=none):Ext Z H (Z++[p]) (upd H p o) :=
 ⟨⟨[p],rfl⟩,(Ext.new (Z:=Z) hp).tup,(Ext.new (Z:=Z) hp).frz,(Ext.new (Z:=Z) hp).xd⟩
def tF.push(R:tF K Z H μ){p:yg}{o:HO}{lo:tD}(hp:H p=none)(h:sA K (Z++[p]) (upd H p o) p lo):tF K (Z++[p]) (upd H p o) (μ++[lo]):=by
 refine⟨?_,by simp[R.len],λn a u h1 h2=>?_⟩
 ·rw[nodup_append];refine⟨R.nd,by simp,λa ha b hb=>?_⟩;simp at hb;subst hb;obtain⟨u,e⟩:=R.mem_some ha;exact zG e hp
 ·by_cases hn:n<Z.length
  ·rw[yw hn]at h1;rw[yw (by rw[<-R.len];exact hn)]at h2;have q:=R.at_ n a u h1 h2;obtain⟨z,e⟩:=q.some;exact q.ext (Ext.push hp) (zY (zG e hp))
  ·have hl:n<(Z++[p]).length:=(List.getElem?_eq_some_iff.mp h1).1;have e:n=Z.length:=by simp at hl;omega
   subst e;rw[yL (yj _)]at h1;rw[R.len,yL (yj _)]at h2;simp at h1 h2;subst h1 h2;exact h
def zIb{p:yg}(R:tF K Z H μ):(Z++[p])[μ.length]?=some p:=by
 rw[<-R.len];simp
def Ext.wr{p:yg}{o:HO}(hm:Mut (H p)):Ext Z H Z (upd H p o) :=
 ⟨⟨[],by simp⟩,λa vs e=>by rw[zY (by rintro rfl;rw[e]at hm;exact hm)];exact e,λa o u e=>by rw[zY (by rintro rfl;rw[e]at hm;exact hm)];exact e,λa fs e=>by rw[zY (by rintro rfl;rw[e]at hm;exact hm)];exact e⟩
def tF.wr(R:tF K Z H μ){n:Nat}{p:yg}{o:HO}{lo:tD}(hm:Mut (H p))(hn:Z[n]?=some p)(h:sA K Z (upd H p o) p lo):tF K Z (upd H p o) (μ.set n lo):=by
 have hlt:=(List.getElem?_eq_some_iff.mp hn).1;refine⟨R.nd,by simp[R.len],λm a u h1 h2=>?_⟩
 by_cases hmn:m=n
 ·subst hmn;rw[hn]at h1;cases h1;rw[Yz (by rw[<-R.len];exact hlt)]at h2;cases h2;exact h
 ·rw[Yk (Yv hmn)]at h2
  have hap:a≠p:=by
   rintro rfl;obtain⟨x1,y1⟩:=List.getElem?_eq_some_iff.mp h1;obtain⟨x2,y2⟩:=List.getElem?_eq_some_iff.mp hn;exact hmn ((List.getElem_inj R.nd).mp (y1.trans y2.symm))
  exact(R.at_ m a u h1 h2).ext (Ext.wr hm) (zY hap)
end
abbrev FE:=Loc->Mem->Option (D×Mem)
abbrev FT:=Loc->Mem->Option (Bool×Mem)
abbrev FA:=Loc->Mem->Option (List D×Mem)
inductive Out where
 |next (J:Loc) (μ:Mem)|ret (d:D) (μ:Mem)|brk (J:Loc) (μ:Mem)|cont (J:Loc) (μ:Mem)
  |exc (c:yF) (fs:List (yF×D)) (μ:Mem)
abbrev FS:=Loc->Mem->Option Out
section
variable (K:yz)
structure At(Z:List yg)(H:Hp)(Y:L2.St)(J:Loc)(μ:Mem):Prop where
 st:sL K Z H Y J
 hp:tF K Z H μ
 len:Y.length=J.length
def tM(G:FE):TE:=λY H Q=>∃Z J μ d μ',At K Z H Y J μ/\G J μ=some (d,μ')/\∀Z' H' v,Ext Z H Z' H'->tF K Z' H' μ'->tu K Z' H' d v->Q v H'
def tMT(G:FT):TT:=λY H Q=>∃Z J μ b μ',At K Z H Y J μ/\G J μ=some (b,μ')/\∀Z' H',Ext Z H Z' H'->tF K Z' H' μ'->Q b H'
def tMA(G:FA):TA:=λY H Q=>∃Z J μ ds μ',At K Z H Y J μ/\G J μ=some (ds,μ')/\∀Z' H' vs,Ext Z H Z' H'->tF K Z' H' μ'->tf K Z' H' ds vs->Q vs H'
def sh(W:XK)(Z:List yg)(H:Hp)(E:Ends):Out->Prop
 |.next J' μ'=>∀Z' Y' H',Ext Z H Z' H'->At K Z' H' Y' J' μ'->E.nx Y' H'
 |.brk J' μ'=>∀Z' Y' H',Ext Z H Z' H'->At K Z' H' Y' J' μ'->E.bk Y' H'
 |.cont J' μ'=>∀Z' Y' H',Ext Z H Z' H'->At K Z' H' Y' J' μ'->E.ct Y' H'
 |.ret d μ'=>∀Z' v H',Ext Z H Z' H'->tF K Z' H' μ'->tu K Z' H' d v->E.rt v H'
 |.exc c fs μ'=>∀Z' H' C dx,PySem.W.nsIn K yB c=some (some (.ref C))->Ext Z H Z' H'->tF K Z' H' μ'->sS K Z' H' fs dx->W (.ref C) dx H'
def tMS(W:XK)(ψ:FS):TS:=λE Y H=>∃Z J μ o,At K Z H Y J μ/\ψ J μ=some o/\sh K W Z H E o
end
def ME(X:Cx)(e:yD)(G:FE):Prop:=PE X e (tM X.K G)
def MT(X:Cx)(e:yD)(G:FT):Prop:=PT X e (tMT X.K G)
def MW(X:Cx)(e:yD)(G:FT):Prop:=PW X e (tMT X.K G)
def MA(X:Cx)(es:List yD)(G:FA):Prop:=PA X es (tMA X.K G)
def MS(X:Cx)(st:Yg)(ψ:FS):Prop:=PS X st (tMS X.K (zEp X) ψ)
def MSs(X:Cx)(st:List Yg)(ψ:FS):Prop:=PSs X st (tMS X.K (zEp X) ψ)
abbrev FF:=List D->Mem->Option (D×Mem)
def spM(K:yz)(n:Nat)(F:FF):Sp:=λvs H Q _=>vs.length=n/\∃Z ds μ d μ',tf K Z H ds vs/\tF K Z H μ/\F ds μ=some (d,μ')/\∀Z' H' v,Ext Z H Z' H'->tF K Z' H' μ'->tu K Z' H' d v->Q v H'
def At.ext{K:yz}{Z Z':List yg}{H H':Hp}{Y:L2.St}{J:Loc}{μ μ':Mem}(a:At K Z H Y J μ)(e:Ext Z H Z' H')(R:tF K Z' H' μ'):At K Z' H' Y J μ':=⟨a.st.ext e,R,a.len⟩
def zGe{X:Cx}{e:yD}{t:TE}{G:FE}(h:PE X e t)(w:∀Z J μ Y H d μ' Q,At X.K Z H Y J μ->G J μ=some (d,μ')->(∀Z' H' v,Ext Z H Z' H'->tF X.K Z' H' μ'->tu X.K Z' H' d v->Q v H')->t Y H Q):ME X e G :=
 by intro U s Y H Q I hh;obtain⟨Z,J,μ,d,μ',a,e,k⟩:=hh;exact h U s Y H Q I (w Z J μ Y H d μ' Q a e k)
def zxu{X:Cx}{e:yD}{t:TT}{G:FT}(h:PT X e t)(w:∀Z J μ Y H b μ' Q,At X.K Z H Y J μ->G J μ=some (b,μ')->(∀Z' H',Ext Z H Z' H'->tF X.K Z' H' μ'->Q b H')->t Y H Q):MT X e G :=
 by intro U s Y H Q I hh;obtain⟨Z,J,μ,d,μ',a,e,k⟩:=hh;exact h U s Y H Q I (w Z J μ Y H d μ' Q a e k)
def zjw{X:Cx}{e:yD}{t:TT}{G:FT}(h:PW X e t)(w:∀Z J μ Y H b μ' Q,At X.K Z H Y J μ->G J μ=some (b,μ')->(∀Z' H',Ext Z H Z' H'->tF X.K Z' H' μ'->Q b H')->t Y H Q):MW X e G :=
 λwh U s Y H Q I ⟨Z,J,μ,d,μ',a,e,k⟩=>h wh U s Y H Q I (w Z J μ Y H d μ' Q a e k)
def zBw{X:Cx}{e:List yD}{t:TA}{G:FA}(h:PA X e t)(w:∀Z J μ Y H ds μ' Q,At X.K Z H Y J μ->G J μ=some (ds,μ')->(∀Z' H' vs,Ext Z H Z' H'->tF X.K Z' H' μ'->tf X.K Z' H' ds vs->Q vs H')->t Y H Q):MA X e G :=
 λpos U s Y H Q I ⟨Z,J,μ,d,μ',a,e,k⟩=>h pos U s Y H Q I (w Z J μ Y H d μ' Q a e k)
def zjk{X:Cx}{e:Yg}{t:TS}{ψ:FS}(h:PS X e t)(w:∀Z J μ Y H o E,At X.K Z H Y J μ->ψ J μ=some o->sh X.K (zEp X) Z H E o->t E Y H):MS X e ψ :=
 by intro U s Y H E I hh;obtain⟨Z,J,μ,o,a,e,k⟩:=hh;exact h U s Y H E I (w Z J μ Y H o E a e k)
def z5t{X:Cx}{e:List Yg}{t:TS}{ψ:FS}(h:PSs X e t)(w:∀Z J μ Y H o E,At X.K Z H Y J μ->ψ J μ=some o->sh X.K (zEp X) Z H E o->t E Y H):MSs X e ψ :=
 by intro U s Y H E I hh;obtain⟨Z,J,μ,o,a,e,k⟩:=hh;exact h U s Y H E I (w Z J μ Y H o E a e k)
end M
namespace M
open PySem PySem.Spec PyProof.Rows L2
def zf{α β:Type}{o:Option α}{f:α->Option β}{b:β}(h:o.bind f=some b):∃a,o=some a/\f a=some b:=by
 cases o with
 |none=>cases h
 |some a=>exact⟨a,rfl,h⟩
section
variable {X:Cx}{a b c e:yD}{es:List yD}{G ψ χ:FE}{pos:xV}
@[simp] def zh(i:Nat):FE:=λJ μ=>match J[i]? with
 |some (some d)=>some (d,μ)
 |_=>none
@[simp] def fC(d:D):FE:=λ_ μ=>some (d,μ)
def zFv{i:Nat}{x:yF}(h:PE X (.Name x pos) (zfy i)):ME X (.Name x pos) (zh i) :=
 zGe h λZ J μ Y H d μ' Q A e k=>by
  unfold zh at e
  split at e
  ·rename_i d' hd
   cases e;obtain⟨v,hv,r⟩:=A.st i _ hd;exact⟨v,hv,k Z H v Ext.refl A.hp r⟩
  ·cases e
def zfx{v:V}{d:D}(h:PE X e (tC v))(r:∀Z H,tu X.K Z H d v):ME X e (fC d) :=
 zGe h λZ J μ Y H d' μ' Q A e k=>by
  cases e;exact k Z H v Ext.refl A.hp (r Z H)
def zm{i j}:ME X (.Constant (.int i) j pos) (fC (.int i)):=zfx zaw λ_ _ =>.int
def zJi{i j}:ME X (.Constant (.bool i) j pos) (fC (.bl i)):=zfx z1x λ_ _ =>.bl
def zbd{j}:ME X (.Constant .none j pos) (fC .non):=zfx z2w λ_ _ =>.non
def zAi{x j}:ME X (.Constant (.str x) j pos) (fC (.str x)):=zfx zOv λ_ _ =>.str
def mv(i:Nat){x:yF}(hN:X.N[i]?=some x:=by rfl)(hv:Vis X.env.scope x:=by first|exact Or.inl rfl|exact Or.inr (Or.inl rfl)|exact Or.inr (Or.inr rfl))(hd:(x==("__debug__":yF))=false:=by decide)
 (hcd:(x==("__classdict__":yF))=false:=by decide):ME X (.Name x pos) (zh i):=zFv (znw hN hv hd hcd)
abbrev φ2:=D->D->Mem->Option (D×Mem)
def rM(K:yz)(g:φ2):R2:=λx y H Q=>∃Z dx dy μ d μ',tu K Z H dx x/\tu K Z H dy y/\tF K Z H μ/\g dx dy μ=some (d,μ')/\∀Z' H' v,Ext Z H Z' H'->tF K Z' H' μ'->tu K Z' H' d v->Q v H'
def OpM(X:Cx)(f:yb->yb->Sem yb)(g:φ2):Prop:=OpR X f (rM X.K g)
def OpM.of{X:Cx}{f:yb->yb->Sem yb}{g:φ2}(h:∀(U:List (yg×xb)) (s:yc) (Y:L2.St) (H:Hp) (x y:V) (v u:yb) (Q:VK),Inv X U Y H s->RelV x v->RelV y u->∀(Z:List yg)(dx dy:D)(μ:Mem)(d:D)(μ':Mem),tu X.K Z H dx x->tu X.K Z H dy y->tF X.K Z H μ->g dx dy μ=some (d,μ')->(∀Z' H' v,Ext Z H Z' H'->tF X.K Z' H' μ'->tu X.K Z' H' d v->Q v H')->yo (yx X.prog X.w) X.A (f v u) (EP X U Y Q) X.xe s):OpM X f g:=by
 intro U s Y H x y v u Q I rx ry hh;obtain⟨Z,dx,dy,μ,d,μ',r1,r2,R,e,k⟩:=hh;exact h U s Y H x y v u Q I rx ry Z dx dy μ d μ' r1 r2 R e k
@[simp] def zu(g:φ2)(G ψ:FE):FE:=λJ μ=>(G J μ).bind λp=>(ψ J p.2).bind λq=>g p.1 q.1 q.2
def zCq{g:φ2}{Z:List yg}{J:Loc}{μ:Mem}{Y:L2.St}{H:Hp}{d:D}{μ':Mem}{Q:VK}(A:At X.K Z H Y J μ)(e:zu g G ψ J μ=some (d,μ'))
 (k:∀Z' H' v,Ext Z H Z' H'->tF X.K Z' H' μ'->tu X.K Z' H' d v->Q v H'):tOp (rM X.K g) (tM X.K G) (tM X.K ψ) Y H Q:=by
 obtain⟨⟨x,μ1⟩,e1,e⟩:=zf e;obtain⟨⟨y,μ2⟩,e2,e⟩:=zf e;refine⟨Z,J,μ,x,μ1,A,e1,λZ1 H1 v x1 R1 r1=>?_⟩;refine⟨Z1,J,μ1,y,μ2,A.ext x1 R1,e2,λZ2 H2 u x2 R2 r2=>?_⟩;exact⟨Z2,x,y,μ2,d,μ',r1.ext x2,r2,R2,e,λZ3 H3 w x3 R3 r3=>k Z3 H3 w (x1.trans (x2.trans x3)) R3 r3⟩
def zyb{op:Operator}{g:φ2}(ho:OpM X (xl op) g)(ha:ME X a G)(hb:ME X b ψ):ME X (.BinOp a op b pos) (zu g G ψ) :=
 zGe (z3x ho ha hb) λ_ _ _ _ _ _ _ _ A e k=>zCq A e k
def zMd{op:CmpOp}{g:φ2}(ho:OpM X (Yh op) g)(ha:ME X a G)(hb:ME X b ψ)(hm:behindInMarks op b=false:=by first|exact sv _ (by decide) (by decide)|rfl|with_unfolding_all rfl):ME X (.Compare a [op] [b] pos) (zu g G ψ) :=
 zGe (zXu ho ha hb hm) λ_ _ _ _ _ _ _ _ A e k=>zCq A e k
@[simp] def z5(G:FE):FT:=λJ μ=>(G J μ).bind λp=>match p.1 with
 |.bl b=>some (b,p.2)
 |_=>none
def zap{J:Loc}{μ μ':Mem}{b:Bool}(h:z5 G J μ=some (b,μ')):G J μ=some (.bl b,μ'):=by
 obtain⟨⟨x,μ1⟩,e1,e⟩:=zf h;dsimp only at e
 split at e
 ·cases e;exact e1
 ·cases e
def zP{op:CmpOp}{g:φ2}(ho:OpM X (Yh op) g)(ha:ME X a G)(hb:ME X b ψ)(hm:behindInMarks op b=false:=by first|exact sv _ (by decide) (by decide)|rfl|with_unfolding_all rfl):MT X (.Compare a [op] [b] pos) (z5 (zu g G ψ)) :=
 zxu (zev ho ha hb hm) λZ J μ Y H b μ' Q A e k=>zCq (Q:=λx H'=>∃k,x=.bl k/\Q k H') A (zap e) λZ' H' v x R r=>⟨b,r.tK,k Z' H' x R⟩
@[simp] def z2f:φ2:=λx y μ=>match x,y with
 |.int i,.int j=>some (.int (i+j),μ)
 |.tup as,.tup bs=>bif decide (as.length+bs.length<=1000000) then some (.tup (as++bs),μ) else none
 |.loc l,.loc m=>match μ[l]?,μ[m]? with
  |some (.lst as),some (.lst bs)=>bif decide (as.length+bs.length<=1000000) then some (.loc μ.length,μ++[.lst (as++bs)]) else none
  |_,_=>none
 |_,_=>none
@[simp] def zav:φ2:=λx y μ=>match x,y with
 |.int i,.int j=>some (.int (i-j),μ)
 |_,_=>none
def zPj(i j:Int):Bool:=decide (-(2^64)<i/\i<2^64)||decide (-(2^64)<j/\j<2^64)||(decide (i.natAbs<2^1000)&&decide (j.natAbs<2^1000))
def zAs{i j:Int}(h:zPj i j=true):IntMulOk i j:=by
 unfold zPj at h;rw[Bool.or_eq_true,Bool.or_eq_true,yG]at h;rcases h with (h|h)|⟨h1,h2⟩
 ·have h:=of_decide_eq_true h;exact .of_left (intBits_le_64 h.1 h.2)
 ·have h:=of_decide_eq_true h;exact .of_right (intBits_le_64 h.1 h.2)
 ·exact .of_le (m:=1000) (n:=1000) (intBits_le (of_decide_eq_true h1)) (intBits_le (of_decide_eq_true h2)) (by decide)
def zNi:φ2:=λx y μ=>match x,y with
 |.int i,.int j=>bif zPj i j then some (.int (i*j),μ) else none
 |.tup ds,.int n=>bif decide (2<=n/\n<=1000/\0<ds.length/\ds.length<=1000) then some (.tup (yu n.toNat ds).flatten,μ) else none
 |.loc l,.int n=>match μ[l]? with
  |some (.lst ds)=>bif decide (n<=1000/\-(2^62)<=n/\ds.length<=1000) then some (.loc μ.length,μ++[.lst (yu n.toNat ds).flatten]) else none
  |_=>none
 |_,_=>none
@[simp] def zTn:φ2:=λx y μ=>match x,y with
 |.int i,.int j=>bif decide (0<j) then some (.int (i%j),μ) else none
 |_,_=>none
@[simp] def znv:φ2:=λx y μ=>match x,y with
 |.int i,.int j=>bif decide (0<j/\j<1606938044258990275541962092341162602522202993782792835301376) then some (.int (i / j),μ) else none
 |_,_=>none
def zCv:φ2:=λx y μ=>match x,y with
 |.int i,.int j=>bif decide (0<=j/\j<=100000/\i.natAbs<1606938044258990275541962092341162602522202993782792835301376) then some (.int (i^j.toNat),μ) else none
 |_,_=>none
def zI{α:Type}{c:Bool}{o:Option α}{x:α}(h:(bif c then o else none)=some x):c=true/\o=some x:=by
 cases c with
 |true=>exact⟨rfl,h⟩
 |false=>cases h
def zPl{f:yb->yb->Sem yb}{g:φ2}{C:Int->Int->Prop}{h:Int->Int->Int}(o:OpR X f (rI C λi j =>.int (h i j)))
 (w:∀x y μ d μ',g x y μ=some (d,μ')->∃i j,x=.int i/\y=.int j/\C i j/\d=.int (h i j)/\μ'=μ):OpM X f g:=by
 refine OpM.of λU s Y H x y v u Q I rx ry Z dx dy μ d μ' r1 r2 R e k=>?_;obtain⟨i,j,rfl,rfl,hc,rfl,rfl⟩:=w _ _ _ _ _ e;refine o U s Y H x y v u Q I rx ry ⟨i,j,r1.int_inv,r2.int_inv,hc,?_⟩;exact k Z H _ Ext.refl R .int
def zJq:OpM X (xl .Sub) zav:=zPl (C:=λ_ _=>True) (h:=λi j=>i-j) (opI λ_ _ _ _ _ _ _ _ q=>sub_int q) λx y μ d μ' e=>by
 unfold zav at e
 split at e
 ·cases e;exact⟨_,_,rfl,rfl,trivial,rfl,rfl⟩
 ·cases e
def zAf:OpM X (xl .Mod) zTn:=zPl (h:=λi j=>i%j) zKv λx y μ d μ' e=>by
 unfold zTn at e
 split at e
 ·obtain⟨h1,e⟩:=zI e;cases e;have h2:=of_decide_eq_true h1;exact⟨_,_,rfl,rfl,h2,rfl,rfl⟩
 ·cases e
def zNw(i j:Int):Prop:=0<j/\j<1606938044258990275541962092341162602522202993782792835301376
def zgt:OpR X (xl .FloorDiv) (rI zNw λi j =>.int (i / j)):=opI λi j _ _ _ _ _ hc q=>by
 have h1:(0:Int)<j:=hc.1;have h2:j<1606938044258990275541962092341162602522202993782792835301376:=hc.2;refine floordiv_int (by omega) (by rw[Int.fdiv_eq_ediv_of_nonneg i (by omega)];exact q) (.inl (PyProof.noPylong_of_log2 ?_));have:j.natAbs.log2<200:=(Nat.log2_lt (by omega)).mpr (by rw[show 2^200=1606938044258990275541962092341162602522202993782792835301376 from rfl];omega);omega
def z7n:OpM X (xl .FloorDiv) znv:=zPl (C:=zNw) (h:=λi j=>i / j) zgt λx y μ d μ' e=>by
 unfold znv at e
 split at e
 ·obtain⟨h1,e⟩:=zI e;cases e;have h2:=of_decide_eq_true h1;exact⟨_,_,rfl,rfl,h2,rfl,rfl⟩
 ·cases e
def z2v(i j:Int):Prop:=0<=j/\j<=100000/\i.natAbs<1606938044258990275541962092341162602522202993782792835301376
def zSu:OpR X (xl .Pow) (rI z2v λi j =>.int (i^j.toNat)):=opI λi j _ _ _ _ _ hc q=>by
 refine pow_int hc.1 ?_ q;have hb:Builtin.Int.intBits i<=200:=intBits_le (by rw[show 2^200=1606938044258990275541962092341162602522202993782792835301376 from rfl];exact hc.2.2);have h2:=hc.2.1;have h1:=hc.1
 calc (Builtin.Int.intBits i:Int)*j<=200*100000:=Int.mul_le_mul (by omega) h2 h1 (by omega)
  _<=2^27:=by decide
def zLu:OpM X (xl .Pow) zCv:=zPl (C:=z2v) (h:=λi j=>i^j.toNat) zSu λx y μ d μ' e=>by
 unfold zCv at e
 split at e
 ·obtain⟨h1,e⟩:=zI e;cases e;have h2:=of_decide_eq_true h1;exact⟨_,_,rfl,rfl,h2,rfl,rfl⟩
 ·cases e
@[simp] def zyn(p:Int->Int->Bool):φ2:=λx y μ=>match x,y with
 |.int i,.int j=>some (.bl (p i j),μ)
 |_,_=>none
def z5n{f:yb->yb->Sem yb}{p:Int->Int->Bool}(o:OpR X f (rI0 λi j =>.bl (p i j))):OpM X f (zyn p):=by
 refine OpM.of λU s Y H x y v u Q I rx ry Z dx dy μ d μ' r1 r2 R e k=>?_;unfold zyn at e
 split at e
 ·cases e;exact o U s Y H x y v u Q I rx ry ⟨_,_,r1.int_inv,r2.int_inv,k Z H _ Ext.refl R .bl⟩
 ·cases e
def z4k:OpM X (Yh .Lt) (zyn λi j=>decide (i<j)):=z5n zAx
def z0t:OpM X (Yh .Gt) (zyn λi j=>decide (j<i)):=z5n zjx
def zUt:OpM X (Yh .GtE) (zyn λi j=>decide (j<=i)):=z5n zsx
@[simp] def zMv(G ψ:FE):FE:=λJ μ=>(G J μ).bind λp=>match p.1 with
 |.bl true=>ψ J p.2
 |.bl false=>some (.bl false,p.2)
 |_=>none
@[simp] def fOr(G ψ:FE):FE:=λJ μ=>(G J μ).bind λp=>match p.1 with
 |.bl false=>ψ J p.2
 |.bl true=>some (.bl true,p.2)
 |_=>none
@[simp] def zzy(G:FE):FE:=λJ μ=>(G J μ).bind λp=>match p.1 with
 |.bl b=>some (.bl (!b),p.2)
 |_=>none
def z0o{op}(h:ME X a G):ME X (.BoolOp op [a] pos) G:=z4v h
def zMq{rest:List yD}(ha:ME X a G)(hb:ME X (.BoolOp .And (b::rest) pos) ψ):ME X (.BoolOp .And (a::b::rest) pos) (zMv G ψ) :=
 zGe (zdw ha hb) λZ J μ Y H d μ' Q A e k=>by
  obtain⟨⟨x,μ1⟩,e1,e⟩:=zf e;refine⟨Z,J,μ,x,μ1,A,e1,λZ1 H1 v x1 R1 r1=>?_⟩;dsimp only at e
  split at e
  ·exact⟨true,r1.tK,sE ⟨Z1,J,μ1,d,μ',A.ext x1 R1,e,λZ2 H2 w x2 R2 r2=>k Z2 H2 w (x1.trans x2) R2 r2⟩⟩
  ·cases e;exact⟨false,r1.tK,sD (k Z1 H1 _ x1 R1 .bl)⟩
  ·cases e
def z9x{rest:List yD}(ha:ME X a G)(hb:ME X (.BoolOp .Or (b::rest) pos) ψ):ME X (.BoolOp .Or (a::b::rest) pos) (fOr G ψ) :=
 zGe (zQx ha hb) λZ J μ Y H d μ' Q A e k=>by
  obtain⟨⟨x,μ1⟩,e1,e⟩:=zf e;refine⟨Z,J,μ,x,μ1,A,e1,λZ1 H1 v x1 R1 r1=>?_⟩;dsimp only at e
  split at e
  ·exact⟨false,r1.tK,sD ⟨Z1,J,μ1,d,μ',A.ext x1 R1,e,λZ2 H2 w x2 R2 r2=>k Z2 H2 w (x1.trans x2) R2 r2⟩⟩
  ·cases e;exact⟨true,r1.tK,sE (k Z1 H1 _ x1 R1 .bl)⟩
  ·cases e
@[simp] def zEr(G ψ:FT):FT:=λJ μ=>(G J μ).bind λp=>bif p.1 then ψ J p.2 else some (false,p.2)
@[simp] def zNs(G ψ:FT):FT:=λJ μ=>(G J μ).bind λp=>bif p.1 then some (true,p.2) else ψ J p.2
@[simp] def z7q(G:FT):FT:=λJ μ=>(G J μ).bind λp=>some (!p.1,p.2)
def zTj{G:FE}(h:ME X a G)(he:∀whole,isTrue a X.env whole=(do let v <-whole;standAt a.pos;holding [v] (truthy v)):=by intro _;rfl):MT X a (z5 G) :=
 zxu (zWw h he) λZ J μ Y H b μ' Q A e k=>⟨Z,J,μ,.bl b,μ',A,zap e,λZ' H' v x R r=>⟨b,r.tK,k Z' H' x R⟩⟩
def MW.mt{G:FT}(h:MW X a G):MT X a G:=h _
def zSn{G:FT}(h:MT X a G):MW X (.BoolOp .And [a] pos) G:=zKu h
def zal{G:FT}(h:MT X a G):MW X (.BoolOp .Or [a] pos) G:=zmw h
def z6r{G ψ:FT}{rest:List yD}(ha:MT X a G)(hb:MW X (.BoolOp .And (b::rest) pos) ψ):MW X (.BoolOp .And (a::b::rest) pos) (zEr G ψ) :=
 zjw (zVv ha hb) λZ J μ Y H b μ' Q A e k=>by
  obtain⟨⟨x,μ1⟩,e1,e⟩:=zf e;refine⟨Z,J,μ,x,μ1,A,e1,λZ1 H1 x1 R1=>?_⟩
  cases x with
  |true=>exact sE ⟨Z1,J,μ1,b,μ',A.ext x1 R1,e,λZ2 H2 x2 R2=>k Z2 H2 (x1.trans x2) R2⟩
  |false=>
   cases e;exact sD (k Z1 H1 x1 R1)
def zRn{G ψ:FT}{rest:List yD}(ha:MT X a G)(hb:MW X (.BoolOp .Or (b::rest) pos) ψ):MW X (.BoolOp .Or (a::b::rest) pos) (zNs G ψ) :=
 zjw (zYx ha hb) λZ J μ Y H b μ' Q A e k=>by
  obtain⟨⟨x,μ1⟩,e1,e⟩:=zf e;refine⟨Z,J,μ,x,μ1,A,e1,λZ1 H1 x1 R1=>?_⟩
  cases x with
  |false=>exact sD ⟨Z1,J,μ1,b,μ',A.ext x1 R1,e,λZ2 H2 x2 R2=>k Z2 H2 (x1.trans x2) R2⟩
  |true=>
   cases e;exact sE (k Z1 H1 x1 R1)
def z8q{G:FT}(ha:MT X a G):MT X (.UnaryOp .Not a pos) (z7q G) :=
 zxu (zow ha) λZ J μ Y H b μ' Q A e k=>by
  obtain⟨⟨x,μ1⟩,e1,e⟩:=zf e;cases e;exact⟨Z,J,μ,x,μ1,A,e1,λZ1 H1 x1 R1=>k Z1 H1 x1 R1⟩
structure MAn(X:Cx)(es:List yD)(G:FA):Prop where
 ma:MA X es G
 len:∀J μ ds μ',G J μ=some (ds,μ')->ds.length=es.length
@[simp] def zy:FA:=λ_ μ=>some ([],μ)
@[simp] def ze(G:FE)(ψ:FA):FA:=λJ μ=>(G J μ).bind λp=>(ψ J p.2).bind λq=>some (p.1::q.1,q.2)
def zd:MAn X [] zy:=⟨zBw zFj λZ J μ Y H ds μ' Q A e k=>by
 cases e;exact k Z H [] Ext.refl A.hp .nil,λ_ _ _ _ e=>by cases e;rfl⟩
def z7v:yD->Bool
 |.Starred ..=>false
 |_=>true
def zkj{e:yD}{es:List yD}{env:Env}(h:z7v e=true):yr (e::es) env=(false,Yt e env)::yr es env:=by
 cases e<;>first|rfl|cases h
def za{G:FE}{ψ:FA}(ha:ME X e G)(hr:MAn X es ψ)(hs:yr (e::es) X.env=(false,Yt e X.env)::yr es X.env:=by exact zkj rfl):MAn X (e::es) (ze G ψ) :=
 ⟨zBw (zHg ha hr.ma hs) λZ J μ Y H ds μ' Q A e k=>by
  obtain⟨⟨x,μ1⟩,e1,e⟩:=zf e;obtain⟨⟨y,μ2⟩,e2,e⟩:=zf e;cases e;refine⟨Z,J,μ,x,μ1,A,e1,λZ1 H1 v x1 R1 r1=>?_⟩;refine⟨Z1,J,μ1,y,μ2,A.ext x1 R1,e2,λZ2 H2 u x2 R2 r2=>?_⟩;exact k Z2 H2 _ (x1.trans x2) R2 (.cons (r1.ext x2) r2),λJ μ ds μ' e=>by
  obtain⟨⟨x,μ1⟩,e1,e⟩:=zf e;obtain⟨⟨y,μ2⟩,e2,e⟩:=zf e;cases e;have:=hr.len _ _ _ _ e2;simp[this]⟩
@[simp] def zik(G:FA):FE:=λJ μ=>(G J μ).bind λp=>some (.tup p.1,p.2)
@[simp] def zDk(G:FA):FE:=λJ μ=>(G J μ).bind λp=>some (.loc p.2.length,p.2++[.lst p.1])
def zid{x1}{G:FA}(h:MAn X es G)(hn:es.length<=1000:=by decide):ME X (.Tuple es x1 pos) (zik G) :=
 zGe (zGv h.ma) λZ J μ Y H d μ' Q A e k=>by
  obtain⟨⟨x,μ1⟩,e1,e⟩:=zf e;cases e;refine⟨Z,J,μ,x,μ1,A,e1,λZ1 H1 vs x1 R1 r1=>⟨?_,λp hp=>?_⟩⟩
  ·rw[<-r1.length,h.len _ _ _ _ e1];exact YD (sg hn)
  ·exact k Z1 _ _ (x1.trans (Ext.new hp)) (R1.Tm hp) (.tup zx (r1.ext (Ext.new hp)))
def z1d{G:FA}(h:MAn X es G)(hn:es.length<=1000:=by decide):ME X (.List es pos) (zDk G) :=
 zGe (zQw h.ma) λZ J μ Y H d μ' Q A e k=>by
  obtain⟨⟨x,μ1⟩,e1,e⟩:=zf e;cases e;refine⟨Z,J,μ,x,μ1,A,e1,λZ1 H1 vs x1 R1 r1=>⟨?_,λp hp=>?_⟩⟩
  ·rw[<-r1.length,h.len _ _ _ _ e1];exact YD (sg hn)
  ·exact k _ _ _ (x1.trans (Ext.push hp)) (R1.push hp ⟨vs,zx,r1.ext (Ext.push hp)⟩) (.loc (zIb R1))
@[simp] def zo(F:FF)(G:FA):FE:=λJ μ=>(G J μ).bind λp=>F p.1 p.2
def zlv{k n:Nat}{f:yg}{fd:yk}{ps:List yF}{F:FF}{x:yF}{p:xV}{G:FA}(φ:tq X.prog X.w X.K X.mg X.base CX0 k f fd ps (spM X.K n F))(hr:Th k X.A)(hm:X.mg x=some (.ref f))(hk:W.keepIn X.K (.ref f)=true)(hb:Binds X.K fd ps [])
 (ha:MAn X (e::es) G) (hn:(e::es).length=n:=by rfl) (hg:Gl X x:=by rfl) (hdb:(x==("__debug__":yF))=false:=by decide) (he:yr (e::es) X.env=(false,Yt e X.env)::yr es X.env:=by exact zkj rfl) (hpl:(YZ pos (yr es X.env)).any (·.1)=false:=by rfl) :
 ME X (.Call (.Name x p) (e::es) [] pos) (zo F G) :=
 zGe (z9u φ hr hg hm hk hb .nil pass0 ha.ma hdb he hpl) λZ J μ Y H d μ' Q A e k=>by
  obtain⟨⟨x,μ1⟩,e1,e⟩:=zf e;refine⟨Z,J,μ,x,μ1,A,e1,λZ1 H1 vs x1 R1 r1=>?_⟩;show spM X.K n F (vs++[]) H1 Q E0;rw[List.append_nil];exact⟨by rw[<-r1.length,ha.len _ _ _ _ e1];exact hn,Z1,x,μ1,d,μ',r1,R1,e,λZ2 H2 v x2 R2 r2=>k Z2 H2 v (x1.trans x2) R2 r2⟩
abbrev GL:=List D->Mem->Option (D×Mem)
def rCM(K:yz)(g:GL):List V->Hp->VK->Prop:=λvs H Q=>∃Z ds μ d μ',tf K Z H ds vs/\tF K Z H μ/\g ds μ=some (d,μ')/\∀Z' H' v,Ext Z H Z' H'->tF K Z' H' μ'->tu K Z' H' d v->Q v H'
def tQ(X:Cx)(f:yb)(g:GL):Prop:=zZj X f (rCM X.K g)
def tQ.of{X:Cx}{f:yb}{g:GL}(h:∀(U:List (yg×xb)) (s:yc) (Y:L2.St) (H:Hp) (xs:List V) (us:List yb) (Q:VK),Inv X U Y H s->Vals xs us->∀(Z:List yg)(ds:List D)(μ:Mem)(d:D)(μ':Mem),tf X.K Z H ds xs->tF X.K Z H μ->g ds μ=some (d,μ')->(∀Z' H' v,Ext Z H Z' H'->tF X.K Z' H' μ'->tu X.K Z' H' d v->Q v H')->yo (yx X.prog X.w) X.A (call f us) (EP X U Y Q) X.xe s):tQ X f g:=by
 intro U s Y H xs us Q I r hh;obtain⟨Z,ds,μ,d,μ',r1,R,e,k⟩:=hh;exact h U s Y H xs us Q I r Z ds μ d μ' r1 R e k
def zgy{g:GL}{G:FA}{Z:List yg}{J:Loc}{μ:Mem}{Y:L2.St}{H:Hp}{d:D}{μ':Mem}{Q:VK}(A:At X.K Z H Y J μ)(e:zo g G J μ=some (d,μ'))
 (k:∀Z' H' v,Ext Z H Z' H'->tF X.K Z' H' μ'->tu X.K Z' H' d v->Q v H'):tCB (rCM X.K g) (tMA X.K G) Y H Q:=by
 obtain⟨⟨x,μ1⟩,e1,e⟩:=zf e;exact⟨Z,J,μ,x,μ1,A,e1,λZ1 H1 vs x1 R1 r1=>⟨Z1,x,μ1,d,μ',r1,R1,e,λZ2 H2 v x2 R2 r2=>k Z2 H2 v (x1.trans x2) R2 r2⟩⟩
def zO{g:GL}{id:String}{x:yF}{p:xV}{G:FA}(hc:tQ X (.builtin id) g)(hm:X.mg x=none)(hv:yI x=some (.builtin id))(ha:MAn X (e::es) G)(hg:Gl X x:=by rfl)(hn:x≠"__name__":=by decide)(hdb:(x==("__debug__":yF))=false:=by decide)
 (he:yr (e::es) X.env=(false,Yt e X.env)::yr es X.env:=by exact zkj rfl) (hpl:(YZ pos (yr es X.env)).any (·.1)=false:=by rfl):ME X (.Call (.Name x p) (e::es) [] pos) (zo g G) :=
 zGe (zkp hc hg hm hv ha.ma hn hdb he hpl) λ_ _ _ _ _ _ _ _ A e k=>zgy A e k
def z6c{g:GL}{T:String}{x:yF}{p:xV}{G:FA}(hc:tQ X (.type T) g)(hm:X.mg x=none)(hv:yI x=some (.type T))(ha:MAn X (e::es) G)(hg:Gl X x:=by rfl)(hn:x≠"__name__":=by decide)(hdb:(x==("__debug__":yF))=false:=by decide)
 (he:yr (e::es) X.env=(false,Yt e X.env)::yr es X.env:=by exact zkj rfl) (hpl:(YZ pos (yr es X.env)).any (·.1)=false:=by rfl):ME X (.Call (.Name x p) (e::es) [] pos) (zo g G) :=
 zGe (z4g hc hg hm hv ha.ma hn hdb he hpl) λ_ _ _ _ _ _ _ _ A e k=>zgy A e k
variable {K:yz}{Z:List yg}{H:Hp}{μ:Mem}
@[simp] def items(μ:Mem):D->Option (List D)
 |.tup ds=>some ds
 |.fz ds=>some ds
 |.loc n=>match μ[n]? with
  |some (.lst ds)=>some ds
  |_=>none
 |_=>none
def zPf{d:D}{v:V}{ds:List D}(R:tF K Z H μ)(r:tu K Z H d v)(e:items μ d=some ds):∃p vs,v=.ref p/\(SqL K H p vs\/SqT K H p vs)/\tf K Z H ds vs:=by
 unfold items at e
 split at e
 ·cases e;obtain⟨a,vs,e1,e2,q⟩:=r.tR;exact⟨a,vs,e1,.inr (SqT.of e2),q⟩
 ·cases e;obtain⟨a,vs,e1,e2,q⟩:=r.TW;exact⟨a,vs,e1,.inl e2.sq,q⟩
 ·split at e
  ·rename_i h
   cases e;obtain⟨a,e1,e2⟩:=r.tz;obtain⟨vs,e3,q⟩:=R.at_ _ _ _ e2 h;exact⟨a,vs,e1,.inl (SqL.of e3),q⟩
  ·cases e
 ·cases e
@[simp] def gIx:φ2:=λx y μ=>match y with
 |.int i=>(items μ x).bind λds=>(atI ds i).bind λd=>some (d,μ)
 |_=>none
def zzu{K:yz}{Z:List yg}{H:Hp}{ds:List D}{vs:List V}{i:Int}{d:D}(r:tf K Z H ds vs)(e:atI ds i=some d):∃v,atI vs i=some v/\tu K Z H d v:=by
 unfold atI at e ⊢;rw[r.length]at e;obtain⟨j,e1,e2⟩:=zf e;obtain⟨v,e3,q⟩:=r.get e2;exact⟨v,by rw[e1];exact e3,q⟩
def ixM:IxR X (rM X.K gIx):=by
 intro value slice U s Y H x y v u Q I rx ry ⟨Z,dx,dy,μ,d,μ',r1,r2,R,e,k⟩ hs;unfold gIx at e
 split at e
 ·obtain⟨ds,e1,e⟩:=zf e;obtain⟨d',e2,e⟩:=zf e;cases e;obtain⟨p,vs,rfl,hq,rr⟩:=zPf R r1 e1;obtain⟨w,e3,q⟩:=zzu rr e2;rcases hq with hq|hq
  ·exact zRt value slice U s Y H _ y v u Q I rx ry (.inl ⟨p,vs,_,w,rfl,r2.int_inv,hq,e3,k Z H w Ext.refl R q⟩) hs
  ·exact zRt value slice U s Y H _ y v u Q I rx ry (.inr (.inl ⟨p,vs,_,w,rfl,r2.int_inv,hq,e3,k Z H w Ext.refl R q⟩)) hs
 ·cases e
def zM(ha:ME X a G)(hb:ME X b ψ)(hs:z4n b:=by exact λ_ _=>rfl):ME X (.Subscript a b pos) (zu gIx G ψ) :=
 zGe (zSw ixM ha hb hs) λ_ _ _ _ _ _ _ _ A e k=>zCq A e k
@[simp] def zWi:GL:=λds μ=>match ds with
 |[d]=>(items μ d).bind λxs=>some (.int xs.length,μ)
 |_=>none
def zU:tQ X (.builtin "len") zWi:=by
 refine tQ.of λU s Y H xs us Q I r Z ds μ d μ' r1 R e k=>?_;unfold zWi at e
 split at e
 ·obtain⟨ds,e1,e⟩:=zf e;cases e;obtain⟨v,rr,rfl,q1,q2⟩:=r1.cons_inv;have q2:=q2.nil_inv;subst q2;obtain⟨p,vs,rfl,hq,rr⟩:=zPf R q1 e1;exact z0m U s Y H _ us Q I r ⟨p,vs,rfl,hq,k Z H _ Ext.refl R (by rw[rr.length];exact .int)⟩
 ·cases e
@[simp] def z2r:GL:=λds μ=>match ds with
 |[d]=>(items μ d).bind λxs=>some (.loc μ.length,μ++[.lst xs])
 |_=>none
def z7k:tQ X (.type "list") z2r:=by
 refine tQ.of λU s Y H xs us Q I r Z ds μ d μ' r1 R e k=>?_;unfold z2r at e
 split at e
 ·obtain⟨ds,e1,e⟩:=zf e;cases e;obtain⟨v,rr,rfl,q1,q2⟩:=r1.cons_inv;have q2:=q2.nil_inv;subst q2;obtain⟨p,vs,rfl,hq,rr⟩:=zPf R q1 e1;exact z2m U s Y H _ us Q I r ⟨p,vs,rfl,hq,λl hl=>k _ _ _ (Ext.push hl) (R.push hl ⟨vs,zx,rr.ext (Ext.push hl)⟩) (.loc (zIb R))⟩
 ·cases e
@[simp] def z8d:GL:=λds μ=>match ds with
 |[.tup xs]=>some (.tup xs,μ)
 |[d]=>(items μ d).bind λxs=>some (.tup xs,μ)
 |_=>none
def zqc:tQ X (.type "tuple") z8d:=by
 refine tQ.of λU s Y H xs us Q I r Z ds μ d μ' r1 R e k=>?_
 have key:∃x ys,ds=[x]/\items μ x=some ys/\d=.tup ys/\μ'=μ:=by
  unfold z8d at e
  split at e
  ·cases e;exact⟨_,_,rfl,rfl,rfl,rfl⟩
  ·obtain⟨ds,e1,e⟩:=zf e;cases e;exact⟨_,_,rfl,e1,rfl,rfl⟩
  ·cases e
 obtain⟨x,ys,rfl,e1,rfl,rfl⟩:=key;obtain⟨v,rr,rfl,q1,q2⟩:=r1.cons_inv;have q2:=q2.nil_inv;subst q2
 cases x with
 |tup zs=>
  cases e1;obtain⟨a,vs,rfl,e2,q⟩:=q1.tR;exact zff U s Y H _ us Q I r ⟨a,vs,rfl,.inr ⟨SqT.of e2,k Z H _ Ext.refl R q1⟩⟩
 |fz zs=>
  cases e1;obtain⟨a,vs,rfl,e2,q⟩:=q1.TW;exact zff U s Y H _ us Q I r ⟨a,vs,rfl,.inl ⟨e2.sq,λl hl=>k Z _ _ (Ext.new hl) (R.Tm hl) (.tup zx (q.ext (Ext.new hl)))⟩⟩
 |loc n=>
  unfold items at e1;dsimp only at e1
  split at e1
  ·rename_i h
   cases e1;obtain⟨a,rfl,e2⟩:=q1.tz;obtain⟨vs,e3,q⟩:=R.at_ _ _ _ e2 h;exact zff U s Y H _ us Q I r ⟨a,vs,rfl,.inl ⟨SqL.of e3,λl hl=>k Z _ _ (Ext.new hl) (R.Tm hl) (.tup zx (q.ext (Ext.new hl)))⟩⟩
  ·cases e1
 |_=>cases e1
end
def zEm{prog:yy}{w:yH}{A:yN}{R:Result->yc->Prop}{s:yc}{elt target iter:yD}{ifs:List yD}{scope:xU}{pos:xV}{it acc:yb}{env:Env}(I:Nat->yc->Prop)
 (turn:∀n s,I n s->yo (yx prog w) A (xY it) (λr s₁=>match r with
  |none=>R (.ok .next) s₁
  |some v=>yo (yx prog w) A (letOwnedTupleGo target it v) (λ_ s₁'=>yo (yx prog w) A (assign target env v) (λ_ s₂=>
   yo (yx prog w) A (forIn ifs true λc r=>if r=true then do let ok <-isTrue c env (Yt c env);pure (YQ ok) else pure (YQ r)) (λok s₃=>
    if ok=true then yo (yx prog w) A (Yt elt env) (λx s₄=>
     yo (yx prog w) A (call (.builtin "list.append") [acc,x]) (λ_ s₅=>∃m,m<n/\I m s₅) (λ_ _=>False) s₄) (λ_ _=>False) s₃
    else ∃m,m<n/\I m s₃) (λ_ _=>False) s₂) (λ_ _=>False) s₁') (λ_ _=>False) s₁) (λ_ _=>False) s)
 (n:Nat) (h:I n s) :
 codeAny (yx prog w) A (.compLoop (.ListComp elt [⟨target,iter,ifs,0⟩] scope pos) 0 it acc env) R s:=by
 refine codeAny_loop rfl I (λn s hI=>?_) n h;show yo _ A ((compTurn (.ListComp elt [⟨target,iter,ifs,0⟩] scope pos) 0 it acc env).onRaise (λx=>do noteFrame x env;theTreesLotGoes x)) _ _ s;refine wpAny_noted ?_;rw[compTurn_list];refine ya (wpAny_standAt (ya (YU (turn n s hI) (λr s₁ h₁=>?_) λ_ _ h'=>h'.elim)))
 cases r with
 |none=>exact yf h₁
 |some v=>
  refine ya (YU h₁ (λ_ s₁' h₁=>?_) λ_ _ h'=>h'.elim);refine ya (YU h₁ (λ_ s₂ h₂=>ya (YU h₂ (λok s₃ h₃=>?_) λ_ _ h'=>h'.elim)) λ_ _ h'=>h'.elim)
  cases ok with
  |false=>exact yf ⟨rfl,h₃⟩
  |true=>
   exact ya (ya (YU h₃ (λx s₄ h₄=>ya (YU h₄ (λ_ s₅ h₅=>yf (yf ⟨rfl,h₅⟩)) λ_ _ h'=>h'.elim)) λ_ _ h'=>h'.elim))
def zKb(cells:List (yF×yg)):List (yF×xa)->List (yF×yg)->List (yF×yg)
 |[],acc=>acc
 |(n,k)::r,acc=>zKb cells r (if k == .free then(match cells.lookup n with|some c=>(n,c)::acc|none=>acc) else acc)
def zui{env:Env}:∀(names:List (yF×xa)) (acc:List (yF×yg)),(∀x∈names,x.2=.free->∃c,env.cells.lookup x.1=some c) ->
 (forIn names acc λ(x:yF×xa) (cs:List (yF×yg))=>(match x with|(name,kind)=>if kind == .free then do let c <-cellOf env name;pure (YQ ((name,c)::cs)) else pure (YQ cs):Sem (ForInStep (List (yF×yg)))))=(pure (zKb env.cells names acc):Sem (List (yF×yg)))
 |[],acc,_=>rfl
 |(n,k)::r,acc,h=>by
  have ih:=λacc'=>zui r acc' λx hx=>h x (mem_cons_of_mem _ hx);rw[List.forIn_cons]
  by_cases hk:k=.free
  ·subst hk;obtain⟨c,hc⟩:=h (n,.free) mem_cons_self rfl;have e:cellOf env n=pure c:=by unfold cellOf;rw[hc]
   have:zKb env.cells ((n,yq)::r) acc=zKb env.cells r ((n,c)::acc):=by
    show zKb env.cells r (if(yq==yq)=true then(match env.cells.lookup n with|some c=>(n,c)::acc|none=>acc) else acc)=_;rw[hc];rfl
   rw[this,<-ih];show((do let c <-cellOf env n;pure (YQ ((n,c)::acc))) >>= _:Sem _)=_;rw[e];rfl
  ·have hb:(k==yq)=false:=by simpa using hk
   have:zKb env.cells ((n,k)::r) acc=zKb env.cells r acc:=by
    show zKb env.cells r (if(k==yq)=true then _ else acc)=_;rw[hb];rfl
   rw[this,<-ih];simp only[hb,YV,if_false];rfl
def zcl{scope:xU}{env:Env}(h:∀x∈scope.names,x.2=.free->∃c,env.cells.lookup x.1=some c):closureFor scope env=pure (zKb env.cells scope.names []):=by
 have e:=zui (env:=env) scope.names [] h;unfold closureFor;show(forIn scope.names [] _ >>= λr=>pure r:Sem _)=_;rw[show(forIn scope.names ([]:List (yF×yg)) λ(x:yF×xa) (r:List (yF×yg))=>(match x with|(name,kind)=>if kind == .free then do let c <-cellOf env name;pure (YQ ((name,c)::r)) else pure (YQ r):Sem (ForInStep (List (yF×yg)))))=pure (zKb env.cells scope.names []) from e];rfl
def zll{cells:List (yF×yg)}{x:yF}{c:yg}:∀(names:List (yF×xa)) (acc:List (yF×yg)),(zKb cells names acc).lookup x=some c->acc.lookup x=some c\/cells.lookup x=some c
 |[],_,h =>.inl h
 |(n,k)::r,acc,h=>by
  rcases zll r _ h with q|q
  ·by_cases hk:(k==yq)=true
   ·rw[if_pos hk]at q
    cases e:cells.lookup n with
    |none=>rw[e]at q;exact .inl q
    |some a=>
     rw[e]at q;simp only[lookup_cons]at q
     by_cases hx:(x==n)=true
     ·rw[hx]at q;have hx':x=n:=by simpa using hx
      subst hx';cases q;exact .inr e
     ·have hx':(x==n)=false:=by simpa using hx
      rw[hx']at q;exact .inl q
   ·rw[if_neg hk]at q;exact .inl q
  ·exact .inr q
def zMr{cells:List (yF×yg)}{x:yF}:∀(names:List (yF×xa)) (acc:List (yF×yg)),(acc.lookup x).isSome=true->((zKb cells names acc).lookup x).isSome=true
 |[],_,h=>h
 |(n,k)::r,acc,h=>by
  refine zMr r _ ?_
  by_cases hk:(k==yq)=true
  ·rw[if_pos hk]
   cases e:cells.lookup n with
   |none=>exact h
   |some a=>
    simp only[lookup_cons]
    by_cases hx:(x==n)=true
    ·rw[hx];rfl
    ·have hx':(x==n)=false:=by simpa using hx
     rw[hx'];exact h
  ·rw[if_neg hk];exact h
def zNt{cells:List (yF×yg)}{x:yF}{c:yg}(hc:cells.lookup x=some c):∀(names:List (yF×xa)) (acc:List (yF×yg)),(x,yq)∈names->((zKb cells names acc).lookup x).isSome=true
 |[],_,h=>by cases h
 |(n,k)::r,acc,h=>by
  rcases List.mem_cons.mp h with h|h
  ·cases h;refine zMr r _ ?_;rw[if_pos (by rfl),hc];simp[lookup_cons]
  ·exact zNt hc r _ h
def cxC(X:Cx)(own:List yF)(fr:List Nat)(scope:xU)(cl:List (yF×yg))(C:yg)(s₀:yc)(H₀:Hp)(fp:List yg):Cx :=
 {X with N:=own++fr.map λi=>X.N.getD i Str.empty,s₀:=s₀,H₀:=H₀,env:=compEnvC scope cl C X.env,outer:=X.stack,ex:=fp,fn:=λx=>scope.names.lookup x==some .cell,xe:=λ_ _=>False }
def σC(n:Nat)(fr:List Nat)(Y:L2.St):L2.St:=yu n none++fr.map λi=>(Y[i]?).getD none
def zVu(Y Y':L2.St):Prop:=Y'.length=Y.length/\∀(i:Nat) v,Y[i]?=some (some v)->Y'[i]?=some (some v)
def PF(X:Cx)(ifs:List yD)(t:TT):Prop:=∀(U:List (yg×xb)) (s:yc) (Y:L2.St) (H:Hp) (Q:Bool->Hp->Prop),Inv X U Y H s->t Y H Q ->
 yo (yx X.prog X.w) X.A (forIn ifs true λc r=>if r=true then do let ok <-isTrue c X.env (Yt c X.env);pure (YQ ok) else pure (YQ r)) (TP X U Y Q) X.xe s
def zHw{X:Cx}:PF X [] (λY H Q=>Q true H):=λU s Y H Q I h=>wpAny_tests_nil ⟨H,I,h⟩
def z4w{X:Cx}{c:yD}{t:TT}(h:PT X c t):PF X [c] t:=λU s Y H Q I hw=>wpAny_tests_one (h U s Y H Q I hw)
def tLC(n:Nat)(fr:List Nat)(wi:TI)(g:TG)(tc:TT)(te:TE):TE:=λY H Q=>wi Y H λδ H1=>∃W:Nat->Nat->List V->Hp->Prop,(∃m,W 0 m [] H1)/\∀i m ys H,W i m ys H ->
 (δ.stop i H/\∀p,H p=none->Q (.ref p) (upd H p (.lst ys))) \/
 (δ.go i H/\ys.length<yE/\∀x H',δ.yld i H x H'->g x (σC n fr Y) H' λY2 H2=>zVu (σC n fr Y) Y2/\tc Y2 H2 λb H3=>
  if b=true then te Y2 H3 λy H4=>∃m',m'<m/\W (i+1) m' (ys++[y]) H4 else ∃m',m'<m/\W (i+1) m' ys H3)
section
variable {X:Cx}{own:List yF}{fr:List Nat}{scope:xU}{U:List (yg×xb)}{Y:L2.St}{H:Hp}{s:yc}
def zoe{env:Env}{x:yF}{k:xa}:∀{names:List (yF×xa)},(names.map λ(n,k)=>if(k==yq&&env.scope.kind == .function&&env.kindOf n==some .cell) then(n,yM) else(n,k)).lookup x=some k ->
 (k=.cell\/k=.free)->(x,yq)∈names\/(x,yM)∈names
 |[],h,_=>by simp at h
 |(n,k')::r,h,hk=>by
  rw[map_cons]at h
  by_cases hx:x=n
  ·subst hx
   by_cases hb:(k'==yq&&env.scope.kind == .function&&env.kindOf x==some .cell)=true
   ·have:k'=.free:=by
     simp only[yG,beq_iff_eq]at hb;exact hb.1.1
    subst this;exact .inl mem_cons_self
   ·have h2:((x,k')::r.map λ(n,k)=>if(k==yq&&env.scope.kind == .function&&env.kindOf n==some .cell) then(n,yM) else(n,k)).lookup x=some k:=by
     have e:(if(k'==yq&&env.scope.kind == .function&&env.kindOf x==some .cell)=true then(x,yM) else(x,k'))=(x,k'):=if_neg hb;rw[<-e];exact h
    simp only[lookup_cons,beq_self_eq_true]at h2;cases h2;rcases hk with rfl|rfl
    ·exact .inr mem_cons_self
    ·exact .inl mem_cons_self
  ·have hx':(x==n)=false:=by simpa using hx
   have h2:(r.map λ(n,k)=>if(k==yq&&env.scope.kind == .function&&env.kindOf n==some .cell) then(n,yM) else(n,k)).lookup x=some k:=by
    by_cases hb:(k'==yq&&env.scope.kind == .function&&env.kindOf n==some .cell)=true
    ·have e:(if(k'==yq&&env.scope.kind == .function&&env.kindOf n==some .cell)=true then(n,yM) else(n,k'))=(n,yM):=if_pos hb;have h3:((n,yM)::r.map λ(n,k)=>if(k==yq&&env.scope.kind == .function&&env.kindOf n==some .cell) then(n,yM) else(n,k)).lookup x=some k:=by rw[<-e];exact h
     simpa only[lookup_cons,hx'] using h3
    ·have e:(if(k'==yq&&env.scope.kind == .function&&env.kindOf n==some .cell)=true then(n,yM) else(n,k'))=(n,k'):=if_neg hb;have h3:((n,k')::r.map λ(n,k)=>if(k==yq&&env.scope.kind == .function&&env.kindOf n==some .cell) then(n,yM) else(n,k)).lookup x=some k:=by rw[<-e];exact h
     simpa only[lookup_cons,hx'] using h3
   rcases zoe h2 hk with q|q
   ·exact .inl (mem_cons_of_mem _ q)
   ·exact .inr (mem_cons_of_mem _ q)
def zgi{env:Env}{x:yF}:∀{names:List (yF×xa)},names.lookup x=some .free ->
 (names.map λ(n,k)=>if(k==yq&&env.scope.kind == .function&&env.kindOf n==some .cell) then(n,yM) else(n,k)).lookup x=some .cell \/
 (names.map λ(n,k)=>if(k==yq&&env.scope.kind == .function&&env.kindOf n==some .cell) then(n,yM) else(n,k)).lookup x=some .free
 |[],h=>by simp at h
 |(n,k')::r,h=>by
  rw[map_cons]
  by_cases hx:x=n
  ·subst hx;simp only[lookup_cons,beq_self_eq_true]at h;cases h
   by_cases hb:(yq==yq&&env.scope.kind == .function&&env.kindOf x==some .cell)=true
   ·have e:(if(yq==yq&&env.scope.kind == .function&&env.kindOf x==some .cell)=true then(x,yM) else(x,yq))=(x,yM):=if_pos hb
    left
    show List.lookup x ((if(yq==yq&&env.scope.kind == .function&&env.kindOf x==some .cell)=true then(x,yM) else(x,yq))::_)=_;rw[e];simp[lookup_cons]
   ·have e:(if(yq==yq&&env.scope.kind == .function&&env.kindOf x==some .cell)=true then(x,yM) else(x,yq))=(x,yq):=if_neg hb
    right
    show List.lookup x ((if(yq==yq&&env.scope.kind == .function&&env.kindOf x==some .cell)=true then(x,yM) else(x,yq))::_)=_;rw[e];simp[lookup_cons]
  ·have hx':(x==n)=false:=by simpa using hx
   simp only[lookup_cons,hx']at h;have ih:=zgi (env:=env) h
   have step:∀k,(r.map λ(n,k)=>if(k==yq&&env.scope.kind == .function&&env.kindOf n==some .cell) then(n,yM) else(n,k)).lookup x=some k ->
    List.lookup x ((if(k'==yq&&env.scope.kind == .function&&env.kindOf n==some .cell)=true then(n,yM) else(n,k'))::(r.map λ(n,k)=>if(k==yq&&env.scope.kind == .function&&env.kindOf n==some .cell) then(n,yM) else(n,k)))=some k:=λk hk=>by
     by_cases hb:(k'==yq&&env.scope.kind == .function&&env.kindOf n==some .cell)=true
     ·rw[if_pos hb];simpa only[lookup_cons,hx'] using hk
     ·rw[if_neg hb];simpa only[lookup_cons,hx'] using hk
   rcases ih with ih|ih
   ·exact .inl (step _ ih)
   ·exact .inr (step _ ih)
def zJn{b:yg}(I:Inv X U Y H s)(h1:b≠X.env.locals)(h2:b∉X.fs):b∉frs X.stack:=λz=>
 (List.mem_cons.mp (I.sm b z)).elim h1 h2
def σC_get{n:Nat}{i:Nat}{v:V}(h:(σC n fr Y)[i]?=some (some v)):n<=i/\∃j,fr[i-n]?=some j/\Y[j]?=some (some v):=by
 unfold σC at h
 by_cases hi:i<n
 ·rw[yw (by simpa using hi),Yw]at h
  split at h<;>cases h
 ·have hi:n<=i:=Nat.le_of_not_lt hi;rw[yL (by simpa using hi),xQ,yh]at h
  cases e:fr[i-n]? with
  |none=>rw[e]at h;cases h
  |some j=>
   rw[e]at h;refine⟨hi,j,rfl,?_⟩;have h':(Y[j]?).getD none=some v:=yS h
   cases e2:Y[j]? with
   |none=>rw[e2]at h';cases h'
   |some o=>rw[e2]at h';exact congrArg some h'
def zHk:∀(names:List (yF×xa)) (n:Nat) (acc:List (yF×yg)),Yi n names acc=Yi n names []++acc
 |[],n,acc=>rfl
 |(x,k)::r,n,acc=>by
  unfold Yi
  split
  ·rw[zHk r (n+1) ((x,n)::acc),zHk r (n+1) [(x,n)]];simp
  ·exact zHk r n acc
def zCk:∀(names:List (yF×xa)) (n:Nat) (x:yF) (c:yg),(x,c)∈Yi n names []->n<=c/\(x,yM)∈names
 |[],n,x,c,h=>by cases h
 |(y,k)::r,n,x,c,h=>by
  unfold Yi at h
  split at h
  ·rename_i hk
   rw[zHk]at h;rcases List.mem_append.mp h with h|h
   ·obtain⟨h1,h2⟩:=zCk r (n+1) x c h;exact⟨Nat.le_of_succ_le h1,mem_cons_of_mem _ h2⟩
   ·have e:(x,c)=(y,n):=by simpa using h
    cases e;rw[beq_iff_eq.mp hk];exact⟨yj _,mem_cons_self⟩
  ·obtain⟨h1,h2⟩:=zCk r n x c h;exact⟨h1,mem_cons_of_mem _ h2⟩
def zDn{names:List (yF×xa)}{n:Nat}{acc:List (yF×yg)}{x:yF}{c:yg}(h:(Yi n names acc).lookup x=some c):(Yi n names []).lookup x=some c\/((Yi n names []).lookup x=none/\acc.lookup x=some c):=by
 rw[zHk,List.lookup_append]at h
 cases e:(Yi n names []).lookup x with
 |none=>rw[e]at h;exact .inr ⟨rfl,h⟩
 |some d=>rw[e]at h;exact .inl h
def zxv{names:List (yF×xa)}{n:Nat}{x:yF}(hn:∀y∈names,names.lookup y.1=some y.2)(h:(x,yq)∈names):(Yi n names []).lookup x=none:=by
 cases e:(Yi n names []).lookup x with
 |none=>rfl
 |some c=>
  have h1:=hn _ (zCk _ _ _ _ (yV e)).2;have h2:=hn _ h;rw[h1]at h2;cases h2
def z6s{fp:List yg}{D C:yg}{lo:Nat}{h1:Yb}{t:Nat}{mC:yF->Option yb}{oD:xb}(I:Inv X U Y H s)(hf:∀b∈fp,zlp X U H b)(hfl:∀b∈fp,b<s.heap.objs.size)
 (hk:scope.kind=.function) (hnm:∀y∈scope.names,scope.names.lookup y.1=some y.2) (hfree:∀x∈scope.names,x.2=.free->(X.env.kindOf x.1=some .cell\/X.env.kindOf x.1=some .free))
 (hfr:∀i∈fr,∃x,X.N[i]?=some x/\scope.names.lookup x=some .free) (hlo:C<lo) (hOC:CellsOk h1 lo (Yi lo scope.names []))
 (old:∀b o,s.heap.get? b=some o->h1.get? b=some o) (hD:s.heap.objs.size<=D) (hC:s.heap.objs.size<=C) (hDC:D≠C) (hDlo:D<lo) (eD:h1.get? D=some oD) (dD:∀v,oD.data≠.cell v) (nC:h1.Ns C mC) :
 Inv (cxC X own fr scope (Yi lo scope.names (zKb X.env.cells scope.names [])) C s H fp) (U++[(D,oD)]) (σC own.length fr Y) H {s with heap:=h1,toks:=t }:=by
 have cl1:∀x c,(zKb X.env.cells scope.names []).lookup x=some c->X.env.cells.lookup x=some c:=λx c e=>by
  rcases zll _ _ e with q|q
  ·cases q
  ·exact q
 have clH:∀x,(x,yq)∈scope.names->∃c,(Yi lo scope.names (zKb X.env.cells scope.names [])).lookup x=some c/\X.env.cells.lookup x=some c:=λx hx=>by
  obtain⟨c,hc⟩:=I.ok.has x (hfree _ hx rfl);obtain⟨c',hc'⟩:=Option.isSome_iff_exists.mp (zNt hc scope.names [] hx);exact⟨c',by rw[zHk,List.lookup_append,zxv hnm hx];exact hc',cl1 _ _ hc'⟩
 have two:∀x c,(Yi lo scope.names (zKb X.env.cells scope.names [])).lookup x=some c->((Yi lo scope.names []).lookup x=some c/\lo<=c)\/X.env.cells.lookup x=some c:=λx c e=>by
  rcases zDn e with q|⟨_,q⟩
  ·exact .inl ⟨q,(zCk _ _ _ _ (yV q)).1⟩
  ·exact .inr (cl1 _ _ q)
 have oldc:∀x c,X.env.cells.lookup x=some c->c<s.heap.objs.size:=λx c e=>by
  obtain⟨v,o,ho,_⟩:=I.cell x c e;exact ym ho
 have hslo:s.heap.objs.size<=lo:=yA hC (YD hlo)
 refine⟨⟨I.ok.mod,hk,I.ok.glob,I.ok.blt,hC,λx y c e1 e2=>?inj,λx hx=>?_,λx c hx e=>?cab,I.ok.hd,I.ok.frames,.inl rfl,λb hb=>⟨?_,λx c e=>?exf⟩,I.bs,yA I.ok.bsz I.sz,λb o e hb=>?_,λb hb=>?_,I.stack,I.sJ⟩,
  rfl,I.bare,Un.kept old,⟨mC,nC,λi x v h1 h2 h3=>?_⟩,λx c e=>?cell,I.hok.fresh hC,λx c e=>?freeC,λp hp=>?_,I.hok.kept old,?_⟩
 case inj=>
  rcases two x c e1 with ⟨q1,l1⟩|q1
  ·rcases two y c e2 with ⟨q2,_⟩|q2
   ·exact name_of_addr hOC.apart (yV q1) (yV q2)
   ·exact absurd (yC (oldc y c q2) (yA hslo l1)) (Ye _)
  ·rcases two y c e2 with ⟨_,l2⟩|q2
   ·exact absurd (yC (oldc x c q1) (yA hslo l2)) (Ye _)
   ·exact I.ok.inj x y c q1 q2
 case cab=>
  have hx:(scope.names.lookup x==some .cell)=true:=hx;obtain⟨d,hd⟩:=Option.isSome_iff_exists.mp (W.cellsFrom_some scope.names lo [] (.inl (beq_iff_eq.mp hx)));rcases zDn (show(Yi lo scope.names (zKb X.env.cells scope.names [])).lookup x=some c from e) with q|⟨q,_⟩
  ·exact yA hslo (zCk _ _ _ _ (yV q)).1
  ·rw[q]at hd;cases hd
 case exf=>
  rcases two x c e with ⟨_,l⟩|q
  ·exact Yc (yC (hfl b hb) (yA hslo l))
  ·exact(hf b hb).2.2.2.2.1 x c q
 case cell=>
  rcases two x c e with ⟨q,_⟩|q
  ·exact⟨none,(hOC.empty x c (yV q)).1⟩
  ·obtain⟨v,o,ho,hd⟩:=I.cell x c q;exact⟨v,o,old _ _ ho,hd⟩
 case freeC=>
  rcases two x c e with ⟨_,l⟩|q
  ·exact I.hok.fresh (yA hslo l)
  ·exact I.freeC x c q
 ·have hx':(relabel scope X.env).names.lookup x=some .cell\/(relabel scope X.env).names.lookup x=some .free:=hx
  have hm:(x,yq)∈scope.names\/(x,yM)∈scope.names:=by
   rcases hx' with h|h
   ·exact zoe (env:=X.env) h (.inl rfl)
   ·exact zoe (env:=X.env) h (.inr rfl)
  rcases hm with hm|hm
  ·obtain⟨c,e,_⟩:=clH x hm;exact⟨c,e⟩
  ·exact Option.isSome_iff_exists.mp (W.cellsFrom_some scope.names lo _ (.inl (hnm _ hm)))
 ·exact yt (yC (hfl b hb) hC)
 ·rcases(hf b hb).2.2.2.1 with z|z
  ·exact I.ok.sP b o e z
  ·exact absurd (yC (ym e) (yA I.ok.bsz z)) (Ye _)
 ·exact zJn I (hf b hb).2.1 (hf b hb).2.2.1
 ·obtain⟨hi,j,e1,e2⟩:=σC_get h2;have hjm:j∈fr:=mem_of_getElem? e1;obtain⟨y,ey,ly⟩:=hfr j hjm
  have hxy:x=y:=by
   have h1':(own++fr.map λi=>X.N.getD i Str.empty)[i]?=some x:=h1;rw[yL hi,yh,e1]at h1';have h1'':X.N.getD j Str.empty=x:=yS h1';rw[getD_eq_getElem?_getD,ey]at h1'';exact h1''.symm
  subst hxy;have hm:(x,yq)∈scope.names:=yV ly
  have hv:Vis X.env.scope x:=by
   rcases hfree _ hm rfl with q|q
   ·exact .inr (.inl q)
   ·exact .inr (.inr q)
  obtain⟨m,hn,hl⟩:=id I.loc;obtain⟨u,ru,q⟩:=hl j x v ey e2 hv;obtain⟨c,c1,c2⟩:=clH x hm;refine⟨u,ru,.inr ⟨zgi (env:=X.env) ly,c,c1,?_⟩⟩;rcases q with ⟨k,_⟩|⟨k,c',e',z⟩
  ·rcases hfree _ hm rfl with q|q
   ·rw[show X.env.kindOf (x,yq).1=X.env.kindOf x from rfl,k]at q;cases q
   ·rw[show X.env.kindOf (x,yq).1=X.env.kindOf x from rfl,k]at q;cases q
  ·rw[c2]at e';cases e';obtain⟨o,ho,hd⟩:=z;exact⟨o,old _ _ ho,hd⟩
 ·have hp':p∈X.pn++(U++[(D,oD)]):=hp;rw[<-append_assoc]at hp';rcases List.mem_append.mp hp' with hp'|hp'
  ·obtain⟨a1,a2,a3,a4,a5⟩:=I.pin p hp';exact⟨old _ _ a1,a2,yt (yC (ym a1) hC),zJn I a3 a4,a5⟩
  ·have:p=(D,oD):=by simpa using hp'
   subst this;refine⟨eD,I.hok.fresh hD,hDC,λz=>?_,dD⟩;rcases List.mem_cons.mp (I.sm _ z) with z|z
   ·exact absurd (yC I.lt (z▸hD)) (Ye _)
   ·exact I.nofs hD z
 ·show(σC own.length fr Y).length=(own++fr.map λi=>X.N.getD i Str.empty).length;unfold σC;simp
end
def HOk.track{P:yy}{w:yH}{H:Hp}{h:Yb}{a:yg}{o:HO}(x:HOk P w H h)(hn:H a=none)(new:tH P w (upd H a o) h a o):HOk P w (upd H a o) h:=λb u e=>by
 by_cases hb:b=a
 ·subst hb;rw[zx]at e;cases e;exact new
 ·rw[zY hb]at e;exact(x b u e).stay (λc v _ q=>q) (λc q=>by rw[zY (zG q hn)];exact q) λc xs q=>by rw[zY (zG q hn)];exact q
def newEnvC{M:Model}{A:yN}{E:yb->yc->Prop}{s:yc}{scope:xU}{globals:yg}{cl:List (yF×yg)}{qual:yF}{env:Env}{Q:Env->yc->Prop}
 (hQ:Q (newEnv scope s.heap.objs.size globals (Yi (s.heap.objs.size+1) scope.names cl) qual none .none (some env) builtinsNs) {s with heap:=pushCells (s.heap.push {cls:=.type "dict",data:=.dict #[]}) scope.names }) :
 yo M A (newFunctionEnv scope globals cl [] qual none .none (some env)) Q E s:=by
 simp only[newFunctionEnv,Option.isSome_some,if_true];refine ya (wpAny_alloc ?_);refine ya (wpAny_layCells _ (λname kind cells=>by cases hkc:kind==yM<;>simp[hkc]) _ _ _ _ ?_);rw[show({s with heap:=s.heap.push {cls:=.type "dict",data:=.dict #[]}}:yc).heap.objs.size=s.heap.objs.size+1 from Yr ..];refine ya ?_;rw[List.forIn_nil];exact yf (yf hQ)
section
variable {X:Cx}{own:List yF}{fr:List Nat}{scope:xU}
structure sF(X:Cx)(U:List (yg×xb))(Y:L2.St)(H:Hp)(ys:List V)(D C:yg)(s:yc):Prop where
 inv:Inv X U Y (upd H D (.lst ys)) s
 free:H D=none
 freeC:upd H D (.lst ys) C=none
 own:∃m,s.heap.Ns C m
 notL:C≠X.env.locals
 young:X.s₀.heap.objs.size<=C
 so:∀x c,X.env.cells.lookup x=some c->c≠C
 sT:∀p∈X.pn++U,p.1≠C
def zvr{elt tg iter:yD}{ifs:List yD}{pos:xV}{g:TG}{tc:TT}{te:TE}{U:List (yg×xb)}{Y:L2.St}{s2:yc}{Qn:List V->Hp->Prop}{itv:yb}{RR:yb->yg->Result->yc->Prop}(own:List yF)(fr:List Nat)(hc:X.calm=true)
 (hg:∀cl C s₀ H₀ fp,PG (cxC X own fr scope cl C s₀ H₀ fp) tg g) (hq:∀cl C s₀ H₀ fp,PF (cxC X own fr scope cl C s₀ H₀ fp) ifs tc) (he:∀cl C s₀ H₀ fp,PE (cxC X own fr scope cl C s₀ H₀ fp) elt te)
 (hk:scope.kind=.function) (hnm:∀y∈scope.names,scope.names.lookup y.1=some y.2)
 (hfree:∀x∈scope.names,x.2=.free->(X.env.kindOf x.1=some .cell\/X.env.kindOf x.1=some .free)) (hfr:∀i∈fr,∃x,X.N[i]?=some x/\scope.names.lookup x=some .free)
 (h2:PIE X U Y tg (λδ H1=>∃W:Nat->Nat->List V->Hp->Prop,(∃m,W 0 m [] H1)/\∀i m ys H,W i m ys H ->
  (δ.stop i H/\Qn ys H)\/(δ.go i H/\ys.length<yE/\∀x H',δ.yld i H x H'->g x (σC own.length fr Y) H' λY2 H2=>zVu (σC own.length fr Y) Y2/\tc Y2 H2 λb H3=>
   if b=true then te Y2 H3 λy H4=>∃m',m'<m/\W (i+1) m' (ys++[y]) H4 else ∃m',m'<m/\W (i+1) m' ys H3)) itv s2)
 (fin:∀ys H D C s4,Qn ys H->sF X U Y H ys D C s4->RR (.ref D) C (.ok .next) s4) :
 yo (yx X.prog X.w) X.A (newList []) (λacc s₃=>yo (yx X.prog X.w) X.A (newFunctionEnv scope X.env.globals (zKb X.env.cells scope.names []) [] X.env.qual none .none (some X.env)) (λcenv s₄=>
  codeAny (yx X.prog X.w) X.A (.compStart (.ListComp elt [⟨tg,iter,ifs,0⟩] scope pos) 0 itv acc {cenv with scope:=relabel scope X.env }) (RR acc cenv.locals) s₄) X.xe s₃) X.xe s2:=by
 obtain⟨it,fp,tn,δ,H2,e,I2,T,st2,f2,W,⟨m0,w0⟩,turn⟩:=h2;subst e
 have hfl:∀b∈fp,b<s2.heap.objs.size:=λb hb=>by
  obtain⟨o,e,_⟩:=T.obj _ _ st2 b hb;exact ym e
 refine yT (newEnvC ?_);dsimp only;generalize hH2:s2.heap.push {cls:=.type "list",dict:=none,data:=.seq ([]:List yb).toArray } = φ2;have hC:φ2.objs.size=s2.heap.objs.size+1:=by rw[<-hH2,Yr]
 have hDC:s2.heap.objs.size≠φ2.objs.size:=by rw[hC];exact yt (YA _)
 have hCle:s2.heap.objs.size<=φ2.objs.size:=by rw[hC];exact xJ _
 have below:∀b,b<s2.heap.objs.size->b≠φ2.objs.size/\b≠s2.heap.objs.size:=λb hb=>⟨by rw[hC];exact yt (yX hb),yt hb⟩
 have hns₁:(pushCells (φ2.push {cls:=.type "dict",data:=.dict #[]}) scope.names).Ns φ2.objs.size (λ_=>none):=(Heap.Ns.new φ2 (.type "dict")).keeps λb o e=>pushCells_keeps _ _ _ _ e
 have hok₁:CellsOk (pushCells (φ2.push {cls:=.type "dict",data:=.dict #[]}) scope.names) (φ2.objs.size+1) (Yi (φ2.objs.size+1) scope.names []):=by
  have:=cellsFrom_ok scope.names (φ2.push {cls:=.type "dict",data:=.dict #[]}) (φ2.objs.size+1) [] ⟨λ_ _ hm=>(nomatch hm),List.Pairwise.nil⟩ (by rw[Yr];exact yj _);rw[Yr]at this;exact this
 have hk₁:∀b o,φ2.get? b=some o->(pushCells (φ2.push {cls:=.type "dict",data:=.dict #[]}) scope.names).get? b=some o:=λb o e=>pushCells_keeps _ _ _ _ (ye _ e);generalize pushCells (φ2.push {cls:=.type "dict",data:=.dict #[]}) scope.names=h₁ at hns₁ hok₁ hk₁ ⊢;have old:∀b o,s2.heap.get? b=some o->h₁.get? b=some o:=λb o e=>hk₁ b o (hH2▸ye _ e);have hacc:h₁.get? s2.heap.objs.size=some {cls:=.type "list",data:=.seq ([]:List yb).toArray 0 }:=hk₁ _ _ (hH2▸yn _ rfl);generalize hXC:cxC X own fr scope (Yi (φ2.objs.size+1) scope.names (zKb X.env.cells scope.names [])) φ2.objs.size s2 H2 fp=XC;have eenv:compEnvC scope (Yi (φ2.objs.size+1) scope.names (zKb X.env.cells scope.names [])) φ2.objs.size X.env=XC.env:=by rw[<-hXC];rfl
 have eprog:XC.prog=X.prog:=by rw[<-hXC];rfl
 have ew:XC.w=X.w:=by rw[<-hXC];rfl
 have eA:XC.A=X.A:=by rw[<-hXC];rfl
 have eK:XC.K=X.K:=by rw[<-hXC];rfl
 have ecalm:XC.calm=true:=by rw[<-hXC];exact hc
 have exe:XC.xe=λ_ _=>False:=by rw[<-hXC];rfl
 have eloc:XC.env.locals=φ2.objs.size:=by rw[<-hXC];rfl
 have eex:XC.ex=fp:=by rw[<-hXC];rfl
 have efs:XC.fs=frs X.stack:=by rw[<-hXC];rfl
 have es0:XC.s₀=s2:=by rw[<-hXC];rfl
 have eH0:XC.H₀=H2:=by rw[<-hXC];rfl
 have epn:XC.pn=X.pn:=by rw[<-hXC];rfl
 have ecells:∀x c,XC.env.cells.lookup x=some c->X.env.cells.lookup x=some c\/φ2.objs.size<c:=λx c e=>by
  rw[<-hXC]at e;rcases zDn (show(Yi (φ2.objs.size+1) scope.names (zKb X.env.cells scope.names [])).lookup x=some c from e) with q|⟨_,q⟩
  ·exact .inr (zCk _ _ _ _ (yV q)).1
  ·rcases zll _ _ q with q|q
   ·cases q
   ·exact .inl q
 have hg':PG XC tg g:=hXC▸hg _ _ _ _ _;have hq':PF XC ifs tc:=hXC▸hq _ _ _ _ _;have he':PE XC elt te:=hXC▸he _ _ _ _ _
 have fpok:∀{H':Hp} {pl:List (yg×xb)},(∀b∈fp,H' b=none)->(∀p∈pl,p.1=s2.heap.objs.size)->∀b∈fp,zlp XC (U++pl) H' b:=λ{H' pl} hn hpl b hb=>by
  obtain⟨_,f2,f3,f4,f5,f6⟩:=f2 b hb;refine⟨hn b hb,by rw[eloc];exact(below b (hfl b hb)).1,by rw[efs];exact zJn I2 f2 f3,.inl (by rw[eex];exact hb),λx c e=>?c5,λp hp=>?_⟩
  case c5=>
   rcases ecells x c e with q|q
   ·exact f5 x c q
   ·exact Yc (yC (hfl b hb) (yA hCle (YD q)))
  rw[epn,<-append_assoc]at hp;rcases List.mem_append.mp hp with hp|hp
  ·exact f6 p hp
  ·rw[hpl p hp];exact Yv (below b (hfl b hb)).2
 have loop:∀s₃:yc,s₃ = {s2 with heap:=h₁ } ->
  codeAny (yx X.prog X.w) X.A (.compLoop (.ListComp elt [⟨tg,iter,ifs,0⟩] scope pos) 0 (.ref it) (.ref s2.heap.objs.size) (compEnvC scope (Yi (φ2.objs.size+1) scope.names (zKb X.env.cells scope.names [])) φ2.objs.size X.env))
   (RR (.ref s2.heap.objs.size) φ2.objs.size) s₃:=by
  rintro s₃ rfl;have I0:=z6s (own:=own) (fr:=fr) (t:=s2.toks) (lo:=φ2.objs.size+1) I2 f2 hfl hk hnm hfree hfr (YA _) hok₁ old (yj _) hCle hDC (Nat.lt_succ_of_le hCle) hacc (by intro v z;cases z) hns₁;rw[hXC]at I0
  refine zEm (λn s'=>∃(i:Nat)(ys:List V)(its:Array yb)(k:Nat)(H':Hp),Inv XC (U++[(s2.heap.objs.size,({cls:=.type "list",data:=.seq its k }:xb))]) (σC own.length fr Y) H' s'/\Vals ys its.toList/\ys.length<=yE/\tn i s'.heap/\(∀b∈fp,H' b=none)/\W i n ys H') ?_ m0
   ⟨0,[],#[],0,H2,I0,.nil,yR _,T.keep _ _ _ st2 (λb hb o e=>old b o e),λb hb=>(f2 b hb).1,w0⟩
  rintro n s3 ⟨i,ys,its,kk,H3,I3,rv,hz,st3,fr3,w3⟩
  have pl1:∀p∈[(s2.heap.objs.size,({cls:=.type "list",data:=.seq its kk }:xb))],p.1=s2.heap.objs.size:=λp hp=>by
   rw[List.mem_singleton.mp hp]
  rcases turn i n ys H3 w3 with ⟨stop,qn⟩|⟨go,hlt,step⟩
  ·have td:=T.done XC eprog ew eK ecalm i _ s3 _ H3 (λ_ _=>False) I3 (fpok fr3 pl1) st3 stop;rw[eA]at td;refine thn td λr s4 ⟨hr,I4⟩=>?_;subst hr;obtain⟨m,hn,_⟩:=id I4.loc;rw[eloc]at hn;obtain⟨p1,p2,p3,p4,p5⟩:=I4.pin (s2.heap.objs.size,_) (mem_append_right _ (mem_append_right _ mem_cons_self));have hnC:H3 φ2.objs.size=none:=by have:=I4.free;rw[eloc]at this;exact this
   have hokf:HOk X.prog X.w (upd H3 s2.heap.objs.size (.lst ys)) s4.heap:=by
    refine HOk.track (by have:=I4.hok;rw[eprog,ew]at this;exact this) p2 ⟨hz,its.toList,kk,rv,by simpa using p1⟩
   have u0:Un (frs X.stack) fp H2 H3 s2.heap s4.heap:=by
    have:=I4.base;rw[efs,eex,es0,eH0]at this;exact this
   have u1:Un (frs X.stack) fp H2 (upd H3 s2.heap.objs.size (.lst ys)) s2.heap s4.heap:=by
    have bd:∀b o,s2.heap.get? b=some o->b≠s2.heap.objs.size:=λb o e=>(below b (ym e)).2;refine⟨u0.keep,u0.slot,λb o e n hx=>by rw[zY (bd b o e)];exact u0.free b o e n hx,u0.there,λb xs e=>?_,λb o u e=>?_,λb ps e=>?_⟩
    ·have q:=u0.tups b xs e;rw[zY (zG q p2)];exact q
    ·have q:=u0.sd b o u e;rw[zY (zG q p2)];exact q
    ·obtain⟨more,q⟩:=u0.sk b ps e;exact⟨more,by rw[zY (zG q p2)];exact q⟩
   have os4:s4.os=s2.os:=by have:=I4.os;rw[es0]at this;exact this
   have IF:Inv X U Y (upd H3 s2.heap.objs.size (.lst ys)) {s2 with heap:=s4.heap,gens:=s4.gens,drawn:=s4.drawn,toks:=s4.toks } :=
    I2.call (h':=s4.heap) (ch:=fp) u1 hokf I4.bare λb hb=>by
     obtain⟨_,f2,f3,f4,f5,f6⟩:=f2 b hb;exact⟨f4,f2,f5,f6⟩
   have es:s4 = {s2 with heap:=s4.heap,gens:=s4.gens,drawn:=s4.drawn,toks:=s4.toks }:=by
    obtain⟨a1,a2,a3,a4,a5⟩:=s4;have:a5=s2.os:=os4;subst this;rfl
   rw[<-es]at IF;refine fin ys H3 _ _ s4 qn ⟨IF,p2,by rw[zY (Yv hDC)];exact hnC,⟨m,hn⟩,Yv (below _ I2.lt).1,yA I2.sz hCle,λx c e=>?_,λp hp=>?_⟩
   ·obtain⟨v,o,ho,_⟩:=I2.cell x c e;exact(below c (ym ho)).1
   ·exact(below p.1 (ym (I2.pin p hp).1)).1
  ·have td:=T.item XC eprog ew eK ecalm i _ s3 _ H3 (λ_ _=>False) I3 (fpok fr3 pl1) st3 go;rw[eA]at td;refine thn td λr s4 ⟨u,hr,h4⟩=>?_;subst hr;refine thn h4 λ_ s5 ⟨x,H5,I5,r5,y5,st5,fr5⟩=>?_;have I5':=I5.pinned (fpok fr5 pl1) (T.obj _ _ st5);have hgw:=hg' _ s5 _ H5 x u _ I5' r5 (step x H5 y5);rw[exe,eprog,ew,eA]at hgw;rw[eenv];refine thn hgw λ_ s6 ⟨Y6,H6,I6,⟨hsl,hsub⟩,q6⟩=>?_;have hqw:=hq' _ s6 Y6 H6 _ I6 q6;rw[exe,eprog,ew,eA]at hqw;refine thn hqw λok s7 ⟨H7,I7,q7⟩=>?_
   have back:∀{H8:Hp} {s8:yc},Inv XC (U++[(s2.heap.objs.size,({cls:=.type "list",data:=.seq its kk }:xb))]++zWm fp s5.heap) Y6 H8 s8 ->
    Inv XC (U++[(s2.heap.objs.size,({cls:=.type "list",data:=.seq its kk }:xb))]) (σC own.length fr Y) H8 s8/\tn (i+1) s8.heap/\∀b∈fp,H8 b=none:=λ{H8 s8} I8=>by
    refine⟨I8.Tr.weak hsl.symm hsub,T.keep _ _ _ st5 λb hb o e=>(I8.pin (b,o) (mem_append_right _ (mem_append_right _ (z7f hb e)))).1,λb hb=>?_⟩;obtain⟨o,e,d⟩:=T.obj _ _ st5 b hb;exact(I8.pin (b,o) (mem_append_right _ (mem_append_right _ (z7f hb e)))).2.1
   cases ok with
   |false=>
    have q7':∃m',m'<n/\W (i+1) m' ys H7:=by simpa using q7
    rw[if_neg yv];obtain⟨m',hm,w7⟩:=q7';obtain⟨δ1,δ2,δ3⟩:=back I7;exact⟨m',hm,i+1,ys,its,kk,H7,δ1,rv,hz,δ2,δ3,w7⟩
   |true=>
    rw[if_pos rfl]at q7 ⊢;have hew:=he' _ s7 Y6 H7 _ I7 q7;rw[exe,eprog,ew,eA]at hew;refine thn hew λy s8 ⟨vy,H8,I8,r8,m',hm,w8⟩=>?_;obtain⟨δ1,δ2,δ3⟩:=back I8;obtain⟨p1,p2,p3,p4,p5⟩:=δ1.pin (s2.heap.objs.size,_) (mem_append_right _ (mem_append_right _ mem_cons_self));have hil:its.size=ys.length:=by rw[rv.length];simp
    refine append_at (hsz:=by rw[hil];exact hz) p1 λh9 sb9 e9=>?_;have Df:s2.heap.objs.size∉fp:=λz=>absurd (hfl _ z) (Ye _);have δ0:Inv XC U (σC own.length fr Y) H8 s8:=δ1.Tr
    have δ9:Inv XC U (σC own.length fr Y) H8 {s8 with heap:=h9 }:=by
     refine δ0.turned (t':=s8.toks) (it:=s2.heap.objs.size) (λb o hb e=>(sb9.2 b hb).trans e) p2 p3 (.inr (by rw[es0];exact yj _)) (λx c e z=>?_) (λp hp z=>?_)
     ·rcases ecells x c e with q|q
      ·obtain⟨v,o,ho,_⟩:=I2.cell x c q;exact(below c (ym ho)).2 z
      ·exact Yc (Nat.lt_of_le_of_lt hCle q) z
     ·rw[epn]at hp;exact(below p.1 (ym (I2.pin p hp).1)).2 z
    refine⟨m',hm,i+1,ys++[vy],its.push y,kk+1,H8,δ9.sn λp hp=>?_,?_,by simp;exact hlt,T.keep _ _ _ δ2 (λb hb o e=>(sb9.2 b (λz=>Df (z▸hb))).trans e),δ3,w8⟩
    ·rcases List.mem_append.mp hp with hp|hp
     ·exact δ9.pin p (mem_append_right _ hp)
     ·have e:=List.mem_singleton.mp hp;subst e;exact⟨e9,p2,p3,p4,by intro v z;cases z⟩
    ·rw[Array.toList_push];exact rv.append (.cons r8 .nil)
 exact codeAny_compStart_list (loop _ rfl) (T.self X.A 0 _ _ _ (T.keep _ _ _ st2 λb hb o e=>old b o e) (loop _ rfl))
def sF.gone{U:List (yg×xb)}{Y:L2.St}{H:Hp}{ys:List V}{D C:yg}{s:yc}(w:sF X U Y H ys D C s){h':Yb}(sb:Yj C s.heap h'):Inv X U Y (upd H D (.lst ys)) {s with heap:=h' } :=
 w.inv.turned (t':=s.toks) (λb o hb e=>(sb.2 b hb).trans e) w.freeC (Yv (Yv w.notL)) (.inr w.young) w.so w.sT
def zBx{elt tg iter:yD}{ifs:List yD}{pos:xV}{wi:TI}{g:TG}{tc:TT}{te:TE}(own:List yF)(fr:List Nat)(hc:X.calm=true)(hi:PI X tg iter wi)
 (hg:∀cl C s₀ H₀ fp,PG (cxC X own fr scope cl C s₀ H₀ fp) tg g) (hq:∀cl C s₀ H₀ fp,PF (cxC X own fr scope cl C s₀ H₀ fp) ifs tc) (he:∀cl C s₀ H₀ fp,PE (cxC X own fr scope cl C s₀ H₀ fp) elt te)
 (hk:scope.kind=.function) (hnm:∀y∈scope.names,scope.names.lookup y.1=some y.2)
 (hfree:∀x∈scope.names,x.2=.free->(X.env.kindOf x.1=some .cell\/X.env.kindOf x.1=some .free)) (hfr:∀i∈fr,∃x,X.N[i]?=some x/\scope.names.lookup x=some .free)
 (hs:∀x,YK iter X.env x=pure x:=by intro _;rfl):PE X (.ListComp elt [⟨tg,iter,ifs,0⟩] scope pos) (tLC own.length fr wi g tc te):=by
 intro U s Y H Q I h;rw[eval_ListComp];have hclos:closureFor scope X.env=pure (zKb X.env.cells scope.names []):=zcl λx hx e=>I.ok.has x.1 (hfree x hx e);refine wpAny_comprehension_free (use:=none) rfl hs hclos hk (λx hx e=>by rw[hnm x hx,e]) ?_;show yo _ _ (Yt iter X.env) _ _ s;refine thn (hi U s Y H _ I h) λv s1 h1=>thn h1 λitv s2 h2=>?_;refine zvr (RR:=λacc C=>compPost (yx X.prog X.w) X.A X.xe none (EP X U Y Q) acc C) own fr hc hg hq he hk hnm hfree hfr h2 λys H3 D C s4 q w=>?_;obtain⟨m,hn⟩:=w.own;exact⟨m,hn,λh' sb=>⟨.ref D,_,w.gone sb,rfl,q D w.free⟩⟩
def zft{elt tg iter:yD}{ifs:List yD}{pos spos py:xV}{wi:TI}{g:TG}{tc:TT}{te:TE}{y:yF}{i:Nat}(own:List yF)(fr:List Nat)(hN:X.N.Nodup)(hiN:X.N[i]?=some y)(hy:X.env.scope.names.lookup y=some .local)(hc:X.calm=true)(hi:PI X tg iter wi)
 (hsw:swapsWith (.ListComp elt [⟨tg,iter,ifs,0⟩] scope pos) (some (.Name y py)) spos.line X.env=pure true)
 (hg:∀cl C s₀ H₀ fp,PG (cxC X own fr scope cl C s₀ H₀ fp) tg g) (hq:∀cl C s₀ H₀ fp,PF (cxC X own fr scope cl C s₀ H₀ fp) ifs tc) (he:∀cl C s₀ H₀ fp,PE (cxC X own fr scope cl C s₀ H₀ fp) elt te)
 (hk:scope.kind=.function) (hnm:∀y∈scope.names,scope.names.lookup y.1=some y.2)
 (hfree:∀x∈scope.names,x.2=.free->(X.env.kindOf x.1=some .cell\/X.env.kindOf x.1=some .free)) (hfr:∀i∈fr,∃x,X.N[i]?=some x/\scope.names.lookup x=some .free)
 (hs:∀x,YK iter X.env x=pure x:=by intro _;rfl):PS X (.Assign [.Name y py] (.ListComp elt [⟨tg,iter,ifs,0⟩] scope pos) spos) (zHx (tLC own.length fr wi g tc te) (zRu i)):=by
 intro U s Y H E I h;rw[exec_Assign_Name_used _ _ _ _ hsw];refine ya (wpAny_standAt (ya ?_));have hclos:closureFor scope X.env=pure (zKb X.env.cells scope.names []):=zcl λx hx e=>I.ok.has x.1 (hfree x hx e);show yo _ X.A (do let _ <-comprehension (.ListComp elt [⟨tg,iter,ifs,0⟩] scope pos) scope X.env _ (newList []) false (Yt iter X.env) (some (assign (.Name y py) X.env))) _ _ s;refine ya (YU (wpAny_comprehension_free (use:=some (assign (.Name y py) X.env)) (Q:=λ_ s'=>SP X U E .next s') rfl hs hclos hk (λx hx e=>by rw[hnm x hx,e]) ?_) (λ_ s' hq=>yf (yf hq)) λ_ _ e=>e);show yo _ _ (Yt iter X.env) _ _ s;refine thn (hi U s Y H _ I h) λv s1 h1=>thn h1 λitv s2 h2=>?_;refine zvr (RR:=λacc C=>compPost (yx X.prog X.w) X.A X.xe (some (assign (.Name y py) X.env)) (λ_ s'=>SP X U E .next s') acc C) own fr hc hg hq he hk hnm hfree hfr h2 λys H3 D C s4 q w=>?_;show yo _ X.A (assign (.Name y py) X.env (.ref D)) _ _ s4;obtain⟨m,hn⟩:=w.own;refine wpAny_assign_Name (zLm (v:=V.ref D) w.inv hN hiN (.inl hy) rfl (λs5 I5 ⟨a,sb,ha⟩=>?_) (.inr hy))
 have haC:C≠a:=by
  rcases ha with e|e
  ·rw[e];exact w.notL
  ·exact Yv (w.so y a e)
 refine⟨m,hn.sameBut sb haC,λh' sb'=>?_⟩;refine⟨_,_,I5.turned (t':=s5.toks) (λb o hb e=>(sb'.2 b hb).trans e) w.freeC w.notL (.inr w.young) w.so w.sT,q D w.free⟩
variable {K:yz}{Z Z1:List yg}{H H1:Hp}
def sh.ext{W:XK}{E:Ends}{o:Out}(h:sh K W Z H E o)(x:Ext Z H Z1 H1):sh K W Z1 H1 E o:=by
 cases o with
 |next J μ=>exact λZ' Y' H' x' A=>h Z' Y' H' (x.trans x') A
 |brk J μ=>exact λZ' Y' H' x' A=>h Z' Y' H' (x.trans x') A
 |cont J μ=>exact λZ' Y' H' x' A=>h Z' Y' H' (x.trans x') A
 |ret d μ=>exact λZ' v H' x' R r=>h Z' v H' (x.trans x') R r
 |exc c fs μ=>exact λZ' H' C dx hc x' R r=>h Z' H' C dx hc (x.trans x') R r
def At.set{Y:L2.St}{J:Loc}{μ:Mem}{d:D}{v:V}(A:At K Z H Y J μ)(r:tu K Z H d v)(i:Nat):At K Z H (Y.set i (some v)) (J.set i (some d)) μ:=by
 refine⟨λj d' e=>?_,A.hp,by simp[A.len]⟩
 by_cases hj:j=i
 ·subst hj
  have hl:j<J.length:=by
   have:=(List.getElem?_eq_some_iff.mp e).1;simpa using this
  rw[Yz hl]at e;cases e;exact⟨v,by rw[Yz (by rw[A.len];exact hl)],r⟩
 ·rw[Yk (Yv hj)]at e;obtain⟨u,e1,q⟩:=A.st j d' e;exact⟨u,by rw[Yk (Yv hj)];exact e1,q⟩
variable {a b c e:yD}{es:List yD}{G ψ χ:FE}{pos:xV}{st:Yg}{rest:List Yg}
@[simp] def zsc:FS:=λJ μ=>some (.next J μ)
@[simp] def z9(p q:FS):FS:=λJ μ=>match p J μ with
 |some (.next J' μ')=>q J' μ'
 |o=>o
def z6:MSs X [] zsc:=z5t zFu λZ J μ Y H o E A e k=>by
 cases e;exact k Z Y H Ext.refl A
def zj{p:FS}(h:MS X st p):MSs X [st] p:=zyu h
def zg{p q:FS}(h1:MS X st p)(h2:MSs X rest q):MSs X (st::rest) (z9 p q) :=
 z5t (z2s h1 h2) λZ J μ Y H o E A e k=>by
  unfold z9 at e;show tMS X.K (zEp X) p {E with nx:=tMS X.K (zEp X) q E } Y H
  cases ep:p J μ with
  |none=>rw[ep]at e;cases e
  |some op=>
   rw[ep]at e;refine⟨Z,J,μ,op,A,ep,?_⟩
   cases op with
   |next J' μ'=>exact λZ' Y' H' x' A'=>⟨Z',J',μ',o,A',e,k.ext x'⟩
   |brk J' μ'=>cases e;exact k
   |cont J' μ'=>cases e;exact k
   |ret d μ'=>cases e;exact k
   |exc C fs μ'=>cases e;exact k
@[simp] def zec(G:FE):FS:=λJ μ=>(G J μ).bind λp=>some (.ret p.1 p.2)
def zA(h:ME X e G):MS X (.Return (some e) pos) (zec G):=zjk (zbw h) λZ J μ Y H o E A e k=>by
 obtain⟨⟨x,μ1⟩,e1,e⟩:=zf e;cases e;exact⟨Z,J,μ,x,μ1,A,e1,λZ' H' v x' R r=>k Z' v H' x' R r⟩
@[simp] def z4j(G:FE):FS:=λJ μ=>(G J μ).bind λp=>some (.next J p.2)
def zUf(h:ME X e G)(hs:swapsWith e none pos.line X.env=pure false:=by rfl):MS X (.Expr e pos) (z4j G):=zjk (zCu h hs) λZ J μ Y H o E A e k=>by
 obtain⟨⟨x,μ1⟩,e1,e⟩:=zf e;cases e;exact⟨Z,J,μ,x,μ1,A,e1,λZ' H' v x' R r=>k Z' Y H' x' (A.ext x' R)⟩
@[simp] def zgc(i:Nat)(G:FE):FS:=λJ μ=>(G J μ).bind λp=>some (.next (J.set i (some p.1)) p.2)
def zK{x:yF}{pos':xV}(i:Nat)(he:ME X e G)(hN:X.N.Nodup:=by first|assumption|decide)(hi:X.N[i]?=some x:=by rfl)(hx:L2.Loc X.env.scope x:=by first|exact Or.inl rfl|exact Or.inr rfl)(hs:swapsWith e (some (.Name x pos')) pos.line X.env=pure false:=by rfl)
 (hf:X.fn x=true\/X.env.scope.names.lookup x=some .local:=by first|exact .inl rfl|exact .inr rfl|assumption):MS X (.Assign [.Name x pos'] e pos) (zgc i G):=zjk (zzw hN hi hx he hs hf) λZ J μ Y H o E A e k=>by
 obtain⟨⟨x,μ1⟩,e1,e⟩:=zf e;cases e;exact⟨Z,J,μ,x,μ1,A,e1,λZ' H' v x' R r=>k Z' _ H' x' ((A.ext x' R).set r i)⟩
@[simp] def sIf(c:FT)(p q:FS):FS:=λJ μ=>(c J μ).bind λt=>bif t.1 then p J t.2 else q J t.2
def zEc{s1 s2:List Yg}{t:FT}{p q:FS}(hc:MT X c t)(h1:MSs X s1 p)(h2:MSs X s2 q):MS X (.If c s1 s2 pos) (sIf t p q):=zjk (zkx hc h1 h2) λZ J μ Y H o E A e k=>by
 obtain⟨⟨x,μ1⟩,e1,e⟩:=zf e;refine⟨Z,J,μ,x,μ1,A,e1,λZ' H' x' R=>?_⟩
 cases x with
 |true=>exact sE ⟨Z',J,μ1,o,A.ext x' R,e,k.ext x'⟩
 |false=>exact sD ⟨Z',J,μ1,o,A.ext x' R,e,k.ext x'⟩
def zEq:FS:=λ_ _=>none
def zhp:MS X st zEq:=zjk zjt λ_ _ _ _ _ _ _ _ e _=>by cases e
abbrev FG:=D->Loc->Mem->Option (Loc×Mem)
abbrev FGs:=List D->Loc->Mem->Option (Loc×Mem)
def tMG(K:yz)(g:FG):TG:=λv Y H Q=>∃Z J μ d J' μ',At K Z H Y J μ/\tu K Z H d v/\g d J μ=some (J',μ')/\∀Z' Y' H',Ext Z H Z' H'->At K Z' H' Y' J' μ'->Q Y' H'
def zFy(K:yz)(g:FGs):TGs:=λvs Y H Q=>∃Z J μ ds J' μ',At K Z H Y J μ/\tf K Z H ds vs/\g ds J μ=some (J',μ')/\∀Z' Y' H',Ext Z H Z' H'->At K Z' H' Y' J' μ'->Q Y' H'
def MG(X:Cx)(t:yD)(g:FG):Prop:=PG X t (tMG X.K g)
def MGs(X:Cx)(t:List yD)(g:FGs):Prop:=PGs X t (zFy X.K g)
def mg_of{t:yD}{tt:TG}{g:FG}(h:PG X t tt)(w:∀Z J μ d J' μ' v Y H Q,At X.K Z H Y J μ->tu X.K Z H d v->g d J μ=some (J',μ')->(∀Z' Y' H',Ext Z H Z' H'->At X.K Z' H' Y' J' μ'->Q Y' H')->tt v Y H Q):MG X t g :=
 by intro U s Y H v u Q I r hh;obtain⟨Z,J,μ,d,J',μ',A,q,e,k⟩:=hh;exact h U s Y H v u Q I r (w Z J μ d J' μ' v Y H Q A q e k)
def zKt{t:List yD}{tt:TGs}{g:FGs}(h:PGs X t tt)(w:∀Z J μ d J' μ' v Y H Q,At X.K Z H Y J μ->tf X.K Z H d v->g d J μ=some (J',μ')->(∀Z' Y' H',Ext Z H Z' H'->At X.K Z' H' Y' J' μ'->Q Y' H')->tt v Y H Q):MGs X t g :=
 by intro U s Y H v u Q I r hh;obtain⟨Z,J,μ,d,J',μ',A,q,e,k⟩:=hh;exact h U s Y H v u Q I r (w Z J μ d J' μ' v Y H Q A q e k)
@[simp] def gN(i:Nat):FG:=λd J μ=>some (J.set i (some d),μ)
def zhb{x:yF}(i:Nat)(hN:X.N.Nodup:=by first|assumption|decide)(hi:X.N[i]?=some x:=by rfl)(hx:L2.Loc X.env.scope x:=by first|exact Or.inl rfl|exact Or.inr rfl)(hf:X.fn x=true\/X.env.scope.names.lookup x=some .local:=by first|exact .inl rfl|exact .inr rfl|assumption):MG X (.Name x pos) (gN i) :=
 mg_of (zQr hN hi hx hf) λZ J μ d J' μ' v Y H Q A q e k=>by
  cases e;exact k Z _ H Ext.refl (A.set q i)
@[simp] def zUe:FGs:=λds J μ=>match ds with
 |[]=>some (J,μ)
 |_=>none
@[simp] def zbb(g:FG)(gs:FGs):FGs:=λds J μ=>match ds with
 |d::r=>(g d J μ).bind λp=>gs r p.1 p.2
 |_=>none
def zai:MGs X [] zUe:=zKt z4q λZ J μ ds J' μ' vs Y H Q A q e k=>by
 unfold zUe at e
 split at e
 ·cases e;exact⟨q.nil_inv,k Z Y H Ext.refl A⟩
 ·cases e
def zTb{g:FG}{gs:FGs}(h1:MG X e g)(h2:MGs X es gs)(hs:(Ym (e::es) X.env).map (·.2)=assign e X.env::(Ym es X.env).map (·.2):=by rfl):MGs X (e::es) (zbb g gs) :=
 zKt (zAo h1 h2 hs) λZ J μ ds J' μ' vs Y H Q A q e k=>by
  unfold zbb at e
  split at e
  ·obtain⟨⟨J1,μ1⟩,e1,e⟩:=zf e;obtain⟨v,r,rfl,q1,q2⟩:=q.cons_inv;refine⟨v,r,rfl,Z,J,μ,_,J1,μ1,A,q1,e1,λZ1 Y1 H1 x1 A1=>?_⟩;exact⟨Z1,J1,μ1,_,J',μ',A1,q2.ext x1,e,λZ2 Y2 H2 x2 A2=>k Z2 Y2 H2 (x1.trans x2) A2⟩
  ·cases e
@[simp] def gT(n:Nat)(gs:FGs):FG:=λd J μ=>match d with
 |.tup ds=>bif ds.length==n then gs ds J μ else none
 |_=>none
def zun{k n:Nat}{gs:FGs}(h:MGs X es gs)(hc:X.calm=true:=by rfl)(hn:(Ym es X.env).length=n:=by rfl)(hst:(Ym es X.env).findIdx? (·.1)=none:=by rfl):MG X (.Tuple es k pos) (gT n gs) :=
 mg_of (zGt hc h hn hst) λZ J μ d J' μ' v Y H Q A q e k=>by
  unfold gT at e
  split at e
  ·obtain⟨h1,e⟩:=zI e;obtain⟨a,vs,rfl,e2,q2⟩:=q.tR;exact⟨a,vs,rfl,SqT.of e2,by rw[<-q2.length];exact beq_iff_eq.mp h1,Z,J,μ,_,J',μ',A,q2,e,k⟩
  ·cases e
@[simp] def gAt(G ψ:FE):FG:=λd J μ=>(G J μ).bind λp=>(ψ J p.2).bind λq=>match p.1,q.1 with
 |.loc n,.int i=>match q.2[n]? with
  |some (.lst ds)=>(ixN ds.length i).bind λj=>some (J,q.2.set n (.lst (ds.set j d)))
  |_=>none
 |_,_=>none
def zJs{o i:yD}(ho:ME X o G)(hi:ME X i ψ)(ha:∀v,assign (.Subscript o i pos) X.env v=(do
 let ov <-holding [v] (Yt o X.env)
 let iv <-holding [v,ov] (Yt i X.env)
 standAt pos
 holding [v,ov,iv] (setItem ov iv v)
 release [v,ov,iv] []):=by intro _;rfl):MG X (.Subscript o i pos) (gAt G ψ) :=
 mg_of (zPt ho hi zCt ha) λZ J μ d J' μ' v Y H Q A q e k=>by
  obtain⟨⟨x,μ1⟩,e1,e⟩:=zf e;obtain⟨⟨y,μ2⟩,e2,e⟩:=zf e;refine⟨Z,J,μ,x,μ1,A,e1,λZ1 H1 v1 x1 R1 r1=>?_⟩;refine⟨Z1,J,μ1,y,μ2,A.ext x1 R1,e2,λZ2 H2 v2 x2 R2 r2=>?_⟩;dsimp only at e
  split at e
  ·split at e
   ·rename_i hm
    obtain⟨j,e3,e⟩:=zf e;cases e;obtain⟨ad,rfl,hr⟩:=(r1.ext x2).tz;obtain⟨vs,hv,q3⟩:=R2.at_ _ _ _ hr hm;have hmu:Mut (H2 ad):=by rw[hv];trivial
    refine⟨ad,vs,_,j,rfl,r2.int_inv,hv,by rw[<-q3.length];exact e3,?_⟩;have xx:=x1.trans x2;have R3:=R2.wr (o:=.lst (vs.set j v)) (lo:=.lst _) hmu hr ⟨_,zx,tf.ext (Ext.wr hmu) (q3.set j (q.ext xx))⟩;exact k Z2 Y _ (xx.trans (Ext.wr hmu)) (A.ext (xx.trans (Ext.wr hmu)) R3)
   ·cases e
  ·cases e
@[simp] def zXp(G:FE)(g:FG):FS:=λJ μ=>(G J μ).bind λp=>(g p.1 J p.2).bind λq=>some (.next q.1 q.2)
def zJh{tg:yD}{g:FG}(he:ME X e G)(hg:MG X tg g)(hs:swapsWithSole [tg] e pos.line X.env=pure false:=by rfl)(hw:swappedStores [tg] e X.env=pure none:=by rfl)
 (h1:(Ym [tg] X.env).map (·.2)=[assign tg X.env]:=by rfl):MS X (.Assign [tg] e pos) (zXp G g):=zjk (zOw he hg hs hw h1) λZ J μ Y H o E A e k=>by
 obtain⟨⟨x,μ1⟩,e1,e⟩:=zf e;obtain⟨⟨J1,μ2⟩,e2,e⟩:=zf e;cases e;refine⟨Z,J,μ,x,μ1,A,e1,λZ1 H1 v1 x1 R1 r1=>?_⟩;exact⟨Z1,J,μ1,x,J1,μ2,A.ext x1 R1,r1,e2,λZ2 Y2 H2 x2 A2=>k Z2 Y2 H2 (x1.trans x2) A2⟩
abbrev FI:=Loc->Mem->Option (List D×(Mem->Bool)×Mem)
structure sG(K:yz)(δ:It)(Z:List yg)(H:Hp)(ds:List D)(ok:Mem->Bool):Prop where
 go:∀Z' H' μ' (i:Nat),Ext Z H Z' H'->tF K Z' H' μ'->ok μ'=true->i<ds.length->δ.go i H'
 yld:∀Z' H' μ' (i:Nat) x H'' d,Ext Z H Z' H'->tF K Z' H' μ'->ok μ'=true->ds[i]?=some d->δ.yld i H' x H''->Ext Z' H' Z' H''/\tF K Z' H'' μ'/\tu K Z' H'' d x
 stop:∀Z' H' μ',Ext Z H Z' H'->tF K Z' H' μ'->ok μ'=true->δ.stop ds.length H'
def tMI(K:yz)(G:FI):TI:=λY H R=>∃Z J μ ds ok μ',At K Z H Y J μ/\G J μ=some (ds,ok,μ')/\∀Z' H' δ,Ext Z H Z' H'->tF K Z' H' μ'->sG K δ Z' H' ds ok->R δ H'
def MI(X:Cx)(tg iter:yD)(G:FI):Prop:=PI X tg iter (tMI X.K G)
def z1q{tg it:yD}{t:TI}{G:FI}(h:PI X tg it t)(w:∀Z J μ Y H ds ok μ' R,At X.K Z H Y J μ->G J μ=some (ds,ok,μ')->(∀Z' H' δ,Ext Z H Z' H'->tF X.K Z' H' μ'->sG X.K δ Z' H' ds ok->R δ H')->t Y H R):MI X tg it G :=
 by intro U s Y H R I hh;obtain⟨Z,J,μ,ds,ok,μ',A,e,k⟩:=hh;exact h U s Y H R I (w Z J μ Y H ds ok μ' R A e k)
@[simp] def yes:Mem->Bool:=λ_=>true
@[simp] def zGd(G:FA):FI:=λJ μ=>(G J μ).bind λp=>match p.1 with
 |[.int j]=>bif decide (-(2^62)<=j/\j<2^62) then some ((yi j.toNat).map λ(k:Nat) =>.int k,yes,p.2) else none
 |_=>none
def zqd{tg:yD}{p:xV}{G:FA}(hm:X.mg "range"=none)(ha:MAn X [a] G)(hg:Gl X "range":=by rfl)(hs:yr [a] X.env=[(false,Yt a X.env)]:=by rfl):MI X tg (.Call (.Name "range" p) [a] [] pos) (zGd G) :=
 z1q (zjr hg hm ha.ma hs) λZ J μ Y H ds ok μ' R A e k=>by
  obtain⟨⟨x,μ1⟩,e1,e⟩:=zf e;refine⟨Z,J,μ,x,μ1,A,e1,λZ1 H1 v1 x1 R1 r1=>?_⟩;dsimp only at e
  split at e
  ·rename_i j
   obtain⟨h1,e⟩:=zI e;have h2:=of_decide_eq_true h1;cases e;obtain⟨w,r,rfl,q1,q2⟩:=r1.cons_inv;refine⟨j,by rw[q1.int_inv,q2.nil_inv],h2.1,h2.2,k Z1 H1 _ x1 R1 ⟨λZ' H' μ' i _ _ _ h=>by rw[length_map,length_range]at h;exact h,λZ' H' μ' i x H'' d _ RR _ e ⟨y1,y2⟩=>⟨y1▸Ext.refl,y1▸RR,?_⟩,λZ' H' μ' _ _ _=>by show j.toNat<=_;simp⟩⟩;rw[yh]at e
   cases e3:(yi j.toNat)[i]? with
   |none=>rw[e3]at e;cases e
   |some m=>
    rw[e3]at e
    have hmi:m=i:=by
     obtain⟨w1,w2⟩:=List.getElem?_eq_some_iff.mp e3;simpa using w2.symm
    subst hmi;have e':D.int (m:Nat)=d:=yS e;subst e';rw[y2,show(0:Int)+(m:Nat)=(m:Int) by omega];exact .int
  ·cases e
def zHt{K:yz}{Z:List yg}{H:Hp}{a:yg}{vs:List V}{ds:List D}(h:H a=some (.tup vs))(r:tf K Z H ds vs):sG K (Itt K a) Z H ds yes:=by
 refine⟨λZ' H' μ' i x R _ hi=>?_,λZ' H' μ' i x H'' d x' R _ e ⟨y1,y2⟩=>⟨y1▸Ext.refl,y1▸R,y1▸?_⟩,λZ' H' μ' x R _=>⟨vs,SqT.of (x.tup _ _ h),by rw[r.length];exact yj _⟩⟩
 ·have hi':i<vs.length:=by rw[<-r.length];exact hi
  exact⟨vs,vs[i],SqT.of (x.tup _ _ h),by simp[hi']⟩
 ·have q:=y2 vs (SqT.of (x'.tup _ _ h));obtain⟨w,e1,rr⟩:=(r.ext x').get e;rw[q]at e1;cases e1;exact rr
@[simp] def zJt(G:FE):FI:=λJ μ=>(G J μ).bind λp=>match p.1 with
 |.tup ds=>some (ds,yes,p.2)
 |_=>none
def zkw{tg:yD}(h:ME X a G):MI X tg a (zJt G) :=
 z1q (zKw h) λZ J μ Y H ds ok μ' R A e k=>by
  obtain⟨⟨x,μ1⟩,e1,e⟩:=zf e;refine⟨Z,J,μ,x,μ1,A,e1,λZ1 H1 v1 x1 R1 r1=>?_⟩;dsimp only at e
  split at e
  ·cases e;obtain⟨a,vs,rfl,e2,q2⟩:=r1.tR;exact⟨a,rfl,⟨vs,SqT.of e2⟩,k Z1 H1 _ x1 R1 (zHt e2 q2)⟩
  ·cases e
def zFm(n:Nat)(ds:List D):Mem->Bool:=λμ=>@decide (μ[n]?=some (.lst ds)) (xH _)
def TJ{n:Nat}{ds:List D}{μ:Mem}:zFm n ds μ=true↔μ[n]?=some (.lst ds):=by
 unfold zFm;exact @decide_eq_true_iff _ (xH _)
def zrq(G:FE):FI:=λJ μ=>(G J μ).bind λp=>match p.1 with
 |.fz ds=>some (ds,yes,p.2)
 |.loc n=>match p.2[n]? with
  |some (.lst ds)=>some (ds,zFm n ds,p.2)
  |_=>none
 |_=>none
def zSo{K:yz}{Z:List yg}{H:Hp}{a:yg}{ds:List D}{ok:Mem->Bool}(h:∀Z' H' μ',Ext Z H Z' H'->tF K Z' H' μ'->ok μ'=true->∃vs,SqL K H' a vs/\tf K Z' H' ds vs):sG K (Itl K a) Z H ds ok:=by
 refine⟨λZ' H' μ' i x R o hi=>?_,λZ' H' μ' i x H'' d x' R o e ⟨y1,y2⟩=>⟨y1▸Ext.refl,y1▸R,y1▸?_⟩,λZ' H' μ' x R o=>?_⟩
 ·obtain⟨vs,s,r⟩:=h Z' H' μ' x R o;have hi':i<vs.length:=by rw[<-r.length];exact hi
  exact⟨vs,vs[i],s,by simp[hi']⟩
 ·obtain⟨vs,s,r⟩:=h Z' H' μ' x' R o;have q:=y2 vs s;obtain⟨w,e1,rr⟩:=r.get e;rw[q]at e1;cases e1;exact rr
 ·obtain⟨vs,s,r⟩:=h Z' H' μ' x R o;exact⟨vs,s,by rw[r.length];exact yj _⟩
def z6q{tg:yD}(h:ME X a G):MI X tg a (zrq G) :=
 z1q (zYu h) λZ J μ Y H ds ok μ' R A e k=>by
  obtain⟨⟨x,μ1⟩,e1,e⟩:=zf e;refine⟨Z,J,μ,x,μ1,A,e1,λZ1 H1 v1 x1 R1 r1=>?_⟩;dsimp only at e
  split at e
  ·cases e;obtain⟨a,vs,rfl,e2,q2⟩:=r1.TW;exact⟨a,rfl,⟨vs,e2.sq⟩,k Z1 H1 _ x1 R1 (zSo λZ' H' μ' x _ _=>⟨vs,(x.fz e2).sq,q2.ext x⟩)⟩
  ·split at e
   ·rename_i hm
    cases e;obtain⟨a,rfl,e2⟩:=r1.tz;obtain⟨vs,e3,q3⟩:=R1.at_ _ _ _ e2 hm;refine⟨a,rfl,⟨vs,SqL.of e3⟩,k Z1 H1 _ x1 R1 (zSo λZ' H' μ'' x R' o=>?_)⟩;obtain⟨vs',e4,q4⟩:=R'.at_ _ _ _ (x.get e2) (TJ.mp o);exact⟨vs',SqL.of e4,q4⟩
   ·cases e
  ·cases e
def z6h(g:FG)(body:FS)(ok:Mem->Bool):List D->FS
 |[],J,μ=>bif ok μ then some (.next J μ) else none
 |x::xs,J,μ=>bif ok μ then(g x J μ).bind λp=>match body p.1 p.2 with
  |some (.next J' μ')=>z6h g body ok xs J' μ'
  |some (.cont J' μ')=>z6h g body ok xs J' μ'
  |some (.brk J' μ')=>some (.next J' μ')
  |some (.ret d μ')=>some (.ret d μ')
  |some (.exc C fs μ')=>some (.exc C fs μ')
  |none=>none
  else none
@[simp] def zIk(i:FI)(g:FG)(body:FS):FS:=λJ μ=>(i J μ).bind λp=>z6h g body p.2.1 p.1 J p.2.2
def zPd{tg iter:yD}{body:List Yg}{i:FI}{g:FG}{p:FS}(hi:MI X tg iter i)(hg:MG X tg g)(hb:MSs X body p)(hx:PassesOwn (yx X.prog X.w) X.A X.env X.xe:=by first|exact PassesOwn.never|exact PassesOwn.leaving)(hc:X.calm=true:=by rfl)
 (hs:∀x,YK iter X.env x=pure x:=by intro _;rfl):MS X (.For tg iter body [] pos) (zIk i g p) :=
 zjk (zTw hx hc hi hg hb hs) λZ J μ Y H o E A e k=>by
  obtain⟨⟨ds,ok,μ1⟩,e1,e⟩:=zf e;refine⟨Z,J,μ,ds,ok,μ1,A,e1,λZ1 H1 δ x1 R1 II=>?_⟩;refine⟨λi m Y' H'=>∃Z' J' μ',Ext Z1 H1 Z' H'/\At X.K Z' H' Y' J' μ'/\i<=ds.length/\m=ds.length-i/\z6h g p ok (ds.drop i) J' μ'=some o,⟨_,Z1,J,μ1,Ext.refl,A.ext x1 R1,yR _,rfl,e⟩,?_⟩;rintro i m Y' H' ⟨Z',J',μ',x',A',hi,rfl,ef⟩
  by_cases hlt:i<ds.length
  ·right
   have hd:ds.drop i=ds[i]::ds.drop (i+1):=drop_eq_getElem_cons hlt;rw[hd]at ef;unfold z6h at ef;obtain⟨hok,ef⟩:=zI ef;obtain⟨⟨J2,μ2⟩,e2,ef⟩:=zf ef;refine⟨II.go Z' H' μ' i x' A'.hp hok hlt,λY3 H3=>∃Z3 J3 μ3,Ext Z1 H1 Z3 H3/\At X.K Z3 H3 Y3 J3 μ3/\z6h g p ok (ds.drop (i+1)) J3 μ3=some o,λY3 H3 ⟨Z3,J3,μ3,x3,A3,e3⟩=>⟨ds.length-(i+1),by omega,Z3,J3,μ3,x3,A3,hlt,rfl,e3⟩,λx H'' y=>?_⟩;obtain⟨xe,Re,rx⟩:=II.yld Z' H' μ' i x H'' ds[i] x' A'.hp hok (by simp[hlt]) y;have x':=x'.trans xe;refine⟨Z',J',μ',ds[i],J2,μ2,A'.ext xe Re,rx,e2,λZ4 Y4 H4 x4 A4=>?_⟩
   cases eb:p J2 μ2 with
   |none=>rw[eb]at ef;cases ef
   |some ob=>
    rw[eb]at ef;refine⟨Z4,J2,μ2,ob,A4,eb,?_⟩;have x5:=x'.trans x4
    cases ob with
    |next J6 μ6=>exact λZ6 Y6 H6 x6 A6=>⟨Z6,J6,μ6,x5.trans x6,A6,ef⟩
    |cont J6 μ6=>exact λZ6 Y6 H6 x6 A6=>⟨Z6,J6,μ6,x5.trans x6,A6,ef⟩
    |brk J6 μ6=>cases ef;exact(k.ext x1).ext x5
    |ret d μ6=>cases ef;exact(k.ext x1).ext x5
    |exc C fs μ6=>cases ef;exact(k.ext x1).ext x5
  ·left
   have e0:i=ds.length:=by omega
   subst e0;rw[List.drop_length]at ef;unfold z6h at ef;obtain⟨hok,ef⟩:=zI ef;cases ef;exact⟨II.stop Z' H' μ' x' A'.hp hok,k Z' Y' H' (x1.trans x') A'⟩
end
def zms(g:FG)(c:FT)(G:FE)(ok:Mem->Bool)(J:Loc):List D->List D->Mem->Option (D×Mem)
 |[],ys,μ=>bif ok μ then some (.loc μ.length,μ++[.lst ys]) else none
 |x::xs,ys,μ=>bif ok μ then(g x J μ).bind λp=>(c p.1 p.2).bind λt=>bif t.1 then(G p.1 t.2).bind λq=>zms g c G ok J xs (ys++[q.1]) q.2 else zms g c G ok J xs ys t.2 else none
@[simp] def δC(n:Nat)(fr:List Nat)(J:Loc):Loc:=yu n none++fr.map λi=>(J[i]?).getD none
@[simp] def few(ds:List D):Bool:=decide (ds.length<=1000000)
@[simp] def fLC(n:Nat)(fr:List Nat)(i:FI)(g:FG)(c:FT)(G:FE):FE:=λJ μ=>(i J μ).bind λp=>bif few p.1 then zms g c G p.2.1 (δC n fr J) p.1 [] p.2.2 else none
def MF(X:Cx)(ifs:List yD)(c:FT):Prop:=PF X ifs (tMT X.K c)
@[simp] def zqk:FT:=λ_ μ=>some (true,μ)
def zJd{X:Cx}:MF X [] zqk:=by intro U s Y H Q I hh;obtain⟨Z,J,μ,b,μ',A,e,k⟩:=hh;exact zHw U s Y H Q I (by cases e;exact k Z H Ext.refl A.hp)
def zPg{X:Cx}{e:yD}{c:FT}(h:MT X e c):MF X [e] c:=z4w h
def At.δC{K:yz}{Z:List yg}{H:Hp}{Y:L2.St}{J:Loc}{μ:Mem}(A:At K Z H Y J μ)(n:Nat)(fr:List Nat):At K Z H (σC n fr Y) (M.δC n fr J) μ:=by
 refine⟨λi d e=>?_,A.hp,by unfold σC M.δC;simp⟩;unfold M.δC at e;unfold σC
 by_cases hi:i<n
 ·rw[yw (by simpa using hi),Yw]at e
  split at e<;>cases e
 ·have hi:n<=i:=Nat.le_of_not_lt hi;rw[yL (by simpa using hi),xQ,yh]at e;rw[yL (by simpa using hi),xQ,yh]
  cases e1:fr[i-n]? with
  |none=>rw[e1]at e;cases e
  |some j=>
   rw[e1]at e;have e2:(J[j]?).getD none=some d:=yS e
   have e3:J[j]?=some (some d):=by
    cases q:J[j]? with
    |none=>rw[q]at e2;cases e2
    |some z=>rw[q]at e2;exact congrArg some e2
   obtain⟨v,hv,r⟩:=A.st j d e3;exact⟨v,by rw[xr,hv];rfl,r⟩
def TC(n:Nat)(Y Y':L2.St):Prop:=Y'.length=Y.length/\∀(i:Nat),n<=i->Y'[i]?=Y[i]?
def TC.refl{n:Nat}{Y:L2.St}:TC n Y Y:=⟨rfl,λ_ _=>rfl⟩
def TC.trans{n:Nat}{Y Y1 Y2:L2.St}(a:TC n Y Y1)(b:TC n Y1 Y2):TC n Y Y2:=⟨b.1.trans a.1,λi h=>(b.2 i h).trans (a.2 i h)⟩
def tGc(K:yz)(n:Nat)(g:FG):TG:=λv Y H Q=>∃Z J μ d J' μ',At K Z H Y J μ/\tu K Z H d v/\g d J μ=some (J',μ')/\∀Z' Y' H',Ext Z H Z' H'->At K Z' H' Y' J' μ'->TC n Y Y'->Q Y' H'
def zIy(K:yz)(n:Nat)(g:FGs):TGs:=λvs Y H Q=>∃Z J μ ds J' μ',At K Z H Y J μ/\tf K Z H ds vs/\g ds J μ=some (J',μ')/\∀Z' Y' H',Ext Z H Z' H'->At K Z' H' Y' J' μ'->TC n Y Y'->Q Y' H'
def MGc(X:Cx)(n:Nat)(t:yD)(g:FG):Prop:=PG X t (tGc X.K n g)
def zax(X:Cx)(n:Nat)(t:List yD)(g:FGs):Prop:=PGs X t (zIy X.K n g)
section
variable {X:Cx}{e:yD}{es:List yD}{pos:xV}{n:Nat}
def zE{x:yF}(i:Nat)(hin:i<n:=by decide)(hN:X.N.Nodup:=by first|assumption|decide)(hi:X.N[i]?=some x:=by rfl)(hx:L2.Loc X.env.scope x:=by first|exact Or.inl rfl|exact Or.inr rfl)(hf:X.fn x=true\/X.env.scope.names.lookup x=some .local:=by first|exact .inl rfl|exact .inr rfl|assumption):MGc X n (.Name x pos) (gN i) :=
 by intro U s Y H v u Q I r hh;obtain⟨Z,J,μ,d,J',μ',A,q,e,k⟩:=hh;exact zQr hN hi hx hf U s Y H v u Q I r (by
  cases e;exact k Z _ H Ext.refl (A.set q i) ⟨by simp,λj hj=>Yk (by omega)⟩)
def zRe:zax X n [] zUe:=by intro U s Y H v u Q I r hh;obtain⟨Z,J,μ,d,J',μ',A,q,e,k⟩:=hh;exact z4q U s Y H v u Q I r (by
 unfold zUe at e
 split at e
 ·cases e;exact⟨q.nil_inv,k Z Y H Ext.refl A TC.refl⟩
 ·cases e)
def zqb{g:FG}{gs:FGs}(h1:MGc X n e g)(h2:zax X n es gs)(hs:(Ym (e::es) X.env).map (·.2)=assign e X.env::(Ym es X.env).map (·.2):=by rfl):zax X n (e::es) (zbb g gs) :=
 by intro U s Y H vs us Q I r hh;obtain⟨Z,J,μ,ds,J',μ',A,q,e,k⟩:=hh;exact zAo h1 h2 hs U s Y H vs us Q I r (by
  unfold zbb at e
  split at e
  ·obtain⟨⟨J1,μ1⟩,e1,e⟩:=zf e;obtain⟨v,vr,rfl,q1,q2⟩:=q.cons_inv;refine⟨v,vr,rfl,Z,J,μ,_,J1,μ1,A,q1,e1,λZ1 Y1 H1 x1 A1 f1=>?_⟩;exact⟨Z1,J1,μ1,_,J',μ',A1,q2.ext x1,e,λZ2 Y2 H2 x2 A2 f2=>k Z2 Y2 H2 (x1.trans x2) A2 (f1.trans f2)⟩
  ·cases e)
def zIg{k m:Nat}{gs:FGs}(h:zax X n es gs)(hc:X.calm=true:=by rfl)(hn:(Ym es X.env).length=m:=by rfl)(hst:(Ym es X.env).findIdx? (·.1)=none:=by rfl):MGc X n (.Tuple es k pos) (gT m gs) :=
 by intro U s Y H v u Q I r hh;obtain⟨Z,J,μ,d,J',μ',A,q,e,k⟩:=hh;exact zGt hc h hn hst U s Y H v u Q I r (by
  unfold gT at e
  split at e
  ·obtain⟨h1,e⟩:=zI e;obtain⟨a,vs,rfl,e2,q2⟩:=q.tR;exact⟨a,vs,rfl,SqT.of e2,by rw[<-q2.length];exact beq_iff_eq.mp h1,Z,J,μ,_,J',μ',A,q2,e,k⟩
  ·cases e)
end
def zVr{n:Nat}{fr:List Nat}{Y Y':L2.St}(f:TC n (σC n fr Y) Y'):zVu (σC n fr Y) Y':=by
 refine⟨f.1,λi v e=>?_⟩;obtain⟨hi,_⟩:=σC_get e;rw[f.2 i hi];exact e
def Tc:1000000<yE:=by rw[yY];decide
def zjy{K:yz}{n:Nat}{fr:List Nat}{i:FI}{g:FG}{c:FT}{G:FE}{Z:List yg}{J:Loc}{μ:Mem}{Y:L2.St}{H:Hp}{d:D}{μ':Mem}{Q:VK}(A:At K Z H Y J μ)(e:fLC n fr i g c G J μ=some (d,μ'))
 (k:∀Z' H' v,Ext Z H Z' H'->tF K Z' H' μ'->tu K Z' H' d v->Q v H'):tLC n fr (tMI K i) (tGc K n g) (tMT K c) (tM K G) Y H Q:=by
 obtain⟨⟨ds,ok,μ1⟩,e1,e⟩:=zf e;obtain⟨hfew,e⟩:=zI e;have hfew:ds.length<=1000000:=of_decide_eq_true hfew;refine⟨Z,J,μ,ds,ok,μ1,A,e1,λZ1 H1 δ x1 R1 II=>?_⟩;refine⟨λi m ys H'=>∃Z' es μ2,Ext Z1 H1 Z' H'/\tF K Z' H' μ2/\tf K Z' H' es ys/\es.length<=i/\i<=ds.length/\m=ds.length-i/\zms g c G ok (δC n fr J) (ds.drop i) es μ2=some (d,μ'),⟨_,Z1,[],μ1,Ext.refl,R1,.nil,yR _,yR _,rfl,e⟩,?_⟩;rintro i m ys H' ⟨Z',es,μ2,x',R',re,hel,hi,rfl,ef⟩
 by_cases hlt:i<ds.length
 ·right
  have hd:ds.drop i=ds[i]::ds.drop (i+1):=drop_eq_getElem_cons hlt;rw[hd]at ef;unfold zms at ef;obtain⟨hok,ef⟩:=zI ef;obtain⟨⟨J2,μ3⟩,e2,ef⟩:=zf ef;obtain⟨⟨b,μ4⟩,e3,ef⟩:=zf ef;refine⟨II.go Z' H' μ2 i x' R' hok hlt,?_,λx H'' y=>?_⟩
  ·rw[<-re.length];exact Nat.lt_of_le_of_lt (yA hel (yA hi hfew)) Tc
  ·obtain⟨xe,Re,rx⟩:=II.yld Z' H' μ2 i x H'' ds[i] x' R' hok (by simp[hlt]) y;have x':=x'.trans xe;have re:=re.ext xe;have A':At K Z' H'' (σC n fr Y) (δC n fr J) μ2:=((A.ext x1 R1).ext x' Re).δC n fr;refine⟨Z',_,μ2,ds[i],J2,μ3,A',rx,e2,λZ4 Y4 H4 x4 A4 f4=>⟨zVr f4,?_⟩⟩;refine⟨Z4,J2,μ3,b,μ4,A4,e3,λZ5 H5 x5 R5=>?_⟩
   cases b with
   |false=>exact sD ⟨ds.length-(i+1),by omega,Z5,es,μ4,x'.trans (x4.trans x5),R5,re.ext (x4.trans x5),by omega,hlt,rfl,ef⟩
   |true=>
    obtain⟨⟨y,μ6⟩,e4,ef⟩:=zf ef;refine sE ⟨Z5,J2,μ4,y,μ6,A4.ext x5 R5,e4,λZ6 H6 v x6 R6 r6=>?_⟩;exact⟨ds.length-(i+1),by omega,Z6,es++[y],μ6,x'.trans (x4.trans (x5.trans x6)),R6,(re.ext (x4.trans (x5.trans x6))).append (.cons r6 .nil),by simp;exact hel,hlt,rfl,ef⟩
 ·left
  have e0:i=ds.length:=by omega
  subst e0;rw[List.drop_length]at ef;unfold zms at ef;obtain⟨hok,ef⟩:=zI ef;cases ef;refine⟨II.stop Z' H' μ2 x' R' hok,λp hp=>?_⟩;exact k _ _ _ (x1.trans (x'.trans (Ext.push hp))) (R'.push hp ⟨ys,zx,re.ext (Ext.push hp)⟩) (.loc (zIb R'))
def zJx{X:Cx}{scope:xU}{elt tg iter:yD}{ifs:List yD}{pos:xV}{i:FI}{g:FG}{c:FT}{G:FE}(own:List yF)(fr:List Nat)(hi:MI X tg iter i)
 (hg:∀cl C s₀ H₀ fp,MGc (cxC X own fr scope cl C s₀ H₀ fp) own.length tg g) (hq:∀cl C s₀ H₀ fp,MF (cxC X own fr scope cl C s₀ H₀ fp) ifs c) (he:∀cl C s₀ H₀ fp,ME (cxC X own fr scope cl C s₀ H₀ fp) elt G)
 (hc:X.calm=true:=by rfl) (hk:scope.kind=.function:=by rfl) (hnm:∀y∈scope.names,scope.names.lookup y.1=some y.2:=by decide)
 (hfree:∀x∈scope.names,x.2=.free->(X.env.kindOf x.1=some .cell\/X.env.kindOf x.1=some .free):=by decide) (hfr:∀i∈fr,∃x,X.N[i]?=some x/\scope.names.lookup x=some .free)
 (hs:∀x,YK iter X.env x=pure x:=by intro _;rfl):ME X (.ListComp elt [⟨tg,iter,ifs,0⟩] scope pos) (fLC own.length fr i g c G) :=
 zGe (zBx (wi:=tMI X.K i) (g:=tGc X.K own.length g) (tc:=tMT X.K c) (te:=tM X.K G) own fr hc hi (λcl C s₀ H₀ fp=>hg cl C s₀ H₀ fp) (λcl C s₀ H₀ fp=>hq cl C s₀ H₀ fp) (λcl C s₀ H₀ fp=>he cl C s₀ H₀ fp) hk hnm hfree hfr hs) λZ J μ Y H d μ' Q A e k=>zjy A e k
def toP(μ:Mem):Nat->D->Option Xa
 |0,_=>none
 |n+1,d=>match d with
  |.non=>some .none
  |.bl b=>some (.bool b)
  |.int i=>some (.int i)
  |.str x=>bif Xg x then some (.str x) else none
  |.ty _=>none
  |.own _=>none
  |.tup ds=>(ds.mapM (toP μ n)).bind λps=>some (.tuple ps)
  |.fz ds=>(ds.mapM (toP μ n)).bind λps=>some (.list ps)
  |.loc k=>match μ[k]? with
   |some (.lst ds)=>(ds.mapM (toP μ n)).bind λps=>some (.list ps)
   |_=>none
def zzi{f:D->Option Xa}{ps:List Xa}(h:([]:List D).mapM f=some ps):ps=[]:=by
 simp at h;exact h
def z3g{f:D->Option Xa}{d:D}{ds:List D}{ps:List Xa}(h:(d::ds).mapM f=some ps):∃p r,f d=some p/\ds.mapM f=some r/\ps=p::r:=by
 rw[mapM_cons]at h;obtain⟨p,e1,h⟩:=zf h;obtain⟨r,e2,h⟩:=zf h;cases h;exact⟨p,r,e1,e2,rfl⟩
def z5k{f:D->Option Xa}{m:Nat}(hf:∀d p,f d=some p->p.canLay0=true/\p.depth<=m):∀{ds:List D} {ps:List Xa},ds.mapM f=some ps->PyData.canLayAll0 ps=true/\PyData.depthAll ps<=m
 |[],ps,h=>by rw[zzi h];exact⟨rfl,yR _⟩
 |d::ds,ps,h=>by
  obtain⟨p,r,e1,e2,rfl⟩:=z3g h;obtain⟨h1,h2⟩:=hf d p e1;obtain⟨h3,h4⟩:=z5k hf e2;refine⟨?_,?_⟩
  ·simp only[PyData.canLayAll0,h1,h3,Bool.and_true]
  ·simp only[PyData.depthAll];omega
def zim{μ:Mem}:∀(n:Nat)(d:D)(p:Xa),toP μ n d=some p->p.canLay0=true/\p.depth<=n
 |0,d,p,h=>by cases h
 |n+1,d,p,h=>by
  have seq:∀{ds:List D} {c:List Xa->Xa},(∀ps,(c ps).canLay0=PyData.canLayAll0 ps)->(∀ps,(c ps).depth=PyData.depthAll ps+1)->((ds.mapM (toP μ n)).bind λps=>some (c ps))=some p->p.canLay0=true/\p.depth<=n+1:=λ{ds c} h1 h2 h=>by
   obtain⟨ps,e1,e2⟩:=zf h;cases e2;obtain⟨q1,q2⟩:=z5k (zim n) e1;exact⟨by rw[h1];exact q1,by rw[h2];omega⟩
  unfold toP at h
  cases d with
  |non=>cases h;exact⟨rfl,yR _⟩
  |bl b=>cases h;exact⟨rfl,yR _⟩
  |int b=>cases h;exact⟨rfl,yR _⟩
  |str x=>
   obtain⟨h1,h2⟩:=zI h;cases h2;exact⟨h1,yR _⟩
  |ty _=>cases h
  |own _=>cases h
  |tup ds=>exact seq (λ_=>rfl) (λ_=>rfl) h
  |fz ds=>exact seq (λ_=>rfl) (λ_=>rfl) h
  |loc k=>
   dsimp only at h
   split at h
   ·exact seq (λ_=>rfl) (λ_=>rfl) h
   ·cases h
section
variable {X:Cx}{U:List (yg×xb)}{Y:L2.St}{H:Hp}{s:yc}{Z:List yg}{μ:Mem}
def z5g{f:D->Option Xa}(hf:∀d p v u,f d=some p->tu X.K Z H d v->RelV v u->∃as,Reads s.heap u p as):∀{ds:List D} {ps:List Xa} {vs:List V} {us:List yb},ds.mapM f=some ps->tf X.K Z H ds vs->Vals vs us->∃as,ReadsAll s.heap us ps as
 |[],ps,vs,us,h,r,q=>by
  rw[zzi h];rw[r.nil_inv]at q;cases q;exact⟨[],.nil⟩
 |d::ds,ps,vs,us,h,r,q=>by
  obtain⟨p,pr,e1,e2,rfl⟩:=z3g h;obtain⟨v,vr,rfl,r1,r2⟩:=r.cons_inv
  cases q with
  |cons q1 q2=>
   obtain⟨a1,h1⟩:=hf _ _ _ _ e1 r1 q1;obtain⟨a2,h2⟩:=z5g hf e2 r2 q2;exact⟨_,.cons h1 h2⟩
def z2e(I:Inv X U Y H s)(R:tF X.K Z H μ):∀(n:Nat)(d:D)(p:Xa)(v:V)(u:yb),toP μ n d=some p->tu X.K Z H d v->RelV v u->∃as,Reads s.heap u p as
 |0,d,p,v,u,h,_,_=>by cases h
 |n+1,d,p,v,u,h,r,q=>by
  unfold toP at h
  cases d with
  |non=>cases h;rw[r.tG]at q;cases q;exact⟨_,.none⟩
  |bl b=>cases h;rw[r.tK]at q;cases q;exact⟨_,.bool b⟩
  |int b=>cases h;rw[r.int_inv]at q;obtain⟨t,rfl⟩:=q;exact⟨_,.int b t⟩
  |str x=>
   obtain⟨h1,h2⟩:=zI h;cases h2;rw[r.str_inv]at q;obtain⟨t,rfl⟩:=q;exact⟨_,.str x t⟩
  |ty _=>cases h
  |own _=>cases h
  |tup ds=>
   obtain⟨ps,e1,e2⟩:=zf h;cases e2;obtain⟨a,vs,rfl,e3,rr⟩:=r.tR;cases q;obtain⟨its,rv,⟨o,ho,hc,k,hd⟩,_⟩:=I.tuple (SqT.of e3);obtain⟨as,ha⟩:=z5g (z2e I R n) e1 rr rv;exact⟨_,reads_tuple_at ho hc hd (by simpa using ha)⟩
  |fz ds=>
   obtain⟨ps,e1,e2⟩:=zf h;cases e2;obtain⟨a,vs,rfl,e3,rr⟩:=r.TW;cases q;obtain⟨its,rv,⟨o,k,ho,hc,_,hd⟩,_⟩:=I.list e3.sq;obtain⟨as,ha⟩:=z5g (z2e I R n) e1 rr rv;exact⟨_,reads_list_at ho hc hd (by simpa using ha)⟩
  |loc k=>
   dsimp only at h
   split at h
   ·rename_i hm
    obtain⟨ps,e1,e2⟩:=zf h;cases e2;obtain⟨a,rfl,e2⟩:=r.tz;obtain⟨vs,e3,rr⟩:=R.at_ _ _ _ e2 hm;cases q;obtain⟨its,rv,⟨o,k,ho,hc,_,hd⟩,_⟩:=I.list (SqL.of (K:=X.K) e3);obtain⟨as,ha⟩:=z5g (z2e I R n) e1 rr rv;exact⟨_,reads_list_at ho hc hd (by simpa using ha)⟩
   ·cases h
end
def gEq:φ2:=λx y μ=>(toP μ 8 x).bind λp=>(toP μ 8 y).bind λq=>some (.bl (Yu p q),μ)
def gNe:φ2:=λx y μ=>(toP μ 8 x).bind λp=>(toP μ 8 y).bind λq=>some (.bl (!PyData.eqv p q),μ)
def zYg{μ:Mem}{d:D}{p:Xa}(h:toP μ 8 d=some p):SeqAt.shaped p=true:=by
 obtain⟨h1,h2⟩:=zim 8 d p h;unfold SeqAt.shaped;rw[h1,decide_eq_true (by omega)];rfl
section
variable {X:Cx}{a b c e:yD}{es:List yD}{G ψ χ:FE}{pos:xV}
def zcc(hu:X.A.units+64<cLine):OpM X (Yh .Eq) gEq:=by
 refine OpM.of λU s Y H x y v u Q I rx ry Z dx dy μ d μ' r1 r2 R e k=>?_;obtain⟨p,e1,e⟩:=zf e;obtain⟨q,e2,e⟩:=zf e;cases e;obtain⟨as,h1⟩:=z2e I R 8 dx p x v e1 r1 rx;obtain⟨bs,h2⟩:=z2e I R 8 dy q y u e2 r2 ry;exact eq_dataH h1 h2 (zYg e1) (zYg e2) hu ⟨.bl _,H,I,rfl,k Z H _ Ext.refl R .bl⟩
def zii(hu:X.A.units+64<cLine):OpM X (Yh .NotEq) gNe:=by
 refine OpM.of λU s Y H x y v u Q I rx ry Z dx dy μ d μ' r1 r2 R e k=>?_;obtain⟨p,e1,e⟩:=zf e;obtain⟨q,e2,e⟩:=zf e;cases e;obtain⟨as,h1⟩:=z2e I R 8 dx p x v e1 r1 rx;obtain⟨bs,h2⟩:=z2e I R 8 dy q y u e2 r2 ry;exact ne_dataH h1 h2 (zYg e1) (zYg e2) hu ⟨.bl _,H,I,rfl,k Z H _ Ext.refl R .bl⟩
@[simp] def gIs:φ2:=λx y μ=>match x,y with
 |.bl i,.bl j=>some (.bl (i==j),μ)
 |.non,.non=>some (.bl true,μ)
 |.bl _,.non=>some (.bl false,μ)
 |.int _,.non=>some (.bl false,μ)
 |.str _,.non=>some (.bl false,μ)
 |.tup _,.non=>some (.bl false,μ)
 |.loc _,.non=>some (.bl false,μ)
 |_,_=>none
@[simp] def zNf:φ2:=λx y μ=>match x,y with
 |.bl i,.bl j=>some (.bl (i != j),μ)
 |.non,.non=>some (.bl false,μ)
 |.bl _,.non=>some (.bl true,μ)
 |.int _,.non=>some (.bl true,μ)
 |.str _,.non=>some (.bl true,μ)
 |.tup _,.non=>some (.bl true,μ)
 |.loc _,.non=>some (.bl true,μ)
 |_,_=>none
def z6o:OpM X (Yh .Is) gIs:=by
 refine OpM.of λU s Y H x y v u Q I rx ry Z dx dy μ d μ' r1 r2 R e k=>?_;unfold gIs at e
 split at e<;>cases e
 ·rw[r1.tK]at rx;rw[r2.tK]at ry;cases rx;cases ry;exact is_bool ⟨.bl _,H,I,rfl,k Z H _ Ext.refl R .bl⟩
 ·exact zgl U s Y H x y v u Q I rx ry ⟨r2.tG,by rw[r1.tG];exact k Z H _ Ext.refl R .bl⟩
 ·exact zgl U s Y H x y v u Q I rx ry ⟨r2.tG,by rw[r1.tK];exact k Z H _ Ext.refl R .bl⟩
 ·exact zgl U s Y H x y v u Q I rx ry ⟨r2.tG,by rw[r1.int_inv];exact k Z H _ Ext.refl R .bl⟩
 ·exact zgl U s Y H x y v u Q I rx ry ⟨r2.tG,by rw[r1.str_inv];exact k Z H _ Ext.refl R .bl⟩
 ·exact zgl U s Y H x y v u Q I rx ry ⟨r2.tG,by obtain⟨a,vs,rfl,_⟩:=r1.tR;exact k Z H _ Ext.refl R .bl⟩
 ·exact zgl U s Y H x y v u Q I rx ry ⟨r2.tG,by obtain⟨a,rfl,_⟩:=r1.tz;exact k Z H _ Ext.refl R .bl⟩
def zxe:OpM X (Yh .IsNot) zNf:=by
 refine OpM.of λU s Y H x y v u Q I rx ry Z dx dy μ d μ' r1 r2 R e k=>?_;unfold zNf at e
 split at e<;>cases e
 ·rw[r1.tK]at rx;rw[r2.tK]at ry;cases rx;cases ry;exact isnot_bool ⟨.bl _,H,I,rfl,k Z H _ Ext.refl R .bl⟩
 ·exact z1h U s Y H x y v u Q I rx ry ⟨r2.tG,by rw[r1.tG];exact k Z H _ Ext.refl R .bl⟩
 ·exact z1h U s Y H x y v u Q I rx ry ⟨r2.tG,by rw[r1.tK];exact k Z H _ Ext.refl R .bl⟩
 ·exact z1h U s Y H x y v u Q I rx ry ⟨r2.tG,by rw[r1.int_inv];exact k Z H _ Ext.refl R .bl⟩
 ·exact z1h U s Y H x y v u Q I rx ry ⟨r2.tG,by rw[r1.str_inv];exact k Z H _ Ext.refl R .bl⟩
 ·exact z1h U s Y H x y v u Q I rx ry ⟨r2.tG,by obtain⟨a,vs,rfl,_⟩:=r1.tR;exact k Z H _ Ext.refl R .bl⟩
 ·exact z1h U s Y H x y v u Q I rx ry ⟨r2.tG,by obtain⟨a,rfl,_⟩:=r1.tz;exact k Z H _ Ext.refl R .bl⟩
inductive Ty where
 |non|bl|int|str|tup|lst|dict
 deriving DecidableEq
@[simp] def Ty.name:Ty->String
 |.non=>"NoneType" | .bl=>"bool" | .int=>"int" | .str=>"str" | .tup=>"tuple" | .lst=>"list" | .dict=>"dict"
@[simp] def zdy:D->Bool
 |.bl _=>true
 |_=>false
@[simp] def blB:D->Bool
 |.bl b=>b
 |_=>false
@[simp] def zgx:GL:=λds μ=>match ds with
 |[.loc n]=>match μ[n]? with
  |some (.lst xs)=>bif xs.all zdy then some (.bl (xs.all blB),μ) else none
  |_=>none
 |_=>none
def zqr(hc:X.calm=true):tQ X (.builtin "all") zgx:=by
 refine tQ.of λU s Y H xs us Q I r Z ds μ d μ' r1 R e k=>?_;unfold zgx at e
 split at e
 ·split at e
  ·rename_i n _ ys hm
   obtain⟨hb,e⟩:=zI e;cases e;obtain⟨v,rr,rfl,q1,q2⟩:=r1.cons_inv;obtain⟨a,rfl,e2⟩:=q1.tz;obtain⟨vs,e3,q3⟩:=R.at_ _ _ _ e2 hm;rw[q2.nil_inv]at r;obtain⟨u,rfl,ru⟩:=vals1 r;cases ru;obtain⟨its,rv,pl,hz⟩:=I.list (SqL.of (K:=X.K) e3);have hlt:a<s.heap.objs.size:=by obtain⟨_,_,e,_⟩:=pl;exact ym e
   refine call_all_walk (xt pl.isList ?_);refine⟨_,_,_,_,_,_,λi=>blB (ys.getD i .non),rfl,Walks.list (A:=X.A.in1) (I.ok.hd hc) s.heap.objs.size a (yt hlt) its.toArray,⟨⟨_,yn _ rfl,rfl,rfl⟩,pl.isList.push _⟩,?_,λh' tk hk=>?_⟩
   ·intro i w s' Q' E' hP hQ;have hi:its[i]?=some w:=by simpa using hP
    have hil:i<ys.length:=by
     have h1:=(List.getElem?_eq_some_iff.mp hi).1;rw[q3.length,rv.length];exact h1
    have hyi:ys[i]?=some ys[i]:=by simp[hil]
    obtain⟨vv,ev,rvv⟩:=q3.get hyi;obtain⟨ww,ew,rww⟩:=rv.get ev;rw[hi]at ew;cases ew;have hall:=List.all_eq_true.mp hb ys[i] (getElem_mem hil)
    have hQ':Q' (blB ys[i]) s':=by
     have e:ys.getD i .non=ys[i]:=by rw[getD_eq_getElem?_getD,hyi];rfl
     rw[<-e];exact hQ
    cases hyb:ys[i] with
    |bl b=>
     rw[hyb]at rvv hQ';rw[rvv.tK]at rww;cases rww;exact YJ hQ'
    |_=>rw[hyb]at hall;cases hall
   ·have hsz:its.toArray.size=ys.length:=by rw[q3.length,rv.length];simp
    have eall:((yi its.toArray.size).all λi=>blB (ys.getD i .non))=ys.all blB:=by
     rw[hsz,Bool.eq_iff_iff,all_eq_true,all_eq_true];constructor
     ·intro h y hy;obtain⟨i,hi,rfl⟩:=List.mem_iff_getElem.mp hy;have:=h i (by simpa using hi);rw[getD_eq_getElem?_getD,show ys[i]?=some ys[i] by simp[hi]]at this;exact this
     ·intro h i hi;have hi':i<ys.length:=by simpa using hi
      rw[getD_eq_getElem?_getD,show ys[i]?=some ys[i] by simp[hi']];exact h ys[i] (getElem_mem hi')
    rw[eall];have I1:Inv X U Y H {s with heap:=s.heap.push {cls:=.type "list_iterator",data:=.fields #[.ref a,.int 0 0]}}:=I.kept (t':=s.toks) λb o e=>ye _ e;have hfr:=I1.hok;refine⟨.bl _,H,I.kept (h':=h') (t':=tk) λb o e=>hk b o (by simpa using yt (ym e)) (ye _ e),rfl,k Z H _ Ext.refl R .bl⟩
  ·cases e
 ·cases e
def z3s{scope:xU}{elt tg iter:yD}{ifs:List yD}{spos py:xV}{y:yF}{fi:FI}{g:FG}{ct:FT}(i:Nat)(own:List yF)(fr:List Nat)(hi:MI X tg iter fi)
 (hg:∀cl C s₀ H₀ fp,MGc (cxC X own fr scope cl C s₀ H₀ fp) own.length tg g) (hq:∀cl C s₀ H₀ fp,MF (cxC X own fr scope cl C s₀ H₀ fp) ifs ct) (he:∀cl C s₀ H₀ fp,ME (cxC X own fr scope cl C s₀ H₀ fp) elt G)
 (hfr:∀i∈fr,∃x,X.N[i]?=some x/\scope.names.lookup x=some .free)
 (hN:X.N.Nodup:=by first|assumption|decide) (hiN:X.N[i]?=some y:=by rfl) (hy:X.env.scope.names.lookup y=some .local:=by rfl)
 (hsw:swapsWith (.ListComp elt [⟨tg,iter,ifs,0⟩] scope pos) (some (.Name y py)) spos.line X.env=pure true:=by rfl)
 (hc:X.calm=true:=by rfl) (hk:scope.kind=.function:=by rfl) (hnm:∀y∈scope.names,scope.names.lookup y.1=some y.2:=by decide)
 (hfree:∀x∈scope.names,x.2=.free->(X.env.kindOf x.1=some .cell\/X.env.kindOf x.1=some .free):=by decide)
 (hs:∀x,YK iter X.env x=pure x:=by intro _;rfl):MS X (.Assign [.Name y py] (.ListComp elt [⟨tg,iter,ifs,0⟩] scope pos) spos) (zgc i (fLC own.length fr fi g ct G)) :=
 zjk (zft (wi:=tMI X.K fi) (g:=tGc X.K own.length g) (tc:=tMT X.K ct) (te:=tM X.K G) own fr hN hiN hy hc hi hsw (λcl C s₀ H₀ fp=>hg cl C s₀ H₀ fp) (λcl C s₀ H₀ fp=>hq cl C s₀ H₀ fp) (λcl C s₀ H₀ fp=>he cl C s₀ H₀ fp) hk hnm hfree hfr hs) λZ J μ Y H o E A e k=>by
  obtain⟨⟨x,μ1⟩,e1,e⟩:=zf e;cases e;exact zjy A e1 λZ' H' v x' R r=>k Z' _ H' x' ((A.ext x' R).set r i)
end
@[simp] def zxb:Option Out->Option (D×Mem)
 |some (.ret d μ)=>some (d,μ)
 |some (.next _ μ)=>some (.non,μ)
 |_=>none
@[simp] def zL(N:List yF)(ds:List D):Loc:=ds.map some++yu (N.length-ds.length) none
def zws{K:yz}{Z:List yg}{H:Hp}{μ:Mem}{N:List yF}{ds:List D}{vs:List V}(r:tf K Z H ds vs)(R:tF K Z H μ):At K Z H (L2.start N vs) (zL N ds) μ:=by
 refine⟨λi d e=>?_,R,by unfold L2.start zL;simp[r.length]⟩;unfold zL at e;unfold L2.start
 by_cases hi:i<ds.length
 ·rw[yw (by simpa using hi),yh]at e
  cases e1:ds[i]? with
  |none=>rw[e1]at e;cases e
  |some d'=>
   rw[e1]at e;cases e;obtain⟨v,e2,q⟩:=r.get e1;refine⟨v,?_,q⟩;rw[yw (by simpa[<-r.length] using hi),yh,e2];rfl
 ·rw[yL (by simpa using hi),Yw]at e
  split at e<;>cases e
def fnM{P:yy}{w:yH}{K:yz}{mg:yF->Option yb}{base:Yb}{x qual:yF}{st:Yg}{f:yg}{fd:yk}{N ps:List yF}{k n:Nat}{F:FF}(φ:Fun K x qual st f fd)(S:tm N ps (zn st))(hn:ps.length=n)
 (hbody:∀(cdv:yb)(A:yN)(outer:List Env)(s:yc)(H:Hp)(E:XK),Th k (A.deeper (envOfC qual (zn st) s.heap.objs.size f cdv)) ->
  ∃p,MSs (zGu CX0 P w K mg base N qual (zn st) f cdv A outer s H E).nox (zfc st) p/\∀ds μ d μ',ds.length=n->F ds μ=some (d,μ')->zxb (p (zL N ds) μ)=some (d,μ')) :
 tq P w K mg base CX0 (k+1) f fd ps (spM K n F):=by
 refine φ.ok S (λvs H Q E h=>by rw[hn];exact h.1) (λcdv A outer s H vs Q E hr h=>?_);obtain⟨p,hp,hF⟩:=hbody cdv A outer s H E hr;refine⟨_,hp,?_⟩;obtain⟨hl,Z,ds,μ,d,μ',r,R,e,k⟩:=h;have e':=hF ds μ d μ' (by rw[r.length];exact hl) e
 cases eo:p (zL N ds) μ with
 |none=>rw[eo]at e';cases e'
 |some o=>
  rw[eo]at e';refine⟨Z,zL N ds,μ,o,zws r R,eo,?_⟩
  cases o with
  |ret d2 μ2=>cases e';exact λZ' v H' x' R' r'=>k Z' H' v x' R' r'
  |next J2 μ2=>cases e';exact λZ' Y' H' x' A'=>k Z' H' .non x' A'.hp .non
  |brk _ _=>cases e'
  |cont _ _=>cases e'
  |exc _ _ _=>cases e'
def z1t(sc inner:xU):Bool:=(inner.kind == .function)&&inner.names.all (λy=>inner.names.lookup y.1==some y.2) &&
 inner.names.all λx=>x.2 != .free||sc.names.lookup x.1==some .cell||sc.names.lookup x.1==some .free
def zYm{sc inner:xU}(h:z1t sc inner=true):inner.kind=.function:=by
 unfold z1t at h;simp only[yG,beq_iff_eq]at h;exact h.1.1
def z9r{sc inner:xU}(h:z1t sc inner=true):∀y∈inner.names,inner.names.lookup y.1=some y.2:=by
 unfold z1t at h;simp only[yG]at h;intro y hy;exact beq_iff_eq.mp (List.all_eq_true.mp h.1.2 y hy)
def zPm{sc inner:xU}(h:z1t sc inner=true):∀x∈inner.names,x.2=.free->(sc.names.lookup x.1=some .cell\/sc.names.lookup x.1=some .free):=by
 unfold z1t at h;simp only[yG]at h;intro y hy e;have:=List.all_eq_true.mp h.2 y hy;simpa[e] using this
def zF{N:List yF}(h:decide N.Nodup=true):N.Nodup:=of_decide_eq_true h
def zSb{P:Nat->Prop}:∀i∈([]:List Nat),P i:=λi h=>nomatch h
def z8{P:Nat->Prop}{i:Nat}{l:List Nat}(h:P i)(r:∀j∈l,P j):∀j∈i::l,P j:=λj hj=>by
 rcases List.mem_cons.mp hj with rfl|hj
 ·exact h
 ·exact r j hj
section
variable {X:Cx}{a b c e:yD}{es:List yD}{G ψ χ:FE}{pos:xV}
def mlc{scope:xU}{elt tg iter:yD}{ifs:List yD}{i:FI}{g:FG}{ct:FT}(own:List yF)(fr:List Nat)(hi:MI X tg iter i)
 (hg:∀cl C s₀ H₀ fp,MGc (cxC X own fr scope cl C s₀ H₀ fp) own.length tg g) (hq:∀cl C s₀ H₀ fp,MF (cxC X own fr scope cl C s₀ H₀ fp) ifs ct) (he:∀cl C s₀ H₀ fp,ME (cxC X own fr scope cl C s₀ H₀ fp) elt G)
 (hfr:∀i∈fr,∃x,X.N[i]?=some x/\scope.names.lookup x=some .free) (hok:z1t X.env.scope scope=true:=by rfl) (hc:X.calm=true:=by rfl) (hs:∀x,YK iter X.env x=pure x:=by intro _;rfl) :
 ME X (.ListComp elt [⟨tg,iter,ifs,0⟩] scope pos) (fLC own.length fr i g ct G) :=
 zJx own fr hi hg hq he hc (zYm hok) (z9r hok) (zPm hok) hfr hs
def sU{scope:xU}{elt tg iter:yD}{ifs:List yD}{spos py:xV}{y:yF}{fi:FI}{g:FG}{ct:FT}(i:Nat)(own:List yF)(fr:List Nat)(hi:MI X tg iter fi)
 (hg:∀cl C s₀ H₀ fp,MGc (cxC X own fr scope cl C s₀ H₀ fp) own.length tg g) (hq:∀cl C s₀ H₀ fp,MF (cxC X own fr scope cl C s₀ H₀ fp) ifs ct) (he:∀cl C s₀ H₀ fp,ME (cxC X own fr scope cl C s₀ H₀ fp) elt G)
 (hfr:∀i∈fr,∃x,X.N[i]?=some x/\scope.names.lookup x=some .free) (hN:X.N.Nodup) (hiN:X.N[i]?=some y:=by rfl) (hy:X.env.scope.names.lookup y=some .local:=by rfl)
 (hsw:swapsWith (.ListComp elt [⟨tg,iter,ifs,0⟩] scope pos) (some (.Name y py)) spos.line X.env=pure true:=by rfl) (hok:z1t X.env.scope scope=true:=by rfl) (hc:X.calm=true:=by rfl) (hs:∀x,YK iter X.env x=pure x:=by intro _;rfl) :
 MS X (.Assign [.Name y py] (.ListComp elt [⟨tg,iter,ifs,0⟩] scope pos) spos) (zgc i (fLC own.length fr fi g ct G)) :=
 z3s i own fr hi hg hq he hfr hN hiN hy hsw hc (zYm hok) (z9r hok) (zPm hok) hs
structure FnAt(K:yz)(mg:yF->Option yb)(x:yF)(st:Yg)(ps:List yF)(f:yg)(fd:yk):Prop where
 fn:Fun K x x st f fd
 at_:mg x=some (.ref f)
 bd:Binds K fd ps []
def tj{k j n:Nat}{st:Yg}{f:yg}{fd:yk}{ps:List yF}{F:FF}{x:yF}{p:xV}{G:FA}(B:FnAt X.K X.mg x st ps f fd)(φ:tq X.prog X.w X.K X.mg X.base CX0 j f fd ps (spM X.K n F))(hr:Th k X.A)
 (ha:MAn X (e::es) G) (hj:j<=k:=by decide) (hn:(e::es).length=n:=by rfl) (hg:Gl X x:=by rfl) (hdb:(x==("__debug__":yF))=false:=by decide) (he:yr (e::es) X.env=(false,Yt e X.env)::yr es X.env:=by exact zkj rfl) (hpl:(YZ pos (yr es X.env)).any (·.1)=false:=by rfl) :
 ME X (.Call (.Name x p) (e::es) [] pos) (zo F G):=zlv φ (hr.mono hj) B.at_ B.fn.kp B.bd ha hn hg hdb he hpl
def cat0{prog:yy}{w:yH}{A:yN}{E:yb->yc->Prop}{s:yc}{t b:yg}{vs ws:List yb}{Q:yb->yc->Prop}(ht:IsTup s.heap t vs.toArray)(hb:IsTup s.heap b ws.toArray)(hv:vs=[])(h:Q (.ref b) s) :
 yo (yx prog w) A (xl .Add (.ref t) (.ref b)) Q E s:=by
 obtain⟨⟨cls,dd,data,sl⟩,ho,hc,n,hd⟩:=id ht;obtain⟨⟨cls2,dd2,data2,sl2⟩,ho2,hc2,n2,hd2⟩:=id hb;simp only at hc hd hc2 hd2;subst hc hd hc2 hd2;refine concat_meets ⟨_,ho,rfl⟩ ⟨_,ho2,rfl⟩ noFill_tuple_add seq_tuple_add PySem.F.slot_tuple_add PySem.F.entry_tuple_add (PySem.F.args_tuple_add_2 _ _) (tuple_addW0 t b vs.toArray ws.toArray n n2 dd dd2 sl sl2 (by rw[hv];rfl)) ⟨ho,ho2,h⟩
def zHb:OpM X (xl .Add) z2f:=by
 refine OpM.of λU s Y H x y v u Q I rx ry Z dx dy μ d μ' r1 r2 R e k=>?_;unfold z2f at e
 split at e
 ·cases e;rw[r1.int_inv]at rx;rw[r2.int_inv]at ry;obtain⟨t,rfl⟩:=rx;obtain⟨t',rfl⟩:=ry;exact add_int ⟨.int _,H,I.tok _,⟨_,rfl⟩,k Z H _ Ext.refl R .int⟩
 ·rename_i as bs
  obtain⟨h1,e⟩:=zI e;have h1:=of_decide_eq_true h1;cases e;obtain⟨a1,vs,rfl,e1,q1⟩:=r1.tR;obtain⟨a2,ws,rfl,e2,q2⟩:=r2.tR;have hm:=Tc;have hl1:=q1.length;have hl2:=q2.length
  by_cases hv:vs=[]
  ·cases rx;cases ry;obtain⟨its,rv,p1,_⟩:=I.tuple (SqT.of (K:=X.K) e1);obtain⟨its2,rv2,p2,_⟩:=I.tuple (SqT.of (K:=X.K) e2);refine cat0 p1 p2 (rv.TN.mpr hv) ⟨.ref a2,H,I,rfl,k Z H _ Ext.refl R ?_⟩;have ha:as=[]:=by rw[hv]at hl1;exact List.length_eq_zero_iff.mp hl1
   rw[ha,List.nil_append];exact r2
  ·refine zQu U s Y H _ _ v u Q I rx ry ⟨a1,a2,vs,ws,rfl,rfl,SqT.of e1,SqT.of e2,hv,by omega,λhw=>?_,λ_ p hp=>?_⟩
   ·have hb:bs=[]:=by rw[hw]at hl2;exact List.length_eq_zero_iff.mp hl2
    rw[hb,List.append_nil]at k;exact k Z H _ Ext.refl R r1
   ·exact k Z _ _ (Ext.new hp) (R.Tm hp) (.tup zx ((q1.append q2).ext (Ext.new hp)))
 ·split at e
  ·rename_i hm1 hm2
   obtain⟨h1,e⟩:=zI e;have h1:=of_decide_eq_true h1;cases e;obtain⟨a1,rfl,e1⟩:=r1.tz;obtain⟨a2,rfl,e2⟩:=r2.tz;obtain⟨vs,e3,q1⟩:=R.at_ _ _ _ e1 hm1;obtain⟨ws,e4,q2⟩:=R.at_ _ _ _ e2 hm2;have hm:=Tc;have hl1:=q1.length;have hl2:=q2.length;exact zPw U s Y H _ _ v u Q I rx ry ⟨a1,a2,vs,ws,rfl,rfl,e3,e4,by omega,λp hp=>k _ _ _ (Ext.push hp) (R.push hp ⟨_,zx,(q1.append q2).ext (Ext.push hp)⟩) (.loc (zIb R))⟩
  ·cases e
 ·cases e
def zpk:fillsNumberSlot (.type "tuple") "mul"=pure false :=
 PyProof.Rows.fillsNumberSlot_seq (id:="tuple.__mul__") (r:=some (.builtin "tuple.__rmul__")) PySem.F.slot_tuple_mul.lookup (by decide +kernel) PySem.F.slot_tuple_rmul.lookup (by decide +kernel)
def zSp:seqRepeat? (.type "tuple")=pure (some (.builtin "tuple.__mul__")):=by
 unfold seqRepeat?;rw[PyProof.Rows.seqSlot_of (T:="tuple") (name:="__mul__") (id:="tuple.__mul__") PySem.F.slot_tuple_mul.lookup (by decide +kernel),PyProof.Rows.seqSlot_of (T:="tuple") (name:="__rmul__") (id:="tuple.__rmul__") PySem.F.slot_tuple_rmul.lookup (by decide +kernel)];rfl
def zVh(i:Int)(t:Tok)(l:yg)(items:Array yb)(n:Nat)(dd:Option yg)(sl:Array (Option yb)) :
 Meets (YY.«int.__rmul__» ⟨[.int i t,.ref l],[]⟩) (λ_ R s=>s.heap.get? l=some {cls:=.type "tuple",dict:=dd,data:=.seq items n,slots:=sl }/\R (.ok (.ret Value.notImplemented)) s) :=
 .of_wp λprog w A R s h=>by
  obtain⟨hp,g,d,tk,os⟩:=s;obtain⟨hl,h⟩:=h
  wp_walk
  exact⟨_,rfl,h⟩
def zYl(l:yg)(items:Array yb)(n:Nat)(dd:Option yg)(sl:Array (Option yb))(i:Int)(t:Tok)(h2:2<=i)(h3:i<=1000)(h4:items.isEmpty=false)(h5:items.size<=1000)
 (hsz:((yu i.toNat items).foldl (λx1 x2=>x1++x2) #[]).size<=yE) :
 Meets (YY.«tuple.__mul__» ⟨[.ref l,.int i t],[]⟩) (λ_ R s=>s.heap.get? l=some {cls:=.type "tuple",dict:=dd,data:=.seq items n,slots:=sl } /\
  R (.ok (.ret (YG s.heap.objs.size))) {s with heap:=s.heap.push {cls:=Yl "tuple",data:=Data.seq ((yu i.toNat items).foldl (λx1 x2=>x1++x2) #[])},toks:=s.toks }) :=
 .of_wp λprog w A R s h=>by
  obtain⟨hp,g,d,tk,os⟩:=s;obtain⟨hl,h⟩:=h;have f1:=AutoSeq1.idx_int
  have c1:¬((decide (i < -(2^63))||decide (i≥2^63))=true):=by
   rw[decide_eq_false (by omega),decide_eq_false (by omega)];exact yv
  have c2:¬((items.isEmpty||i==1)=true):=by
   rw[h4,show(i==1)=false by simp;omega];exact yv
  have c3:¬((decide (i<=0)||items.isEmpty)=true):=by
   rw[h4,decide_eq_false (by omega)];exact yv
  have c4:¬((items.size:Int)*i>(2^63-1) / 8):=by
   have h6:(items.size:Int)*i<=1000*1000:=Int.mul_le_mul (by omega) h3 (by omega) (by omega);omega
  have c5:¬(Builtin.Tuple.tupleTooMany ((items.size:Int)*i)=true):=by
   have h6:(items.size:Int)*i<=1000*1000:=Int.mul_le_mul (by omega) h3 (by omega) (by omega);have hz:(yE:Int)=16777216:=by rw[yY];rfl
   unfold Builtin.Tuple.tupleTooMany;rw[decide_eq_false (by omega)];exact yv
  wp_walk using xc hl
  rw[if_neg c1]
  wp_walk using xc hl
  rw[if_neg c2];dsimp only;rw[if_neg c3,if_neg c4,if_neg c5];refine ya (m:=YW _) (yT (yf ⟨_,rfl,h⟩) hsz)
def zyk(its:List yb):∀(n:Nat)(acc:List yb),List.foldl (λx1 x2=>x1++x2) acc.toArray (yu n its.toArray)=(acc++(yu n its).flatten).toArray
 |0,acc=>by simp
 |n+1,acc=>by
  rw[replicate_succ,List.foldl_cons,List.append_toArray,zyk its n,replicate_succ,flatten_cons,append_assoc]
def z1n{K:yz}{Z:List yg}{H:Hp}{ds:List D}{vs:List V}(r:tf K Z H ds vs):∀n:Nat,tf K Z H (yu n ds).flatten (yu n vs).flatten
 |0 =>.nil
 |n+1=>by
  rw[replicate_succ,replicate_succ,flatten_cons,flatten_cons];exact r.append (z1n r n)
def zTl{vs:List V}{us:List yb}(r:Vals vs us):∀n:Nat,Vals (yu n vs).flatten (yu n us).flatten
 |0 =>.nil
 |n+1=>by
  rw[replicate_succ,replicate_succ,flatten_cons,flatten_cons];exact r.append (zTl r n)
def zpe:OpM X (xl .Mult) zNi:=by
 refine OpM.of λU s Y H x y v u Q I rx ry Z dx dy μ d μ' r1 r2 R e k=>?_;unfold zNi at e
 split at e
 ·obtain⟨h1,e⟩:=zI e;cases e;rw[r1.int_inv]at rx;rw[r2.int_inv]at ry;obtain⟨t,rfl⟩:=rx;obtain⟨t',rfl⟩:=ry;exact mul_int ⟨.int _,H,I.tok _,⟨_,rfl⟩,k Z H _ Ext.refl R .int⟩ (zAs h1)
 ·rename_i ds i
  obtain⟨h1,e⟩:=zI e;have h1:=of_decide_eq_true h1;obtain⟨h2,h3,h4,h5⟩:=h1;cases e;obtain⟨a1,vs,rfl,e1,q1⟩:=r1.tR;rw[r2.int_inv]at ry;cases rx;obtain⟨t,rfl⟩:=ry;obtain⟨its,rv,⟨⟨cls,dd,data,sl⟩,ho,hc,n,hd⟩,hz⟩:=I.tuple (SqT.of (K:=X.K) e1);simp only at hc hd;subst hc hd;have hl:its.length=ds.length:=by rw[q1.length,rv.length]
  have hlen:((yu i.toNat vs).flatten).length<=yE:=by
   rw[zas];have hm:=Tc;have h6:i.toNat*vs.length<=1000*1000:=Nat.mul_le_mul (by omega) (by rw[<-q1.length];exact h5);omega
  have e2:=zyk its i.toNat [];rw[List.nil_append]at e2
  have hsz:((yu i.toNat its.toArray).foldl (λx1 x2=>x1++x2) #[]).size<=yE:=by
   rw[show(#[]:Array yb)=([]:List yb).toArray from rfl,e2,size_toArray,<-(zTl rv i.toNat).length];exact hlen
  refine wpAny_binaryOp_repeat_ref (T:="tuple") (U:="int") (by decide) ⟨_,ho,rfl⟩ (λs'=>typeIs_int s' i t) zpk PySem.F.fills_int_mul PySem.F.slot_int_rmul zSp PySem.F.slot_int_index.lookup
   (xw PySem.F.slot_int_rmul (typeIs_int s i t) PySem.F.entry_int_rmul (PySem.F.args_int_rmul_2 _ _) (zVh i t a1 its.toArray n dd sl)
    ⟨ho,rfl,⟨_,ho,rfl⟩,xw PySem.F.slot_tuple_mul ⟨_,ho,rfl⟩ PySem.F.entry_tuple_mul (PySem.F.args_tuple_mul_2 _ _) (zYl a1 its.toArray n dd sl i t h2 h3 (by rw[List.isEmpty_toArray,List.isEmpty_eq_false_iff_exists_mem];exact⟨_,getElem_mem (by omega:0<its.length)⟩) (by rw[size_toArray,hl];exact h5) hsz) ⟨ho,?_⟩⟩)
  rw[show(#[]:Array yb)=([]:List yb).toArray from rfl,e2];have hf:=I.hok.fresh (yj s.heap.objs.size);refine⟨.ref s.heap.objs.size,_,I.laid (t':=s.toks) (o:=.tup (yu i.toNat vs).flatten) (λb ob q=>ye _ q) (yj _) ?_,rfl,k Z _ _ (Ext.new hf) (R.Tm hf) (.tup zx ((z1n q1 i.toNat).ext (Ext.new hf)))⟩;exact⟨hlen,_,zTl rv i.toNat,IsTup.new _ _⟩
 ·rename_i l n
  split at e
  ·rename_i ds hm
   obtain⟨h1,e⟩:=zI e;have h1:=of_decide_eq_true h1;obtain⟨h2,h3,h4⟩:=h1;cases e;obtain⟨a1,rfl,ea⟩:=r1.tz;obtain⟨vs,e3,q3⟩:=R.at_ _ _ _ ea hm;refine zLv U s Y H _ _ v u Q I rx ry ⟨a1,n,vs,rfl,r2.int_inv,e3,by omega,by omega,?_,λp hp=>k _ _ _ (Ext.push hp) (R.push hp ⟨_,zx,(z1n q3 n.toNat).ext (Ext.push hp)⟩) (.loc (zIb R))⟩;have hmi:=Tc;have h6:vs.length*n.toNat<=1000*1000:=Nat.mul_le_mul (by rw[<-q3.length];exact h4) (by omega);omega
  ·cases e
 ·cases e
abbrev FO:=Loc->Mem->Option (Option Int×Mem)
def tMO(K:yz)(G:FO):TO:=λY H Q=>∃Z J μ o μ',At K Z H Y J μ/\G J μ=some (o,μ')/\∀Z' H',Ext Z H Z' H'->tF K Z' H' μ'->Q o H'
def MO(X:Cx)(e:Option yD)(G:FO):Prop:=PO X e (tMO X.K G)
@[simp] def pNo:FO:=λ_ μ=>some (none,μ)
@[simp] def zzv(G:FE):FO:=λJ μ=>(G J μ).bind λp=>match p.1 with
 |.int i=>some (some i,p.2)
 |_=>none
def cutD(xs:List D)(lo hi:Option Int):List D:=(xs.drop (HT.sIx xs.length 0 lo)).take (HT.sIx xs.length xs.length hi-HT.sIx xs.length 0 lo)
@[simp] def fSl(G:FE)(lo hi:FO):FE:=λJ μ=>(G J μ).bind λp=>(lo J p.2).bind λl=>(hi J l.2).bind λh=>match p.1 with
 |.tup ds=>some (.tup (cutD ds l.1 h.1),h.2)
 |.loc n=>match h.2[n]? with
  |some (.lst ds)=>some (.loc h.2.length,h.2++[.lst (cutD ds l.1 h.1)])
  |_=>none
 |_=>none
end
def zPr{prog:yy}{w:yH}{A:yN}{E:yb->yc->Prop}{s:yc}{t sl:yg}{items:Array yb}{vl vu:yb}{lo hi:Option Int}{Q:yb->yc->Prop}(ht:IsTup s.heap t items)(hs:s.heap.IsSliceOf sl vl vu .none)(pl:IsPart vl lo)(pu:IsPart vu hi)
 (hw:HT.sIx items.size 0 lo=0/\HT.sIx items.size items.size hi=items.size) (h:Q (.ref t) s):yo (yx prog w) A (getItem (.ref t) (.ref sl)) Q E s:=by
 obtain⟨os,hos,hcs,hds⟩:=id hs;have hTs:s.TypeIs (.ref sl) "slice":=⟨os,hos,hcs⟩
 unfold getItem
 try with_reducible refine yP ?_
 first|refine ya (yf ?_)|skip
 refine ya (wpAny_sequenceKey ht.typeIs (by decide) ?_)
 refine ya (yW (name:=YL "__getitem__") ht.typeIs YT
  (yQ YT ht.typeIs entry_tuple_getitem ?_ (args_tuple_getitem _ _)))
 show yo _ _ (Builtin.Tuple.tupleItemsOf (.ref t) >>= _) _ _ s;refine ya (tupleItemsOf_ ht ?_);refine ya (xv hTs ?_);rw[if_pos (by decide)];refine ya (HT.Tl hs pl pu ?_)
 have hyes:(((HT.sIx items.size 0 lo:Nat):Int)==0&&(1:Int)==1&&(HT.sIx items.size items.size hi-HT.sIx items.size 0 lo)==items.size)=true:=by
  rw[hw.1,hw.2];simp
 show yo _ _ (if(((HT.sIx items.size 0 lo:Nat):Int)==0&&(1:Int)==1&&(HT.sIx items.size items.size hi-HT.sIx items.size 0 lo)==items.size)=true then _ else _) _ _ s;rw[if_pos hyes];refine ya (m:=Builtin.Tuple.tupleIsExact _) ?_;unfold Builtin.Tuple.tupleIsExact;refine ya (xv ht.typeIs (yf ?_));rw[if_pos (by decide)];exact ya (wpAny_rule (yf ⟨_,rfl,yf h⟩))
section
variable {X:Cx}{a b c e:yD}{es:List yD}{G ψ χ:FE}{pos p2:xV}{lo hi:Option yD}
def rSl(K:yz):V->Option Int->Option Int->Hp->VK->Prop:=λx lo hi H Q=>∃a xs,x=.ref a/\H a=some (.tup xs) /\
 ((HT.sIx xs.length 0 lo=0/\HT.sIx xs.length xs.length hi=xs.length)->Q (.ref a) H)/\∀p,H p=none->Q (.ref p) (upd H p (.tup (zir xs lo hi)))
def zqw:SlR X (rSl X.K):=by
 intro U s Y H x v vl vu lo hi sl Q I rx hs pl pu h;obtain⟨a,xs,rfl,hx,h1,h2⟩:=h
 by_cases hw:HT.sIx xs.length 0 lo=0/\HT.sIx xs.length xs.length hi=xs.length
 ·cases rx;obtain⟨its,r,ht,hz⟩:=I.tuple (SqT.of (K:=X.K) hx);have hlen:its.toArray.size=xs.length:=by rw[size_toArray];exact r.length.symm
  exact⟨"tuple",_,PyProof.Rows.slot_tuple_getitem.lookup,ht.typeIs,zPr ht hs pl pu (by rw[hlen];exact hw) ⟨.ref a,H,I,rfl,h1 hw⟩⟩
 ·exact zxw U s Y H _ v vl vu lo hi sl Q I rx hs pl pu ⟨a,xs,rfl,SqT.of hx,hw,h2⟩
def zpv:MO X none pNo:=by intro U s Y H Q I hh;obtain⟨Z,J,μ,o,μ',A,e,k⟩:=hh;exact zgu U s Y H Q I (by cases e;exact k Z H Ext.refl A.hp)
def zVq(h:ME X e G):MO X (some e) (zzv G):=by intro U s Y H Q I hh;obtain⟨Z,J,μ,o,μ',A,e,k⟩:=hh;exact zmu h U s Y H Q I (by
 obtain⟨⟨x,μ1⟩,e1,e⟩:=zf e;refine⟨Z,J,μ,x,μ1,A,e1,λZ1 H1 v x1 R1 r1=>?_⟩;dsimp only at e
 split at e
 ·cases e;exact⟨_,r1.int_inv,k Z1 H1 x1 R1⟩
 ·cases e)
def zUn{K:yz}{Z:List yg}{H:Hp}{ds:List D}{vs:List V}{lo hi:Option Int}(r:tf K Z H ds vs):tf K Z H (cutD ds lo hi) (zir vs lo hi):=by
 unfold cutD zir;rw[r.length];exact(r.drop _).take _
def zuu{l h:FO}(he:ME X e G)(hl:MO X lo l)(hu:MO X hi h):ME X (.Subscript e (.Slice lo hi none p2) pos) (fSl G l h) :=
 zGe (zHs (SlR.or zqw zjv) he hl hu) λZ J μ Y H d μ' Q A e k=>by
  obtain⟨⟨x,μ1⟩,e1,e⟩:=zf e;obtain⟨⟨o1,μ2⟩,e2,e⟩:=zf e;obtain⟨⟨o2,μ3⟩,e3,e⟩:=zf e;refine⟨Z,J,μ,x,μ1,A,e1,λZ1 H1 v x1 R1 r1=>?_⟩;refine⟨Z1,J,μ1,o1,μ2,A.ext x1 R1,e2,λZ2 H2 x2 R2=>?_⟩;refine⟨Z2,J,μ2,o2,μ3,A.ext (x1.trans x2) R2,e3,λZ3 H3 x3 R3=>?_⟩;dsimp only at e
  split at e
  ·cases e;obtain⟨a,vs,rfl,ea,q⟩:=(r1.ext (x2.trans x3)).tR;have xx:=x1.trans (x2.trans x3);refine .inl ⟨a,vs,rfl,ea,λhw=>k Z3 H3 _ xx R3 (.tup ea ?_),λp hp=>k Z3 _ _ (xx.trans (Ext.new hp)) (R3.Tm hp) (.tup zx ((zUn q).ext (Ext.new hp)))⟩
   have e4:zir vs o1 o2=vs:=by
    unfold zir;rw[hw.1,hw.2,Nat.sub_zero,List.drop_zero,take_length]
   have:=zUn (lo:=o1) (hi:=o2) q;rw[e4]at this;exact this
  ·split at e
   ·rename_i hm
    cases e;obtain⟨a,rfl,ea⟩:=(r1.ext (x2.trans x3)).tz;obtain⟨vs,ev,q⟩:=R3.at_ _ _ _ ea hm;have xx:=x1.trans (x2.trans x3);exact .inr ⟨a,vs,rfl,SqL.of ev,λp hp=>k _ _ _ (xx.trans (Ext.push hp)) (R3.push hp ⟨_,zx,(zUn q).ext (Ext.push hp)⟩) (.loc (zIb R3))⟩
   ·cases e
  ·cases e
@[simp] def zNy(G:FE):FE:=λJ μ=>(G J μ).bind λp=>match p.1 with
 |.int i=>some (.int (-i),p.2)
 |_=>none
def big{U:List (yg×xb)}{Y:L2.St}{H:Hp}{s:yc}(I:Inv X U Y H s):sysModules<s.heap.objs.size:=by
 have h:yB<s.heap.objs.size:=(I.mod.glob.keeps I.bk).lt;exact Nat.lt_trans (by decide) h
@[simp] def zPx:FE:=λ_ μ=>some (.loc μ.length,μ++[.dct []])
def ziw:ME X (.Dict [] [] pos) zPx:=by
 intro U s Y H Q I hh;obtain⟨Z,J,μ,d,μ',A,e,k⟩:=hh;cases e;have hf:=I.hok.fresh (yj s.heap.objs.size);refine wpAny_Dict_empty ⟨.ref s.heap.objs.size,_,I.laid (a:=s.heap.objs.size) (o:=.dK []) (t':=s.toks) (λ_ _ q=>ye _ q) (yj _) ?_,rfl,k _ _ _ (Ext.push hf) (A.hp.push hf ⟨[],zx,rfl,.nil⟩) (.loc (zIb A.hp))⟩;exact⟨yR _,beq_eq_false_iff_ne.mpr (Yv (yt (big I))),[],.nil,Heap.DictOf.new _⟩
def zDc:D->Bool
 |.non | .bl _ | .int _ | .str _=>true
 |_=>false
def eqF:D->D->Bool
 |.non,.non=>true
 |.bl a,.bl b=>a==b
 |.bl a,.int b=>(if a then 1 else 0)==b
 |.int a,.bl b=>a==(if b then 1 else 0)
 |.int a,.int b=>a==b
 |.str a,.str b=>a==b
 |_,_=>false
def gIn:φ2:=λx y μ=>(items μ y).bind λds=>bif zDc x&&ds.all zDc then some (.bl (ds.any λd=>eqF d x),μ) else none
def zdh:φ2:=λx y μ=>(items μ y).bind λds=>bif zDc x&&ds.all zDc then some (.bl (!ds.any λd=>eqF d x),μ) else none
def z9f{K:yz}{Z:List yg}{H:Hp}{d:D}{v:V}(r:tu K Z H d v)(f:zDc d=true):zIi v=true:=by
 cases d with
 |non=>rw[r.tG];rfl
 |bl b=>rw[r.tK];rfl
 |int b=>rw[r.int_inv];rfl
 |str b=>rw[r.str_inv];rfl
 |_=>cases f
def zEn{K:yz}{Z:List yg}{H:Hp}{d d':D}{v v':V}(r:tu K Z H d v)(r':tu K Z H d' v')(f:zDc d=true)(f':zDc d'=true):eqV v v'=eqF d d':=by
 cases d with
 |non=>rw[r.tG];cases d' with
  |non=>rw[r'.tG];rfl
  |bl b=>rw[r'.tK];rfl
  |int b=>rw[r'.int_inv];rfl
  |str b=>rw[r'.str_inv];rfl
  |_=>cases f'
 |bl b=>rw[r.tK];cases d' with
  |non=>rw[r'.tG];rfl
  |bl b=>rw[r'.tK];rfl
  |int b=>rw[r'.int_inv];rfl
  |str b=>rw[r'.str_inv];rfl
  |_=>cases f'
 |int b=>rw[r.int_inv];cases d' with
  |non=>rw[r'.tG];rfl
  |bl b=>rw[r'.tK];rfl
  |int b=>rw[r'.int_inv];rfl
  |str b=>rw[r'.str_inv];rfl
  |_=>cases f'
 |str b=>rw[r.str_inv];cases d' with
  |non=>rw[r'.tG];rfl
  |bl b=>rw[r'.tK];rfl
  |int b=>rw[r'.int_inv];rfl
  |str b=>rw[r'.str_inv];rfl
  |_=>cases f'
 |_=>cases f
def zum{K:yz}{Z:List yg}{H:Hp}{x:D}{v:V}(rx:tu K Z H x v)(fx:zDc x=true):∀{ds:List D} {vs:List V},tf K Z H ds vs->ds.all zDc=true->vs.all zIi=true/\inV v vs=ds.any λd=>eqF d x
 |[],_,r,_=>by rw[r.nil_inv];exact⟨rfl,rfl⟩
 |d::ds,_,r,f=>by
  obtain⟨w,ws,rfl,r1,r2⟩:=r.cons_inv;rw[all_cons,yG]at f;obtain⟨h1,h2⟩:=zum rx fx r2 f.2;refine⟨by rw[all_cons,z9f r1 f.1,h1];rfl,?_⟩;unfold inV at h2 ⊢;rw[any_cons,any_cons,h2,zEn r1 rx f.1 fx]
def z6t:OpM X (Yh .In) gIn:=by
 refine OpM.of λU s Y H x y v u Q I rx ry Z dx dy μ d μ' r1 r2 R e k=>?_;obtain⟨ds,e1,e⟩:=zf e;obtain⟨h1,e⟩:=zI e;rw[yG]at h1;cases e;obtain⟨p,vs,rfl,hq,rr⟩:=zPf R r2 e1;obtain⟨h3,h4⟩:=zum r1 h1.1 rr h1.2;exact zAr U s Y H x _ v u Q I rx ry ⟨p,vs,rfl,hq,z9f r1 h1.1,h3,by rw[if_neg yv,h4];exact k Z H _ Ext.refl R .bl⟩
def zSf:OpM X (Yh .NotIn) zdh:=by
 refine OpM.of λU s Y H x y v u Q I rx ry Z dx dy μ d μ' r1 r2 R e k=>?_;obtain⟨ds,e1,e⟩:=zf e;obtain⟨h1,e⟩:=zI e;rw[yG]at h1;cases e;obtain⟨p,vs,rfl,hq,rr⟩:=zPf R r2 e1;obtain⟨h3,h4⟩:=zum r1 h1.1 rr h1.2;exact zAm U s Y H x _ v u Q I rx ry ⟨p,vs,rfl,hq,z9f r1 h1.1,h3,by rw[if_pos rfl,h4];exact k Z H _ Ext.refl R .bl⟩
abbrev GM:=D->List D->Mem->Option (D×Mem)
@[simp] def ztf(g:GM)(G:FE)(ψ:FA):FE:=λJ μ=>(G J μ).bind λp=>match p.1 with
 |.loc n=>match p.2[n]? with
  |some (.lst _)=>(ψ J p.2).bind λq=>g (.loc n) q.1 q.2
  |_=>none
 |_=>none
@[simp] def zFf:GM:=λx ds μ=>match x,ds with
 |.loc n,[d]=>match μ[n]? with
  |some (.lst xs)=>bif decide (xs.length<=1000000) then some (.non,μ.set n (.lst (xs++[d]))) else none
  |_=>none
 |_,_=>none
def MtG(X:Cx)(id:String)(g:GM):Prop:=MtR X id λx xs H Q=>∃Z dx ds μ d μ',tu X.K Z H dx x/\tf X.K Z H ds xs/\tF X.K Z H μ/\g dx ds μ=some (d,μ')/\∀Z' H' v,Ext Z H Z' H'->tF X.K Z' H' μ'->tu X.K Z' H' d v->Q v H'
def MtG.of{X:Cx}{id:String}{g:GM}(h:∀(U:List (yg×xb)) (s:yc) (Y:L2.St) (H:Hp) (x:V) (xs:List V) (v:yb) (us:List yb) (Q:VK),Inv X U Y H s->RelV x v->Vals xs us->∀(Z:List yg)(dx:D)(ds:List D)(μ:Mem)(d:D)(μ':Mem),tu X.K Z H dx x->tf X.K Z H ds xs->tF X.K Z H μ->g dx ds μ=some (d,μ')->(∀Z' H' v,Ext Z H Z' H'->tF X.K Z' H' μ'->tu X.K Z' H' d v->Q v H')->yo (yx X.prog X.w) X.A (call (.builtin id) (v::us)) (EP X U Y Q) X.xe s):MtG X id g:=by
 intro U s Y H x xs v us Q I rx rs hh;obtain⟨Z,dx,ds,μ,d,μ',r1,r2,R,e,k⟩:=hh;exact h U s Y H x xs v us Q I rx rs Z dx ds μ d μ' r1 r2 R e k
def zNh{o:yD}{ψ:FA}{name:yF}{id:String}{g:GM}{apos:xV}(slot:Slot "list" name id)(hty:typeOf (.builtin id)=pure (.type "method_descriptor"))(hm:MtG X id g)(ho:ME X o G)(ha:MAn X (e::es) ψ)
 (hbase:YI o name X.env (Yt o X.env)=Yt o X.env:=by rfl)
 (hfew:((YZ pos (yr (e::es) X.env)).all (λx=>!x.1)&&(backToKw pos (xZ [] X.env)).all (λx=>x.1.isSome)
  && decide ((e::es).length+([]:List xD).length+(if([]:List xD).isEmpty then 0 else 1)<30))=true:=by rfl)
 (hline:(apos.endLine==pos.line)=true:=by rfl) (hs:yr (e::es) X.env=(false,Yt e X.env)::yr es X.env:=by rfl) (hplain:(YZ pos (yr es X.env)).any (·.1)=false:=by rfl) :
 ME X (.Call (.Attribute o name apos) (e::es) [] pos) (ztf g G ψ) :=
 zGe (ztx PySem.F.plainAttrs_list slot hty hm ho ha.ma hbase hfew hline hs hplain) λZ J μ Y H d μ' Q A e k=>by
  obtain⟨⟨x,μ1⟩,e1,e⟩:=zf e;refine⟨Z,J,μ,x,μ1,A,e1,λZ1 H1 v x1 R1 r1=>?_⟩;dsimp only at e
  split at e
  ·split at e
   ·rename_i hm'
    obtain⟨⟨ds,μ2⟩,e2,e⟩:=zf e;obtain⟨a,rfl,ea⟩:=r1.tz;obtain⟨vs,e3,q3⟩:=R1.at_ _ _ _ ea hm';refine⟨.inl ⟨rfl,vs,SqL.of e3⟩,Z1,J,μ1,ds,μ2,A.ext x1 R1,e2,λZ2 H2 vs2 x2 R2 r2=>?_⟩;exact⟨Z2,_,ds,μ2,d,μ',r1.ext x2,r2,R2,e,λZ3 H3 v3 x3 R3 r3=>k Z3 H3 v3 (x1.trans (x2.trans x3)) R3 r3⟩
   ·cases e
  ·cases e
def zgq:MtG X "list.append" zFf:=by
 refine MtG.of λU s Y H x xs v us Q I rx rs Z dx ds μ d μ' r1 r2 R e k=>?_;unfold zFf at e
 split at e
 ·split at e
  ·rename_i hm
   obtain⟨h1,e⟩:=zI e;have h1:=of_decide_eq_true h1;cases e;obtain⟨a,rfl,ea⟩:=r1.tz;obtain⟨vs,e3,q3⟩:=R.at_ _ _ _ ea hm;obtain⟨w,r,rfl,q1,q2⟩:=r2.cons_inv;rw[q2.nil_inv]at rs;have hl:=q3.length;have hmi:=Tc;have hmu:Mut (H a):=by rw[e3];trivial
   refine zPq U s Y H _ _ v us Q I rx rs ⟨a,vs,w,rfl,rfl,e3,by omega,?_⟩;exact k Z _ _ (Ext.wr hmu) (R.wr hmu ea ⟨_,zx,tf.ext (Ext.wr hmu) (q3.append (.cons q1 .nil))⟩) .non
  ·cases e
 ·cases e
def zyh{o:yD}{ψ:FA}{apos:xV}(ho:ME X o G)(ha:MAn X (e::es) ψ)
 (hbase:YI o "append" X.env (Yt o X.env)=Yt o X.env:=by rfl)
 (hfew:((YZ pos (yr (e::es) X.env)).all (λx=>!x.1)&&(backToKw pos (xZ [] X.env)).all (λx=>x.1.isSome)
  && decide ((e::es).length+([]:List xD).length+(if([]:List xD).isEmpty then 0 else 1)<30))=true:=by rfl)
 (hline:(apos.endLine==pos.line)=true:=by rfl) (hs:yr (e::es) X.env=(false,Yt e X.env)::yr es X.env:=by rfl) (hplain:(YZ pos (yr es X.env)).any (·.1)=false:=by rfl) :
 ME X (.Call (.Attribute o "append" apos) (e::es) [] pos) (ztf zFf G ψ):=zNh PySem.F.slot_list_append PySem.F.type_list_append zgq ho ha hbase hfew hline hs hplain
end
end M
namespace M
open PySem
def RS(xs:Array Nat):Prop:=xs.toList.Pairwise (· < ·)
def z4l(xs:Array Nat)(j:Nat)(h:RS xs):∀(fuel lo hi:Nat),lo<=hi->hi<=xs.size->hi-lo<=fuel->(∀i (hi':i<xs.size),i<lo->xs[i]<j)->(∀i (hi':i<xs.size),hi<=i->j<=xs[i]) ->
 xW xs j fuel lo hi<=xs.size/\(∀i (hi':i<xs.size),i<xW xs j fuel lo hi->xs[i]<j)/\∀i (hi':i<xs.size),xW xs j fuel lo hi<=i->j<=xs[i]
 |0,lo,hi,h1,h2,h3,h4,h5=>by
  have:lo=hi:=by omega
  subst this;unfold xW;exact⟨h2,h4,h5⟩
 |fuel+1,lo,hi,h1,h2,h3,h4,h5=>by
  have hp:∀i k (hi:i<xs.size) (hk:k<xs.size),i<k->xs[i]<xs[k]:=λi k hi hk hik=>by
   have:=List.pairwise_iff_getElem.mp h i k (by simpa using hi) (by simpa using hk) hik;simpa using this
  unfold xW
  by_cases hlt:lo<hi
  ·rw[if_pos hlt];dsimp only;have hm:(lo+hi) / 2<xs.size:=by omega
   have hg:xs.getD ((lo+hi) / 2) j=xs[(lo+hi) / 2]:=by simp[Xb,hm]
   rw[hg]
   by_cases hc:xs[(lo+hi) / 2]<j
   ·rw[if_pos hc];refine z4l xs j h fuel _ hi (by omega) h2 (by omega) (λi hi' hil=>?_) h5
    by_cases e:i=(lo+hi) / 2
    ·subst e;exact hc
    ·exact Nat.lt_trans (hp i _ hi' hm (by omega)) hc
   ·rw[if_neg hc];refine z4l xs j h fuel lo _ (by omega) (by omega) (by omega) h4 (λi hi' hil=>?_)
    by_cases e:i=(lo+hi) / 2
    ·subst e;omega
    ·exact yA (by omega) (YD (hp _ i hm hi' (by omega)))
  ·rw[if_neg hlt];have:lo=hi:=by omega
   subst this;exact⟨h2,h4,h5⟩
def z6k(xs:Array Nat)(j:Nat)(h:RS xs):YC xs j<=xs.size/\(∀i (hi:i<xs.size),i<YC xs j->xs[i]<j)/\∀i (hi':i<xs.size),YC xs j<=i->j<=xs[i] :=
 z4l xs j h xs.size 0 xs.size (yR _) (yj _) (by omega) (λi _ h=>by omega) (λi h1 h2=>by omega)
def zXl{α:Type}(xs:Array α)(p:Nat)(x:α):(SetTable.insertAt xs p x).toList=xs.toList.take p++x::xs.toList.drop p:=by
 unfold SetTable.insertAt;simp;rw[xi (by simp)]
def zTv{xs:Array Nat}{j:Nat}(h:RS xs)(hn:xs[YC xs j]?≠some j):RS (SetTable.insertAt xs (YC xs j) j):=by
 obtain⟨h0,h1,h2⟩:=z6k xs j h;unfold RS at h ⊢;rw[zXl];generalize YC xs j=r at *
 have hd:∀y∈xs.toList.drop r,j<y:=λy hy=>by
  obtain⟨i,hi,rfl⟩:=List.mem_iff_getElem.mp hy;simp at hi;have hi':r+i<xs.size:=by omega
  have h3:=h2 (r+i) hi' (by omega);have e:(xs.toList.drop r)[i]'(by simp;omega)=xs[r+i]:=by simp
  rw[e]
  by_cases hz:i=0
  ·subst hz;have:xs[r]?=some xs[r]:=by simp
   simp only[Nat.add_zero]at h3 ⊢;rw[this]at hn;have:xs[r]≠j:=λe=>hn (by rw[e]);omega
  ·have hp:=List.pairwise_iff_getElem.mp h r (r+i) (by simp;omega) (by simpa using hi') (by omega);simp at hp;have:=h2 r (by omega) (yj _);omega
 have ht:∀y∈xs.toList.take r,y<j:=λy hy=>by
  obtain⟨i,hi,rfl⟩:=List.mem_iff_getElem.mp hy;simp at hi;have e:(xs.toList.take r)[i]'(by simp;omega)=xs[i]:=by simp
  rw[e];exact h1 i (by omega) (by omega)
 rw[List.pairwise_append];refine⟨h.sublist (List.take_sublist _ _),List.pairwise_cons.mpr ⟨hd,h.sublist (List.drop_sublist _ _)⟩,λa ha b hb=>?_⟩;rcases List.mem_cons.mp hb with rfl|hb
 ·exact ht a ha
 ·exact Nat.lt_trans (ht a ha) (hd b hb)
structure TOk(L:Bool)(t:xm):Prop where
 rs:RS t.place
 nd:t.dummies = #[]
 led:t.led=L
def zxo{j:Nat}:SetTable.has #[] j=false:=by
 unfold SetTable.has;simp
def zNo{t:xm}(hn:t.dummies = #[]){ha:Nat->Int}{h:Int}:∀(fuel:Nat)(p:SetTable.Probe)(j:Nat)(d:Option Nat),p.dummy=none->SetTable.probe.go t ha h fuel p=some (.empty j d)->t.slot j=.empty/\d=none
 |0,p,j,d,_,e=>by unfold SetTable.probe.go at e;cases e
 |fuel+1,p,j,d,hd,e=>by
  unfold SetTable.probe.go at e
  have hadv:(t.advance p).dummy=none:=by
   unfold SetTable.advance
   split
   ·exact hd
   ·exact hd
  split at e
  ·rename_i hs
   cases e;exact⟨hs,hd⟩
  ·rename_i hs
   unfold SetTable.slot at hs;dsimp only at hs;rw[hn,zxo]at hs
   split at hs<;>simp at hs
  ·split at e
   ·cases e
   ·exact zNo hn fuel _ j d hadv e
def zdm{t:xm}(hn:t.dummies = #[]){h:Int}{j:Nat}{b:Bool}(e:t.freeSlot h=some (j,b)):t.place[YC t.place j]?≠some j:=by
 unfold SetTable.freeSlot at e
 split at e
 ·rename_i j' d hp
  obtain⟨h1,rfl⟩:=zNo hn _ _ _ _ rfl hp;cases e;unfold SetTable.slot at h1;dsimp only at h1;intro q;simp only[Option.getD_none]at q;rw[q]at h1;simp at h1
 ·cases e
def TOk.standIn{L:Bool}{t:xm}(h:TOk L t)(n:Nat):TOk L (t.standIn n):=by
 refine⟨?_,rfl,h.led⟩;unfold RS SetTable.standIn;rw[Array.toList_range];exact List.pairwise_lt_range
def TOk.layNew{L:Bool}{t:xm}(h:TOk L t)(es:Array (Int×yb))(hs:Int)(x:yb):TOk L (layNew t es hs x).2.1:=by
 unfold PySem.layNew
 split
 ·rename_i slot wd e
  have hne:=zdm h.nd e
  have h1:TOk L (t.put slot).1:=⟨zTv h.rs hne,by
   unfold SetTable.put;dsimp only;rw[h.nd,zxo];rfl,h.led⟩
  show TOk L ((t.put slot).1.orStandIn _);unfold SetTable.orStandIn
  split
  ·exact h1
  ·exact h1.standIn _
 ·exact h.standIn _
def TOk.relay{L:Bool}{t:xm}(h:TOk L t)(es:Array (Int×yb))(wanted:Nat):TOk L (relayAll t es wanted).2.1:=by
 unfold relayAll
 split
 ·rename_i t' order e
  dsimp only
  split
  ·unfold SetTable.relaid SetTable.laid at e;obtain⟨ow,_,e⟩:=Option.bind_eq_some_iff.mp e;cases e;refine⟨?_,rfl,h.led⟩;unfold RS;dsimp only;rw[pairwise_map];refine List.Pairwise.filterMap _ (λa a' hlt b hb b' hb'=>?_) List.pairwise_lt_range;simp at hb hb';obtain⟨_,_,rfl⟩:=hb;obtain⟨_,_,rfl⟩:=hb';exact hlt
  ·exact h.standIn _
 ·exact h.standIn _
def TOk.fresh(L:Bool):TOk L (.fresh 0 0 L):=⟨List.Pairwise.nil,rfl,rfl⟩
def z8j(e:Int×yb):Int:=match e.2 with
 |.int i _=>i
 |_=>0
def Tp(prog:yy)(w:yH)(h:Yb)(a:yg)(ks:List Int):Prop :=
 ∃o es ep t,h.get? a=some o/\o.ExactSet/\o.data=.set es ep t/\t.fits es.size=true/\TOk (!w.params.followText "set-order") t/\ElemsOf (intKind prog w) es.toList/\(es.toList.map z8j).Perm ks
section
variable {prog:yy}{w:yH}{A:yN}{E:yb->yc->Prop}{s:yc}
def zSr{es:List (Int×yb)}{e:Int×yb}{k:Int}(h:ElemsOf (intKind prog w) es)(he:e∈es):(intKind prog w).is k e.2=true↔z8j e=k:=by
 obtain⟨⟨j,hj,_⟩,_⟩:=h e he;obtain⟨t,ht⟩:=Value.isInt_shape (show Value.isInt j e.2=true from hj);unfold z8j;rw[ht];constructor
 ·intro q;obtain⟨u,hu⟩:=Value.isInt_shape (show Value.isInt k (.int j t)=true from q);cases hu;rfl
 ·intro q;have q:j=k:=q;rw[q];exact intKind_is prog w k t
def Tp.at'{h h':Yb}{a:yg}{ks:List Int}(x:Tp prog w h a ks)(k:∀o,h.get? a=some o->h'.get? a=some o):Tp prog w h' a ks:=by
 obtain⟨o,es,ep,t,h1,h2⟩:=x;exact⟨o,es,ep,t,k o h1,h2⟩
def zMo(b:Bool){Q:Unit->yc->Prop}(h:Q () s):yo (yx prog w) A (match b with|true=>rule "set.scan.the-table-gave-way" | false=>pure ()) Q E s:=by
 cases b
 ·exact yf h
 ·exact wpAny_rule h
def stored{o:xb}{h:Yb}{a:yg}{es:Array (Int×yb)}{ep:Nat}{t:xm}(ho:h.get? a=some o)(hd:o.data=.set es ep t)(es1:Array (Int×yb))(t1:xm) :
 (h.update a (Obj.putSet es1 t1)).get? a=some {o with data:=.set es1 (ep+1) t1 }:=by
 have e:=putSet_of es1 t1 hd;have q:=Yd (Obj.putSet es1 t1) ho (by rw[e];rfl);rw[e]at q;exact q
def zIu{a:yg}{ks:List Int}{k:Int}{tk:Tok}{Q:Bool->yc->Prop}(hS:Tp prog w s.heap a ks)(hroom:ks.length+1<scanBound)
 (h:∀b h',Yj a s.heap h'->Tp prog w h' a (if k∈ks then ks else ks++[k])->Q b {s with heap:=h' }):yo (yx prog w) A (setAddHashed a (.int k tk) (hashInt k)) Q E s:=by
 obtain⟨o,es,ep,t,ho,hex,hd,hf,hT,hel,hp⟩:=hS
 have hsz:es.size=ks.length:=by
  have:=hp.length_eq;simpa using this
 have hmem:k∈ks↔∃e∈es.toList,z8j e=k:=by
  rw[<-hp.mem_iff,mem_map]
 unfold setAddHashed setAddHashedIn;refine yP (ya (YM ho hd hf ?_));dsimp only;rw[byScan_of (knd:=intKind prog w) (x:=.int k tk) rfl (by omega) hel];simp only[↓reduceIte];unfold setAddByScan;refine ya (ya (wpAny_rule (ya (wpAny_setScan_of (knd:=intKind prog w) (k:=k) (intKind_is prog w k tk) ho hd hf hel ?_))))
 cases hr:List.findIdx? (λe=>(intKind prog w).is k e.2) es.toList with
 |some j=>
  dsimp only;obtain⟨hj,hpj,_⟩:=List.findIdx?_eq_some_iff_getElem.mp hr;have hk:k∈ks:=hmem.mpr ⟨es.toList[j],getElem_mem hj,(zSr hel (getElem_mem hj)).mp hpj⟩;have q:=h false s.heap (Heap.SameBut.refl a s.heap) ⟨o,es,ep,t,ho,hex,hd,hf,hT,hel,by rw[if_pos hk];exact hp⟩;exact yf (yf q)
 |none=>
  dsimp only
  have hk:k∉ks:=λhk=>by
   obtain⟨e,he,q⟩:=hmem.mp hk;have:=List.findIdx?_eq_none_iff.mp hr e he;rw[(zSr hel he).mpr q]at this;cases this
  rw[if_neg hk]at h;have p1:=layNew_perm t es (hashInt k) (.int k tk);have f1:=layNew_fits t es (hashInt k) (.int k tk);have T1:=hT.layNew es (hashInt k) (.int k tk);show yo _ _ (_ >>= _) _ _ _;generalize layNew t es (hashInt k) (.int k tk)=L1 at p1 f1 T1 ⊢;obtain⟨es1,t1,wd,gv⟩:=L1;dsimp only at p1 f1 T1 ⊢;rw[Array.toList_push]at p1;have el1:ElemsOf (intKind prog w) es1.toList:=(hel.push (intKind_is prog w k tk) rfl).perm p1
  have pk1:(es1.toList.map z8j).Perm (ks++[k]):=by
   refine(p1.map z8j).trans ?_;rw[map_append];exact hp.append_right _
  have z1:es1.size=ks.length+1:=by
   have:=pk1.length_eq;simpa using this
  refine ya (zMo gv ?_)
  have fin:yo (yx prog w) A (do
   storeSet a es1 t1
   if (!wd && t1.tooFull)=true then
    match relayAll t1 es1 (Xc es1.size) with
    |(es2,t2,gv2)=>do
     (match gv2 with|true=>rule "set.scan.the-table-gave-way" | false=>pure ())
     storeSet a es2 t2
     pure (some true)
   else pure (some true)) (λr s'=>∃h',s' = {s with heap:=h' }/\r=some true/\Yj a s.heap h'/\Tp prog w h' a (ks++[k])) E s:=by
   refine ya (wpAny_storeSet_of ho hd ?_ (fits_of_scanBound (by omega)));have s1:=stored ho hd es1 t1;have b1:=Yo s.heap a (Obj.putSet es1 t1)
   split
   ·have p2:=relayAll_perm t1 es1 (Xc es1.size);have f2:=relayAll_fits t1 es1 (Xc es1.size);have T2:=T1.relay es1 (Xc es1.size);generalize relayAll t1 es1 (Xc es1.size)=L2 at p2 f2 T2 ⊢;obtain⟨es2,t2,gv2⟩:=L2;dsimp only at p2 f2 T2 ⊢
    have z2:es2.size=es1.size:=by
     have:=p2.length_eq;simpa using this
    refine ya (zMo gv2 (ya (wpAny_storeSet_of s1 rfl ?_ (fits_of_scanBound (by omega)))));exact yf ⟨_,rfl,rfl,b1.trans (Yo _ a _),_,es2,_,t2,stored s1 rfl es2 t2,hex,rfl,f2,T2,el1.perm p2,(p2.map z8j).trans pk1⟩
   ·exact yf ⟨_,rfl,rfl,b1,_,es1,_,t1,s1,hex,rfl,f1,T1,el1,pk1⟩
  have goal2:yo (yx prog w) A (do
   storeSet a es1 t1
   if (!wd && t1.tooFull)=true then
    match relayAll t1 es1 (Xc es1.size) with
    |(es2,t2,gv2)=>do
     (match gv2 with|true=>rule "set.scan.the-table-gave-way" | false=>pure ())
     storeSet a es2 t2
     pure (some true)
   else pure (some true)) (λr s'=>yo (yx prog w) A (match r with|some added=>pure added|none=>setAddHashedIn a (.int k tk) (hashInt k) 99999) Q E s') E s:=by
   refine YU fin (λr s' ⟨h',e1,e2,b,x⟩=>?_) λ_ _ z=>z;subst e1 e2;exact yf (h true h' b x)
  split
  ·refine ya ?_;rw[hashByValue_scannable 8 (x:=.int k tk) rfl];exact yf goal2
  ·exact ya (yf goal2)
end
def zbi{α:Type}:∀(l:List α)(i:Nat)(h:i<l.length),(l[i]::l.eraseIdx i).Perm l
 |[],i,h=>by simp at h
 |y::ys,0,h=>by simp
 |y::ys,i+1,h=>by
  have h':i<ys.length:=by simpa using h
  show(ys[i]::y::ys.eraseIdx i).Perm (y::ys);exact(List.Perm.swap y ys[i] _).trans ((zbi ys i h').cons y)
def zyq{α:Type}(next:Nat->Nat):∀(fuel k:Nat)(rest:List α)(out:Array α),rest.length<=fuel->(pickOrder.go next fuel k rest out).toList.Perm (out.toList++rest)
 |0,k,rest,out,h=>by
  have:rest=[]:=List.length_eq_zero_iff.mp (Nat.le_zero.mp h);subst this;unfold pickOrder.go;simp
 |fuel+1,k,rest,out,h=>by
  unfold pickOrder.go
  cases rest with
  |nil=>simp
  |cons y ys=>
   have hlt:next k%(y::ys).length<(y::ys).length:=Nat.mod_lt _ (by simp);rw[yd hlt];dsimp only;refine(zyq next fuel (k+1) _ _ (by rw[List.length_eraseIdx_of_lt hlt];simp at h ⊢;omega)).trans ?_;rw[Array.toList_push,append_assoc];exact List.Perm.append_left _ (zbi _ _ hlt)
def zDj{α:Type}(next:Nat->Nat)(xs:Array α):(pickOrder next xs).toList.Perm xs.toList:=by
 unfold pickOrder;exact(zyq next xs.size 0 xs.toList #[] (by simp)).trans (by simp)
def tE:Slot "set_iterator" "__next__" "set_iterator.__next__" :=
 .of (owner:="set_iterator") (n:="__next__") (by rw[typeLookup_type,xS];kernel_rfl) (by decide +kernel) (by decide +kernel) (by decide +kernel) (by first|exact .inl (by decide +kernel)|exact .inr (by decide +kernel)) (by rw[isSubtype_type];kernel_rfl)
def zyi:Slot "set_iterator" "__iter__" "set_iterator.__iter__" :=
 .of (owner:="set_iterator") (n:="__iter__") (by rw[typeLookup_type,xS];kernel_rfl) (by decide +kernel) (by decide +kernel) (by decide +kernel) (by first|exact .inl (by decide +kernel)|exact .inr (by decide +kernel)) (by rw[isSubtype_type];kernel_rfl)
def znd:entryFor table "set_iterator.__next__"=some YY.«set_iterator.__next__»:=entryFor_of_tree (by kernel_rfl)
def zRl:entryFor table "set_iterator.__iter__"=some YY.«dict_keyiterator.__iter__»:=entryFor_alias (id':="dict_keyiterator.__iter__") (by kernel_rfl) rfl (by decide +kernel) (by kernel_rfl)
def zfe(a:yb):argsOk "set_iterator.__next__" ⟨[a],[]⟩:=by unfold argsOk;kernel_rfl
def zfn(a:yb):argsOk "set_iterator.__iter__" ⟨[a],[]⟩:=by unfold argsOk;kernel_rfl
def zpm:entryFor table "set.__iter__"=some YY.«frozenset.__iter__»:=entryFor_alias (id':="frozenset.__iter__") (by kernel_rfl) rfl (by decide +kernel) (by kernel_rfl)
def SIt(h:Yb)(it a:yg)(first:yb)(i n ep:Nat):Prop:=∃o,h.get? it=some o/\o.cls=.type "set_iterator"/\o.data=.fields #[first,.int i 0,.ref a,.int n 0,.int ep 0]
def SOb(h:Yb)(a:yg)(es:Array (Int×yb))(ep:Nat)(t:xm):Prop:=∃o,h.get? a=some o/\o.cls=.type "set"/\o.data=.set es ep t/\t.fits es.size=true
section
variable {prog:yy}{w:yH}{A:yN}{E:yb->yc->Prop}{s:yc}
def SIt.typeIs{it a:yg}{first:yb}{i n ep:Nat}(x:SIt s.heap it a first i n ep):s.TypeIs (.ref it) "set_iterator":=let ⟨o,ho,hc,_⟩:=x;⟨o,ho,hc⟩
def SIt.at'{h h':Yb}{it a:yg}{first:yb}{i n ep:Nat}(x:SIt h it a first i n ep)(k:∀o,h.get? it=some o->h'.get? it=some o):SIt h' it a first i n ep:=let ⟨o,ho,r⟩:=x;⟨o,k o ho,r⟩
def SOb.at'{h h':Yb}{a:yg}{es:Array (Int×yb)}{ep:Nat}{t:xm}(x:SOb h a es ep t)(k:∀o,h.get? a=some o->h'.get? a=some o):SOb h' a es ep t:=let ⟨o,ho,r⟩:=x;⟨o,k o ho,r⟩
def zer{it:yg}{o:xb}{vs:Array yb}{Q:Option yb->yc->Prop}(hh:A.handled=none)(ho:s.heap.get? it=some o)(hd:o.data=.fields vs)(h2:2<vs.size)
 (hQ:∀h',Xd it s.heap h'->Q none {s with heap:=h' }) :
 yo (yx prog w) A.in1 (do setField (.ref it) 2 .none;raiseNew (<-newExc (.type "StopIteration") []):Sem Fin)
  (λ_ _=>False) (λe s'=>yo (yx prog w) A (do if <-isInstance e (.type "StopIteration") then pure none else throw e) Q E s') s:=by
 refine ya (xI ho hd h2 ?_);refine ya ?_;simp only[newExc,newTuple];refine ya (yT ?_ (by size_fits));refine ya (m:=firstArgMember _ _) (wpAny_of_eq (a:=YE) (by first|rfl|(simp only[firstArgMember];rfl)) ?_);refine yT ?_ (by size_fits);simp only[raiseNew];refine ya (wpAny_handled ?_);have e:A.in1.handled=none:=hh;rw[e];refine ya (yf (wpAny_throw ?_));refine ya (wpAny_isInstance (T:="StopIteration") (b:=true) ⟨_,yn _ rfl,rfl⟩ isSubtype_stop ?_);exact yf (hQ _ (((Yo s.heap it _).extBut.push _).push _))
variable {it a:yg}{es:Array (Int×yb)}{ep i:Nat}{t:xm}{Q:Option yb->yc->Prop}
def zam(n:Nat):¬(((n:Int) != (n:Int))=true):=by simp
def zWj{slot nx:Nat}{x:yb}(hI:SIt s.heap it a (.int slot 0) i es.size ep)(hO:SOb s.heap a es ep t)
 (hn:∀(Q':Option (yb×Nat)->yc->Prop) (E':yb->yc->Prop),Q' (some (x,nx)) s->yo (yx prog w) A.in1 (setNext a slot i ep) Q' E' s)
 (hQ:∀h',SIt h' it a (.int nx 0) (i+1) es.size ep->Yj it s.heap h'->Q (some x) {s with heap:=h' }):yo (yx prog w) A (xY (.ref it)) Q E s:=by
 obtain⟨o,ho,hc,hd⟩:=id hI;obtain⟨oa,hoa,_,hda,hfa⟩:=hO;unfold xY;refine ya (wpAny_attempt (yW (name:=YL "__next__") hI.typeIs tE (yQ tE hI.typeIs znd ?_ (zfe _))));unfold YY.«set_iterator.__next__»;refine ya (m:=slotArgs "__next__" 0 ⟨[YG it],[]⟩) (yf ?_);refine ya (wpAny_fieldsOf ho hd ?_);dsimp only;refine ya (xE hoa hda hfa ?_);rw[if_neg (zam es.size)];refine ya (hn _ _ ?_);dsimp only;refine ya (xI ho hd (by simp) ?_);have ho1:=Yd (Obj.mapFields (·.setIfInBounds 0 (YF nx))) ho (xo (Yq hd _));have hd1:=Yq hd (·.setIfInBounds 0 (YF nx));refine ya (xI ho1 hd1 (by simp) (yf ⟨x,rfl,yf (hQ _ ?_ ((Yo s.heap it _).trans (Yo _ it _)))⟩));refine⟨_,Yd _ ho1 (xo (Yq hd1 _)),(Obj.cls_mapFields ..).trans ((Obj.cls_mapFields ..).trans hc),?_⟩;rw[Yq hd1];simp[YF]
def zXk{slot:Nat}(hh:A.handled=none)(hI:SIt s.heap it a (.int slot 0) i es.size ep)(hO:SOb s.heap a es ep t)
 (hn:∀(Q':Option (yb×Nat)->yc->Prop) (E':yb->yc->Prop),Q' none s->yo (yx prog w) A.in1 (setNext a slot i ep) Q' E' s)
 (hQ:∀h',Xd it s.heap h'->Q none {s with heap:=h' }):yo (yx prog w) A (xY (.ref it)) Q E s:=by
 obtain⟨o,ho,hc,hd⟩:=id hI;obtain⟨oa,hoa,_,hda,hfa⟩:=hO;unfold xY;refine ya (wpAny_attempt (yW (name:=YL "__next__") hI.typeIs tE (yQ tE hI.typeIs znd ?_ (zfe _))));unfold YY.«set_iterator.__next__»;refine ya (m:=slotArgs "__next__" 0 ⟨[YG it],[]⟩) (yf ?_);refine ya (wpAny_fieldsOf ho hd ?_);dsimp only;refine ya (xE hoa hda hfa ?_);rw[if_neg (zam es.size)];refine ya (hn _ _ ?_);dsimp only;exact YU (zer (Q:=Q) (E:=E) hh ho hd (by simp) hQ) (λ_ _ z=>z.elim) λ_ _ z=>z
def zOn{tup:yg}{ot:xb}{items:Array yb}{nt place:Nat}{x:yb}{hx:Int}(hI:SIt s.heap it a (.ref tup) i es.size ep)(hO:SOb s.heap a es ep t)(hot:s.heap.get? tup=some ot)(hdt:ot.data=.seq items nt)
 (hp:items[i]?=some (.int place 0)) (he:es[place]?=some (hx,x))
 (hQ:∀h',SIt h' it a (.ref tup) (i+1) es.size ep->Yj it s.heap h'->Q (some x) {s with heap:=h' }):yo (yx prog w) A (xY (.ref it)) Q E s:=by
 obtain⟨o,ho,hc,hd⟩:=id hI;obtain⟨oa,hoa,_,hda,hfa⟩:=hO;unfold xY;refine ya (wpAny_attempt (yW (name:=YL "__next__") hI.typeIs tE (yQ tE hI.typeIs znd ?_ (zfe _))));unfold YY.«set_iterator.__next__»;refine ya (m:=slotArgs "__next__" 0 ⟨[YG it],[]⟩) (yf ?_);refine ya (wpAny_fieldsOf ho hd ?_);dsimp only;refine ya (xE hoa hda hfa ?_);rw[if_neg (zam es.size)];refine ya (wpAny_seqItems hot hdt ?_);dsimp only;simp only[yJ,hp];unfold setNextDrawn;refine ya (ya (YM hoa hda hfa ?_));dsimp only;rw[if_neg (by simp),he];dsimp only;refine yf ?_;refine ya (xI ho hd (by simp) (yf ⟨x,rfl,yf (hQ _ ?_ (Yo s.heap it _))⟩));refine⟨_,Yd _ ho (xo (Yq hd _)),(Obj.cls_mapFields ..).trans hc,?_⟩;rw[Yq hd];simp[YF]
def zKp{tup:yg}{ot:xb}{items:Array yb}{nt:Nat}(hh:A.handled=none)(hI:SIt s.heap it a (.ref tup) i es.size ep)(hO:SOb s.heap a es ep t)(hot:s.heap.get? tup=some ot)(hdt:ot.data=.seq items nt)
 (hp:items[i]?=none) (hQ:∀h',Xd it s.heap h'->Q none {s with heap:=h' }):yo (yx prog w) A (xY (.ref it)) Q E s:=by
 obtain⟨o,ho,hc,hd⟩:=id hI;obtain⟨oa,hoa,_,hda,hfa⟩:=hO;unfold xY;refine ya (wpAny_attempt (yW (name:=YL "__next__") hI.typeIs tE (yQ tE hI.typeIs znd ?_ (zfe _))));unfold YY.«set_iterator.__next__»;refine ya (m:=slotArgs "__next__" 0 ⟨[YG it],[]⟩) (yf ?_);refine ya (wpAny_fieldsOf ho hd ?_);dsimp only;refine ya (xE hoa hda hfa ?_);rw[if_neg (zam es.size)];refine ya (wpAny_seqItems hot hdt ?_);dsimp only;simp only[yJ,hp];refine ya (xI ho hd (by simp) ?_);have ho1:=Yd (Obj.mapFields (·.setIfInBounds 0 (YF 0))) ho (xo (Yq hd _));have hd1:=Yq hd (·.setIfInBounds 0 (YF 0));exact YU (zer (Q:=Q) (E:=E) hh ho1 hd1 (by simp) λh' x=>hQ h' λb o' hb e=>x b o' hb ((Yo s.heap it _).extBut b o' hb e)) (λ_ _ z=>z.elim) λ_ _ z=>z
def zzh{Q:Bool->yc->Prop}(h:Q (w.params.followText "set-order") s):yo (yx prog w) A setsByText Q E s:=by
 unfold setsByText;exact ya (wpAny_askSetting (yf h))
def zVm{slot:Nat}(hw:w.params.followText "set-order"=true)(hO:SOb s.heap a es ep t){Q:Option (yb×Nat)->yc->Prop}(h:Q (((pickOrder (w.params.setOrder a ep) es)[i]?).map λe=>(e.2,slot)) s) :
 yo (yx prog w) A (setNext a slot i ep) Q E s:=by
 obtain⟨oa,hoa,_,hda,hfa⟩:=hO;unfold setNext;refine ya (YM hoa hda hfa ?_);dsimp only;refine ya (zzh ?_);rw[hw,if_pos rfl,if_neg (by simp)];unfold setWalk;refine ya (ya (YM hoa hda hfa ?_));dsimp only;refine ya (zzh ?_);rw[hw,if_pos rfl];exact ya (wpAny_askSetting (yf (yf h)))
def zCe(t:xm)(i:Nat):Nat:=if i=0 then 0 else t.place.getD (i-1) 0+1
def z0p(h:RS t.place)(hi:i<=t.place.size):YC t.place (zCe t i)=i:=by
 obtain⟨h0,h1,h2⟩:=z6k t.place (zCe t i) h
 have hp:∀i k (hi:i<t.place.size) (hk:k<t.place.size),i<k->t.place[i]<t.place[k]:=λi k hi hk hik=>by
  have:=List.pairwise_iff_getElem.mp h i k (by simpa using hi) (by simpa using hk) hik;simpa using this
 generalize hr:YC t.place (zCe t i)=r at *;unfold zCe at h1 h2
 by_cases hz:i=0
 ·subst hz;rw[if_pos rfl]at h1
  by_cases hr0:0<r
  ·have:=h1 0 (by omega) hr0;omega
  ·omega
 ·rw[if_neg hz]at h1 h2;have hl:i-1<t.place.size:=by omega
  have hg:t.place.getD (i-1) 0=t.place[i-1]:=by simp[Xb,hl]
  rw[hg]at h1 h2;rcases Nat.lt_trichotomy r i with hlt|he|hgt
  ·have h3:=h2 (i-1) hl (by omega);omega
  ·exact he
  ·have h3:=h1 i (by omega) hgt;have h4:=hp (i-1) i hl (by omega) (by omega);omega
def zAk(hw:w.params.followText "set-order"=false)(hd:(!t.plain&&decide (es.size>1))=false)(hT:TOk true t)(hi:i<=es.size)(hO:SOb s.heap a es ep t){Q:Option (yb×Nat)->yc->Prop}(h:Q ((es[i]?).map λe=>(e.2,zCe t (i+1))) s) :
 yo (yx prog w) A (setNext a (zCe t i) i ep) Q E s:=by
 obtain⟨oa,hoa,_,hda,hfa⟩:=hO
 have hsz:t.place.size=es.size:=by
  unfold SetTable.fits at hfa;rw[yG]at hfa;exact beq_iff_eq.mp hfa.1
 unfold setNext;refine ya (YM hoa hda hfa ?_);dsimp only;refine ya (zzh ?_);rw[hw,if_neg yv];refine YR (λhab=>?_) λ_=>?_
 ·have hab:(!t.plain&&decide (es.size>1))=true:=hab;rw[hd]at hab;cases hab
 ·refine ya ?_
  have led:yo (yx prog w) A (if(!t.led && !es.isEmpty)=true then unsupported "set:maker-not-led" else pure ()) (λ_ s'=>yo (yx prog w) A (pure (match es[YC t.place (zCe t i)]?,t.place[YC t.place (zCe t i)]? with
   |some (_,x),some j=>some (x,j+1)
   |_,_=>none):Sem (Option (yb×Nat))) Q E s') E s:=by
   rw[hT.led,if_neg (by simp)];refine yf (yf ?_);rw[z0p hT.rs (by omega)]
   by_cases hlt:i<es.size
   ·have e1:es[i]?=some es[i]:=by simp[hlt]
    have e2:t.place[i]?=some (t.place[i]'(by omega)):=by simp[show i<t.place.size by omega]
    rw[e1]at h;rw[e1,e2]
    have e3:zCe t (i+1)=t.place[i]'(by omega)+1:=by
     unfold zCe;rw[if_neg (by omega)];simp[Xb,show i<t.place.size by omega]
    rw[e3]at h;exact h
   ·have e1:es[i]?=none:=by simp;omega
    rw[e1]at h;rw[e1];exact h
  exact led
def zWk{α:Type}:∀(n:Nat)(xs:List α)(s:yc)(Q:List α->yc->Prop),n=xs.length->(∀ys d,ys.Perm xs->Q ys {s with drawn:=d })->yo (yx prog w) A (drawOrder n xs) Q E s
 |0,xs,s,Q,hn,h=>by
  have:xs=[]:=List.length_eq_zero_iff.mp hn.symm;subst this;exact yf (h [] s.drawn .nil)
 |n+1,[],s,Q,hn,h=>by simp at hn
 |n+1,x::xs,s,Q,hn,h=>by
  unfold drawOrder;refine ya ?_;intro Γ p hΓ;unfold choose;rw[Sem.wp_choose];refine⟨by simp,?_⟩;have hlt:(yx prog w).w.draws .order (s.drawn.get .order)%(x::xs).length<(x::xs).length:=Nat.mod_lt _ (by simp);generalize (yx prog w).w.draws .order (s.drawn.get .order)%(x::xs).length=j at hlt ⊢;generalize s.drawn.bump .order=d1
  have main:yo (yx prog w) A (match(x::xs)[j]? with
   |some y=>do return y::(<-drawOrder n ((x::xs).eraseIdx j))
   |none=>unsupported "internal:drawOrder") Q E {s with drawn:=d1 }:=by
   rw[yd hlt];dsimp only;refine ya (zWk n _ _ _ (by rw[List.length_eraseIdx_of_lt hlt];simp at hn ⊢;omega) λys d hp=>yf (h _ d ?_));exact(hp.cons _).trans (zbi _ _ hlt)
  simp only[Sem.wp_pure];exact main
variable {I:yg}
def z8n{first:yb}{n:Nat}{Q:yb->yc->Prop}(hI:SIt s.heap I a first i n ep)(h:Q (.ref I) s):yo (yx prog w) A (pyIter (.ref I)) Q E s:=by
 refine wpAny_pyIter_slot hI.typeIs zyi (yQ zyi hI.typeIs zRl ?_ (zfn _));unfold YY.«dict_keyiterator.__iter__»;refine ya (m:=slotArgs "__iter__" 0 ⟨[YG I],[]⟩) (yf ?_);exact yf ⟨_,rfl,"set_iterator",_,hI.typeIs,tE.lookup,h⟩
abbrev zBv(ent:List (Int×yb))(i:Nat)(v:yb):Prop:=∃k,ent[i]?=some (k,v)
def zFr(hh:A.handled=none)(hne:a≠I)(hw:w.params.followText "set-order"=true) :
 Walks prog w A I [I,a] [I] es.size (zBv (pickOrder (w.params.setOrder a ep) es).toList) (λi h=>SIt h I a (.int ((0:Nat):Int) 0) i es.size ep/\SOb h a es ep t) where
 sub:=λb hb=>by simp at hb;simp[hb]
 frame:=λ_ _ _ st hk=>⟨st.1.at' λo e=>hk I (by simp) o e,st.2.at' λo e=>hk a (by simp) o e⟩
 item:=λi s Q E hi st hQ=>by
  have hl:(pickOrder (w.params.setOrder a ep) es).size=es.size:=by
   have:=(zDj (w.params.setOrder a ep) es).length_eq;simpa using this
  have hi':i<(pickOrder (w.params.setOrder a ep) es).size:=by omega
  have e1:(pickOrder (w.params.setOrder a ep) es)[i]?=some (pickOrder (w.params.setOrder a ep) es)[i]:=by simp[hi']
  refine zWj (nx:=0) (x:=(pickOrder (w.params.setOrder a ep) es)[i].2) st.1 st.2 (λQ' E' hq=>zVm hw st.2 (by rw[e1];exact hq)) λh' x sb=>?_;refine hQ _ h' s.toks ⟨_,by rw[xR,e1]⟩ ⟨x,st.2.at' λo e=>sb.extBut a o hne e⟩ λb o hb e=>sb.extBut b o (λh=>hb (by simp[h])) e
 done:=λs Q E st hQ=>by
  have hl:(pickOrder (w.params.setOrder a ep) es).size=es.size:=by
   have:=(zDj (w.params.setOrder a ep) es).length_eq;simpa using this
  refine zXk hh st.1 st.2 (λQ' E' hq=>zVm hw st.2 (by rw[show(pickOrder (w.params.setOrder a ep) es)[es.size]?=none by simp;omega];exact hq)) λh' x=>hQ h' s.toks λb o hb e=>x b o (λh=>hb (by simp[h])) e
 self:=λ_ _ _ _ st hQ=>z8n st.1 hQ
def z9p(hh:A.handled=none)(hne:a≠I)(hw:w.params.followText "set-order"=false)(hd:(!t.plain&&decide (es.size>1))=false)(hT:TOk true t) :
 Walks prog w A I [I,a] [I] es.size (zBv es.toList) (λi h=>SIt h I a (.int (zCe t i:Nat) 0) i es.size ep/\SOb h a es ep t) where
 sub:=λb hb=>by simp at hb;simp[hb]
 frame:=λ_ _ _ st hk=>⟨st.1.at' λo e=>hk I (by simp) o e,st.2.at' λo e=>hk a (by simp) o e⟩
 item:=λi s Q E hi st hQ=>by
  have e1:es[i]?=some es[i]:=by simp[hi]
  refine zWj (nx:=zCe t (i+1)) (x:=es[i].2) st.1 st.2 (λQ' E' hq=>zAk hw hd hT (by omega) st.2 (by rw[e1];exact hq)) λh' x sb=>?_;refine hQ _ h' s.toks ⟨_,by rw[xR,e1]⟩ ⟨x,st.2.at' λo e=>sb.extBut a o hne e⟩ λb o hb e=>sb.extBut b o (λh=>hb (by simp[h])) e
 done:=λs Q E st hQ=>by
  refine zXk hh st.1 st.2 (λQ' E' hq=>zAk hw hd hT (by omega) st.2 (by rw[show es[es.size]?=none by simp];exact hq)) λh' x=>hQ h' s.toks λb o hb e=>x b o (λh=>hb (by simp[h])) e
 self:=λ_ _ _ _ st hQ=>z8n st.1 hQ
def ztp{tup:yg}{ord:List Nat}{nt:Nat}(hh:A.handled=none)(hne:a≠I)(hne2:tup≠I)(hp:ord.Perm (yi es.size)) :
 Walks prog w A I [I,a,tup] [I] es.size (zBv (ord.map λj=>es.getD j (0,.none))) (λi h=>SIt h I a (.ref tup) i es.size ep/\SOb h a es ep t/\∃ot,h.get? tup=some ot/\ot.data=.seq (ord.map λ(j:Nat)=>YF j).toArray nt) where
 sub:=λb hb=>by simp at hb;simp[hb]
 frame:=λ_ _ _ st hk=>⟨st.1.at' λo e=>hk I (by simp) o e,st.2.1.at' λo e=>hk a (by simp) o e,let ⟨ot,h1,h2⟩:=st.2.2;⟨ot,hk tup (by simp) ot h1,h2⟩⟩
 item:=λi s Q E hi st hQ=>by
  obtain⟨st1,st2,ot,h1,h2⟩:=st
  have hl:ord.length=es.size:=by
   have:=hp.length_eq;simpa using this
  have hi':i<ord.length:=by omega
  have hj:ord[i]<es.size:=by
   have:=hp.mem_iff.mp (getElem_mem hi');simpa using this
  have e1:es[ord[i]]?=some es[ord[i]]:=by simp[hj]
  refine zOn (x:=es[ord[i]].2) (place:=ord[i]) (hx:=es[ord[i]].1) st1 st2 h1 h2 (by simp[hi',YF]) e1 λh' x sb=>?_;refine hQ _ h' s.toks ⟨es[ord[i]].1,by simp[hi',Xb,hj]⟩ ⟨x,st2.at' λo e=>sb.extBut a o hne e,ot,sb.extBut tup ot hne2 h1,h2⟩ λb o hb e=>sb.extBut b o (λh=>hb (by simp[h])) e
 done:=λs Q E st hQ=>by
  obtain⟨st1,st2,ot,h1,h2⟩:=st
  have hl:ord.length=es.size:=by
   have:=hp.length_eq;simpa using this
  refine zKp hh st1 st2 h1 h2 (by simp;omega) λh' x=>hQ h' s.toks λb o hb e=>x b o (λh=>hb (by simp[h])) e
 self:=λ_ _ _ _ st hQ=>z8n st.1 hQ
def zfm{ord:List Nat}(hp:ord.Perm (yi es.size)):(ord.map λj=>es.getD j (0,.none)).Perm es.toList:=by
 refine(hp.map _).trans ?_
 have:(yi es.size).map (λj=>es.getD j (0,YE))=es.toList:=by
  apply ext_getElem
  ·simp
  ·intro n h1 h2;simp at h1 h2;simp[Xb,h1]
 rw[this]
def zqx(prog:yy)(w:yH)(A:yN)(s:yc)(es:Array (Int×yb))(a:yg)(I:yg)(s':yc):Prop :=
 ∃fp ent St,Walks prog w A I fp [I] es.size (zBv ent) St/\St 0 s'.heap/\ent.Perm es.toList/\s.heap.objs.size<=I/\(∀b∈fp,s.heap.objs.size<=b\/b=a)/\(∀b∈fp,b<s'.heap.objs.size)/\(∀b o,s.heap.get? b=some o->s'.heap.get? b=some o)/\∃d,s' = {s with heap:=s'.heap,drawn:=d }
def z0s{Q:yb->yc->Prop}(hh:A.handled=none)(hT:TOk (!w.params.followText "set-order") t)(hO:SOb s.heap a es ep t)(hsz:es.size<=yE)
 (h:∀I s',zqx prog w A s es a I s'->Q (.ref I) s'):yo (yx prog w) A (pyIter (.ref a)) Q E s:=by
 obtain⟨oa,hoa,hca,hda,hfa⟩:=id hO;have hTy:s.TypeIs (.ref a) "set":=⟨oa,hoa,hca⟩
 have hlt:a<s.heap.objs.size:=ym hoa;refine wpAny_pyIter_slot hTy F.slot_set_iter (yQ F.slot_set_iter hTy zpm ?_ (F.args_set_iter_1 _));unfold YY.«frozenset.__iter__»;refine ya (m:=Builtin.Frozenset.slot0 "__iter__" ⟨[YG a],[]⟩) (yf ?_);unfold Builtin.Frozenset.sizeOf;refine ya (ya (xE hoa hda hfa (yf ?_)));unfold setDrawn;refine ya (ya (YM hoa hda hfa ?_));dsimp only;refine ya (zzh (yf ?_));refine YR (λhab=>?_) λhab=>?_
 ·have hab:(!w.params.followText "set-order" && (!t.plain&&decide (es.size>1)))=true:=hab;refine ya (zWk es.size _ _ _ (by simp) λord d hp=>?_)
  have hol:ord.length=es.size:=by
   have:=hp.length_eq;simpa using this
  unfold newTuple;refine ya (yT ?_ (by show(List.map (λ(i:Nat)=>YF i) ord).toArray.size<=yE;simp;omega));have hg:(s.heap.push {cls:=.type "tuple",data:=.seq (ord.map λ(i:Nat)=>YF i).toArray }).get? a=some oa:=ye _ hoa;refine ya ?_;unfold setEpoch;refine ya (YM (s:={s with heap:=_,drawn:=d }) hg hda hfa (yf ?_));unfold newFields;refine ya (yT (yf ⟨_,rfl,"set_iterator",_,⟨_,yn _ rfl,rfl⟩,tE.lookup,?_⟩));have hs1:(s.heap.push {cls:=.type "tuple",data:=.seq (ord.map λ(i:Nat)=>YF i).toArray }).objs.size=s.heap.objs.size+1:=by rw[Yr]
  refine h _ _ ⟨[(s.heap.push {cls:=.type "tuple",data:=.seq (ord.map λ(i:Nat)=>YF i).toArray }).objs.size,a,s.heap.objs.size],ord.map λj=>es.getD j (0,.none),_,
   ztp (t:=t) (ep:=ep) (nt:=0) hh (by rw[hs1];exact yt (yX hlt)) (by rw[hs1];exact yt (YA _)) hp,⟨⟨_,yn _ rfl,rfl,by simp[YF]⟩,⟨oa,ye _ hg,hca,hda,hfa⟩,_,ye _ (yn _ rfl),rfl⟩,
   zfm hp,by rw[hs1];exact xJ _,?_,?_,λb o e=>ye _ (ye _ e),d,rfl⟩
  ·intro b hb;rw[hs1]at hb;simp at hb;rcases hb with rfl|rfl|rfl
   ·exact .inl (xJ _)
   ·exact .inr rfl
   ·exact .inl (yj _)
  ·intro b hb;show b<((s.heap.push _).push _).objs.size;rw[Yr,hs1];rw[hs1]at hb;simp at hb;rcases hb with rfl|rfl|rfl
   ·exact YA _
   ·exact yX (yX hlt)
   ·exact yX (YA _)
 ·have hab:¬(!w.params.followText "set-order" && (!t.plain&&decide (es.size>1)))=true:=hab;refine ya (yf ?_);refine ya ?_;unfold setEpoch;refine ya (YM hoa hda hfa (yf ?_));unfold newFields;refine ya (yT (yf ⟨_,rfl,"set_iterator",_,⟨_,yn _ rfl,rfl⟩,tE.lookup,?_⟩))
  have pre:∀(ent:List (Int×yb)) (St:Nat->Yb->Prop),Walks prog w A s.heap.objs.size [s.heap.objs.size,a] [s.heap.objs.size] es.size (zBv ent) St->St 0 (s.heap.push {cls:=.type "set_iterator",data:=.fields #[YF 0,YF 0,.ref a,YF es.size,YF ep]})->ent.Perm es.toList ->
   Q (.ref s.heap.objs.size) {s with heap:=s.heap.push {cls:=.type "set_iterator",data:=.fields #[YF 0,YF 0,.ref a,YF es.size,YF ep]}}:=λent St W st hp=>
   h _ _ ⟨_,ent,St,W,st,hp,yj _,λb hb=>by simp at hb;rcases hb with rfl|rfl;exact .inl (yj _);exact .inr rfl,λb hb=>by
    show b<(s.heap.push _).objs.size;rw[Yr];simp at hb;rcases hb with rfl|rfl
    ·exact YA _
    ·exact yX hlt,λb o e=>ye _ e,s.drawn,rfl⟩
  cases hw:w.params.followText "set-order" with
  |true=>exact pre _ _ (zFr (t:=t) (ep:=ep) hh (yt hlt) hw) ⟨⟨_,yn _ rfl,rfl,by simp[YF]⟩,⟨oa,ye _ hoa,hca,hda,hfa⟩⟩ (zDj _ _)
  |false=>
   rw[hw]at hab hT;exact pre _ _ (z9p (t:=t) (ep:=ep) hh (yt hlt) hw (by simpa using hab) hT) ⟨⟨_,yn _ rfl,rfl,by simp[YF,zCe]⟩,⟨oa,ye _ hoa,hca,hda,hfa⟩⟩ (.refl _)
def z4s{Q:Bool->yc->Prop}(hT:s.TypeIs (.ref a) "set")(hq:Q false s):yo (yx prog w) A (xj (.ref a)) Q E s:=by
 unfold xj;refine ya (xf hT F.slot_set_len.lookup ?_);generalize hn:("set.__len__":String)=nm
 wp_delta
 rw[show splitId nm=some ("set","__len__") from by subst hn;decide +kernel];subst hn;refine ya (wpAny_isInstance (T:="set") (b:=true) hT (by rw[isSubtype_type];kernel_rfl) ?_);refine YR (λno=>absurd no (by decide)) λ_=>?_;refine YR (λ_=>?_) λno=>absurd (by decide +kernel) no;exact ya (xv hT (yf hq))
def zcy(s:yc)(es:Array (Int×yb))(vs:List yb)(s':yc):Prop :=
 (∃ent:List (Int×yb),ent.Perm es.toList/\vs=ent.map (·.2))/\(∀b o,s.heap.get? b=some o->s'.heap.get? b=some o)/\s'.os=s.os/\s'.gens=s.gens/\s.heap.objs.size<=s'.heap.objs.size
def zos{ent:List (Int×yb)}{acc:Array yb}{n:Nat}(hl:ent.length=n)(h:ItemsOf (zBv ent) acc n):acc.toList=ent.map (·.2):=by
 apply ext_getElem
 ·simp[h.1,hl]
 ·intro j h1 h2;have h1':j<acc.size:=by simpa using h1
  obtain⟨k,e⟩:=h.2 j acc[j] (by simp[h1']);have h3:j<ent.length:=by simpa using h2
  rw[yd h3]at e;simp only[xX]at e;simp[e]
def zco{Q:List yb->yc->Prop}(hh:A.handled=none)(hT:TOk (!w.params.followText "set-order") t)(hO:SOb s.heap a es ep t)(hsz:es.size<=yE)(h:∀vs s',zcy s es vs s'->Q vs s') :
 yo (yx prog w) A (collect (.ref a)) Q E s:=by
 obtain⟨oa,hoa,hca,hda,hfa⟩:=id hO;have hlt:a<s.heap.objs.size:=ym hoa;unfold collect;refine ya (wpAny_runValue (YS F.entry_proto_collect ?_));rw[Yx F.plain_proto_collect _];show yo _ A.in1 (newList [] >>= λl=>again (.builtin "list.__iadd__" ⟨[l,.ref a],[]⟩)) _ _ s;refine ya (yT ?_);refine yf ⟨xy F.plain_list_iadd _,YS F.entry_list_iadd ?_⟩;rw[Yx F.plain_list_iadd _];obtain⟨S,hSe⟩:∃S,S=s.heap.objs.size:=⟨_,rfl⟩
 have hL:(s.heap.push {cls:=.type "list",data:=.seq ([]:List yb).toArray }).get? S=some {cls:=.type "list",data:=.seq #[]}:=by rw[hSe];exact yn _ rfl
 have hk0:∀b o,s.heap.get? b=some o->(s.heap.push {cls:=.type "list",data:=.seq ([]:List yb).toArray }).get? b=some o:=λb o e=>ye _ e;have hz0:(s.heap.push {cls:=.type "list",data:=.seq ([]:List yb).toArray }).objs.size=S+1:=by rw[hSe,Yr]
 show yo _ A.in1 (Yn (.ref s.heap.objs.size) (.ref a) (.ref s.heap.objs.size)) _ _ _;rw[<-hSe];generalize s.heap.push {cls:=.type "list",data:=.seq ([]:List yb).toArray } = h0 at hL hk0 hz0 ⊢;have hO0:SOb h0 a es ep t:=hO.at' λo e=>hk0 _ o e;have hSa:S≠a:=by rw[hSe];exact Yc hlt
 have hTy:Shared.TypeIs {s with heap:=h0 } (.ref a) "set":=⟨oa,hk0 _ _ hoa,hca⟩
 unfold Yn;refine ya (xv hTy ?_);have g1:xz (.ref S) (.ref a)=false:=by simp[xz,hSa]
 have g2:(Yl "set" == Yl "list")=false:=by decide
 have g3:(Yl "set" == Yl "tuple")=false:=by decide
 simp only[g1,g2,g3,Bool.or_false,YV,if_false];refine ya (z0s (s:={s with heap:=h0 }) hh hT hO0 hsz λI s1 hI=>?_);obtain⟨fp,ent,St,W,st,hp,hIs,hf1,hf2,hk1,d,hs1⟩:=hI;have hL1:s1.heap.get? S=some {cls:=.type "list",data:=.seq #[]}:=hk1 _ _ hL;have hIs:S+1<=I:=by rw[<-hz0];exact hIs
 have hSf:S∉fp:=λhm=>by
  rcases hf1 S hm with q|q
  ·have q:h0.objs.size<=S:=q;rw[hz0]at q;exact Ye _ q
  ·exact hSa q
 have hTy1:s1.TypeIs (.ref a) "set":=⟨oa,hk1 _ _ (hk0 _ _ hoa),hca⟩
 refine ya (yP (z4s hTy1 ?_))
 have loop:∀(h2:Yb)(c:Nat),(∀b o,b≠S->s1.heap.get? b=some o->h2.get? b=some o)->h2.get? S=some {cls:=.type "list",data:=.seq #[] c } ->
  codeAny (yx prog w) A (.builtin "list.extend.loop" ⟨[.ref S,.ref I,.ref S],[]⟩) (λr s'=>∃acc c',r=.ok (.ret (.ref S))/\s'.heap.get? S=some {cls:=.type "list",dict:=none,data:=.seq acc c',slots:=#[]}/\zcy s es acc.toList s') {s1 with heap:=h2 }:=by
  intro h2 c hk2 hL2;refine codeAny_extend_loopS W.toS hsz S hSf (.ref S) es.size 0 _ #[] c rfl (yR _) (W.frame 0 _ _ st λb hb o e=>hk2 b o (λq=>hSf (q▸hb)) e) hL2 (ItemsOf.nil _) λs' acc c' hm hS' hacc=>?_;refine⟨acc,c',rfl,hS',⟨ent,hp,zos (by simpa using hp.length_eq) hacc⟩,λb o e=>?_,?_,?_,by rw[<-hSe];exact YD (ym hS')⟩
  ·have hb:b<s.heap.objs.size:=ym e;rw[<-hSe]at hb;refine hm.heap b o (λhmem=>?_) (hk2 b o (yt hb) (hk1 _ _ (hk0 _ _ e)));rcases List.mem_cons.mp hmem with q|q
   ·exact absurd hb (by rw[q];exact Ye _)
   ·rw[List.mem_singleton.mp q]at hb;exact Ye _ (Nat.lt_trans hb (yC (YA _) hIs))
  ·have:=hm.os;rw[this];show s1.os=s.os;rw[hs1]
  ·have:s'.gens=s1.gens:=hm.gens;rw[this,hs1]
 have fin:∀(h2:Yb)(c:Nat),(∀b o,b≠S->s1.heap.get? b=some o->h2.get? b=some o)->h2.get? S=some {cls:=.type "list",data:=.seq #[] c } ->
  codeAny (yx prog w) A (.builtin "list.extend.loop" ⟨[.ref S,.ref I,.ref S],[]⟩) (λr s'=>match r with
   |.ok (.ret v)=>yo (yx prog w) A (match v with
    |.ref b=>do
     let o <-load b
     match o.data with
     |.seq xs _=>pure xs.toList
     |_=>unsupported "internal:collect"
    |_=>unsupported "internal:collect") Q E s'
   |_=>False) {s1 with heap:=h2 }:=λh2 c hk2 hL2=>xu (loop h2 c hk2 hL2) λr s' ⟨acc,c',e,hS',hc⟩=>by
  subst e;dsimp only;refine ya (wpAny_load hS' ?_);exact yf (h _ _ hc)
 refine YR (λ_=>?_) λ_=>?_
 ·refine ya (wpAny_rule ?_);refine ya ?_;show yo _ _ (updateSeq S (·.push .none) >>= λ_=>updateSeq S (·.pop)) _ _ _;refine ya (wpAny_updateSeq hL1 rfl ?_);have hL2:=Yd (yU (·.push YE)) hL1 rfl;refine wpAny_updateSeq (hz:=by seq_fits) hL2 rfl ?_;have hL3:=Yd (yU (·.pop)) hL2 rfl;refine yf ⟨xy F.plain_extend_loop _,xu (fin _ _ (λb o hb e=>?_) hL3) λr s' z=>?_⟩
  ·exact(xh _ _ (Yv hb)).trans ((xh _ _ (Yv hb)).trans e)
  ·cases r with
   |error e=>exact z.elim
   |ok f=>cases f<;>exact z
 ·refine yf ⟨xy F.plain_extend_loop _,xu (fin _ _ (λb o hb e=>e) hL1) λr s' z=>?_⟩
  cases r with
  |error e=>exact z.elim
  |ok f=>cases f<;>exact z
end
end M
namespace M
open PySem PyProof.Rows
section
variable {prog:yy}{w:yH}{A:yN}{E:yb->yc->Prop}{s:yc}{a:yg}
def zMg:∀(ent:List (Int×yb)),ElemsOf (intKind prog w) ent->Xf (ent.map (·.2)) (ent.map z8j)
 |[],_ =>.nil
 |e::ent,h=>by
  obtain⟨⟨k,hk,_⟩,_⟩:=h e mem_cons_self;obtain⟨t,ht⟩:=Value.isInt_shape (show Value.isInt k e.2=true from hk);have:z8j e=k:=by unfold z8j;rw[ht]
  rw[map_cons,map_cons,ht,this];exact .cons k t (zMg ent λx hx=>h x (mem_cons_of_mem _ hx))
def zTt(s:yc)(ks:List Int)(p:yg)(s':yc):Prop :=
 ∃(out:Array yb)(ns:List Int)(e:Nat),s'.heap.get? p=some {cls:=.type "list",data:=.seq out e }/\Xf out.toList ns/\ns.Perm ks/\ns.Pairwise (·<=·)/\s.heap.objs.size<=p/\(∀b o,s.heap.get? b=some o->s'.heap.get? b=some o)/\s'.os=s.os/\s'.gens=s.gens
def zxp{ks:List Int}{Q:yb->yc->Prop}(hh:A.handled=none)(hS:Tp prog w s.heap a ks)(h64:ks.length<64)(h:∀p s',zTt s ks p s'->Q (.ref p) s') :
 yo (yx prog w) A (call (.builtin "sorted") [.ref a]) Q E s:=by
 obtain⟨o,es,ep,t,ho,hex,hd,hf,hT,hel,hpk⟩:=hS
 have hlen:es.size=ks.length:=by
  have:=hpk.length_eq;simpa using this
 have hO:SOb s.heap a es ep t:=⟨o,ho,hex.1,hd,hf⟩
 refine Calls.call_function_entry kind_sorted plain_sorted entry_sorted (args_sorted1 _) ?_;unfold YY.«sorted»;refine ya (m:=checkCount "sorted" 1 1 _) (yf ?_);refine ya (zco (A:=A.in1) hh hT hO (yA (YD (by omega:es.size<64)) (by rw[yY];decide)) λvs s1 hc=>?_);obtain⟨⟨ent,hp,rfl⟩,hk,hos,hgn,hsz⟩:=hc;have hel2:ElemsOf (intKind prog w) ent:=hel.perm hp;have hI:=zMg ent hel2
 have hl:ent.length=ks.length:=by
  rw[hp.length_eq];simpa using hlen
 refine ya (wpAny_newList ?_ (by simp;rw[yY];omega));have hnew:(s1.heap.push (Yp "list" (ent.map (·.2)).toArray 0)).get? s1.heap.objs.size=some (Yp "list" (ent.map (·.2)).toArray 0):=yn _ rfl;refine ya (yP (yQ slot_list_sort ⟨_,hnew,rfl⟩ entry_list_sort (list_sort_tree hnew hI (by simp;omega) λout ns q1 q2 q3=>⟨_,rfl,?_⟩) (args_list_sort _)));obtain⟨e,he⟩:=sortedHeap_at (out:=out) hnew;refine yf ⟨_,rfl,h _ _ ⟨out,ns,e,he,q1,q2.trans ((hp.map z8j).trans hpk),q3,hsz,λb ob eb=>?_,hos,hgn⟩⟩;have hb1:=hk _ _ eb;have hlt1:b<s1.heap.objs.size:=ym hb1;show(sortedHeap (s1.heap.push (Yp "list" (ent.map (·.2)).toArray 0)) s1.heap.objs.size (ent.map (·.2)) out).get? b=some ob;rw[sortedHeap_old (yt hlt1) (by rw[size_push'];exact yX hlt1)];exact ye _ hb1
end
def zbx(ks:List Int)(k:Int):List Int:=if k∈ks then ks else ks++[k]
def uqN(val:Nat->Int):Nat->List Int
 |0=>[]
 |i+1=>zbx (uqN val i) (val i)
def z3r(val:Nat->Int):∀i,(uqN val i).length<=i
 |0=>yj _
 |i+1=>by
  have:=z3r val i;unfold uqN zbx
  split
  ·omega
  ·simp;omega
def zkr(val:Nat->Int)(k:Int):∀i,k∈uqN val i↔∃j,j<i/\val j=k
 |0=>by simp[uqN]
 |i+1=>by
  have ih:=zkr val k i;unfold uqN zbx;constructor
  ·intro h
   split at h
   ·obtain⟨j,h1,h2⟩:=ih.mp h;exact⟨j,by omega,h2⟩
   ·rcases List.mem_append.mp h with h|h
    ·obtain⟨j,h1,h2⟩:=ih.mp h;exact⟨j,by omega,h2⟩
    ·exact⟨i,by omega,by simpa using(List.mem_singleton.mp h).symm⟩
  ·rintro⟨j,h1,h2⟩
   by_cases e:j=i
   ·subst e
    split
    ·rename_i hm
     rw[<-h2];exact hm
    ·simp[h2]
   ·have:=ih.mpr ⟨j,by omega,h2⟩
    split
    ·exact this
    ·exact mem_append_left _ this
def zSm(val:Nat->Int):∀i,(uqN val i).Nodup
 |0=>List.nodup_nil
 |i+1=>by
  have ih:=zSm val i;unfold uqN zbx
  split
  ·exact ih
  ·rename_i hm
   rw[nodup_append];exact⟨ih,by simp,λa ha b hb e=>by simp at hb;subst hb;exact hm (e▸ha)⟩
section
variable {prog:yy}{w:yH}{A:yN}{R:Result->yc->Prop}{I:yg}{fp wr:List yg}{n:Nat}{P:Nat->yb->Prop}{St:Nat->Yb->Prop}
def zmt(W:Walks prog w A.in1 I fp wr n P St)(S:yg)(hSf:S∉fp)(val:Nat->Int)(hval:∀i v,P i v->∃t,v=.int (val i) t)(hb:n+1<scanBound):∀(k i:Nat)(s:yc),n-i=k->i<=n->St i s.heap->Tp prog w s.heap S (uqN val i) ->
 (∀h' tk,(∀b o,b∉S::wr->s.heap.get? b=some o->h'.get? b=some o)->Tp prog w h' S (uqN val n)->R (.ok (.ret .none)) {s with heap:=h',toks:=tk })->codeAny (yx prog w) A (.builtin "set.update.loop" ⟨[.ref S,.ref I],[]⟩) R s:=by
 have hSw:S∉wr:=λq=>hSf (W.sub _ q);intro k
 induction k with
 |zero=>
  intro i s hk hi st hS hR;have e:i=n:=by omega
  subst e;refine YS PyProof.Rows.F.entry_set_update_loop ?_;rw[Yx xg _];show yo _ A.in1 (xY (.ref I) >>= _) _ _ s;refine ya (W.done s _ _ st λh' tk hk'=>?_);exact yf (hR h' tk (λb o hb e=>hk' b o (λq=>hb (mem_cons_of_mem _ q)) e) (hS.at' λo e=>hk' S o hSw e))
 |succ k ih=>
  intro i s hk hi st hS hR;have hlt:i<n:=by omega
  refine YS PyProof.Rows.F.entry_set_update_loop ?_;rw[Yx xg _];show yo _ A.in1 (xY (.ref I) >>= _) _ _ s;refine ya (W.item i s _ _ hlt st λv h1 tk hP st1 hk1=>?_);obtain⟨t,rfl⟩:=hval i v hP;show yo _ A.in1 (holding [Value.int (val i) t] (setAdd S (.int (val i) t)) >>= _) _ _ _;refine ya (yP ?_);unfold setAdd;refine yP ?_;refine ya (wpAny_pyHash_int ?_);have hS1:Tp prog w h1 S (uqN val i):=hS.at' λo e=>hk1 S o hSw e;refine zIu (s:={s with heap:=h1,toks:=tk+1 }) hS1 (by have:=z3r val i;omega) λb h2 sb hS2=>?_;refine yf ⟨xy xg _,ih (i+1) _ (by omega) hlt (W.frame _ _ _ st1 λc hc o e=>?_) hS2 λh3 tk3 hk3 hS3=>?_⟩
  ·exact sb.extBut c o (λq=>hSf (q▸hc)) e
  ·exact hR h3 tk3 (λc o hc e=>hk3 c o hc (sb.extBut c o (λq=>hc (by rw[q];exact mem_cons_self)) (hk1 c o (λq=>hc (mem_cons_of_mem _ q)) e))) hS3
variable {E:yb->yc->Prop}{s:yc}
abbrev zOd(w:yH):xb:={cls:=.type "set",dict:=none,data:=.set #[] 0 (.fresh 0 0 (!w.params.followText "set-order"))}
def zJu(a:yb){Q:yb->yc->Prop}(h:Q (.ref s.heap.objs.size) {s with heap:=s.heap.push (zOd w)}) :
 codeAny (yx prog w) A (.call (.builtin "set.__new__") ⟨[.type "set",a],[]⟩) (wants Q E) s:=by
 refine codeAny_of_tree ?_;show yo _ A.in1 (do checkBuiltinCall "set.__new__" ⟨[.type "set",a],[]⟩;again (.builtin "set.__new__" ⟨[.type "set",a],[]⟩)) _ _ s;refine ya (wpAny_of_eq (PySem.F.newCall_set_1 a) (yf ⟨xy PySem.F.plain_set_new _,YS PySem.F.entry_set_new ?_⟩));rw[Yx PySem.F.plain_set_new _];unfold YY.«set.__new__» Builtin.Frozenset.newClass;have hsub:=PySem.sub_set_self;obtain⟨hp,g,d,tk,os⟩:=s;dsimp only
 wp_walk
 refine wpAny_askSetting (yf ?_);dsimp only;simp only[newObj];refine ya (wpAny_alloc (yf ?_));exact yf h
def zgs(prog:yy)(w:yH)(s:yc)(ks:List Int)(s':yc):Prop :=
 Tp prog w s'.heap s.heap.objs.size ks/\(∀b o,s.heap.get? b=some o->s'.heap.get? b=some o)/\∃h' tk,s' = {s with heap:=h',toks:=tk }
set_option maxHeartbeats 3200000 in
def zZn{l:yg}{its:Array yb}{ns:List Int}{Q:yb->yc->Prop}(hh:A.handled=none)(hl:s.heap.IsList l its)(hi:Xf its.toList ns)(hb:its.size+1<scanBound)
 (h:∀s',zgs prog w s (uqN (λi=>ns.getD i 0) its.size) s'->Q (.ref s.heap.objs.size) s'):yo (yx prog w) A (call (.type "set") [.ref l]) Q E s:=by
 obtain⟨c,tl,hmro⟩:=PySem.F.called_set.mro;have hmade:=PySem.F.called_set.made;have hsub:=PySem.F.called_set.sub;refine wpAny_call (codeAny_of_tree ?_);show yo _ _ (callAny (.type "set") _) _ _ _;refine yf ⟨Code.quiet_builtin _ (by decide +kernel),YS PySem.F.entry_type_call ?_⟩;rw[Around.under_plain (weight_type_call_type "set" [.ref l] []) rfl];have t1:=PySem.F.called_set.notType;have t2:=PySem.F.called_set.canCreate;have t3:=PySem.F.typeCall_set_1 (.ref l)
 repeat (any_goals (first|assumption|wp_step))
 refine xu (zJu (w:=w) (.ref l) (E:=E) (Q:=λob s1=>ob=.ref s.heap.objs.size/\s1 = {s with heap:=s.heap.push (zOd w)}) ⟨rfl,rfl⟩) λr s1 hr=>?_
 cases r with
 |error e=>exact hr
 |ok fl=>
  cases fl with
  |ret ob=>
   obtain⟨rfl,rfl⟩:=hr;have hS:(s.heap.push (zOd w)).get? s.heap.objs.size=some (zOd w):=yn _ rfl;have hT:Shared.TypeIs {s with heap:=s.heap.push (zOd w)} (.ref s.heap.objs.size) "set":=⟨_,hS,rfl⟩
   have i1:=PySem.F.called_set.init.lookup;have i2:=PySem.F.called_set.init.bind (.ref s.heap.objs.size)
   repeat (any_goals (first|assumption|wp_step))
   refine xu (codeAny_call_builtin (R:=wants (λr s2=>r=.none/\zgs prog w s (uqN (λi=>ns.getD i 0) its.size) s2) E) PySem.F.called_set.init.plain PySem.F.entry_set_init (check_set_init_1 hT ?_)) λr2 s2 hr2=>?_
   ·obtain⟨ol,hol,hcl,nl,hdl⟩:=hl;obtain⟨ocls,odict,odata,oslots⟩:=ol;simp only at hcl hdl;subst hcl;subst hdl;have hlS:l<s.heap.objs.size:=ym hol;have hol1:(s.heap.push (zOd w)).get? l=some {cls:=.type "list",dict:=odict,data:=.seq its nl,slots:=oslots }:=ye _ hol;have n1:=PySem.F.sub_list_set;have n2:=PySem.F.sub_list_frozenset;have n3:(Yl "list" == Yl "dict")=false:=by decide
    have hl1:(s.heap.push (zOd w)).IsList l its:=⟨_,hol1,rfl,nl,rfl⟩
    unfold YY.«set.__init__» noKeywords Builtin.Frozenset.updateFrom;generalize hPI:pyIter=PI
    wp_walk
    subst hPI;refine xt hl1 ?_;refine ya (wpAny_runValue ?_);have hz:(s.heap.push (zOd w)).objs.size=s.heap.objs.size+1:=by rw[Yr]
    have hne:l≠(s.heap.push (zOd w)).objs.size:=by rw[hz];exact yt (yX hlS)
    have hSf:s.heap.objs.size∉[(s.heap.push (zOd w)).objs.size,l]:=by
     rw[hz];simp only[mem_cons,not_mem_nil,or_false,not_or];exact⟨yt (YA _),Yc hlS⟩
    have hval:∀(i:Nat)(v:yb),its[i]?=some v->∃t,v=.int ((λi=>ns.getD i 0) i) t:=λi v hv=>IntsAre.int_at hi i v (by rw[xR];exact hv);refine zmt (Walks.list (by simp[hh]) _ l hne its) s.heap.objs.size hSf (λi=>ns.getD i 0) hval hb (its.size-0) 0 _ (by omega) (yR _) ⟨⟨_,yn _ rfl,rfl,rfl⟩,hl1.push _⟩ ?s0 ?r0
    case s0=>
     exact⟨zOd w,#[],0,_,ye _ hS,⟨rfl,rfl,rfl⟩,rfl,rfl,.fresh _,λe he=>by simp at he,by simp[uqN]⟩
    case r0=>
     intro h' tk hk hS';refine yf ?_;show yo _ _ (ret YE) _ _ _;refine yf ⟨rfl,hS',λb o e=>?_,h',tk,rfl⟩;have hlt:b<s.heap.objs.size:=ym e;refine hk b o ?_ (ye _ (ye _ e));rw[hz];simp only[mem_cons,not_mem_nil,or_false,not_or];exact⟨yt hlt,yt (yX hlt)⟩
   ·cases r2 with
    |error e=>exact hr2
    |ok fl2=>
     cases fl2 with
     |ret r=>
      obtain⟨rfl,hm⟩:=hr2
      repeat (any_goals (first|assumption|wp_step))
      exact h _ hm
     |_=>exact hr2.elim
  |_=>exact hr.elim
end
end M
namespace M
open PySem PySem.Spec PyProof.Rows L2
section
variable {X:Cx}{U:List (yg×xb)}{Y:L2.St}{H:Hp}{s s':yc}
def zut(I:Inv X U Y H s)(ho:s'.os=s.os)(hg:s'.gens=s.gens)(k:∀b u,s.heap.get? b=some u->s'.heap.get? b=some u):Inv X U Y H s' :=
 I.call' (ch:=[]) ho (Un.kept k) (I.hok.kept k) (by rw[hg];exact I.bare) λb z=>nomatch z
def z5o{p:yg}{o:HO}(I:Inv X U Y H s)(ho:s'.os=s.os)(hg:s'.gens=s.gens)(k:∀b u,s.heap.get? b=some u->s'.heap.get? b=some u)(hp:s.heap.objs.size<=p)(new:tH X.prog X.w (upd H p o) s'.heap p o):Inv X U Y (upd H p o) s' :=
 I.call' (ch:=[]) ho (Un.laid k hp (I.hok.fresh hp)) (I.hok.laid k hp new) (by rw[hg];exact I.bare) λb z=>nomatch z
def zTd:∀{us:List yb} {ns:List Int},Xf us ns->Vals (ns.map V.int) us
 |_,_,.nil =>.nil
 |_,_,.cons n t r =>.cons ⟨t,rfl⟩ (zTd r)
def zZs(X:Cx)(p:yg)(ks:List Int):HO:=.ext λh=>Tp X.prog X.w h p ks
def zls(hc:X.calm=true):zZj X (.type "set") (λxs H Q=>∃(a:yg)(ns:List Int),xs=[.ref a]/\SqL X.K H a (ns.map V.int)/\ns.length+1<scanBound/\∀p,H p=none->Q (.ref p) (upd H p (zZs X p (uqN (λi=>ns.getD i 0) ns.length)))):=by
 intro U s Y H xs us Q I r ⟨a,ns,e,hq,hb,k⟩;subst e;obtain⟨u,rfl,rx⟩:=vals1 r;cases rx;obtain⟨its,rv,pl,hz⟩:=I.list hq;have hl:its.length=ns.length:=by rw[<-rv.length];simp
 refine zZn (I.ok.hd hc) pl.isList (its:=its.toArray) (ns:=ns) (by simpa using zLe rv) (by simp;omega) λs' ⟨hS,hk,h',tk,e⟩=>?_;subst e;rw[show its.toArray.size=ns.length by simp;exact hl]at hS;refine⟨.ref s.heap.objs.size,_,I.laid (t':=tk) hk (yj _) (show tH X.prog X.w _ h' _ (zZs X _ _) from⟨hS,?_,λh1 h2 x y=>x.at' y⟩),rfl,k _ I.fresh⟩;obtain⟨o,_,_,_,ho,_⟩:=hS;exact⟨o,ho⟩
def zbq(hc:X.calm=true):zZj X (.builtin "sorted") (λxs H Q=>∃(a:yg)(ks:List Int),xs=[.ref a]/\H a=some (zZs X a ks)/\ks.length<64/\∀(p:yg)(ns:List Int),H p=none->ns.Perm ks->ns.Pairwise (·<=·)->Q (.ref p) (upd H p (.lst (ns.map V.int)))):=by
 intro U s Y H xs us Q I r ⟨a,ks,e,hq,h64,k⟩;subst e;obtain⟨u,rfl,rx⟩:=vals1 r;cases rx;obtain⟨hS,_,_⟩:=I.hok a _ hq;refine zxp (I.ok.hd hc) hS h64 λp s' ⟨out,ns,e,h1,h2,h3,h4,h5,h6,h7,h8⟩=>?_;have hl:ns.length=ks.length:=h3.length_eq;refine⟨.ref p,_,z5o I h7 h8 h6 h5 (show tH X.prog X.w _ s'.heap _ (.lst (ns.map V.int)) from⟨by simp;rw[yY];omega,out.toList,e,zTd h2,by simpa using h1⟩),rfl,k p ns (I.hok.fresh h5) h3 h4⟩
end
def zOy:D->Option Int
 |.int i=>some i
 |_=>none
def zIj(ds:List D):Option (List Int):=ds.mapM zOy
@[simp] theorem zWg:∀ns:List Int,zIj (ns.map D.int)=some ns
 |[]=>rfl
 |i::ns=>by
  have:=zWg ns;unfold zIj at this ⊢;rw[map_cons,mapM_cons,this];rfl
def zBe:∀{ds:List D} {ns:List Int},zIj ds=some ns->ds=ns.map D.int
 |[],ns,h=>by
  unfold zIj at h;simp at h;subst h;rfl
 |d::ds,ns,h=>by
  unfold zIj at h;rw[mapM_cons]at h;obtain⟨i,e1,h⟩:=zf h;obtain⟨r,e2,h⟩:=zf h;cases h
  cases d with
  |int j=>cases e1;rw[zBe (show zIj ds=some r from e2)];rfl
  |_=>cases e1
def z4f{K:yz}{Z:List yg}{H:Hp}:∀{ns:List Int} {vs:List V},tf K Z H (ns.map D.int) vs->vs=ns.map V.int
 |[],vs,r=>r.nil_inv
 |i::ns,vs,r=>by
  obtain⟨v,q,rfl,h1,h2⟩:=r.cons_inv;rw[h1.int_inv,z4f h2];rfl
def z3e{K:yz}{Z:List yg}{H:Hp}:∀{ns:List Int},tf K Z H (ns.map D.int) (ns.map V.int)
 |[] =>.nil
 |i::ns =>.cons .int z3e
def uqL(ns:List Int):List Int:=uqN (λi=>ns.getD i 0) ns.length
def zPs(ns:List Int):List Int:=(uqL ns).mergeSort λa b=>decide (a<=b)
def zUc{a b:List Int}(p:a.Perm b)(ha:a.Pairwise (·<=·))(hb:b.Pairwise (·<=·)):a=b:=p.eq_of_pairwise (λ_ _ _ _ h1 h2=>Int.le_antisymm h1 h2) ha hb
def zRh(ns:List Int):(ns.mergeSort λa b=>decide (a<=b)).Pairwise (·<=·):=by
 have:=List.pairwise_mergeSort (le:=λa b:Int=>decide (a<=b)) (λa b c h1 h2=>by simp at h1 h2 ⊢;omega) (λa b=>by simp;omega) ns;exact this.imp λh=>by simpa using h
def z2p(G:FE):FE:=λJ μ=>(G J μ).bind λp=>match p.1 with
 |.loc n=>match p.2[n]? with
  |some (.lst ds)=>(zIj ds).bind λns=>bif decide (ns.length<=4000/\(uqL ns).length<64) then some (.loc p.2.length,p.2++[.lst ((zPs ns).map .int)]) else none
  |_=>none
 |_=>none
section
variable {X:Cx}{a b c e:yD}{es:List yD}{G ψ χ:FE}{pos pos2 p1 p2:xV}
def zgr(hm1:X.mg "sorted"=none)(hv1:yI "sorted"=some (.builtin "sorted"))(hm2:X.mg "set"=none)(hv2:yI "set"=some (.type "set"))(h:ME X e G)(hc:X.calm=true:=by rfl)(hg1:Gl X "sorted":=by rfl)(hg2:Gl X "set":=by rfl)
 (he:yr [e] X.env=(false,Yt e X.env)::yr [] X.env:=by rfl) (he2:yr [.Call (.Name "set" p2) [e] [] pos2] X.env=(false,Yt (.Call (.Name "set" p2) [e] [] pos2) X.env)::yr [] X.env:=by rfl) :
 ME X (.Call (.Name "sorted" p1) [.Call (.Name "set" p2) [e] [] pos2] [] pos) (z2p G) :=
 zGe (zkp (zbq hc) hg1 hm1 hv1 (zHg (z4g (zls hc) hg2 hm2 hv2 (zHg h zFj he) (by decide) (by decide) he rfl) zFj he2) (by decide) (by decide) he2 rfl) λZ J μ Y H d μ' Q A e k=>by
  obtain⟨⟨x,μ1⟩,e1,e⟩:=zf e;refine⟨Z,J,μ,x,μ1,A,e1,λZ1 H1 v x1 R1 r1=>?_⟩;dsimp only at e
  split at e
  ·split at e
   ·rename_i hm
    obtain⟨ns,e2,e⟩:=zf e;obtain⟨hb,e⟩:=zI e;have hb:=of_decide_eq_true hb;cases e;rw[zBe e2]at hm;obtain⟨p,rfl,ep⟩:=r1.tz;obtain⟨vs,e3,q⟩:=R1.at_ _ _ _ ep hm;rw[z4f q]at e3;refine⟨p,ns,rfl,SqL.of e3,by unfold scanBound;omega,λp1 hp1=>?_⟩;refine⟨p1,uqL ns,rfl,zx,hb.2,λp2 ms hp2 hpm hpw=>?_⟩;have hms:ms=zPs ns:=zUc (hpm.trans (mergeSort_perm _ _).symm) hpw (zRh _);subst hms;have R2:=R1.Tm (o:=zZs X p1 (uqL ns)) hp1;exact k _ _ _ (x1.trans ((Ext.new hp1).trans (Ext.push hp2))) (R2.push hp2 ⟨_,zx,z3e⟩) (.loc (zIb R2))
   ·cases e
  ·cases e
variable {prog:yy}{w:yH}{A:yN}{E:yb->yc->Prop}{s:yc}
def zZp{l b:yg}{its its2:List yb}{n:Nat}{Q:yb->yc->Prop}(hl:s.heap.get? l=some {cls:=.type "list",data:=.seq its.toArray n })(hb:IsTup s.heap b its2.toArray)(hz:its.length+its2.length<=yE)
 (h:Q .none {s with heap:=s.heap.update l (yU (· ++ its2.toArray))}):yo (yx prog w) A (call (.builtin "list.extend") [.ref l,.ref b]) Q E s:=by
 obtain⟨o,ho,hc,m,hd⟩:=hb
 have hlong:¬(!its.toArray.isEmpty&&YX (its.toArray.size+its2.toArray.size))=true:=by
  rw[TV (by rw[size_toArray,size_toArray];exact hz),Bool.and_false];exact yv
 refine yQ PySem.F.slot_list_extend ⟨_,hl,rfl⟩ PySem.F.entry_list_extend ?_ (PySem.F.args_list_extend_2 _ _);unfold YY.«list.extend»;refine ya (m:=selfAndOne "list.extend" ⟨[.ref l,.ref b],[]⟩) (yf ?_);dsimp only;unfold Yn;refine ya (xv (T:="tuple") ⟨o,ho,hc⟩ ?_);have ht:(Yl "tuple" == Yl "tuple")=true:=by rfl
 rw[if_pos (by rw[ht];simp)];refine ya (Xh ho hd ?_);refine ya (Xh hl rfl ?_);rw[if_neg hlong];refine ya (listUpdate_at hl rfl ?_ (by rw[size_toArray];omega) (by rw[Array.size_append,size_toArray,size_toArray];omega));exact yf ⟨_,rfl,h⟩
@[simp] def zku:GM:=λx ds μ=>match x,ds with
 |.loc n,[.tup ys]=>match μ[n]? with
  |some (.lst xs)=>bif decide (xs.length+ys.length<=1000000) then some (.non,μ.set n (.lst (xs++ys))) else none
  |_=>none
 |.loc n,[.loc m]=>match μ[n]?,μ[m]? with
  |some (.lst xs),some (.lst ys)=>bif decide (xs.length+ys.length<=1000000) then some (.non,μ.set n (.lst (xs++ys))) else none
  |_,_=>none
 |_,_=>none
def z8p:MtG X "list.extend" zku:=by
 refine MtG.of λU s Y H x xs v us Q I rx rs Z dx ds μ d μ' r1 r2 R e k=>?_;have hmi:=Tc;unfold zku at e
 split at e
 ·split at e
  ·rename_i hm
   obtain⟨h1,e⟩:=zI e;have h1:=of_decide_eq_true h1;cases e;obtain⟨l,rfl,ea⟩:=r1.tz;obtain⟨vs,e3,q3⟩:=R.at_ _ _ _ ea hm;obtain⟨w,r,rfl,q1,q2⟩:=r2.cons_inv;rw[q2.nil_inv]at rs;obtain⟨b,ws,rfl,eb,qb⟩:=q1.tR;obtain⟨u,rfl,ru⟩:=vals1 rs;cases ru;cases rx;obtain⟨z,its,n,rv,hl,el⟩:=I.TM e3;obtain⟨its2,rv2,pt,_⟩:=I.tuple (SqT.of (K:=X.K) eb);have hl1:=q3.length;have hl2:=qb.length;have hl3:=rv2.length;have hmu:Mut (H l):=by rw[e3];trivial
   refine zZp el pt (by omega) ?_;refine⟨.non,_,I.sN (t':=s.toks) (ys:=vs++ws) (its':=its++its2) e3 el (by simp) (rv.append rv2) (by rw[length_append];omega),rfl,?_⟩;exact k Z _ _ (Ext.wr hmu) (R.wr hmu ea ⟨_,zx,tf.ext (Ext.wr hmu) (q3.append qb)⟩) .non
  ·cases e
 ·split at e
  ·rename_i hm1 hm2
   obtain⟨h1,e⟩:=zI e;have h1:=of_decide_eq_true h1;cases e;obtain⟨l,rfl,ea⟩:=r1.tz;obtain⟨vs,e3,q3⟩:=R.at_ _ _ _ ea hm1;obtain⟨w,r,rfl,q1,q2⟩:=r2.cons_inv;rw[q2.nil_inv]at rs;obtain⟨b,rfl,eb⟩:=q1.tz;obtain⟨ws,e4,q4⟩:=R.at_ _ _ _ eb hm2;have hl1:=q3.length;have hl2:=q4.length;have hmu:Mut (H l):=by rw[e3];trivial
   refine z8r U s Y H _ _ v us Q I rx rs ⟨l,b,vs,ws,rfl,rfl,e3,e4,by omega,?_⟩;exact k Z _ _ (Ext.wr hmu) (R.wr hmu ea ⟨_,zx,tf.ext (Ext.wr hmu) (q3.append q4)⟩) .non
  ·cases e
 ·cases e
def z5m{o:yD}{ψ:FA}{apos:xV}(ho:ME X o G)(ha:MAn X (e::es) ψ)
 (hbase:YI o "extend" X.env (Yt o X.env)=Yt o X.env:=by rfl)
 (hfew:((YZ pos (yr (e::es) X.env)).all (λx=>!x.1)&&(backToKw pos (xZ [] X.env)).all (λx=>x.1.isSome)
  && decide ((e::es).length+([]:List xD).length+(if([]:List xD).isEmpty then 0 else 1)<30))=true:=by rfl)
 (hline:(apos.endLine==pos.line)=true:=by rfl) (hs:yr (e::es) X.env=(false,Yt e X.env)::yr es X.env:=by rfl) (hplain:(YZ pos (yr es X.env)).any (·.1)=false:=by rfl) :
 ME X (.Call (.Attribute o "extend" apos) (e::es) [] pos) (ztf zku G ψ):=zNh PySem.F.slot_list_extend PySem.F.type_list_extend z8p ho ha hbase hfew hline hs hplain
@[simp] def ztw:GL:=λds μ=>match ds with
 |[.loc n]=>match μ[n]? with
  |some (.lst xs)=>(zIj xs).bind λns=>some (.int ns.sum,μ)
  |_=>none
 |_=>none
def zzm(ns:List Int):∀i,i<=ns.length->preSum (λj=>ns.getD j 0) i=(ns.take i).sum
 |0,_=>by simp[preSum]
 |i+1,h=>by
  have ih:=zzm ns i (by omega);unfold preSum;have hi:i<ns.length:=by omega
  have e:ns.take (i+1)=ns.take i++[ns[i]]:=by simp
  rw[ih,e,List.sum_append];simp[hi]
def z0r(hc:X.calm=true):tQ X (.builtin "sum") ztw:=by
 refine tQ.of λU s Y H xs us Q I r Z ds μ d μ' r1 R e k=>?_;unfold ztw at e
 split at e
 ·split at e
  ·rename_i hm
   obtain⟨ns,e2,e⟩:=zf e;cases e;rw[zBe e2]at hm;obtain⟨v,rr,rfl,q1,q2⟩:=r1.cons_inv;obtain⟨a,rfl,ea⟩:=q1.tz;obtain⟨vs,e3,q3⟩:=R.at_ _ _ _ ea hm;rw[z4f q3]at e3;rw[q2.nil_inv]at r;obtain⟨u,rfl,ru⟩:=vals1 r;cases ru;obtain⟨its,rv,pl,hz⟩:=I.list (SqL.of (K:=X.K) e3);have hlt:a<s.heap.objs.size:=by obtain⟨_,_,e,_⟩:=pl;exact ym e
   have hI:=zLe rv;have hl:its.length=ns.length:=by rw[<-rv.length];simp
   refine call_sum_walkAnyS (xt pl.isList ?_);refine⟨_,_,_,_,_,_,_,λj=>ns.getD j 0,rfl,(Walks.list (A:=X.A.in1) (I.ok.hd hc) s.heap.objs.size a (yt hlt) its.toArray).toS,⟨⟨_,yn _ rfl,rfl,rfl⟩,pl.isList.push _⟩,λb hb=>?_,λi v hv=>IntsAre.int_at hI i v (by simpa using hv),λs' t' hmv=>?_⟩
   ·show b<(s.heap.push _).objs.size;rw[Yr];simp at hb;rcases hb with rfl|rfl
    ·exact YA _
    ·exact yX hlt
   ·refine⟨.int _,H,zut I hmv.os hmv.gens λb o e=>hmv.heap b o (by simpa using yt (ym e)) (ye _ e),⟨t',rfl⟩,?_⟩;rw[size_toArray,hl,zzm ns _ (yj _),take_length];exact k Z H _ Ext.refl R .int
  ·cases e
 ·cases e
@[simp] def zwi(G:FE):FI:=λJ μ=>(G J μ).bind λp=>match p.1 with
 |.tup ds=>some (ds,yes,p.2)
 |.fz ds=>some (ds,yes,p.2)
 |.loc n=>match p.2[n]? with
  |some (.lst ds)=>some (ds,zFm n ds,p.2)
  |_=>none
 |_=>none
def zHc{tg:yD}(h:ME X a G):MI X tg a (zwi G):=by
 intro U s Y H R I hh;obtain⟨Z,J,μ,ds,ok,μ',A,e,k⟩:=hh
 cases e1:G J μ with
 |none=>unfold zwi at e;rw[e1]at e;cases e
 |some p=>
  obtain⟨x,μ1⟩:=p
  cases x with
  |tup zs=>exact zkw h U s Y H R I ⟨Z,J,μ,ds,ok,μ',A,by unfold zwi at e;unfold zJt;rw[e1]at e ⊢;exact e,k⟩
  |fz zs=>exact z6q h U s Y H R I ⟨Z,J,μ,ds,ok,μ',A,by unfold zwi at e;unfold zrq;rw[e1]at e ⊢;exact e,k⟩
  |loc n=>exact z6q h U s Y H R I ⟨Z,J,μ,ds,ok,μ',A,by unfold zwi at e;unfold zrq;rw[e1]at e ⊢;exact e,k⟩
  |_=>unfold zwi at e;rw[e1]at e;cases e
def zQs(p:yg)(j:Int):HO:=.ext λh=>∃t u v,IsRange h p 0 j 1 t u v
def zlo:zZj X (.type "range") (λxs H Q=>∃j:Int,xs=[.int j]/\∀p,H p=none->Q (.ref p) (upd H p (zQs p j))):=by
 intro U s Y H xs us Q I r ⟨j,e,k⟩;subst e;obtain⟨u,rfl,ru⟩:=vals1 r;obtain⟨t,rfl⟩:=ru;refine call_range_1 ?_;refine⟨.ref s.heap.objs.size,_,I.laid (t':=s.toks+1+1) (λb o e=>ye _ e) (yj _) (show tH X.prog X.w _ _ _ (zQs _ j) from⟨⟨_,_,_,IsRange.new _ _ _ _ _ _ _⟩,⟨_,yn _ rfl⟩,λh1 h2 ⟨t,u,v,x⟩ y=>⟨t,u,v,y _ x⟩⟩),rfl,k _ I.fresh⟩
def zPp{its:Array yb}{n:Nat}(h:ItemsOf (λi v=>∃t,v=.int (0+i*1) t) its n):Vals ((yi n).map λ(k:Nat)=>V.int k) its.toList:=by
 obtain⟨h1,h2⟩:=h
 have key:∀(l:List yb)(m:Nat),(∀i (hi:i<l.length),∃t,l[i]=.int ((m+i:Nat):Int) t)->Vals ((List.range' m l.length).map λ(k:Nat)=>V.int k) l:=by
  intro l
  induction l with
  |nil=>intro m _;exact .nil
  |cons x xs ih=>
   intro m h;obtain⟨t,e⟩:=h 0 (by simp);refine .cons ⟨t,by simpa using e⟩ (ih (m+1) λi hi=>?_);obtain⟨t,e⟩:=h (i+1) (by simpa using hi);exact⟨t,by rw[show m+1+i=m+(i+1) by omega];simpa using e⟩
 have:=key its.toList 0 λi hi=>?_
 ·rw[List.range_eq_range',<-h1];simpa using this
 ·have hi':i<its.size:=by simpa using hi
  obtain⟨t,e⟩:=h2 i its[i] (by simp[hi']);exact⟨t,by simpa using e⟩
def z1l(G:FE):FE:=λJ μ=>(G J μ).bind λp=>match p.1 with
 |.int j=>bif decide (-(2^62)<=j/\j<=1000000) then some (.loc p.2.length,p.2++[.lst ((yi j.toNat).map λ(k:Nat) =>.int k)]) else none
 |_=>none
def zLp(hc:X.calm=true):zZj X (.type "list") (λxs H Q=>∃p j,xs=[.ref p]/\H p=some (zQs p j)/\-(2^62)<=j/\j<=1000000/\∀l,H l=none->Q (.ref l) (upd H l (.lst ((yi j.toNat).map λ(k:Nat)=>V.int k)))):=by
 intro U s Y H xs us Q I r ⟨p,j,e,hq,h1,h2,k⟩;subst e;obtain⟨u,rfl,ru⟩:=vals1 r;cases ru;obtain⟨⟨t,u,v,hr⟩,_,_⟩:=I.hok p _ hq;have hn:Builtin.Range.rangeSize 0 j 1=(j.toNat:Nat):=by rw[rangeSize_one];split<;>omega
 refine call_list_range (n:=j.toNat) (I.ok.hd hc) hr (small_one (by decide) (by decide) h1 (by omega)) hn (by omega) λh' tk acc' c' kp e hi=>?_;have hm:=Tc;have hv:=zPp hi;refine⟨.ref s.heap.objs.size,_,I.laid (t':=tk) kp (yj _) (show tH X.prog X.w _ h' _ (.lst _) from⟨by simp;omega,acc'.toList,c',hv,by simpa using e⟩),rfl,k _ I.fresh⟩
def zYr(hm1:X.mg "list"=none)(hv1:yI "list"=some (.type "list"))(hm2:X.mg "range"=none)(h:ME X e G)(hc:X.calm=true:=by rfl)(hg1:Gl X "list":=by rfl)(hg2:Gl X "range":=by rfl)
 (he:yr [e] X.env=(false,Yt e X.env)::yr [] X.env:=by rfl) (he2:yr [.Call (.Name "range" p2) [e] [] pos2] X.env=(false,Yt (.Call (.Name "range" p2) [e] [] pos2) X.env)::yr [] X.env:=by rfl) :
 ME X (.Call (.Name "list" p1) [.Call (.Name "range" p2) [e] [] pos2] [] pos) (z1l G) :=
 zGe (z4g (zLp hc) hg1 hm1 hv1 (zHg (z4g zlo hg2 hm2 boot_range (zHg h zFj he) (by decide) (by decide) he rfl) zFj he2) (by decide) (by decide) he2 rfl) λZ J μ Y H d μ' Q A e k=>by
  obtain⟨⟨x,μ1⟩,e1,e⟩:=zf e;refine⟨Z,J,μ,x,μ1,A,e1,λZ1 H1 v x1 R1 r1=>?_⟩;dsimp only at e
  split at e
  ·rename_i j
   obtain⟨hb,e⟩:=zI e;have hb:=of_decide_eq_true hb;cases e;refine⟨j,by rw[r1.int_inv],λp1 hp1=>⟨p1,j,rfl,zx,hb.1,hb.2,λl hl=>?_⟩⟩;have R2:=R1.Tm (o:=zQs p1 j) hp1;refine k _ _ _ (x1.trans ((Ext.new hp1).trans (Ext.push hl))) (R2.push hl ⟨_,zx,?_⟩) (.loc (zIb R2));have hr:=λZ H=>@z3e X.K Z H ((yi j.toNat).map λ(k:Nat)=>(k:Int));simp only[map_map]at hr;exact hr _ _
  ·cases e
@[simp] def z9w:GL:=λds μ=>match ds with
 |[.loc n]=>match μ[n]? with
  |some (.lst xs)=>bif xs.all zdy then some (.bl (xs.any blB),μ) else none
  |_=>none
 |_=>none
def zor(hc:X.calm=true):tQ X (.builtin "any") z9w:=by
 refine tQ.of λU s Y H xs us Q I r Z ds μ d μ' r1 R e k=>?_;unfold z9w at e
 split at e
 ·split at e
  ·rename_i n _ ys hm
   obtain⟨hb,e⟩:=zI e;cases e;obtain⟨v,rr,rfl,q1,q2⟩:=r1.cons_inv;obtain⟨a,rfl,e2⟩:=q1.tz;obtain⟨vs,e3,q3⟩:=R.at_ _ _ _ e2 hm;rw[q2.nil_inv]at r;obtain⟨u,rfl,ru⟩:=vals1 r;cases ru;obtain⟨its,rv,pl,hz⟩:=I.list (SqL.of (K:=X.K) e3);have hlt:a<s.heap.objs.size:=by obtain⟨_,_,e,_⟩:=pl;exact ym e
   refine call_any_walk (xt pl.isList ?_);refine⟨_,_,_,_,_,_,λi=>blB (ys.getD i .non),rfl,Walks.list (A:=X.A.in1) (I.ok.hd hc) s.heap.objs.size a (yt hlt) its.toArray,⟨⟨_,yn _ rfl,rfl,rfl⟩,pl.isList.push _⟩,?_,λh' tk hk=>?_⟩
   ·intro i w s' Q' E' hP hQ;have hi:its[i]?=some w:=by simpa using hP
    have hil:i<ys.length:=by
     have h1:=(List.getElem?_eq_some_iff.mp hi).1;rw[q3.length,rv.length];exact h1
    have hyi:ys[i]?=some ys[i]:=by simp[hil]
    obtain⟨vv,ev,rvv⟩:=q3.get hyi;obtain⟨ww,ew,rww⟩:=rv.get ev;rw[hi]at ew;cases ew;have hall:=List.all_eq_true.mp hb ys[i] (getElem_mem hil)
    have hQ':Q' (blB ys[i]) s':=by
     have e:ys.getD i .non=ys[i]:=by rw[getD_eq_getElem?_getD,hyi];rfl
     rw[<-e];exact hQ
    cases hyb:ys[i] with
    |bl b=>
     rw[hyb]at rvv hQ';rw[rvv.tK]at rww;cases rww;exact YJ hQ'
    |_=>rw[hyb]at hall;cases hall
   ·have hsz:its.toArray.size=ys.length:=by rw[q3.length,rv.length];simp
    have eall:((yi its.toArray.size).any λi=>blB (ys.getD i .non))=ys.any blB:=by
     rw[hsz,Bool.eq_iff_iff,any_eq_true,any_eq_true];constructor
     ·rintro⟨i,hi,h⟩;have hi':i<ys.length:=by simpa using hi
      rw[getD_eq_getElem?_getD,show ys[i]?=some ys[i] by simp[hi']]at h;exact⟨_,getElem_mem hi',h⟩
     ·rintro⟨y,hy,h⟩;obtain⟨i,hi,rfl⟩:=List.mem_iff_getElem.mp hy;refine⟨i,by simpa using hi,?_⟩;rw[getD_eq_getElem?_getD,show ys[i]?=some ys[i] by simp[hi]];exact h
    rw[eall];refine⟨.bl _,H,I.kept (h':=h') (t':=tk) λb o e=>hk b o (by simpa using yt (ym e)) (ye _ e),rfl,k Z H _ Ext.refl R .bl⟩
  ·cases e
 ·cases e
@[simp] def ziy:GL:=λds μ=>match ds with
 |[.int i]=>some (.int i,μ)
 |[.bl b]=>some (.int (if b then 1 else 0),μ)
 |_=>none
@[simp] def znt:GL:=λds μ=>match ds with
 |[.int i,.int j]=>some (.int (if j<i then j else i),μ)
 |_=>none
@[simp] def znx:GL:=λds μ=>match ds with
 |[.int i,.int j]=>some (.int (if j>i then j else i),μ)
 |_=>none
def zdq(hc:X.calm=true):tQ X (.builtin "min") znt:=by
 refine tQ.of λU s Y H xs us Q I r Z ds μ d μ' r1 R e k=>?_;unfold znt at e
 split at e
 ·cases e;obtain⟨v,rr,rfl,q1,q2⟩:=r1.cons_inv;obtain⟨v2,rr2,rfl,q3,q4⟩:=q2.cons_inv;exact zUr hc U s Y H _ us Q I r ⟨_,_,by rw[q1.int_inv,q3.int_inv,q4.nil_inv],k Z H _ Ext.refl R .int⟩
 ·cases e
@[simp] def fIf(c:FT)(G ψ:FE):FE:=λJ μ=>(c J μ).bind λp=>bif p.1 then G J p.2 else ψ J p.2
def nextT{it t:yg}{i:Nat}{items:Array yb}{x:yb}{Q:yb->yc->Prop}(hit:s.heap.IsTupleIter it t i)(ht:s.heap.IsTuple t items)(hx:items[i]?=some x)
 (hQ:∀h',h'.IsTupleIter it t (i+1)->Yj it s.heap h'->Q x {s with heap:=h' }):yo (yx prog w) A (YB (.ref it)) Q E s:=by
 obtain⟨ob,hob,hcl,hfs⟩:=id hit;obtain⟨ot,hot,_,m,hits⟩:=ht;unfold YB;refine ya (yW (name:=YL "__next__") hit.typeIs xn (yQ xn hit.typeIs F.entry_tuple_iterator_next ?_ (F.args_tuple_iterator_next_1 _)));show yo _ _ (field (.ref it) 0 >>= _) _ _ s;refine ya (YO hob hfs (x:=.ref t) rfl ?_);show yo _ _ (if(YG t==YE)=true then _ else field (.ref it) 1 >>= _) _ _ s;rw[if_neg (show ¬(YG t==YE)=true from yv)];refine ya (YO hob hfs (x:=.int i 0) rfl ?_);show yo _ _ (seqItems? (.ref t) >>= _) _ _ s;refine ya (wpAny_seqItems hot hits ?_);simp only[yJ,hx];refine ya (xI hob hfs (by simp) (yf ⟨x,rfl,yf (hQ _ ?_ (Yo ..))⟩));refine⟨_,Yd _ hob (xo (Yq hfs _)),(Obj.cls_mapFields ..).trans hcl,?_⟩;rw[Yq hfs];simp[YF]
def zcs{it t:yg}{i:Nat}{items:Array yb}{Q:yb->yc->Prop}(hh:A.handled=none)(hit:s.heap.IsTupleIter it t i)(ht:s.heap.IsTuple t items)(hx:items[i]?=none)
 (hE:∀h' e,Xd it s.heap h'->(∃o,h'.get? e=some o/\o.cls=.type "StopIteration")->E (.ref e) {s with heap:=h' }):yo (yx prog w) A (YB (.ref it)) Q E s:=by
 obtain⟨ob,hob,hcl,hfs⟩:=id hit;obtain⟨ot,hot,_,m,hits⟩:=ht;unfold YB;refine ya (yW (name:=YL "__next__") hit.typeIs xn (yQ xn hit.typeIs F.entry_tuple_iterator_next ?_ (F.args_tuple_iterator_next_1 _)));show yo _ _ (field (.ref it) 0 >>= _) _ _ s;refine ya (YO hob hfs (x:=.ref t) rfl ?_);show yo _ _ (if(YG t==YE)=true then _ else field (.ref it) 1 >>= _) _ _ s;rw[if_neg (show ¬(YG t==YE)=true from yv)];refine ya (YO hob hfs (x:=.int i 0) rfl ?_);show yo _ _ (seqItems? (.ref t) >>= _) _ _ s;refine ya (wpAny_seqItems hot hits ?_);simp only[yJ,hx];refine ya (wpAny_rule (ya (xI hob hfs (by simp) ?_)));show yo _ _ (newExc (.type "StopIteration") [] >>= _) _ _ _;refine ya ?_;simp only[newExc,newTuple];refine ya (yT ?_ (by size_fits));refine ya (m:=firstArgMember _ _) (wpAny_of_eq (a:=YE) (by first|rfl|(simp only[firstArgMember];rfl)) ?_);refine yT ?_ (by size_fits);simp only[raiseNew];refine ya (wpAny_handled ?_)
 first|rw[show A.in1.handled=none from hh]|rw[hh]
 exact ya (yf (wpAny_throw (hE _ _ (((Yo ..).extBut.push _).push _) ⟨_,yn _ rfl,rfl⟩)))
def zkm{e it:yg}{i:Int}{x old:yb}{N:Yb->Prop}{Q:Option yb->yc->Prop}(he:IsEnum s.heap e it i old)(hne:e≠it)
 (nx:∀(A':yN)(Q':yb->yc->Prop)(E':yb->yc->Prop),(∀h1,N h1->Yj it s.heap h1->Q' x {s with heap:=h1 })->yo (yx prog w) A' (YB (.ref it)) Q' E' s)
 (hN:∀h h',N h->(∀o,h.get? it=some o->h'.get? it=some o)->N h')
 (hQ:∀h',IsEnumOut h' e it (i+1) x s.heap.objs.size->N h'->h'.get? s.heap.objs.size=some {cls:=.type "tuple",data:=.seq #[.int i s.toks,x]}->h'.objs.size=s.heap.objs.size+1 ->
  (∀b o,b≠e->b≠it->s.heap.get? b=some o->h'.get? b=some o)->Q (some (.ref s.heap.objs.size)) {s with heap:=h',toks:=s.toks+1 }):yo (yx prog w) A (xY (.ref e)) Q E s:=by
 obtain⟨hp,g,d,tk,os⟩:=s;have hT:Shared.TypeIs ⟨hp,g,d,tk,os⟩ (.ref e) "enumerate":=⟨_,he,rfl⟩
 unfold xY;refine ya (wpAny_attempt (yW (name:=YL "__next__") hT xT (yQ xT hT F.entry_enumerate_next ?_ (F.args_enumerate_next_1 _))));show yo _ _ (field (.ref e) 2 >>= _) _ _ _;refine ya (YO he rfl (x:=.ref it) rfl (ya (nx _ _ _ λh1 n1 sb1=>?_)));replace sb1:Yj it hp h1:=sb1;have e1:IsEnum h1 e it i old:=(sb1.2 e hne).trans he;show yo _ _ (field (.ref e) 3 >>= _) _ _ ⟨h1,g,d,tk,os⟩;refine ya (YO e1 rfl (x:=YF i) rfl ?_);show yo _ _ (field (.ref e) 4 >>= _) _ _ ⟨h1,g,d,tk,os⟩;refine ya (YO e1 rfl (x:=.none) rfl ?_);show yo _ _ (mkInt i >>= _) _ _ ⟨h1,g,d,tk,os⟩;refine ya (wpAny_mkInt ?_);show yo _ _ (setField (.ref e) 3 (YF (i+1)) >>= _) _ _ ⟨h1,g,d,tk+1,os⟩;refine ya (xM e1 (by simp) λh2 e2 sb2=>?_);replace sb2:Yj e h1 h2:=sb2;replace e2:IsEnum h2 e it (i+1) old:=e2;show yo _ _ (setField (.ref e) 4 .none >>= _) _ _ ⟨h2,g,d,tk+1,os⟩;refine ya (xM e2 (by simp) λh3 e3 sb3=>?_);replace sb3:Yj e h2 h3:=sb3;replace e3:IsEnum h3 e it (i+1) old:=e3;show yo _ _ (newTuple [.int i tk,x] >>= _) _ _ ⟨h3,g,d,tk+1,os⟩;refine ya (wpAny_newTuple ?_);have z3:h3.objs.size=hp.objs.size:=by rw[sb3.1,sb2.1,sb1.1]
 have el:e<hp.objs.size:=ym he;have ne4:hp.objs.size≠e:=Yc el;obtain⟨h4,hh4⟩:∃h4,h4=h3.push {cls:=.type "tuple",data:=.seq #[.int i tk,x]}:=⟨_,rfl⟩
 have e4:IsEnum h4 e it (i+1) old:=by rw[hh4];exact ye _ e3
 have t4:h4.get? hp.objs.size=some {cls:=.type "tuple",data:=.seq #[.int i tk,x]}:=by rw[hh4,<-z3];exact yn _ rfl
 have z4:h4.objs.size=hp.objs.size+1:=by rw[hh4,Yr,z3]
 have up:∀b o,b≠e->h1.get? b=some o->h4.get? b=some o:=λb o hb q=>by
  rw[hh4];exact ye _ ((sb3.2 b hb).trans ((sb2.2 b hb).trans q))
 show yo _ _ (Builtin.SmallTypes.ownedTupleIsFree (.ref e) >>= _) _ _ ⟨h3.push {cls:=.type "tuple",data:=.seq #[.int i tk,x]},g,d,tk+1,os⟩;rw[<-hh4,z3];refine ya ?_;unfold Builtin.SmallTypes.ownedTupleIsFree;refine ya (YO e4 rfl (x:=.none) rfl (yf ?_));simp only[if_true];refine ya (wpAny_rule (ya (YO e4 rfl (x:=old) rfl (ya (xM e4 (by simp) λh5 e5 sb5=>?_)))));replace sb5:Yj e h4 h5:=sb5;replace e5:IsEnum h5 e it (i+1) x:=e5;show yo _ _ (Builtin.SmallTypes.ownedTupleHandOut (.ref e) (.ref hp.objs.size) >>= _) _ _ ⟨h5,g,d,tk+1,os⟩;refine ya ?_;unfold Builtin.SmallTypes.ownedTupleHandOut;refine ya (xM e5 (by simp) λh6 e6 sb6=>?_);replace sb6:Yj e h5 h6:=sb6;replace e6:IsEnumOut h6 e it (i+1) x hp.objs.size:=e6;refine xM e6 (by simp) λh7 e7 sb7=>?_;replace sb7:Yj e h6 h7:=sb7;replace e7:IsEnumOut h7 e it (i+1) x hp.objs.size:=e7;have up7:∀b o,b≠e->h4.get? b=some o->h7.get? b=some o:=λb o hb q=>(sb7.2 b hb).trans ((sb6.2 b hb).trans ((sb5.2 b hb).trans q));refine ya (wpAny_letGo (yf ⟨_,rfl,yf (hQ h7 e7 (hN _ _ n1 λo q=>up7 _ _ (Yv hne) (up _ _ (Yv hne) q)) (up7 _ _ ne4 t4) ?_ λb o h1 h2 q=>up7 _ _ h1 (up _ _ h1 ((sb1.2 b h2).trans q)))⟩));show h7.objs.size=hp.objs.size+1;rw[sb7.1,sb6.1,sb5.1,z4]
def z9o{e it:yg}{i:Int}{old:yb}{Q:Option yb->yc->Prop}(he:IsEnum s.heap e it i old)
 (nx:∀(A':yN)(Q':yb->yc->Prop)(E':yb->yc->Prop),A'.handled=A.handled->(∀h' x,Xd it s.heap h'->(∃o,h'.get? x=some o/\o.cls=.type "StopIteration")->E' (.ref x) {s with heap:=h' })->yo (yx prog w) A' (YB (.ref it)) Q' E' s)
 (hQ:∀h',Xd it s.heap h'->Q none {s with heap:=h' }):yo (yx prog w) A (xY (.ref e)) Q E s:=by
 have hT:s.TypeIs (.ref e) "enumerate":=⟨_,he,rfl⟩
 unfold xY;refine ya (wpAny_attempt (yW (name:=YL "__next__") hT xT (yQ xT hT F.entry_enumerate_next ?_ (F.args_enumerate_next_1 _))));show yo _ _ (field (.ref e) 2 >>= _) _ _ _;refine ya (YO he rfl (x:=.ref it) rfl (ya (nx _ _ _ rfl λh' x eb ⟨o,ho,hc⟩=>?_)));exact ya (wpAny_isInstance (T:="StopIteration") (b:=true) ⟨o,ho,hc⟩ isSubtype_stop (yf (hQ _ eb)))
variable {U:List (yg×xb)}{Y:L2.St}{H:Hp}
def z5l{fp:List yg}(hf:∀b∈fp,zlp X U H b){b:yg}{u:HO}(e:H b=some u):b∉fp:=λz=>by rw[(hf b z).1]at e;cases e
def zYw{fp:List yg}(hf:∀b∈fp,zlp X U H b):∀b∈fp,(b∈X.ex\/X.s₀.heap.objs.size<=b)/\b≠X.env.locals/\(∀x c,X.env.cells.lookup x=some c->c≠b)/\∀p∈X.pn++U,p.1≠b:=λb hb=>by
 obtain⟨_,f1,_,f3,f4,f5⟩:=hf b hb;exact⟨f3,f1,f4,f5⟩
def z1k{fp:List yg}{h':Yb}{t':Nat}(I:Inv X U Y H s)(hf:∀b∈fp,zlp X U H b)(k:∀b o,b∉fp->s.heap.get? b=some o->h'.get? b=some o):Inv X U Y H {s with heap:=h',toks:=t' }:=by
 refine I.call (g':=s.gens) (t':=t') (d':=s.drawn) (ch:=fp) ⟨λb o e _ _ hx=>k b o hx e,λb o e _ _ hx=>⟨o.slots,k b o hx e⟩,λ_ _ _ n _=>n,λb o e hx=>⟨o,k b o hx e⟩,λ_ _ e=>e,λ_ _ _ e=>e,λ_ ps e=>⟨#[],by rw[e];simp⟩⟩ (λa o e=>?_) I.bare (zYw hf);refine(I.hok a o e).stay (λb u hb q=>k b u ?_ q) (λ_ q=>q) λ_ _ q=>q;rcases hb with rfl|hb
 ·exact z5l hf e
 ·exact z5l hf hb
def zre{fp:List yg}{h':Yb}{t':Nat}{p:yg}{o:HO}(I:Inv X U Y H s)(hf:∀b∈fp,zlp X U H b)(k:∀b o,b∉fp->s.heap.get? b=some o->h'.get? b=some o)(hp:s.heap.objs.size<=p)
 (new:tH X.prog X.w (upd H p o) h' p o):Inv X U Y (upd H p o) {s with heap:=h',toks:=t' }:=by
 have hn:=I.hok.fresh hp;have hlt:∀b ob,s.heap.get? b=some ob->b≠p:=λb ob e=>yt (yC (ym e) hp)
 refine I.call (g':=s.gens) (t':=t') (d':=s.drawn) (ch:=fp) ⟨λb o e _ _ hx=>k b o hx e,λb o e _ _ hx=>⟨o.slots,k b o hx e⟩,λb ob e n _=>by rw[zY (hlt b ob e)];exact n,λb o e hx=>⟨o,k b o hx e⟩,
  λ_ _ e=>by rw[zY (zG e hn)];exact e,λ_ _ _ e=>by rw[zY (zG e hn)];exact e,λ_ ps e=>⟨#[],by rw[zY (zG e hn),e];simp⟩⟩ (λa u e=>?_) I.bare (zYw hf)
 by_cases ha:a=p
 ·subst ha;rw[zx]at e;cases e;exact new
 ·rw[zY ha]at e;refine(I.hok a u e).stay (λb u hb q=>k b u ?_ q) (λb q=>by rw[zY (zG q hn)];exact q) λb xs q=>by rw[zY (zG q hn)];exact q
  rcases hb with rfl|hb
  ·exact z5l hf e
  ·exact z5l hf hb
def Ien(δ:It):It:=⟨δ.go,λi H x H'=>∃p y,x=.ref p/\H p=none/\H'=upd H p (.tup [.int i,y])/\δ.yld i H y H,δ.stop⟩
def z7r{P:yy}{w:yH}{H:Hp}{h:Yb}{p:yg}{x y:V}{u v:yb}(e:h.get? p=some {cls:=.type "tuple",data:=.seq #[u,v]})(rx:RelV x u)(ry:RelV y v):tH P w H h p (.tup [x,y]) :=
 ⟨by rw[yY];simp,[u,v],.cons rx (.cons ry .nil),⟨_,e,rfl,_,rfl⟩⟩
def z7p{P:yy}{w:yH}{K:yz}{elts:List yD}{x1}{pos:xV}(a e it:yg)(hne:e≠it):Turn P w K (.Tuple elts x1 pos) (Ien (Itl K a)) [e,it] e (λi h=>(∃old,IsEnum h e it i old)/\h.IsListIter it a i) where
 mem:=by simp
 obj:=λi h ⟨⟨old,he⟩,st⟩ b hb=>by
  have hb:b=e\/b=it:=by simpa using hb
  rcases hb with rfl|rfl
  ·exact⟨_,he,λv z=>by have z':Data.fields _=Data.cell v:=z;cases z'⟩
  ·obtain⟨o,q,c,d⟩:=st;exact⟨o,q,λv z=>by rw[d]at z;cases z⟩
 keep:=λi h h' ⟨⟨old,he⟩,st⟩ k=>⟨⟨old,k e (by simp) _ he⟩,st.at λo q=>k it (by simp) o q⟩
 item:=by
  intro X hP hw hK hc i U s Y H E I hf ⟨⟨old,he⟩,st⟩ hg;subst hP hw hK;obtain⟨xs,x,hq,hx⟩:=hg;obtain⟨its,rv,p,hz⟩:=I.list hq;obtain⟨u,hu,ru⟩:=rv.get hx;refine zkm (N:=λh=>h.IsListIter it a (i+1)) he hne (λA' Q' E' hQ=>wpAny_nextOf_list_item st p.isList (x:=u) (by simpa using hu) λh' st' sb=>hQ h' st' sb) (λh h' n k=>n.at λo q=>k o q) λh' eo n' t' z' kk=>?_;refine⟨_,rfl,wpAny_letOwnedTupleGo_enum eo λh2 e2 sb2=>?_⟩;replace sb2:Yj e h' h2:=sb2;have hlt:e<s.heap.objs.size:=ym he;have t2:=(sb2.2 s.heap.objs.size (Yc hlt)).trans t';have hfr:=I.hok.fresh (yj s.heap.objs.size)
  have I2:Inv X U Y (upd H s.heap.objs.size (.tup [.int i,x])) {s with heap:=h2,toks:=s.toks+1 }:=by
   refine zre I hf (λb o hb q=>?_) (yj _) (z7r t2 ⟨_,rfl⟩ ru);simp only[mem_cons,not_mem_nil,or_false,not_or]at hb;exact(sb2.2 b hb.1).trans (kk b o hb.1 hb.2 q)
  refine⟨.ref s.heap.objs.size,_,I2,rfl,⟨_,x,rfl,hfr,rfl,rfl,λys hy=>by rw[I.sw hy hq];exact hx⟩,⟨⟨u,by simpa using e2⟩,n'.at λo q=>(sb2.2 it (Yv hne)).trans q⟩,λb hb=>?_⟩
  ·rw[zY]
   ·exact(hf b hb).1
   ·rintro rfl;have hb:s.heap.objs.size=e\/s.heap.objs.size=it:=by simpa using hb
    rcases hb with q|q
    ·exact absurd hlt (by rw[q];exact Ye _)
    ·obtain⟨o,qo,_⟩:=st;exact absurd (ym qo) (by rw[q];exact Ye _)
 done:=by
  intro X hP hw hK hc i U s Y H E I hf ⟨⟨old,he⟩,st⟩ hg;subst hP hw hK;obtain⟨xs,hq,hx⟩:=hg;obtain⟨its,rv,p,hz⟩:=I.list hq;have hl:=rv.length;refine z9o he (λA' Q' E' hA hE=>wpAny_nextOf_list_end (hA.trans (I.ok.hd hc)) st p.isList (by simp;omega) hE) λh' eb=>⟨rfl,z1k (t':=s.toks) I hf λb o hb q=>eb b o (λz=>hb (by simp[z])) q⟩
 self:=λ_ _ _ _ _ ⟨⟨old,he⟩,_⟩ h=>wpAny_pyIter_enum he h
def zsp{P:yy}{w:yH}{K:yz}{elts:List yD}{x1}{pos:xV}(a e it:yg)(hne:e≠it):Turn P w K (.Tuple elts x1 pos) (Ien (Itt K a)) [e,it] e (λi h=>(∃old,IsEnum h e it i old)/\h.IsTupleIter it a i) where
 mem:=by simp
 obj:=λi h ⟨⟨old,he⟩,st⟩ b hb=>by
  have hb:b=e\/b=it:=by simpa using hb
  rcases hb with rfl|rfl
  ·exact⟨_,he,λv z=>by have z':Data.fields _=Data.cell v:=z;cases z'⟩
  ·obtain⟨o,q,c,d⟩:=st;exact⟨o,q,λv z=>by rw[d]at z;cases z⟩
 keep:=λi h h' ⟨⟨old,he⟩,st⟩ k=>⟨⟨old,k e (by simp) _ he⟩,st.at λo q=>k it (by simp) o q⟩
 item:=by
  intro X hP hw hK hc i U s Y H E I hf ⟨⟨old,he⟩,st⟩ hg;subst hP hw hK;obtain⟨xs,x,hq,hx⟩:=hg;obtain⟨its,rv,p,hz⟩:=I.tuple hq;obtain⟨u,hu,ru⟩:=rv.get hx;refine zkm (N:=λh=>h.IsTupleIter it a (i+1)) he hne (λA' Q' E' hQ=>nextT st (show s.heap.IsTuple a its.toArray from p) (x:=u) (by simpa using hu) λh' st' sb=>hQ h' st' sb) (λh h' n k=>n.at λo q=>k o q) λh' eo n' t' z' kk=>?_;refine⟨_,rfl,wpAny_letOwnedTupleGo_enum eo λh2 e2 sb2=>?_⟩;replace sb2:Yj e h' h2:=sb2;have hlt:e<s.heap.objs.size:=ym he;have t2:=(sb2.2 s.heap.objs.size (Yc hlt)).trans t';have hfr:=I.hok.fresh (yj s.heap.objs.size)
  have I2:Inv X U Y (upd H s.heap.objs.size (.tup [.int i,x])) {s with heap:=h2,toks:=s.toks+1 }:=by
   refine zre I hf (λb o hb q=>?_) (yj _) (z7r t2 ⟨_,rfl⟩ ru);simp only[mem_cons,not_mem_nil,or_false,not_or]at hb;exact(sb2.2 b hb.1).trans (kk b o hb.1 hb.2 q)
  refine⟨.ref s.heap.objs.size,_,I2,rfl,⟨_,x,rfl,hfr,rfl,rfl,λys hy=>by rw[I.sf hy hq];exact hx⟩,⟨⟨u,by simpa using e2⟩,n'.at λo q=>(sb2.2 it (Yv hne)).trans q⟩,λb hb=>?_⟩
  ·rw[zY]
   ·exact(hf b hb).1
   ·rintro rfl;have hb:s.heap.objs.size=e\/s.heap.objs.size=it:=by simpa using hb
    rcases hb with q|q
    ·exact absurd hlt (by rw[q];exact Ye _)
    ·obtain⟨o,qo,_⟩:=st;exact absurd (ym qo) (by rw[q];exact Ye _)
 done:=by
  intro X hP hw hK hc i U s Y H E I hf ⟨⟨old,he⟩,st⟩ hg;subst hP hw hK;obtain⟨xs,hq,hx⟩:=hg;obtain⟨its,rv,p,hz⟩:=I.tuple hq;have hl:=rv.length;refine z9o he (λA' Q' E' hA hE=>zcs (hA.trans (I.ok.hd hc)) st (show s.heap.IsTuple a its.toArray from p) (by simp;omega) hE) λh' eb=>⟨rfl,z1k (t':=s.toks) I hf λb o hb q=>eb b o (λz=>hb (by simp[z])) q⟩
 self:=λ_ _ _ _ _ ⟨⟨old,he⟩,_⟩ h=>wpAny_pyIter_enum he h
def zes(l:yg)(items:Array yb)(n:Nat)(dct:Option yg)(sl:Array (Option yb)) :
 Meets (YY.«enumerate.__new__» ⟨[.type "enumerate",.ref l],[]⟩) (λ_ R s=>s.heap.get? l=some {cls:=.type "tuple",dict:=dct,data:=.seq items n,slots:=sl } /\
  R (.ok (.ret (.ref (s.heap.push {cls:=.type "tuple_iterator",data:=.fields #[.ref l,.int 0 0]}).objs.size)))
   {s with heap:=(s.heap.push {cls:=.type "tuple_iterator",data:=.fields #[.ref l,.int 0 0]}).push {cls:=.type "enumerate",data:=.fields #[.none,.bool false,.ref s.heap.objs.size,YF 0,.none,.none]}}) :=
 .of_wp λprog w A R s h=>by
  obtain⟨hp,g,d,tk,os⟩:=s;obtain⟨hl,h⟩:=h;have hsub:=sub_enumerate;have hL:Heap.IsTuple (Shared.heap ⟨hp,g,d,tk,os⟩) l items:=⟨_,hl,rfl,n,rfl⟩
  wp_walk using xA hl
  refine wpAny_stack_any λst=>yf ?_
  split
  ·rename_i c _ _ _ _ _
   cases (c==Yl "enumerate")
   ·wp_walk using xA hl,wpAny_pyIter_tuple hL
    exact⟨_,rfl,h⟩
   ·wp_walk using xA hl,wpAny_pyIter_tuple hL
    exact⟨_,rfl,h⟩
  ·wp_walk using xA hl,wpAny_pyIter_tuple hL
   exact⟨_,rfl,h⟩
def zUp{prog:yy}{w:yH}{A:yN}{E:yb->yc->Prop}{l:yg}{items:Array yb}{Q:yb->yc->Prop}(hL:s.heap.IsTuple l items)
 (h:∀h',IsEnum h' (s.heap.objs.size+1) s.heap.objs.size 0 .none->h'.IsTupleIter s.heap.objs.size l 0->h'.objs.size=s.heap.objs.size+2 ->
  (∀b o,s.heap.get? b=some o->h'.get? b=some o)->Q (.ref (s.heap.objs.size+1)) {s with heap:=h' }):yo (yx prog w) A (call (.type "enumerate") [.ref l]) Q E s:=by
 obtain⟨⟨c,dct,dt,sl⟩,hl,hc,n,hd⟩:=hL;replace hc:c=.type "tuple":=hc;replace hd:dt=.seq items n:=hd;subst hc hd;refine callType_new F.called_enumerate (by decide) (F.typeCall_enumerate_1 _) (F.newCall_enumerate_1 _) (λobj=>F.args_object_init_2 obj _) F.entry_enumerate_new (zes l items n dct sl) ⟨hl,?_⟩;have hz:(s.heap.push {cls:=.type "tuple_iterator",data:=.fields #[.ref l,.int 0 0]}).objs.size=s.heap.objs.size+1:=Yr ..
 have he:IsEnum ((s.heap.push {cls:=.type "tuple_iterator",data:=.fields #[.ref l,.int 0 0]}).push {cls:=.type "enumerate",data:=.fields #[.none,.bool false,.ref s.heap.objs.size,YF 0,.none,.none]}) (s.heap.objs.size+1) s.heap.objs.size 0 .none:=by
  have:=yn (s.heap.push {cls:=.type "tuple_iterator",data:=.fields #[.ref l,.int 0 0]}) (o:={cls:=.type "enumerate",data:=.fields #[.none,.bool false,.ref s.heap.objs.size,YF 0,.none,.none]}) rfl;rw[hz]at this;exact this
 show _/\_;rw[hz];exact⟨⟨_,he,rfl⟩,h _ he ⟨_,ye _ (yn _ rfl),rfl,rfl⟩ (by rw[Yr,hz]) λb o x=>ye _ (ye _ x)⟩
def zAy(K:yz)(tl:TE):TI:=λY H R=>tl Y H λx H1=>∃a,x=.ref a/\((∃xs,SqL K H1 a xs)/\R (Ien (Itl K a)) H1\/(∃xs,SqT K H1 a xs)/\R (Ien (Itt K a)) H1)
def zpu{l:yD}{tl:TE}{elts:List yD}{x1}{tp p pos:xV}(hg:Gl X "enumerate")(hm:X.mg "enumerate"=none)(hv:yI "enumerate"=some (.type "enumerate"))(hl:PE X l tl)(hs:yr [l] X.env=[(false,Yt l X.env)]:=by rfl) :
 PI X (.Tuple elts x1 tp) (.Call (.Name "enumerate" p) [l] [] pos) (zAy X.K tl):=by
 intro U s Y H R I h
 refine Call_ (zEk I hg hm hv (YH (thn (zHg hl zFj hs pos U s Y H (λvs H1=>match vs with
  |[x]=>∃a,x=.ref a/\((∃xs,SqL X.K H1 a xs)/\R (Ien (Itl X.K a)) H1\/(∃xs,SqT X.K H1 a xs)/\R (Ien (Itt X.K a)) H1)
  |_=>False) I h) λus s1 ⟨vs,H1,I1,r1,q1⟩=>?_) hs rfl))
 dsimp only at q1
 split at q1
 case h_2=>exact q1.elim
 obtain⟨a,e,q⟩:=q1;subst e
 cases r1 with
 |cons r rr=>
  cases rr;cases r
  have fin:∀h':Yb,(∀b o,s1.heap.get? b=some o->h'.get? b=some o)->∀b∈[s1.heap.objs.size+1,s1.heap.objs.size],zlp X U H1 b:=λh' kp b hb=>by
   have hb:b=s1.heap.objs.size+1\/b=s1.heap.objs.size:=by simpa using hb
   rcases hb with rfl|rfl
   ·exact I1.sC (xJ _) (I1.hok.fresh (xJ _))
   ·exact I1.sC (yj _) (I1.hok.fresh (yj _))
  have hne:s1.heap.objs.size+1≠s1.heap.objs.size:=Nat.succ_ne_self _;rcases q with ⟨⟨xs,hq⟩,q⟩|⟨⟨xs,hq⟩,q⟩
  ·obtain⟨its,rv,pl,hz⟩:=I1.list hq;refine call_enumerate_list pl.isList λh' e1 i1 z1 kp=>?_;refine wpAny_pyIter_enum (s:={s1 with heap:=h' }) e1 ?_;exact⟨_,[s1.heap.objs.size+1,s1.heap.objs.size],_,_,H1,rfl,I1.kept (t':=s1.toks) kp,z7p a _ _ hne,⟨⟨_,e1⟩,i1⟩,fin h' kp,q⟩
  ·obtain⟨its,rv,pl,hz⟩:=I1.tuple hq;refine zUp (show s1.heap.IsTuple a its.toArray from pl) λh' e1 i1 z1 kp=>?_;refine wpAny_pyIter_enum (s:={s1 with heap:=h' }) e1 ?_;exact⟨_,[s1.heap.objs.size+1,s1.heap.objs.size],_,_,H1,rfl,I1.kept (t':=s1.toks) kp,zsp a _ _ hne,⟨⟨_,e1⟩,i1⟩,fin h' kp,q⟩
def zzg(ds:List D):List D:=ds.zipIdx.map λp =>.tup [.int (p.2:Nat),p.1]
def zFc(ds:List D):(zzg ds).length=ds.length:=by simp[zzg]
def zLl{ds:List D}{i:Nat}{d:D}(h:(zzg ds)[i]?=some d):∃y,ds[i]?=some y/\d=.tup [.int i,y]:=by
 unfold zzg at h;rw[yh,List.getElem?_zipIdx]at h
 cases e:ds[i]? with
 |none=>rw[e]at h;cases h
 |some y=>
  rw[e]at h;refine⟨y,rfl,?_⟩;have:=yS h;rw[<-this];simp
@[simp] def zLi(G:FE):FI:=λJ μ=>(G J μ).bind λp=>match p.1 with
 |.tup ds=>some (zzg ds,yes,p.2)
 |.fz ds=>some (zzg ds,yes,p.2)
 |.loc n=>match p.2[n]? with
  |some (.lst ds)=>some (zzg ds,zFm n ds,p.2)
  |_=>none
 |_=>none
def z9n{K:yz}{δ:It}{Z:List yg}{H:Hp}{ds:List D}{ok:Mem->Bool}(h:sG K δ Z H ds ok):sG K (Ien δ) Z H (zzg ds) ok:=by
 refine⟨λZ' H' μ' i x R o hi=>h.go Z' H' μ' i x R o (by rw[zFc]at hi;exact hi),λZ' H' μ' i x H'' d x' R o e ⟨p,y,e1,hp,e2,yl⟩=>?_,λZ' H' μ' x R o=>by rw[zFc];exact h.stop Z' H' μ' x R o⟩;obtain⟨z,ez,rfl⟩:=zLl e;obtain⟨_,_,rz⟩:=h.yld Z' H' μ' i y H' z x' R o ez yl;subst e1 e2;exact⟨Ext.new hp,R.Tm hp,.tup zx (.cons .int (.cons (rz.ext (Ext.new hp)) .nil))⟩
def zte{a:yD}{G:FE}{elts:List yD}{x1}{tp p pos:xV}(hm:X.mg "enumerate"=none)(hv:yI "enumerate"=some (.type "enumerate"))(h:ME X a G)(hg:Gl X "enumerate":=by rfl)(hs:yr [a] X.env=[(false,Yt a X.env)]:=by rfl) :
 MI X (.Tuple elts x1 tp) (.Call (.Name "enumerate" p) [a] [] pos) (zLi G) :=
 z1q (zpu hg hm hv h hs) λZ J μ Y H ds ok μ' R A e k=>by
  obtain⟨⟨x,μ1⟩,e1,e⟩:=zf e;refine⟨Z,J,μ,x,μ1,A,e1,λZ1 H1 v1 x1 R1 r1=>?_⟩;dsimp only at e
  split at e
  ·cases e;obtain⟨a,vs,rfl,e2,q2⟩:=r1.tR;exact⟨a,rfl,.inr ⟨⟨vs,SqT.of e2⟩,k Z1 H1 _ x1 R1 (z9n (zHt e2 q2))⟩⟩
  ·cases e;obtain⟨a,vs,rfl,e2,q2⟩:=r1.TW;exact⟨a,rfl,.inl ⟨⟨vs,e2.sq⟩,k Z1 H1 _ x1 R1 (z9n (zSo λZ' H' μ' x _ _=>⟨vs,(x.fz e2).sq,q2.ext x⟩))⟩⟩
  ·split at e
   ·rename_i hm
    cases e;obtain⟨a,rfl,e2⟩:=r1.tz;obtain⟨vs,e3,q3⟩:=R1.at_ _ _ _ e2 hm;refine⟨a,rfl,.inl ⟨⟨vs,SqL.of e3⟩,k Z1 H1 _ x1 R1 (z9n (zSo λZ' H' μ'' x R' o=>?_))⟩⟩;obtain⟨vs',e4,q4⟩:=R'.at_ _ _ _ (x.get e2) (TJ.mp o);exact⟨vs',SqL.of e4,q4⟩
   ·cases e
  ·cases e
@[simp] def zHo(g:GM)(G:FE):FE:=λJ μ=>(G J μ).bind λp=>match p.1 with
 |.loc n=>match p.2[n]? with
  |some (.lst _)=>g (.loc n) [] p.2
  |_=>none
 |_=>none
def zct{o:yD}{name:yF}{id:String}{g:GM}{apos:xV}(slot:Slot "list" name id)(hty:typeOf (.builtin id)=pure (.type "method_descriptor"))(hm:MtG X id g)(ho:ME X o G)
 (hbase:YI o name X.env (Yt o X.env)=Yt o X.env:=by rfl) (hline:(apos.endLine==pos.line)=true:=by rfl):ME X (.Call (.Attribute o name apos) [] [] pos) (zHo g G) :=
 zGe (z5w PySem.F.plainAttrs_list slot hty hm ho hbase hline) λZ J μ Y H d μ' Q A e k=>by
  obtain⟨⟨x,μ1⟩,e1,e⟩:=zf e;refine⟨Z,J,μ,x,μ1,A,e1,λZ1 H1 v x1 R1 r1=>?_⟩;dsimp only at e
  split at e
  ·split at e
   ·rename_i hm'
    obtain⟨a,rfl,ea⟩:=r1.tz;obtain⟨vs,e3,q3⟩:=R1.at_ _ _ _ ea hm';exact⟨.inl ⟨rfl,vs,SqL.of e3⟩,Z1,_,[],μ1,d,μ',r1,.nil,R1,e,λZ3 H3 v3 x3 R3 r3=>k Z3 H3 v3 (x1.trans x3) R3 r3⟩
   ·cases e
  ·cases e
@[simp] def zUw:GM:=λx ds μ=>match x,ds with
 |.loc n,[]=>match μ[n]? with
  |some (.lst xs)=>(xs[xs.length-1]?).bind λd=>some (d,μ.set n (.lst xs.dropLast))
  |_=>none
 |_,_=>none
def z7m{K:yz}{Z:List yg}{H:Hp}{ds:List D}{vs:List V}(r:tf K Z H ds vs):tf K Z H ds.dropLast vs.dropLast:=by
 rw[List.dropLast_eq_take,List.dropLast_eq_take,r.length];exact r.take _
def z4u:MtG X "list.pop" zUw:=by
 refine MtG.of λU s Y H x xs v us Q I rx rs Z dx ds μ d μ' r1 r2 R e k=>?_;unfold zUw at e
 split at e
 ·split at e
  ·rename_i hm
   obtain⟨y,e2,e⟩:=zf e;cases e;obtain⟨a,rfl,ea⟩:=r1.tz;obtain⟨vs,e3,q3⟩:=R.at_ _ _ _ ea hm;have hmu:Mut (H a):=by rw[e3];trivial
   obtain⟨w,hw,rw'⟩:=q3.get e2;rw[q3.length]at hw;exact z8v U s Y H _ _ v us Q I rx rs ⟨a,vs,w,rfl,r2.nil_inv,e3,hw,k Z _ _ (Ext.wr hmu) (R.wr hmu ea ⟨_,zx,tf.ext (Ext.wr hmu) (z7m q3)⟩) (rw'.ext (Ext.wr hmu))⟩
  ·cases e
 ·cases e
def z3v{o:yD}{apos:xV}(ho:ME X o G)(hbase:YI o "pop" X.env (Yt o X.env)=Yt o X.env:=by rfl)(hline:(apos.endLine==pos.line)=true:=by rfl):ME X (.Call (.Attribute o "pop" apos) [] [] pos) (zHo zUw G) :=
 zct PySem.F.slot_list_pop PySem.F.type_list_pop z4u ho hbase hline
@[simp] def zrj:GM:=λx ds μ=>match x,ds with
 |.loc n,[d]=>match μ[n]? with
  |some (.lst xs)=>bif zDc d&&xs.all zDc then some (.int (xs.countP λy=>eqF y d:Nat),μ) else none
  |_=>none
 |_,_=>none
def zhm{x:V}:∀{xs:List V} {us:List yb},Vals xs us->xs.all zIi=true->us.countP (eqU x)=xs.countP λy=>eqV y x
 |_,_,.nil,_=>rfl
 |y::xs,u::us,.cons r t,f=>by
  rw[all_cons,yG]at f;rw[countP_cons,countP_cons,zep r f.1,zhm t f.2]
def zkn{K:yz}{Z:List yg}{H:Hp}{x:D}{v:V}(rx:tu K Z H x v)(fx:zDc x=true):∀{ds:List D} {vs:List V},tf K Z H ds vs->ds.all zDc=true->(vs.countP λy=>eqV y v)=ds.countP λd=>eqF d x
 |[],_,r,_=>by rw[r.nil_inv];rfl
 |d::ds,_,r,f=>by
  obtain⟨w,ws,rfl,r1,r2⟩:=r.cons_inv;rw[all_cons,yG]at f;rw[countP_cons,countP_cons,zkn rx fx r2 f.2,zEn r1 rx f.1 fx]
def zlr:MtG X "list.count" zrj:=by
 refine MtG.of λU s Y H x xs v us Q I rx rs Z dx ds μ d μ' r1 r2 R e k=>?_;unfold zrj at e
 split at e
 ·split at e
  ·rename_i hm
   obtain⟨h1,e⟩:=zI e;rw[yG]at h1;cases e;obtain⟨a,rfl,ea⟩:=r1.tz;obtain⟨vs,e3,q3⟩:=R.at_ _ _ _ ea hm;obtain⟨w,r,rfl,q1,q2⟩:=r2.cons_inv;rw[q2.nil_inv]at rs;obtain⟨u,rfl,ru⟩:=vals1 rs;cases rx;obtain⟨z,its,n,rv,hl,el⟩:=I.TM e3;obtain⟨fv,_⟩:=zum q1 h1.1 q3 h1.2;refine xw PySem.F.slot_list_count ⟨_,el,rfl⟩ PySem.F.entry_list_count (PySem.F.args_list_count_2 _ _) (SeqAt.list_countAt a its.toArray n _ _ u (eqU w)) ⟨el,λy hy=>zQe ru (z9f q1 h1.1) rv fv y (by simpa using hy),?_⟩;refine⟨.int _,H,I.tok _,⟨_,rfl⟩,?_⟩;rw[show its.toArray.toList=its by simp,zhm rv fv,zkn q1 h1.1 q3 h1.2];exact k Z H _ Ext.refl R .int
  ·cases e
 ·cases e
def zWs{o:yD}{ψ:FA}{apos:xV}(ho:ME X o G)(ha:MAn X (e::es) ψ)
 (hbase:YI o "count" X.env (Yt o X.env)=Yt o X.env:=by rfl)
 (hfew:((YZ pos (yr (e::es) X.env)).all (λx=>!x.1)&&(backToKw pos (xZ [] X.env)).all (λx=>x.1.isSome)
  && decide ((e::es).length+([]:List xD).length+(if([]:List xD).isEmpty then 0 else 1)<30))=true:=by rfl)
 (hline:(apos.endLine==pos.line)=true:=by rfl) (hs:yr (e::es) X.env=(false,Yt e X.env)::yr es X.env:=by rfl) (hplain:(YZ pos (yr es X.env)).any (·.1)=false:=by rfl) :
 ME X (.Call (.Attribute o "count" apos) (e::es) [] pos) (ztf zrj G ψ):=zNh PySem.F.slot_list_count PySem.F.type_list_count zlr ho ha hbase hfew hline hs hplain
@[simp] def zOh:GM:=λx ds μ=>match x,ds with
 |.loc n,[.int i]=>match μ[n]? with
  |some (.lst xs)=>(zIj xs).bind λns=>bif ns.contains i then some (.non,μ.set n (.lst ((ns.erase i).map .int))) else none
  |_=>none
 |_,_=>none
def zyo{i:Int}:∀{ns:List Int},i∈ns->∃j,∃hj:j<ns.length,ns[j]=i/\(∀m (hm:m<ns.length),m<j->ns[m]≠i)/\ns.erase i=ns.eraseIdx j
 |[],h=>by cases h
 |n::ns,h=>by
  by_cases hn:n=i
  ·exact⟨0,by simp,hn,λm _ hm=>absurd hm (Nat.not_lt_zero _),by simp[hn]⟩
  ·have h':i∈ns:=by
    rcases List.mem_cons.mp h with h|h
    ·exact absurd h.symm hn
    ·exact h
   obtain⟨j,hj,e1,e2,e3⟩:=zyo h';refine⟨j+1,by simpa using hj,by simpa using e1,λm hm hmj=>?_,?_⟩
   ·cases m with
    |zero=>simpa using hn
    |succ m=>simpa using e2 m (by simpa using hm) (by omega)
   ·rw[List.erase_cons_tail (by simpa using hn),e3,xG]
def zOm{α β:Type}(f:α->β):∀(l:List α)(j:Nat),(l.eraseIdx j).map f=(l.map f).eraseIdx j
 |[],j=>by simp
 |x::l,0=>by simp
 |x::l,j+1=>by simp[zOm f l j]
def zRk:∀{vs:List V} {us:List yb} (j:Nat),Vals vs us->Vals (vs.eraseIdx j) (us.eraseIdx j)
 |_,_,_,.nil=>by simp;exact .nil
 |_,_,0,.cons r t=>by simpa using t
 |_,_,j+1,.cons r t=>by rw[xG,xG];exact .cons r (zRk j t)
def zcq:MtG X "list.remove" zOh:=by
 refine MtG.of λU s Y H x xs v us Q I rx rs Z dx ds μ d μ' r1 r2 R e k=>?_;unfold zOh at e
 split at e
 ·rename_i l i
  split at e
  ·rename_i hm
   obtain⟨ns,e2,e⟩:=zf e;obtain⟨h1,e⟩:=zI e;cases e;rw[zBe e2]at hm;obtain⟨a,rfl,ea⟩:=r1.tz;obtain⟨vs,e3,q3⟩:=R.at_ _ _ _ ea hm;rw[z4f q3]at e3;obtain⟨w,r,rfl,q1,q2⟩:=r2.cons_inv;rw[q2.nil_inv,q1.int_inv]at rs;obtain⟨u,rfl,ru⟩:=vals1 rs;obtain⟨t,rfl⟩:=ru;cases rx;obtain⟨z,its,n,rv,hl,el⟩:=I.TM e3;obtain⟨j,hj,hit,hno,her⟩:=zyo (show i∈ns by simpa using h1);have hlen:its.length=ns.length:=by rw[<-rv.length];simp
   have at_:∀m (hm:m<its.length),∃t,its[m]=.int (ns[m]'(by omega)) t:=λm hm=>by
    have hg:(ns.map V.int)[m]?=some (.int (ns[m]'(by omega))):=by simp[show m<ns.length by omega]
    obtain⟨u,hu,t,ru⟩:=rv.get hg;exact⟨t,by rw[<-ru];exact(List.getElem?_eq_some_iff.mp hu).2⟩
   let f:yb->Bool:=λy=>match y with | .int z _=>z==i|_=>false
   have hz':its.length<=yE:=by rw[<-rv.length];exact z
   refine xw PySem.F.slot_list_remove ⟨_,el,rfl⟩ PySem.F.entry_list_remove (PySem.F.args_list_remove_2 _ _)
    (MeetsSeq.list_remove a its.toArray n (.int i t) f (λy hy=>?_) j (by simp;omega) ?_ (λm hm hmj=>?_) (by simpa using hz')) ⟨el,?_⟩
   ·obtain⟨m,hm,rfl⟩:=List.mem_iff_getElem.mp (show y∈its by simpa using hy);obtain⟨t',e'⟩:=at_ m hm;rw[e'];exact MeetsSeq.EqGives.int _ _ _ _
   ·obtain⟨t',e'⟩:=at_ j (by omega);show f its[j]=true;rw[e'];simp[f,hit]
   ·have hm':m<its.length:=by simpa using hm
    obtain⟨t',e'⟩:=at_ m hm';show f its[m]=false;rw[e'];simpa[f] using hno m (by omega) hmj
   ·have hmu:Mut (H a):=by rw[e3];trivial
    refine⟨.non,_,I.sN (t':=s.toks) (ys:=(ns.erase i).map V.int) (its':=its.eraseIdx j) e3 el ?_ ?_ ?_,rfl,k Z _ _ (Ext.wr hmu) (R.wr hmu ea ⟨_,zx,z3e⟩) .non⟩
    ·simp[Array.eraseIdxIfInBounds,show j<its.length by omega]
    ·rw[her,zOm];exact zRk j rv
    ·have:(ns.erase i).length<=ns.length:=by rw[her];exact List.length_eraseIdx_le _ _
     rw[length_map]at z ⊢;omega
  ·cases e
 ·cases e
def zbs{o:yD}{ψ:FA}{apos:xV}(ho:ME X o G)(ha:MAn X (e::es) ψ)
 (hbase:YI o "remove" X.env (Yt o X.env)=Yt o X.env:=by rfl)
 (hfew:((YZ pos (yr (e::es) X.env)).all (λx=>!x.1)&&(backToKw pos (xZ [] X.env)).all (λx=>x.1.isSome)
  && decide ((e::es).length+([]:List xD).length+(if([]:List xD).isEmpty then 0 else 1)<30))=true:=by rfl)
 (hline:(apos.endLine==pos.line)=true:=by rfl) (hs:yr (e::es) X.env=(false,Yt e X.env)::yr es X.env:=by rfl) (hplain:(YZ pos (yr es X.env)).any (·.1)=false:=by rfl) :
 ME X (.Call (.Attribute o "remove" apos) (e::es) [] pos) (ztf zOh G ψ):=zNh PySem.F.slot_list_remove PySem.F.type_list_remove zcq ho ha hbase hfew hline hs hplain
@[simp] def zXw(i:Nat)(g:φ2)(G:FE):FS:=λJ μ=>match J[i]? with
 |some (some x)=>(G J μ).bind λp=>(g x p.1 p.2).bind λq=>some (.next (J.set i (some q.1)) q.2)
 |_=>none
def zts:φ2:=λx y μ=>match x,y with
 |.int i,.int j=>some (.int (i+j),μ)
 |_,_=>none
def z6u:OpM X (inplaceOp .Add) zts:=by
 refine OpM.of λU s Y H x y v u Q I rx ry Z dx dy μ d μ' r1 r2 R e k=>?_;unfold zts at e
 split at e
 ·cases e;exact ziu U s Y H x y v u Q I rx ry ⟨_,_,r1.int_inv,r2.int_inv,k Z H _ Ext.refl R .int⟩
 ·cases e
def zUv{x:yF}{op:Operator}{g:φ2}{pos':xV}(i:Nat)(ho:OpM X (inplaceOp op) g)(he:ME X e G)(hN:X.N.Nodup:=by assumption)(hi:X.N[i]?=some x:=by rfl)(hx:L2.Loc X.env.scope x:=by first|exact Or.inl rfl|exact Or.inr rfl)
 (hf:X.fn x=true\/X.env.scope.names.lookup x=some .local:=by first|exact .inl rfl|exact .inr rfl|assumption):MS X (.AugAssign (.Name x pos') op e pos) (zXw i g G) :=
 zjk (zRw (ti:=rM X.K g) hN hi hx he (λU s Y H x y v u Q I rx ry q=>ho U s Y H x y v u Q I rx ry q) hf) λZ J μ Y H o E A e k=>by
  unfold zXw at e
  split at e
  ·rename_i d hd
   obtain⟨v,hv,rv⟩:=A.st i _ hd;obtain⟨⟨y,μ1⟩,e1,e⟩:=zf e;obtain⟨⟨z,μ2⟩,e2,e⟩:=zf e;cases e;refine⟨v,hv,Z,J,μ,y,μ1,A,e1,λZ1 H1 w x1 R1 r1=>?_⟩;refine⟨Z1,d,y,μ1,z,μ2,rv.ext x1,r1,R1,e2,λZ2 H2 w2 x2 R2 r2=>?_⟩;exact k Z2 _ H2 (x1.trans x2) ((A.ext (x1.trans x2) R2).set r2 i)
  ·cases e
def zUb(c:FT)(body:FS):Nat->FS
 |0,_,_=>none
 |n+1,J,μ=>(c J μ).bind λp=>bif p.1 then(match body J p.2 with
  |some (.next J' μ')=>zUb c body n J' μ'
  |some (.cont J' μ')=>zUb c body n J' μ'
  |some (.brk J' μ')=>some (.next J' μ')
  |some (.ret d μ')=>some (.ret d μ')
  |some (.exc C fs μ')=>some (.exc C fs μ')
  |none=>none) else some (.next J p.2)
def zKk(n:Nat)(c:FT)(body:FS):FS:=zUb c body n
def z7i{body:List Yg}{t:FT}{p:FS}(n:Nat)(hc:MT X c t)(hb:MSs X body p)(hx:PassesOwn (yx X.prog X.w) X.A X.env X.xe:=by first|exact PassesOwn.never|exact PassesOwn.leaving):MS X (.While c body [] pos) (zKk n t p) :=
 zjk (zUs hx hc hb) λZ J μ Y H o E A e k=>by
  refine⟨λm Y' H'=>∃Z' J' μ',Ext Z H Z' H'/\At X.K Z' H' Y' J' μ'/\zUb t p m J' μ'=some o,⟨n,Z,J,μ,Ext.refl,A,e⟩,?_⟩;rintro m Y' H' ⟨Z',J',μ',x',A',ew⟩
  cases m with
  |zero=>cases ew
  |succ m=>
   unfold zUb at ew;obtain⟨⟨b,μ1⟩,e1,ew⟩:=zf ew;refine⟨Z',J',μ',b,μ1,A',e1,λZ1 H1 x1 R1=>?_⟩;have xx:=x'.trans x1
   cases b with
   |false=>
    cases ew;exact sD (k Z1 Y' H1 xx (A'.ext x1 R1))
   |true=>
    refine sE ⟨λY3 H3=>∃Z3 J3 μ3,Ext Z H Z3 H3/\At X.K Z3 H3 Y3 J3 μ3/\zUb t p m J3 μ3=some o,λY3 H3 q=>⟨m,YA _,q⟩,?_⟩;dsimp only[cond_true]at ew
    cases eb:p J' μ1 with
    |none=>rw[eb]at ew;cases ew
    |some ob=>
     rw[eb]at ew;refine⟨Z1,J',μ1,ob,A'.ext x1 R1,eb,?_⟩
     cases ob with
     |next J6 μ6=>exact λZ6 Y6 H6 x6 A6=>⟨Z6,J6,μ6,xx.trans x6,A6,ew⟩
     |cont J6 μ6=>exact λZ6 Y6 H6 x6 A6=>⟨Z6,J6,μ6,xx.trans x6,A6,ew⟩
     |brk J6 μ6=>cases ew;exact k.ext xx
     |ret d μ6=>cases ew;exact k.ext xx
     |exc C fs μ6=>cases ew;exact k.ext xx
end
end M
namespace L2
open PySem PySem.Spec PyProof.Rows
section
variable {κ:Type}[DecidableEq κ]
def zvo(kvs:List (κ×V))(k:κ):Option V:=(kvs.find? λkv=>decide (kv.1=k)).map (·.2)
def znq(kvs:List (κ×V))(k:κ)(v:V):List (κ×V) :=
 if(kvs.any λkv=>decide (kv.1=k))=true then kvs.map (λkv=>if kv.1=k then(kv.1,v) else kv) else kvs++[(k,v)]
def zYo{p:κ×V}{r:List (κ×V)}{k:κ}(e:p.1=k):zvo (p::r) k=some p.2:=by simp[zvo,List.find?_cons,e]
def zCo{p:κ×V}{r:List (κ×V)}{k:κ}(e:¬p.1=k):zvo (p::r) k=zvo r k:=by simp[zvo,List.find?_cons,e]
def zmo(kvs:List (κ×V))(k:κ)(v:V):(znq kvs k v).length<=kvs.length+1:=by
 unfold znq
 split
 ·rw[length_map];omega
 ·rw[length_append,length_cons,List.length_nil];omega
def su.si{o:Option V}{u:Option yb}(r:su o u):o.isSome=u.isSome:=by
 cases o with
 |none=>cases u with
  |none=>rfl
  |some _=>exact(show False from r).elim
 |some _=>cases u with
  |none=>exact(show False from r).elim
  |some _=>rfl
def KV.val{kvs:List (κ×V)}{vs:List (κ×yb)}(r:KV kvs vs)(k:κ):su (zvo kvs k) (valueAt vs k):=by
 unfold KV at r
 induction r with
 |nil=>exact True.intro
 |@cons p q ps qs h t ih=>
  obtain⟨h1,h2⟩:=h
  by_cases e:p.1=k
  ·have e':q.1=k:=h1.symm.trans e;have b:valueAt (q::qs) k=some q.2:=by simp[valueAt,List.find?_cons,e']
   rw[zYo e,b];exact h2
  ·have e':¬q.1=k:=λz=>e (h1.trans z);have b:valueAt (q::qs) k=valueAt qs k:=by simp[valueAt,List.find?_cons,e']
   rw[zCo e,b];exact ih
def KV.any{kvs:List (κ×V)}{vs:List (κ×yb)}(r:KV kvs vs)(k:κ):(kvs.any λkv=>decide (kv.1=k))=vs.any λkv=>decide (kv.1=k):=by
 unfold KV at r
 induction r with
 |nil=>rfl
 |cons h t ih=>rw[any_cons,any_cons,ih,h.1]
def KV.repl{kvs:List (κ×V)}{vs:List (κ×yb)}(r:KV kvs vs)(k:κ){y:V}{u:yb}(ry:RelV y u) :
 KV (kvs.map λkv=>if kv.1=k then(kv.1,y) else kv) (vs.map λkv=>if kv.1=k then(kv.1,u) else kv):=by
 unfold KV at r ⊢
 induction r with
 |nil=>exact .nil
 |@cons p q ps qs h t ih=>
  rw[map_cons,map_cons];refine .cons ?_ ih;obtain⟨h1,h2⟩:=h
  by_cases e:p.1=k
  ·rw[if_pos e,if_pos (h1.symm.trans e)];exact⟨h1,ry⟩
  ·rw[if_neg e,if_neg (λz=>e (h1.trans z))];exact⟨h1,h2⟩
def KV.put{kvs:List (κ×V)}{vs:List (κ×yb)}(r:KV kvs vs)(k:κ){y:V}{u:yb}(ry:RelV y u):KV (znq kvs k y) (stored vs k u):=by
 unfold znq stored;rw[r.any k]
 by_cases e:(vs.any λkv=>decide (kv.1=k))=true
 ·rw[if_pos e,if_pos e];exact r.repl k ry
 ·rw[if_neg e,if_neg e];exact Paired.snoc r ⟨rfl,ry⟩
def KV.keys{kvs:List (κ×V)}{vs:List (κ×yb)}(r:KV kvs vs):kvs.map (·.1)=vs.map (·.1):=by
 unfold KV at r
 induction r with
 |nil=>rfl
 |cons h t ih=>rw[map_cons,map_cons,ih,h.1]
def KV.length{kvs:List (κ×V)}{vs:List (κ×yb)}(r:KV kvs vs):kvs.length=vs.length:=Paired.length r
end
def zhr{P:yy}{w:yH}{k:Key}{u:yb}(r:RelV (kV k) u):(zRb P w).is k u=true:=by
 cases k with
 |inl i=>obtain⟨t,e⟩:=(show ∃t,u=Value.int i t from r);subst e;exact zMn P w i t
 |inr x=>obtain⟨t,e⟩:=(show ∃t,u=Value.str x t from r);subst e;exact zko P w x t
def zEu{P:yy}{w:yH}{H:Hp}{h:Yb}{a:yg}{kvs:List (Key×V)}(ok:HOk P w H h)(e:H a=some (.dK kvs)):kvs.length<=yE/\(a==sysModules)=false/\∃vs,KV kvs vs/\h.DictOf (zRb P w) a vs :=
 show tH P w H h a (.dK kvs) from ok a _ e
end L2
namespace M
open PySem PySem.Spec PyProof.Rows L2
def zkd(kvs:List (Int×D))(i:Int):Option D:=(kvs.find? λp=>decide (p.1=i)).map (·.2)
def z3p(kvs:List (Int×D))(i:Int)(d:D):List (Int×D):=if(kvs.any λp=>decide (p.1=i))=true then kvs.map (λp=>if p.1=i then(p.1,d) else p) else kvs++[(i,d)]
@[simp] def zdc(μ:Mem):D->Option (List (Int×D))
 |.loc n=>match μ[n]? with
  |some (.dct kvs)=>some kvs
  |some (.dcf kvs)=>some kvs
  |_=>none
 |_=>none
def RdK(H:Hp)(a:yg)(vs:List (Key×V)):Prop:=H a=some (.dK vs)\/∃o,H a=some (.frz o (.dK vs))
def zCi{P:yy}{w:yH}{H:Hp}{h:Yb}{a:yg}{kvs:List (Key×V)}(ok:HOk P w H h)(e:RdK H a kvs):kvs.length<=yE/\(a==sysModules)=false/\∃vs,KV kvs vs/\h.DictOf (zRb P w) a vs:=by
 rcases e with e|⟨o,e⟩
 ·exact zEu ok e
 ·exact(show tH P w H h a (.frz o (.dK kvs)) from ok a _ e).2
section
variable {K:yz}{Z:List yg}{H:Hp}{μ:Mem}
def zbg{d:D}{v:V}{kvs:List (Int×D)}(R:tF K Z H μ)(r:tu K Z H d v)(e:zdc μ d=some kvs):∃p vs,v=.ref p/\RdK H p vs/\vs.map (·.1)=kvs.map (λp=>yO p.1)/\tf K Z H (kvs.map (·.2)) (vs.map (·.2)):=by
 unfold zdc at e
 split at e
 ·split at e
  ·rename_i hm
   cases e;obtain⟨a,e1,e2⟩:=r.tz;obtain⟨vs,e3,q1,q2⟩:=R.at_ _ _ _ e2 hm;exact⟨a,vs,e1,.inl e3,q1,q2⟩
  ·rename_i hm
   cases e;obtain⟨a,e1,e2⟩:=r.tz;obtain⟨o,vs,e3,q1,q2⟩:=R.at_ _ _ _ e2 hm;exact⟨a,vs,e1,.inr ⟨o,e3⟩,q1,q2⟩
  ·cases e
 ·cases e
def zpl:∀{kvs:List (Int×D)} {vs:List (Key×V)} (i:Int),vs.map (·.1)=kvs.map (λp=>yO p.1)->tf K Z H (kvs.map (·.2)) (vs.map (·.2)) ->
 (∀d,zkd kvs i=some d->∃v,zvo vs (yO i)=some v/\tu K Z H d v)/\(zkd kvs i=none->zvo vs (yO i)=none)
 |[],vs,i,h1,h2=>by
  have:vs=[]:=by simpa using h1
  subst this;exact⟨λd h=>(by cases h),λ_=>rfl⟩
 |(j,d)::kvs,vs,i,h1,h2=>by
  cases vs with
  |nil=>simp at h1
  |cons q vs=>
   obtain⟨k,v⟩:=q;rw[map_cons,map_cons,List.cons.injEq]at h1;obtain⟨hk,h1⟩:=h1;have hk:k=yO j:=hk;subst hk;obtain⟨v',r,e,q1,q2⟩:=h2.cons_inv;rw[map_cons,List.cons.injEq]at e;obtain⟨e1,e2⟩:=e;subst e2;have e1:v=v':=e1;subst e1;obtain⟨ih1,ih2⟩:=zpl i h1 q2
   by_cases hj:j=i
   ·subst hj;have a1:zkd ((j,d)::kvs) j=some d:=by simp[zkd]
    have a2:zvo ((yO j,v)::vs) (yO j)=some v:=zYo rfl;rw[a1,a2];exact⟨λd' h=>(by cases h;exact⟨v,rfl,q1⟩),λh=>(by cases h)⟩
   ·have a1:zkd ((j,d)::kvs) i=zkd kvs i:=by simp[zkd,hj]
    have a2:zvo ((yO j,v)::vs) (yO i)=zvo vs (yO i):=zCo (λz=>hj (by simpa using z));rw[a1,a2];exact⟨ih1,ih2⟩
def zTs(kvs:List (Int×D))(vs:List (Key×V))(i:Int)(d:D)(v:V)(h:vs.map (·.1)=kvs.map (λp=>yO p.1)):(znq vs (yO i) v).map (·.1)=(z3p kvs i d).map (λp=>yO p.1):=by
 have hany:(vs.any λkv=>decide (kv.1=yO i))=kvs.any λp=>decide (p.1=i):=by
  have e1:(vs.any λkv=>decide (kv.1=yO i))=(vs.map (·.1)).any λk=>decide (k=yO i):=by rw[any_map];rfl
  rw[e1,h,any_map]
  congr 1
  funext p
  simp
 unfold znq z3p;rw[hany]
 split
 ·rw[map_map,map_map]
  have e1:(λx:Key×V=>x.1)∘(λkv=>if kv.1=yO i then(kv.1,v) else kv)=λx=>x.1:=by
   funext x;simp only[xP];split<;>rfl
  have e2:(λp:Int×D=>(yO p.1:Key))∘(λp=>if p.1=i then(p.1,d) else p)=λp=>yO p.1:=by
   funext x;simp only[xP];split<;>rfl
  rw[e1,e2];exact h
 ·simp[h]
def zro:∀(kvs:List (Int×D)) (vs:List (Key×V)) (i:Int) {d:D} {v:V},tu K Z H d v->vs.map (·.1)=kvs.map (λp=>yO p.1)->tf K Z H (kvs.map (·.2)) (vs.map (·.2)) ->
 tf K Z H ((kvs.map λp=>if p.1=i then(p.1,d) else p).map (·.2)) ((vs.map λkv=>if kv.1=yO i then(kv.1,v) else kv).map (·.2))
 |[],vs,i,d,v,r,h1,h2=>by
  have:vs=[]:=by simpa using h1
  subst this;exact .nil
 |(j,e)::kvs,vs,i,d,v,r,h1,h2=>by
  cases vs with
  |nil=>simp at h1
  |cons q vs=>
   obtain⟨k,u⟩:=q;rw[map_cons,map_cons,List.cons.injEq]at h1;obtain⟨hk,h1⟩:=h1;have hk:k=yO j:=hk;subst hk;obtain⟨v',r',e',q1,q2⟩:=h2.cons_inv;rw[map_cons,List.cons.injEq]at e';obtain⟨e1,e2⟩:=e';subst e2;have e1:u=v':=e1;subst e1;have ih:=zro kvs vs i r h1 q2;simp only[map_cons]
   by_cases hj:j=i
   ·subst hj;rw[if_pos rfl,if_pos rfl];exact .cons r ih
   ·rw[if_neg hj,if_neg (λz=>hj (by simpa using z))];exact .cons q1 ih
def zqv{kvs:List (Int×D)}{vs:List (Key×V)}{i:Int}{d:D}{v:V}(r:tu K Z H d v)(h1:vs.map (·.1)=kvs.map (λp=>yO p.1))(h2:tf K Z H (kvs.map (·.2)) (vs.map (·.2))) :
 tf K Z H ((z3p kvs i d).map (·.2)) ((znq vs (yO i) v).map (·.2)):=by
 have hany:(vs.any λkv=>decide (kv.1=yO i))=kvs.any λp=>decide (p.1=i):=by
  have e1:(vs.any λkv=>decide (kv.1=yO i))=(vs.map (·.1)).any λk=>decide (k=yO i):=by rw[any_map];rfl
  rw[e1,h1,any_map]
  congr 1
  funext p
  simp
 unfold znq z3p;rw[hany]
 split
 ·exact zro kvs vs i r h1 h2
 ·simp only[map_append,map_cons,List.map_nil];exact h2.append (.cons r .nil)
variable {X:Cx}{a b c e:yD}{es:List yD}{G ψ χ:FE}{pos:xV}
@[simp] def zdv:φ2:=λx y μ=>match y with
 |.int i=>(zdc μ x).bind λkvs=>(zkd kvs i).bind λd=>some (d,μ)
 |_=>none
def zDu{U:List (yg×xb)}{s:yc}{Y:L2.St}{H:Hp}{p:yg}{vs:List (Key×V)}{k:Key}{v:V}{u:yb}{A:yN}{E:yb->yc->Prop}{Q:yb->yc->Prop}(I:Inv X U Y H s)(e:RdK H p vs)(l:zvo vs k=some v)(ry:RelV (kV k) u)
 (h:∀w' s',Inv X U Y H s'->RelV v w'->Q w' s'):yo (yx X.prog X.w) A (getItem (.ref p) u) Q E s:=by
 obtain⟨z,hd,us,rel,dd⟩:=zCi I.hok e;obtain⟨w',hw,rw'⟩:=su.some_of (v:=v) (o:=valueAt us k) (by rw[<-l];exact rel.val k);exact wpAny_getItem_of (zhr ry) dd.mapOf hw (h w' _ (I.tok _) rw')
def ixD:IxR X (rM X.K zdv):=by
 intro value slice U s Y H x y v u Q I rx ry ⟨Z,dx,dy,μ,d,μ',r1,r2,R,e,k⟩ hs;unfold zdv at e
 split at e
 ·rename_i i
  obtain⟨kvs,e1,e⟩:=zf e;obtain⟨d',e2,e⟩:=zf e;cases e;obtain⟨p,vs,rfl,hq,q1,q2⟩:=zbg R r1 e1;obtain⟨w',e3,rw'⟩:=(zpl i q1 q2).1 _ e2;cases rx;rw[r2.int_inv]at ry
  have hT:s.TypeIs (.ref p) "dict":=by
   obtain⟨_,_,us,_,dd⟩:=zCi I.hok hq;exact dd.typeIs
  unfold subscriptTail;refine ya ?_;rw[getitemInPython_of_ne hT.not_modules];refine ya (xf hT PySem.F.slot_dict_getitem.lookup ?_)
  have fin:yo (yx X.prog X.w) X.A (subscripted slice false (.ref p) u) (λr s₃=>yo (yx X.prog X.w) X.A (letTemporaryGo value (.ref p) r >>= λ_=>pure r) (EP X U Y Q) X.xe s₃) X.xe s:=by
   rw[hs];exact wpAny_operating (zDu I hq e3 ry λw2 s2 I2 r2=>ya (wpAny_letTemporaryGo (yf ⟨_,H,I2,r2,k Z H _ Ext.refl R rw'⟩)))
  first
   |exact yf (ya fin)
   |exact ya (yf (ya fin))
   |exact ya fin
 ·cases e
def zXt(ha:ME X a G)(hb:ME X b ψ)(hs:z4n b:=by intro _ _;rfl):ME X (.Subscript a b pos) (zu zdv G ψ) :=
 zGe (zSw ixD ha hb hs) λ_ _ _ _ _ _ _ _ A e k=>zCq A e k
@[simp] def zly:φ2:=λx y μ=>match x with
 |.int i=>(zdc μ y).bind λkvs=>some (.bl (zkd kvs i).isSome,μ)
 |_=>none
@[simp] def z4h:φ2:=λx y μ=>match x with
 |.int i=>(zdc μ y).bind λkvs=>some (.bl (!(zkd kvs i).isSome),μ)
 |_=>none
def zSv{U:List (yg×xb)}{s:yc}{Y:L2.St}{H:Hp}{p:yg}{vs:List (Key×V)}{k:Key}{u:yb}{A:yN}{E:yb->yc->Prop}{Q:yb->yc->Prop}(I:Inv X U Y H s)(e:RdK H p vs)(ry:RelV (kV k) u)
 (h:∀s',Inv X U Y H s'->Q (.bool (zvo vs k).isSome) s'):yo (yx X.prog X.w) A (Yh .In u (.ref p)) Q E s:=by
 obtain⟨z,hd,us,rel,dd⟩:=zCi I.hok e;refine wpAny_in_of (zhr ry) hd dd.mapOf ?_;rw[<-(rel.val k).si];exact h _ (I.tok _)
def zQo{K:yz}{Z:List yg}{H:Hp}{kvs:List (Int×D)}{vs:List (Key×V)}(i:Int)(q1:vs.map (·.1)=kvs.map (λp=>yO p.1))(q2:tf K Z H (kvs.map (·.2)) (vs.map (·.2))):(zvo vs (yO i)).isSome=(zkd kvs i).isSome:=by
 obtain⟨h1,h2⟩:=zpl i q1 q2
 cases e:zkd kvs i with
 |none=>rw[h2 e];rfl
 |some d=>
  obtain⟨v,ev,_⟩:=h1 d e;rw[ev];rfl
def zAv:OpM X (Yh .In) zly:=by
 refine OpM.of λU s Y H x y v u Q I rx ry Z dx dy μ d μ' r1 r2 R e k=>?_;unfold zly at e
 split at e
 ·rename_i i
  obtain⟨kvs,e1,e⟩:=zf e;cases e;obtain⟨p,vs,rfl,hq,q1,q2⟩:=zbg R r2 e1;cases ry;rw[r1.int_inv]at rx;refine zSv (k:=yO i) I hq rx λs' I'=>⟨.bl _,H,I',rfl,?_⟩
  rw[zQo i q1 q2];exact k Z H _ Ext.refl R .bl
 ·cases e
def zel:OpM X (Yh .NotIn) z4h:=by
 refine OpM.of λU s Y H x y v u Q I rx ry Z dx dy μ d μ' r1 r2 R e k=>?_;unfold z4h at e
 split at e
 ·rename_i i
  obtain⟨kvs,e1,e⟩:=zf e;cases e;obtain⟨p,vs,rfl,hq,q1,q2⟩:=zbg R r2 e1;cases ry;rw[r1.int_inv]at rx;obtain⟨z,hd,us,rel,dd⟩:=zCi I.hok hq;refine wpAny_notIn_of (zhr (k:=yO i) rx) hd dd.mapOf ⟨.bl _,H,I.tok _,rfl,?_⟩;rw[<-(rel.val (yO i)).si,zQo i q1 q2];exact k Z H _ Ext.refl R .bl
 ·cases e
@[simp] def zyw(G ψ:FE):FG:=λd J μ=>(G J μ).bind λp=>(ψ J p.2).bind λq=>match p.1,q.1 with
 |.loc n,.int i=>match q.2[n]? with
  |some (.dct kvs)=>bif decide (kvs.length<=1000000) then some (J,q.2.set n (.dct (z3p kvs i d))) else none
  |_=>none
 |_,_=>none
def zVs:zix X (λo i v H Q=>∃p vs k,o=.ref p/\i=kV k/\H p=some (.dK vs)/\vs.length<yE/\Q (upd H p (.dK (znq vs k v)))):=by
 intro U s Y H o i v ov iv u Q I ro ri rv ⟨p,vs,k,e1,e2,e3,hl,q⟩;subst e1 e2;cases ro;obtain⟨z,hd,us,rel,dd⟩:=zEu I.hok e3;have hz:us.length<=yE:=by rw[<-rel.length];exact z
 have hl':(znq vs k v).length<=yE:=by have:=zmo vs k v;omega
 refine wpAny_setItem_pairs (hsz:=hz) (zhr ri) dd λh' dd' hs=>⟨_,I.write (x:=p) (e:=p) (by rw[e3];exact True.intro) (.inl rfl) (λb q hb z=>(hs.2 b hb).trans z) ?_ (show tH X.prog X.w _ h' p (.dK (znq vs k v)) from⟨hl',hd,_,rel.put k rv,dd'⟩),q⟩
 obtain⟨q,_,_,hq,_⟩:=dd';exact⟨q,hq⟩
def zds{o i:yD}(ho:ME X o G)(hi:ME X i ψ)(ha:∀v,assign (.Subscript o i pos) X.env v=(do
 let ov <-holding [v] (Yt o X.env)
 let iv <-holding [v,ov] (Yt i X.env)
 standAt pos
 holding [v,ov,iv] (setItem ov iv v)
 release [v,ov,iv] []):=by intro _;rfl):MG X (.Subscript o i pos) (zyw G ψ) :=
 mg_of (zPt ho hi zVs ha) λZ J μ d J' μ' v Y H Q A q e k=>by
  obtain⟨⟨x,μ1⟩,e1,e⟩:=zf e;obtain⟨⟨y,μ2⟩,e2,e⟩:=zf e;refine⟨Z,J,μ,x,μ1,A,e1,λZ1 H1 v1 x1 R1 r1=>?_⟩;refine⟨Z1,J,μ1,y,μ2,A.ext x1 R1,e2,λZ2 H2 v2 x2 R2 r2=>?_⟩;dsimp only at e
  split at e
  ·rename_i n j _
   split at e
   ·rename_i kvs hm
    obtain⟨h1,e⟩:=zI e;have h1:=of_decide_eq_true h1;cases e;obtain⟨ad,rfl,hr⟩:=(r1.ext x2).tz;obtain⟨vs,hv,q1,q2⟩:=R2.at_ _ _ _ hr hm;have hmu:Mut (H2 ad):=by rw[hv];trivial
    have hlen:vs.length=kvs.length:=by
     have:=congrArg List.length q1;simpa using this
    have hmi:=Tc;refine⟨ad,vs,yO j,rfl,r2.int_inv,hv,by omega,?_⟩;have xx:=x1.trans x2;have R3:=R2.wr (o:=.dK (znq vs (yO j) v)) (lo:=.dct (z3p kvs j d)) hmu hr ⟨_,zx,zTs kvs vs j d v q1,tf.ext (Ext.wr hmu) (zqv (q.ext xx) q1 q2)⟩;exact k Z2 Y _ (xx.trans (Ext.wr hmu)) (A.ext (xx.trans (Ext.wr hmu)) R3)
   ·cases e
  ·cases e
def zMj(kvs:List (Int×D)):List D:=kvs.map λp =>.int p.1
@[simp] def zan:GL:=λds μ=>match ds with
 |[x]=>(zdc μ x).bind λkvs=>some (.loc μ.length,μ++[.lst (zMj kvs)])
 |_=>none
def zfr{P:yy}{w:yH}{H:Hp}{h:Yb}{p:yg}{vs:List (Key×V)}(ok:HOk P w H h)(e:RdK H p vs):∃us ep,KV vs us/\h.DictAt (zRb P w) p us ep:=by
 obtain⟨_,_,us,rel,o,es,ep,h1,h2,h3,h4⟩:=zCi ok e;exact⟨us,ep,rel,o,es,h1,h2,h3,h4⟩
def zyj{P:yy}{w:yH}:∀{vs:List (Key×V)} {us:List (Key×yb)} {its:List yb},KV vs us->its.length=us.length->(∀(j:Nat)(v:yb),its[j]?=some v->∃(k:Key)(x:yb),us[j]?=some (k,x)/\(zRb P w).is k v=true)->Vals (vs.map λp=>kV p.1) its
 |[],us,its,r,hl,h=>by
  cases r;have:its=[]:=List.length_eq_zero_iff.mp (by simpa using hl);subst this;exact .nil
 |p::vs,us,its,r,hl,h=>by
  cases r with
  |@cons _ q _ qs hq t=>
   cases its with
   |nil=>simp at hl
   |cons i its=>
    refine .cons ?_ (zyj t (by simpa using hl) λj v e=>by
     obtain⟨k,x,h1,h2⟩:=h (j+1) v (by simpa using e);exact⟨k,x,by simpa using h1,h2⟩)
    obtain⟨k,x,h1,h2⟩:=h 0 i rfl;have e:q=(k,x):=by simpa using h1
    have ek:p.1=k:=by rw[hq.1,e]
    show RelV (kV p.1) i;rw[ek]
    cases k with
    |inl n=>
     rcases zfb ((zSh P w _ _).symm.trans h2) with ⟨j,t,e1,e2⟩|⟨j,t,e1,e2⟩
     ·cases e1;exact⟨t,e2⟩
     ·cases e1
    |inr n=>
     rcases zfb ((zSh P w _ _).symm.trans h2) with ⟨j,t,e1,e2⟩|⟨j,t,e1,e2⟩
     ·cases e1
     ·cases e1;exact⟨t,e2⟩
def zeo(hc:X.calm=true):tQ X (.type "list") zan:=by
 refine tQ.of λU s Y H xs us Q I r Z ds μ d μ' r1 R e k=>?_;unfold zan at e
 split at e
 ·obtain⟨kvs,e1,e⟩:=zf e;cases e;obtain⟨v,rr,rfl,q1,q2⟩:=r1.cons_inv;rw[q2.nil_inv]at r;obtain⟨p,vs,rfl,hq,w1,w2⟩:=zbg R q1 e1;obtain⟨u,rfl,ru⟩:=vals1 r;cases ru;obtain⟨hz,hd,_⟩:=zCi I.hok hq;obtain⟨us',ep,rel,da⟩:=zfr I.hok hq;have hl:=rel.length;refine W.kdl_call (W.kdl_dict hd) (I.ok.hd hc) da (by omega) λh' tk acc' c' kp e2 hi=>?_;obtain⟨hi1,hi2⟩:=hi;have hv:=zyj (P:=X.prog) (w:=X.w) (its:=acc'.toList) rel (by simpa using hi1) λj v e=>hi2 j v (by simpa using e)
  have hkv:(vs.map λp=>kV p.1)=(kvs.map λp=>V.int p.1):=by
   have:(vs.map (·.1)).map kV=(kvs.map λp=>(yO p.1:Key)).map kV:=by rw[w1]
   rw[map_map,map_map]at this;exact this
  rw[hkv]at hv
  have hlk:kvs.length=vs.length:=by
   have:=congrArg List.length w1;simpa using this.symm
  have hf:=I.fresh;refine⟨.ref s.heap.objs.size,_,I.laid (t':=tk) kp (yj _) (show tH X.prog X.w _ h' _ (.lst _) from⟨by simp;omega,acc'.toList,c',hv,by simpa using e2⟩),rfl,k _ _ _ (Ext.push hf) (R.push hf ⟨_,zx,?_⟩) (.loc (zIb R))⟩;have hr:=λZ H=>@z3e X.K Z H (kvs.map (·.1));simp only[map_map]at hr;exact hr _ _
 ·cases e
end
def Itd(a:yg)(o:xb)(vs:List (Key×V)):It:=⟨λi H=>H a=some (.frz o (.dK vs))/\i<vs.length,λi H x H'=>H'=H/\∃p,vs[i]?=some p/\x=kV p.1,λi H=>H a=some (.frz o (.dK vs))/\vs.length<=i⟩
def zto{P:yy}{w:yH}{H:Hp}{h:Yb}{a:yg}{o:xb}{vs:List (Key×V)}{es:Array DictEntry}{ep:Nat}(ok:HOk P w H h)(e:H a=some (.frz o (.dK vs)))(hd:o.data=.dict es ep):∃us,KV vs us/\h.DictAt (zRb P w) a us ep:=by
 obtain⟨h0,_,_,us,rel,o',es',ep',h1,h2,h3,h4⟩:=(show tH P w H h a (.frz o (.dK vs)) from ok a _ e)
 rw[h0]at h1;cases h1;rw[hd]at h3;cases h3;exact⟨us,rel,o,es,h0,h2,hd,h4⟩
def zBq{P:yy}{w:yH}{K:yz}{tg:yD}(a it:yg)(o:xb)(vs:List (Key×V))(es:Array DictEntry)(ep:Nat)(hd:o.data=.dict es ep):Turn P w K tg (Itd a o vs) [it] it (λi h=>h.IsKeyIter it a i vs.length ep) where
 mem:=by simp
 obj:=λi h st b hb=>by
  have e:b=it:=by simpa using hb
  subst e;obtain⟨o,e,c,d⟩:=st;exact⟨o,e,λv z=>by rw[d]at z;cases z⟩
 keep:=λi h h' st k=>st.at λo e=>k it (by simp) o e
 item:=by
  intro X hP hw hK hc i U s Y H E I hf st hg;subst hP hw hK;obtain⟨hq,hi⟩:=hg;obtain⟨us,rel,da⟩:=zto I.hok hq hd;have hl:=rel.length;obtain⟨f0,f1,f2,f3,f4,f5⟩:=hf it (by simp);have hx:us[i]?=some ((us[i]'(by omega)).1,(us[i]'(by omega)).2):=by simp[show i<us.length by omega]
  rw[hl]at st ⊢;refine wpAny_pyNext_dict_item st da hx λkey h' hkey st' sb=>?_;have I1:Inv X U Y H {s with heap:=h' }:=I.turned (t':=s.toks) (λb o hb e=>(sb.2 b hb).trans e) f0 f1 f3 f4 f5;obtain⟨o',e',c',d'⟩:=id st';have hk:vs[i]?=some vs[i]:=by simp[hi]
  have hkk:(vs[i]).1=(us[i]'(by omega)).1:=by
   have h1:(vs.map (·.1))[i]?=(us.map (·.1))[i]?:=by rw[rel.keys]
   simp only[yh,hk,yd (show i<us.length by omega),xr,xX]at h1;exact h1
  have rk:RelV (kV (vs[i]).1) key:=by
   rw[hkk];rcases zfb ((zSh X.prog X.w _ _).symm.trans hkey) with ⟨j,t,e1,e2⟩|⟨j,t,e1,e2⟩
   ·rw[e1];exact⟨t,e2⟩
   ·rw[e1];exact⟨t,e2⟩
  exact⟨key,rfl,zzt (s:={s with heap:=h' }) e' c' d' (by decide) ⟨kV (vs[i]).1,H,I1,rk,⟨rfl,_,hk,rfl⟩,st',λb hb=>(hf b hb).1⟩⟩
 done:=by
  intro X hP hw hK hc i U s Y H E I hf st hg;subst hP hw hK;obtain⟨hq,hi⟩:=hg;obtain⟨us,rel,da⟩:=zto I.hok hq hd;have hl:=rel.length;obtain⟨f0,f1,f2,f3,f4,f5⟩:=hf it (by simp);rw[hl]at st;exact wpAny_pyNext_dict_end (I.ok.hd hc) st da (by simp;omega) λh' eb=>⟨rfl,I.turned (t':=s.toks) (λb o hb e=>eb b o hb e) f0 f1 f3 f4 f5⟩
 self:=λ_ _ _ _ _ st h=>wpAny_pyIter_keyiter st h
section
variable {X:Cx}{a b c e:yD}{es:List yD}{G ψ χ:FE}{pos:xV}{tg:yD}
def zty(tl:TE):TI:=λY H R=>tl Y H λx H1=>∃p vs,x=.ref p/\((H1 p=some (.dK vs)/\∀o,R (Itd p o vs) (upd H1 p (.frz o (.dK vs))))\/∃o,H1 p=some (.frz o (.dK vs))/\R (Itd p o vs) H1)
def zsv{l:yD}{tl:TE}(hl:PE X l tl):PI X tg l (zty tl):=by
 intro U s Y H R I h;refine thn (hl U s Y H _ I h) λv s1 ⟨x,H1,I1,r1,q1⟩=>?_;obtain⟨p,vs,e,q⟩:=q1;subst e;cases r1
 have fin:∀(H2:Hp)(o:xb),Inv X U Y H2 s1->H2 p=some (.frz o (.dK vs))->R (Itd p o vs) H2->yo (yx X.prog X.w) X.A (pyIter (.ref p)) (PIE X U Y tg R) X.xe s1:=λH2 o I2 e2 q2=>by
  obtain⟨h0,hz,hd,us,rel,o',es,ep,h1,h2,h3,h4⟩:=(show tH X.prog X.w H2 s1.heap p (.frz o (.dK vs)) from I2.hok p _ e2)
  rw[h0]at h1;cases h1;have da:s1.heap.DictAt (zRb X.prog X.w) p us ep:=⟨o,es,h0,h2,h3,h4⟩
  refine wpAny_pyIter_dict hd da ?_;refine⟨s1.heap.objs.size,[s1.heap.objs.size],_,_,H2,rfl,I2.kept (t':=s1.toks) λb o e=>ye _ e,zBq p _ o vs es ep h3,⟨_,yn _ rfl,rfl,by rw[rel.length];rfl⟩,λb hb=>?_,q2⟩;have e:b=s1.heap.objs.size:=by simpa using hb
  subst e;exact I2.sC (yj _) (I2.hok.fresh (yj _))
 rcases q with ⟨e1,q⟩|⟨o,e1,q⟩
 ·have hok:=I1.hok p _ e1;obtain⟨hz,hd,us,rel,o,es,ep,h1,h2⟩:=(show tH X.prog X.w H1 s1.heap p (.dK vs) from hok)
  have I2:Inv X U Y (upd H1 p (.frz o (.dK vs))) {s1 with heap:=s1.heap,toks:=s1.toks }:=by
   refine I1.write (x:=p) (e:=p) (by rw[e1];exact True.intro) (.inl rfl) (λb u _ e=>e) ⟨o,h1⟩ ?_;exact⟨h1,hz,hd,us,rel,o,es,ep,h1,h2⟩
  exact fin _ o I2 zx (q o)
 ·exact fin H1 o I1 e1 q
@[simp] def zuv(G:FE):FI:=λJ μ=>(G J μ).bind λp=>match p.1 with
 |.loc n=>match p.2[n]? with
  |some (.dct kvs)=>some (zMj kvs,yes,p.2.set n (.dcf kvs))
  |some (.dcf kvs)=>some (zMj kvs,yes,p.2)
  |_=>none
 |_=>none
def z8t{K:yz}{Z:List yg}{H:Hp}{p:yg}{o:xb}{vs:List (Key×V)}{kvs:List (Int×D)}(h:H p=some (.frz o (.dK vs)))(q1:vs.map (·.1)=kvs.map (λp=>yO p.1)):sG K (Itd p o vs) Z H (zMj kvs) yes:=by
 have hlen:vs.length=kvs.length:=by
  have:=congrArg List.length q1;simpa using this
 have hkl:(zMj kvs).length=kvs.length:=by simp[zMj]
 refine⟨λZ' H' μ' i x R _ hi=>⟨x.frz _ _ _ h,by rw[hkl]at hi;omega⟩,λZ' H' μ' i x H'' d x' R _ e ⟨y1,q,y2,y3⟩=>⟨y1▸Ext.refl,y1▸R,y1▸?_⟩,λZ' H' μ' x R _=>⟨x.frz _ _ _ h,by rw[hkl];omega⟩⟩;have h1:(vs.map (·.1))[i]?=(kvs.map (λp=>(yO p.1:Key)))[i]?:=by rw[q1]
 rw[yh,yh,y2]at h1;unfold zMj at e;rw[yh]at e
 cases hk:kvs[i]? with
 |none=>rw[hk]at e;cases e
 |some z=>
  rw[hk]at e h1;cases e;have h1:q.1=yO z.1:=by simpa using h1
  rw[y3,h1];exact .int
def zyv(h:ME X a G):MI X tg a (zuv G) :=
 z1q (zsv h) λZ J μ Y H ds ok μ' R A e k=>by
  obtain⟨⟨x,μ1⟩,e1,e⟩:=zf e;refine⟨Z,J,μ,x,μ1,A,e1,λZ1 H1 v1 x1 R1 r1=>?_⟩;dsimp only at e
  split at e
  ·split at e
   ·rename_i hm
    cases e;obtain⟨p,rfl,ep⟩:=r1.tz;obtain⟨vs,e3,q1,q2⟩:=R1.at_ _ _ _ ep hm;have hmu:Mut (H1 p):=by rw[e3];trivial
    refine⟨p,vs,rfl,.inl ⟨e3,λo=>?_⟩⟩;exact k Z1 _ _ (x1.trans (Ext.wr hmu)) (R1.wr hmu ep ⟨o,vs,zx,q1,tf.ext (Ext.wr hmu) q2⟩) (z8t zx q1)
   ·rename_i hm
    cases e;obtain⟨p,rfl,ep⟩:=r1.tz;obtain⟨o,vs,e3,q1,q2⟩:=R1.at_ _ _ _ ep hm;exact⟨p,vs,rfl,.inr ⟨o,e3,k Z1 _ _ x1 R1 (z8t e3 q1)⟩⟩
   ·cases e
  ·cases e
def zBr{prog:yy}{w:yH}{A:yN}{E:yb->yc->Prop}{s:yc}{Q:Int->yc->Prop}(h:Q 0xFCA86420 {s with toks:=s.toks+1 }):yo (yx prog w) A (pyHash .none) Q E s:=by
 unfold pyHash;have hv:[YE].any Value.onHeap=false:=rfl;refine ya ?_;rw[cRoomFor,if_neg (by rw[hv];exact yv)];refine yf ?_;refine ya (xf (typeIs_none s) PySem.F.slot_NoneType_hash.lookup ?_);show yo _ _ (if(some (Value.builtin "NoneType.__hash__")==some YE)=true then _ else _) Q E s;rw[if_neg (by rw[beq_builtin_none];exact yv)];refine ya (xf (typeIs_none s) PySem.F.slot_NoneType_hash.lookup ?_);show yo _ _ (callSpecialIfBoundUnlessNone? .none "__hash__" _ >>= _) Q E s;refine ya (wpAny_callSpecialIfBoundUnlessNone?_slot (typeIs_none s) PySem.F.slot_NoneType_hash (yQ PySem.F.slot_NoneType_hash (typeIs_none s) PySem.F.entry_NoneType_hash ?_ (PySem.F.args_NoneType_hash_1 _)));show yo _ _ (do ret (<-mkInt 0xFCA86420)) _ _ s;refine wpAny_ret_mkInt ?_;show yo _ _ (if(decide (-(2:Int)^63<=0xFCA86420)&&decide ((0xFCA86420:Int)<2^63))=true then _ else _) Q E _;rw[if_pos (by decide)];exact yf h
def zYp{i:Int}(h0:0<=i)(h1:i<1000):hashInt i=i:=by
 have e:(i.natAbs%(2^61-1):Nat)=i.natAbs:=Nat.mod_eq_of_lt (by omega)
 have hr:rawHash i=i:=by
  unfold rawHash;dsimp only;rw[if_neg (by omega:¬i<0)];have:((i.natAbs%(2^61-1:Nat):Nat):Int)=i:=by rw[e];omega
  rw[show((i.natAbs:Int)%((2^61-1:Nat):Int))=i by rw[<-Int.natCast_emod];exact this];rw[if_neg (by simp;omega)]
 unfold hashInt;rw[hr,if_neg (by simp;omega)]
def zpn:Key->Bool
 |.inl i=>decide (0<=i/\i<1000)
 |.inr _=>false
def zoj{P:yy}{w:yH}:∀{es:List DictEntry} {us:List (Key×yb)},Pairs (zRb P w) es us->(∀e∈es,∃k,(zRb P w).is k e.key=true/\e.hash=(zRb P w).hash k)->(us.all λq=>zpn q.1)=true->∀e∈es,(e.hash==0xFCA86420)=false
 |_,_,.nil,_,_=>λe he=>by cases he
 |_,_,.cons (kv:=kv) hk hv t,hh,hs=>λe he=>by
  rw[all_cons,yG]at hs;rcases List.mem_cons.mp he with rfl|he
  ·obtain⟨k',h1,h2⟩:=hh e mem_cons_self;have ek:=(zRb P w).inj _ _ _ hk h1;rw[h2,<-ek];have hsm:zpn kv.1=true:=hs.1
   cases hkv:kv.1 with
   |inl i=>
    rw[hkv]at hsm;have hi:=of_decide_eq_true (show decide (0<=i/\i<1000)=true from hsm);show(hashInt i==0xFCA86420)=false;rw[zYp hi.1 hi.2];simp;omega
   |inr x=>rw[hkv]at hsm;cases hsm
  ·exact zoj t (λe he=>hh e (mem_cons_of_mem _ he)) hs.2 e he
def znu{prog:yy}{w:yH}{A:yN}{E:yb->yc->Prop}{s:yc}{p:yg}{us:List (Key×yb)}{Q:yb->yc->Prop}(hd:(p==sysModules)=false)(dd:s.heap.DictOf (zRb prog w) p us)(hs:(us.all λq=>zpn q.1)=true)
 (h:Q (.bool false) {s with toks:=s.toks+1 }):yo (yx prog w) A (Yh .In .none (.ref p)) Q E s:=by
 obtain⟨o,es,ep,ho,hx,hdat,hk,hp,hn⟩:=id dd;have hno:=zoj hp (λe he=>hk e (by simpa using he)) hs
 have hpl:placesWithHash es.size (λi=>es[i]?.map (·.hash)) 0xFCA86420=[]:=by
  unfold placesWithHash;rw[List.filter_eq_nil_iff];intro i hi;have hi:i<es.size:=by simpa using hi
  dsimp only;rw[Array.getElem?_eq_getElem hi];have:=hno es[i] (by simp);simpa using this
 show yo _ _ (do return .bool (<-contains (.ref p) .none)) Q E s;refine ya ?_;unfold contains
 try with_reducible refine yP ?_
 refine ya (xf dd.typeIs slot_dict_contains.lookup ?_);show yo _ _ (if(some (Value.builtin "dict.__contains__")==some YE)=true then _ else _) _ E s;rw[if_neg (by rw[beq_builtin_none];exact yv)];refine ya (wpAny_callSpecialUnlessNone?_slot (name:=YL "__contains__") dd.typeIs slot_dict_contains (yQ slot_dict_contains dd.typeIs entry_dict_contains ?_ (args_dict_contains _ _)));show yo _ _ (dictGet p .none >>= _) _ _ s;refine ya ?_;unfold dictGet
 try with_reducible refine yP ?_
 refine ya (zBr (ya ?_));unfold dictFind
 try with_reducible refine yP ?_
 refine ya (wpAny_dictEntries (s:={s with toks:=s.toks+1 }) ho hdat ?_);dsimp only;rw[hpl];rw[if_pos (by rfl)];unfold dictWalkPlain;refine ya ?_;rw[List.forIn_nil];refine yf ?_;refine yf (yf ?_);show yo _ _ (Builtin.Dict.pendingKey? p .none >>= _) _ _ _;exact ya (wpAny_pendingKey_other hd (yf ⟨_,rfl,YJ (yf h)⟩))
@[simp] def zAn:φ2:=λx y μ=>match x with
 |.int i=>(zdc μ y).bind λkvs=>some (.bl (zkd kvs i).isSome,μ)
 |.non=>(zdc μ y).bind λkvs=>bif kvs.all (λp=>decide (0<=p.1/\p.1<1000)) then some (.bl false,μ) else none
 |_=>none
def zCs:OpM X (Yh .In) zAn:=by
 refine OpM.of λU s Y H x y v u Q I rx ry Z dx dy μ d μ' r1 r2 R e k=>?_;unfold zAn at e
 split at e
 ·rename_i i
  exact zAv U s Y H x y v u Q I rx ry ⟨Z,.int i,dy,μ,d,μ',r1,r2,R,e,k⟩
 ·obtain⟨kvs,e1,e⟩:=zf e;obtain⟨hsm,e⟩:=zI e;cases e;obtain⟨p,vs,rfl,hq,q1,q2⟩:=zbg R r2 e1;cases ry;rw[r1.tG]at rx;cases rx;obtain⟨z,hd,us,rel,dd⟩:=zCi I.hok hq;refine znu hd dd ?_ ⟨.bl false,H,I.tok _,rfl,k Z H _ Ext.refl R .bl⟩;have e1:(us.all λq=>zpn q.1)=(us.map (·.1)).all zpn:=by rw[all_map];rfl
  rw[e1,<-rel.keys,q1,all_map];exact hsm
 ·cases e
variable {prog:yy}{w:yH}{A:yN}{E:yb->yc->Prop}{s:yc}
def ziq:typeLookup (.type "list_reverseiterator") "__len__"=pure none:=by rw[typeLookup_type,xS];kernel_rfl
def zns:typeLookup (.type "list_reverseiterator") "__length_hint__"=pure (some (.builtin "list_reverseiterator.__length_hint__")):=by rw[typeLookup_type,xS];kernel_rfl
def z1s{r:yg}{Q:Bool->yc->Prop}(hT:s.TypeIs (.ref r) "list_reverseiterator")(h:Q false s):yo (yx prog w) A (xj (.ref r)) Q E s:=by
 unfold xj;refine ya (xf hT ziq ?_);show yo _ _ (specialOf (YG r) (YL "__length_hint__") >>= _) _ _ _;refine ya (xf hT zns ?_);generalize hid:("list_reverseiterator.__length_hint__":String)=id0
 wp_delta
 rw[show splitId id0=some ("list_reverseiterator","__length_hint__") from by subst hid;decide +kernel];subst hid;refine ya (wpAny_isInstance (T:="list_reverseiterator") (b:=true) hT (by rw[isSubtype_type];kernel_rfl) ?_);refine YR (λhab=>absurd hab (by decide)) (λ_=>?_);refine YR (λ_=>?_) (λhab=>absurd (by decide +kernel) hab);refine YR (λhab=>absurd hab (by decide +kernel)) (λ_=>?_);exact yf h
def zzs{I l:yg}{items:Array yb}{Q:yb->yc->Prop}(hh:A.handled=none)(hne:l≠I)(hI:s.heap.IsRevIter I l ((items.size:Int)-1))(hl:s.heap.IsList l items)(hn:items.size<=yE)
 (hQ:∀h' tk acc' c',(∀b o,b≠I->s.heap.get? b=some o->h'.get? b=some o)->h'.get? s.heap.objs.size=some {cls:=.type "list",dict:=none,data:=.seq acc' c',slots:=#[]}->ItemsOf (λi v=>items[items.size-1-i]?=some v) acc' items.size->Q (.ref s.heap.objs.size) {s with heap:=h',toks:=tk }) :
 yo (yx prog w) A (call (.type "list") [.ref I]) Q E s:=by
 have hIlt:I<s.heap.objs.size:=by obtain⟨o,ho,_⟩:=hI;exact ym ho
 have hllt:l<s.heap.objs.size:=by obtain⟨o,ho,_⟩:=hl;exact ym ho
 refine callType_codes (Q₁:=λobj s₁=>obj=.ref s.heap.objs.size/\s₁ = {s with heap:=s.heap.push {cls:=.type "list",data:=.seq #[]}}) PySem.F.called_list (PySem.F.typeCall_list_1 _) PySem.F.entry_list_init (code_list_new _ ⟨rfl,rfl⟩) λobj s₁ h₁=>?_;obtain⟨rfl,rfl⟩:=h₁;generalize hS0:s.heap.objs.size=S;have hSI:S≠I:=by rw[<-hS0];exact Yc hIlt
 have hSl:S≠l:=by rw[<-hS0];exact Yc hllt
 have hS:(s.heap.push {cls:=.type "list",data:=.seq #[]}).get? S=some {cls:=.type "list",data:=.seq #[]}:=by rw[<-hS0];exact yn _ rfl
 refine⟨⟨_,hS,rfl⟩,PySem.F.args_list_init_2 _ _,?_⟩;have oldS:∀b o,s.heap.get? b=some o->b≠S:=λb o e=>by rw[<-hS0];exact yt (ym e)
 have W:=(Walks.listRev (prog:=prog) (w:=w) (A:=A.in1.in1) hh I l hne items).toS;show yo _ _ (do let old <-xN (.ref S);Builtin.List.listUpdate (.ref S) (λ_=>#[]);letGo old.toList.reverse;Yn (.ref S) (.ref I) .none) _ _ _;refine ya ?_;unfold xN;refine ya (wpAny_seqItems hS rfl (yf ?_));show yo _ _ (updateSeq S (λ_=>#[]) >>= λ_=>letGo (#[]:Array yb).toList.reverse >>= λ_=>Yn (.ref S) (.ref I) .none) _ _ _;refine ya (wpAny_updateSeq hS rfl ?_);have hS2:=Yd (yU (λ_=>(#[]:Array yb))) hS rfl;generalize hh2:(s.heap.push {cls:=.type "list",data:=.seq #[]}).update S (yU (λ_=>(#[]:Array yb)))=h2 at hS2 ⊢
 have k2:∀b o,s.heap.get? b=some o->h2.get? b=some o:=λb o e=>by
  rw[<-hh2];exact(xh _ _ (Yv (oldS b o e))).trans (ye _ e)
 refine ya (wpAny_letGo ?_);have hI2:h2.IsRevIter I l ((items.size:Int)-1):=hI.at λo e=>k2 _ _ e;have hl2:h2.IsList l items:=hl.at λo e=>k2 _ _ e;unfold Yn;refine ya (xv (T:="list_reverseiterator") (Heap.IsRevIter.typeIs (s:={s with heap:=h2 }) hI2) ?_);have h1:xz (.ref S) (.ref I)=false:=by simp[xz,hSI]
 have h2':(Yl "list_reverseiterator" == Yl "list")=false:=by decide
 have h3':(Yl "list_reverseiterator" == Yl "tuple")=false:=by decide
 simp only[h1,h2',h3',Bool.or_false,YV,if_false];refine ya (wpAny_pyIter_revIter (s:={s with heap:=h2 }) hI2 ?_);refine ya (yP (z1s (Heap.IsRevIter.typeIs (s:={s with heap:=h2 }) hI2) ?_));refine YR (λhab=>absurd hab (by decide)) (λ_=>?_)
 have hSf:S∉[I,l]:=by
  simp only[mem_cons,not_mem_nil,or_false,not_or];exact⟨hSI,hSl⟩
 refine yf ⟨xy PySem.F.plain_extend_loop _,codeAny_extend_loopS W hn S hSf _ items.size 0 _ #[] _ rfl (yR _) ⟨yR _,by simpa using hI2,hl2⟩ hS2 (ItemsOf.nil _) λs' acc' c' hm hS' hacc=>?_⟩;rw[Moved.eq_with hm];refine⟨rfl,?_⟩;rw[<-hS0]at hS' ⊢;refine hQ s'.heap s'.toks acc' c' (λb o hb e=>hm.heap b o (λhmem=>?_) (k2 b o e)) hS' hacc;rcases List.mem_cons.mp hmem with e'|hmem
 ·exact oldS b o e e'
 ·exact hb (List.mem_singleton.mp hmem)
variable {pos2 p1 p2:xV}
def zFs(G:FE):FE:=λJ μ=>(G J μ).bind λp=>match p.1 with
 |.loc n=>match p.2[n]? with
  |some (.lst ds)=>some (.loc p.2.length,p.2++[.lst ds.reverse])
  |_=>none
 |_=>none
def zAt{items:List yb}{vs:List V}{its:List yb}(rv:Vals vs items)(hl:its.length=items.length)(h:∀(j:Nat)(v:yb),its[j]?=some v->items[items.length-1-j]?=some v):Vals vs.reverse its:=by
 have e:its=items.reverse:=by
  refine ext_getElem? λj=>?_
  by_cases hj:j<its.length
  ·have h1:its[j]?=some its[j]:=by simp[hj]
   rw[List.getElem?_reverse (by omega),h j _ h1,h1]
  ·rw[yK (by omega),yK (by simp;omega)]
 rw[e];exact rv.reverse
def zzr{K:yz}{Z:List yg}{H:Hp}:∀{ds:List D} {vs:List V},tf K Z H ds vs->tf K Z H ds.reverse vs.reverse
 |[],vs,r=>by rw[r.nil_inv];exact .nil
 |d::ds,vs,r=>by
  obtain⟨v,q,rfl,h1,h2⟩:=r.cons_inv;rw[List.reverse_cons,List.reverse_cons];exact(zzr h2).append (.cons h1 .nil)
def z6x(X:Cx)(tl:TE):TE:=λY H Q=>tl Y H λx H1=>∃a ys,x=.ref a/\SqL X.K H1 a ys/\∀q,H1 q=none->Q (.ref q) (upd H1 q (.lst ys.reverse))
def zBu{l:yD}{tl:TE}(hm1:X.mg "list"=none)(hv1:yI "list"=some (.type "list"))(hm2:X.mg "reversed"=none)(hv2:yI "reversed"=some (.type "reversed"))(hl:PE X l tl)(hc:X.calm=true)(hg1:Gl X "list")(hg2:Gl X "reversed")
 (he:yr [l] X.env=(false,Yt l X.env)::yr [] X.env) (he2:yr [.Call (.Name "reversed" p2) [l] [] pos2] X.env=(false,Yt (.Call (.Name "reversed" p2) [l] [] pos2) X.env)::yr [] X.env) :
 PE X (.Call (.Name "list" p1) [.Call (.Name "reversed" p2) [l] [] pos2] [] pos) (z6x X tl):=by
 intro U s Y H Q I h;refine xL (zEk I hg1 hm1 hv1 ?_ (by decide) (by decide));refine YH ?_ he2 rfl;rw[he2];show yo _ _ (spliced ((false,Yt (.Call (.Name "reversed" p2) [l] [] pos2) X.env)::YZ pos (yr [] X.env))) _ _ s;refine Calls.spliced_cons ?_;refine xL (zEk I hg2 hm2 hv2 ?_ (by decide) (by decide))
 refine YH (thn (zHg hl zFj he pos2 U s Y H (λvs H1=>match vs with
  |[x]=>∃a ys,x=.ref a/\SqL X.K H1 a ys/\∀q,H1 q=none->Q (.ref q) (upd H1 q (.lst ys.reverse))
  |_=>False) I h) λus s1 ⟨vs,H1,I1,r1,q1⟩=>?_) he rfl
 dsimp only at q1
 split at q1
 case h_2=>exact q1.elim
 obtain⟨a,ys,e,hq,q⟩:=q1;subst e
 cases r1 with
 |cons r rr=>
  cases rr;cases r;obtain⟨its,rv,pl,hz⟩:=I1.list hq;have hlen:=rv.length;refine call_reversed_list pl.isList ?_;refine Calls.spliced_nil ?_;have I2:Inv X U Y H1 {s1 with heap:=s1.heap.push (revObj a ((its.toArray.size:Int)-1))}:=I1.kept (t':=s1.toks) λb o e=>ye _ e;have halt:a<s1.heap.objs.size:=by obtain⟨_,_,e,_⟩:=pl;exact ym e
  have hf:∀b∈[s1.heap.objs.size],zlp X U H1 b:=λb hb=>by
   have e:b=s1.heap.objs.size:=by simpa using hb
   subst e;exact I1.sC (yj _) (I1.hok.fresh (yj _))
  refine zzs (s:={s1 with heap:=s1.heap.push (revObj a ((its.toArray.size:Int)-1))}) (I.ok.hd hc) (yt halt) ⟨_,yn _ rfl,rfl,rfl⟩ (pl.isList.push _) (by simp;omega) λh' tk acc' c' kp e hi=>?_;obtain⟨hi1,hi2⟩:=hi;have hv:=zAt (its:=acc'.toList) rv (by simpa using hi1) λj v e=>by simpa using hi2 j v (by simpa using e)
  refine⟨.ref _,_,zre (t':=tk) I2 hf (λb o hb e=>kp b o (by simpa using hb) e) (yj _) (show tH X.prog X.w _ h' _ (.lst ys.reverse) from⟨by simp;omega,acc'.toList,c',hv,by simpa using e⟩),rfl,q _ (I2.hok.fresh (yj _))⟩
def zZu(hm1:X.mg "list"=none)(hv1:yI "list"=some (.type "list"))(hm2:X.mg "reversed"=none)(hv2:yI "reversed"=some (.type "reversed"))(h:ME X e G)(hc:X.calm=true:=by rfl)(hg1:Gl X "list":=by rfl)(hg2:Gl X "reversed":=by rfl)
 (he:yr [e] X.env=(false,Yt e X.env)::yr [] X.env:=by rfl) (he2:yr [.Call (.Name "reversed" p2) [e] [] pos2] X.env=(false,Yt (.Call (.Name "reversed" p2) [e] [] pos2) X.env)::yr [] X.env:=by rfl) :
 ME X (.Call (.Name "list" p1) [.Call (.Name "reversed" p2) [e] [] pos2] [] pos) (zFs G) :=
 zGe (zBu hm1 hv1 hm2 hv2 h hc hg1 hg2 he he2) λZ J μ Y H d μ' Q A e k=>by
  obtain⟨⟨x,μ1⟩,e1,e⟩:=zf e;refine⟨Z,J,μ,x,μ1,A,e1,λZ1 H1 v x1 R1 r1=>?_⟩;dsimp only at e
  split at e
  ·split at e
   ·rename_i hm
    cases e;obtain⟨p,rfl,ep⟩:=r1.tz;obtain⟨vs,e3,q⟩:=R1.at_ _ _ _ ep hm;exact⟨p,vs,rfl,SqL.of e3,λq' hq'=>k _ _ _ (x1.trans (Ext.push hq')) (R1.push hq' ⟨_,zx,(zzr q).ext (Ext.push hq')⟩) (.loc (zIb R1))⟩
   ·cases e
  ·cases e
variable {te:TE}{stp:yD}{ts:TO}
def zuk(ns:List Int):List Int:=ns.mergeSort λa b=>decide (a<=b)
def zKm:GL:=λds μ=>match ds with
 |[.loc n]=>match μ[n]? with
  |some (.lst xs)=>(zIj xs).bind λns=>bif decide (ns.length<64) then some (.loc μ.length,μ++[.lst ((zuk ns).map .int)]) else none
  |_=>none
 |_=>none
def zFn(hc:X.calm=true):tQ X (.builtin "sorted") zKm:=by
 refine tQ.of λU s Y H xs us Q I r Z ds μ d μ' r1 R e k=>?_;unfold zKm at e
 split at e
 ·split at e
  ·rename_i hm
   obtain⟨ns,e2,e⟩:=zf e;obtain⟨hp,e⟩:=zI e;have hp:=of_decide_eq_true hp;cases e;rw[zBe e2]at hm;obtain⟨v,rr,rfl,q1,q2⟩:=r1.cons_inv;obtain⟨a,rfl,ea⟩:=q1.tz;obtain⟨vs,e3,q3⟩:=R.at_ _ _ _ ea hm;rw[z4f q3]at e3;rw[q2.nil_inv]at r;obtain⟨u,rfl,ru⟩:=vals1 r;cases ru;obtain⟨its,rv,pl,hz⟩:=I.list (SqL.of (K:=X.K) e3);have hl:its.length=ns.length:=by rw[<-rv.length];simp
   refine sorted_ints pl.isList (zLe rv) (by omega) λout ns' a1 a2 a3=>?_;have hms:ns'=zuk ns:=zUc (a2.trans (mergeSort_perm _ _).symm) a3 (zRh _);subst hms;obtain⟨e0,he⟩:=sortedAll_at s.heap its out;have hf:=I.hok.fresh (xJ s.heap.objs.size);have hlen:(zuk ns).length=ns.length:=a2.length_eq;refine⟨.ref (s.heap.objs.size+1),_,I.laid (t':=s.toks) (o:=.lst ((zuk ns).map V.int)) (λ_ _=>sortedAll_old) (xJ _) ?_,rfl,k _ _ _ (Ext.push hf) (R.push hf ⟨_,zx,z3e⟩) (.loc (zIb R))⟩;exact⟨by simp;rw[yY];omega,out.toList,e0,zTd a1,by simpa using he⟩
  ·cases e
 ·cases e
def z4o{α:Type}(xs:List α)(k:Nat)(x:α):List α:=xs.take k++x::xs.drop k
def zTo{α:Type}(xs:List α)(k:Nat)(x:α):(z4o xs k x).length=xs.length+1:=by
 unfold z4o;rw[length_append,length_cons,length_take,length_drop];omega
def zfv:V->List V->Hp->VK->Prop:=λx vs H Q=>∃l xs i y,x=.ref l/\vs=[.int i,y]/\H l=some (.lst xs)/\0<=i/\i<=xs.length/\xs.length+1<=yE/\Q .non (upd H l (.lst (z4o xs i.toNat y)))
def zZr:MtM X "list.insert" zfv:=by
 intro U s Y H x vs v us Q I rx rv h;obtain⟨l,xs,i,y,rfl,rfl,hH,h0,h1,hz,q⟩:=h;cases rx
 cases rv with
 |cons ri rv=>
 obtain⟨t,rfl⟩:=ri;obtain⟨u,rfl,ru⟩:=Vals.one rv;obtain⟨z,its,n,r,hl,e⟩:=I.TM hH;have hm:(2:Int)^63=9223372036854775808:=by decide
 have hfit:¬(!Builtin.List.listFitsIndex i)=true:=by
  unfold Builtin.List.listFitsIndex;rw[yY]at hz;have h2:-(2^63:Int)<=i:=by omega
  have h3:i<2^63:=by omega
  rw[decide_eq_true h2,decide_eq_true h3];decide
 refine xw F.slot_list_insert ⟨_,e,rfl⟩ F.entry_list_insert (F.args_list_insert_3 _ _ _) (AutoSeq1.list_insert_list_int_val_1 l its.toArray n i t u hfit (by rw[size_toArray];omega)) ⟨e,?_⟩;refine⟨.non,_,I.sN (its':=z4o its i.toNat u) hH e ?_ ?_ (by rw[zTo];omega),rfl,q⟩
 ·show(its.toArray.extract 0 (if i<0 then(i+(its.toArray.size:Int)).toNat else min i.toNat its.toArray.size)).push u++its.toArray.extract (if i<0 then(i+(its.toArray.size:Int)).toNat else min i.toNat its.toArray.size)=_;rw[if_neg (by omega),size_toArray,Nat.min_eq_left (by omega)];apply Array.toList_inj.mp;unfold z4o;simp;exact xi (by simp)
 ·exact(r.take _).append (.cons ru (r.drop _))
def zJj:GM:=λx ds μ=>match x,ds with
 |.loc n,[.int i,d]=>match μ[n]? with
  |some (.lst xs)=>bif decide (0<=i/\i<=xs.length/\xs.length<=1000000) then some (.non,μ.set n (.lst (z4o xs i.toNat d))) else none
  |_=>none
 |_,_=>none
def zup:MtG X "list.insert" zJj:=by
 refine MtG.of λU s Y H x xs v us Q I rx rs Z dx ds μ d μ' r1 r2 R e k=>?_;unfold zJj at e
 split at e
 ·split at e
  ·rename_i hm
   obtain⟨h1,e⟩:=zI e;have h1:=of_decide_eq_true h1;cases e;obtain⟨a,rfl,ea⟩:=r1.tz;obtain⟨vs,e3,q3⟩:=R.at_ _ _ _ ea hm;obtain⟨wi,r,rfl,q0,q2⟩:=r2.cons_inv;obtain⟨w,r',rfl,q1,q2⟩:=q2.cons_inv;have ei:=q0.int_inv;subst ei;rw[q2.nil_inv]at rs;have hl:=q3.length;have hmi:=Tc;have hmu:Mut (H a):=by rw[e3];trivial
   refine zZr U s Y H _ _ v us Q I rx rs ⟨a,vs,_,w,rfl,rfl,e3,h1.1,by omega,by omega,?_⟩;exact k Z _ _ (Ext.wr hmu) (R.wr hmu ea ⟨_,zx,tf.ext (Ext.wr hmu) ((q3.take _).append (.cons q1 (q3.drop _)))⟩) .non
  ·cases e
 ·cases e
def ztr{o:yD}{ψ:FA}{apos:xV}(ho:ME X o G)(ha:MAn X (e::es) ψ)
 (hbase:YI o "insert" X.env (Yt o X.env)=Yt o X.env:=by rfl)
 (hfew:((YZ pos (yr (e::es) X.env)).all (λx=>!x.1)&&(backToKw pos (xZ [] X.env)).all (λx=>x.1.isSome)
  && decide ((e::es).length+([]:List xD).length+(if([]:List xD).isEmpty then 0 else 1)<30))=true:=by rfl)
 (hline:(apos.endLine==pos.line)=true:=by rfl) (hs:yr (e::es) X.env=(false,Yt e X.env)::yr es X.env:=by rfl) (hplain:(YZ pos (yr es X.env)).any (·.1)=false:=by rfl) :
 ME X (.Call (.Attribute o "insert" apos) (e::es) [] pos) (ztf zJj G ψ):=zNh PySem.F.slot_list_insert PySem.F.type_list_insert zup ho ha hbase hfew hline hs hplain
def zfl{it t:yg}{items:Array yb}(hne:t≠it):∀(n i:Nat)(s:yc)(Q:List yb->yc->Prop),s.heap.IsListIter it t i->s.heap.IsList t items->i+n<=items.size ->
 (∀h',h'.IsListIter it t (i+n)->Yj it s.heap h'->Q ((items.toList.drop i).take n) {s with heap:=h' })->yo (yx prog w) A (draw (.ref it) n) Q E s
 |0,i,s,Q,hit,_,_,hQ=>by
  show yo _ _ (pure []) Q E s;exact yf (by simpa using hQ s.heap hit (Heap.SameBut.refl ..))
 |n+1,i,s,Q,hit,ht,hle,hQ=>by
  have hlt:i<items.size:=by omega
  show yo _ _ (xY (.ref it) >>= _) Q E s;refine ya (wpAny_pyNext_list_item hit ht (x:=items[i]) (by simp[hlt]) λh₁ hit₁ hs₁=>?_);refine ya (yP (zfl hne n (i+1) _ _ hit₁ (ht.extBut hs₁.extBut hne) (by omega) λh₂ hit₂ hs₂=>yf ?_));have hd:items.toList.drop i=items[i]::items.toList.drop (i+1):=by simp[drop_eq_getElem_cons,hlt]
  have:=hQ h₂ (by rw[show i+(n+1)=i+1+n by omega];exact hit₂) (hs₁.trans hs₂);rw[hd,List.take_succ_cons]at this;exact this
def zPh{t:yg}{items:Array yb}{Q:List yb->yc->Prop}(hh:A.handled=none)(ht:s.heap.IsList t items)
 (hQ:∀h',Xd s.heap.objs.size s.heap h'->Q items.toList {s with heap:=h' }):yo (yx prog w) A (unpackItems (.ref t) items.size none) Q E s:=by
 have hlt:t≠s.heap.objs.size:=by obtain⟨o,ho,_⟩:=ht;exact yt (ym ho)
 unfold unpackItems;refine ya ?_
 ·unfold notIterableAtAll;refine ya (xf ht.typeIs PySem.slot_list_iter.lookup ?_);refine yf ?_;simp only[YV,if_false];refine ya (yP (xt ht ?_));refine ya (yP (zfl hlt items.size 0 _ _ ⟨_,yn _ rfl,rfl,rfl⟩ (ht.push _) (by omega) λh₁ hit₁ hs₁=>?_))
  have hall:List.take items.size (List.drop 0 items.toList)=items.toList:=by
   rw[List.drop_zero];exact xi (by simp)
  rw[hall];rw[if_neg (by simp)];have ht₁:h₁.IsList t items:=(ht.push _).extBut hs₁.extBut hlt;refine ya (yP (wpAny_pyNext_list_end hh hit₁ ht₁ (by simp) λh₂ he₂=>?_));simp only[Option.isSome_none,YV,if_false];refine yf (hQ h₂ λb o hb e=>he₂ b o hb (hs₁.extBut b o hb (ye _ e)))
def zXh{env:Env}{elts:List yD}{x1}{pos:xV}{t:yg}{items:Array yb}{Q:Unit->yc->Prop}(hh:A.handled=none)(ht:s.heap.IsList t items)
 (hn:(Ym elts env).length=items.size) (hstar:(Ym elts env).findIdx? (·.1)=none)
 (h:∀h',Xd s.heap.objs.size s.heap h'->yo (yx prog w) A (assignInOrder ((Ym elts env).map (·.2)) items.toList) Q E {s with heap:=h' }) :
 yo (yx prog w) A (assign (.Tuple elts x1 pos) env (.ref t)) Q E s:=by
 rw[assign_Tuple];refine ya (wpAny_standAt ?_);unfold unpack;rw[hn,hstar];exact ya (yP (zPh hh ht h))
def zVx(K:yz)(n:Nat)(t:TGs):TG:=λv Y H Q=>∃a xs,v=.ref a/\SqL K H a xs/\xs.length=n/\t xs Y H Q
def zlu{es:List yD}{k:Nat}{t:TGs}{n:Nat}(hc:X.calm=true)(h:PGs X es t)
 (hn:(Ym es X.env).length=n:=by rfl) (hst:(Ym es X.env).findIdx? (·.1)=none:=by rfl):PG X (.Tuple es k pos) (zVx X.K n t):=by
 intro U s Y H v u Q I r hw;obtain⟨a,xs,e1,hq,hl,hw⟩:=hw;subst e1;cases r;obtain⟨its,rv,pl,hz⟩:=I.list hq;refine zXh (I.ok.hd hc) pl.isList (by simp[hn,<-hl,rv.length]) hst λh' hx=>?_;have I1:Inv X U Y H {s with heap:=h' }:=I.kept (t':=s.toks) λb o e=>hx b o (yt (ym e)) e;exact h U _ Y H xs _ Q I1 (by simpa using rv) hw
def gTL(n:Nat)(gs:FGs):FG:=λd J μ=>match d with
 |.loc l=>match μ[l]? with
  |some (.lst ds)=>bif ds.length==n then gs ds J μ else none
  |_=>none
 |_=>none
def zvu{es:List yD}{k n:Nat}{gs:FGs}(h:MGs X es gs)(hc:X.calm=true:=by rfl)(hn:(Ym es X.env).length=n:=by rfl)(hst:(Ym es X.env).findIdx? (·.1)=none:=by rfl):MG X (.Tuple es k pos) (gTL n gs) :=
 mg_of (zlu hc h hn hst) λZ J μ d J' μ' v Y H Q A q e k=>by
  unfold gTL at e
  split at e
  ·split at e
   ·rename_i hm
    obtain⟨h1,e⟩:=zI e;obtain⟨a,rfl,ea⟩:=q.tz;obtain⟨vs,e3,q2⟩:=A.hp.at_ _ _ _ ea hm;exact⟨a,vs,rfl,SqL.of e3,by rw[<-q2.length];exact beq_iff_eq.mp h1,Z,J,μ,_,J',μ',A,q2,e,k⟩
   ·cases e
  ·cases e
@[simp] def zex(G ψ:FE):FE:=λJ μ=>(G J (μ++[.dct []])).bind λp=>(ψ J p.2).bind λq=>match p.1,q.2[μ.length]? with
 |.int i,some (.dct [])=>some (.loc μ.length,q.2.set μ.length (.dct [(i,q.1)]))
 |_,_=>none
def zVw(ha:ME X a G)(hb:ME X b ψ):ME X (.Dict [some a] [b] pos) (zex G ψ):=by
 intro U s Y H Q I hh;obtain⟨Z,J,μ,d,μ',A,e,k⟩:=hh;obtain⟨⟨x,μ1⟩,e1,e⟩:=zf e;obtain⟨⟨y,μ2⟩,e2,e⟩:=zf e;dsimp only at e e1 e2
 split at e
 case h_2=>cases e
 rename_i i hm _
 cases e;have hf:=I.hok.fresh (yj s.heap.objs.size);have I1:=I.laid (a:=s.heap.objs.size) (o:=.dK []) (h':=s.heap.push {cls:=.type "dict",data:=.dict #[]}) (t':=s.toks) (λ_ _ q=>ye _ q) (yj _) ⟨yR _,beq_eq_false_iff_ne.mpr (Yv (yt (big I))),[],.nil,Heap.DictOf.new _⟩;have R1:=A.hp.push hf (lo:=.dct []) (o:=.dK []) ⟨[],zx,rfl,.nil⟩;have A1:=A.ext (Ext.push hf) R1;have hr1:=zIb (p:=s.heap.objs.size) A.hp;refine wpAny_Dict_pairs (knd:=zRb X.prog X.w) (pairs:=[(Yt a X.env,do let x <-Yt b X.env;standAt pos;pure x)]) rfl (by simp) (by simp) ?_;refine evalPairs_cons (thn (ha U _ Y _ (λv H2=>∃Z2,Ext _ _ Z2 H2/\tF X.K Z2 H2 μ1/\tu X.K Z2 H2 (.int i) v) I1 ⟨_,J,_,_,μ1,A1,e1,λZ2 H2 v x2 R2 r2=>⟨Z2,x2,R2,r2⟩⟩) λkv s2 ⟨v,H2,I2,rk,Z2,x2,R2,r2⟩=>?_);refine ya (thn (hb U _ Y _ (λv H3=>∃Z3,Ext Z2 H2 Z3 H3/\tF X.K Z3 H3 μ2/\tu X.K Z3 H3 y v) I2 ⟨Z2,J,μ1,_,μ2,A1.ext x2 R2,e2,λZ3 H3 v x3 R3 r3=>⟨Z3,x3,R3,r3⟩⟩) λvv s3 ⟨u,H3,I3,ru,Z3,x3,R3,r3⟩=>ya (wpAny_standAt (yf (evalPairs_nil ?_))));have hr:=(x2.trans x3).get hr1;obtain⟨vs,ev,q1,q2⟩:=R3.at_ _ _ _ hr hm;have ev0:vs=[]:=by simpa using q1
 subst ev0;obtain⟨z,hd,us,rel,dd⟩:=zEu I3.hok ev
 have eu:us=[]:=by
  have:=rel.length;simpa using this.symm
 subst eu;rw[r2.int_inv]at rk;refine⟨[(yO i,vv)],⟨zhr (k:=.inl i) rk,rfl,True.intro⟩,dd,λh' dd' hs=>⟨.ref s.heap.objs.size,_,I3.write (x:=s.heap.objs.size) (e:=s.heap.objs.size) (o:=.dK [(yO i,u)]) (by rw[ev];exact True.intro) (.inl rfl) (λb q hb z=>(hs.2 b hb).trans z) ?_ ⟨by rw[yY];simp,hd,_,Paired.cons ⟨rfl,ru⟩ .nil,dd'⟩,rfl,?_⟩⟩
 ·obtain⟨q,_,_,hq,_⟩:=dd';exact⟨q,hq⟩
 ·have hmu:Mut (H3 s.heap.objs.size):=by rw[ev];trivial
  have R4:=R3.wr (o:=.dK [(yO i,u)]) (lo:=.dct [(i,y)]) hmu hr ⟨_,zx,rfl,.cons (r3.ext (Ext.wr hmu)) .nil⟩;exact k Z3 _ _ ((Ext.push hf).trans (x2.trans (x3.trans (Ext.wr hmu)))) R4 (.loc hr)
def zbl:GM:=λx ds μ=>match x,ds with
 |.loc n,[d]=>match μ[n]? with
  |some (.lst xs)=>bif zDc d&&xs.all zDc then(xs.findIdx? λy=>eqF y d).bind λj=>some (.int (j:Nat),μ) else none
  |_=>none
 |_,_=>none
def zYq:MtG X "list.index" zbl:=by
 refine MtG.of λU s Y H x xs v us Q I rx rs Z dx ds μ d μ' r1 r2 R e k=>?_;unfold zbl at e
 split at e
 ·split at e
  ·rename_i d0 _ ys hm
   obtain⟨h1,e⟩:=zI e;rw[yG]at h1;obtain⟨j,e2,e⟩:=zf e;cases e;obtain⟨a,rfl,ea⟩:=r1.tz;obtain⟨vs,e3,q3⟩:=R.at_ _ _ _ ea hm;obtain⟨w,r,rfl,q1,q2⟩:=r2.cons_inv;rw[q2.nil_inv]at rs;obtain⟨u,rfl,ru⟩:=vals1 rs;cases rx;obtain⟨z,its,n,rv,hl,el⟩:=I.TM e3;obtain⟨fv,_⟩:=zum q1 h1.1 q3 h1.2;obtain⟨hj,hyes,hno⟩:=List.findIdx?_eq_some_iff_getElem.mp e2;have l1:=q3.length;have l2:=rv.length;have hju:j<its.length:=by omega
   have same:∀(m:Nat)(h1:m<its.length)(h2:m<ys.length),eqU w its[m]=eqF ys[m] d0:=λm h1' h2'=>by
    obtain⟨vm,em,rm⟩:=q3.get (show ys[m]?=some ys[m] from yd h2');obtain⟨um,em2,rm2⟩:=rv.get em;have e6:its[m]=um:=by rw[yd h1']at em2;exact yS em2
    have hfv:zIi vm=true:=z9f rm (List.all_eq_true.mp h1.2 _ (getElem_mem h2'));rw[e6,zep rm2 hfv,zEn rm q1 (List.all_eq_true.mp h1.2 _ (getElem_mem h2')) h1.1]
   have hz:=yY;refine xw PySem.F.slot_list_index ⟨_,el,rfl⟩ PySem.F.entry_list_index (PySem.F.args_list_index_2 _ _) (SeqAt.list_indexAt a its.toArray n _ _ u (eqU w) j (by simpa using hju) (by omega) (by simpa[same j hju hj] using hyes) (λm hm' hmj=>?_)) ⟨el,λy hy=>zQe ru (z9f q1 h1.1) rv fv y (by simpa using hy),?_⟩
   ·have hm2:m<its.length:=by simpa using hm'
    have:=hno m hmj;have e7:=same m hm2 (by omega);simp only[Bool.not_eq_true]at this;simpa[e7] using this
   ·exact⟨.int _,H,I.tok _,⟨_,rfl⟩,k Z H _ Ext.refl R .int⟩
  ·cases e
 ·cases e
def z8s{o:yD}{ψ:FA}{apos:xV}(ho:ME X o G)(ha:MAn X (e::es) ψ)
 (hbase:YI o "index" X.env (Yt o X.env)=Yt o X.env:=by rfl)
 (hfew:((YZ pos (yr (e::es) X.env)).all (λx=>!x.1)&&(backToKw pos (xZ [] X.env)).all (λx=>x.1.isSome)
  && decide ((e::es).length+([]:List xD).length+(if([]:List xD).isEmpty then 0 else 1)<30))=true:=by rfl)
 (hline:(apos.endLine==pos.line)=true:=by rfl) (hs:yr (e::es) X.env=(false,Yt e X.env)::yr es X.env:=by rfl) (hplain:(YZ pos (yr es X.env)).any (·.1)=false:=by rfl) :
 ME X (.Call (.Attribute o "index" apos) (e::es) [] pos) (ztf zbl G ψ):=zNh PySem.F.slot_list_index PySem.F.type_list_index zYq ho ha hbase hfew hline hs hplain
end
end M
namespace M
open PySem PyProof.Rows
section
variable {prog:yy}{w:yH}{A:yN}{E:yb->yc->Prop}{s:yc}
end
end M
namespace M
open PySem PySem.Spec PyProof.Rows L2
section
variable {X:Cx}{U:List (yg×xb)}{Y:L2.St}{H:Hp}{s s':yc}
variable {a b c e:yD}{es:List yD}{G ψ χ:FE}{pos pos2 p1 p2:xV}
variable {prog:yy}{w:yH}{A:yN}{E:yb->yc->Prop}{T:String}{r d:yg}{n:Nat}{P:Nat->yb->Prop}{OK:Yb->Prop}
def zky(s:yc)(P:Nat->yb->Prop)(n:Nat):Result->yc->Prop:=λrr s'=>∃h' tk acc' c',rr=.ok (.ret (.ref s.heap.objs.size))/\s' = {s with heap:=h',toks:=tk }/\(∀b o,s.heap.get? b=some o->h'.get? b=some o)/\h'.get? s.heap.objs.size=some {cls:=.type "list",dict:=none,data:=.seq acc' c',slots:=#[]}/\ItemsOf P acc' n
def zPn{Q:List yb->yc->Prop}(K:W.KdlSrc prog w T r d n P OK)(hh:A.handled=none)(hok:OK s.heap)(hn:n<=yE)
 (h:∀h' tk acc',(∀b o,s.heap.get? b=some o->h'.get? b=some o)->s.heap.objs.size<=h'.objs.size->ItemsOf P acc' n->Q acc'.toList {s with heap:=h',toks:=tk }) :
 yo (yx prog w) A (collect (.ref r)) Q E s:=by
 have hlt:=K.there _ hok;unfold collect;refine ya (wpAny_runValue (YS F.entry_proto_collect ?_));rw[Yx F.plain_proto_collect _];show yo _ A.in1 (newList [] >>= λl=>again (.builtin "list.__iadd__" ⟨[l,.ref r],[]⟩)) _ _ s;refine ya (yT ?_);have hS:(s.heap.push {cls:=.type "list",data:=.seq ([]:List yb).toArray }).get? s.heap.objs.size=some {cls:=.type "list",data:=.seq #[]}:=yn _ rfl;refine yf ⟨xy F.plain_list_iadd _,xu (YS (R:=zky s P n) F.entry_list_iadd ?_) λrr s' ⟨h',tk,acc',c',e1,e2,hk,hS',hacc⟩=>?_⟩
 ·rw[Yx F.plain_list_iadd _];show yo _ A.in1 (Yn (.ref s.heap.objs.size) (.ref r) (.ref s.heap.objs.size)) _ _ _;exact W.kdl_extend (R:=zky s P n) (A:=A) (s:={s with heap:=s.heap.push {cls:=.type "list",data:=.seq ([]:List yb).toArray }}) K hh (K.keep _ _ hok λb _ o e=>ye _ e) _ (Yc hlt.1) (Yc hlt.2) _ _ hS (λh' tk acc' c' hk hS' hacc=>⟨h',tk,acc',c',rfl,rfl,λb o e=>hk b o (yt (ym e)) (ye _ e),hS',hacc⟩) hn
 ·subst e1 e2;dsimp only;refine ya (wpAny_load hS' ?_);exact yf (h h' tk acc' hk (YD (ym hS')) hacc)
def zrp{ks:List Int}{Q:yb->yc->Prop}(K:W.KdlSrc prog w T r d n P OK)(hh:A.handled=none)(hok:OK s.heap)(h64:n<64)(hint:∀acc:Array yb,ItemsOf P acc n->Xf acc.toList ks)(h:∀p s',zTt s ks p s'->Q (.ref p) s') :
 yo (yx prog w) A (call (.builtin "sorted") [.ref r]) Q E s:=by
 refine Calls.call_function_entry kind_sorted plain_sorted entry_sorted (args_sorted1 _) ?_;unfold YY.«sorted»;refine ya (m:=checkCount "sorted" 1 1 _) (yf ?_);refine ya (zPn (A:=A.in1) K hh hok (yA (YD h64) (by rw[yY];decide)) λh1 tk acc hk hsz hacc=>?_);have hI:=hint acc hacc
 have hl:acc.toList.length<64:=by
  have:=hacc.1;simp only[xC];omega
 refine ya (wpAny_newList ?_ (by rw[yY];omega));have hnew:(h1.push (Yp "list" acc.toList.toArray 0)).get? h1.objs.size=some (Yp "list" acc.toList.toArray 0):=yn _ rfl;refine ya (yP (yQ slot_list_sort ⟨_,hnew,rfl⟩ entry_list_sort (list_sort_tree hnew hI (by simp at hl ⊢;omega) λout ns q1 q2 q3=>⟨_,rfl,?_⟩) (args_list_sort _)));obtain⟨e,he⟩:=sortedHeap_at (out:=out) hnew;refine yf ⟨_,rfl,h _ _ ⟨out,ns,e,he,q1,q2,q3,hsz,λb ob eb=>?_,rfl,rfl⟩⟩;have hb1:=hk _ _ eb;have hlt1:b<h1.objs.size:=ym hb1;show(sortedHeap (h1.push (Yp "list" acc.toList.toArray 0)) h1.objs.size acc.toList out).get? b=some ob;rw[sortedHeap_old (yt hlt1) (by rw[size_push'];exact yX hlt1)];exact ye _ hb1
def zom:GL:=λds μ=>match ds with
 |[x]=>(zdc μ x).bind λkvs=>bif decide (kvs.length<64) then some (.loc μ.length,μ++[.lst ((zuk (kvs.map (·.1))).map .int)]) else none
 |_=>none
def zKn(hc:X.calm=true):tQ X (.builtin "sorted") zom:=by
 refine tQ.of λU s Y H xs us Q I r Z ds μ d μ' r1 R e k=>?_;unfold zom at e
 split at e
 ·obtain⟨kvs,e1,e⟩:=zf e;obtain⟨h64,e⟩:=zI e;have h64:=of_decide_eq_true h64;cases e;obtain⟨v,rr,rfl,q1,q2⟩:=r1.cons_inv;rw[q2.nil_inv]at r;obtain⟨p,vs,rfl,hq,w1,w2⟩:=zbg R q1 e1;obtain⟨u,rfl,ru⟩:=vals1 r;cases ru;obtain⟨hz,hd,_⟩:=zCi I.hok hq;obtain⟨us',ep,rel,da⟩:=zfr I.hok hq;have hl:=rel.length
  have hkv:(vs.map λp=>kV p.1)=((kvs.map (·.1)).map V.int):=by
   have:(vs.map (·.1)).map kV=(kvs.map λp=>(yO p.1:Key)).map kV:=by rw[w1]
   rw[map_map,map_map]at this;rw[map_map];exact this
  have hlk:kvs.length=vs.length:=by
   have:=congrArg List.length w1;simpa using this.symm
  refine zrp (ks:=kvs.map (·.1)) (W.kdl_dict hd) (I.ok.hd hc) da (by omega) (λacc hi=>?_) λq s' ⟨out,ns,e',h1,h2,h3,h4,h5,h6,h7,h8⟩=>?_
  ·obtain⟨hi1,hi2⟩:=hi;have hv:=zyj (P:=X.prog) (w:=X.w) (its:=acc.toList) rel (by simpa using hi1) λj v e=>hi2 j v (by simpa using e);rw[hkv]at hv;exact zLe hv
  ·have hms:ns=zuk (kvs.map (·.1)):=zUc (h3.trans (mergeSort_perm _ _).symm) h4 (zRh _);subst hms;have hlen:(zuk (kvs.map (·.1))).length=(kvs.map (·.1)).length:=h3.length_eq;rw[length_map]at hlen;have hf:=I.hok.fresh h5;refine⟨.ref q,_,z5o I h7 h8 h6 h5 (show tH X.prog X.w _ s'.heap _ (.lst ((zuk (kvs.map (·.1))).map V.int)) from⟨by simp;rw[yY];omega,out.toList,e',zTd h2,by simpa using h1⟩),rfl,k _ _ _ (Ext.push hf) (R.push hf ⟨_,zx,z3e⟩) (.loc (zIb R))⟩
 ·cases e
end
end M
namespace M
open PySem PySem.W PyProof.Rows
def Good{α:Type}(ans:Nat->Nat->Bool)(n:Nat)(Q:α->Prop):KasT α->Prop
 |.ret a=>Q a
 |.ask i j k=>(i<n/\j<n/\i≠j)/\Good ans n Q (k (ans i j))
def Good.bind{α β:Type}{ans:Nat->Nat->Bool}{n:Nat}{f:α->KasT β}{Q:β->Prop}:∀{t:KasT α},Good ans n (λa=>Good ans n Q (f a)) t->Good ans n Q (t.bind f)
 |.ret _,h=>h
 |.ask i j k,h=>⟨h.1,Good.bind (t:=k (ans i j)) h.2⟩
def Good.mono{α:Type}{ans:Nat->Nat->Bool}{n:Nat}{Q Q':α->Prop}(hq:∀a,Q a->Q' a):∀{t:KasT α},Good ans n Q t->Good ans n Q' t
 |.ret a,h=>hq a h
 |.ask i j k,h=>⟨h.1,Good.mono hq (t:=k (ans i j)) h.2⟩
def Good.wp{α:Type}{ans:Nat->Nat->Bool}{n:Nat}{cmp:Nat->Nat->(Bool->yc->Prop)->yc->Prop}{I:yc->Prop}(hc:∀i j C s,i<n->j<n->i≠j->I s->(∀s',I s'->C (ans i j) s')->cmp i j C s){Q:α->Prop}{Q':α->yc->Prop}(hq:∀a s,Q a->I s->Q' a s) :
 ∀(t:KasT α)(s:yc),Good ans n Q t->I s->t.kasWp cmp Q' s
 |.ret a,s,h,hi=>hq a s h hi
 |.ask i j k,s,h,hi=>hc i j _ s h.1.1 h.1.2.1 h.1.2.2 hi λs' hi'=>Good.wp hc hq (k (ans i j)) s' h.2 hi'
section
variable {n:Nat}{f:Nat->Int}
abbrev zYt(f:Nat->Int):Nat->Nat->Bool:=λi j=>decide (f i<f j)
def gp(f:Nat->Int)(p:Array Nat)(i:Nat):Int:=f (p.getD i 0)
structure Pm(n:Nat)(p:Array Nat):Prop where
 sz:p.size=n
 pm:p.toList.Perm (yi n)
def Pm.lt{p:Array Nat}(h:Pm n p){i:Nat}(hi:i<n):p.getD i 0<n:=by
 have hi':i<p.size:=by rw[h.sz];exact hi
 have e:p.getD i 0=p[i]:=by simp[Xb,hi']
 rw[e];have:p[i]∈p.toList:=by simp
 exact List.mem_range.mp (h.pm.mem_iff.mp this)
def Pm.inj{p:Array Nat}(h:Pm n p){i j:Nat}(hi:i<n)(hj:j<n)(e:p.getD i 0=p.getD j 0):i=j:=by
 have hi':i<p.size:=by rw[h.sz];exact hi
 have hj':j<p.size:=by rw[h.sz];exact hj
 have e1:p.getD i 0=p[i]:=by simp[Xb,hi']
 have e2:p.getD j 0=p[j]:=by simp[Xb,hj']
 rw[e1,e2]at e;have nd:p.toList.Nodup:=h.pm.nodup_iff.mpr nodup_range;have l1:i<p.toList.length:=by simpa using hi'
 have l2:j<p.toList.length:=by simpa using hj'
 exact(List.getElem?_inj l1 nd).mp (by rw[yd l1,yd l2];simpa using e)
def Pm.of{p q:Array Nat}(h:Pm n p)(hs:q.size=p.size)(hp:q.Perm p):Pm n q:=⟨hs.trans h.sz,(Array.perm_iff_toList_perm.mp hp).trans h.pm⟩
def Up(f:Nat->Int)(p:Array Nat)(m:Nat):Prop:=∀i j,i<=j->j<m->gp f p i<=gp f p j
def Up.step{p:Array Nat}{m:Nat}(h:Up f p m)(hm:1<=m)(hl:gp f p (m-1)<=gp f p m):Up f p (m+1):=λi j hij hj=>by
 by_cases hjm:j<m
 ·exact h i j hij hjm
 ·have:j=m:=by omega
  subst this
  by_cases him:i=j
  ·rw[him];exact Int.le_refl _
  ·exact Int.le_trans (h i (j-1) (by omega) (by omega)) hl
def zbm{p:Array Nat}(P:Pm n p):∀(k m:Nat),1<=m->m+k<=n->Up f p m->Good (zYt f) n (λr=>m<=r/\r<=m+k/\Up f p r/\(r<m+k->gp f p r<gp f p (r-1))) (kas_asc p k m)
 |0,m,h1,hm,hu=>⟨yj _,yj _,hu,λh=>absurd h (by omega)⟩
 |k+1,m,h1,hm,hu=>by
  refine⟨⟨P.lt (by omega),P.lt (by omega),λe=>absurd (P.inj (by omega) (by omega) e) (by omega)⟩,?_⟩;show Good _ _ _ (if decide (f (p.getD m 0)<f (p.getD (m-1) 0))=true then _ else _)
  by_cases hc:f (p.getD m 0)<f (p.getD (m-1) 0)
  ·rw[decide_eq_true hc,if_pos rfl];exact⟨yj _,by omega,hu,λ_=>hc⟩
  ·rw[decide_eq_false hc,if_neg (by simp)];refine Good.mono (λr h=>⟨by omega,by omega,h.2.2.1,λhr=>h.2.2.2 (by omega)⟩) (zbm P k (m+1) (by omega) (by omega) (hu.step h1 (by unfold gp;omega)))
def Dn(f:Nat->Int)(p:Array Nat)(m:Nat):Prop:=∀i,i+1<m->gp f p (i+1)<gp f p i
def zbn{p:Array Nat}(hf:∀i j,i<n->j<n->f i=f j->i=j)(P:Pm n p):∀(k m:Nat),1<=m->m+k<=n->Dn f p m->Good (zYt f) n (λr=>r.1=p/\r.2.2=0/\m<=r.2.1/\r.2.1<=m+k/\Dn f p r.2.1) (kas_desc k p m 0)
 |0,m,h1,hm,hd=>⟨rfl,rfl,yj _,yj _,hd⟩
 |k+1,m,h1,hm,hd=>by
  refine⟨⟨P.lt (by omega),P.lt (by omega),λe=>absurd (P.inj (by omega) (by omega) e) (by omega)⟩,?_⟩;show Good _ _ _ (if decide (f (p.getD m 0)<f (p.getD (m-1) 0))=true then _ else _)
  by_cases hc:f (p.getD m 0)<f (p.getD (m-1) 0)
  ·rw[decide_eq_true hc,if_pos rfl,if_neg (by omega)];refine Good.mono (λr h=>⟨h.1,h.2.1,by omega,by omega,h.2.2.2.2⟩) (zbn hf P k (m+1) (by omega) (by omega) λi hi=>?_)
   by_cases him:i+1<m
   ·exact hd i him
   ·have:i+1=m:=by omega
    unfold gp;rw[this,show i=m-1 by omega];exact hc
  ·rw[decide_eq_false hc,if_neg (by simp)];refine⟨⟨P.lt (by omega),P.lt (by omega),λe=>absurd (P.inj (by omega) (by omega) e) (by omega)⟩,?_⟩
   have hne:f (p.getD (m-1) 0)<f (p.getD m 0):=by
    rcases Int.lt_or_eq_of_le (Int.not_lt.mp hc) with h|h
    ·exact h
    ·have:=P.inj (i:=m-1) (j:=m) (by omega) (by omega) (hf _ _ (P.lt (by omega)) (P.lt (by omega)) h);omega
   show Good _ _ _ (if decide (f (p.getD (m-1) 0)<f (p.getD m 0))=true then _ else _);rw[decide_eq_true hne,if_pos rfl];exact⟨rfl,rfl,yj _,by show m<=m+(k+1);omega,hd⟩
def zht{p q:Array Nat}{i j:Nat}(h:p[i]?=q[j]?):gp f p i=gp f q j:=by
 have e:p.getD i 0=q.getD j 0:=by
  have a:∀(x:Array Nat)(k:Nat),x.getD k 0=(x[k]?).getD 0:=λx k=>by simp
  rw[a,a,h]
 unfold gp;rw[e]
def Dn.lt{p:Array Nat}{m:Nat}(h:Dn f p m):∀i j,i<j->j<m->gp f p j<gp f p i:=λi j hij hj=>by
 induction j with
 |zero=>omega
 |succ j ih=>
  have h1:=h j hj
  by_cases e:i=j
  ·rw[e];exact h1
  ·have:=ih (by omega) (by omega);omega
def zJv{p:Array Nat}{m:Nat}(P:Pm n p)(hm:m<=n)(h:Dn f p m):Pm n (kas_rev p 0 m)/\Up f (kas_rev p 0 m) m:=by
 have hj:m<=p.size:=by rw[P.sz];exact hm
 refine⟨P.of (mirror_size _ _ _ _) (mirror_perm _ _ _ _),λi j hij hjm=>?_⟩
 have g:∀i,i<m->gp f (kas_rev p 0 m) i=gp f p (m-1-i):=λi hi=>by
  refine zht ?_;unfold kas_rev;rw[getElem?_mirror_all hj,if_pos ⟨yR _,hi⟩,Nat.zero_add]
 rw[g i (by omega),g j hjm]
 by_cases e:i=j
 ·rw[e];exact Int.le_refl _
 ·exact Int.le_of_lt (h.lt _ _ (by omega) (by omega))
abbrev Ru(f:Nat->Int)(n:Nat)(r:Nat×Array Nat):Prop:=1<=r.1/\r.1<=n/\Pm n r.2/\Up f r.2 r.1
def zmq{p:Array Nat}{m:Nat}(P:Pm n p)(h1:1<=m)(hm:m<=n)(h:Dn f p m):Good (zYt f) n (Ru f n) (kas_tail3 m n p):=by
 obtain⟨P',hu⟩:=zJv P hm h;refine Good.bind (Good.mono (λr hr=>?_) (zbm P' (n-m) m h1 (by omega) hu));exact⟨by omega,by omega,P',hr.2.2.1⟩
def zql{p:Array Nat}(hf:∀i j,i<n->j<n->f i=f j->i=j)(P:Pm n p)(h2:2<=n)(h:gp f p 1<gp f p 0):Good (zYt f) n (Ru f n) (kas_descPart 1 n p):=by
 refine Good.bind (Good.mono (λr hr=>?_) (zbn hf P (n-(1+1)) (1+1) (by omega) (by omega) λi hi=>?_))
 ·obtain⟨e1,e2,h3,h4,h5⟩:=hr;rw[if_neg (by omega),e1];exact zmq P (by omega) (by omega) h5
 ·have:i=0:=by omega
  subst this;exact h
def zpp{p:Array Nat}(hf:∀i j,i<n->j<n->f i=f j->i=j)(P:Pm n p)(h2:2<=n):Good (zYt f) n (Ru f n) (kas_count n p):=by
 refine Good.bind (Good.mono (λr hr=>?_) (zbm P (n-1) 1 (by omega) (by omega) λi j hij hj=>?_))
 ·obtain⟨h1,h3,hu,hs⟩:=hr
  by_cases e:r=n
  ·rw[if_pos (by simpa using e)];exact⟨h1,by omega,P,hu⟩
  ·rw[if_neg (by simpa using e)]
   by_cases h1r:r>1
   ·rw[if_pos h1r];refine⟨⟨P.lt (by omega),P.lt (by omega),λe=>absurd (P.inj (by omega) (by omega) e) (by omega)⟩,?_⟩
    have hlt:f (p.getD 0 0)<f (p.getD (r-1) 0):=by
     rcases Int.lt_or_eq_of_le (hu 0 (r-1) (yR _) (by omega)) with h|h
     ·exact h
     ·have:=P.inj (i:=0) (j:=r-1) (by omega) (by omega) (hf _ _ (P.lt (by omega)) (P.lt (by omega)) h);omega
    show Good _ _ _ (if decide (f (p.getD 0 0)<f (p.getD (r-1) 0))=true then _ else _);rw[decide_eq_true hlt,if_pos rfl];exact⟨h1,by omega,P,hu⟩
   ·rw[if_neg h1r];have:r=1:=by omega
    subst this;exact zql hf P h2 (hs (by omega))
 ·have:i=j:=by omega
  rw[this];exact Int.le_refl _
def z2h{p:Array Nat}{k:Nat}(P:Pm n p)(hk:k<n)(hu:Up f p k):∀(c l r:Nat),l<=r->r<=k->r-l<=c->(∀i,i<l->gp f p i<=gp f p k)->(∀i,r<=i->i<k->gp f p k<gp f p i) ->
 Good (zYt f) n (λl=>l<=k/\(∀i,i<l->gp f p i<=gp f p k)/\∀i,l<=i->i<k->gp f p k<gp f p i) (kas_place p k c l r)
 |0,l,r,hlr,hrk,hc,h1,h2=>by
  have:l=r:=by omega
  subst this;exact⟨hrk,h1,h2⟩
 |c+1,l,r,hlr,hrk,hc,h1,h2=>by
  unfold kas_place
  by_cases hge:l≥r
  ·have:l=r:=by omega
   subst this;rw[if_pos hge];exact⟨hrk,h1,h2⟩
  ·rw[if_neg hge];refine⟨⟨P.lt hk,P.lt (by omega),λe=>absurd (P.inj hk (by omega) e) (by omega)⟩,?_⟩;show Good _ _ _ (if decide (f (p.getD k 0)<f (p.getD ((l+r) / 2) 0))=true then _ else _)
   by_cases hcm:f (p.getD k 0)<f (p.getD ((l+r) / 2) 0)
   ·rw[decide_eq_true hcm,if_pos rfl];refine z2h P hk hu c l ((l+r) / 2) (by omega) (by omega) (by omega) h1 λi hi hik=>?_;have:=hu ((l+r) / 2) i hi hik;unfold gp at this ⊢;omega
   ·rw[decide_eq_false hcm,if_neg (by simp)];refine z2h P hk hu c ((l+r) / 2+1) r (by omega) hrk (by omega) (λi hi=>?_) h2;have:=hu i ((l+r) / 2) (by omega) (by omega);unfold gp at this ⊢;omega
def zgp:∀(c:Nat) {p:Array Nat} {k:Nat},Pm n p->1<=k->k+c=n->Up f p k->Good (zYt f) n (λq=>Pm n q/\Up f q n) (kas_bin c p k)
 |0,p,k,P,h1,hk,hu=>by
  have:k=n:=by omega
  subst this;exact⟨P,hu⟩
 |c+1,p,k,P,h1,hk,hu=>by
  have hkn:k<n:=by omega
  refine Good.bind (Good.mono (λl hl=>?_) (z2h P hkn hu k 0 k (yR _) (yj _) (by omega) (λi hi=>absurd hi (by omega)) λi h1 h2=>absurd h1 (by omega)));obtain⟨hlk,ha,hb⟩:=hl;have hks:k<p.size:=by rw[P.sz];exact hkn
  refine zgp c (P.of (bubble_size _ _ _) (bubble_perm _ _ _)) (by omega) (by omega) λi j hij hj=>?_
  have g:∀i,gp f (bubble p k (k-l)) i=if i=l then gp f p k else if l<i/\i<=k then gp f p (i-1) else gp f p i:=λi=>by
   have e:=getElem?_bubble hks (k-l) (by omega) i;rw[show k-(k-l)=l by omega]at e
   split
   ·rename_i h
    rw[if_pos h]at e;exact zht e
   ·rename_i h
    rw[if_neg h]at e
    split
    ·rename_i h'
     rw[if_pos h']at e;exact zht e
    ·rename_i h'
     rw[if_neg h']at e;exact zht e
  rw[g i,g j]
  by_cases hi:i=l
  ·rw[if_pos hi]
   by_cases hj':j=l
   ·rw[if_pos hj'];exact Int.le_refl _
   ·rw[if_neg hj',if_pos (by omega)];exact Int.le_of_lt (hb (j-1) (by omega) (by omega))
  ·rw[if_neg hi]
   by_cases hi2:l<i/\i<=k
   ·rw[if_pos hi2,if_neg (by omega),if_pos (by omega)];exact hu (i-1) (j-1) (by omega) (by omega)
   ·rw[if_neg hi2]
    by_cases hj':j=l
    ·rw[if_pos hj'];exact ha i (by omega)
    ·rw[if_neg hj']
     by_cases hj2:l<j/\j<=k
     ·rw[if_pos hj2];exact hu i (j-1) (by omega) (by omega)
     ·rw[if_neg hj2];exact hu i j hij (by omega)
def zsq(hf:∀i j,i<n->j<n->f i=f j->i=j)(h2:2<=n):Good (zYt f) n (λq=>Pm n q/\Up f q n) (kas_sort n):=by
 have P0:Pm n (List.toArray (yi n)):=⟨by simp,by simp⟩
 refine Good.bind (Good.mono (λr hr=>?_) (zpp hf P0 h2));obtain⟨h1,h3,P,hu⟩:=hr
 by_cases hlt:r.1<n
 ·rw[if_pos hlt];have e:max r.1 1=r.1:=by omega
  rw[e];exact zgp (n-r.1) P h1 (by omega) hu
 ·rw[if_neg hlt];have:r.1=n:=by omega
  rw[this]at hu;exact⟨P,hu⟩
end
end M
namespace M
open PySem PySem.W PyProof.Rows
open PySem.AutoSeq1 (wpAny_loadPart')
open PySem.MeetsSeq PySem.MeetsSeq3
section
variable {x y:Int}{t u:Tok}{items items2:Array yb}
def zvv(l b:yg)(n n2:Nat)(h1:items[0]?=some (.int x t))(h2:items2[0]?=some (.int y u))(hne:x≠y) :
 Meets (YY.«list.__eq__.loop» ⟨[.ref l,.ref b,YF 0,YF 0],[]⟩)
  (λ_ R s=>s.heap.get? l=some {cls:=.type "list",dict:=none,data:=.seq items n,slots:=#[]}/\s.heap.get? b=some {cls:=.type "list",dict:=none,data:=.seq items2 n2,slots:=#[]} /\
   R (.ok (.ret (.bool (decide (x<y))))) s):=by
 intro prog w A R s h;obtain⟨hp,g,d,tk,os⟩:=s;obtain⟨hl,hb,h⟩:=h
 wp_walk using xc hl,xc hb
 have hi1:items[Int.toNat 0]?=some (.int x t):=h1;have hi2:items2[Int.toNat 0]?=some (.int y u):=h2;rw[hi1,hi2];obtain⟨e,he,hi⟩:=HT.sQ A.in1 ⟨hp,g,d,tk,os⟩ x t y u
 have hef:e=false:=by
  cases e with
  |false=>rfl
  |true=>exact absurd (hi.mp rfl) hne
 subst hef;refine ya (he prog w _ _ ?_)
 wp_walk using xc hl,xc hb
 rw[hi1,hi2];refine ya (HT.sR A.in1 _ x t y u prog w _ _ ?_)
 wp_walk
 exact h
def zrv(l b:yg)(n n2:Nat)(h1:items[0]?=some (.int x t))(h2:items2[0]?=some (.int y u))(hne:x≠y) :
 Meets (YY.«list.__lt__» ⟨[.ref l,.ref b],[]⟩)
  (λ_ R s=>s.heap.get? l=some {cls:=.type "list",dict:=none,data:=.seq items n,slots:=#[]}/\s.heap.get? b=some {cls:=.type "list",dict:=none,data:=.seq items2 n2,slots:=#[]} /\
   R (.ok (.ret (.bool (decide (x<y))))) s):=by
 intro prog w A R s h;obtain⟨hp,g,d,tk,os⟩:=s;obtain⟨hl,hb,h⟩:=h;have f3:=AutoSeq1.sub_list_list
 wp_walk using xc hl,xc hb
 exact⟨xy plain_eq_loop _,YS entry_eq_loop (by
  rw[Yx plain_eq_loop _];exact zvv l b n n2 h1 h2 hne prog w A R _ ⟨hl,hb,h⟩)⟩
end
end M
namespace M
open PySem PySem.W PyProof.Rows
open PySem.AutoSeq1 (wpAny_loadPart')
def zcm(b:Bool)(x y:yb):keyLt' (tuples' b) x y=(do
 let xs <-xN x
 let ys <-xN y
 for ((p,q),i) in (xs.toList.zip ys.toList).zipIdx do
  if !(<-eqBool p q) then return <-oneLt' (b&&i==0) p q
 return xs.size<ys.size):=rfl
section
variable {prog:yy}{w:yH}{A:yN}{E:yb->yc->Prop}{s:yc}{x y:Int}{t u:Tok}{items items2:Array yb}{l b:yg}{n n2:Nat}
def zzp{Q:Bool->yc->Prop}(hu:A.units<cLine)(hl:s.heap.get? l=some {cls:=.type "list",dict:=none,data:=.seq items n,slots:=#[]})(hb:s.heap.get? b=some {cls:=.type "list",dict:=none,data:=.seq items2 n2,slots:=#[]})(h1:items[0]?=some (.int x t))(h2:items2[0]?=some (.int y u))(hne:x≠y)(h:Q (decide (x<y)) s) :
 yo (yx prog w) A (oneLt' true (.ref l) (.ref b)) Q E s:=by
 rw[oneLt'_eq];simp only[if_true];refine ya (wpAny_cRoomFor hu ?_);have hT:s.TypeIs (.ref l) "list":=⟨_,hl,rfl⟩
 refine ya (wpAny_callSpecialIfBound?_slot hT PySem.F.slot_list_lt (call_meetsIn PySem.F.slot_list_lt hT PySem.F.entry_list_lt (PySem.F.args_list_lt_2 _ _) ((zrv l b n n2 h1 h2 hne).inModel prog w) ⟨hl,hb,?_⟩));exact YJ h
def zNq{Q:Bool->yc->Prop}{tx ty:yg}{ox oy:xb}{v1 v2:yb}{m1 m2:Nat}{ns ms:List Int}(hu:A.units+65<cLine)(hx:s.heap.get? tx=some ox)(hdx:ox.data=.seq #[.ref l,v1] m1)(hy:s.heap.get? ty=some oy)(hdy:oy.data=.seq #[.ref b,v2] m2)
 (hl:s.heap.get? l=some {cls:=.type "list",dict:=none,data:=.seq items n,slots:=#[]}) (hb:s.heap.get? b=some {cls:=.type "list",dict:=none,data:=.seq items2 n2,slots:=#[]}) (hi:Xf items.toList (x::ns)) (hj:Xf items2.toList (y::ms)) (hne:x≠y) (h:Q (decide (x<y)) s) :
 yo (yx prog w) A (keyLt' (tuples' true) (.ref tx) (.ref ty)) Q E s:=by
 rw[zcm];refine ya (Xh hx hdx ?_);refine ya (Xh hy hdy ?_);have hz:((#[YG l,v1]:Array yb).toList.zip (#[YG b,v2]:Array yb).toList).zipIdx=[((YG l,YG b),0),((v1,v2),1)]:=rfl;rw[hz];have hL:s.heap.IsList l items.toList.toArray:=⟨_,hl,rfl,n,by simp⟩
 have hB:s.heap.IsList b items2.toList.toArray:=⟨_,hb,rfl,n2,by simp⟩
 have he:SeqAt.EqAt A.in1 s (.ref l) (.ref b) (decide ((x::ns)=(y::ms))):=W.keq_ints hL hi hB hj (by show A.units+1+64<cLine;omega);rw[decide_eq_false (by simp[hne])]at he;refine ya ?_;rw[List.forIn_cons];refine ya ?_;dsimp only;refine ya (he.of_in1 prog w _ _ ?_);have g1:items[0]?=items.toList[0]?:=by simp
 obtain⟨t,ht⟩:∃t,items[0]?=some (.int x t):=by
  rw[g1]
  cases hi':items.toList with
  |nil=>rw[hi']at hi;cases hi
  |cons v vs=>rw[hi']at hi;cases hi with|cons _ t _=>exact⟨t,rfl⟩
 have g2:items2[0]?=items2.toList[0]?:=by simp
 obtain⟨u,hu2⟩:∃u,items2[0]?=some (.int y u):=by
  rw[g2]
  cases hi':items2.toList with
  |nil=>rw[hi']at hj;cases hj
  |cons v vs=>rw[hi']at hj;cases hj with|cons _ t _=>exact⟨t,rfl⟩
 simp only[Bool.not_false,if_true,Bool.true_and];refine ya ?_;show yo _ _ (oneLt' true (.ref l) (.ref b)) _ _ _;refine zzp (by omega) hl hb ht hu2 hne ?_;refine yf ?_;refine yf ?_;exact yf h
end
end M
namespace M
open PySem PySem.W PyProof.Rows
def zdr(h:Yb)(v:yb)(x:Int):Prop:=∃(t a:yg)(ot:xb)(w:yb)(m:Nat)(items:Array yb)(n:Nat)(ns:List Int),v=.ref t/\h.get? t=some ot/\ot.cls=.type "tuple"/\ot.data=.seq #[.ref a,w] m/\h.get? a=some {cls:=.type "list",dict:=none,data:=.seq items n,slots:=#[]}/\Xf items.toList (x::ns)
section
variable {prog:yy}{w:yH}{A:yN}{E:yb->yc->Prop}{s:yc}
def zxq{α β:Type}{f:α->Sem β}{R:β->Prop}:∀(l:List α) {Q:List β->yc->Prop},(∀v∈l,∃r,R r/\∀(Q':β->yc->Prop),Q' r s->yo (yx prog w) A (f v) Q' E s)->(∀rs:List β,rs.length=l.length->(∀r∈rs,R r)->Q rs s)->yo (yx prog w) A (l.mapM f) Q E s
 |[],Q,_,h=>by rw[List.mapM_nil];exact yf (h [] rfl (by simp))
 |x::l,Q,hf,h=>by
  rw[mapM_cons];obtain⟨r,hr,hx⟩:=hf x (.head _);refine ya (hx _ (ya (zxq l (λv hv=>hf v (.tail _ hv)) λrs hl hrs=>yf (h (r::rs) (by simp[hl]) λz hz=>?_))));rcases List.mem_cons.mp hz with rfl|hz
  ·exact hr
  ·exact hrs z hz
def zvs{vs:List yb}{Q:SortKind->yc->Prop}(h2:2<=vs.length)(hv:∀v∈vs,∃x,zdr s.heap v x)(h:Q (tuples' true) s):yo (yx prog w) A (keyKind' vs.toArray) Q E s:=by
 rw[keyKind'_eq,List.mapM_toArray,map_eq_pure_bind];refine ya (ya (zxq (R:=λr=>∃(a:yg)(o:xb),r=some (.ref a)/\s.heap.get? a=some o/\o.cls=.type "list") vs (λv hm=>?_) λrs hl hrs=>yf ?_))
 ·obtain⟨x,t,a,ot,w',m,items,n,ns,e,h1,h3,h4,h5,h6⟩:=hv v hm;subst e;refine⟨some (.ref a),⟨a,_,rfl,h5,rfl⟩,λQ' hq=>?_⟩;rw[kas_first_eq];refine ya (xv (T:="tuple") ⟨ot,h1,h3⟩ ?_);have hf:(Yl "tuple" != Yl "tuple")=false:=by rfl
  rw[hf,if_neg (by simp)];exact ya (Xh h1 h4 (yf hq))
 ·have hall:(rs.toArray.all λx=>x.isSome)=true:=by
   simp only[List.all_toArray,all_eq_true];intro r hr;obtain⟨a,o,rfl,_⟩:=hrs r hr;rfl
  rw[if_pos hall];refine ya (wpAny_rule ?_);rw[oneTypeOnly'_eq];have hfm:(rs.toArray.filterMap id)=(rs.filterMap id).toArray:=by simp
  rw[hfm,List.mapM_toArray,map_eq_pure_bind];refine ya (ya (ya (kas_mapM (r:=Yl "list") _ (λv hm Q' hq=>?_) (yf ?_))))
  ·obtain⟨r,hr,e⟩:=List.mem_filterMap.mp hm;obtain⟨a,o,rfl,h5,h6⟩:=hrs r hr;cases e;exact xv (T:="list") ⟨o,h5,h6⟩ hq
  ·have hlen:(rs.filterMap id).length=rs.length:=by
    clear hl hall hfm
    induction rs with
    |nil=>rfl
    |cons r rs ih=>
     obtain⟨a,o,rfl,_⟩:=hrs r (.head _);rw[filterMap_cons];simp[ih λz hz=>hrs z (.tail _ hz)]
   cases hc:rs.filterMap id with
   |nil=>rw[hc]at hlen;simp at hlen;omega
   |cons v vs'=>
    have h0:(List.map (λ_=>Yl "list") (v::vs')).toArray[0]?=some (Yl "list"):=by simp
    rw[h0]
    have ha:((List.map (λ_=>Yl "list") (v::vs')).toArray.all λx=>x==Yl "list")=true:=by
     simp only[List.all_toArray,all_map,all_eq_true];intro _ _;rfl
    simp only[ha,if_true];refine yf (yf ?_);exact h
def zdt{a:yg}{vs:List yb}{f:Nat->Int}{n:Nat}{P:Fin->yc->Prop}(hu:A.units+65<cLine)(ho:s.heap.get? a=some (Yp "list" vs.toArray n))(h2:2<=vs.length)(h64:vs.length<64)
 (hf:∀i j,i<vs.length->j<vs.length->f i=f j->i=j) (hv:∀h':Yb,(∀b o,b≠a->s.heap.get? b=some o->h'.get? b=some o)->∀i,i<vs.length->zdr h' (vs.getD i .none) (f i))
 (h:∀p:Array Nat,Pm vs.length p->Up f p vs.length->P (.done (.ret .none)) {s with heap:=sortedHeap s.heap a vs (List.toArray (p.toList.map λi=>vs.getD i .none))}) :
 yo (yx prog w) A (YY.«list.sort» ⟨[.ref a],[]⟩) P E s:=by
 obtain⟨e1,ho1⟩:∃e1,(s.heap.update a (yU λ_=>(#[]:Array yb))).get? a=some (Yp "list" #[] e1):=⟨_,get?_update_seq ho λ_=>#[]⟩
 have s1:=Yo s.heap a (yU λ_=>(#[]:Array yb));have keep:∀b o,b≠a->s.heap.get? b=some o->(((s.heap.update a (yU λ_=>(#[]:Array yb))).push (Yp "tuple" vs.toArray 0)).push (Yp "list" #[] 0)).get? b=some o:=λb o hb e=>ye _ (ye _ ((s1.2 b hb).trans e));have ho3:(((s.heap.update a (yU λ_=>(#[]:Array yb))).push (Yp "tuple" vs.toArray 0)).push (Yp "list" #[] 0)).get? a=some (Yp "list" #[] e1):=ye _ (ye _ ho1);have T:=hv _ keep;rw[list_sort_plain];refine ya (Xh ho rfl ?_);refine ya (listUpdate_at ho rfl ?_ (by rw[size_toArray,yY];omega) (yR _));refine ya (seqEpoch_at ho1 rfl ?_);refine ya (wpAny_newTuple ?_ (by show vs.length<=_;rw[yY];omega));refine ya (wpAny_newList ?_ (yR _));refine yP ?_;show yo (yx prog w) A _ P E {s with heap:=((s.heap.update a (yU λ_=>(#[]:Array yb))).push (Yp "tuple" vs.toArray 0)).push (Yp "list" #[] 0)};dsimp only;have hn2:¬vs.toArray.size<2:=by rw[size_toArray];omega
 rw[if_neg hn2,if_neg hn2];refine ya (zvs h2 (λv hm=>?_) ?_)
 ·obtain⟨i,hi⟩:=List.mem_iff_getElem?.mp hm;have hlt:=(List.getElem?_eq_some_iff.mp hi).1;have:=T i hlt;rw[getD_eq_getElem?_getD,hi]at this;exact⟨_,this⟩
 have est:SortSt.mk' (tuples' true) (vs.toArray.zip vs.toArray) #[] 7 none=kas_st (tuples' true) (pairsOf vs) (List.toArray (yi vs.length)):=by
  have e:=kas_range (pairsOf vs);rw[pairsOf_size]at e;show SortSt.mk' (tuples' true) (pairsOf vs) #[] 7 none=SortSt.mk' (tuples' true) ((List.toArray (yi vs.length)).map (kas_item (pairsOf vs))) #[] 7 none;rw[e]
 have run:=kas_runs (prog:=prog) (w:=w) (A:=A) (E:=E) (κ:=tuples' true) (it:=pairsOf vs) (s:={s with heap:=((s.heap.update a (yU λ_=>(#[]:Array yb))).push (Yp "tuple" vs.toArray 0)).push (Yp "list" #[] 0)})
  (Q:=λ_ st' s'=>s' = {s with heap:=((s.heap.update a (yU λ_=>(#[]:Array yb))).push (Yp "tuple" vs.toArray 0)).push (Yp "list" #[] 0)}/\∃p:Array Nat,arrOf st'=p.map (kas_item (pairsOf vs))/\failedOf st'=none/\Pm vs.length p/\Up f p vs.length)
  (G:=λp s'=>s' = {s with heap:=((s.heap.update a (yU λ_=>(#[]:Array yb))).push (Yp "tuple" vs.toArray 0)).push (Yp "list" #[] 0)}/\Pm vs.length p/\Up f p vs.length)
  h2 h64 (λp' st' s' a1 a2 a3 a4=>⟨a4.1,p',a2,a3,a4.2⟩)
  (Good.wp (I:=λs'=>s' = {s with heap:=((s.heap.update a (yU λ_=>(#[]:Array yb))).push (Yp "tuple" vs.toArray 0)).push (Yp "list" #[] 0)}) (λi j C s' hi hj hij hs hC=>by
   subst hs;unfold kas_cmp;rw[kas_item_eq,kas_item_eq];obtain⟨t,a1,ot,w1,m1,items,n1,ns,e,b1,b2,b3,b4,b5⟩:=T i hi;obtain⟨t',a1',ot',w1',m1',items',n1',ns',e',b1',b2',b3',b4',b5'⟩:=T j hj;show yo _ _ (keyLt' (tuples' true) (vs.getD i .none) (vs.getD j .none)) _ _ _;rw[e,e'];exact zNq hu b1 b3 b1' b3' b4 b4' b5 b5' (λz=>hij (hf i j hi hj z)) (hC _ rfl)) (λp s' hp hs=>⟨hs,hp⟩) (kas_sort vs.length) _ (zsq hf h2) rfl)
 rw[<-est]at run;refine ya (YU run ?_ λ_ _ e=>e);rintro⟨⟨⟩,st'⟩ s' ⟨rfl,p,har,hfl,hp,hup⟩;dsimp only
 have hout:(arrOf st').map (·.2)=List.toArray (p.toList.map λi=>vs.getD i YE):=by
  apply Array.toList_inj.mp;rw[har,Array.map_map,Array.toList_map];exact map_congr_left λi _=>by show(kas_item (pairsOf vs) i).2=_;rw[kas_item_eq]
 have hsz:(List.toArray (p.toList.map λi=>vs.getD i YE)).size=vs.length:=by rw[size_toArray,length_map,xC,hp.sz]
 rw[hout];refine ya (seqEpoch_at ho3 rfl ?_);refine ya (listUpdate_at ho3 rfl ?_ (yR _) (yA (Nat.le_of_eq hsz) (by rw[yY];omega)));rw[hfl];simp only[bne_self_eq_false,YV,if_false];exact yf (h p hp hup)
end
end M
namespace M
open PySem PySem.W PyProof.Rows
section
variable {prog:yy}{w:yH}{A:yN}{E:yb->yc->Prop}{s:yc}
def zfq{a:yg}{vs:List yb}{n:Nat}{P:Fin->yc->Prop}(ho:s.heap.get? a=some (Yp "list" vs.toArray n))(h2:vs.length<2)
 (h:P (.done (.ret .none)) {s with heap:=sortedHeap s.heap a vs vs.toArray }):yo (yx prog w) A (YY.«list.sort» ⟨[.ref a],[]⟩) P E s:=by
 obtain⟨e1,ho1⟩:∃e1,(s.heap.update a (yU λ_=>(#[]:Array yb))).get? a=some (Yp "list" #[] e1):=⟨_,get?_update_seq ho λ_=>#[]⟩
 have ho3:(((s.heap.update a (yU λ_=>(#[]:Array yb))).push (Yp "tuple" vs.toArray 0)).push (Yp "list" #[] 0)).get? a=some (Yp "list" #[] e1):=ye _ (ye _ ho1);rw[list_sort_plain];refine ya (Xh ho rfl ?_);refine ya (listUpdate_at ho rfl ?_ (by rw[size_toArray,yY];omega) (yR _));refine ya (seqEpoch_at ho1 rfl ?_);refine ya (wpAny_newTuple ?_ (by show vs.length<=_;rw[yY];omega));refine ya (wpAny_newList ?_ (yR _));refine yP ?_;show yo (yx prog w) A _ P E {s with heap:=((s.heap.update a (yU λ_=>(#[]:Array yb))).push (Yp "tuple" vs.toArray 0)).push (Yp "list" #[] 0)};dsimp only;have hn2:vs.toArray.size<2:=by rw[size_toArray];omega
 rw[if_pos hn2,if_pos hn2];refine ya (yf ?_);refine ya (yf ?_);dsimp only
 have hout:(arrOf (SortSt.mk' general' (vs.toArray.zip vs.toArray) #[] 7 none)).map (·.2)=vs.toArray:=by
  show(vs.toArray.zip vs.toArray).map (·.2)=vs.toArray;apply Array.toList_inj.mp;rw[Array.toList_map,Array.toList_zip];exact List.map_snd_zip (by simp)
 rw[hout];refine ya (seqEpoch_at ho3 rfl ?_);refine ya (listUpdate_at ho3 rfl ?_ (yR _) (by rw[size_toArray,yY];omega));simp only[bne_self_eq_false,YV,if_false];exact yf h
structure TupS(vs out:List yb)(f:Nat->Int):Prop where
 ex:∃p:List Nat,p.Perm (yi vs.length)/\out=p.map (λi=>vs.getD i .none)/\(p.map f).Pairwise (·<=·)
def TupS.of{vs:List yb}{f:Nat->Int}{p:Array Nat}(hp:Pm vs.length p)(hu:Up f p vs.length):TupS vs (p.toList.map λi=>vs.getD i .none) f:=by
 refine⟨p.toList,hp.pm,rfl,?_⟩;rw[pairwise_map,List.pairwise_iff_getElem];intro i j hi hj hij;have hi':i<p.size:=by simpa using hi
 have hj':j<p.size:=by simpa using hj
 have:=hu i j (by omega) (by rw[<-hp.sz];exact hj');unfold gp at this;simpa[Xb,hi',hj'] using this
def zOp{l:yg}{vs:List yb}{f:Nat->Int}{Q:yb->yc->Prop}(hu:A.units+67<cLine)(hl:s.heap.IsList l vs.toArray)(h64:vs.length<64)(hf:∀i j,i<vs.length->j<vs.length->f i=f j->i=j)(hv:∀i,i<vs.length->zdr s.heap (vs.getD i .none) (f i))
 (h:∀out:List yb,TupS vs out f->Q (.ref (s.heap.objs.size+1)) {s with heap:=sortedAll s.heap vs out.toArray }) :
 yo (yx prog w) A (call (.builtin "sorted") [.ref l]) Q E s:=by
 refine Calls.call_function_entry kind_sorted plain_sorted entry_sorted (args_sorted1 _) ?_;unfold YY.«sorted»;refine ya (m:=checkCount "sorted" 1 1 _) (yf ?_);refine ya (collect_list hl ?_ (by rw[yY];omega));refine ya (wpAny_newList ?_ (by rw[yY];omega))
 have hsz:((s.heap.push (Yp "list" #[] 0)).update s.heap.objs.size (yU (· ++ vs.toArray))).objs.size=s.heap.objs.size+1:=by
  rw[Heap.size_update,size_push']
 have hoL:(((s.heap.push (Yp "list" #[] 0)).update s.heap.objs.size (yU (· ++ vs.toArray))).push (Yp "list" vs.toArray 0)).get? (s.heap.objs.size+1)=some (Yp "list" vs.toArray 0):=by
  rw[<-hsz];exact yn _ rfl
 have keep:∀b o,s.heap.get? b=some o->(((s.heap.push (Yp "list" #[] 0)).update s.heap.objs.size (yU (· ++ vs.toArray))).push (Yp "list" vs.toArray 0)).get? b=some o:=λb o q=>by
  have hlt:b<s.heap.objs.size:=ym q;rw[Heap.get?_push_ne _ _ _ (by rw[hsz];exact yt (yX hlt)),Heap.get?_update_ne _ _ _ _ (yt hlt),Heap.get?_push_ne _ _ _ (yt hlt)];exact q
 show yo _ _ _ _ _ {s with heap:=((s.heap.push (Yp "list" #[] 0)).update s.heap.objs.size (yU (· ++ vs.toArray))).push (Yp "list" vs.toArray 0)};rw[hsz];refine ya (yP (yQ slot_list_sort ⟨_,hoL,rfl⟩ entry_list_sort ?_ (args_list_sort _)))
 by_cases h2:2<=vs.length
 ·refine zdt (s:={s with heap:=((s.heap.push (Yp "list" #[] 0)).update s.heap.objs.size (yU (· ++ vs.toArray))).push (Yp "list" vs.toArray 0)}) (by show A.units+1+1+65<cLine;omega) hoL h2 h64 hf (λh' k i hi=>?_) λp hp hup=>⟨_,rfl,?_⟩
  ·obtain⟨t,a,ot,w',m,items,n,ns,e,b1,b2,b3,b4,b5⟩:=hv i hi;have n1:t≠s.heap.objs.size+1:=by have:=ym b1;exact yt (yX this)
   have n2:a≠s.heap.objs.size+1:=by have:=ym b4;exact yt (yX this)
   exact⟨t,a,ot,w',m,items,n,ns,e,k _ _ n1 (keep _ _ b1),b2,b3,k _ _ n2 (keep _ _ b4),b5⟩
  ·exact yf ⟨_,rfl,h _ (TupS.of hp hup)⟩
 ·refine zfq (s:={s with heap:=((s.heap.push (Yp "list" #[] 0)).update s.heap.objs.size (yU (· ++ vs.toArray))).push (Yp "list" vs.toArray 0)}) hoL (by omega) ⟨_,rfl,?_⟩;refine yf ⟨_,rfl,h vs ⟨yi vs.length,List.Perm.refl _,?_,?_⟩⟩
  ·refine ext_getElem? λi=>?_;rw[yh]
   by_cases hi:i<vs.length
   ·rw[yd hi,yZ hi];simp[getD_eq_getElem?_getD,yd hi]
   ·rw[yK (by omega),yK (by simp;omega)];rfl
  ·rw[pairwise_map];refine xB (λ{a b} ha hb hab=>?_) List.pairwise_lt_range;have:=List.mem_range.mp ha;have:=List.mem_range.mp hb;omega
end
end M
namespace M
open PySem PySem.Spec PyProof.Rows L2
def zMm(μ:Mem):D->Option Int
 |.tup [.loc a,_]=>match μ[a]? with
  |some (.lst (.int x::r))=>(zIj r).map λ_=>x
  |_=>none
 |_=>none
def zLj(xs:List D)(hs:List Int):List D:=((xs.zip hs).mergeSort λp q=>decide (p.2<=q.2)).map (·.1)
def zkl:GL:=λds μ=>match ds with
 |[.loc n]=>match μ[n]? with
  |some (.lst xs)=>(xs.mapM (zMm μ)).bind λhs=>bif decide (xs.length<64/\hs.Nodup) then some (.loc μ.length,μ++[.lst (zLj xs hs)]) else none
  |_=>none
 |_=>none
def zmp{α β:Type}{f:α->Option β}:∀{xs:List α} {ys:List β},xs.mapM f=some ys->xs.length=ys.length/\∀(i:Nat)(x:α),xs[i]?=some x->∃y,ys[i]?=some y/\f x=some y
 |[],ys,h=>by
  cases (show some []=some ys from h);exact⟨rfl,λi x e=>by simp at e⟩
 |a::xs,ys,h=>by
  rw[mapM_cons]at h;obtain⟨b,e1,h⟩:=zf h;obtain⟨r,e2,h⟩:=zf h;cases h;obtain⟨h1,h2⟩:=zmp (show xs.mapM f=some r from e2);refine⟨by simp[h1],λi x e=>?_⟩
  cases i with
  |zero=>cases e;exact⟨b,rfl,e1⟩
  |succ i=>exact h2 i x (by simpa using e)
def zcr{xs:List D}{hs:List Int}{p:List Nat}(hl:xs.length=hs.length)(nd:hs.Nodup)(hp:p.Perm (yi xs.length))(hu:(p.map λi=>hs.getD i 0).Pairwise (·<=·)):(p.map λi=>xs.getD i .non)=zLj xs hs:=by
 have hz:(yi xs.length).map (λi=>(xs.getD i .non,hs.getD i 0))=xs.zip hs:=by
  refine ext_getElem? λi=>?_;rw[yh]
  by_cases hi:i<xs.length
  ·have hi2:i<hs.length:=by omega
   have ez:(xs.zip hs)[i]?=some (xs[i],hs[i]):=List.getElem?_zip_eq_some.mpr ⟨yd hi,yd hi2⟩;rw[yZ hi,ez];simp[getD_eq_getElem?_getD,yd hi,yd (show i<hs.length by omega)]
  ·rw[yK (by simp;omega),yK (by simp;omega)];rfl
 have p1:(p.map λi=>(xs.getD i .non,hs.getD i 0)).Perm (xs.zip hs):=by rw[<-hz];exact hp.map _
 have p2:(p.map λi=>(xs.getD i .non,hs.getD i 0)).Perm ((xs.zip hs).mergeSort λp q=>decide (p.2<=q.2)):=p1.trans (mergeSort_perm _ _).symm
 have o2:((xs.zip hs).mergeSort λp q=>decide (p.2<=q.2)).Pairwise λa b=>a.2<=b.2:=by
  have:=List.pairwise_mergeSort (le:=λp q:D×Int=>decide (p.2<=q.2)) (λa b c h1 h2=>by simp at h1 h2 ⊢;omega) (λa b=>by simp;omega) (xs.zip hs);exact this.imp λh=>by simpa using h
 have o1:(p.map λi=>(xs.getD i .non,hs.getD i 0)).Pairwise λa b=>a.2<=b.2:=by
  rw[pairwise_map];rw[pairwise_map]at hu;exact hu
 have e:(p.map λi=>(xs.getD i .non,hs.getD i 0))=((xs.zip hs).mergeSort λp q=>decide (p.2<=q.2)):=by
  refine p2.eq_of_pairwise (λa b ha hb h1 h2=>?_) o1 o2;have ha:=p1.mem_iff.mp ha;have hb:=(mergeSort_perm _ _).mem_iff.mp hb;obtain⟨i,hi⟩:=List.mem_iff_getElem?.mp ha;obtain⟨j,hj⟩:=List.mem_iff_getElem?.mp hb;obtain⟨i1,i2⟩:=List.getElem?_zip_eq_some.mp hi;obtain⟨j1,j2⟩:=List.getElem?_zip_eq_some.mp hj;have hij:i=j:=(List.getElem?_inj (List.getElem?_eq_some_iff.mp i2).1 nd).mp (by rw[i2,j2,Int.le_antisymm h1 h2]);subst hij;rw[i1]at j1;rw[i2]at j2;exact Prod.ext (yS j1) (yS j2)
 unfold zLj;rw[<-e,map_map];rfl
def zdp{K:yz}{Z:List yg}{H:Hp}{xs:List D}{vs:List V}(r:tf K Z H xs vs):∀(p:List Nat),(∀i∈p,i<xs.length)->tf K Z H (p.map λi=>xs.getD i .non) (p.map λi=>vs.getD i .non)
 |[],_ =>.nil
 |i::p,h=>by
  have hi:=h i (.head _);obtain⟨v,ev,rv⟩:=r.get (yd hi);refine .cons ?_ (zdp r p λj hj=>h j (.tail _ hj));show tu K Z H (xs.getD i .non) (vs.getD i .non);rw[getD_eq_getElem?_getD,yd hi,getD_eq_getElem?_getD,ev];exact rv
def zgn{vs:List V}{us:List yb}(r:Vals vs us):∀(p:List Nat),(∀i∈p,i<vs.length)->Vals (p.map λi=>vs.getD i .non) (p.map λi=>us.getD i .none)
 |[],_ =>.nil
 |i::p,h=>by
  have hi:=h i (.head _);obtain⟨u,eu,ru⟩:=r.get (yd hi);refine .cons ?_ (zgn r p λj hj=>h j (.tail _ hj));show RelV (vs.getD i .non) (us.getD i .none);rw[getD_eq_getElem?_getD,yd hi,getD_eq_getElem?_getD,eu];exact ru
section
variable {X:Cx}
def z6n(hu:X.A.units+67<cLine):tQ X (.builtin "sorted") zkl:=by
 refine tQ.of λU s Y H xs us Q I r Z ds μ d μ' r1 R e k=>?_;unfold zkl at e
 split at e
 ·split at e
  ·rename_i n _ xs hm
   obtain⟨hs,e2,e⟩:=zf e;obtain⟨hp,e⟩:=zI e;have hp:=of_decide_eq_true hp;cases e;obtain⟨v,rr,rfl,q1,q2⟩:=r1.cons_inv;obtain⟨a,rfl,ea⟩:=q1.tz;obtain⟨vs,e3,q3⟩:=R.at_ _ _ _ ea hm;rw[q2.nil_inv]at r;obtain⟨u,rfl,ru⟩:=vals1 r;cases ru;obtain⟨its,rv,pl,hz⟩:=I.list (SqL.of (K:=X.K) e3);have hl1:xs.length=vs.length:=q3.length;have hl2:vs.length=its.length:=rv.length;obtain⟨hl3,hget⟩:=zmp e2
   have hT:∀i,i<its.length->zdr s.heap (its.getD i .none) (hs.getD i 0):=λi hi=>by
    obtain⟨x,ex⟩:∃x,xs[i]?=some x:=⟨_,yd (by omega)⟩
    obtain⟨y,ey,hy⟩:=hget i x ex;obtain⟨v,ev,rv'⟩:=q3.get ex;obtain⟨w,ew,rw'⟩:=rv.get ev;rw[getD_eq_getElem?_getD,ew,getD_eq_getElem?_getD,ey];show zdr s.heap w y;unfold zMm at hy
    split at hy
    ·rename_i b z
     split at hy
     ·rename_i x0 r0 hb
      obtain⟨ns,en,hy⟩:=Option.map_eq_some_iff.mp hy;cases hy;obtain⟨t,ys,rfl,ht,ry⟩:=rv'.tR;obtain⟨z1,rz1,rfl,k1,ry⟩:=ry.cons_inv;obtain⟨z2,rz2,rfl,k2,ry⟩:=ry.cons_inv;rw[ry.nil_inv]at ht;obtain⟨b',rfl,eb⟩:=k1.tz;cases rw';obtain⟨_,jts,rj,hj⟩:=(show tH X.prog X.w H s.heap t (.tup [.ref b',z2]) from I.hok t _ ht)
      cases rj with
      |cons c1 rj=>
       cases rj with
       |cons c2 rj=>
        cases rj;cases c1
        rename_i c2v
        obtain⟨ot,g1,g2,m,g3⟩:=hj;obtain⟨ws,hw,rws⟩:=R.at_ _ _ _ eb hb;have er:(D.int y::r0)=((y::ns).map D.int):=by rw[zBe en];rfl
        rw[er]at rws;rw[z4f rws]at hw;obtain⟨_,kts,kn,rk,hk⟩:=(show tH X.prog X.w H s.heap b' (.lst ((y::ns).map V.int)) from I.hok b' _ hw)
        exact⟨t,b',ot,c2v,m,kts.toArray,kn,ns,rfl,g1,g2,g3,hk,by simpa using zLe rk⟩
     ·cases hy
    ·cases hy
   have hinj:∀i j,i<its.length->j<its.length->hs.getD i 0=hs.getD j 0->i=j:=λi j hi hj e=>by
    have h1:i<hs.length:=by omega
    have h2:j<hs.length:=by omega
    rw[getD_eq_getElem?_getD,getD_eq_getElem?_getD,yd h1,yd h2]at e;exact(List.getElem?_inj h1 hp.2).mp (by rw[yd h1,yd h2];exact congrArg some e)
   refine zOp hu pl.isList (by omega) hinj hT λout ⟨p,pp,eo,pu⟩=>?_;obtain⟨e0,he⟩:=sortedAll_at s.heap its out.toArray;have hf:=I.hok.fresh (xJ s.heap.objs.size);have hpi:∀i∈p,i<its.length:=λi hi=>List.mem_range.mp (pp.mem_iff.mp hi);have hpl:p.length=its.length:=by rw[pp.length_eq,length_range]
   have eb:(p.map λi=>xs.getD i .non)=zLj xs hs:=zcr hl3 hp.2 (by rw[hl1,hl2];exact pp) pu;have x2:Ext Z H (Z++[s.heap.objs.size+1]) (upd H (s.heap.objs.size+1) (.lst (p.map λi=>vs.getD i .non))):=Ext.push hf;refine⟨.ref (s.heap.objs.size+1),_,I.laid (t':=s.toks) (o:=.lst (p.map λi=>vs.getD i .non)) (λ_ _=>sortedAll_old) (xJ _) ?_,rfl,k _ _ _ x2 (R.push hf ⟨_,zx,?_⟩) (.loc (zIb R))⟩
   ·refine⟨by rw[length_map,yY];omega,out,e0,?_,by simpa using he⟩;rw[eo];exact zgn rv p λi hi=>by have:=hpi i hi;omega
   ·rw[<-eb];exact tf.ext x2 (zdp q3 p λi hi=>by have:=hpi i hi;omega)
  ·cases e
 ·cases e
end
end M
def L2.Th.u67{k:Nat}{A:PySem.Around}(r:L2.Th k A):A.units+67<PySem.cLine:=by have:=r.un;omega
namespace M
open PySem PySem.Spec PyProof.Rows L2
@[simp] theorem zey{α:Type}(l:List α):(l.all λ_=>true)=true:=by simp
def zkv{μ g:Mem}{n:Nat}(h:n<μ.length):(μ++g)[n]?=μ[n]?:=yw h
def zB{μ g:Mem}{n:Nat}{o:tD}(h:μ[n]?=some o):(μ++g)[n]?=some o:=by
 rw[zkv (List.getElem?_eq_some_iff.mp h).1];exact h
def zew{K:yz}{F:FF}{H:Hp}{a:yg}{ns:List Int}(hF:∃μ',F [.fz (ns.map D.int)] []=some (.bl true,μ'))(hO:zcx H)(hS:SqL K H a (ns.map V.int)):spM K 1 F [.ref a] H (λv _=>v=.bl true) λ_ _ _=>False:=by
 obtain⟨μ',e⟩:=hF
 have fz:FzL K H a (ns.map V.int):=by
  rcases hS with (h|⟨o,h⟩)|h
  ·rcases hO a with z|⟨o,xs,z⟩
   ·rw[h]at z;cases z
   ·rw[h]at z;cases z
  ·exact .inl ⟨o,h⟩
  ·exact .inr h
 have hints:∀ns:List Int,tf K [] H (ns.map D.int) (ns.map V.int):=λns=>by
  induction ns with
  |nil=>exact .nil
  |cons i r ih=>exact .cons .int ih
 exact⟨rfl,[],[.fz (ns.map D.int)],[],.bl true,μ',.cons (.fz fz (hints ns)) .nil,⟨List.nodup_nil,rfl,λn a o h1 _=>by simp at h1⟩,e,λZ' H' v _ _ r=>r.tK⟩
structure WE(G:FE)(J:Loc)(μ:Mem)(Q:D->Mem->Prop):Prop where
 ex:∃d μ',G J μ=some (d,μ')/\Q d μ'
structure WT(G:FT)(J:Loc)(μ:Mem)(Q:Bool->Mem->Prop):Prop where
 ex:∃d μ',G J μ=some (d,μ')/\Q d μ'
structure WA(G:FA)(J:Loc)(μ:Mem)(Q:List D->Mem->Prop):Prop where
 ex:∃d μ',G J μ=some (d,μ')/\Q d μ'
structure WO(G:FO)(J:Loc)(μ:Mem)(Q:Option Int->Mem->Prop):Prop where
 ex:∃d μ',G J μ=some (d,μ')/\Q d μ'
structure W2(g:φ2)(x y:D)(μ:Mem)(Q:D->Mem->Prop):Prop where
 ex:∃d μ',g x y μ=some (d,μ')/\Q d μ'
structure WF(F:FF)(ds:List D)(μ:Mem)(Q:D->Mem->Prop):Prop where
 ex:∃d μ',F ds μ=some (d,μ')/\Q d μ'
structure WM(g:GM)(x:D)(ds:List D)(μ:Mem)(Q:D->Mem->Prop):Prop where
 ex:∃d μ',g x ds μ=some (d,μ')/\Q d μ'
structure WI(i:FI)(J:Loc)(μ:Mem)(Q:List D->(Mem->Bool)->Mem->Prop):Prop where
 ex:∃ds ok μ',i J μ=some (ds,ok,μ')/\Q ds ok μ'
structure WG(g:FG)(d:D)(J:Loc)(μ:Mem)(Q:Loc->Mem->Prop):Prop where
 ex:∃J' μ',g d J μ=some (J',μ')/\Q J' μ'
structure WGs(g:FGs)(ds:List D)(J:Loc)(μ:Mem)(Q:Loc->Mem->Prop):Prop where
 ex:∃J' μ',g ds J μ=some (J',μ')/\Q J' μ'
structure WL(g:FG)(c:FT)(G:FE)(ok:Mem->Bool)(J:Loc)(xs ys:List D)(μ:Mem)(Q:D->Mem->Prop):Prop where
 ex:∃d μ',zms g c G ok J xs ys μ=some (d,μ')/\Q d μ'
def Ek(nx:Loc->Mem->Prop)(rt:D->Mem->Prop)(bk ct:Loc->Mem->Prop):Out->Prop
 |.next J μ=>nx J μ
 |.ret d μ=>rt d μ
 |.brk J μ=>bk J μ
 |.cont J μ=>ct J μ
 |.exc _ _ _=>False
structure WS(ψ:FS)(J:Loc)(μ:Mem)(nx:Loc->Mem->Prop)(rt:D->Mem->Prop)(bk ct:Loc->Mem->Prop):Prop where
 ex:∃o,ψ J μ=some o/\Ek nx rt bk ct o
structure WFor(g:FG)(body:FS)(ok:Mem->Bool)(xs:List D)(J:Loc)(μ:Mem)(nx:Loc->Mem->Prop)(rt:D->Mem->Prop):Prop where
 ex:∃o,z6h g body ok xs J μ=some o/\Ek nx rt (λ_ _=>False) (λ_ _=>False) o
def tw(μ μ':Mem):Prop:=∀(n:Nat)(o:tD),μ[n]?=some o->μ'[n]?=some o
def tw.refl{μ:Mem}:tw μ μ:=λ_ _ h=>h
def tw.trans{μ μ1 μ2:Mem}(a:tw μ μ1)(b:tw μ1 μ2):tw μ μ2:=λn o h=>b n o (a n o h)
def tw.app{μ g:Mem}:tw μ (μ++g):=λ_ _ h=>zB h
def tw.to{μ μ1 g:Mem}(a:tw μ μ1):tw μ (μ1++g):=a.trans .app
def tw.len{μ μ':Mem}(a:tw μ μ'):μ.length<=μ'.length:=by
 rcases Nat.lt_or_ge μ'.length μ.length with h|h
 ·have:=a μ'.length μ[μ'.length] (by simp[h]);simp at this
 ·exact h
def zt{μ:Mem}{o:tD}:(μ++[o])[μ.length]?=some o:=by simp
def zC{μ:Mem}{n:Nat}{o:tD}(h:μ[n]?=some o):n<μ.length:=(List.getElem?_eq_some_iff.mp h).1
def zS{μ:Mem}{n m:Nat}{o o':tD}(h:μ[n]?=some o)(hne:m≠n):(μ.set m o')[n]?=some o:=by
 rw[Yk hne];exact h
def zN{μ:Mem}{n:Nat}{o o':tD}(h:μ[n]?=some o):(μ.set n o')[n]?=some o':=by
 rw[Yz (zC h)]
def zq{μ:Mem}{n:Nat}{ds:List D}(h:μ[n]?=some (.lst ds)):items μ (.loc n)=some ds:=by simp[h]
section
variable {G ψ χ:FE}{g g2:φ2}{J:Loc}{μ:Mem}{Q:D->Mem->Prop}{i j:Int}{d x y:D}{ds xs:List D}
def WE.mono{Q':D->Mem->Prop}(h:WE G J μ Q)(k:∀d μ',Q d μ'->Q' d μ'):WE G J μ Q':=let ⟨d,μ',e,q⟩:=h;⟨d,μ',e,k d μ' q⟩
def zc{n:Nat}(h:J[n]?=some (some d))(q:Q d μ):WE (zh n) J μ Q:=⟨d,μ,by simp[h],q⟩
def w_c(q:Q d μ):WE (fC d) J μ Q:=⟨d,μ,rfl,q⟩
def zl(h:WE G J μ λx μ1=>WE ψ J μ1 λy μ2=>W2 g x y μ2 Q):WE (zu g G ψ) J μ Q:=by
 obtain⟨x,μ1,e1,y,μ2,e2,d,μ3,e3,q⟩:=h;exact⟨d,μ3,by simp[e1,e2,e3],q⟩
def zpt(h:WE G J μ λx μ1=>∃b,x=.bl b/\(b=true->WE ψ J μ1 Q)/\(b=false->Q (.bl false) μ1)):WE (zMv G ψ) J μ Q:=by
 obtain⟨x,μ1,e1,b,rfl,h1,h2⟩:=h
 cases b with
 |true=>obtain⟨d,μ2,e2,q⟩:=h1 rfl;exact⟨d,μ2,by simp[e1,e2],q⟩
 |false=>exact⟨_,μ1,by simp[e1],h2 rfl⟩
def zby(h:WE G J μ λx μ1=>∃b,x=.bl b/\(b=false->WE ψ J μ1 Q)/\(b=true->Q (.bl true) μ1)):WE (fOr G ψ) J μ Q:=by
 obtain⟨x,μ1,e1,b,rfl,h1,h2⟩:=h
 cases b with
 |false=>obtain⟨d,μ2,e2,q⟩:=h1 rfl;exact⟨d,μ2,by simp[e1,e2],q⟩
 |true=>exact⟨_,μ1,by simp[e1],h2 rfl⟩
def w_not(h:WE G J μ λx μ1=>∃b,x=.bl b/\Q (.bl (!b)) μ1):WE (zzy G) J μ Q:=by
 obtain⟨x,μ1,e1,b,rfl,q⟩:=h;exact⟨_,μ1,by simp[e1],q⟩
def zGx(h:WE G J μ λx μ1=>∃i,x=.int i/\Q (.int (-i)) μ1):WE (zNy G) J μ Q:=by
 obtain⟨x,μ1,e1,b,rfl,q⟩:=h;exact⟨_,μ1,by simp[e1],q⟩
def zxg{α:FA}(h:WA α J μ λds μ1=>Q (.tup ds) μ1):WE (zik α) J μ Q:=by
 obtain⟨x,μ1,e1,q⟩:=h;exact⟨_,μ1,by simp[e1],q⟩
def zKg{α:FA}(h:WA α J μ λds μ1=>Q (.loc μ1.length) (μ1++[.lst ds])):WE (zDk α) J μ Q:=by
 obtain⟨x,μ1,e1,q⟩:=h;exact⟨_,_,by simp[e1]<;>rfl,q⟩
def z9v(h:Q (.loc μ.length) (μ++[.dct []])):WE zPx J μ Q:=⟨_,_,rfl,h⟩
def zhy{lo hi:FO}(h:WE G J μ λx μ1=>WO lo J μ1 λl μ2=>WO hi J μ2 λu μ3=>∃ds,x=.tup ds/\Q (.tup (cutD ds l u)) μ3):WE (fSl G lo hi) J μ Q:=by
 obtain⟨x,μ1,e1,l,μ2,e2,u,μ3,e3,ds,rfl,q⟩:=h;exact⟨_,_,by simp[e1,e2,e3]<;>rfl,q⟩
def zat{R:Option Int->Mem->Prop}(q:R none μ):WO pNo J μ R:=⟨_,_,rfl,q⟩
def zLo{R:Option Int->Mem->Prop}(h:WE G J μ λx μ1=>∃i,x=.int i/\R (some i) μ1):WO (zzv G) J μ R:=by
 obtain⟨x,μ1,e1,i,rfl,q⟩:=h;exact⟨_,_,by simp[e1]<;>rfl,q⟩
def zi{F:FF}{α:FA}(h:WA α J μ λds μ1=>WF F ds μ1 Q):WE (zo F α) J μ Q:=by
 obtain⟨ds,μ1,e1,d,μ2,e2,q⟩:=h;exact⟨d,μ2,by simp[e1,e2],q⟩
def zTg{m:GM}{α:FA}(h:WE G J μ λx μ1=>∃n xs,x=.loc n/\μ1[n]?=some (.lst xs)/\WA α J μ1 λds μ2=>WM m (.loc n) ds μ2 Q):WE (ztf m G α) J μ Q:=by
 obtain⟨x,μ1,e1,n,xs,rfl,e2,ds,μ2,e3,d,μ3,e4,q⟩:=h;exact⟨d,μ3,by simp[e1,e2,e3,e4],q⟩
def zrk{n:Nat}{fr:List Nat}{it:FI}{tg:FG}{c:FT}(h:WI it J μ λds ok μ1=>few ds=true/\WL tg c G ok (δC n fr J) ds [] μ1 Q):WE (fLC n fr it tg c G) J μ Q:=by
 obtain⟨ds,ok,μ1,e1,hf,d,μ2,e2,q⟩:=h;exact⟨d,μ2,by unfold fLC;simp only[e1,yp,hf,cond_true];exact e2,q⟩
def z9t(h:WE G J μ λx μ1=>∃n ns,x=.loc n/\μ1[n]?=some (.lst (ns.map .int))/\ns.length<=4000/\(uqL ns).length<64/\Q (.loc μ1.length) (μ1++[.lst ((zPs ns).map .int)])):WE (z2p G) J μ Q:=by
 obtain⟨x,μ1,e1,n,ns,rfl,e2,h1,h2,q⟩:=h;exact⟨_,_,by simp[z2p,e1,e2,h1,h2]<;>rfl,q⟩
def zJ{R:Bool->Mem->Prop}(h:WE G J μ λx μ1=>∃b,x=.bl b/\R b μ1):WT (z5 G) J μ R:=by
 obtain⟨x,μ1,e1,b,rfl,q⟩:=h;exact⟨_,_,by simp[e1]<;>rfl,q⟩
def zar{c e:FT}{R:Bool->Mem->Prop}(h:WT c J μ λb μ1=>(b=true->WT e J μ1 R)/\(b=false->R false μ1)):WT (zEr c e) J μ R:=by
 obtain⟨b,μ1,e1,h1,h2⟩:=h
 cases b with
 |true=>obtain⟨d,μ2,e2,q⟩:=h1 rfl;exact⟨d,μ2,by simp[e1,e2],q⟩
 |false=>exact⟨_,μ1,by simp[e1],h2 rfl⟩
def z2l{c e:FT}{R:Bool->Mem->Prop}(h:WT c J μ λb μ1=>(b=false->WT e J μ1 R)/\(b=true->R true μ1)):WT (zNs c e) J μ R:=by
 obtain⟨b,μ1,e1,h1,h2⟩:=h
 cases b with
 |false=>obtain⟨d,μ2,e2,q⟩:=h1 rfl;exact⟨d,μ2,by simp[e1,e2],q⟩
 |true=>exact⟨_,μ1,by simp[e1],h2 rfl⟩
def zBo{c:FT}{R:Bool->Mem->Prop}(h:WT c J μ λb μ1=>R (!b) μ1):WT (z7q c) J μ R:=by
 obtain⟨b,μ1,e1,q⟩:=h;exact⟨_,_,by simp[e1]<;>rfl,q⟩
def zTr{R:Bool->Mem->Prop}(q:R true μ):WT zqk J μ R:=⟨_,_,rfl,q⟩
def zk{R:List D->Mem->Prop}(q:R [] μ):WA zy J μ R:=⟨_,_,rfl,q⟩
def zb{α:FA}{R:List D->Mem->Prop}(h:WE G J μ λx μ1=>WA α J μ1 λxs μ2=>R (x::xs) μ2):WA (ze G α) J μ R:=by
 obtain⟨x,μ1,e1,xs,μ2,e2,q⟩:=h;exact⟨_,_,by simp[e1,e2]<;>rfl,q⟩
def zsf(q:Q (.int (i+j)) μ):W2 z2f (.int i) (.int j) μ Q:=⟨_,_,rfl,q⟩
def z3t{as bs:List D}(h:as.length+bs.length<=1000000)(q:Q (.tup (as++bs)) μ):W2 z2f (.tup as) (.tup bs) μ Q:=⟨_,_,by simp[h]<;>rfl,q⟩
def zEv(q:Q (.int (i-j)) μ):W2 zav (.int i) (.int j) μ Q:=⟨_,_,rfl,q⟩
def zen(h:zPj i j=true)(q:Q (.int (i*j)) μ):W2 zNi (.int i) (.int j) μ Q:=⟨_,_,by simp[zNi,h]<;>rfl,q⟩
def zSl(h:0<j)(q:Q (.int (i%j)) μ):W2 zTn (.int i) (.int j) μ Q:=⟨_,_,by simp[h]<;>rfl,q⟩
def zEt(h:0<j)(h':j<1606938044258990275541962092341162602522202993782792835301376)(q:Q (.int (i / j)) μ):W2 znv (.int i) (.int j) μ Q:=⟨_,_,by simp[h,h']<;>rfl,q⟩
def z5v(h:0<=j)(h1:j<=100000)(h2:i.natAbs<1606938044258990275541962092341162602522202993782792835301376)(q:Q (.int (i^j.toNat)) μ):W2 zCv (.int i) (.int j) μ Q:=⟨_,_,by simp only[zCv];rw[decide_eq_true ⟨h,h1,h2⟩];rfl,q⟩
def z0l{r:Int->Int->Bool}(q:Q (.bl (r i j)) μ):W2 (zyn r) (.int i) (.int j) μ Q:=⟨_,_,rfl,q⟩
def z5c(h:items μ x=some xs)(h2:atI xs i=some d)(q:Q d μ):W2 gIx x (.int i) μ Q:=⟨_,_,by show((items μ x).bind λds=>(atI ds i).bind λd=>some (d,μ))=_;rw[h,yp,h2,yp],q⟩
def z9h(q:Q (.bl (i==j)) μ):W2 gEq (.int i) (.int j) μ Q:=⟨_,_,by simp[gEq,toP,Yu]<;>rfl,q⟩
def zrx(q:Q (.bl (!(i==j))) μ):W2 gNe (.int i) (.int j) μ Q:=⟨_,_,by simp[gNe,toP,Yu]<;>rfl,q⟩
def zdx{p p':Xa}(h1:toP μ 8 x=some p)(h2:toP μ 8 y=some p')(q:Q (.bl (Yu p p')) μ):W2 gEq x y μ Q:=⟨_,_,by simp[gEq,h1,h2]<;>rfl,q⟩
def zzx{p p':Xa}(h1:toP μ 8 x=some p)(h2:toP μ 8 y=some p')(q:Q (.bl (!PyData.eqv p p')) μ):W2 gNe x y μ Q:=⟨_,_,by simp[gNe,h1,h2]<;>rfl,q⟩
def zLx{a b:Bool}(q:Q (.bl (a==b)) μ):W2 gIs (.bl a) (.bl b) μ Q:=⟨_,_,rfl,q⟩
def zBs{a b:Bool}(q:Q (.bl (a != b)) μ):W2 zNf (.bl a) (.bl b) μ Q:=⟨_,_,rfl,q⟩
def zUy(h:items μ y=some xs)(h1:zDc x=true)(h2:xs.all zDc=true)(q:Q (.bl (xs.any λd=>eqF d x)) μ):W2 gIn x y μ Q:=⟨_,_,by simp only[gIn,h,yp,h1,h2,Bool.and_self,cond_true],q⟩
def zNn(h:items μ y=some xs)(h1:zDc x=true)(h2:xs.all zDc=true)(q:Q (.bl (!xs.any λd=>eqF d x)) μ):W2 zdh x y μ Q:=⟨_,_,by simp only[zdh,h,yp,h1,h2,Bool.and_self,cond_true],q⟩
def zQd(h:items μ x=some xs)(q:Q (.int xs.length) μ):WF zWi [x] μ Q:=⟨_,_,by show((items μ x).bind λxs=>some (D.int xs.length,μ))=_;rw[h,yp],q⟩
def zCr(h:items μ x=some xs)(q:Q (.loc μ.length) (μ++[.lst xs])):WF z2r [x] μ Q:=⟨_,_,by show((items μ x).bind λxs=>some (D.loc μ.length,μ++[tD.lst xs]))=_;rw[h,yp],q⟩
def zOf(h:items μ x=some xs)(q:Q (.tup xs) μ):WF z8d [x] μ Q:=by
 refine⟨_,_,?_,q⟩;cases x<;>first|(cases h;rfl)|(simp only[z8d,h];rfl)
def zUx{n:Nat}{ns:List Int}(h:μ[n]?=some (.lst (ns.map .int)))(q:Q (.int ns.sum) μ):WF ztw [.loc n] μ Q:=⟨_,_,by simp[h]<;>rfl,q⟩
def zxx{n:Nat}{bs:List Bool}(h:μ[n]?=some (.lst (bs.map .bl)))(q:Q (.bl (bs.all λb=>b)) μ):WF zgx [.loc n] μ Q:=⟨_,_,by simp[h,all_map,Function.comp_def],q⟩
def zQi{n:Nat}(h:μ[n]?=some (.lst xs))(hl:xs.length<=1000000)(q:Q .non (μ.set n (.lst (xs++[d])))):WM zFf (.loc n) [d] μ Q:=⟨_,_,by simp[h,hl]<;>rfl,q⟩
def zww{n:Nat}(h:μ[n]?=some (.lst xs))(hl:xs.length+ds.length<=1000000)(q:Q .non (μ.set n (.lst (xs++ds)))):WM zku (.loc n) [.tup ds] μ Q:=⟨_,_,by simp[h,hl]<;>rfl,q⟩
def zzb{F:FF}{N:List yF}{p:FS}(hF:F=λds μ=>zxb (p (zL N ds) μ))(h:WS p (zL N ds) μ (λ_ μ'=>Q .non μ') Q (λ_ _=>False) λ_ _=>False):WF F ds μ Q:=by
 subst hF;obtain⟨o,e,k⟩:=h
 cases o with
 |next J' μ'=>exact⟨_,_,by rw[e];rfl,k⟩
 |ret d μ'=>exact⟨_,_,by rw[e];rfl,k⟩
 |brk _ _=>exact k.elim
 |cont _ _=>exact k.elim
 |exc _ _ _=>exact k.elim
def zue{α:FA}{R:List D->(Mem->Bool)->Mem->Prop}(h:WA α J μ λds μ1=>∃j:Int,ds=[.int j]/\-(2^62)<=j/\j<2^62/\R ((yi j.toNat).map λ(k:Nat) =>.int k) yes μ1):WI (zGd α) J μ R:=by
 obtain⟨ds,μ1,e1,j,rfl,h1,h2,q⟩:=h;refine⟨_,_,_,?_,q⟩;unfold zGd;simp only[e1,yp];rw[decide_eq_true ⟨h1,h2⟩];rfl
def zTe{R:List D->(Mem->Bool)->Mem->Prop}(h:WE G J μ λx μ1=>(∃ds,x=.tup ds/\R ds yes μ1)\/(∃ds,x=.fz ds/\R ds yes μ1)\/∃n ds,x=.loc n/\μ1[n]?=some (.lst ds)/\R ds (zFm n ds) μ1):WI (zwi G) J μ R:=by
 obtain⟨x,μ1,e1,⟨ds,rfl,q⟩|⟨ds,rfl,q⟩|⟨n,ds,rfl,e2,q⟩⟩:=h
 ·exact⟨_,_,_,by simp[e1]<;>rfl,q⟩
 ·exact⟨_,_,_,by simp[e1]<;>rfl,q⟩
 ·exact⟨_,_,_,by simp[e1,e2]<;>rfl,q⟩
def z4d{n:Nat}{R:Loc->Mem->Prop}(q:R (J.set n (some d)) μ):WG (gN n) d J μ R:=⟨_,_,rfl,q⟩
def zny{n:Nat}{gs:FGs}{R:Loc->Mem->Prop}(hl:ds.length=n)(h:WGs gs ds J μ R):WG (gT n gs) (.tup ds) J μ R:=by
 obtain⟨J',μ',e,q⟩:=h;exact⟨J',μ',by simp[hl,e],q⟩
def zIl{gs:FGs}{R:Loc->Mem->Prop}{a b:D}(h:WGs gs [a,b] J μ R):WG (gT 2 gs) (.tup [a,b]) J μ R:=zny rfl h
def zhx{gs:FGs}{R:Loc->Mem->Prop}{a b c:D}(h:WGs gs [a,b,c] J μ R):WG (gT 3 gs) (.tup [a,b,c]) J μ R:=zny rfl h
def znk{R:Loc->Mem->Prop}(q:R J μ):WGs zUe [] J μ R:=⟨_,_,rfl,q⟩
def zne{t:FG}{gs:FGs}{R:Loc->Mem->Prop}(h:WG t d J μ λJ1 μ1=>WGs gs ds J1 μ1 R):WGs (zbb t gs) (d::ds) J μ R:=by
 obtain⟨J1,μ1,e1,J2,μ2,e2,q⟩:=h;exact⟨J2,μ2,by simp[e1,e2],q⟩
variable {nx:Loc->Mem->Prop}{rt:D->Mem->Prop}{bk ct:Loc->Mem->Prop}{p q:FS}
def zpb(h:nx J μ):WS zsc J μ nx rt bk ct:=⟨.next J μ,rfl,h⟩
def zp(h:WS p J μ (λJ' μ'=>WS q J' μ' nx rt bk ct) rt bk ct):WS (z9 p q) J μ nx rt bk ct:=by
 obtain⟨o,e,k⟩:=h
 cases o with
 |next J' μ'=>obtain⟨o2,e2,k2⟩:=k;exact⟨o2,by simp[e,e2],k2⟩
 |ret d μ'=>exact⟨.ret d μ',by simp only[z9,e],k⟩
 |brk d μ'=>exact⟨.brk d μ',by simp only[z9,e],k⟩
 |cont d μ'=>exact⟨.cont d μ',by simp only[z9,e],k⟩
 |exc _ _ _=>exact k.elim
def zab{n:Nat}(h:WE G J μ λd μ'=>nx (J.set n (some d)) μ'):WS (zgc n G) J μ nx rt bk ct:=by
 obtain⟨d,μ',e,k⟩:=h;exact⟨.next _ _,by simp only[zgc,e,yp],k⟩
def zlk{g:FG}(h:WE G J μ λd μ1=>WG g d J μ1 nx):WS (zXp G g) J μ nx rt bk ct:=by
 obtain⟨d,μ1,e,J',μ2,e2,k⟩:=h;exact⟨.next _ _,by simp only[zXp,e,yp,e2],k⟩
def zdi(h:WE G J μ λ_ μ'=>nx J μ'):WS (z4j G) J μ nx rt bk ct:=by
 obtain⟨d,μ',e,k⟩:=h;exact⟨.next _ _,by simp only[z4j,e,yp],k⟩
def zub(h:WE G J μ rt):WS (zec G) J μ nx rt bk ct:=by
 obtain⟨d,μ',e,k⟩:=h;exact⟨.ret _ _,by simp only[zec,e,yp],k⟩
def zog{c:FT}(h:WT c J μ λb μ1=>(b=true->WS p J μ1 nx rt bk ct)/\(b=false->WS q J μ1 nx rt bk ct)):WS (sIf c p q) J μ nx rt bk ct:=by
 obtain⟨b,μ1,e,h1,h2⟩:=h
 cases b with
 |true=>obtain⟨o,e2,k⟩:=h1 rfl;exact⟨o,by simp[e,e2],k⟩
 |false=>obtain⟨o,e2,k⟩:=h2 rfl;exact⟨o,by simp[e,e2],k⟩
def zkg{it:FI}{g:FG}{body:FS}(h:WI it J μ λds ok μ1=>WFor g body ok ds J μ1 nx rt):WS (zIk it g body) J μ nx rt bk ct:=by
 obtain⟨ds,ok,μ1,e,o,e2,k⟩:=h;refine⟨o,by simp only[zIk,e,yp];exact e2,?_⟩
 cases o with
 |next _ _=>exact k
 |ret _ _=>exact k
 |brk _ _=>exact k.elim
 |cont _ _=>exact k.elim
 |exc _ _ _=>exact k.elim
def zZq{g:FG}{body:FS}{ok:Mem->Bool}{nx:Loc->Mem->Prop}{rt:D->Mem->Prop}(I:Nat->Loc->Mem->Prop):∀{xs:List D} {n:Nat} {J:Loc} {μ:Mem},I n J μ->(∀m J μ,I m J μ->ok μ=true) ->
 (∀(m:Nat)(x:D)(J:Loc)(μ:Mem),xs[m]?=some x->I (n+m) J μ->WG g x J μ λJ1 μ1=>WS body J1 μ1 (I (n+m+1)) rt nx (I (n+m+1)))->(∀J μ,I (n+xs.length) J μ->nx J μ)->WFor g body ok xs J μ nx rt
 |[],n,J,μ,h0,hok,_,hend=>⟨.next J μ,by simp only[z6h,hok _ _ _ h0,cond_true],hend J μ h0⟩
 |x::xs,n,J,μ,h0,hok,hs,hend=>by
  obtain⟨J1,μ1,e1,o,e2,k⟩:=hs 0 x J μ rfl h0
  cases o with
  |next J2 μ2=>
   obtain⟨o3,e3,k3⟩:=zZq I (xs:=xs) (n:=n+1) (J:=J2) (μ:=μ2) k hok (λm y J μ hy hI=>by
    have:=hs (m+1) y J μ (by simpa using hy) (by rw[show n+(m+1)=n+1+m by omega];exact hI);rw[show n+(m+1)=n+1+m by omega]at this;exact this) (λJ μ hI=>hend J μ (by rw[length_cons,show n+(xs.length+1)=n+1+xs.length by omega];exact hI))
   exact⟨o3,by simp only[z6h,hok _ _ _ h0,cond_true,e1,yp,e2];exact e3,k3⟩
  |cont J2 μ2=>
   obtain⟨o3,e3,k3⟩:=zZq I (xs:=xs) (n:=n+1) (J:=J2) (μ:=μ2) k hok (λm y J μ hy hI=>by
    have:=hs (m+1) y J μ (by simpa using hy) (by rw[show n+(m+1)=n+1+m by omega];exact hI);rw[show n+(m+1)=n+1+m by omega]at this;exact this) (λJ μ hI=>hend J μ (by rw[length_cons,show n+(xs.length+1)=n+1+xs.length by omega];exact hI))
   exact⟨o3,by simp only[z6h,hok _ _ _ h0,cond_true,e1,yp,e2];exact e3,k3⟩
  |brk J2 μ2=>exact⟨.next J2 μ2,by simp only[z6h,hok _ _ _ h0,cond_true,e1,yp,e2],k⟩
  |ret d μ2=>exact⟨.ret d μ2,by simp only[z6h,hok _ _ _ h0,cond_true,e1,yp,e2],k⟩
  |exc _ _ _=>exact k.elim
end
def z4t{g:FG}{c:FT}{G:FE}{ok:Mem->Bool}{J:Loc}{Q:D->Mem->Prop}(I:Nat->List D->Mem->Prop):∀{xs ys:List D} {n:Nat} {μ:Mem},I n ys μ->(∀m ys μ,I m ys μ->ok μ=true) ->
 (∀(m:Nat)(x:D)(ys:List D)(μ:Mem),xs[m]?=some x->I (n+m) ys μ->WG g x J μ λJ1 μ1=>WT c J1 μ1 λb μ2=>(b=true->WE G J1 μ2 λd μ3=>I (n+m+1) (ys++[d]) μ3)/\(b=false->I (n+m+1) ys μ2)) ->
 (∀ys μ,I (n+xs.length) ys μ->Q (.loc μ.length) (μ++[.lst ys]))->WL g c G ok J xs ys μ Q
 |[],ys,n,μ,h0,hok,_,hend=>⟨_,_,by simp only[zms,hok _ _ _ h0,cond_true],hend ys μ h0⟩
 |x::xs,ys,n,μ,h0,hok,hs,hend=>by
  obtain⟨J1,μ1,e1,b,μ2,e2,ht,hf⟩:=hs 0 x ys μ rfl h0
  have step:∀ys2 μ3,I (n+1) ys2 μ3->WL g c G ok J xs ys2 μ3 Q:=λys2 μ3 h=>z4t I (n:=n+1) h hok (λm y ys μ hy hI=>by
   have:=hs (m+1) y ys μ (by simpa using hy) (by rw[show n+(m+1)=n+1+m by omega];exact hI);rw[show n+(m+1)=n+1+m by omega]at this;exact this) (λys μ hI=>hend ys μ (by rw[length_cons,show n+(xs.length+1)=n+1+xs.length by omega];exact hI))
  cases b with
  |true=>
   obtain⟨d,μ3,e3,h3⟩:=ht rfl;obtain⟨d',μ4,e4,q⟩:=step _ _ h3;exact⟨d',μ4,by simp only[zms,hok _ _ _ h0,cond_true,e1,yp,e2,e3];exact e4,q⟩
  |false=>
   obtain⟨d',μ4,e4,q⟩:=step _ _ (hf rfl);exact⟨d',μ4,by simp only[zms,hok _ _ _ h0,cond_true,e1,yp,e2,cond_false];exact e4,q⟩
def zpc{g:FG}{body:FS}{ok:Mem->Bool}{nx:Loc->Mem->Prop}{rt:D->Mem->Prop}{xs:List D}{J:Loc}{μ:Mem}(I:Nat->Loc->Mem->Prop)(h0:I 0 J μ)(hok:∀m J μ,I m J μ->ok μ=true)
 (hs:∀(m:Nat)(x:D)(J:Loc)(μ:Mem),xs[m]?=some x->I m J μ->WG g x J μ λJ1 μ1=>WS body J1 μ1 (I (m+1)) rt nx (I (m+1))) (hend:∀J μ,I xs.length J μ->nx J μ):WFor g body ok xs J μ nx rt :=
 zZq I (n:=0) h0 hok (λm x J μ hx h=>by
  rw[Nat.zero_add]at h ⊢;exact hs m x J μ hx h) (λJ μ h=>hend J μ (by rw[Nat.zero_add]at h;exact h))
def z5h{g:FG}{c:FT}{G:FE}{ok:Mem->Bool}{J:Loc}{Q:D->Mem->Prop}{xs:List D}{μ:Mem}(I:Nat->List D->Mem->Prop)(h0:I 0 [] μ)(hok:∀m ys μ,I m ys μ->ok μ=true)
 (hs:∀(m:Nat)(x:D)(ys:List D)(μ:Mem),xs[m]?=some x->I m ys μ->WG g x J μ λJ1 μ1=>WT c J1 μ1 λb μ2=>(b=true->WE G J1 μ2 λd μ3=>I (m+1) (ys++[d]) μ3)/\(b=false->I (m+1) ys μ2))
 (hend:∀ys μ,I xs.length ys μ->Q (.loc μ.length) (μ++[.lst ys])):WL g c G ok J xs [] μ Q :=
 z4t I (n:=0) h0 hok (λm x ys μ hx h=>by
  rw[Nat.zero_add]at h ⊢;exact hs m x ys μ hx h) (λys μ h=>hend ys μ (by rw[Nat.zero_add]at h;exact h))
def zOg{j m:Nat}{x:D}(h:((yi j).map λ(k:Nat)=>D.int k)[m]?=some x):m<j/\x=.int m:=by
 have h1:=(List.getElem?_eq_some_iff.mp h).1;simp at h1;refine⟨h1,?_⟩;simp[h1]at h;exact h.symm
def zLf{α:Type}{g:FG}{c:FT}{G:FE}{ok:Mem->Bool}{J:Loc}{Q:D->Mem->Prop}{μ:Mem}(e:α->D)(l:List α)(f:α->D)(p:α->Bool)(hok:∀μ',tw μ μ'->ok μ'=true)
 (hs:∀x∈l,∀μ',tw μ μ'->WG g (e x) J μ' λJ1 μ1=>WT c J1 μ1 λb μ2=>b=p x/\tw μ μ2/\(b=true->WE G J1 μ2 λd μ3=>d=f x/\tw μ μ3))
 (hq:∀μ',tw μ μ'->Q (.loc μ'.length) (μ'++[.lst ((l.filter p).map f)])):WL g c G ok J (l.map e) [] μ Q:=by
 refine z5h (λm ys μ'=>tw μ μ'/\ys=((l.take m).filter p).map f) ⟨.refl,by simp⟩ (λm ys μ' h=>hok μ' h.1) (λm x ys μ' hx h=>?_) (λys μ' h=>?_)
 ·rw[yh]at hx
  cases hy:l[m]? with
  |none=>rw[hy]at hx;cases hx
  |some y=>
   rw[hy]at hx;cases hx;obtain⟨J1,μ1,e1,b,μ2,e2,hb,k2,h3⟩:=hs y (mem_of_getElem? hy) μ' h.1
   have ht:l.take (m+1)=l.take m++[y]:=by
    rw[take_succ,hy];rfl
   refine⟨J1,μ1,e1,b,μ2,e2,λhb1=>?_,λhb1=>⟨k2,?_⟩⟩
   ·obtain⟨d,μ3,e3,rfl,k3⟩:=h3 hb1;refine⟨_,_,e3,k3,?_⟩;rw[ht,List.filter_append,map_append,<-h.2,List.filter_cons_of_pos (by rw[<-hb,hb1])];rfl
   ·rw[ht,List.filter_append,map_append,<-h.2,List.filter_cons_of_neg (by rw[<-hb,hb1];exact yv)];simp
 ·rw[length_map,take_length]at h;rw[h.2];exact hq μ' h.1
def zyf{α:Type}{g:FG}{G:FE}{ok:Mem->Bool}{J:Loc}{Q:D->Mem->Prop}{μ:Mem}(e:α->D)(l:List α)(f:α->D)(hok:∀μ',tw μ μ'->ok μ'=true)
 (hs:∀x∈l,∀μ',tw μ μ'->WG g (e x) J μ' λJ1 μ1=>WE G J1 μ1 λd μ3=>d=f x/\tw μ μ3/\tw μ μ1)
 (hq:∀μ',tw μ μ'->Q (.loc μ'.length) (μ'++[.lst (l.map f)])):WL g zqk G ok J (l.map e) [] μ Q :=
 zLf e l f (λ_=>true) hok (λx hx μ' k=>by
  obtain⟨J1,μ1,e1,d,μ3,e3,h1,h2,h3⟩:=hs x hx μ' k;exact⟨J1,μ1,e1,true,μ1,rfl,rfl,h3,λ_=>⟨d,μ3,e3,h1,h2⟩⟩) (λμ' k=>by rw[List.filter_eq_self.mpr (λ_ _=>rfl)];exact hq μ' k)
def zLb{ds:List D}(h:ds.length<=1000000):few ds=true:=decide_eq_true h
def znb{n:Nat}{ds:List D}{μ μ':Mem}(h:μ[n]?=some (.lst ds))(k:tw μ μ'):zFm n ds μ'=true:=TJ.mpr (k n _ h)
def zov{ns:List Int}{k:Int}:k∈uqL ns↔k∈ns:=by
 unfold uqL;rw[zkr,List.mem_iff_getElem];constructor
 ·rintro⟨j,hj,h⟩;exact⟨j,hj,by simpa[hj] using h⟩
 ·rintro⟨j,hj,h⟩;exact⟨j,hj,by simpa[hj] using h⟩
def zQl{ns l:List Int}(h1:∀k,k∈l↔k∈ns)(h2:l.Pairwise (· < ·)):(uqL ns).Perm l:=by
 refine(perm_ext_iff_of_nodup (zSm _ _) (h2.imp λh=>Int.ne_of_lt h)).mpr λk=>?_;rw[h1];exact zov
def z8o{ns l:List Int}(h1:∀k,k∈l↔k∈ns)(h2:l.Pairwise (· < ·)):zPs ns=l :=
 zUc ((mergeSort_perm _ _).trans (zQl h1 h2)) (zRh _) (h2.imp λh=>Int.le_of_lt h)
structure KB(L:List Nat)(μ μ':Mem):Prop where
 len:μ.length<=μ'.length
 at_:∀(n:Nat)(o:tD),n∉L->μ[n]?=some o->μ'[n]?=some o
section
variable {L:List Nat}{μ μ1 μ2 μ':Mem}{n:Nat}{o:tD}
def KB.refl:KB L μ μ:=⟨yj _,λ_ _ _ h=>h⟩
def KB.trans(a:KB L μ μ1)(b:KB L μ1 μ2):KB L μ μ2:=⟨yA a.len b.len,λn o h e=>b.at_ n o h (a.at_ n o h e)⟩
def KB.app{g:Mem}(a:KB L μ μ1):KB L μ (μ1++g):=⟨by simp;have:=a.len;omega,λn o h e=>zB (a.at_ n o h e)⟩
def KB.set{m:Nat}(a:KB L μ μ1)(h:m∈L\/μ.length<=m):KB L μ (μ1.set m o):=⟨by simp;exact a.len,λn o' hn e=>by
 rw[Yk]
 ·exact a.at_ n o' hn e
 ·rintro rfl;rcases h with h|h
  ·exact hn h
  ·exact absurd (zC e) (by omega)⟩
def KB.of_keep(a:tw μ μ'):KB L μ μ':=⟨a.len,λn o _ e=>a n o e⟩
variable {G ψ χ:FE}{g g2:φ2}{J:Loc}{Q:D->Mem->Prop}{i j:Int}{d x y:D}{ds xs:List D}
def zUo(h:WE G J μ λx μ1=>∃j:Int,x=.int j/\(-(2^62)<=j/\j<=1000000)/\Q (.loc μ1.length) (μ1++[.lst ((yi j.toNat).map λ(k:Nat) =>.int k)])):WE (z1l G) J μ Q:=by
 obtain⟨x,μ1,e1,j,rfl,h1,q⟩:=h;exact⟨_,_,by simp only[z1l,e1,yp];rw[decide_eq_true h1];rfl,q⟩
def zux{n:Nat}{bs:List Bool}(h:μ[n]?=some (.lst (bs.map .bl)))(q:Q (.bl (bs.any λb=>b)) μ):WF z9w [.loc n] μ Q:=⟨_,_,by simp[h,any_map,Function.comp_def],q⟩
def zpw(q:Q (.int i) μ):WF ziy [.int i] μ Q:=⟨_,_,rfl,q⟩
def zZv{b:Bool}(q:Q (.int (if b then 1 else 0)) μ):WF ziy [.bl b] μ Q:=⟨_,_,rfl,q⟩
def zIt(q:Q (.int (if j<i then j else i)) μ):WF znt [.int i,.int j] μ Q:=⟨_,_,rfl,q⟩
def zrw(q:Q (.int (if j>i then j else i)) μ):WF znx [.int i,.int j] μ Q:=⟨_,_,rfl,q⟩
def zOx{c:FT}(h:WT c J μ λb μ1=>(b=true->WE G J μ1 Q)/\(b=false->WE ψ J μ1 Q)):WE (fIf c G ψ) J μ Q:=by
 obtain⟨b,μ1,e,h1,h2⟩:=h
 cases b with
 |true=>obtain⟨d,μ2,e2,k⟩:=h1 rfl;exact⟨d,μ2,by simp[e,e2],k⟩
 |false=>obtain⟨d,μ2,e2,k⟩:=h2 rfl;exact⟨d,μ2,by simp[e,e2],k⟩
def zMt{l:Nat}{n:Int}(h:μ[l]?=some (.lst xs))(h1:n<=1000)(h2:-(2^62)<=n)(h3:xs.length<=1000)(q:Q (.loc μ.length) (μ++[.lst (yu n.toNat xs).flatten])):W2 zNi (.loc l) (.int n) μ Q :=
 ⟨_,_,by simp only[zNi,h];rw[decide_eq_true ⟨h1,h2,h3⟩];rfl,q⟩
def zTx{lo hi:FO}(h:WE G J μ λx μ1=>WO lo J μ1 λl μ2=>WO hi J μ2 λu μ3=>∃n ds,x=.loc n/\μ3[n]?=some (.lst ds)/\Q (.loc μ3.length) (μ3++[.lst (cutD ds l u)])):WE (fSl G lo hi) J μ Q:=by
 obtain⟨x,μ1,e1,l,μ2,e2,u,μ3,e3,n,ds,rfl,e4,q⟩:=h;exact⟨_,_,by simp[e1,e2,e3,e4]<;>rfl,q⟩
def zst{R:Loc->Mem->Prop}(h:WE G J μ λx μ1=>WE ψ J μ1 λy μ2=>∃(n:Nat)(i:Int)(zs:List D),x=.loc n/\y=.int i/\μ2[n]?=some (.lst zs)/\(0<=i/\i<zs.length)/\R J (μ2.set n (.lst (zs.set i.toNat d)))):WG (gAt G ψ) d J μ R:=by
 obtain⟨x,μ1,e1,y,μ2,e2,n,i,zs,rfl,rfl,e3,hi,q⟩:=h;have e4:ixN zs.length i=some i.toNat:=by unfold ixN;rw[if_pos hi.1,if_pos hi.2]
 exact⟨_,_,by simp[e1,e2,e3,e4]<;>rfl,q⟩
end
abbrev nat(S:List Nat):List D:=S.map λ(k:Nat)=>D.int k
def zXc(a b:List Nat):nat (a++b)=nat a++nat b:=map_append
def zMh{α:Type}(f:α->Nat)(l:List α):nat (l.map f)=l.map λa=>D.int (f a:Nat):=map_map
class Enc(α:Type) where
 d:α->D
 p:α->Xa
 dep:Nat
 rd:∀(μ:Mem)(n:Nat)(a:α),toP μ (n+dep) (d a)=some (p a)
 eq:∀a b:α,Yu (p a) (p b)=true↔a=b
instance:Enc Int:=⟨.int,.int,1,λ_ _ _=>rfl,λa b=>by simp[Yu]⟩
instance:Enc Nat:=⟨λ(k:Nat) =>.int k,λ(k:Nat) =>.int k,1,λ_ _ _=>rfl,λa b=>by simp[Yu];omega⟩
instance:Enc Bool:=⟨.bl,.bool,1,λ_ _ _=>rfl,λa b=>by simp[Yu]⟩
abbrev onD:Option Nat->D
 |none =>.non
 |some k =>.int k
instance:Enc (Option Nat):=⟨onD,fun|none =>.none|some k =>.int k,1,λ_ _ a=>by cases a<;>rfl,λa b=>by cases a<;>cases b<;>simp[Yu];omega⟩
def zIe{α:Type}[Enc α]:∀xs ys:List α,Ys (xs.map Enc.p) (ys.map Enc.p)=true↔xs=ys
 |[],[]=>by simp[Ys]
 |[],y::ys=>by simp[Ys]
 |x::xs,[]=>by simp[Ys]
 |x::xs,y::ys=>by
  rw[map_cons,map_cons,Ys,yG,Enc.eq,zIe xs ys,List.cons.injEq]
def sM{α:Type}[Enc α](μ:Mem)(n:Nat):∀xs:List α,(xs.map Enc.d).mapM (toP μ (n+Enc.dep α))=some (xs.map Enc.p)
 |[]=>rfl
 |x::xs=>by rw[map_cons,mapM_cons,sM μ n xs,Enc.rd];rfl
instance instEncList{α:Type}[Enc α]:Enc (List α):=⟨λxs =>.tup (xs.map Enc.d),λxs =>.tuple (xs.map Enc.p),Enc.dep α+1,λμ n xs=>by
 show((xs.map Enc.d).mapM (toP μ (n+Enc.dep α))).bind (λps=>some (PyData.tuple ps))=_;rw[sM];rfl,λa b=>by rw[Yu];exact zIe a b⟩
def zMi{μ:Mem}{α:Type}[Enc α](a:α)(h:Enc.dep α<=8):toP μ 8 (Enc.d a)=some (Enc.p a):=by
 have:=Enc.rd μ (8-Enc.dep α) a;rw[Nat.sub_add_cancel h]at this;exact this
def ztd{b:Bool}{p:Prop}[Decidable p](h:b=true↔p):b=decide p:=by
 cases b<;>simp_all
section
variable {G ψ χ:FE}{g g2:φ2}{J:Loc}{μ:Mem}{Q:D->Mem->Prop}{i j:Int}{d x y:D}{ds xs:List D}{α:Type}[Enc α][DecidableEq α]
def zsr(a b:α)(q:Q (.bl (decide (a=b))) μ)(hx:x=Enc.d a:=by rfl)(hy:y=Enc.d b:=by rfl)(h:Enc.dep α<=8:=by decide):W2 gEq x y μ Q:=by
 subst hx hy;exact zdx (zMi a h) (zMi b h) (by rw[ztd (Enc.eq a b)];exact q)
def zmv(a b:α)(q:Q (.bl (!decide (a=b))) μ)(hx:x=Enc.d a:=by rfl)(hy:y=Enc.d b:=by rfl)(h:Enc.dep α<=8:=by decide):W2 gNe x y μ Q:=by
 subst hx hy;exact zzx (zMi a h) (zMi b h) (by rw[ztd (Enc.eq a b)];exact q)
def z4i{n:Nat}(as:List α)(e:μ[n]?=some (.lst (as.map Enc.d)))(h:Enc.dep α<=7):toP μ 8 (.loc n)=some (.list (as.map Enc.p)):=by
 show(match μ[n]? with
  |some (.lst ds)=>(ds.mapM (toP μ 7)).bind λps=>some (PyData.list ps)
  |_=>none)=_
 rw[e];show((as.map Enc.d).mapM (toP μ 7)).bind (λps=>some (PyData.list ps))=_;have:=sM μ (7-Enc.dep α) as;rw[Nat.sub_add_cancel h]at this;rw[this];rfl
def zCx(as bs:List α){m n:Nat}(e1:μ[m]?=some (.lst (as.map Enc.d)))(e2:μ[n]?=some (.lst (bs.map Enc.d)))(q:Q (.bl (decide (as=bs))) μ)(h:Enc.dep α<=7:=by decide):W2 gEq (.loc m) (.loc n) μ Q :=
 zdx (z4i as e1 h) (z4i bs e2 h) (by rw[Yu,ztd (zIe as bs)];exact q)
def zHu(as bs:List α){m n:Nat}(e1:μ[m]?=some (.lst (as.map Enc.d)))(e2:μ[n]?=some (.lst (bs.map Enc.d)))(q:Q (.bl (!decide (as=bs))) μ)(h:Enc.dep α<=7:=by decide):W2 gNe (.loc m) (.loc n) μ Q :=
 zzx (z4i as e1 h) (z4i bs e2 h) (by rw[Yu,ztd (zIe as bs)];exact q)
def zOi(S:List Nat):(nat S).all zDc=true:=List.all_eq_true.mpr λx hx=>by
 obtain⟨k,_,rfl⟩:=List.mem_map.mp hx;rfl
def zZl(k:Nat):∀S:List Nat,((nat S).any λd=>eqF d (.int k))=decide (k∈S):=λS=>by
 refine ztd ?_;rw[any_eq_true];constructor
 ·rintro⟨x,hx,e⟩;obtain⟨j,hj,rfl⟩:=List.mem_map.mp hx;have h1:(j:Int)=k:=beq_iff_eq.mp (show((j:Int)==(k:Int))=true from e);have h2:j=k:=by omega
  exact h2▸hj
 ·intro h;exact⟨.int k,List.mem_map.mpr ⟨k,h,rfl⟩,(show((k:Int)==(k:Int))=true from beq_self_eq_true _)⟩
def zDv{k:Nat}{S:List Nat}(h:items μ y=some (nat S))(q:Q (.bl (decide (k∈S))) μ):W2 gIn (.int k) y μ Q:=zUy h rfl (zOi S) (by rw[zZl];exact q)
def z6l{k:Nat}{S:List Nat}(h:items μ y=some (nat S))(q:Q (.bl (!decide (k∈S))) μ):W2 zdh (.int k) y μ Q:=zNn h rfl (zOi S) (by rw[zZl];exact q)
def zyg(S:List (Option Nat)):(S.map onD).all zDc=true:=List.all_eq_true.mpr λx hx=>by
 obtain⟨k,_,rfl⟩:=List.mem_map.mp hx;cases k<;>rfl
def z3q(a b:Option Nat):eqF (onD a) (onD b)=decide (a=b):=by
 cases a<;>cases b<;>try rfl
 rename_i a b
 show(((a:Nat):Int)==(b:Nat))=decide (some a=some b);rw[Bool.eq_iff_iff,beq_iff_eq,decide_eq_true_iff,xX,Int.natCast_inj]
def zGw(k:Option Nat):∀S:List (Option Nat),((S.map onD).any λd=>eqF d (onD k))=decide (k∈S):=λS=>by
 refine ztd ?_;rw[any_eq_true];constructor
 ·rintro⟨x,hx,e⟩;obtain⟨j,hj,rfl⟩:=List.mem_map.mp hx;rw[z3q]at e;exact(of_decide_eq_true e)▸hj
 ·intro h;exact⟨onD k,List.mem_map.mpr ⟨k,h,rfl⟩,by rw[z3q];simp⟩
def zJw{n:Nat}{S:List Nat}(h:μ[n]?=some (.lst (nat S)))(q:Q (.int (S.sum:Nat)) μ):WF ztw [.loc n] μ Q:=by
 refine zUx (ns:=S.map λ(k:Nat)=>(k:Int)) (by rw[h];simp) ?_
 have:(S.map λ(k:Nat)=>(k:Int)).sum=((S.sum:Nat):Int):=by
  clear h q
  induction S with
  |nil=>rfl
  |cons a S ih=>rw[map_cons,sum_cons,sum_cons,ih];omega
 rw[this];exact q
def z0c{S:List Nat}{i:Nat}(h:i<S.length):atI (nat S) (i:Int)=some (.int (S.getD i 0:Nat)):=zke (by simp[h])
end
section
variable {G ψ χ:FE}{g g2:φ2}{J:Loc}{μ:Mem}{Q:D->Mem->Prop}{i j:Int}{d x y:D}{ds xs:List D}
def znf{R:List D->(Mem->Bool)->Mem->Prop}(h:WE G J μ λx μ1=>(∃ds,x=.tup ds/\R (zzg ds) yes μ1)\/(∃ds,x=.fz ds/\R (zzg ds) yes μ1)\/∃n ds,x=.loc n/\μ1[n]?=some (.lst ds)/\R (zzg ds) (zFm n ds) μ1):WI (zLi G) J μ R:=by
 obtain⟨x,μ1,e1,⟨ds,rfl,q⟩|⟨ds,rfl,q⟩|⟨n,ds,rfl,e2,q⟩⟩:=h
 ·exact⟨_,_,_,by simp[e1]<;>rfl,q⟩
 ·exact⟨_,_,_,by simp[e1]<;>rfl,q⟩
 ·exact⟨_,_,_,by simp[e1,e2]<;>rfl,q⟩
def z5p{α:Type}{f:α->D}{xs:List α}{m:Nat}{x:D}(h:(zzg (xs.map f))[m]?=some x):∃y,xs[m]?=some y/\x=.tup [.int m,f y]:=by
 obtain⟨z,hz,rfl⟩:=zLl h;rw[yh]at hz
 cases e:xs[m]? with
 |none=>rw[e]at hz;cases hz
 |some y=>rw[e]at hz;cases hz;exact⟨y,rfl,rfl⟩
def zwv{m:GM}(h:WE G J μ λx μ1=>∃n xs,x=.loc n/\μ1[n]?=some (.lst xs)/\WM m (.loc n) [] μ1 Q):WE (zHo m G) J μ Q:=by
 obtain⟨x,μ1,e1,n,xs,rfl,e2,d,μ3,e4,q⟩:=h;exact⟨d,μ3,by simp[e1,e2,e4],q⟩
def zpx{n:Nat}(h:μ[n]?=some (.lst (xs++[d])))(q:Q d (μ.set n (.lst xs))):WM zUw (.loc n) [] μ Q:=⟨_,_,by simp[h]<;>rfl,q⟩
def zyr{n:Nat}(h:μ[n]?=some (.lst xs))(h1:zDc d=true)(h2:xs.all zDc=true)(q:Q (.int (xs.countP λy=>eqF y d:Nat)) μ):WM zrj (.loc n) [d] μ Q:=⟨_,_,by simp only[zrj,h,h1,h2,Bool.and_self,cond_true],q⟩
def zUq{n k:Nat}{S:List Nat}(h:μ[n]?=some (.lst (nat S)))(hk:k∈S)(q:Q .non (μ.set n (.lst (nat (S.erase k))))):WM zOh (.loc n) [.int k] μ Q:=by
 have e1:nat S=(S.map λ(k:Nat)=>(k:Int)).map D.int:=by simp
 have e2:∀T:List Nat,(T.map λ(k:Nat)=>(k:Int)).erase (k:Int)=(T.erase k).map λ(k:Nat)=>(k:Int):=λT=>by
  induction T with
  |nil=>rfl
  |cons t T ih=>
   rw[map_cons]
   by_cases ht:t=k
   ·subst ht;simp
   ·rw[List.erase_cons_tail (by simp;omega),List.erase_cons_tail (by simpa using ht),ih];rfl
 have e3:(S.map λ(k:Nat)=>(k:Int)).contains (k:Int)=true:=by
  rw[List.contains_iff_mem];exact List.mem_map.mpr ⟨k,hk,rfl⟩
 refine⟨.non,_,?_,q⟩;simp only[zOh,h];rw[e1,zWg];simp only[yp,e3,cond_true,e2];rw[map_map];rfl
variable {nx:Loc->Mem->Prop}{rt:D->Mem->Prop}{bk ct:Loc->Mem->Prop}{p q:FS}
def zEx{i:Nat}{g:φ2}{x:D}(hx:J[i]?=some (some x))(h:WE G J μ λy μ1=>W2 g x y μ1 λd μ2=>nx (J.set i (some d)) μ2):WS (zXw i g G) J μ nx rt bk ct:=by
 obtain⟨y,μ1,e1,d,μ2,e2,k⟩:=h;exact⟨.next _ _,by simp only[zXw,hx,e1,yp,e2],k⟩
def zIv{i j:Int}{Q:D->Mem->Prop}(q:Q (.int (i+j)) μ):W2 zts (.int i) (.int j) μ Q:=⟨_,_,rfl,q⟩
def ztj{c:FT}{body:FS}(I:Nat->Loc->Mem->Prop):∀{n m:Nat} {J:Loc} {μ:Mem},m<n->I m J μ ->
 (∀m J μ,I m J μ->WT c J μ λb μ1=>(b=true->WS body J μ1 (λJ' μ'=>∃m',m'<m/\I m' J' μ') rt nx (λJ' μ'=>∃m',m'<m/\I m' J' μ'))/\(b=false->nx J μ1))->WS (zKk n c body) J μ nx rt bk ct
 |0,m,J,μ,h,_,_=>absurd h (Nat.not_lt_zero _)
 |n+1,m,J,μ,h,h0,hs=>by
  obtain⟨b,μ1,e1,ht,hf⟩:=hs m J μ h0
  cases b with
  |false=>exact⟨.next J μ1,by show zUb c body (n+1) J μ=_;simp only[zUb,e1,yp,cond_false],hf rfl⟩
  |true=>
   obtain⟨o,e2,k⟩:=ht rfl
   have step:∀J' μ',(∃m',m'<m/\I m' J' μ')->∃o,zUb c body n J' μ'=some o/\Ek nx rt bk ct o:=λJ' μ' ⟨m',hm',hI⟩=>by
    obtain⟨o,e,k⟩:=ztj I (n:=n) (m:=m') (by omega) hI hs;exact⟨o,e,k⟩
   cases o with
   |next J' μ'=>obtain⟨o,e3,k3⟩:=step J' μ' k;exact⟨o,by show zUb c body (n+1) J μ=_;simp only[zUb,e1,yp,cond_true,e2];exact e3,k3⟩
   |cont J' μ'=>obtain⟨o,e3,k3⟩:=step J' μ' k;exact⟨o,by show zUb c body (n+1) J μ=_;simp only[zUb,e1,yp,cond_true,e2];exact e3,k3⟩
   |brk J' μ'=>exact⟨.next J' μ',by show zUb c body (n+1) J μ=_;simp only[zUb,e1,yp,cond_true,e2],k⟩
   |ret d μ'=>exact⟨.ret d μ',by show zUb c body (n+1) J μ=_;simp only[zUb,e1,yp,cond_true,e2],k⟩
   |exc _ _ _=>exact k.elim
end
def zGb{α:Type}(f:α->D)(xs:List α)(d:α):zzg (xs.map f)=(yi xs.length).map λ(k:Nat) =>.tup [.int k,f (xs.getD k d)]:=by
 refine ext_getElem? λi=>?_;unfold zzg;simp only[yh,List.getElem?_zipIdx]
 by_cases h:i<xs.length
 ·simp[h]
 ·simp[h]
abbrev oiD:Option Int->D
 |none =>.non
 |some k =>.int k
instance:Enc (Option Int):=⟨oiD,fun|none =>.none|some k =>.int k,1,λ_ _ a=>by cases a<;>rfl,λa b=>by cases a<;>cases b<;>simp[Yu]⟩
def ztk:D->Bool
 |.non=>true
 |_=>false
def zCw{d:D}{μ:Mem}{Q:D->Mem->Prop}(h:zDc d=true)(q:Q (.bl (ztk d)) μ):W2 gIs d .non μ Q:=by
 cases d<;>first|exact⟨_,_,rfl,q⟩|cases h
def zhh{d:D}{μ:Mem}{Q:D->Mem->Prop}(h:zDc d=true)(q:Q (.bl (!ztk d)) μ):W2 zNf d .non μ Q:=by
 cases d<;>first|exact⟨_,_,rfl,q⟩|cases h
def zFl(a:Option Nat):zDc (onD a)=true:=by cases a<;>rfl
def zbv(ds:List D)(h:Nat):Nat:=ds.countP λy=>eqF y (.int h)
def zdo(lay:List (Option Nat))(h:Nat):zbv (lay.map onD) h=lay.count (some h):=by
 unfold zbv List.count;rw[List.countP_map]
 congr 1
 funext a
 have:=z3q a (some h);show eqF (onD a) (onD (some h))=_;rw[this];exact(Bool.beq_eq_decide_eq a (some h)).symm
def zRq{n:Nat}{lay:List (Option Nat)}{h:Nat}{μ:Mem}{Q:D->Mem->Prop}(e:μ[n]?=some (.lst (lay.map onD)))(q:Q (.int (lay.count (some h):Nat)) μ):WM zrj (.loc n) [.int h] μ Q :=
 zyr e rfl (zyg lay) (by rw[show(lay.map onD).countP (λy=>eqF y (.int h))=lay.count (some h) from zdo lay h];exact q)
def zjl{n m:Nat}{p:Nat->Bool}(h:p m=true)(hlt:m<n)(hb:∀j<m,p j=false):(yi n).find? p=some m:=by
 rw[List.find?_eq_some_iff_append];refine⟨h,yi m,(List.range' (m+1) (n-m-1)),?_,λa ha=>by simp[hb a (by simpa using ha)]⟩
 have:yi n=yi m++List.range' m (n-m):=by
  have e:n=m+(n-m):=by omega
  have:=List.range'_append_1 (s:=0) (m:=m) (n:=n-m);rw[<-e]at this;rw[List.range_eq_range',List.range_eq_range',<-this];simp
 rw[this,show n-m=(n-m-1)+1 by omega,List.range'_succ];simp
def zRf{n:Nat}{p:Nat->Bool}(h:∀j<n,p j=false):(yi n).find? p=none:=by
 rw[List.find?_eq_none];intro x hx;rw[h x (by simpa using hx)];exact yv
section
variable {G ψ χ:FE}{g g2:φ2}{J:Loc}{μ:Mem}{Q:D->Mem->Prop}{i j:Int}{d x y:D}{ds xs:List D}{kvs:List (Int×D)}{n:Nat}
def z9k(h:μ[n]?=some (.dct kvs)):zdc μ (.loc n)=some kvs:=by simp[h]
def zWh(h:μ[n]?=some (.dcf kvs)):zdc μ (.loc n)=some kvs:=by simp[h]
def z1v(h:zdc μ x=some kvs)(h2:zkd kvs i=some d)(q:Q d μ):W2 zdv x (.int i) μ Q:=⟨_,_,by simp only[zdv,h,yp,h2],q⟩
def z8w(h:zdc μ y=some kvs)(q:Q (.bl (zkd kvs i).isSome) μ):W2 zAn (.int i) y μ Q:=⟨_,_,by simp only[zAn,h,yp],q⟩
def zNv(h:zdc μ y=some kvs)(h2:kvs.all (λp=>decide (0<=p.1/\p.1<1000))=true)(q:Q (.bl false) μ):W2 zAn .non y μ Q:=⟨_,_,by simp only[zAn,h,yp,h2,cond_true],q⟩
def zOo(h:zdc μ y=some kvs)(q:Q (.bl (!(zkd kvs i).isSome)) μ):W2 z4h (.int i) y μ Q:=⟨_,_,by simp only[z4h,h,yp],q⟩
def zzq{R:Loc->Mem->Prop}(h:WE G J μ λx μ1=>WE ψ J μ1 λy μ2=>∃(n:Nat)(i:Int)(kvs:List (Int×D)),x=.loc n/\y=.int i/\μ2[n]?=some (.dct kvs)/\kvs.length<=1000000/\R J (μ2.set n (.dct (z3p kvs i d)))):WG (zyw G ψ) d J μ R:=by
 obtain⟨x,μ1,e1,y,μ2,e2,n,i,kvs,rfl,rfl,e3,hi,q⟩:=h;exact⟨_,_,by simp[e1,e2,e3,hi]<;>rfl,q⟩
def z5u(h:zdc μ x=some kvs)(q:Q (.loc μ.length) (μ++[.lst (zMj kvs)])):WF zan [x] μ Q:=⟨_,_,by simp only[zan,h,yp],q⟩
def zdu{R:List D->(Mem->Bool)->Mem->Prop}(h:WE G J μ λx μ1=>∃n kvs,x=.loc n/\μ1[n]?=some (.dct kvs)/\R (zMj kvs) yes (μ1.set n (.dcf kvs))):WI (zuv G) J μ R:=by
 obtain⟨x,μ1,e1,n,kvs,rfl,e2,q⟩:=h;exact⟨_,_,_,by simp[e1,e2]<;>rfl,q⟩
def zEw(h:WE G J μ λx μ1=>∃n ds,x=.loc n/\μ1[n]?=some (.lst ds)/\Q (.loc μ1.length) (μ1++[.lst ds.reverse])):WE (zFs G) J μ Q:=by
 obtain⟨x,μ1,e1,n,ds,rfl,e2,q⟩:=h;exact⟨_,_,by simp[zFs,e1,e2]<;>rfl,q⟩
end
end M
namespace M
open PySem PySem.W PyProof.Rows L2
def zVn{h:Yb}:∀{as:List yg} {a:yg} {o:xb},(kOf as h).lookup a=some o->h.get? a=some o
 |[],a,o,e=>by cases e
 |b::as,a,o,e=>by
  unfold kOf at e;rw[filterMap_cons]at e
  cases hb:h.get? b with
  |none=>rw[hb]at e;exact zVn (as:=as) e
  |some u=>
   rw[hb]at e
   change List.lookup a ((b,u)::kOf as h)=some o at e
   rw[lookup_cons]at e
   by_cases q:a==b
   ·rw[q]at e;cases e;rw[eq_of_beq q];exact hb
   ·rw[Bool.not_eq_true]at q;rw[q]at e;exact zVn (as:=as) e
def z3u{h:Yb}:(zfw h).In h:=λ_ _ e=>zVn e
def zqs(s:Yg):ztu s=zMc s:=by cases s<;>rfl
def zSs(s:Yg):zru s=zfc s:=by cases s<;>rfl
def zKr(s:Yg):z5q s=zn s:=by cases s<;>rfl
def zys{K:Frag}{a:yg}{nm qual:yF}{st:Yg}(e:z3o K a qual=z1r nm qual st):∃(oc:yb)(od:Option yg)(sl:Array (Option yb)) (kV dc pm:yb) (an:Option yg) (cd ct:yb),
 K.lookup a=some ⟨oc,od,.func (fnOf nm qual (zMc st) (zfc st) (zn st) .none kV dc pm an cd ct),sl⟩/\codeIn K cd qual=true/\keepIn K (.ref a)=true:=by
 rw[<-zqs,<-zSs,<-zKr];unfold z3o at e
 split at e
 ·rename_i oc od fd sl hl
  obtain⟨x1,x2,x3,x4,x5,x6,x7,x8,x9,x10,x11,x12,x13,x14,x15⟩:=fd;have e:=yS e;simp only[TD.mk.injEq]at e;obtain⟨rfl,rfl,rfl,rfl,rfl,rfl,rfl,rfl,rfl,h1,h2⟩:=e;exact⟨_,_,_,_,_,_,_,_,_,hl,h1,h2⟩
 ·cases e
def fnl{K:Frag}{nm:yF}{st:Yg}{l l':List (Option TD)}(e:zQ K nm::l=zT nm st::l'):(∃(f:yg)(oc:yb)(od:Option yg)(sl:Array (Option yb)) (kV dc pm:yb) (an:Option yg) (cd ct:yb),
 nsIn K yB nm=some (some (.ref f))/\K.lookup f=some ⟨oc,od,.func (fnOf nm nm (zMc st) (zfc st) (zn st) .none kV dc pm an cd ct),sl⟩/\codeIn K cd nm=true/\keepIn K (.ref f)=true)/\l=l':=by
 obtain⟨h1,h2⟩:=Yy e;refine⟨?_,h2⟩;unfold zQ at h1
 split at h1
 ·rename_i a ha
  obtain⟨oc,od,sl,kV,dc,pm,an,cd,ct,q⟩:=zys (show z3o K a nm=z1r nm nm st from h1);exact⟨a,oc,od,sl,kV,dc,pm,an,cd,ct,ha,q⟩
 ·cases h1
def fnc{K:Frag}{nm:yF}{st:Yg}{l l':List (Option TD)}(e:zQ K nm::l=zT nm st::l'):(∃(f:yg)(fd:yk),nsIn K yB nm=some (some (.ref f))/\Fun K nm nm st f fd)/\l=l':=by
 obtain⟨⟨f,oc,od,sl,kV,dc,pm,an,cd,ct,a,l,c,k⟩,e⟩:=fnl e;exact⟨⟨f,_,a,zWt l c k⟩,e⟩
def sV{l:OpenLaw}{q:yy}{loose:List yF}{d:DefRec}{α:Type}{obs:Frag->α}{good:α}{N:Nat}(said:l.wellSaid=true)
 (left:LeftO l.prog q loose (λ_=>true) (λs=>obs (zfw s.heap)) (λ_=>good) N) (hdef:defOf q l.name=some (d,[])) (hp:l.prog.theDef l.name=some (d.params,d.body,d.scope))
 (hk:kwWritten? d.params.kwonlyargs d.params.kw_defaults=some []) (ok:(chainsOk q&&opensWell l.prog&&(frees l.row.toRowW&&l.row.within.isEmpty))=true) (hb:l.prog.bare) (hw:l.row.toRowW.promised)
 (walk:∀K:Frag,obs K=good->WalkO q loose (λ_ _=>True) (λ_ h=>K.In h) l.row.toRowW d [] λf vs=>PySem.call f vs):l.Holds:=by
 refine holds_law said λsaid=>?_
 refine holds_open (r:=l.row) (q:=q) (loose:=loose) (Xt:=λ_=>true) (XP:=λ_ _=>True) (Yf:=λs=>obs (zfw s.heap)) (Ya:=λ_=>good) (YP:=λ_ h=>∃K:Frag,obs K=good/\K.In h) (N:=N) left
  (λw s e=>⟨_,e,z3u⟩) (λw h h' ⟨K,e,k⟩ x=>⟨K,e,k.keeps x⟩) (λ_ _=>trivial) (λ_ _ _ _ _=>trivial) hdef hp hk (λs _=>?_) ?_ said ok hb hw (λw s₀ s₁ mg mb φ σ=>?_)
 ·exact(show RecFacts [] s.heap from⟨λx h=>(nomatch h),λx h=>(nomatch h),λc c' a hc=>(nomatch hc),λc fs hf=>(nomatch hf)⟩)
 ·show(!l.row.writes||true)=true;exact Bool.or_true _
 ·obtain⟨K,e,k⟩:=σ;exact walk K e w s₀ s₁ mg mb φ k
end M
namespace P
local macro_rules | `(tactic| walk_at "s") => `(tactic| exact ⟨rfl, rfl, rfl, by decide +kernel, rfl, by decide +kernel, by decide +kernel⟩)
open PySem PySem.Spec PyProof.Rows L2 M
def top(i:Nat):Yg:=PySem.Challenge.pw_keynests_k59_whole_carried_along.main.body.getD i (.Pass ⟨0,0,0,0⟩)
def zhl:List yF:=["_law_script"]
def z5f:FS:=(zec (zDk (ze (zh 0) (ze (fOr (zu gEq (zo zWi (ze (zh 0) zy)) (fC (.int 0))) (zu gEq (zu zTn (zu gIx (zh 0) (fC (.int 0))) (fC (.int 2))) (fC (.int 0)))) (ze (fC (.int 0)) (ze (fC (.int 0)) zy))))))
def zag:FF:=λds μ=>zxb (z5f (zL zhl ds) μ)
def zfi:List yF:=["_law_script","_law_k","_law_cell","_law_one","_law_two"]
def z6d:FS:=(z9 (zgc 2 (fC (.int 29))) (z9 (sIf (z5 (zu (zyn λi j=>decide (j<i)) (zo zWi (ze (zh 0) zy)) (fC (.int 0)))) (zgc 2 (zu gIx (zh 0) (zu zTn (zh 1) (zo zWi (ze (zh 0) zy))))) zsc) (z9 (zgc 3 (zu zTn (zu z2f (zu zNi (zu z2f (zu z2f (zh 2) (zu zNi (fC (.int 40503)) (zh 1))) (fC (.int 1))) (fC (.int 48271))) (zu zNi (zh 1) (zh 1))) (fC (.int 2147483647)))) (z9 (zgc 4 (zu zTn (zu z2f (zu z2f (zu zNi (zh 3) (zh 3)) (zu zNi (fC (.int 69621)) (zh 3))) (zu zNi (fC (.int 31)) (zh 1))) (fC (.int 2147483629)))) (zec (zu zTn (zu z2f (zu z2f (zu zNi (zh 4) (zh 4)) (zu zNi (fC (.int 16807)) (zh 4))) (zh 1)) (fC (.int 1073741789))))))))
def zWd:FF:=λds μ=>zxb (z6d (zL zfi ds) μ)
def zVj:List yF:=["_law_pen_here","_law_many","_law_script","_law_is_mixed","_law_k","_law_rest"]
def zhf:FS:=(z9 (zXp (zh 0) (gTL 4 (zbb (gN 2) (zbb (gN 3) (zbb (gN 4) (zbb (gN 5) zUe)))))) (z9 (zXp (zu z2f (zh 4) (fC (.int 1))) (gAt (zh 0) (fC (.int 2)))) (z9 (sIf (z5 (zh 3)) (zec (zu zTn (zo zWd (ze (zh 2) (ze (zh 4) zy))) (zh 1))) zsc) (z9 (sIf (z5 (zu gEq (zu zTn (zh 4) (fC (.int 60))) (fC (.int 0)))) (z9 (zgc 5 (fC (.int 0))) (sIf (z5 (zu (zyn λi j=>decide (i<j)) (zu z2f (zu znv (zh 4) (fC (.int 60))) (fC (.int 1))) (zo zWi (ze (zh 2) zy)))) (zgc 5 (zu gIx (zh 2) (zu z2f (zu znv (zh 4) (fC (.int 60))) (fC (.int 1))))) zsc)) zsc) (z9 (zXp (zu znv (zh 5) (zh 1)) (gAt (zh 0) (fC (.int 3)))) (zec (zu zTn (zh 5) (zh 1))))))))
def zr:FF:=λds μ=>zxb (zhf (zL zVj ds) μ)
def zFi:FE:=(zo zr (ze (zh 1) (ze (zh 2) zy)))
def zUd:FS:=(z9 (zgc 8 (zu z2f (fC (.int 2)) (zo zr (ze (zh 0) (ze (fC (.int 2)) zy))))) (z4j (ztf zFf (zh 6) (ze (zo z8d (ze (fLC 1 [0,2] (zGd (ze (zh 8) zy)) (gN 0) zqk zFi) zy)) zy))))
def zBf:FE:=(zo zr (ze (zh 1) (ze (zh 2) zy)))
def zZk:List yF:=["_law_pen_here","_law_many","_law_nests","_law_wide","_law_rooms","_law_at","_law_keys","_law_k","_law_size"]
def z3f:FS:=(z9 (zgc 2 (zu z2f (fC (.int 1)) (zo zr (ze (zh 0) (ze (fC (.int 6)) zy))))) (z9 (sIf (z5 (zu gEq (zo zr (ze (zh 0) (ze (fC (.int 8)) zy))) (fC (.int 5)))) (zgc 2 (zu z2f (fC (.int 5)) (zo zr (ze (zh 0) (ze (fC (.int 6)) zy))))) zsc) (z9 (zgc 3 (zu gIx (zDk (ze (fC (.int 2)) (ze (fC (.int 3)) (ze (fC (.int 3)) (ze (fC (.int 10)) zy))))) (zo zr (ze (zh 0) (ze (fC (.int 4)) zy))))) (z9 (zgc 4 (zo z8d (ze (fLC 1 [0,3] (zGd (ze (zh 2) zy)) (gN 0) zqk zBf) zy))) (z9 (sIf (z5 (zu gEq (zo zr (ze (zh 0) (ze (fC (.int 8)) zy))) (fC (.int 3)))) (z9 (zgc 5 (zo zr (ze (zh 0) (ze (zh 2) zy)))) (zgc 4 (zu z2f (zu z2f (fSl (zh 4) pNo (zzv (zh 5))) (zik (ze (zu z2f (zu gIx (zh 4) (zh 5)) (zu gIx (zDk (ze (fC (.int 1)) (ze (fC (.int 10)) (ze (zu zCv (fC (.int 10)) (fC (.int 40))) zy)))) (zo zr (ze (zh 0) (ze (fC (.int 3)) zy))))) zy))) (fSl (zh 4) (zzv (zu z2f (zh 5) (fC (.int 1)))) pNo)))) zsc) (z9 (zgc 6 (zDk zy)) (z9 (zIk (zGd (ze (zo zr (ze (zh 0) (ze (zh 1) zy))) zy)) (gN 7) zUd) (zec (zik (ze (zh 4) (ze (zo z8d (ze (zh 6) zy)) zy)))))))))))
def zXf:FF:=λds μ=>zxb (z3f (zL zZk ds) μ)
def zpg:FS:=(z4j (ztf zJj (zh 2) (ze (zo zr (ze (zh 0) (ze (zu z2f (zh 3) (fC (.int 1))) zy))) (ze (zh 3) zy))))
def zqi:List yF:=["_law_pen_here","_law_many","_law_found","_law_k"]
def zZd:FS:=(z9 (zgc 2 (zDk zy)) (z9 (zIk (zGd (ze (zh 1) zy)) (gN 3) zpg) (zec (zh 2))))
def zed:FF:=λds μ=>zxb (zZd (zL zqi ds) μ)
def zTh:FS:=(zXp (zh 4) (gAt (zh 2) (zu gIx (zh 1) (zh 3))))
def zEo:List yF:=["things","order","told","place","thing"]
def z1i:FS:=(z9 (zgc 2 (zu zNi (zDk (ze (fC .non) zy)) (zo zWi (ze (zh 0) zy)))) (z9 (zIk (zLi (zh 0)) (gT 2 (zbb (gN 3) (zbb (gN 4) zUe))) zTh) (zec (zh 2))))
def z9d:FF:=λds μ=>zxb (z1i (zL zEo ds) μ)
def zoi:List yF:=["web","order"]
def zSd:FS:=(zec (zik (ze (zu gIx (zh 0) (fC (.int 0))) (ze (zo z8d (ze (zo z9d (ze (zu gIx (zh 0) (fC (.int 1))) (ze (zh 1) zy))) zy)) zy))))
def zad:FF:=λds μ=>zxb (zSd (zL zoi ds) μ)
def zCf:FE:=(zu gIx (zh 1) (zh 0))
def zEf:FE:=(zo z8d (ze (fLC 1 [1] (zwi (zh 0)) (gN 0) zqk zCf) zy))
def zNg:List yF:=["web","order","keys"]
def zmd:FS:=(z9 (zgc 2 (fLC 1 [1] (zwi (zu gIx (zh 0) (fC (.int 1)))) (gN 0) zqk zEf)) (zec (zik (ze (zo z8d (ze (zo z9d (ze (zu gIx (zh 0) (fC (.int 0))) (ze (zh 1) zy))) zy)) (ze (zo z8d (ze (zh 2) zy)) zy)))))
def zKc:FF:=λds μ=>zxb (zmd (zL zNg ds) μ)
def zqg:FE:=(zu gIx (zh 1) (zh 0))
def zpi:List yF:=["some","order"]
def z5d:FS:=(zec (zo zKm (ze (fLC 1 [1] (zwi (zh 0)) (gN 0) zqk zqg) zy)))
def zX:FF:=λds μ=>zxb (z5d (zL zpi ds) μ)
def zfj:FE:=(zu gIx (zu gIx (zh 1) (fC (.int 0))) (zh 0))
def zjm:List yF:=["web","nests"]
def zFh:FS:=(zec (zo ztw (ze (fLC 1 [0] (zwi (zh 1)) (gN 0) zqk zfj) zy)))
def zGc:FF:=λds μ=>zxb (zFh (zL zjm ds) μ)
def zGi:FS:=(z4j (ztf zku (zh 2) (ze (zu gIx (zu gIx (zh 0) (fC (.int 1))) (zh 3)) zy)))
def zUk:List yF:=["web","some","found","key"]
def zWf:FS:=(z9 (zgc 2 (zDk zy)) (z9 (zIk (zwi (zh 1)) (gN 3) zGi) (zec (z2p (zh 2)))))
def zSc:FF:=λds μ=>zxb (zWf (zL zUk ds) μ)
def zSk:List yF:=["web","some"]
def zhg:FS:=(zec (zu (zyn λi j=>decide (i<j)) (zo zGc (ze (zh 0) (ze (zo zSc (ze (zh 0) (ze (zh 1) zy))) zy))) (zo zWi (ze (zh 1) zy))))
def z3b:FF:=λds μ=>zxb (zhg (zL zSk ds) μ)
def zHd:FE:=(zu zdh (zh 0) (zh 1))
def zHe:List yF:=["homes","nests"]
def zac:FS:=(zec (zo z9w (ze (fLC 1 [1] (zwi (zh 0)) (gN 0) zqk zHd) zy)))
def z5b:FF:=λds μ=>zxb (zac (zL zHe ds) μ)
def zTm:FE:=(zh 0)
def zgm:FT:=(z5 (zo z5b (ze (zh 0) (ze (zh 1) zy))))
def zWr:List yF:=["web","nests"]
def zCl:FS:=(zec (zu z2f (zo zGc (ze (zh 0) (ze (zh 1) zy))) (zo zWi (ze (fLC 1 [1] (zwi (zu gIx (zh 0) (fC (.int 1)))) (gN 0) zgm zTm) zy))))
def zQj:FF:=λds μ=>zxb (zCl (zL zWr ds) μ)
def zrg:List yF:=["_law_web_here","_law_other","_law_nests","_law_keys","_law_some","_law_spots","_law_mine","_law_theirs"]
def z2c:FS:=(z9 (zgc 6 (zo zX (ze (zh 4) (ze (zh 3) zy)))) (z9 (zgc 7 (zo zX (ze (zh 5) (ze (zh 2) zy)))) (z9 (sIf (z5 (zu gNe (zo z3b (ze (zh 1) (ze (zh 6) zy))) (zo z3b (ze (zh 0) (ze (zh 4) zy))))) (zec (fC (.bl false))) zsc) (z9 (sIf (z5 (zu gNe (zo zSc (ze (zh 1) (ze (zh 6) zy))) (zo zX (ze (zo zSc (ze (zh 0) (ze (zh 4) zy))) (ze (zh 2) zy))))) (zec (fC (.bl false))) zsc) (zec (zMv (zu gEq (zo zGc (ze (zh 1) (ze (zh 7) zy))) (zo zGc (ze (zh 0) (ze (zh 5) zy)))) (zu gEq (zo zQj (ze (zh 1) (ze (zh 7) zy))) (zo zQj (ze (zh 0) (ze (zh 5) zy))))))))))
def z4c:FF:=λds μ=>zxb (z2c (zL zrg ds) μ)
def zpf:List yF:=["laying","order"]
def zmc:FS:=(zec (zo z9d (ze (zh 0) (ze (zh 1) zy))))
def zob:FF:=λds μ=>zxb (zmc (zL zpf ds) μ)
def zkt:FE:=(zu zav (zh 1) (ztf zrj (zh 2) (ze (zh 0) zy)))
def zQt:List yF:=["web","laying"]
def z3k:FS:=(zec (fLC 2 [1] (zLi (zu gIx (zh 0) (fC (.int 0)))) (gT 2 (zbb (gN 0) (zbb (gN 1) zUe))) zqk zkt))
def zmg:FF:=λds μ=>zxb (z3k (zL zQt ds) μ)
def zEi:List yF:=["nest","order"]
def zhe:FS:=(z9 (sIf (zNs (z5 (zu gIs (zh 0) (fC .non))) (zNs (z5 (zu (zyn λi j=>decide (i<j)) (zh 0) (fC (.int 0)))) (z5 (zu (zyn λi j=>decide (j<=i)) (zh 0) (zo zWi (ze (zh 1) zy)))))) (zec (zh 0)) zsc) (zec (zu gIx (zh 1) (zh 0))))
def zie:FF:=λds μ=>zxb (zhe (zL zEi ds) μ)
def zDd:FE:=(zo zie (ze (zh 0) (ze (zh 1) zy)))
def zJe:List yF:=["laying","order"]
def z7b:FS:=(zec (fLC 1 [1] (zwi (zh 0)) (gN 0) zqk zDd))
def zmb:FF:=λds μ=>zxb (z7b (zL zJe ds) μ)
def znr:FS:=(sIf (z5 (zu (zyn λi j=>decide (i<j)) (zh 4) (fC (.int 0)))) (zec (zik (ze (fC (.str "room")) (ze (zh 3) zy)))) zsc)
def zrr:FS:=(sIf (zEr (z5 (zu zNf (zh 3) (fC .non))) (z5 (zu zdh (zh 3) (zu gIx (zu gIx (zh 0) (fC (.int 1))) (zh 2))))) (zec (zik (ze (fC (.str "home")) (ze (zh 2) zy)))) zsc)
def zIq:List yF:=["web","laying","key","nest","room"]
def z8l:FS:=(z9 (zIk (zLi (zh 1)) (gT 2 (zbb (gN 2) (zbb (gN 3) zUe))) zrr) (z9 (zIk (zLi (zo zmg (ze (zh 0) (ze (zh 1) zy)))) (gT 2 (zbb (gN 3) (zbb (gN 4) zUe))) znr) (zec (fC .non))))
def zqe:FF:=λds μ=>zxb (z8l (zL zIq ds) μ)
def zJo:FE:=(zh 0)
def z5s:FT:=(z5 (zu zNf (zh 1) (fC .non)))
def zVt:List yF:=["laying"]
def zIo:FS:=(zec (fLC 2 [] (zLi (zh 0)) (gT 2 (zbb (gN 0) (zbb (gN 1) zUe))) z5s zJo))
def zqm:FF:=λds μ=>zxb (zIo (zL zVt ds) μ)
def zRd:FE:=(zu gEq (zu gIx (zh 1) (zu gIx (zh 2) (zh 0))) (zu gIx (zh 3) (zh 0)))
def zof:List yF:=["_law_web_here","_law_other","_law_nests","_law_keys","_law_laying","_law_moved_one","_law_mine","_law_theirs"]
def zoc:FS:=(z9 (zgc 5 (zo zob (ze (zo zmb (ze (zh 4) (ze (zh 2) zy))) (ze (zh 3) zy)))) (z9 (sIf (z5 (zu gNe (zu gIs (zo zqe (ze (zh 0) (ze (zh 4) zy))) (fC .non)) (zu gIs (zo zqe (ze (zh 1) (ze (zh 5) zy))) (fC .non)))) (zec (fC (.bl false))) zsc) (z9 (sIf (z5 (zu zNf (zo zqe (ze (zh 0) (ze (zh 4) zy))) (fC .non))) (zec (fC (.bl true))) zsc) (z9 (sIf (z5 (zu gNe (zo zqm (ze (zh 5) zy)) (zo zX (ze (zo zqm (ze (zh 4) zy)) (ze (zh 3) zy))))) (zec (fC (.bl false))) zsc) (z9 (zgc 6 (zo zmg (ze (zh 0) (ze (zh 4) zy)))) (z9 (zgc 7 (zo zmg (ze (zh 1) (ze (zh 5) zy)))) (zec (zo zgx (ze (fLC 1 [7,2,6] (zGd (ze (zo zWi (ze (zh 2) zy)) zy)) (gN 0) zqk zRd) zy)))))))))
def znc:FF:=λds μ=>zxb (zoc (zL zof ds) μ)
def zIm:FE:=(zh 0)
def zqq:FT:=(z5 (zu gEq (zh 1) (zh 2)))
def zKq:List yF:=["laying","nest"]
def z9l:FS:=(zec (fLC 2 [1] (zLi (zh 0)) (gT 2 (zbb (gN 0) (zbb (gN 1) zUe))) zqq zIm))
def zrl:FF:=λds μ=>zxb (z9l (zL zKq ds) μ)
def zjh:FS:=(sIf (z5 (zu z4h (zh 4) (zh 3))) (z9 (zXp (zik (ze (zh 7) (ze (zu gIx (zh 5) (zh 6)) zy))) (zyw (zh 3) (zh 4))) (z4j (ztf zFf (zh 5) (ze (zh 4) zy)))) zsc)
def zif:FS:=(zIk (zwi (zu gIx (zu gIx (zh 0) (fC (.int 1))) (zh 7))) (gN 4) zjh)
def zRg:FS:=(z9 (zIk (zwi (zo zrl (ze (zh 1) (ze (zu gIx (zh 5) (zh 6)) zy)))) (gN 7) zif) (zXw 6 zts (fC (.int 1))))
def zoh:FS:=(zXp (zik (ze (zh 2) (ze (fC .non) zy))) (zyw (zh 3) (zh 4)))
def zij:List yF:=["web","laying","key","pushes","nest","nests","at","other"]
def z0e:FS:=(z9 (zgc 3 zPx) (z9 (zIk (zwi (zu gIx (zu gIx (zh 0) (fC (.int 1))) (zh 2))) (gN 4) zoh) (z9 (zgc 5 (zo zan (ze (zh 3) zy))) (z9 (zgc 6 (fC (.int 0))) (z9 (zKk 100000 (z5 (zu (zyn λi j=>decide (i<j)) (zh 6) (zo zWi (ze (zh 5) zy)))) zRg) (zec (zh 3)))))))
def zcf:FF:=λds μ=>zxb (z0e (zL zij ds) μ)
def zGk:FS:=(z9 (z4j (ztf zFf (zh 2) (ze (zik (ze (zu gIx (zu zdv (zh 0) (zh 1)) (fC (.int 0))) (ze (zh 1) zy))) zy))) (zgc 1 (zu gIx (zu zdv (zh 0) (zh 1)) (fC (.int 1)))))
def zWo:List yF:=["pushes","nest","row"]
def zUi:FS:=(z9 (zgc 2 (zDk zy)) (z9 (zKk 100000 (z5 (zu zNf (zh 1) (fC .non))) zGk) (zec (zFs (zh 2)))))
def z2i:FF:=λds μ=>zxb (zUi (zL zWo ds) μ)
def zYk:FE:=(zh 0)
def zPk:FT:=(zNs (z5 (zu gEq (zh 0) (zh 2))) (z5 (zu zAn (zh 1) (zh 3))))
def z0k:FS:=(sIf (z5 (zu (zyn λi j=>decide (j<i)) (zu gIx (zh 4) (zh 5)) (fC (.int 0)))) (zec (zik (ze (fC (.str "put")) (ze (zo z2i (ze (zh 3) (ze (zh 5) zy))) zy)))) zsc)
def zbp:List yF:=["web","laying","key","pushes","room","nest"]
def z0i:FS:=(z9 (zgc 3 (zo zcf (ze (zh 0) (ze (zh 1) (ze (zh 2) zy))))) (z9 (zgc 4 (zo zmg (ze (zh 0) (ze (zh 1) zy)))) (z9 (zIk (zuv (zh 3)) (gN 5) z0k) (zec (zik (ze (fC (.str "full")) (ze (fLC 2 [2,3] (zLi (zh 1)) (gT 2 (zbb (gN 0) (zbb (gN 1) zUe))) zPk zYk) zy)))))))
def zPi:FF:=λds μ=>zxb (z0i (zL zbp ds) μ)
def zzj:FE:=(zu gIx (zh 0) (fC (.int 0)))
def zrn:List yF:=["web","laying","row","at","key"]
def zbh:FS:=(z9 (zgc 4 (zu gIx (zu gIx (zh 2) (zh 3)) (fC (.int 0)))) (z9 (sIf (zNs (z5 (zu (zyn λi j=>decide (i<j)) (zh 4) (fC (.int 0)))) (z5 (zu (zyn λi j=>decide (j<=i)) (zh 4) (zo zWi (ze (zh 1) zy))))) (zec (fC (.bl false))) zsc) (z9 (sIf (zNs (z5 (zu zdh (zu gIx (zu gIx (zh 2) (zh 3)) (fC (.int 1))) (zu gIx (zu gIx (zh 0) (fC (.int 1))) (zh 4)))) (z5 (zu gEq (zu gIx (zu gIx (zh 2) (zh 3)) (fC (.int 1))) (zu gIx (zh 1) (zh 4))))) (zec (fC (.bl false))) zsc) (zec (zu zdh (zh 4) (fLC 1 [] (zwi (fSl (zh 2) pNo (zzv (zh 3)))) (gN 0) zqk zzj))))))
def zwh:FF:=λds μ=>zxb (zbh (zL zrn ds) μ)
def zmn:List yF:=["laying","key","row","at"]
def z1g:FS:=(z9 (sIf (z5 (zu gEq (zh 3) (fC (.int 0)))) (zec (zu gEq (zu gIx (zu gIx (zh 2) (fC (.int 0))) (fC (.int 0))) (zh 1))) zsc) (zec (zu gEq (zu gIx (zh 0) (zu gIx (zu gIx (zh 2) (zh 3)) (fC (.int 0)))) (zu gIx (zu gIx (zh 2) (zu zav (zh 3) (fC (.int 1)))) (fC (.int 1))))))
def zrh:FF:=λds μ=>zxb (z1g (zL zmn ds) μ)
def zil:FS:=(z9 (sIf (z7q (zEr (z5 (zo zwh (ze (zh 0) (ze (zh 1) (ze (zh 3) (ze (zh 5) zy)))))) (z5 (zo zrh (ze (zh 1) (ze (zh 2) (ze (zh 3) (ze (zh 5) zy)))))))) zEq zsc) (zXp (zu gIx (zh 6) (fC (.int 1))) (gAt (zh 4) (zu gIx (zh 6) (fC (.int 0))))))
def zFo:List yF:=["web","laying","key","row","behind","at","push"]
def z9i:FS:=(z9 (zgc 4 (zo z2r (ze (zh 1) zy))) (z9 (zIk (zLi (zh 3)) (gT 2 (zbb (gN 5) (zbb (gN 6) zUe))) zil) (z9 (sIf (zNs (z5 (zu gEq (zo zWi (ze (zh 3) zy)) (fC (.int 0)))) (z5 (zu zNf (zo zqe (ze (zh 0) (ze (zh 4) zy))) (fC .non)))) zEq zsc) (zec (zh 4)))))
def zTi:FF:=λds μ=>zxb (z9i (zL zFo ds) μ)
def zuh:FS:=(z9 (zgc 5 (zo zPi (ze (zh 0) (ze (zh 1) (ze (zh 4) zy))))) (sIf (z5 (zu gEq (zu gIx (zh 5) (fC (.int 0))) (fC (.str "put")))) (zgc 1 (zo zTi (ze (zh 0) (ze (zh 1) (ze (zh 4) (ze (zu gIx (zh 5) (fC (.int 1))) zy)))))) (z4j (ztf zku (zh 3) (ze (zu gIx (zh 5) (fC (.int 1))) zy)))))
def z1j:List yF:=["web","laying","keys","crowded","key","told"]
def zkf:FS:=(z9 (zgc 3 (zDk zy)) (z9 (zIk (zwi (zh 2)) (gN 4) zuh) (zec (zik (ze (zh 1) (ze (z2p (zh 3)) zy))))))
def z5e:FF:=λds μ=>zxb (zkf (zL z1j ds) μ)
def z0g:List yF:=["web"]
def zvd:FS:=(zec (zo z5e (ze (zh 0) (ze (zu zNi (zDk (ze (fC .non) zy)) (zo zWi (ze (zu gIx (zh 0) (fC (.int 1))) zy))) (ze (z1l (zo zWi (ze (zu gIx (zh 0) (fC (.int 1))) zy))) zy)))))
def zrd:FF:=λds μ=>zxb (zvd (zL z0g ds) μ)
def zDh:FE:=(zh 0)
def zzl:FT:=(z5 (zu gNe (zh 0) (zh 1)))
def zXg:FS:=(sIf (z5 (zo z3b (ze (zh 0) (ze (fLC 1 [2] (zwi (zh 1)) (gN 0) zzl zDh) zy)))) (zec (zh 2)) zsc)
def zlj:List yF:=["web","some","key"]
def zlf:FS:=(z9 (zIk (zwi (zh 1)) (gN 2) zXg) (zec (fC .non)))
def zLd:FF:=λds μ=>zxb (zlf (zL zlj ds) μ)
def zbk:FS:=(z9 (z4j (ztf zOh (zh 2) (ze (zh 3) zy))) (zgc 3 (zo zLd (ze (zh 0) (ze (zh 2) zy)))))
def zDm:List yF:=["web","some","rest","spare"]
def zQg:FS:=(z9 (zgc 2 (zo z2r (ze (zh 1) zy))) (z9 (zgc 3 (zo zLd (ze (zh 0) (ze (zh 2) zy)))) (z9 (zKk 100000 (z5 (zu zNf (zh 3) (fC .non))) zbk) (zec (zh 2)))))
def zth:FF:=λds μ=>zxb (zQg (zL zDm ds) μ)
def zXo:List yF:=["web","told"]
def z8i:FS:=(z9 (zgc 1 (zo zrd (ze (zh 0) zy))) (z9 (sIf (z5 (zu gEq (zu gIx (zh 1) (fC (.int 1))) (zDk zy))) (zec (zik (ze (fC (.str "fits")) (ze (zu gIx (zh 1) (fC (.int 0))) zy)))) zsc) (zec (zik (ze (fC (.str "crowd")) (ze (zo zth (ze (zh 0) (ze (zu gIx (zh 1) (fC (.int 1))) zy))) zy))))))
def zch:FF:=λds μ=>zxb (z8i (zL zXo ds) μ)
def zlg:FE:=(ztf zbl (zh 1) (ze (zh 0) zy))
def zri:List yF:=["_law_order_here"]
def zce:FS:=(zec (fLC 1 [0] (zGd (ze (zo zWi (ze (zh 0) zy)) zy)) (gN 0) zqk zlg))
def zyc:FF:=λds μ=>zxb (zce (zL zri ds) μ)
def zvk:List yF:=["laying"]
def zig:FS:=(zec (zu zdh (fC .non) (zh 0)))
def zVf:FF:=λds μ=>zxb (zig (zL zvk ds) μ)
def zGj:List yF:=["_law_web_here","_law_other","_law_nests","_law_keys","_law_word","_law_found","_law_back"]
def zef:FS:=(z9 (zXp (zo zch (ze (zh 1) zy)) (gT 2 (zbb (gN 4) (zbb (gN 5) zUe)))) (z9 (sIf (z5 (zu gNe (zh 4) (zu gIx (zo zch (ze (zh 0) zy)) (fC (.int 0))))) (zec (fC (.bl false))) zsc) (z9 (sIf (z5 (zu gEq (zh 4) (fC (.str "crowd")))) (zec (zo z3b (ze (zh 0) (ze (zo zX (ze (zh 5) (ze (zo zyc (ze (zh 3) zy)) zy))) zy)))) zsc) (z9 (zgc 6 (zo zmb (ze (zo zob (ze (zh 5) (ze (zo zyc (ze (zh 3) zy)) zy))) (ze (zo zyc (ze (zh 2) zy)) zy)))) (zec (zMv (zu gIs (zo zqe (ze (zh 0) (ze (zh 6) zy))) (fC .non)) (zo zVf (ze (zh 6) zy))))))))
def zaf:FF:=λds μ=>zxb (zef (zL zGj ds) μ)
def zSg:FS:=(sIf (zEr (z5 (zu gIn (zh 4) (zh 5))) (z5 (zu z4h (zh 6) (zh 2)))) (z9 (zXp (fC (.bl true)) (zyw (zh 2) (zh 6))) (z4j (ztf zFf (zh 3) (ze (zh 6) zy)))) zsc)
def zCh:FS:=(zIk (zwi (zh 5)) (gN 6) zSg)
def zPe:FS:=(z9 (zgc 4 (zHo zUw (zh 3))) (zIk (zwi (zu gIx (zh 0) (fC (.int 1)))) (gN 5) zCh))
def zqj:List yF:=["web","nest","nests","rest","here","homes","other"]
def zgf:FS:=(z9 (zgc 2 (zex (zh 1) (fC (.bl true)))) (z9 (zgc 3 (zDk (ze (zh 1) zy))) (z9 (zKk 100000 (z5 (zu gNe (zh 3) (zDk zy))) zPe) (zec (zo zom (ze (zh 2) zy))))))
def zZe:FF:=λds μ=>zxb (zgf (zL zqj ds) μ)
def zpj:FE:=(zh 0)
def zcj:FT:=(z5 (zu gIn (zu gIx (zh 1) (fC (.int 0))) (zh 2)))
def z9m:List yF:=["web","nest","nests"]
def zfh:FS:=(z9 (zgc 2 (zo zZe (ze (zh 0) (ze (zh 1) zy)))) (zec (zik (ze (zh 2) (ze (fLC 2 [2] (zLi (zu gIx (zh 0) (fC (.int 1)))) (gT 2 (zbb (gN 0) (zbb (gN 1) zUe))) zcj zpj) zy)))))
def zgh:FF:=λds μ=>zxb (zfh (zL z9m ds) μ)
def zvm:FE:=(zh 1)
def znm:FT:=(z5 (zu gEq (zu gIx (zu gIx (zh 1) (fC (.int 0))) (fC (.int 0))) (zh 0)))
def zcn:FE:=(zo zgh (ze (zh 1) (ze (zh 0) zy)))
def z2q:List yF:=["web","found"]
def zKl:FS:=(z9 (zgc 1 (fLC 1 [0] (zGd (ze (zo zWi (ze (zu gIx (zh 0) (fC (.int 0))) zy)) zy)) (gN 0) zqk zcn)) (zec (fLC 2 [] (zLi (zh 1)) (gT 2 (zbb (gN 0) (zbb (gN 1) zUe))) znm zvm)))
def zck:FF:=λds μ=>zxb (zKl (zL z2q ds) μ)
def zuq:FE:=(zik (ze (zo zX (ze (zh 0) (ze (zh 2) zy))) (ze (zo zX (ze (zh 1) (ze (zh 3) zy))) zy)))
def zho:FE:=(zu gIx (zDk (ze (fC .non) (ze (zu gIx (zh 0) (zo zr (ze (zh 1) (ze (zo zWi (ze (zh 0) zy)) zy)))) zy))) (zo znt (ze (fC (.int 1)) (ze (zo zr (ze (zh 1) (ze (fC (.int 3)) zy))) zy))))
def zwq:FE:=(zh 0)
def zjs:FT:=(z5 (zu gEq (zo zr (ze (zh 1) (ze (fC (.int 2)) zy))) (fC (.int 0))))
def ztq:FE:=(zh 0)
def zHr:FT:=(z5 (zu gEq (zo zr (ze (zh 1) (ze (fC (.int 2)) zy))) (fC (.int 0))))
def zgw:List yF:=["_law_script","_law_pen_here","_law_web_here","_law_nests","_law_keys","_law_other","_law_some","_law_spots","_law_laying","_law_due"]
def zbt:FS:=(z9 (zgc 1 (zo zag (ze (zh 0) zy))) (z9 (zgc 2 (zo zXf (ze (zh 1) (ze (fC (.int 13)) zy)))) (z9 (zgc 3 (zo zed (ze (zh 1) (ze (zo zWi (ze (zu gIx (zh 2) (fC (.int 0))) zy)) zy)))) (z9 (zgc 4 (zo zed (ze (zh 1) (ze (zo zWi (ze (zu gIx (zh 2) (fC (.int 1))) zy)) zy)))) (z9 (zgc 5 (zo zad (ze (zo zKc (ze (zh 2) (ze (zh 3) zy))) (ze (zh 4) zy)))) (z9 (sIf (zNs (z5 (zu gNe (zo zKc (ze (zo zad (ze (zh 2) (ze (zh 4) zy))) (ze (zh 3) zy))) (zh 5))) (z7q (z5 (zo zaf (ze (zh 2) (ze (zh 5) (ze (zh 3) (ze (zh 4) zy)))))))) (zec (fC (.bl false))) zsc) (z9 (zgc 6 (fLC 1 [1] (zGd (ze (zo zWi (ze (zh 4) zy)) zy)) (gN 0) zHr ztq)) (z9 (zgc 7 (fLC 1 [1] (zGd (ze (zo zWi (ze (zh 3) zy)) zy)) (gN 0) zjs zwq)) (z9 (sIf (z7q (z5 (zo z4c (ze (zh 2) (ze (zh 5) (ze (zh 3) (ze (zh 4) (ze (zh 6) (ze (zh 7) zy))))))))) (zec (fC (.bl false))) zsc) (z9 (zgc 8 (fLC 1 [1] (zwi (zu gIx (zh 2) (fC (.int 1)))) (gN 0) zqk zho)) (z9 (zgc 9 (zo zkl (ze (fLC 2 [3,4] (zwi (zo zck (ze (zh 2) zy))) (gT 2 (zbb (gN 0) (zbb (gN 1) zUe))) zqk zuq) zy))) (zec (zMv (zo znc (ze (zh 2) (ze (zh 5) (ze (zh 3) (ze (zh 4) (ze (zh 8) zy)))))) (zu gEq (zo zck (ze (zh 5) zy)) (zh 9)))))))))))))))
def zIp:FF:=λds μ=>zxb (zbt (zL zgw ds) μ)
structure Txt(K:yz)(mg:yF->Option yb):Prop where
 n_all:mg "all"=none
 n_any:mg "any"=none
 tI:mg "enumerate"=none
 tZ:mg "len"=none
 TX:mg "list"=none
 n_min:mg "min"=none
 Td:mg "range"=none
 sH:mg "reversed"=none
 n_set:mg "set"=none
 Ts:mg "sorted"=none
 n_sum:mg "sum"=none
 Tn:mg "tuple"=none
def zWv:yI "all"=some (.builtin "all"):=by decide +kernel
def zsw:yI "any"=some (.builtin "any"):=by decide +kernel
def zjb:yI "enumerate"=some (.type "enumerate"):=by decide +kernel
def zic:yI "len"=some (.builtin "len"):=by decide +kernel
def z5j:yI "list"=some (.type "list"):=by decide +kernel
def zQv:yI "min"=some (.builtin "min"):=by decide +kernel
def zno:yI "reversed"=some (.type "reversed"):=by decide +kernel
def zZt:yI "set"=some (.type "set"):=by decide +kernel
def zJf:yI "sorted"=some (.builtin "sorted"):=by decide +kernel
def zcw:yI "sum"=some (.builtin "sum"):=by decide +kernel
def zSe:yI "tuple"=some (.type "tuple"):=by decide +kernel
section
variable {P:yy}{w:yH}{K:yz}{mg:yF->Option yb}{base:Yb}
set_option maxHeartbeats 4000000
abbrev zeg:Yg:=top 42
abbrev zWc:List yF:=["_law_script"]
def z0n:tm zhl zWc (zn zeg):=by walk_at "s"
def zUm(T:Txt K mg){f:yg}{fd:yk}(B:FnAt K mg "_law_pen" zeg zWc f fd):tq P w K mg base CX0 1 f fd zWc (spM K 1 zag):=by
 refine fnM B.fn z0n rfl (λcdv A outer s H E hr=>⟨z5f,?_,λ_ _ _ _ _ e=>e⟩);have hu:=hr.units;exact(zj (zA (z1d (za (mv 0) (za (z9x (zMd (zcc hu) (zO zU T.tZ zic (za (mv 0) zd)) zm) (z0o (zMd (zcc hu) (zyb zAf (zM (mv 0) zm) zm) zm))) (za zm (za zm zd)))))))
abbrev zVd:Yg:=top 43
abbrev z8b:List yF:=["_law_script","_law_k"]
def Ta:tm zfi z8b (zn zVd):=by walk_at "s"
def zek(T:Txt K mg){f:yg}{fd:yk}(B:FnAt K mg "_law_mixed" zVd z8b f fd):tq P w K mg base CX0 1 f fd z8b (spM K 2 zWd):=by
 refine fnM B.fn Ta rfl (λcdv A outer s H E hr=>⟨z6d,?_,λ_ _ _ _ _ e=>e⟩);have hu:=hr.units;exact(zg (zK 2 zm (hN:=Ta.nd)) (zg (zEc (zP z0t (zO zU T.tZ zic (za (mv 0) zd)) zm) (zj (zK 2 (zM (mv 0) (zyb zAf (mv 1) (zO zU T.tZ zic (za (mv 0) zd)))) (hN:=Ta.nd))) z6) (zg (zK 3 (zyb zAf (zyb zHb (zyb zpe (zyb zHb (zyb zHb (mv 2) (zyb zpe zm (mv 1))) zm) zm) (zyb zpe (mv 1) (mv 1))) zm) (hN:=Ta.nd)) (zg (zK 4 (zyb zAf (zyb zHb (zyb zHb (zyb zpe (mv 3) (mv 3)) (zyb zpe zm (mv 3))) (zyb zpe zm (mv 1))) zm) (hN:=Ta.nd)) (zj (zA (zyb zAf (zyb zHb (zyb zHb (zyb zpe (mv 4) (mv 4)) (zyb zpe zm (mv 4))) (mv 1)) zm)))))))
abbrev zRc:Yg:=top 44
abbrev zib:List yF:=["_law_pen_here","_law_many"]
def tS:tm zVj zib (zn zRc):=by walk_at "s"
def zGl(T:Txt K mg){zsi:yg}{zqh:yk}(zYd:FnAt K mg "_law_mixed" zVd z8b zsi zqh)(zYe:tq P w K mg base CX0 1 zsi zqh z8b (spM K 2 zWd)){f:yg}{fd:yk}(B:FnAt K mg "_law_take" zRc zib f fd):tq P w K mg base CX0 2 f fd zib (spM K 2 zr):=by
 refine fnM B.fn tS rfl (λcdv A outer s H E hr=>⟨zhf,?_,λ_ _ _ _ _ e=>e⟩);have hu:=hr.units;exact(zg (zJh (mv 0) (zvu (zTb (zhb 2 (hN:=tS.nd)) (zTb (zhb 3 (hN:=tS.nd)) (zTb (zhb 4 (hN:=tS.nd)) (zTb (zhb 5 (hN:=tS.nd)) zai)))))) (zg (zJh (zyb zHb (mv 4) zm) (zJs (mv 0) zm)) (zg (zEc (zTj (mv 3)) (zj (zA (zyb zAf (tj zYd zYe hr (za (mv 2) (za (mv 4) zd))) (mv 1)))) z6) (zg (zEc (zP (zcc hu) (zyb zAf (mv 4) zm) zm) (zg (zK 5 zm (hN:=tS.nd)) (zj (zEc (zP z4k (zyb zHb (zyb z7n (mv 4) zm) zm) (zO zU T.tZ zic (za (mv 2) zd))) (zj (zK 5 (zM (mv 2) (zyb zHb (zyb z7n (mv 4) zm) zm)) (hN:=tS.nd))) z6))) z6) (zg (zJh (zyb z7n (mv 5) (mv 1)) (zJs (mv 0) zm)) (zj (zA (zyb zAf (mv 5) (mv 1)))))))))
abbrev zYf:Yg:=top 45
abbrev zYc:List yF:=["_law_pen_here","_law_many"]
def tJ:tm zZk zYc (zn zYf):=by walk_at "s"
def zwm(T:Txt K mg){z0b:yg}{zFb:yk}(zz:FnAt K mg "_law_take" zRc zib z0b zFb)(zw:tq P w K mg base CX0 2 z0b zFb zib (spM K 2 zr)){f:yg}{fd:yk}(B:FnAt K mg "_law_web" zYf zYc f fd):tq P w K mg base CX0 3 f fd zYc (spM K 2 zXf):=by
 refine fnM B.fn tJ rfl (λcdv A outer s H E hr=>⟨z3f,?_,λ_ _ _ _ _ e=>e⟩);have hu:=hr.units;exact(zg (zK 2 (zyb zHb zm (tj zz zw hr (za (mv 0) (za zm zd)))) (hN:=tJ.nd)) (zg (zEc (zP (zcc hu) (tj zz zw hr (za (mv 0) (za zm zd))) zm) (zj (zK 2 (zyb zHb zm (tj zz zw hr (za (mv 0) (za zm zd)))) (hN:=tJ.nd))) z6) (zg (zK 3 (zM (z1d (za zm (za zm (za zm (za zm zd))))) (tj zz zw hr (za (mv 0) (za zm zd)))) (hN:=tJ.nd)) (zg (zK 4 (z6c zqc T.Tn zSe (za (mlc ["_law_nest"] [0,3] (zqd T.Td (za (mv 2) zd)) (λ_ _ _ _ _=>(zE 0 (hN:=zF (by rfl)))) (λ_ _ _ _ _=>zJd) (λ_ _ _ _ _=>(tj zz zw hr (za (mv 1) (za (mv 2) zd)))) (z8 ⟨_,rfl,rfl⟩ (z8 ⟨_,rfl,rfl⟩ zSb))) zd)) (hN:=tJ.nd)) (zg (zEc (zP (zcc hu) (tj zz zw hr (za (mv 0) (za zm zd))) zm) (zg (zK 5 (tj zz zw hr (za (mv 0) (za (mv 2) zd))) (hN:=tJ.nd)) (zj (zK 4 (zyb zHb (zyb zHb (zuu (mv 4) zpv (zVq (mv 5))) (zid (za (zyb zHb (zM (mv 4) (mv 5)) (zM (z1d (za zm (za zm (za (zyb zLu zm zm) zd)))) (tj zz zw hr (za (mv 0) (za zm zd))))) zd))) (zuu (mv 4) (zVq (zyb zHb (mv 5) zm)) zpv)) (hN:=tJ.nd)))) z6) (zg (zK 6 (z1d zd) (hN:=tJ.nd)) (zg (zPd (zqd T.Td (za (tj zz zw hr (za (mv 0) (za (mv 1) zd))) zd)) (zhb 7 (hN:=tJ.nd)) (zg (zK 8 (zyb zHb zm (tj zz zw hr (za (mv 0) (za zm zd)))) (hN:=tJ.nd)) (zj (zUf (zyh (mv 6) (za (z6c zqc T.Tn zSe (za (mlc ["_law_j"] [0,2] (zqd T.Td (za (mv 8) zd)) (λ_ _ _ _ _=>(zE 0 (hN:=zF (by rfl)))) (λ_ _ _ _ _=>zJd) (λ_ _ _ _ _=>(tj zz zw hr (za (mv 1) (za (mv 2) zd)))) (z8 ⟨_,rfl,rfl⟩ (z8 ⟨_,rfl,rfl⟩ zSb))) zd)) zd)))))) (zj (zA (zid (za (mv 4) (za (z6c zqc T.Tn zSe (za (mv 6) zd)) zd))))))))))))
abbrev zXd:Yg:=top 46
abbrev z9b:List yF:=["_law_pen_here","_law_many"]
def Tj:tm zqi z9b (zn zXd):=by walk_at "s"
def zfk(T:Txt K mg){z0b:yg}{zFb:yk}(zz:FnAt K mg "_law_take" zRc zib z0b zFb)(zw:tq P w K mg base CX0 2 z0b zFb zib (spM K 2 zr)){f:yg}{fd:yk}(B:FnAt K mg "_law_order" zXd z9b f fd):tq P w K mg base CX0 3 f fd z9b (spM K 2 zed):=by
 refine fnM B.fn Tj rfl (λcdv A outer s H E hr=>⟨zZd,?_,λ_ _ _ _ _ e=>e⟩);have hu:=hr.units;exact(zg (zK 2 (z1d zd) (hN:=Tj.nd)) (zg (zPd (zqd T.Td (za (mv 1) zd)) (zhb 3 (hN:=Tj.nd)) (zj (zUf (ztr (mv 2) (za (tj zz zw hr (za (mv 0) (za (zyb zHb (mv 3) zm) zd))) (za (mv 3) zd)))))) (zj (zA (mv 2)))))
abbrev z6f:Yg:=top 1
abbrev zjc:List yF:=["things","order"]
def Tx:tm zEo zjc (zn z6f):=by walk_at "s"
def z1p(T:Txt K mg){f:yg}{fd:yk}(B:FnAt K mg "placed" z6f zjc f fd):tq P w K mg base CX0 1 f fd zjc (spM K 2 z9d):=by
 refine fnM B.fn Tx rfl (λcdv A outer s H E hr=>⟨z1i,?_,λ_ _ _ _ _ e=>e⟩);have hu:=hr.units;exact(zg (zK 2 (zyb zpe (z1d (za zbd zd)) (zO zU T.tZ zic (za (mv 0) zd))) (hN:=Tx.nd)) (zg (zPd (zte T.tI zjb (mv 0)) (zun (zTb (zhb 3 (hN:=Tx.nd)) (zTb (zhb 4 (hN:=Tx.nd)) zai))) (zj (zJh (mv 4) (zJs (mv 2) (zM (mv 1) (mv 3)))))) (zj (zA (mv 2)))))
abbrev z2d:Yg:=top 3
abbrev z1b:List yF:=["web","order"]
def zWl:tm zoi z1b (zn z2d):=by walk_at "s"
def zhk(T:Txt K mg){zbe:yg}{zgd:yk}(zZc:FnAt K mg "placed" z6f zjc zbe zgd)(zIc:tq P w K mg base CX0 1 zbe zgd zjc (spM K 2 z9d)){f:yg}{fd:yk}(B:FnAt K mg "keys_named" z2d z1b f fd):tq P w K mg base CX0 2 f fd z1b (spM K 2 zad):=by
 refine fnM B.fn zWl rfl (λcdv A outer s H E hr=>⟨zSd,?_,λ_ _ _ _ _ e=>e⟩);have hu:=hr.units;exact(zj (zA (zid (za (zM (mv 0) zm) (za (z6c zqc T.Tn zSe (za (tj zZc zIc hr (za (zM (mv 0) zm) (za (mv 1) zd))) zd)) zd)))))
abbrev zjd:Yg:=top 2
abbrev zPb:List yF:=["web","order"]
def Tt:tm zNg zPb (zn zjd):=by walk_at "s"
def zak(T:Txt K mg){zbe:yg}{zgd:yk}(zZc:FnAt K mg "placed" z6f zjc zbe zgd)(zIc:tq P w K mg base CX0 1 zbe zgd zjc (spM K 2 z9d)){f:yg}{fd:yk}(B:FnAt K mg "nests_named" zjd zPb f fd):tq P w K mg base CX0 2 f fd zPb (spM K 2 zKc):=by
 refine fnM B.fn Tt rfl (λcdv A outer s H E hr=>⟨zmd,?_,λ_ _ _ _ _ e=>e⟩);have hu:=hr.units;exact(zg (sU 2 ["homes"] [1] (zHc (zM (mv 0) zm)) (λ_ _ _ _ _=>(zE 0 (hN:=zF (by rfl)))) (λ_ _ _ _ _=>zJd) (λ_ _ _ _ _=>(z6c zqc T.Tn zSe (za (mlc ["nest"] [1] (zHc (mv 0)) (λ_ _ _ _ _=>(zE 0 (hN:=zF (by rfl)))) (λ_ _ _ _ _=>zJd) (λ_ _ _ _ _=>(zM (mv 1) (mv 0))) (z8 ⟨_,rfl,rfl⟩ zSb)) zd))) (z8 ⟨_,rfl,rfl⟩ zSb) Tt.nd) (zj (zA (zid (za (z6c zqc T.Tn zSe (za (tj zZc zIc hr (za (zM (mv 0) zm) (za (mv 1) zd))) zd)) (za (z6c zqc T.Tn zSe (za (mv 2) zd)) zd))))))
abbrev zYb:Yg:=top 7
abbrev zV:List yF:=["some","order"]
def znl:tm zpi zV (zn zYb):=by walk_at "s"
def zsk(T:Txt K mg){f:yg}{fd:yk}(B:FnAt K mg "some_named" zYb zV f fd):tq P w K mg base CX0 1 f fd zV (spM K 2 zX):=by
 refine fnM B.fn znl rfl (λcdv A outer s H E hr=>⟨z5d,?_,λ_ _ _ _ _ e=>e⟩);have hu:=hr.units;exact(zj (zA (zO (zFn rfl) T.Ts zJf (za (mlc ["one"] [1] (zHc (mv 0)) (λ_ _ _ _ _=>(zE 0 (hN:=zF (by rfl)))) (λ_ _ _ _ _=>zJd) (λ_ _ _ _ _=>(zM (mv 1) (mv 0))) (z8 ⟨_,rfl,rfl⟩ zSb)) zd))))
abbrev zve:Yg:=top 28
abbrev zOb:List yF:=["web","nests"]
def zVp:tm zjm zOb (zn zve):=by walk_at "s"
def zoo(T:Txt K mg){f:yg}{fd:yk}(B:FnAt K mg "room_of" zve zOb f fd):tq P w K mg base CX0 1 f fd zOb (spM K 2 zGc):=by
 refine fnM B.fn zVp rfl (λcdv A outer s H E hr=>⟨zFh,?_,λ_ _ _ _ _ e=>e⟩);have hu:=hr.units;exact(zj (zA (zO (z0r rfl) T.n_sum zcw (za (mlc ["nest"] [0] (zHc (mv 1)) (λ_ _ _ _ _=>(zE 0 (hN:=zF (by rfl)))) (λ_ _ _ _ _=>zJd) (λ_ _ _ _ _=>(zM (zM (mv 1) zm) (mv 0))) (z8 ⟨_,rfl,rfl⟩ zSb)) zd))))
abbrev zwe:Yg:=top 27
abbrev zZb:List yF:=["web","some"]
def Tu:tm zUk zZb (zn zwe):=by walk_at "s"
def zrm(T:Txt K mg){f:yg}{fd:yk}(B:FnAt K mg "homes_of" zwe zZb f fd):tq P w K mg base CX0 1 f fd zZb (spM K 2 zSc):=by
 refine fnM B.fn Tu rfl (λcdv A outer s H E hr=>⟨zWf,?_,λ_ _ _ _ _ e=>e⟩);have hu:=hr.units;exact(zg (zK 2 (z1d zd) (hN:=Tu.nd)) (zg (zPd (zHc (mv 1)) (zhb 3 (hN:=Tu.nd)) (zj (zUf (z5m (mv 2) (za (zM (zM (mv 0) zm) (mv 3)) zd))))) (zj (zA (zgr T.Ts zJf T.n_set zZt (mv 2))))))
abbrev zwd:Yg:=top 30
abbrev zvb:List yF:=["web","some"]
def zHn:tm zSk zvb (zn zwd):=by walk_at "s"
def zin(T:Txt K mg){zdd:yg}{zBc:yk}(zXb:FnAt K mg "room_of" zve zOb zdd zBc)(zNb:tq P w K mg base CX0 1 zdd zBc zOb (spM K 2 zGc)){zKe:yg}{zId:yk}(ztc:FnAt K mg "homes_of" zwe zZb zKe zId)(zrc:tq P w K mg base CX0 1 zKe zId zZb (spM K 2 zSc)){f:yg}{fd:yk}(B:FnAt K mg "is_crowd" zwd zvb f fd):tq P w K mg base CX0 2 f fd zvb (spM K 2 z3b):=by
 refine fnM B.fn zHn rfl (λcdv A outer s H E hr=>⟨zhg,?_,λ_ _ _ _ _ e=>e⟩);have hu:=hr.units;exact(zj (zA (zMd z4k (tj zXb zNb hr (za (mv 0) (za (tj ztc zrc hr (za (mv 0) (za (mv 1) zd))) zd))) (zO zU T.tZ zic (za (mv 1) zd)))))
abbrev z6b:Yg:=top 35
abbrev zeb:List yF:=["homes","nests"]
def zLg:tm zHe zeb (zn z6b):=by walk_at "s"
def zFg(T:Txt K mg){f:yg}{fd:yk}(B:FnAt K mg "has_home_beyond" z6b zeb f fd):tq P w K mg base CX0 1 f fd zeb (spM K 2 z5b):=by
 refine fnM B.fn zLg rfl (λcdv A outer s H E hr=>⟨zac,?_,λ_ _ _ _ _ e=>e⟩);have hu:=hr.units;exact(zj (zA (zO (zor rfl) T.n_any zsw (za (mlc ["nest"] [1] (zHc (mv 0)) (λ_ _ _ _ _=>(zE 0 (hN:=zF (by rfl)))) (λ_ _ _ _ _=>zJd) (λ_ _ _ _ _=>(zMd zSf (mv 0) (mv 1))) (z8 ⟨_,rfl,rfl⟩ zSb)) zd))))
abbrev zvl:Yg:=top 36
abbrev zcg:List yF:=["web","nests"]
def zFt:tm zWr zcg (zn zvl):=by walk_at "s"
def zIr(T:Txt K mg){zdd:yg}{zBc:yk}(zXb:FnAt K mg "room_of" zve zOb zdd zBc)(zNb:tq P w K mg base CX0 1 zdd zBc zOb (spM K 2 zGc)){zDe:yg}{z0d:yk}(z2b:FnAt K mg "has_home_beyond" z6b zeb zDe z0d)(zPc:tq P w K mg base CX0 1 zDe z0d zeb (spM K 2 z5b)){f:yg}{fd:yk}(B:FnAt K mg "bound" zvl zcg f fd):tq P w K mg base CX0 2 f fd zcg (spM K 2 zQj):=by
 refine fnM B.fn zFt rfl (λcdv A outer s H E hr=>⟨zCl,?_,λ_ _ _ _ _ e=>e⟩);have hu:=hr.units;exact(zj (zA (zyb zHb (tj zXb zNb hr (za (mv 0) (za (mv 1) zd))) (zO zU T.tZ zic (za (mlc ["homes"] [1] (zHc (zM (mv 0) zm)) (λ_ _ _ _ _=>(zE 0 (hN:=zF (by rfl)))) (λ_ _ _ _ _=>(zPg (zTj (tj z2b zPc hr (za (mv 0) (za (mv 1) zd)))))) (λ_ _ _ _ _=>(mv 0)) (z8 ⟨_,rfl,rfl⟩ zSb)) zd)))))
abbrev z3c:Yg:=top 49
abbrev zEb:List yF:=["_law_web_here","_law_other","_law_nests","_law_keys","_law_some","_law_spots"]
def Te:tm zrg zEb (zn z3c):=by walk_at "s"
def zKi(T:Txt K mg){zcb:yg}{zZ:yk}(zH:FnAt K mg "some_named" zYb zV zcb zZ)(zD:tq P w K mg base CX0 1 zcb zZ zV (spM K 2 zX)){zvc:yg}{zWb:yk}(zBb:FnAt K mg "is_crowd" zwd zvb zvc zWb)(zwb:tq P w K mg base CX0 2 zvc zWb zvb (spM K 2 z3b)){zKe:yg}{zId:yk}(ztc:FnAt K mg "homes_of" zwe zZb zKe zId)(zrc:tq P w K mg base CX0 1 zKe zId zZb (spM K 2 zSc)){zdd:yg}{zBc:yk}(zXb:FnAt K mg "room_of" zve zOb zdd zBc)(zNb:tq P w K mg base CX0 1 zdd zBc zOb (spM K 2 zGc)){zSq:yg}{zjp:yk}(zuj:FnAt K mg "bound" zvl zcg zSq zjp)(zSi:tq P w K mg base CX0 2 zSq zjp zcg (spM K 2 zQj)){f:yg}{fd:yk}(B:FnAt K mg "_law_of_some" z3c zEb f fd):tq P w K mg base CX0 3 f fd zEb (spM K 6 z4c):=by
 refine fnM B.fn Te rfl (λcdv A outer s H E hr=>⟨z2c,?_,λ_ _ _ _ _ e=>e⟩);have hu:=hr.units;exact(zg (zK 6 (tj zH zD hr (za (mv 4) (za (mv 3) zd))) (hN:=Te.nd)) (zg (zK 7 (tj zH zD hr (za (mv 5) (za (mv 2) zd))) (hN:=Te.nd)) (zg (zEc (zP (zii hu) (tj zBb zwb hr (za (mv 1) (za (mv 6) zd))) (tj zBb zwb hr (za (mv 0) (za (mv 4) zd)))) (zj (zA zJi)) z6) (zg (zEc (zP (zii hu) (tj ztc zrc hr (za (mv 1) (za (mv 6) zd))) (tj zH zD hr (za (tj ztc zrc hr (za (mv 0) (za (mv 4) zd))) (za (mv 2) zd)))) (zj (zA zJi)) z6) (zj (zA (zMq (zMd (zcc hu) (tj zXb zNb hr (za (mv 1) (za (mv 7) zd))) (tj zXb zNb hr (za (mv 0) (za (mv 5) zd)))) (z0o (zMd (zcc hu) (tj zuj zSi hr (za (mv 1) (za (mv 7) zd))) (tj zuj zSi hr (za (mv 0) (za (mv 5) zd))))))))))))
abbrev zMb:Yg:=top 6
abbrev zW:List yF:=["laying","order"]
def z8h:tm zpf zW (zn zMb):=by walk_at "s"
def zmh(T:Txt K mg){zbe:yg}{zgd:yk}(zZc:FnAt K mg "placed" z6f zjc zbe zgd)(zIc:tq P w K mg base CX0 1 zbe zgd zjc (spM K 2 z9d)){f:yg}{fd:yk}(B:FnAt K mg "laying_of_keys" zMb zW f fd):tq P w K mg base CX0 2 f fd zW (spM K 2 zob):=by
 refine fnM B.fn z8h rfl (λcdv A outer s H E hr=>⟨zmc,?_,λ_ _ _ _ _ e=>e⟩);have hu:=hr.units;exact(zj (zA (tj zZc zIc hr (za (mv 0) (za (mv 1) zd)))))
abbrev zwk:Yg:=top 12
abbrev zme:List yF:=["web","laying"]
def zWu:tm zQt zme (zn zwk):=by walk_at "s"
def zus(T:Txt K mg){f:yg}{fd:yk}(B:FnAt K mg "left" zwk zme f fd):tq P w K mg base CX0 1 f fd zme (spM K 2 zmg):=by
 refine fnM B.fn zWu rfl (λcdv A outer s H E hr=>⟨z3k,?_,λ_ _ _ _ _ e=>e⟩);have hu:=hr.units;exact(zj (zA (mlc ["nest","room"] [1] (zte T.tI zjb (zM (mv 0) zm)) (λ_ _ _ _ _=>(zIg (zqb (zE 0 (hN:=zF (by rfl))) (zqb (zE 1 (hN:=zF (by rfl))) zRe)))) (λ_ _ _ _ _=>zJd) (λ_ _ _ _ _=>(zyb zJq (mv 1) (zWs (mv 2) (za (mv 0) zd)))) (z8 ⟨_,rfl,rfl⟩ zSb))))
abbrev zge:Yg:=top 4
abbrev zbc:List yF:=["nest","order"]
def zul:tm zEi zbc (zn zge):=by walk_at "s"
def zdk(T:Txt K mg){f:yg}{fd:yk}(B:FnAt K mg "nest_named" zge zbc f fd):tq P w K mg base CX0 1 f fd zbc (spM K 2 zie):=by
 refine fnM B.fn zul rfl (λcdv A outer s H E hr=>⟨zhe,?_,λ_ _ _ _ _ e=>e⟩);have hu:=hr.units;exact(zg (zEc (MW.mt (zRn (zP z6o (mv 0) zbd) (zRn (zP z4k (mv 0) zm) (zal (zP zUt (mv 0) (zO zU T.tZ zic (za (mv 1) zd))))))) (zj (zA (mv 0))) z6) (zj (zA (zM (mv 1) (mv 0)))))
abbrev zAb:Yg:=top 5
abbrev zR:List yF:=["laying","order"]
def zah:tm zJe zR (zn zAb):=by walk_at "s"
def zGg(T:Txt K mg){zxi:yg}{zKh:yk}(z7d:FnAt K mg "nest_named" zge zbc zxi zKh)(zVe:tq P w K mg base CX0 1 zxi zKh zbc (spM K 2 zie)){f:yg}{fd:yk}(B:FnAt K mg "laying_of_nests" zAb zR f fd):tq P w K mg base CX0 2 f fd zR (spM K 2 zmb):=by
 refine fnM B.fn zah rfl (λcdv A outer s H E hr=>⟨z7b,?_,λ_ _ _ _ _ e=>e⟩);have hu:=hr.units;exact(zj (zA (mlc ["nest"] [1] (zHc (mv 0)) (λ_ _ _ _ _=>(zE 0 (hN:=zF (by rfl)))) (λ_ _ _ _ _=>zJd) (λ_ _ _ _ _=>(tj z7d zVe hr (za (mv 0) (za (mv 1) zd)))) (z8 ⟨_,rfl,rfl⟩ zSb))))
abbrev z0h:Yg:=top 13
abbrev z1c:List yF:=["web","laying"]
def Tv:tm zIq z1c (zn z0h):=by walk_at "s"
def z9q(T:Txt K mg){zmi:yg}{zwf:yk}(zTf:FnAt K mg "left" zwk zme zmi zwf)(zle:tq P w K mg base CX0 1 zmi zwf zme (spM K 2 zmg)){f:yg}{fd:yk}(B:FnAt K mg "fault" z0h z1c f fd):tq P w K mg base CX0 2 f fd z1c (spM K 2 zqe):=by
 refine fnM B.fn Tv rfl (λcdv A outer s H E hr=>⟨z8l,?_,λ_ _ _ _ _ e=>e⟩);have hu:=hr.units;exact(zg (zPd (zte T.tI zjb (mv 1)) (zun (zTb (zhb 2 (hN:=Tv.nd)) (zTb (zhb 3 (hN:=Tv.nd)) zai))) (zj (zEc (MW.mt (z6r (zP zxe (mv 3) zbd) (zSn (zP zSf (mv 3) (zM (zM (mv 0) zm) (mv 2)))))) (zj (zA (zid (za zAi (za (mv 2) zd))))) z6))) (zg (zPd (zte T.tI zjb (tj zTf zle hr (za (mv 0) (za (mv 1) zd)))) (zun (zTb (zhb 3 (hN:=Tv.nd)) (zTb (zhb 4 (hN:=Tv.nd)) zai))) (zj (zEc (zP z4k (mv 4) zm) (zj (zA (zid (za zAi (za (mv 3) zd))))) z6))) (zj (zA zbd))))
abbrev zPo:Yg:=top 15
abbrev z7h:List yF:=["laying"]
def zhu:tm zVt z7h (zn zPo):=by walk_at "s"
def zRs(T:Txt K mg){f:yg}{fd:yk}(B:FnAt K mg "laid" zPo z7h f fd):tq P w K mg base CX0 1 f fd z7h (spM K 1 zqm):=by
 refine fnM B.fn zhu rfl (λcdv A outer s H E hr=>⟨zIo,?_,λ_ _ _ _ _ e=>e⟩);have hu:=hr.units;exact(zj (zA (mlc ["key","nest"] [] (zte T.tI zjb (mv 0)) (λ_ _ _ _ _=>(zIg (zqb (zE 0 (hN:=zF (by rfl))) (zqb (zE 1 (hN:=zF (by rfl))) zRe)))) (λ_ _ _ _ _=>(zPg (zP zxe (mv 1) zbd))) (λ_ _ _ _ _=>(mv 0)) zSb)))
abbrev zkc:Yg:=top 50
abbrev zkb:List yF:=["_law_web_here","_law_other","_law_nests","_law_keys","_law_laying"]
def tU:tm zof zkb (zn zkc):=by walk_at "s"
def zkh(T:Txt K mg){zJb:yg}{zDb:yk}(zgb:FnAt K mg "laying_of_keys" zMb zW zJb zDb)(zlb:tq P w K mg base CX0 2 zJb zDb zW (spM K 2 zob)){zmi:yg}{zwf:yk}(zTf:FnAt K mg "left" zwk zme zmi zwf)(zle:tq P w K mg base CX0 1 zmi zwf zme (spM K 2 zmg)){zCb:yg}{ztb:yk}(z7:FnAt K mg "laying_of_nests" zAb zR zCb ztb)(zdb:tq P w K mg base CX0 2 zCb ztb zR (spM K 2 zmb)){zGf:yg}{zee:yk}(zhd:FnAt K mg "fault" z0h z1c zGf zee)(zNc:tq P w K mg base CX0 2 zGf zee z1c (spM K 2 zqe)){z2t:yg}{zQq:yk}(zmm:FnAt K mg "laid" zPo z7h z2t zQq)(zMl:tq P w K mg base CX0 1 z2t zQq z7h (spM K 1 zqm)){zcb:yg}{zZ:yk}(zH:FnAt K mg "some_named" zYb zV zcb zZ)(zD:tq P w K mg base CX0 1 zcb zZ zV (spM K 2 zX)){f:yg}{fd:yk}(B:FnAt K mg "_law_of_laying" zkc zkb f fd):tq P w K mg base CX0 3 f fd zkb (spM K 5 znc):=by
 refine fnM B.fn tU rfl (λcdv A outer s H E hr=>⟨zoc,?_,λ_ _ _ _ _ e=>e⟩);have hu:=hr.units;exact(zg (zK 5 (tj zgb zlb hr (za (tj z7 zdb hr (za (mv 4) (za (mv 2) zd))) (za (mv 3) zd))) (hN:=tU.nd)) (zg (zEc (zP (zii hu) (zMd z6o (tj zhd zNc hr (za (mv 0) (za (mv 4) zd))) zbd) (zMd z6o (tj zhd zNc hr (za (mv 1) (za (mv 5) zd))) zbd)) (zj (zA zJi)) z6) (zg (zEc (zP zxe (tj zhd zNc hr (za (mv 0) (za (mv 4) zd))) zbd) (zj (zA zJi)) z6) (zg (zEc (zP (zii hu) (tj zmm zMl hr (za (mv 5) zd)) (tj zH zD hr (za (tj zmm zMl hr (za (mv 4) zd)) (za (mv 3) zd)))) (zj (zA zJi)) z6) (zg (zK 6 (tj zTf zle hr (za (mv 0) (za (mv 4) zd))) (hN:=tU.nd)) (zg (zK 7 (tj zTf zle hr (za (mv 1) (za (mv 5) zd))) (hN:=tU.nd)) (zj (zA (zO (zqr rfl) T.n_all zWv (za (mlc ["_law_nest"] [7,2,6] (zqd T.Td (za (zO zU T.tZ zic (za (mv 2) zd)) zd)) (λ_ _ _ _ _=>(zE 0 (hN:=zF (by rfl)))) (λ_ _ _ _ _=>zJd) (λ_ _ _ _ _=>(zMd (zcc hu) (zM (mv 1) (zM (mv 2) (mv 0))) (zM (mv 3) (mv 0)))) (z8 ⟨_,rfl,rfl⟩ (z8 ⟨_,rfl,rfl⟩ (z8 ⟨_,rfl,rfl⟩ zSb)))) zd))))))))))
abbrev zBl:Yg:=top 16
abbrev zjg:List yF:=["laying","nest"]
def zot:tm zKq zjg (zn zBl):=by walk_at "s"
def z4r(T:Txt K mg){f:yg}{fd:yk}(B:FnAt K mg "lying" zBl zjg f fd):tq P w K mg base CX0 1 f fd zjg (spM K 2 zrl):=by
 refine fnM B.fn zot rfl (λcdv A outer s H E hr=>⟨z9l,?_,λ_ _ _ _ _ e=>e⟩);have hu:=hr.units;exact(zj (zA (mlc ["key","place"] [1] (zte T.tI zjb (mv 0)) (λ_ _ _ _ _=>(zIg (zqb (zE 0 (hN:=zF (by rfl))) (zqb (zE 1 (hN:=zF (by rfl))) zRe)))) (λ_ _ _ _ _=>(zPg (zP (zcc hu) (mv 1) (mv 2)))) (λ_ _ _ _ _=>(mv 0)) (z8 ⟨_,rfl,rfl⟩ zSb))))
abbrev z8e:Yg:=top 21
abbrev zAc:List yF:=["web","laying","key"]
def tN:tm zij zAc (zn z8e):=by walk_at "s"
def z7l(T:Txt K mg){zpr:yg}{zfp:yk}(zem:FnAt K mg "lying" zBl zjg zpr zfp)(zHl:tq P w K mg base CX0 1 zpr zfp zjg (spM K 2 zrl)){f:yg}{fd:yk}(B:FnAt K mg "pushes_to" z8e zAc f fd):tq P w K mg base CX0 2 f fd zAc (spM K 3 zcf):=by
 refine fnM B.fn tN rfl (λcdv A outer s H E hr=>⟨z0e,?_,λ_ _ _ _ _ e=>e⟩);have hu:=hr.units;exact(zg (zK 3 ziw (hN:=tN.nd)) (zg (zPd (zHc (zM (zM (mv 0) zm) (mv 2))) (zhb 4 (hN:=tN.nd)) (zj (zJh (zid (za (mv 2) (za zbd zd))) (zds (mv 3) (mv 4))))) (zg (zK 5 (z6c (zeo rfl) T.TX z5j (za (mv 3) zd)) (hN:=tN.nd)) (zg (zK 6 zm (hN:=tN.nd)) (zg (z7i 100000 (zP z4k (mv 6) (zO zU T.tZ zic (za (mv 5) zd))) (zg (zPd (zHc (tj zem zHl hr (za (mv 1) (za (zM (mv 5) (mv 6)) zd)))) (zhb 7 (hN:=tN.nd)) (zj (zPd (zHc (zM (zM (mv 0) zm) (mv 7))) (zhb 4 (hN:=tN.nd)) (zj (zEc (zP zel (mv 4) (mv 3)) (zg (zJh (zid (za (mv 7) (za (zM (mv 5) (mv 6)) zd))) (zds (mv 3) (mv 4))) (zj (zUf (zyh (mv 5) (za (mv 4) zd))))) z6))))) (zj (zUv 6 z6u zm (hN:=tN.nd))))) (zj (zA (mv 3))))))))
abbrev zXi:Yg:=top 22
abbrev zze:List yF:=["pushes","nest"]
def TK:tm zWo zze (zn zXi):=by walk_at "s"
def zJp(T:Txt K mg){f:yg}{fd:yk}(B:FnAt K mg "row_to" zXi zze f fd):tq P w K mg base CX0 1 f fd zze (spM K 2 z2i):=by
 refine fnM B.fn TK rfl (λcdv A outer s H E hr=>⟨zUi,?_,λ_ _ _ _ _ e=>e⟩);have hu:=hr.units;exact(zg (zK 2 (z1d zd) (hN:=TK.nd)) (zg (z7i 100000 (zP zxe (mv 1) zbd) (zg (zUf (zyh (mv 2) (za (zid (za (zM (zXt (mv 0) (mv 1)) zm) (za (mv 1) zd))) zd))) (zj (zK 1 (zM (zXt (mv 0) (mv 1)) zm) (hN:=TK.nd))))) (zj (zA (zZu T.TX z5j T.sH zno (mv 2))))))
abbrev z3i:Yg:=top 23
abbrev zOe:List yF:=["web","laying","key"]
def Tz:tm zbp zOe (zn z3i):=by walk_at "s"
def zQp(T:Txt K mg){z0j:yg}{zDi:yk}(zXe:FnAt K mg "pushes_to" z8e zAc z0j zDi)(zDf:tq P w K mg base CX0 2 z0j zDi zAc (spM K 3 zcf)){zmi:yg}{zwf:yk}(zTf:FnAt K mg "left" zwk zme zmi zwf)(zle:tq P w K mg base CX0 1 zmi zwf zme (spM K 2 zmg)){zKo:yg}{z1m:yk}(zZi:FnAt K mg "row_to" zXi zze zKo z1m)(zUj:tq P w K mg base CX0 1 zKo z1m zze (spM K 2 z2i)){f:yg}{fd:yk}(B:FnAt K mg "put_in" z3i zOe f fd):tq P w K mg base CX0 3 f fd zOe (spM K 3 zPi):=by
 refine fnM B.fn Tz rfl (λcdv A outer s H E hr=>⟨z0i,?_,λ_ _ _ _ _ e=>e⟩);have hu:=hr.units;exact(zg (zK 3 (tj zXe zDf hr (za (mv 0) (za (mv 1) (za (mv 2) zd)))) (hN:=Tz.nd)) (zg (zK 4 (tj zTf zle hr (za (mv 0) (za (mv 1) zd))) (hN:=Tz.nd)) (zg (zPd (zyv (mv 3)) (zhb 5 (hN:=Tz.nd)) (zj (zEc (zP z0t (zM (mv 4) (mv 5)) zm) (zj (zA (zid (za zAi (za (tj zZi zUj hr (za (mv 3) (za (mv 5) zd))) zd))))) z6))) (zj (zA (zid (za zAi (za (mlc ["other","nest"] [2,3] (zte T.tI zjb (mv 1)) (λ_ _ _ _ _=>(zIg (zqb (zE 0 (hN:=zF (by rfl))) (zqb (zE 1 (hN:=zF (by rfl))) zRe)))) (λ_ _ _ _ _=>(zPg (MW.mt (zRn (zP (zcc hu) (mv 0) (mv 2)) (zal (zP zCs (mv 1) (mv 3))))))) (λ_ _ _ _ _=>(mv 0)) (z8 ⟨_,rfl,rfl⟩ (z8 ⟨_,rfl,rfl⟩ zSb))) zd))))))))
abbrev zHh:Yg:=top 18
abbrev zzd:List yF:=["web","laying","row","at"]
def TY:tm zrn zzd (zn zHh):=by walk_at "s"
def zQn(T:Txt K mg){f:yg}{fd:yk}(B:FnAt K mg "is_push" zHh zzd f fd):tq P w K mg base CX0 1 f fd zzd (spM K 4 zwh):=by
 refine fnM B.fn TY rfl (λcdv A outer s H E hr=>⟨zbh,?_,λ_ _ _ _ _ e=>e⟩);have hu:=hr.units;exact(zg (zK 4 (zM (zM (mv 2) (mv 3)) zm) (hN:=TY.nd)) (zg (zEc (MW.mt (zRn (zP z4k (mv 4) zm) (zal (zP zUt (mv 4) (zO zU T.tZ zic (za (mv 1) zd)))))) (zj (zA zJi)) z6) (zg (zEc (MW.mt (zRn (zP zSf (zM (zM (mv 2) (mv 3)) zm) (zM (zM (mv 0) zm) (mv 4))) (zal (zP (zcc hu) (zM (zM (mv 2) (mv 3)) zm) (zM (mv 1) (mv 4)))))) (zj (zA zJi)) z6) (zj (zA (zMd zSf (mv 4) (mlc ["push"] [] (zHc (zuu (mv 2) zpv (zVq (mv 3)))) (λ_ _ _ _ _=>(zE 0 (hN:=zF (by rfl)))) (λ_ _ _ _ _=>zJd) (λ_ _ _ _ _=>(zM (mv 0) zm)) zSb)))))))
abbrev zGh:Yg:=top 19
abbrev zyd:List yF:=["laying","key","row","at"]
def zaq:tm zmn zyd (zn zGh):=by walk_at "s"
def zBn(T:Txt K mg){f:yg}{fd:yk}(B:FnAt K mg "follows" zGh zyd f fd):tq P w K mg base CX0 1 f fd zyd (spM K 4 zrh):=by
 refine fnM B.fn zaq rfl (λcdv A outer s H E hr=>⟨z1g,?_,λ_ _ _ _ _ e=>e⟩);have hu:=hr.units;exact(zg (zEc (zP (zcc hu) (mv 3) zm) (zj (zA (zMd (zcc hu) (zM (zM (mv 2) zm) zm) (mv 1)))) z6) (zj (zA (zMd (zcc hu) (zM (mv 0) (zM (zM (mv 2) (mv 3)) zm)) (zM (zM (mv 2) (zyb zJq (mv 3) zm)) zm)))))
abbrev z6i:Yg:=top 20
abbrev zEe:List yF:=["web","laying","key","row"]
def TB:tm zFo zEe (zn z6i):=by walk_at "s"
def zjq(T:Txt K mg){zGf:yg}{zee:yk}(zhd:FnAt K mg "fault" z0h z1c zGf zee)(zNc:tq P w K mg base CX0 2 zGf zee z1c (spM K 2 zqe)){zdn:yg}{zNk:yk}(zeh:FnAt K mg "is_push" zHh zzd zdn zNk)(zYh:tq P w K mg base CX0 1 zdn zNk zzd (spM K 4 zwh)){zxn:yg}{zMk:yk}(z6g:FnAt K mg "follows" zGh zyd zxn zMk)(zQh:tq P w K mg base CX0 1 zxn zMk zyd (spM K 4 zrh)){f:yg}{fd:yk}(B:FnAt K mg "pushed" z6i zEe f fd):tq P w K mg base CX0 3 f fd zEe (spM K 4 zTi):=by
 refine fnM B.fn TB rfl (λcdv A outer s H E hr=>⟨z9i,?_,λ_ _ _ _ _ e=>e⟩);have hu:=hr.units;exact(zg (zK 4 (z6c z7k T.TX z5j (za (mv 1) zd)) (hN:=TB.nd)) (zg (zPd (zte T.tI zjb (mv 3)) (zun (zTb (zhb 5 (hN:=TB.nd)) (zTb (zhb 6 (hN:=TB.nd)) zai))) (zg (zEc (z8q (MW.mt (z6r (zTj (tj zeh zYh hr (za (mv 0) (za (mv 1) (za (mv 3) (za (mv 5) zd)))))) (zSn (zTj (tj z6g zQh hr (za (mv 1) (za (mv 2) (za (mv 3) (za (mv 5) zd)))))))))) (zj zhp) z6) (zj (zJh (zM (mv 6) zm) (zJs (mv 4) (zM (mv 6) zm)))))) (zg (zEc (MW.mt (zRn (zP (zcc hu) (zO zU T.tZ zic (za (mv 3) zd)) zm) (zal (zP zxe (tj zhd zNc hr (za (mv 0) (za (mv 4) zd))) zbd)))) (zj zhp) z6) (zj (zA (mv 4))))))
abbrev z7e:Yg:=top 24
abbrev zwc:List yF:=["web","laying","keys"]
def Tb:tm z1j zwc (zn z7e):=by walk_at "s"
def z3l(T:Txt K mg){zVo:yg}{zxm:yk}(zRi:FnAt K mg "put_in" z3i zOe zVo zxm)(zdj:tq P w K mg base CX0 3 zVo zxm zOe (spM K 3 zPi)){zwo:yg}{zon:yk}(zYi:FnAt K mg "pushed" z6i zEe zwo zon)(zEj:tq P w K mg base CX0 3 zwo zon zEe (spM K 4 zTi)){f:yg}{fd:yk}(B:FnAt K mg "laid_more" z7e zwc f fd):tq P w K mg base CX0 4 f fd zwc (spM K 3 z5e):=by
 refine fnM B.fn Tb rfl (λcdv A outer s H E hr=>⟨zkf,?_,λ_ _ _ _ _ e=>e⟩);have hu:=hr.units;exact(zg (zK 3 (z1d zd) (hN:=Tb.nd)) (zg (zPd (zHc (mv 2)) (zhb 4 (hN:=Tb.nd)) (zg (zK 5 (tj zRi zdj hr (za (mv 0) (za (mv 1) (za (mv 4) zd)))) (hN:=Tb.nd)) (zj (zEc (zP (zcc hu) (zM (mv 5) zm) zAi) (zj (zK 1 (tj zYi zEj hr (za (mv 0) (za (mv 1) (za (mv 4) (za (zM (mv 5) zm) zd))))) (hN:=Tb.nd))) (zj (zUf (z5m (mv 3) (za (zM (mv 5) zm) zd)))))))) (zj (zA (zid (za (mv 1) (za (zgr T.Ts zJf T.n_set zZt (mv 3)) zd)))))))
abbrev zod:Yg:=top 25
abbrev zQb:List yF:=["web"]
def zmk:tm z0g zQb (zn zod):=by walk_at "s"
def zaj(T:Txt K mg){z9j:yg}{zei:yk}(zWe:FnAt K mg "laid_more" z7e zwc z9j zei)(zzf:tq P w K mg base CX0 4 z9j zei zwc (spM K 3 z5e)){f:yg}{fd:yk}(B:FnAt K mg "laid_at_all" zod zQb f fd):tq P w K mg base CX0 5 f fd zQb (spM K 1 zrd):=by
 refine fnM B.fn zmk rfl (λcdv A outer s H E hr=>⟨zvd,?_,λ_ _ _ _ _ e=>e⟩);have hu:=hr.units;exact(zj (zA (tj zWe zzf hr (za (mv 0) (za (zyb zpe (z1d (za zbd zd)) (zO zU T.tZ zic (za (zM (mv 0) zm) zd))) (za (zYr T.TX z5j T.Td (zO zU T.tZ zic (za (zM (mv 0) zm) zd))) zd))))))
abbrev z1e:Yg:=top 31
abbrev zuc:List yF:=["web","some"]
def TH:tm zlj zuc (zn z1e):=by walk_at "s"
def zDl(T:Txt K mg){zvc:yg}{zWb:yk}(zBb:FnAt K mg "is_crowd" zwd zvb zvc zWb)(zwb:tq P w K mg base CX0 2 zvc zWb zvb (spM K 2 z3b)){f:yg}{fd:yk}(B:FnAt K mg "spare_key" z1e zuc f fd):tq P w K mg base CX0 3 f fd zuc (spM K 2 zLd):=by
 refine fnM B.fn TH rfl (λcdv A outer s H E hr=>⟨zlf,?_,λ_ _ _ _ _ e=>e⟩);have hu:=hr.units;exact(zg (zPd (zHc (mv 1)) (zhb 2 (hN:=TH.nd)) (zj (zEc (zTj (tj zBb zwb hr (za (mv 0) (za (mlc ["other"] [2] (zHc (mv 1)) (λ_ _ _ _ _=>(zE 0 (hN:=zF (by rfl)))) (λ_ _ _ _ _=>(zPg (zP (zii hu) (mv 0) (mv 1)))) (λ_ _ _ _ _=>(mv 0)) (z8 ⟨_,rfl,rfl⟩ zSb)) zd)))) (zj (zA (mv 2))) z6))) (zj (zA zbd)))
abbrev z8g:Yg:=top 32
abbrev zBd:List yF:=["web","some"]
def To:tm zDm zBd (zn z8g):=by walk_at "s"
def zIn(T:Txt K mg){zxj:yg}{zki:yk}(zEd:FnAt K mg "spare_key" z1e zuc zxj zki)(zde:tq P w K mg base CX0 3 zxj zki zuc (spM K 2 zLd)){f:yg}{fd:yk}(B:FnAt K mg "trimmed" z8g zBd f fd):tq P w K mg base CX0 4 f fd zBd (spM K 2 zth):=by
 refine fnM B.fn To rfl (λcdv A outer s H E hr=>⟨zQg,?_,λ_ _ _ _ _ e=>e⟩);have hu:=hr.units;exact(zg (zK 2 (z6c z7k T.TX z5j (za (mv 1) zd)) (hN:=To.nd)) (zg (zK 3 (tj zEd zde hr (za (mv 0) (za (mv 2) zd))) (hN:=To.nd)) (zg (z7i 100000 (zP zxe (mv 3) zbd) (zg (zUf (zbs (mv 2) (za (mv 3) zd))) (zj (zK 3 (tj zEd zde hr (za (mv 0) (za (mv 2) zd))) (hN:=To.nd))))) (zj (zA (mv 2))))))
abbrev z5i:Yg:=top 33
abbrev zFe:List yF:=["web"]
def sj:tm zXo zFe (zn z5i):=by walk_at "s"
def zqp(T:Txt K mg){zVg:yg}{zng:yk}(zsd:FnAt K mg "laid_at_all" zod zQb zVg zng)(zje:tq P w K mg base CX0 5 zVg zng zQb (spM K 1 zrd)){zym:yg}{z8k:yk}(zph:FnAt K mg "trimmed" z8g zBd zym z8k)(zZh:tq P w K mg base CX0 4 zym z8k zBd (spM K 2 zth)){f:yg}{fd:yk}(B:FnAt K mg "fitted" z5i zFe f fd):tq P w K mg base CX0 6 f fd zFe (spM K 1 zch):=by
 refine fnM B.fn sj rfl (λcdv A outer s H E hr=>⟨z8i,?_,λ_ _ _ _ _ e=>e⟩);have hu:=hr.units;exact(zg (zK 1 (tj zsd zje hr (za (mv 0) zd)) (hN:=sj.nd)) (zg (zEc (zP (zcc hu) (zM (mv 1) zm) (z1d zd)) (zj (zA (zid (za zAi (za (zM (mv 1) zm) zd))))) z6) (zj (zA (zid (za zAi (za (tj zph zZh hr (za (mv 0) (za (zM (mv 1) zm) zd))) zd)))))))
abbrev z3d:Yg:=top 47
abbrev z4b:List yF:=["_law_order_here"]
def zJl:tm zri z4b (zn z3d):=by walk_at "s"
def zok(T:Txt K mg){f:yg}{fd:yk}(B:FnAt K mg "_law_about" z3d z4b f fd):tq P w K mg base CX0 1 f fd z4b (spM K 1 zyc):=by
 refine fnM B.fn zJl rfl (λcdv A outer s H E hr=>⟨zce,?_,λ_ _ _ _ _ e=>e⟩);have hu:=hr.units;exact(zj (zA (mlc ["_law_one"] [0] (zqd T.Td (za (zO zU T.tZ zic (za (mv 0) zd)) zd)) (λ_ _ _ _ _=>(zE 0 (hN:=zF (by rfl)))) (λ_ _ _ _ _=>zJd) (λ_ _ _ _ _=>(z8s (mv 1) (za (mv 0) zd))) (z8 ⟨_,rfl,rfl⟩ zSb))))
abbrev zZf:Yg:=top 14
abbrev zTc:List yF:=["laying"]
def zGn:tm zvk zTc (zn zZf):=by walk_at "s"
def zCm(T:Txt K mg){f:yg}{fd:yk}(B:FnAt K mg "is_whole" zZf zTc f fd):tq P w K mg base CX0 1 f fd zTc (spM K 1 zVf):=by
 refine fnM B.fn zGn rfl (λcdv A outer s H E hr=>⟨zig,?_,λ_ _ _ _ _ e=>e⟩);have hu:=hr.units;exact(zj (zA (zMd zSf zbd (mv 0))))
abbrev z9e:Yg:=top 48
abbrev zCc:List yF:=["_law_web_here","_law_other","_law_nests","_law_keys"]
def Tf:tm zGj zCc (zn z9e):=by walk_at "s"
def zUl(T:Txt K mg){zZo:yg}{z4m:yk}(zUg:FnAt K mg "fitted" z5i zFe zZo z4m)(znh:tq P w K mg base CX0 6 zZo z4m zFe (spM K 1 zch)){zCb:yg}{ztb:yk}(z7:FnAt K mg "laying_of_nests" zAb zR zCb ztb)(zdb:tq P w K mg base CX0 2 zCb ztb zR (spM K 2 zmb)){zvc:yg}{zWb:yk}(zBb:FnAt K mg "is_crowd" zwd zvb zvc zWb)(zwb:tq P w K mg base CX0 2 zvc zWb zvb (spM K 2 z3b)){zJb:yg}{zDb:yk}(zgb:FnAt K mg "laying_of_keys" zMb zW zJb zDb)(zlb:tq P w K mg base CX0 2 zJb zDb zW (spM K 2 zob)){zli:yg}{z7g:yk}(zxc:FnAt K mg "_law_about" z3d z4b zli z7g)(zJc:tq P w K mg base CX0 1 zli z7g z4b (spM K 1 zyc)){zFk:yg}{zhj:yk}(z0f:FnAt K mg "is_whole" zZf zTc zFk zhj)(zwg:tq P w K mg base CX0 1 zFk zhj zTc (spM K 1 zVf)){zcb:yg}{zZ:yk}(zH:FnAt K mg "some_named" zYb zV zcb zZ)(zD:tq P w K mg base CX0 1 zcb zZ zV (spM K 2 zX)){zGf:yg}{zee:yk}(zhd:FnAt K mg "fault" z0h z1c zGf zee)(zNc:tq P w K mg base CX0 2 zGf zee z1c (spM K 2 zqe)){f:yg}{fd:yk}(B:FnAt K mg "_law_fits" z9e zCc f fd):tq P w K mg base CX0 7 f fd zCc (spM K 4 zaf):=by
 refine fnM B.fn Tf rfl (λcdv A outer s H E hr=>⟨zef,?_,λ_ _ _ _ _ e=>e⟩);have hu:=hr.units;exact(zg (zJh (tj zUg znh hr (za (mv 1) zd)) (zun (zTb (zhb 4 (hN:=Tf.nd)) (zTb (zhb 5 (hN:=Tf.nd)) zai)))) (zg (zEc (zP (zii hu) (mv 4) (zM (tj zUg znh hr (za (mv 0) zd)) zm)) (zj (zA zJi)) z6) (zg (zEc (zP (zcc hu) (mv 4) zAi) (zj (zA (tj zBb zwb hr (za (mv 0) (za (tj zH zD hr (za (mv 5) (za (tj zxc zJc hr (za (mv 3) zd)) zd))) zd))))) z6) (zg (zK 6 (tj z7 zdb hr (za (tj zgb zlb hr (za (mv 5) (za (tj zxc zJc hr (za (mv 3) zd)) zd))) (za (tj zxc zJc hr (za (mv 2) zd)) zd))) (hN:=Tf.nd)) (zj (zA (zMq (zMd z6o (tj zhd zNc hr (za (mv 0) (za (mv 6) zd))) zbd) (z0o (tj z0f zwg hr (za (mv 6) zd))))))))))
abbrev zbf:Yg:=top 38
abbrev zzc:List yF:=["web","nest"]
def tW:tm zqj zzc (zn zbf):=by walk_at "s"
def zyl(T:Txt K mg){f:yg}{fd:yk}(B:FnAt K mg "joined_to" zbf zzc f fd):tq P w K mg base CX0 1 f fd zzc (spM K 2 zZe):=by
 refine fnM B.fn tW rfl (λcdv A outer s H E hr=>⟨zgf,?_,λ_ _ _ _ _ e=>e⟩);have hu:=hr.units;exact(zg (zK 2 (zVw (mv 1) zJi) (hN:=tW.nd)) (zg (zK 3 (z1d (za (mv 1) zd)) (hN:=tW.nd)) (zg (z7i 100000 (zP (zii hu) (mv 3) (z1d zd)) (zg (zK 4 (z3v (mv 3)) (hN:=tW.nd)) (zj (zPd (zHc (zM (mv 0) zm)) (zhb 5 (hN:=tW.nd)) (zj (zPd (zHc (mv 5)) (zhb 6 (hN:=tW.nd)) (zj (zEc (MW.mt (z6r (zP z6t (mv 4) (mv 5)) (zSn (zP zel (mv 6) (mv 2))))) (zg (zJh zJi (zds (mv 2) (mv 6))) (zj (zUf (zyh (mv 3) (za (mv 6) zd))))) z6)))))))) (zj (zA (zO (zKn rfl) T.Ts zJf (za (mv 2) zd)))))))
abbrev z9g:Yg:=top 39
abbrev zAd:List yF:=["web","nest"]
def TZ:tm z9m zAd (zn z9g):=by walk_at "s"
def zLn(T:Txt K mg){zNj:yg}{zvi:yk}(z6e:FnAt K mg "joined_to" zbf zzc zNj zvi)(zHf:tq P w K mg base CX0 1 zNj zvi zzc (spM K 2 zZe)){f:yg}{fd:yk}(B:FnAt K mg "part_of" z9g zAd f fd):tq P w K mg base CX0 2 f fd zAd (spM K 2 zgh):=by
 refine fnM B.fn TZ rfl (λcdv A outer s H E hr=>⟨zfh,?_,λ_ _ _ _ _ e=>e⟩);have hu:=hr.units;exact(zg (zK 2 (tj z6e zHf hr (za (mv 0) (za (mv 1) zd))) (hN:=TZ.nd)) (zj (zA (zid (za (mv 2) (za (mlc ["key","homes"] [2] (zte T.tI zjb (zM (mv 0) zm)) (λ_ _ _ _ _=>(zIg (zqb (zE 0 (hN:=zF (by rfl))) (zqb (zE 1 (hN:=zF (by rfl))) zRe)))) (λ_ _ _ _ _=>(zPg (zP z6t (zM (mv 1) zm) (mv 2)))) (λ_ _ _ _ _=>(mv 0)) (z8 ⟨_,rfl,rfl⟩ zSb)) zd))))))
abbrev ztl:Yg:=top 40
abbrev z8f:List yF:=["web"]
def sB:tm z2q z8f (zn ztl):=by walk_at "s"
def zGr(T:Txt K mg){zqn:yg}{zBk:yk}(zih:FnAt K mg "part_of" z9g zAd zqn zBk)(zUh:tq P w K mg base CX0 2 zqn zBk zAd (spM K 2 zgh)){f:yg}{fd:yk}(B:FnAt K mg "parts" ztl z8f f fd):tq P w K mg base CX0 3 f fd z8f (spM K 1 zck):=by
 refine fnM B.fn sB rfl (λcdv A outer s H E hr=>⟨zKl,?_,λ_ _ _ _ _ e=>e⟩);have hu:=hr.units;exact(zg (sU 1 ["nest"] [0] (zqd T.Td (za (zO zU T.tZ zic (za (zM (mv 0) zm) zd)) zd)) (λ_ _ _ _ _=>(zE 0 (hN:=zF (by rfl)))) (λ_ _ _ _ _=>zJd) (λ_ _ _ _ _=>(tj zih zUh hr (za (mv 1) (za (mv 0) zd)))) (z8 ⟨_,rfl,rfl⟩ zSb) sB.nd) (zj (zA (mlc ["nest","part"] [] (zte T.tI zjb (mv 1)) (λ_ _ _ _ _=>(zIg (zqb (zE 0 (hN:=zF (by rfl))) (zqb (zE 1 (hN:=zF (by rfl))) zRe)))) (λ_ _ _ _ _=>(zPg (zP (zcc hu) (zM (zM (mv 1) zm) zm) (mv 0)))) (λ_ _ _ _ _=>(mv 1)) zSb))))
abbrev zgo:Yg:=top 51
abbrev zqo:List yF:=["_law_script"]
def Tk:tm zgw zqo (zn zgo):=by walk_at "s"
def zcv(T:Txt K mg){zVk:yg}{z7j:yk}(z1f:FnAt K mg "_law_pen" zeg zWc zVk z7j)(zvg:tq P w K mg base CX0 1 zVk z7j zWc (spM K 1 zag)){zJk:yg}{zvj:yk}(zdg:FnAt K mg "_law_web" zYf zYc zJk zvj)(zAg:tq P w K mg base CX0 3 zJk zvj zYc (spM K 2 zXf)){zHi:yg}{zxh:yk}(z9c:FnAt K mg "_law_order" zXd z9b zHi zxh)(zud:tq P w K mg base CX0 3 zHi zxh z9b (spM K 2 zed)){zji:yg}{zvh:yk}(zfd:FnAt K mg "keys_named" z2d z1b zji zvh)(zpd:tq P w K mg base CX0 2 zji zvh z1b (spM K 2 zad)){zEh:yg}{ztg:yk}(zLc:FnAt K mg "nests_named" zjd zPb zEh ztg)(z8c:tq P w K mg base CX0 2 zEh ztg zPb (spM K 2 zKc)){zsg:yg}{zQf:yk}(z7c:FnAt K mg "_law_of_some" z3c zEb zsg zQf)(zNd:tq P w K mg base CX0 3 zsg zQf zEb (spM K 6 z4c)){zqf:yg}{zMe:yk}(zlc:FnAt K mg "_law_of_laying" zkc zkb zqf zMe)(zVc:tq P w K mg base CX0 3 zqf zMe zkb (spM K 5 znc)){z3j:yg}{zti:yk}(zdf:FnAt K mg "_law_fits" z9e zCc z3j zti)(zKf:tq P w K mg base CX0 7 z3j zti zCc (spM K 4 zaf)){zAq:yg}{znp:yk}(zHj:FnAt K mg "parts" ztl z8f zAq znp)(zVi:tq P w K mg base CX0 3 zAq znp z8f (spM K 1 zck)){z0b:yg}{zFb:yk}(zz:FnAt K mg "_law_take" zRc zib z0b zFb)(zw:tq P w K mg base CX0 2 z0b zFb zib (spM K 2 zr)){zcb:yg}{zZ:yk}(zH:FnAt K mg "some_named" zYb zV zcb zZ)(zD:tq P w K mg base CX0 1 zcb zZ zV (spM K 2 zX)){f:yg}{fd:yk}(B:FnAt K mg "law" zgo zqo f fd):tq P w K mg base CX0 8 f fd zqo (spM K 1 zIp):=by
 refine fnM B.fn Tk rfl (λcdv A outer s H E hr=>⟨zbt,?_,λ_ _ _ _ _ e=>e⟩);have hu:=hr.units;exact(zg (zK 1 (tj z1f zvg hr (za (mv 0) zd)) (hN:=Tk.nd)) (zg (zK 2 (tj zdg zAg hr (za (mv 1) (za zm zd))) (hN:=Tk.nd)) (zg (zK 3 (tj z9c zud hr (za (mv 1) (za (zO zU T.tZ zic (za (zM (mv 2) zm) zd)) zd))) (hN:=Tk.nd)) (zg (zK 4 (tj z9c zud hr (za (mv 1) (za (zO zU T.tZ zic (za (zM (mv 2) zm) zd)) zd))) (hN:=Tk.nd)) (zg (zK 5 (tj zfd zpd hr (za (tj zLc z8c hr (za (mv 2) (za (mv 3) zd))) (za (mv 4) zd))) (hN:=Tk.nd)) (zg (zEc (MW.mt (zRn (zP (zii hu) (tj zLc z8c hr (za (tj zfd zpd hr (za (mv 2) (za (mv 4) zd))) (za (mv 3) zd))) (mv 5)) (zal (z8q (zTj (tj zdf zKf hr (za (mv 2) (za (mv 5) (za (mv 3) (za (mv 4) zd)))))))))) (zj (zA zJi)) z6) (zg (sU 6 ["_law_key"] [1] (zqd T.Td (za (zO zU T.tZ zic (za (mv 4) zd)) zd)) (λ_ _ _ _ _=>(zE 0 (hN:=zF (by rfl)))) (λ_ _ _ _ _=>(zPg (zP (zcc hu) (tj zz zw hr (za (mv 1) (za zm zd))) zm))) (λ_ _ _ _ _=>(mv 0)) (z8 ⟨_,rfl,rfl⟩ zSb) Tk.nd) (zg (sU 7 ["_law_nest"] [1] (zqd T.Td (za (zO zU T.tZ zic (za (mv 3) zd)) zd)) (λ_ _ _ _ _=>(zE 0 (hN:=zF (by rfl)))) (λ_ _ _ _ _=>(zPg (zP (zcc hu) (tj zz zw hr (za (mv 1) (za zm zd))) zm))) (λ_ _ _ _ _=>(mv 0)) (z8 ⟨_,rfl,rfl⟩ zSb) Tk.nd) (zg (zEc (z8q (zTj (tj z7c zNd hr (za (mv 2) (za (mv 5) (za (mv 3) (za (mv 4) (za (mv 6) (za (mv 7) zd))))))))) (zj (zA zJi)) z6) (zg (sU 8 ["_law_own"] [1] (zHc (zM (mv 2) zm)) (λ_ _ _ _ _=>(zE 0 (hN:=zF (by rfl)))) (λ_ _ _ _ _=>zJd) (λ_ _ _ _ _=>(zM (z1d (za zbd (za (zM (mv 0) (tj zz zw hr (za (mv 1) (za (zO zU T.tZ zic (za (mv 0) zd)) zd)))) zd))) (zO (zdq rfl) T.n_min zQv (za zm (za (tj zz zw hr (za (mv 1) (za zm zd))) zd))))) (z8 ⟨_,rfl,rfl⟩ zSb) Tk.nd) (zg (zK 9 (zO (z6n hr.u67) T.Ts zJf (za (mlc ["_law_one","_law_own"] [3,4] (zHc (tj zHj zVi hr (za (mv 2) zd))) (λ_ _ _ _ _=>(zIg (zqb (zE 0 (hN:=zF (by rfl))) (zqb (zE 1 (hN:=zF (by rfl))) zRe)))) (λ_ _ _ _ _=>zJd) (λ_ _ _ _ _=>(zid (za (tj zH zD hr (za (mv 0) (za (mv 2) zd))) (za (tj zH zD hr (za (mv 1) (za (mv 3) zd))) zd)))) (z8 ⟨_,rfl,rfl⟩ (z8 ⟨_,rfl,rfl⟩ zSb))) zd)) (hN:=Tk.nd)) (zj (zA (zMq (tj zlc zVc hr (za (mv 2) (za (mv 5) (za (mv 3) (za (mv 4) (za (mv 8) zd)))))) (z0o (zMd (zcc hu) (tj zHj zVi hr (za (mv 5) zd)) (mv 9)))))))))))))))))
end
end P
namespace P
open PySem PySem.Spec PyProof.Rows L2 M
set_option maxHeartbeats 4000000
variable {R:List Nat}{K:List (List Nat)}{μ:Mem}{Q:D->Mem->Prop}{xs ds:List D}{i L l B m k a b n h j ol nest:Nat}{ns:List Int}{N S T C ks O R':List Nat}{lay lay0:List (Option Nat)}{row:List (Nat×Nat)}{K':List (List Nat)}
def zYn:M.cutD xs none (some (i:Int))=xs.take i:=by
 unfold M.cutD;rw[HT.sx,HT.sK,List.drop_zero,Nat.sub_zero];rcases Nat.le_total i xs.length with h|h
 ·rw[Nat.min_eq_left h]
 ·rw[Nat.min_eq_right h,take_length,xi h]
def zGs:M.cutD xs (some (i:Int)) none=xs.drop i:=by
 unfold M.cutD;rw[HT.sx,HT.sK];rcases Nat.le_total i xs.length with h|h
 ·rw[Nat.min_eq_left h,xi (by simp)]
 ·rw[Nat.min_eq_right h,Nat.sub_self,List.take_zero,List.drop_eq_nil_of_le h]
local macro_rules | `(tactic| walk_at "w") => `(tactic| first
  | refine zp ?_ | refine zab ?_ | refine zlk ?_ | refine zub ?_ | refine zdi ?_ | refine zog ?_ | refine zpb ?_ | refine zkg ?_
  | refine zc rfl ?_ | refine w_c ?_ | refine zl ?_ | refine zi ?_ | refine zb ?_ | refine zk ?_ | refine zxg ?_ | refine zKg ?_ | refine z9v ?_ | refine zat ?_ | refine zLo ?_ | refine zpt ?_ | refine zby ?_ | refine w_not ?_ | refine zGx ?_ | refine zTg ?_ | refine zrk ?_ | refine zUo ?_ | refine zOx ?_
  | refine zJ ?_ | refine zar ?_ | refine z2l ?_ | refine zBo ?_ | refine zTr ?_ | refine zue ?_ | refine z4d ?_ | refine zIl ?_ | refine zhx ?_ | refine zne ?_ | refine znk ?_
  | refine zsf ?_ | refine zEv ?_ | refine zSl (by first | decide | omega) ?_ | refine zEt (by first | decide | omega) (by first | decide | omega) ?_ | refine z0l ?_ | refine z9h ?_ | refine zrx ?_ | refine zLx ?_ | refine zBs ?_ | refine z5v (by decide) (by decide) (by decide) ?_ | refine zpw ?_ | refine zZv ?_ | refine zIt ?_ | refine zrw ?_
  | refine zQd rfl ?_ | refine zCr rfl ?_ | refine zOf rfl ?_ | with_reducible refine ⟨_,rfl,?_⟩)
local macro_rules | `(tactic| walk_at "om") => `(tactic| first | omega | (simp only [length_map, length_range, Int.toNat_natCast, length_append, length_cons, List.length_nil] at *; omega) | (simp <;> omega))
structure WebA(L:Int)(rooms:List Int)(ks:List (List Int)):Prop where
 rl:1<=rooms.length/\rooms.length<=10
 rn:∀r∈rooms,0<=r
 kl:ks.length<=L
 kn:∀k∈ks,(2<=k.length/\k.length<=3)/\∀i∈k,0<=i/\i<rooms.length
def zSt{i:Int}(h0:0<=i)(h1:i<ds.length):∃d,d∈ds/\ds[i.toNat]?=some d/\atI ds i=some d:=by
 have hi:i.toNat<ds.length:=by omega
 refine⟨ds[i.toNat],getElem_mem hi,by simp[hi],?_⟩;have:=zke (xs:=ds) (j:=i.toNat) (v:=ds[i.toNat]) (by simp[hi]);rw[Int.toNat_of_nonneg h0]at this;exact this
def tO(ns:List Int)(μ:Mem)(l B:Nat):Prop:=∃(b:Bool)(k:Nat)(r:Int),k<=B/\μ[l]?=some (.lst [.fz (ns.map .int),.bl b,.int (k:Nat),.int r])
section
variable {ns:List Int}
def tO.kb{μ μ':Mem}{L:List Nat}(h:tO ns μ l B)(k:KB L μ μ')(hl:l∉L):tO ns μ' l B:=by
 obtain⟨b,j,r,hj,e⟩:=h;exact⟨b,j,r,hj,k.at_ _ _ hl e⟩
def tO.app{μ g:Mem}(h:tO ns μ l B):tO ns (μ++g) l B:=h.kb (L:=[]) (KB.refl.app) (by simp)
def tO.keep{μ μ':Mem}(h:tO ns μ l B)(k:tw μ μ'):tO ns μ' l B:=h.kb (L:=[]) (KB.of_keep k) (by simp)
def tO.lt(h:tO ns μ l B):l<μ.length:=by
 obtain⟨b,j,r,hj,e⟩:=h;exact zC e
def tO.set{o:tD}(h:tO ns μ l B)(hne:m≠l):tO ns (μ.set m o) l B:=by
 obtain⟨b,j,r,hj,e⟩:=h;exact⟨b,j,r,hj,zS e hne⟩
def tO.up{B':Nat}(h:tO ns μ l B)(hb:B<=B'):tO ns μ l B':=by
 obtain⟨b,j,r,hj,e⟩:=h;exact⟨b,j,r,by omega,e⟩
def z0u(q:∀μ',tw μ μ'->tO ns μ' μ.length 0->μ'.length=μ.length+1->Q (.loc μ.length) μ'):WF zag [.fz (ns.map .int)] μ Q:=by
 refine zzb rfl ?_;show WS z5f [some (.fz (ns.map .int))] μ _ _ _ _;unfold z5f;refine zub (zKg (zb (zc rfl (zb (zby (zl (zi (zb (zc rfl (zk (zQd rfl (w_c (z9h ⟨_,rfl,λh=>?_,λh=>?_⟩)))))))))))))
 ·have h0:ns≠[]:=by
   rintro rfl;simp at h
  obtain⟨n,ns',rfl⟩:=List.exists_cons_of_ne_nil h0;refine zl (zl (zl (zc rfl (w_c (z5c rfl (zke (j:=0) (v:=D.int n) rfl) (w_c (zSl (by omega) (w_c (z9h ?_)))))))));exact zb (w_c (zb (w_c (zk (q _ .app ⟨_,0,0,yj _,zt⟩ (by simp))))))
 ·exact zb (w_c (zb (w_c (zk (q _ .app ⟨_,0,0,yj _,zt⟩ (by simp))))))
def z0q(hk:k<=1000000)(q:∀v:Int,Q (.int v) μ):WF zWd [.fz (ns.map .int),.int (k:Nat)] μ Q:=by
 refine zzb rfl ?_;show WS z6d [some (.fz (ns.map .int)),some (.int (k:Nat)),none,none,none] μ _ _ _ _;unfold z6d
 have mk:∀{i:Int},zPj i (k:Nat)=true:=λ{i}=>by
  unfold zPj;rw[decide_eq_true (show -(2^64)<((k:Nat):Int)/\((k:Nat):Int)<2^64 by omega)];simp
 have rest:∀c:Int,WS (z9 (zgc 3 (zu zTn (zu z2f (zu zNi (zu z2f (zu z2f (zh 2) (zu zNi (fC (.int 40503)) (zh 1))) (fC (.int 1))) (fC (.int 48271))) (zu zNi (zh 1) (zh 1))) (fC (.int 2147483647)))) (z9 (zgc 4 (zu zTn (zu z2f (zu z2f (zu zNi (zh 3) (zh 3)) (zu zNi (fC (.int 69621)) (zh 3))) (zu zNi (fC (.int 31)) (zh 1))) (fC (.int 2147483629)))) (zec (zu zTn (zu z2f (zu z2f (zu zNi (zh 4) (zh 4)) (zu zNi (fC (.int 16807)) (zh 4))) (zh 1)) (fC (.int 1073741789)))))) [some (.fz (ns.map .int)),some (.int (k:Nat)),some (.int c),none,none] μ (λ_ μ'=>Q .non μ') Q (λ_ _=>False) (λ_ _=>False):=λc=>by
  refine zp (zab (zl (zl (zl (zl (zl (zc rfl (zl (w_c (zc rfl (zen mk (zsf (w_c (zsf (w_c (zen (by unfold zPj;simp) (zl (zc rfl (zc rfl (zen mk (zsf (w_c (zSl (by omega) ?_)))))))))))))))))))))));have h1:∀x:Int,0<=x%2147483647/\x%2147483647<2147483647:=λx=>⟨Int.emod_nonneg _ (by omega),xO _ (by omega)⟩
  obtain⟨a1,b1⟩:=h1 ((c+40503*(k:Nat)+1)*48271+(k:Nat)*(k:Nat));generalize ((c+40503*((k:Nat):Int)+1)*48271+((k:Nat):Int)*((k:Nat):Int))%2147483647=x at a1 b1
  have mx:∀{i:Int},zPj i x=true:=λ{i}=>by
   unfold zPj;rw[decide_eq_true (show -(2^64)<x/\x<2^64 by omega)];simp
  refine zp (zab (zl (zl (zl (zl (zc rfl (zc rfl (zen mx (zl (w_c (zc rfl (zen mx (zsf (zl (w_c (zc rfl (zen mk (zsf (w_c (zSl (by omega) ?_))))))))))))))))))));have h2:∀y:Int,0<=y%2147483629/\y%2147483629<2147483629:=λy=>⟨Int.emod_nonneg _ (by omega),xO _ (by omega)⟩
  obtain⟨a2,b2⟩:=h2 (x*x+69621*x+31*(k:Nat));generalize (x*x+69621*x+31*((k:Nat):Int))%2147483629=y at a2 b2
  have my:∀{i:Int},zPj i y=true:=λ{i}=>by
   unfold zPj;rw[decide_eq_true (show -(2^64)<y/\y<2^64 by omega)];simp
  exact zub (zl (zl (zl (zl (zc rfl (zc rfl (zen my (zl (w_c (zc rfl (zen my (zsf (zc rfl (zsf (w_c (zSl (by omega) (q _)))))))))))))))))
 refine zp (zab (w_c ?_));refine zp (zog (zJ (zl (zi (zb (zc rfl (zk (zQd rfl (w_c (z0l ⟨_,rfl,λh2=>?_,λh2=>zpb (rest _)⟩))))))))));have h2:=of_decide_eq_true h2;obtain⟨d,hm,_,ha⟩:=zSt (ds:=ns.map .int) (i:=(k:Nat)%((ns.map D.int).length:Int)) (Int.emod_nonneg _ (by omega)) (xO _ h2);obtain⟨v,_,rfl⟩:=List.mem_map.mp hm;exact zab (zl (zc rfl (zl (zc rfl (zi (zb (zc rfl (zk (zQd rfl (zSl h2 (z5c rfl ha (rest _))))))))))))
def zuw{gs:FGs}{P:M.Loc->Mem->Prop}{a b c d:D}{J:M.Loc}(e:μ[l]?=some (.lst [a,b,c,d]))(h:WGs gs [a,b,c,d] J μ P):WG (gTL 4 gs) (.loc l) J μ P:=by
 obtain⟨J1,μ1,e1,q⟩:=h;refine⟨J1,μ1,?_,q⟩;unfold gTL;dsimp only;rw[e];exact e1
def zjf{s:Int}(h:tO ns μ l B)(hB:B<=1000000)(h0:0<s)(h1:s<1606938044258990275541962092341162602522202993782792835301376)
 (q:∀v μ',0<=v->v<s->KB [l] μ μ'->μ'.length=μ.length->tO ns μ' l (B+1)->Q (.int v) μ'):WF zr [.loc l,.int s] μ Q:=by
 obtain⟨b,k,r,hk,e⟩:=h;have hlt:=zC e;refine zzb rfl ?_;show WS zhf [some (.loc l),some (.int s),none,none,none,none] μ _ _ _ _;unfold zhf;refine zp (zlk (zc rfl (zuw e (zne (z4d (zne (z4d (zne (z4d (zne (z4d (znk ?_))))))))))));refine zp (zlk (zl (zc rfl (w_c (zsf ?_)))));refine zst (zc rfl (w_c ⟨_,_,_,rfl,rfl,e,⟨by omega,by simp⟩,?_⟩));show WS _ _ (μ.set l (.lst [.fz (ns.map .int),.bl b,.int (((k:Nat):Int)+1),.int r])) _ _ _ _;have e2:(μ.set l (tD.lst [.fz (ns.map .int),.bl b,.int (((k:Nat):Int)+1),.int r]))[l]?=some (.lst [.fz (ns.map .int),.bl b,.int ((k+1:Nat):Int),.int r]):=zN e;have k2:KB [l] μ (μ.set l (tD.lst [.fz (ns.map .int),.bl b,.int (((k:Nat):Int)+1),.int r])):=KB.refl.set (.inl (by simp));have l2:(μ.set l (tD.lst [.fz (ns.map .int),.bl b,.int (((k:Nat):Int)+1),.int r])).length=μ.length:=by simp
 generalize μ.set l (tD.lst [.fz (ns.map .int),.bl b,.int (((k:Nat):Int)+1),.int r])=μ2 at e2 k2 l2;refine zp (zog (zJ (zc rfl ⟨_,rfl,λhb=>?_,λhb=>zpb ?_⟩)))
 ·refine zub (zl (zi (zb (zc rfl (zb (zc rfl (zk ?_))))))) ;refine z0q (by omega) λv=>zc rfl (zSl h0 ?_);exact q _ _ (Int.emod_nonneg _ (by omega)) (xO _ h0) k2 l2 ⟨b,k+1,r,by omega,e2⟩
 ·have last:∀r':Int,WS (z9 (zXp (zu znv (zh 5) (zh 1)) (gAt (zh 0) (fC (.int 3)))) (zec (zu zTn (zh 5) (zh 1)))) [some (.loc l),some (.int s),some (.fz (ns.map .int)),some (.bl b),some (.int (k:Nat)),some (.int r')] μ2 (λ_ μ'=>Q .non μ') Q (λ_ _=>False) (λ_ _=>False):=λr'=>by
   refine zp (zlk (zl (zc rfl (zc rfl (zEt h0 h1 ?_)))));refine zst (zc rfl (w_c ⟨_,_,_,rfl,rfl,e2,⟨by omega,by simp⟩,?_⟩));show WS _ _ (μ2.set l (.lst [.fz (ns.map .int),.bl b,.int ((k+1:Nat):Int),.int (r' / s)])) _ _ _ _;refine zub (zl (zc rfl (zc rfl (zSl h0 ?_))));exact q _ _ (Int.emod_nonneg _ (by omega)) (xO _ h0) (k2.trans (KB.refl.set (.inl (by simp)))) (by simp[l2]) ⟨b,k+1,r' / s,by omega,zN e2⟩
  refine zp (zog (zJ (zl (zl (zc rfl (w_c (zSl (by omega) (w_c (z9h ⟨_,rfl,λhz=>?_,λhz=>zpb (last r)⟩)))))))));refine zp (zab (w_c ?_));refine zog (zJ (zl (zl (zl (zc rfl (w_c (zEt (by omega) (by omega) (w_c (zsf (zi (zb (zc rfl (zk (zQd rfl (z0l ⟨_,rfl,λh2=>?_,λh2=>zpb (last 0)⟩)))))))))))))));have h2:=of_decide_eq_true h2;obtain⟨d,hm,_,ha⟩:=zSt (ds:=ns.map .int) (i:=((k:Nat):Int) / 60+1) (by omega) h2;obtain⟨v,_,rfl⟩:=List.mem_map.mp hm;exact zab (zl (zc rfl (zl (zl (zc rfl (w_c (zEt (by omega) (by omega) (w_c (zsf (z5c rfl ha (last v)))))))))))
def zuo{s:Nat}{G:FE}{J:M.Loc}(hp:tO ns μ l B)
 (he:∀(k:Nat)(μ':Mem)(Q':D->Mem->Prop),k<m->tO ns μ' l (B+k)->KB [l] μ μ'->(∀v μ'',0<=v->v<(s:Int)->KB [l] μ' μ''->tO ns μ'' l (B+k+1)->Q' (.int v) μ'')->WE G (J.set 0 (some (.int k))) μ' Q')
 (q:∀(S:List Nat)(μ':Mem),S.length=m->(∀h∈S,h<s)->KB [l] μ μ'->tO ns μ' l (B+m)->Q (.loc μ'.length) (μ'++[.lst (nat S)])) :
 WL (gN 0) zqk G yes J ((yi m).map λ(k:Nat) =>.int k) [] μ Q:=by
 refine z5h (λi ys μ'=>∃S:List Nat,ys=nat S/\S.length=i/\(∀h∈S,h<s)/\KB [l] μ μ'/\tO ns μ' l (B+i)) ⟨[],rfl,rfl,by simp,.refl,hp⟩ (λ_ _ _ _=>rfl) ?_ ?_
 ·rintro i x ys μ' hx ⟨S,rfl,hl,hS,k,p⟩;obtain⟨hi,rfl⟩:=zOg hx;refine z4d (zTr ⟨λ_=>?_,λhf=>(by cases hf)⟩);refine he i μ' _ hi p k λv μ'' a b k' p'=>?_;obtain⟨v,rfl⟩:=Int.eq_ofNat_of_zero_le a;refine⟨S++[v],by rw[zXc];rfl,by simp[hl],λh hh=>?_,k.trans k',p'⟩;rcases List.mem_append.mp hh with hh|hh
  ·exact hS h hh
  ·rw[List.mem_singleton.mp hh];omega
 ·rintro ys μ' ⟨S,rfl,hl,hS,k,p⟩;simp only[length_map,length_range]at hl p;exact q S μ' hl hS k p
end
abbrev tn(ns:List Nat):D:=.tup (nat ns)
abbrev wn(R:List Nat)(K:List (List Nat)):D:=.tup [tn R,.tup (K.map tn)]
structure Wb(L:Nat)(R:List Nat)(K:List (List Nat)):Prop where
 rl:1<=R.length/\R.length<=10
 kl:K.length<=L
 kn:∀k∈K,(2<=k.length/\k.length<=3)/\∀h∈k,h<R.length
def Wb.key(w:Wb L R K){k:Nat}(h:k<K.length):(2<=(K.getD k []).length/\(K.getD k []).length<=3)/\∀x∈K.getD k [],x<R.length:=by
 have:K.getD k []=K[k]:=by simp[h]
 rw[this];exact w.kn _ (getElem_mem h)
def zCg(q:Q (tn R) μ):W2 gIx (wn R K) (.int 0) μ Q:=z5c rfl (show atI [tn R,.tup (K.map tn)] 0=some (tn R) from rfl) q
def zae(q:Q (.tup (K.map tn)) μ):W2 gIx (wn R K) (.int 1) μ Q:=z5c rfl (show atI [tn R,.tup (K.map tn)] 1=some (.tup (K.map tn)) from rfl) q
def zLq(h:k<K.length)(q:Q (tn (K.getD k [])) μ):W2 gIx (.tup (K.map tn)) (.int k) μ Q :=
 z5c rfl (zke (v:=tn (K.getD k [])) (by simp[h])) q
def zPv(h:k<R.length)(q:Q (.int (R.getD k 0:Nat)) μ):W2 gIx (tn R) (.int k) μ Q:=z5c rfl (z0c h) q
def zMs{xs:List Nat}{d:Nat}(h:i<xs.length):M.cutD (nat xs) none (some (i:Int))++[D.int (d:Nat)]++M.cutD (nat xs) (some ((i:Int)+1)) none=nat (xs.set i d):=by
 have e1:=zYn (xs:=nat xs) (i:=i);have e2:=zGs (xs:=nat xs) (i:=i+1);have e3:(((i+1:Nat)):Int)=(i:Int)+1:=by omega
 rw[e3]at e2;rw[e1,e2];show(xs.map _).take i++[_]++(xs.map _).drop (i+1)=(xs.set i d).map _;rw[List.set_eq_take_append_cons_drop,if_pos h,map_append,map_cons,List.map_take,List.map_drop];simp
def zld{s:Nat}(h:tO ns μ l B)(hB:B<=1000000)(h0:0<s)(h1:s<=1000)(q:∀(v:Nat)(μ':Mem),v<s->KB [l] μ μ'->tO ns μ' l (B+1)->Q (.int (v:Nat)) μ'):WF zr [.loc l,.int (s:Nat)] μ Q :=
 zjf h hB (by omega) (by omega) λv μ' a b k _ p=>by
  obtain⟨v,rfl⟩:=Int.eq_ofNat_of_zero_le a;exact q v μ' (by omega) k p
def nin1(h:l≠a):a∉[l]:=λhm=>h (List.mem_singleton.mp hm).symm
def tO.new(h:tO ns μ l B):μ.length∉[l]:=nin1 (yt h.lt)
def TL(hB:B<=200000)(hk:k<=100):B+k<=1000000:=by omega
def zlm{N:Nat}{x3 x5:Option D}{ν:Mem}(hB:B<=200000)(h1:0<N)(hN:N<=10)(hm:0<m)(sW:m<=31)(hR:R.length=N)(p:tO ns ν l B)(q:∀R K μ',Wb (m-1) R K->KB [l] ν μ'->tO ns μ' l (B+200)->Q (wn R K) μ') :
 WS (z9 (zgc 6 (zDk zy)) (z9 (zIk (zGd (ze (zo zr (ze (zh 0) (ze (zh 1) zy))) zy)) (gN 7) zUd) (zec (zik (ze (zh 4) (ze (zo z8d (ze (zh 6) zy)) zy)))))) [some (.loc l),some (.int (m:Nat)),some (.int (N:Nat)),x3,some (tn R),x5,none,none,none] ν (λ_ μ'=>Q .non μ') Q (λ_ _=>False) (λ_ _=>False):=by
 have hlc:l≠ν.length:=yt p.lt;refine zp (zab (zKg (zk ?_)));have pa:=p.app (g:=[tD.lst []]);have ka:KB [l] ν (ν++[tD.lst []]):=KB.refl.app;have ga:(ν++[tD.lst []])[ν.length]?=some (.lst []):=zt;generalize ν++[tD.lst []]=νa at pa ka ga;generalize hcc:ν.length=c at ga hlc;refine zp (zkg (zue (zb (zi (zb (zc rfl (zb (zc rfl (zk ?_)))))))));refine zld pa (TL (k:=0) hB (by decide)) hm (yA sW (by decide)) λt νb b0 kb pb=>zk ⟨_,rfl,Int.natCast_nonneg _,by omega,?_⟩;rw[yJ];have ht:t<=m-1:=by omega
 have ht30:t<=30:=by omega
 refine zpc (λi J μ=>∃(K:List (List Nat)) (y z:Option D),J=[some (.loc l),some (.int (m:Nat)),some (.int (N:Nat)),x3,some (tn R),x5,some (.loc c),y,z]/\K.length=i/\(∀k∈K,(2<=k.length/\k.length<=3)/\∀h∈k,h<N)/\KB [l] ν μ/\tO ns μ l (B+1+4*i)/\μ[c]?=some (.lst (K.map tn)))
  ⟨[],_,_,rfl,rfl,by simp,ka.trans kb,pb,kb.at_ _ _ (nin1 hlc) ga⟩ (λ_ _ _ _=>rfl) ?_ ?_
 ·rintro i z0 J ν1 hz ⟨K,y,z,rfl,hKl,hK,kk,pp,gg⟩;obtain⟨hi,rfl⟩:=zOg hz;have hi30:i<30:=by omega
  have hB1:B+1+4*i<=300000:=by omega
  clear hz hi ht ht30 sW hm b0;refine z4d ?_;unfold zUd;refine zp (zab (zl (w_c (zi (zb (zc rfl (zb (w_c (zk ?_)))))))));refine zld (s:=2) pp (yA hB1 (by decide)) (by decide) (by decide) λv ν2 b2 k2 p2=>zsf ?_;have hv:(2:Int)+(v:Nat)=((2+v:Nat):Int):=by omega
  rw[hv];have hz:2<=2+v/\2+v<=3:=by omega
  clear hv b2;generalize 2+v=z at hz;have g2:=k2.at_ _ _ (nin1 hlc) gg;refine zdi (zTg (zc rfl ⟨_,_,rfl,g2,?_⟩));refine zb (zi (zb (zrk (zue (zb (zc rfl (zk ⟨_,rfl,Int.natCast_nonneg _,by omega,zLb (by simp;omega),?_⟩)))))));rw[yJ];refine zuo (s:=N) p2 (λk μ' Q' hk p' k' q'=>?_) λS ν3 hSl hS k3 p3=>zk (zOf (zq zt) (zk ?_))
  ·unfold zFi;exact zi (zb (zc rfl (zb (zc rfl (zk (zjf p' (by omega) (by omega) (by omega) λv μ'' a b k'' e'' p''=>q' v μ'' a b k'' p''))))))
  have g3:(ν3++[tD.lst (nat S)])[c]?=some (.lst (K.map tn)):=zB (k3.at_ _ _ (nin1 hlc) g2);refine zQi g3 (by rw[length_map];omega) ?_;refine⟨K++[S],_,_,rfl,by rw[length_append,hKl];rfl,λk hk=>?_,((kk.trans (k2.trans k3)).app).set (.inr (Nat.le_of_eq hcc)),((p3.app).set (Yv hlc)).up (by omega),?_⟩
  ·rcases List.mem_append.mp hk with hk|hk
   ·exact hK k hk
   ·rw[List.mem_singleton.mp hk];exact⟨by rw[hSl];exact hz,hS⟩
  ·rw[zN g3,map_append];rfl
 ·rintro J ν1 ⟨K,y,z,rfl,hKl,hK,kk,pp,gg⟩;simp only[length_map,length_range]at hKl pp;refine zub (zxg (zb (zc rfl (zb (zi (zb (zc rfl (zk (zOf (zq gg) (zk ?_))))))))));refine q R K ν1 ⟨by rw[hR];exact⟨h1,hN⟩,by rw[hKl];exact ht,λk hk=>?_⟩ kk (pp.up (by omega));rw[hR];exact hK k hk
def zRr(xs:List D)(lo hi:Option Int):(M.cutD xs lo hi).length<=xs.length:=by
 unfold M.cutD;rw[length_take,length_drop];exact yA (Nat.min_le_right _ _) (Nat.sub_le _ _)
def zOk{ns:List Int}{l B N m:Nat}{ν:Mem}{Q:D->Mem->Prop}(hB:B<=150000)(h1:0<N)(hN:N<=10)(hm:0<m)(sW:m<=31)(p:tO ns ν l B)(q:∀R K μ',Wb (m-1) R K->KB [l] ν μ'->tO ns μ' l (B+300)->Q (wn R K) μ') :
 WS (z9 (zgc 3 (zu gIx (zDk (ze (fC (.int 2)) (ze (fC (.int 3)) (ze (fC (.int 3)) (ze (fC (.int 10)) zy))))) (zo zr (ze (zh 0) (ze (fC (.int 4)) zy))))) (z9 (zgc 4 (zo z8d (ze (fLC 1 [0,3] (zGd (ze (zh 2) zy)) (gN 0) zqk zBf) zy))) (z9 (sIf (z5 (zu gEq (zo zr (ze (zh 0) (ze (fC (.int 8)) zy))) (fC (.int 3)))) (z9 (zgc 5 (zo zr (ze (zh 0) (ze (zh 2) zy)))) (zgc 4 (zu z2f (zu z2f (fSl (zh 4) pNo (zzv (zh 5))) (zik (ze (zu z2f (zu gIx (zh 4) (zh 5)) (zu gIx (zDk (ze (fC (.int 1)) (ze (fC (.int 10)) (ze (zu zCv (fC (.int 10)) (fC (.int 40))) zy)))) (zo zr (ze (zh 0) (ze (fC (.int 3)) zy))))) zy))) (fSl (zh 4) (zzv (zu z2f (zh 5) (fC (.int 1)))) pNo)))) zsc) (z9 (zgc 6 (zDk zy)) (z9 (zIk (zGd (ze (zo zr (ze (zh 0) (ze (zh 1) zy))) zy)) (gN 7) zUd) (zec (zik (ze (zh 4) (ze (zo z8d (ze (zh 6) zy)) zy))))))))) [some (.loc l),some (.int (m:Nat)),some (.int (N:Nat)),none,none,none,none,none,none] ν (λ_ μ'=>Q .non μ') Q (λ_ _=>False) (λ_ _=>False):=by
 have hB2:B<=200000:=yA hB (by decide);have hN':N<=1000:=yA hN (by decide);refine zp (zab (zl (zKg (zb (w_c (zb (w_c (zb (w_c (zb (w_c (zk (zi (zb (zc rfl (zb (w_c (zk ?_))))))))))))))))));refine zld (s:=4) p.app (TL (k:=0) hB2 (by decide)) (by decide) (by decide) λx ν3 b3 k3 p3=>?_;have g3:ν3[ν.length]?=some (.lst [.int 2,.int 3,.int 3,.int 10]):=k3.at_ _ _ p.new zt;have k3':KB [l] ν ν3:=KB.refl.app.trans k3
 have hx:∃wd:Nat,atI [D.int 2,.int 3,.int 3,.int 10] (x:Nat)=some (.int wd)/\2<=wd/\wd<=10:=by
  clear g3 k3' k3 p3 p q
  match x,b3 with
  |0,_=>exact⟨2,rfl,by decide⟩
  |1,_=>exact⟨3,rfl,by decide⟩
  |2,_=>exact⟨3,rfl,by decide⟩
  |3,_=>exact⟨10,rfl,by decide⟩
 obtain⟨wd,ha,hw⟩:=hx;refine z5c (zq g3) ha ?_;clear g3 ha b3;refine zp (zab (zi (zb (zrk (zue (zb (zc rfl (zk ⟨_,rfl,Int.natCast_nonneg _,by omega,zLb (by simp;omega),?_⟩))))))));rw[yJ];refine zuo (s:=wd) (m:=N) p3 (λk μ' Q' hk p' k' q'=>?_) λR ν4 hRl hR k4 p4=>zk (zOf (zq zt) ?_)
 ·unfold zBf;exact zi (zb (zc rfl (zb (zc rfl (zk (zjf p' (by omega) (by omega) (by omega) λv μ'' a b k'' e'' p''=>q' v μ'' a b k'' p''))))))
 have k4':=(k3'.trans k4).app (g:=[.lst (nat R)]);have p4':=(p4.app (g:=[.lst (nat R)])).up (B':=B+20) (by omega);clear k4 p4 k3 p3 hw hR;generalize ν4++[tD.lst (nat R)]=ν5 at k4' p4';refine zp (zog (zJ (zl (zi (zb (zc rfl (zb (w_c (zk ?_)))))))));refine zld (s:=8) p4' (TL (k:=20) hB2 (by decide)) (by decide) (by decide) λv6 ν6 b6 k6 p6=>?_;refine w_c (z9h ⟨_,rfl,λ_=>?_,λ_=>zpb (zlm (B:=B+21) (yA (Xe hB 21) (by decide)) h1 hN hm sW hRl p6 λR K μ' w k p'=>q R K μ' w (k4'.trans (k6.trans k)) (p'.up (by omega)))⟩);refine zp (zab (zi (zb (zc rfl (zb (zc rfl (zk ?_)))))));refine zld p6 (TL (k:=21) hB2 (by decide)) h1 hN' λi ν7 b7 k7 p7=>?_;have hiR:i<R.length:=by rw[hRl];exact b7
 refine zab (zl (zl (zhy (zc rfl (zat (zLo (zc rfl ⟨_,rfl,_,rfl,?_⟩)))))));refine zxg (zb (zl (zl (zc rfl (zc rfl (z5c rfl (z0c hiR) (zl (zKg (zb (w_c (zb (w_c (zb (zl (w_c (w_c (z5v (by decide) (by decide) (by decide) (zk (zi (zb (zc rfl (zb (w_c (zk ?_))))))))))))))))))))))));refine zld (s:=3) p7.app (TL (k:=22) hB2 (by decide)) (by decide) (by decide) λy ν8 b8 k8 p8=>?_;have g8:ν8[ν7.length]?=some (.lst [.int 1,.int 10,.int ((10:Int)^Int.toNat 40)]):=k8.at_ _ _ p7.new zt
 have hy:∃u:Nat,atI [D.int 1,D.int 10,D.int ((10:Int)^Int.toNat 40)] (y:Nat)=some (.int u):=by
  clear g8 k8 p8 k7 p7 k6 p6 k4' p4' q
  match y,b8 with
  |0,_=>exact⟨1,rfl⟩
  |1,_=>exact⟨10,rfl⟩
  |2,_=>exact⟨10^40,rfl⟩
 obtain⟨u,hy⟩:=hy;refine z5c (zq g8) hy (zsf (zk ?_));have c1:=zRr (nat R) none (some (i:Int));have c2:=zRr (nat R) (some ((i:Int)+1)) none;rw[length_map,hRl]at c1 c2;clear hy g8 b8 b7 b6;refine z3t (by simp;omega) (zhy (zc rfl (zLo (zl (zc rfl (w_c (zsf ⟨_,rfl,zat ⟨_,rfl,?_⟩⟩)))))));refine z3t (by simp;omega) ?_;have ed:((R.getD i 0:Nat):Int)+(u:Nat)=((R.getD i 0+u:Nat):Int):=(Int.natCast_add _ _).symm;rw[ed,zMs hiR];exact zlm (B:=B+23) (yA (Xe hB 23) (by decide)) h1 hN hm sW (by rw[List.length_set];exact hRl) p8 λR K μ' w k p'=>q R K μ' w ((k4'.trans (k6.trans k7)).app.trans (k8.trans k)) (p'.up (by omega))
def zju(h:tO ns μ l B)(hB:B<=100000)(hm:0<m/\m<=31)
 (q:∀R K μ',Wb (m-1) R K->KB [l] μ μ'->tO ns μ' l (B+1000)->Q (wn R K) μ'):WF zXf [.loc l,.int (m:Nat)] μ Q:=by
 refine zzb rfl ?_;show WS z3f [some (.loc l),some (.int (m:Nat)),none,none,none,none,none,none,none] μ _ _ _ _;unfold z3f;have hB2:B<=200000:=yA hB (by decide);refine zp (zab (zl (w_c (zi (zb (zc rfl (zb (w_c (zk ?_)))))))));refine zld (s:=6) h (TL (k:=0) hB2 (by decide)) (by decide) (by decide) λn0 μ1 b1 k1 p1=>zsf ?_;refine zp (zog (zJ (zl (zi (zb (zc rfl (zb (w_c (zk ?_)))))))));refine zld (s:=8) p1 (TL (k:=1) hB2 (by decide)) (by decide) (by decide) λv2 μ2 b2 k2 p2=>w_c (z9h ⟨_,rfl,λ_=>?_,λ_=>zpb ?_⟩)
 ·refine zab (zl (w_c (zi (zb (zc rfl (zb (w_c (zk ?_))))))));refine zld (s:=6) p2 (TL (k:=2) hB2 (by decide)) (by decide) (by decide) λn1 μ3 b3 k3 p3=>zsf ?_;rw[show(5:Int)+(n1:Nat)=((5+n1:Nat):Int) from(Int.natCast_add 5 n1).symm];exact zOk (B:=B+3) (yA (Xe hB 3) (by decide)) (by omega) (by omega) hm.1 hm.2 p3 λR K μ' w k p'=>q R K μ' w (k1.trans (k2.trans (k3.trans k))) (p'.up (by omega))
 ·rw[show(1:Int)+(n0:Nat)=((1+n0:Nat):Int) from(Int.natCast_add 1 n0).symm];exact zOk (B:=B+2) (yA (Xe hB 2) (by decide)) (by omega) (by omega) hm.1 hm.2 p2 λR K μ' w k p'=>q R K μ' w (k1.trans (k2.trans k)) (p'.up (by omega))
structure tY(R:List Nat)(K:List (List Nat))(lay:List (Option Nat)):Prop where
 len:lay.length=K.length
 home:∀k h,lay[k]?=some (some h)->h∈K.getD k []
 room:∀h,lay.count (some h)<=R.getD h 0
def zkk(K:List (List Nat))(S:List Nat):List Nat:=S.flatMap λk=>K.getD k []
def zFd(n:Nat)(K:List (List Nat))(S:List Nat):List Nat:=(yi n).filter λh=>decide (∃k∈S,h∈K.getD k [])
def zml(R:List Nat)(N:List Nat):Nat:=(N.map λh=>R.getD h 0).sum
def zvf(w:Wb L R K)(h:Nat):h∈zFd R.length K S↔∃k∈S,h∈K.getD k []:=by
 unfold zFd;rw[mem_filter,mem_range,decide_eq_true_iff];constructor
 ·exact λq=>q.2
 ·rintro⟨k,hk,hh⟩;refine⟨?_,k,hk,hh⟩;rw[getD_eq_getElem?_getD]at hh
  cases e:K[k]? with
  |none=>rw[e]at hh;simp at hh
  |some x=>rw[e]at hh;exact(w.kn x (mem_of_getElem? e)).2 h hh
def zBt :∀h∈zFd n K S,h<n:=λh hh=>by
 have:=(List.mem_filter.mp hh).1;simpa using this
def zDs(n:Nat)(K:List (List Nat))(S:List Nat):(zFd n K S).Pairwise (· < ·):=List.pairwise_lt_range.filter _
def zRm(n:Nat)(K:List (List Nat))(S:List Nat):(zFd n K S).length<=n:=by
 unfold zFd;refine yA (List.length_filter_le _ _) ?_;simp
def zSj{L:Nat}{R:List Nat}{K:List (List Nat)}(w:Wb L R K):∀S:List Nat,(zkk K S).length<=3*S.length
 |[]=>by simp[zkk]
 |k::S=>by
  have ih:=zSj w S
  have h1:(K.getD k []).length<=3:=by
   rw[getD_eq_getElem?_getD]
   cases e:K[k]? with
   |none=>simp
   |some x=>exact(w.kn x (mem_of_getElem? e)).1.2
  unfold zkk at ih ⊢;rw[List.flatMap_cons,length_append,length_cons];omega
def zKd(R:List Nat)(K:List (List Nat))(S:List Nat):Bool:=decide (zml R (zFd R.length K S)<S.length)
def zci(w:Wb L R K)(hn:μ[n]?=some (.lst (nat S)))(hS:∀k∈S,k<K.length)(hl:S.length<=1000)
 (q:∀(l:Nat)(μ':Mem),tw μ μ'->μ.length<=l->μ'[l]?=some (.lst (nat (zFd R.length K S)))->Q (.loc l) μ'):WF zSc [wn R K,.loc n] μ Q:=by
 refine zzb rfl ?_;show WS zWf [some (wn R K),some (.loc n),none,none] μ _ _ _ _;unfold zWf
 repeat walk_at "w"
 have hnl:=zC hn;refine zTe (zc rfl (.inr (.inr ⟨n,_,rfl,zB hn,?_⟩)));refine zpc (λm J μ'=>∃a:Option D,J=[some (wn R K),some (.loc n),some (.loc μ.length),a]/\tw μ μ'/\μ'[μ.length]?=some (.lst (nat (zkk K (S.take m))))) ⟨none,rfl,.app,by simp[zkk]⟩ (λm J μ' ⟨a,_,k,_⟩=>znb hn k) ?_ ?_
 ·rintro m x J μ1 hx ⟨a,rfl,k,hg⟩;rw[yh]at hx
  cases hy:S[m]? with
  |none=>rw[hy]at hx;cases hx
  |some kk=>
   rw[hy]at hx;cases hx;have hkk:=hS kk (mem_of_getElem? hy)
   walk_at "w"
   unfold zGi
   repeat walk_at "w"
   refine⟨μ.length,_,rfl,hg,?_⟩
   repeat walk_at "w"
   refine zae ?_
   repeat walk_at "w"
   refine zLq hkk ?_
   repeat walk_at "w"
   have hfl:=zSj w (S.take m);have hks:=(w.key hkk).1;have htl:(S.take m).length<=1000:=yA (by simp;omega) hl;refine zww hg (by simp only[length_map];omega) ?_;refine⟨_,rfl,λi o e=>zS (k i o e) (Yc (zC e)),?_⟩;rw[zN hg];have ht:S.take (m+1)=S.take m++[kk]:=by rw[take_succ,hy];rfl
   have e2:zkk K (S.take (m+1))=zkk K (S.take m)++K.getD kk []:=by
    unfold zkk;rw[ht,List.flatMap_append];simp
   rw[e2,zXc]
 ·rintro J μ1 ⟨a,rfl,k,hg⟩;rw[length_map,take_length]at hg
  have hmem:∀i:Int,i∈(zFd R.length K S).map (λ(k:Nat)=>(k:Int))↔i∈(zkk K S).map (λ(k:Nat)=>(k:Int)):=λi=>by
   simp only[mem_map];constructor
   ·rintro⟨h,hh,rfl⟩;obtain⟨k,hk,hh⟩:=(zvf w h).mp hh;exact⟨h,List.mem_flatMap.mpr ⟨k,hk,hh⟩,rfl⟩
   ·rintro⟨h,hh,rfl⟩;obtain⟨k,hk,hh⟩:=List.mem_flatMap.mp hh;exact⟨h,(zvf w h).mpr ⟨k,hk,hh⟩,rfl⟩
  have hpw:((zFd R.length K S).map (λ(k:Nat)=>(k:Int))).Pairwise (· < ·):=by
   rw[pairwise_map];exact(zDs R.length K S).imp λh=>by omega
  have hp:=zQl hmem hpw;have hsort:=z8o hmem hpw;have hfl:=zSj w S;have hrl:=w.rl;have hnl2:=zRm R.length K S;refine zub (z9t (zc rfl ⟨_,(zkk K S).map (λ(k:Nat)=>(k:Int)),rfl,by rw[hg,map_map];rfl,by rw[length_map];omega,by rw[hp.length_eq,length_map];omega,?_⟩));rw[hsort,map_map];exact q _ _ k.to k.len zt
def z2g(hn:μ[n]?=some (.lst (nat S)))(hS:∀k∈S,k<R.length)(hl:S.length<=1000)
 (q:∀(μ':Mem),tw μ μ'->Q (.int (zml R S:Nat)) μ'):WF zGc [wn R K,.loc n] μ Q:=by
 refine zzb rfl ?_;show WS zFh [some (wn R K),some (.loc n)] μ _ _ _ _;unfold zFh
 repeat walk_at "w"
 refine zTe (zc rfl (.inr (.inr ⟨n,_,rfl,hn,zLb (by simp;omega),?_⟩)));refine zyf (λ(k:Nat)=>D.int k) S (λk =>.int (R.getD k 0:Nat)) (λμ' k=>znb hn k) (λk hk μ' kp=>?_) (λμ' kp=>?_)
 ·have hkk:=hS k hk
  walk_at "w"
  unfold zfj
  repeat walk_at "w"
  refine zCg ?_
  repeat walk_at "w"
  exact zPv hkk ⟨rfl,kp,kp⟩
 ·repeat walk_at "w"
  refine zJw (S:=S.map λk=>R.getD k 0) (by rw[zt,zMh]) ?_;exact q _ kp.to
def zgg(w:Wb L R K)(hn:μ[n]?=some (.lst (nat S)))(hS:∀k∈S,k<K.length)(hl:S.length<=1000)
 (q:∀μ',tw μ μ'->Q (.bl (zKd R K S)) μ'):WF z3b [wn R K,.loc n] μ Q:=by
 refine zzb rfl ?_;show WS zhg [some (wn R K),some (.loc n)] μ _ _ _ _;unfold zhg
 repeat walk_at "w"
 refine zci w hn hS hl λl μ1 k1 hl1 g1=>?_
 repeat walk_at "w"
 have hnl:=zRm R.length K S;have hrl:=w.rl;refine z2g g1 zBt (by omega) λμ2 k2=>?_
 repeat walk_at "w"
 refine zQd (zq (k2 _ _ (k1 _ _ hn))) ?_
 repeat walk_at "w"
 have:=q μ2 (k1.trans k2);unfold zKd at this;simp only[length_map,Int.ofNat_lt];exact this
def zWn(lay:List (Option Nat))(a:Option Nat):lay.count a=((yi lay.length).filter λk=>decide (lay.getD k none=a)).length:=by
 have e:lay=(yi lay.length).map λk=>lay.getD k none:=by
  refine ext_getElem? λi=>?_
  by_cases h:i<lay.length
  ·simp[h]
  ·simp[h]
 conv=>lhs;rw[e]
 rw[List.count,List.countP_map,List.countP_eq_length_filter]
 congr 1
 refine filter_congr λk _=>?_;simp only[xP];exact Bool.beq_eq_decide_eq _ _
def lyN(lay:List (Option Nat))(N:List Nat):List Nat:=(yi lay.length).filter λk=>decide (∃h∈N,lay.getD k none=some h)
def sr:k∈lyN lay N↔∃h∈N,lay.getD k none=some h:=by
 unfold lyN;rw[mem_filter,mem_range,decide_eq_true_iff];constructor
 ·exact λq=>q.2
 ·rintro⟨h,hh,e⟩;refine⟨?_,h,hh,e⟩;refine Nat.lt_of_not_le λhle=>?_;rw[getD_eq_getElem?_getD,yK hle]at e;cases e
def zvw(lay:List (Option Nat))(N:List Nat):(lyN lay N).Nodup:=List.nodup_range.sublist filter_sublist
def zZg{α:Type}(p q:α->Bool)(h:∀x,p x=true->q x=false):∀l:List α,(l.filter λx=>p x||q x).length=(l.filter p).length+(l.filter q).length
 |[]=>rfl
 |x::l=>by
  have ih:=zZg p q h l
  cases hp:p x with
  |true=>simp[List.filter_cons,hp,h x hp,ih];omega
  |false=>
   cases hq:q x with
   |true=>simp[List.filter_cons,hp,hq,ih];omega
   |false=>simp[List.filter_cons,hp,hq,ih]
def zXn{lay:List (Option Nat)}:∀{N:List Nat},N.Nodup->(lyN lay N).length=(N.map λh=>lay.count (some h)).sum
 |[],_=>by simp[lyN]
 |h::N,nd=>by
  obtain⟨h1,h2⟩:=List.nodup_cons.mp nd;rw[map_cons,sum_cons,<-zXn h2,zWn]
  have:=zZg (λk=>decide (lay.getD k none=some h)) (λk=>decide (∃g∈N,lay.getD k none=some g)) (λk hk=>by
   have hk:=of_decide_eq_true hk;refine decide_eq_false ?_;rintro⟨g,hg,e⟩;rw[hk]at e;cases e;exact h1 hg) (yi lay.length)
  rw[show lyN lay N=(yi lay.length).filter λk=>decide (∃g∈N,lay.getD k none=some g) from rfl,<-this];unfold lyN
  congr 1
  refine filter_congr λk _=>?_;rw[<-Bool.decide_or];refine decide_eq_decide.mpr ?_;simp only[mem_cons];constructor
  ·rintro⟨g,rfl|hg,e⟩
   ·exact .inl e
   ·exact .inr ⟨g,hg,e⟩
  ·rintro(e|⟨g,hg,e⟩)
   ·exact⟨h,.inl rfl,e⟩
   ·exact⟨g,.inr hg,e⟩
def zfs{α:Type}{f g:α->Nat}:∀{l:List α},(∀x∈l,f x<=g x)->(l.map f).sum<=(l.map g).sum
 |[],_=>yj _
 |x::l,h=>by
  rw[map_cons,map_cons,sum_cons,sum_cons];have h1:=h x mem_cons_self;have h2:=zfs (l:=l) λy hy=>h y (mem_cons_of_mem _ hy);omega
def zxd{α:Type}[DecidableEq α]:∀{l m:List α},l.Nodup->(∀x∈l,x∈m)->l.length<=m.length
 |[],_,_,_=>yR _
 |x::l,m,nd,h=>by
  obtain⟨h1,h2⟩:=List.nodup_cons.mp nd;have hx:=h x mem_cons_self;have ih:=zxd (l:=l) (m:=m.erase x) h2 λy hy=>(List.mem_erase_of_ne (by rintro rfl;exact h1 hy)).mpr (h y (mem_cons_of_mem _ hy));rw[List.length_erase_of_mem hx]at ih;have:=List.length_pos_of_mem hx;rw[length_cons];omega
def zwr(w:Wb L R K)(r:tY R K lay)(hd:T.Nodup)(hT:∀k∈T,k<K.length)(hall:∀k∈T,(lay.getD k none).isSome=true):zKd R K T=false:=by
 refine decide_eq_false ?_;have hN:(zFd R.length K T).Nodup:=List.nodup_range.sublist filter_sublist
 have h1:T.length<=(lyN lay (zFd R.length K T)).length:=zxd hd λk hk=>by
  rw[sr];have hs:=hall k hk
  cases e:lay.getD k none with
  |none=>rw[e]at hs;cases hs
  |some h=>
   refine⟨h,?_,rfl⟩;rw[zvf w];refine⟨k,hk,r.home k h ?_⟩;have hkl:k<lay.length:=by rw[r.len];exact hT k hk
   simp[hkl]at e;simp[hkl,e]
 rw[zXn hN]at h1;have h2:((zFd R.length K T).map λh=>lay.count (some h)).sum<=zml R (zFd R.length K T):=zfs λh _=>r.room h;omega
structure Tw(R:List Nat)(K:List (List Nat))(lay:List (Option Nat))(C:List Nat):Prop where
 keys:∀k∈C,k<K.length
 full:∀k∈C,∀h∈K.getD k [],R.getD h 0<=lay.count (some h)
 lies:∀k∈C,∀h∈K.getD k [],∀o,lay.getD o none=some h->o∈C
def Tw.nil:Tw R K lay []:=⟨by simp,by simp,by simp⟩
def Tw.app{E:List Nat}(a:Tw R K lay C)(b:Tw R K lay E):Tw R K lay (C++E):=by
 refine⟨λk hk=>?_,λk hk=>?_,λk hk h hh o e=>?_⟩
 ·rcases List.mem_append.mp hk with hk|hk
  ·exact a.keys k hk
  ·exact b.keys k hk
 ·rcases List.mem_append.mp hk with hk|hk
  ·exact a.full k hk
  ·exact b.full k hk
 ·rcases List.mem_append.mp hk with hk|hk
  ·exact mem_append_left _ (a.lies k hk h hh o e)
  ·exact mem_append_right _ (b.lies k hk h hh o e)
def Tw.congr{E:List Nat}(a:Tw R K lay C)(h:∀k,k∈E↔k∈C):Tw R K lay E :=
 ⟨λk hk=>a.keys k ((h k).mp hk),λk hk=>a.full k ((h k).mp hk),λk hk g hg o e=>(h o).mpr (a.lies k ((h k).mp hk) g hg o e)⟩
def zAp(w:Wb L R K)(s:Tw R K lay C)(hl:lay.length=K.length){k0:Nat}(hk0:k0∈C)(hn:lay.getD k0 none=none):zKd R K C=true:=by
 refine decide_eq_true ?_;have hN:(zFd R.length K C).Nodup:=List.nodup_range.sublist filter_sublist
 have h1:zml R (zFd R.length K C)<=((zFd R.length K C).map λh=>lay.count (some h)).sum:=zfs λh hh=>by
  obtain⟨k,hk,hm⟩:=(zvf w h).mp hh;exact s.full k hk h hm
 rw[<-zXn hN]at h1
 have h2:(k0::lyN lay (zFd R.length K C)).length<=C.length:=zxd (List.nodup_cons.mpr ⟨λhm=>(by
  obtain⟨h,_,e⟩:=sr.mp hm;rw[hn]at e;cases e),zvw _ _⟩) λx hx=>by
  rcases List.mem_cons.mp hx with rfl|hx
  ·exact hk0
  ·obtain⟨h,hh,e⟩:=sr.mp hx;obtain⟨k,hk,hm⟩:=(zvf w h).mp hh;exact s.lies k hk h hm x e
 rw[length_cons]at h2;omega
structure Ti(K:List (List Nat))(lay:List (Option Nat))(key:Nat)(row:List (Nat×Nat)):Prop where
 first:∃h r,row=(key,h)::r
 mem:∀p∈row,p.1<K.length/\p.2∈K.getD p.1 []/\lay.getD p.1 none≠some p.2
 link:∀i p q,row[i]?=some p->row[i+1]?=some q->lay.getD q.1 none=some p.2
 nd:(row.map (·.1)).Nodup
def zse(lay:List (Option Nat))(row:List (Nat×Nat)):List (Option Nat):=row.foldl (λl p=>l.set p.1 (some p.2)) lay
def zBh(row:List (Nat×Nat)):∀lay:List (Option Nat),(zse lay row).length=lay.length:=by
 induction row with
 |nil=>intro lay;rfl
 |cons p row ih=>intro lay;show(zse (lay.set p.1 (some p.2)) row).length=_;rw[ih];simp
def zdl(lay:List (Option Nat))(row:List (Nat×Nat))(p:Nat×Nat):zse lay (row++[p])=(zse lay row).set p.1 (some p.2):=by
 unfold zse;rw[List.foldl_append];rfl
def zNe :∀{lay:List (Option Nat)} {k:Nat},k∉row.map (·.1)->(zse lay row).getD k none=lay.getD k none:=by
 induction row with
 |nil=>intro lay k _;rfl
 |cons p row ih=>
  intro lay k hk;rw[map_cons,mem_cons,not_or]at hk;show(zse (lay.set p.1 (some p.2)) row).getD k none=_;rw[ih hk.2];simp only[getD_eq_getElem?_getD];rw[Yk (Yv hk.1)]
def zOl(nd:(row.map (·.1)).Nodup):∀{lay:List (Option Nat)} {p:Nat×Nat},p∈row->p.1<lay.length->(zse lay row).getD p.1 none=some p.2:=by
 induction row with
 |nil=>intro lay p hp;cases hp
 |cons q row ih=>
  intro lay p hp hl;rw[map_cons,List.nodup_cons]at nd;show(zse (lay.set q.1 (some q.2)) row).getD p.1 none=_;rcases List.mem_cons.mp hp with rfl|hp
  ·rw[zNe nd.1];simp[hl]
  ·exact ih nd.2 hp (by simpa using hl)
def zBm{a b:Option Nat}(hk:k<lay.length)(ha:lay.getD k none=a)(x:Option Nat):(lay.set k b).count x+(if a=x then 1 else 0)=lay.count x+(if b=x then 1 else 0):=by
 have e1:lay=lay.take k++a::lay.drop (k+1):=by
  have:lay[k]=a:=by simpa[hk] using ha
  rw[<-this,List.getElem_cons_drop,take_append_drop]
 have e2:lay.set k b=lay.take k++b::lay.drop (k+1):=by rw[List.set_eq_take_append_cons_drop,if_pos hk]
 rw[e2]
 conv=>rhs;rw[e1]
 rw[List.count_append,List.count_append,count_cons,count_cons];simp only[beq_iff_eq]
 split<;>split<;>omega
def zjj{key:Nat}(r:Ti K lay key row)(hl:lay.length=K.length)(hkey:lay.getD key none=none):∀i,i<row.length->∀h:Nat,(zse lay (row.take (i+1))).count (some h)=lay.count (some h)+(if(row.getD i (0,0)).2=h then 1 else 0):=by
 intro i
 induction i with
 |zero=>
  intro hi h;obtain⟨h0,r0,e⟩:=r.first
  have hm:=r.mem (key,h0) (by rw[e];simp);subst e;have:=zBm (lay:=lay) (k:=key) (b:=some h0) (by rw[hl];exact hm.1) hkey (some h);show(lay.set key (some h0)).count (some h)=_;simpa using this
 |succ i ih=>
  intro hi h;have ih:=ih (by omega) h;have hp:row[i]?=some row[i]:=by simp[show i<row.length by omega]
  have hq:row[i+1]?=some row[i+1]:=by simp[hi]
  have hlink:=r.link i _ _ hp hq;have hm:=r.mem row[i+1] (getElem_mem hi);have et:row.take (i+1+1)=row.take (i+1)++[row[i+1]]:=by simp
  have hnot:(row[i+1]).1∉(row.take (i+1)).map (·.1):=by
   intro hmem;have nd:=r.nd;rw[<-take_append_drop (i+1) row,map_append,nodup_append]at nd;refine nd.2.2 _ hmem _ ?_ rfl;refine List.mem_map.mpr ⟨row[i+1],?_,rfl⟩;rw[drop_eq_getElem_cons hi];exact mem_cons_self
  have hcur:(zse lay (row.take (i+1))).getD (row[i+1]).1 none=some (row[i]).2:=by rw[zNe hnot];exact hlink
  rw[et,zdl];have:=zBm (lay:=zse lay (row.take (i+1))) (k:=(row[i+1]).1) (b:=some (row[i+1]).2) (by rw[zBh,hl];exact hm.1) hcur (some h);have e1:row.getD i (0,0)=row[i]:=by simp[show i<row.length by omega]
  have e2:row.getD (i+1) (0,0)=row[i+1]:=by simp[hi]
  rw[e1]at ih;rw[e2];simp only[xX]at this;omega
def zXj{key:Nat}(rt:tY R K lay)(r:Ti K lay key row)(hkey:lay.getD key none=none)(hroom:lay.count (some (row.getD (row.length-1) (0,0)).2)<R.getD (row.getD (row.length-1) (0,0)).2 0):tY R K (zse lay row):=by
 have hpos:0<row.length:=by
  obtain⟨h,q,e⟩:=r.first
  rw[e];simp
 refine⟨by rw[zBh];exact rt.len,λk h e=>?_,λh=>?_⟩
 ·have e':(zse lay row).getD k none=some h:=by rw[getD_eq_getElem?_getD,e];rfl
  by_cases hk:k∈row.map (·.1)
  ·obtain⟨p,hp,rfl⟩:=List.mem_map.mp hk;have hm:=r.mem p hp;rw[zOl r.nd hp (by rw[rt.len];exact hm.1)]at e';cases e';exact hm.2.1
  ·rw[zNe hk]at e';refine rt.home k h ?_;rw[getD_eq_getElem?_getD]at e'
   cases q:lay[k]? with
   |none=>rw[q]at e';cases e'
   |some z=>rw[q]at e';exact congrArg some e'
 ·have:=zjj r rt.len hkey (row.length-1) (by omega) h;rw[show row.length-1+1=row.length by omega,take_length]at this;rw[this];have hr:=rt.room h
  split
  ·rename_i e
   rw[e]at hroom;omega
  ·omega
def zAu{key:Nat}(s:Tw R K lay C)(r:Ti K lay key row)(hroom:lay.count (some (row.getD (row.length-1) (0,0)).2)<R.getD (row.getD (row.length-1) (0,0)).2 0) :
 ∀p∈row,∀k∈C,p.2∉K.getD k []:=by
 have key1:∀(j i:Nat),i+j+1=row.length->∀k∈C,(row.getD i (0,0)).2∉K.getD k []:=by
  intro j
  induction j with
  |zero=>
   intro i hi k hk hm;have:=s.full k hk _ hm;rw[show row.length-1=i by omega]at hroom;omega
  |succ j ih=>
   intro i hi k hk hm;have hp:row[i]?=some row[i]:=by simp[show i<row.length by omega]
   have hq:row[i+1]?=some row[i+1]:=by simp[show i+1<row.length by omega]
   have e1:row.getD i (0,0)=row[i]:=by simp[show i<row.length by omega]
   have e2:row.getD (i+1) (0,0)=row[i+1]:=by simp[show i+1<row.length by omega]
   rw[e1]at hm;have hin:=s.lies k hk _ hm _ (r.link i _ _ hp hq);refine ih (i+1) (by omega) _ hin ?_;rw[e2];exact(r.mem _ (getElem_mem _)).2.1
 intro p hp k hk;obtain⟨i,hi,rfl⟩:=List.mem_iff_getElem.mp hp;have:=key1 (row.length-1-i) i (by omega) k hk
 rwa [show row.getD i (0,0)=row[i] by simp[hi]]at this
def Tw.push{key:Nat}(s:Tw R K lay C)(rt:tY R K lay)(r:Ti K lay key row)(hkey:lay.getD key none=none)
 (hroom:lay.count (some (row.getD (row.length-1) (0,0)).2)<R.getD (row.getD (row.length-1) (0,0)).2 0):Tw R K (zse lay row) C:=by
 have hpos:0<row.length:=by
  obtain⟨h,q,e⟩:=r.first
  rw[e];simp
 have hout:=zAu s r hroom;refine⟨s.keys,λk hk h hh=>?_,λk hk h hh o e=>?_⟩
 ·have:=zjj r rt.len hkey (row.length-1) (by omega) h;rw[show row.length-1+1=row.length by omega,take_length]at this;have h1:=s.full k hk h hh;omega
 ·by_cases ho:o∈row.map (·.1)
  ·obtain⟨p,hp,rfl⟩:=List.mem_map.mp ho;rw[zOl r.nd hp (by rw[rt.len];exact(r.mem p hp).1)]at e;cases e;exact absurd hh (hout p hp k hk)
  ·rw[zNe ho]at e;exact s.lies k hk h hh o e
def zvp(lay:List (Option Nat)):List Nat:=(yi lay.length).filter λk=>(lay.getD k none).isSome
def zzk(lay:List (Option Nat))(h:Nat):List Nat:=(yi lay.length).filter λk=>decide (lay.getD k none=some h)
def zmj(R:List Nat)(lay:List (Option Nat)):List Int:=(yi R.length).map λh=>(R.getD h 0:Int)-(lay.count (some h):Nat)
def zvt(a:Option Nat):(!ztk (onD a))=a.isSome:=by cases a<;>rfl
def zit(hn:μ[n]?=some (.lst (lay.map onD)))(hl:lay.length<=1000)(q:∀(l:Nat)(μ':Mem),tw μ μ'->μ.length<=l->μ'[l]?=some (.lst (nat (zzk lay h)))->Q (.loc l) μ'):WF zrl [.loc n,.int h] μ Q:=by
 refine zzb rfl ?_;show WS z9l [some (.loc n),some (.int h)] μ _ _ _ _;unfold z9l
 repeat walk_at "w"
 refine znf (zc rfl (.inr (.inr ⟨n,_,rfl,hn,zLb (by rw[zFc,length_map];omega),?_⟩)));rw[zGb onD lay none];refine zLf (λ(k:Nat) =>.tup [.int k,onD (lay.getD k none)]) (yi lay.length) (λ(k:Nat)=>D.int k) (λk=>decide (lay.getD k none=some h)) (λμ' k=>znb hn k) (λk hk μ' kp=>?_) (λμ' kp=>?_)
 ·repeat walk_at "w"
  refine zsr (α:=Option Nat) (lay.getD k none) (some h) ?_
  repeat walk_at "w"
  refine⟨rfl,kp,λ_=>?_⟩;unfold zIm;exact zc rfl ⟨rfl,kp⟩
 ·exact q _ _ kp.to kp.len zt
def zio(w:Wb L R K)(hn:μ[n]?=some (.lst (lay.map onD)))(q:∀(l:Nat)(μ':Mem),tw μ μ'->μ.length<=l->μ'[l]?=some (.lst ((zmj R lay).map .int))->Q (.loc l) μ'):WF zmg [wn R K,.loc n] μ Q:=by
 have hrl:=w.rl;refine zzb rfl ?_;show WS z3k [some (wn R K),some (.loc n)] μ _ _ _ _;unfold z3k
 repeat walk_at "w"
 refine znf ?_
 repeat walk_at "w"
 refine zCg (.inl ⟨_,rfl,zLb (by rw[zFc,length_map];omega),?_⟩);rw[zGb (λ(k:Nat)=>D.int k) R 0];refine zyf (λ(k:Nat) =>.tup [.int k,.int (R.getD k 0:Nat)]) (yi R.length) (λ(k:Nat)=>D.int ((R.getD k 0:Int)-(lay.count (some k):Nat))) (λ_ _=>rfl) (λk hk μ' kp=>?_) (λμ' kp=>?_)
 ·repeat walk_at "w"
  refine⟨_,_,rfl,kp _ _ hn,?_⟩
  repeat walk_at "w"
  refine zRq (kp _ _ hn) ?_
  repeat walk_at "w"
  exact⟨rfl,kp,kp⟩
 ·refine q _ _ kp.to kp.len ?_;rw[zt];unfold zmj;rw[map_map];rfl
def zCj(K:List (List Nat))(ds:List D)(k:Nat):Bool:=!ztk (ds.getD k .non) && !((nat (K.getD k [])).any λy=>eqF y (ds.getD k .non))
def z2n(R:List Nat)(ds:List D)(h:Nat):Bool:=decide ((R.getD h 0:Nat)<(zbv ds h:Int))
def zcd(R:List Nat)(K:List (List Nat))(ds:List D):D:=match(yi K.length).find? (zCj K ds) with
 |some k =>.tup [.str "home",.int k]
 |none=>match(yi R.length).find? (z2n R ds) with
  |some h =>.tup [.str "room",.int h]
  |none =>.non
def zyt(w:Wb L R K)(hf:ds.all zDc=true)(hn:μ[n]?=some (.lst ds))(q:∀(l:Nat)(μ':Mem),tw μ μ'->μ.length<=l->μ'[l]?=some (.lst (((yi R.length).map λh=>(R.getD h 0:Int)-(zbv ds h:Nat)).map .int))->Q (.loc l) μ'):WF zmg [wn R K,.loc n] μ Q:=by
 have hrl:=w.rl;refine zzb rfl ?_;show WS z3k [some (wn R K),some (.loc n)] μ _ _ _ _;unfold z3k
 repeat walk_at "w"
 refine znf ?_
 repeat walk_at "w"
 refine zCg (.inl ⟨_,rfl,zLb (by rw[zFc,length_map];omega),?_⟩);rw[zGb (λ(k:Nat)=>D.int k) R 0];refine zyf (λ(k:Nat) =>.tup [.int k,.int (R.getD k 0:Nat)]) (yi R.length) (λ(k:Nat)=>D.int ((R.getD k 0:Int)-(zbv ds k:Nat))) (λ_ _=>rfl) (λk hk μ' kp=>?_) (λμ' kp=>?_)
 ·repeat walk_at "w"
  refine⟨_,_,rfl,kp _ _ hn,?_⟩
  repeat walk_at "w"
  refine zyr (kp _ _ hn) rfl hf ?_
  repeat walk_at "w"
  exact⟨rfl,kp,kp⟩
 ·refine q _ _ kp.to kp.len ?_;rw[zt,map_map];rfl
def zwt(hf:ds.all zDc=true){k:Nat}{d:D}(h:ds[k]?=some d):zDc d=true:=List.all_eq_true.mp hf d (mem_of_getElem? h)
def zJg(w:Wb L R K)(hf:ds.all zDc=true)(hl:ds.length=K.length)(hn:μ[n]?=some (.lst ds))(q:∀(μ':Mem),tw μ μ'->Q (zcd R K ds) μ'):WF zqe [wn R K,.loc n] μ Q:=by
 have hrl:=w.rl;refine zzb rfl ?_;show WS z8l [some (wn R K),some (.loc n),none,none,none] μ _ _ _ _;unfold z8l;refine zp (zkg (znf (zc rfl (.inr (.inr ⟨n,_,rfl,hn,?_⟩)))));refine zpc (λm J μ'=>∃a b:Option D,J=[some (wn R K),some (.loc n),a,b,none]/\μ'=μ/\∀j<m,zCj K ds j=false) ⟨_,_,rfl,rfl,by simp⟩ (λm J μ' h=>by obtain⟨_,_,_,rfl,_⟩:=h;exact znb hn .refl) ?_ ?_
 ·rintro m x J μ' hx ⟨a,b,rfl,rfl,hb⟩;obtain⟨y,hy,rfl⟩:=zLl hx;have hm:m<ds.length:=(List.getElem?_eq_some_iff.mp hy).1;have hfy:=zwt hf hy;have hgy:ds.getD m .non=y:=by rw[getD_eq_getElem?_getD,hy];rfl
  have hgo:zCj K ds m=false->∀j<m+1,zCj K ds j=false:=λh j hj=>by
   by_cases e:j=m
   ·subst e;exact h
   ·exact hb j (by omega)
  repeat walk_at "w"
  refine zhh hfy ?_
  repeat walk_at "w"
  refine⟨λh1=>?_,λh1=>⟨λhc=>(by cases hc),λ_=>?_⟩⟩
  ·repeat walk_at "w"
   refine zae ?_
   repeat walk_at "w"
   refine zLq (by omega) ?_;refine zNn rfl hfy (zOi _) ?_
   repeat walk_at "w"
   refine⟨λh2=>?_,λh2=>?_⟩
   ·repeat walk_at "w"
    have hh:zCj K ds m=true:=by
     unfold zCj;rw[hgy,h1,h2];rfl
    have:=q μ' .refl;unfold zcd at this;rw[zjl hh (by omega) hb]at this;exact this
   ·repeat walk_at "w"
    refine⟨_,_,rfl,rfl,hgo ?_⟩;unfold zCj;rw[hgy,h2,Bool.and_false]
  ·repeat walk_at "w"
   refine⟨_,_,rfl,rfl,hgo ?_⟩;unfold zCj;rw[hgy,h1,Bool.false_and]
 ·rintro J μ' ⟨a,b,rfl,rfl,hb⟩;rw[zFc,hl]at hb;refine zp (zkg (znf (zi (zb (zc rfl (zb (zc rfl (zk ?_))))))));refine zyt w hf hn λl μ1 k1 hl1 g1 =>.inr (.inr ⟨l,_,rfl,g1,?_⟩);rw[zGb D.int _ 0];refine zpc (λm J μ'=>∃a b c:Option D,J=[some (wn R K),some (.loc n),a,b,c]/\μ'=μ1/\∀j<m,z2n R ds j=false) ⟨_,_,_,rfl,rfl,by simp⟩ (λm J μ' h=>by obtain⟨_,_,_,_,rfl,_⟩:=h;exact znb g1 .refl) ?_ ?_
  ·rintro m x J μ2 hx ⟨a,b,c,rfl,rfl,hr⟩
   have hm:m<R.length:=by
    have:=(List.getElem?_eq_some_iff.mp hx).1;simpa using this
   have ex:x=.tup [.int m,.int ((R.getD m 0:Int)-(zbv ds m:Nat))]:=by
    rw[yh]at hx;simp[hm]at hx;rw[<-hx];simp[hm]
   subst ex
   repeat walk_at "w"
   have hdec:decide ((R.getD m 0:Int)-(zbv ds m:Nat)<0)=z2n R ds m:=by
    unfold z2n;exact decide_eq_decide.mpr (by omega)
   rw[hdec];refine⟨λh1=>?_,λh1=>?_⟩
   ·repeat walk_at "w"
    have:=q μ2 k1;unfold zcd at this;rw[zRf hb,zjl h1 hm hr]at this;exact this
   ·repeat walk_at "w"
    refine⟨_,_,_,rfl,rfl,λj hj=>?_⟩
    by_cases e:j=m
    ·subst e;exact h1
    ·exact hr j (by omega)
  ·rintro J μ2 ⟨a,b,c,rfl,rfl,hr⟩;simp only[length_map,length_range]at hr
   repeat walk_at "w"
   have:=q μ2 k1;unfold zcd at this;rw[zRf hb,zRf hr]at this;exact this
abbrev PT:=List (Nat×Nat×Option Nat)
def dkP(P:PT):List (Int×D):=P.map λp=>((p.1:Int),.tup [.int (p.2.1:Nat),onD p.2.2])
def zRo(P:PT):zMj (dkP P)=nat (P.map (·.1)):=by
 unfold zMj dkP;rw[map_map,zMh];rfl
def zfo(P:PT)(h:Nat):((dkP P).any λp=>decide (p.1=(h:Int)))=decide (h∈P.map (·.1)):=by
 refine ztd ?_;unfold dkP;rw[any_map,any_eq_true];simp only[xP,decide_eq_true_iff,mem_map];constructor
 ·rintro⟨p,hp,e⟩;exact⟨p,hp,by omega⟩
 ·rintro⟨p,hp,e⟩;exact⟨p,hp,by omega⟩
def zbj{P:PT}:(zkd (dkP P) (h:Int)).isSome=decide (h∈P.map (·.1)):=by
 rw[<-zfo,Bool.eq_iff_iff];unfold zkd;rw[Option.isSome_map,List.find?_isSome,any_eq_true]
def zOu{P:PT}(nd:(P.map (·.1)).Nodup){p:Nat×Nat×Option Nat}(hp:p∈P):zkd (dkP P) (p.1:Int)=some (.tup [.int (p.2.1:Nat),onD p.2.2]):=by
 induction P with
 |nil=>cases hp
 |cons q P ih=>
  rw[map_cons,List.nodup_cons]at nd
  have e:zkd (dkP (q::P)) (p.1:Int)=if(q.1:Int)=p.1 then some (.tup [.int (q.2.1:Nat),onD q.2.2]) else zkd (dkP P) (p.1:Int):=by
   unfold zkd dkP;rw[map_cons,List.find?_cons]
   by_cases h:(q.1:Int)=p.1
   ·simp[h]
   ·simp[h]
  rw[e];rcases List.mem_cons.mp hp with rfl|hp
  ·rw[if_pos rfl]
  ·rw[if_neg,ih nd.2 hp];intro h;refine nd.1 (List.mem_map.mpr ⟨p,hp,by omega⟩)
def zXr{P:PT}{f:Option Nat}(hn:h∉P.map (·.1)):z3p (dkP P) (h:Int) (.tup [.int k,onD f])=dkP (P++[(h,k,f)]):=by
 unfold z3p;rw[zfo,decide_eq_false hn,if_neg yv];simp[dkP]
def z8u{P:PT}{f:Option Nat}(hn:h∈P.map (·.1))(ha:∀p∈P,p.2=(k,f)):z3p (dkP P) (h:Int) (.tup [.int k,onD f])=dkP P:=by
 unfold z3p;rw[zfo,decide_eq_true hn,if_pos rfl];unfold dkP;rw[map_map];refine map_congr_left λp hp=>?_;simp only[xP]
 split
 ·rw[ha p hp]
 ·rfl
structure Tree(R:List Nat)(K:List (List Nat))(lay:List (Option Nat))(key:Nat)(P:PT):Prop where
 nd:(P.map (·.1)).Nodup
 lt:∀p∈P,p.1<R.length
 ok:∀(i:Nat) p,P[i]?=some p->p.2.1<K.length/\p.1∈K.getD p.2.1 []/\((p.2.2=none/\p.2.1=key)\/∃(j:Nat)(q:Nat×Nat×Option Nat),j<i/\P[j]?=some q/\p.2.2=some q.1/\lay.getD p.2.1 none=some q.1)
def Tree.len{key:Nat}{P:PT}(t:Tree R K lay key P):P.length<=R.length:=by
 have:=zxd t.nd (m:=yi R.length) λx hx=>by
  obtain⟨p,hp,rfl⟩:=List.mem_map.mp hx;simpa using t.lt p hp
 simpa using this
def Tree.add{key:Nat}{P:PT}(t:Tree R K lay key P){h k:Nat}{f:Option Nat}(hn:h∉P.map (·.1))(hr:h<R.length)(hk:k<K.length)(hm:h∈K.getD k [])
 (hf:(f=none/\k=key)\/∃(j:Nat)(q:Nat×Nat×Option Nat),P[j]?=some q/\f=some q.1/\lay.getD k none=some q.1):Tree R K lay key (P++[(h,k,f)]):=by
 refine⟨?_,λp hp=>?_,λi p e=>?_⟩
 ·rw[map_append,nodup_append];refine⟨t.nd,by simp,λa ha b hb=>?_⟩;simp at hb;subst hb;exact λe=>hn (e▸ha)
 ·rcases List.mem_append.mp hp with hp|hp
  ·exact t.lt p hp
  ·rw[List.mem_singleton.mp hp];exact hr
 ·by_cases hi:i<P.length
  ·rw[yw hi]at e;obtain⟨h1,h2,h3⟩:=t.ok i p e;refine⟨h1,h2,?_⟩;rcases h3 with h3|⟨j,q,hj,eq,h4⟩
   ·exact .inl h3
   ·exact .inr ⟨j,q,hj,by rw[yw (by omega)];exact eq,h4⟩
  ·rw[yL (by omega)]at e
   have hi0:i-P.length=0:=by
    have:=(List.getElem?_eq_some_iff.mp e).1;simp at this;omega
   rw[hi0]at e;have e:(h,k,f)=p:=by simpa using e
   subst e;refine⟨hk,hm,?_⟩;rcases hf with hf|⟨j,q,eq,h4⟩
   ·exact .inl hf
   ·have hj:=(List.getElem?_eq_some_iff.mp eq).1;exact .inr ⟨j,q,by omega,by rw[yw hj];exact eq,h4⟩
def zpq(d l:Nat)(μ ν:Mem):Prop:=∀i o,i≠d->i≠l->μ[i]?=some o->ν[i]?=some o
abbrev JPa(R:List Nat)(K:List (List Nat))(lay:List (Option Nat))(key n d l2 at_ o:Nat)(P0:PT)(ν:Mem):Nat->M.Loc->Mem->Prop:=λm J ν'=>∃(P:PT)(x:Option D),J=[some (wn R K),some (.loc n),some (.int key),some (.loc d),x,some (.loc l2),some (.int at_),some (.int o)]/\(∃E,P=P0++E)/\Tree R K lay key P/\(∀h∈(K.getD o []).take m,h∈P.map (·.1))/\zpq d l2 ν ν'/\ν'[d]?=some (.dct (dkP P))/\ν'[l2]?=some (.lst (nat (P.map (·.1))))
def zrs{key d l2 at_ o:Nat}{P0:PT}{q:Nat×Nat×Option Nat}{x4:Option D}{ν:Mem}{nx:M.Loc->Mem->Prop}{rt:D->Mem->Prop}{bk ct:M.Loc->Mem->Prop}(w:Wb L R K)(t:Tree R K lay key P0)(ho:o<K.length)(hq:P0[at_]?=some q)(hlo:lay.getD o none=some q.1)
 (hl2:d<l2) (gd:ν[d]?=some (.dct (dkP P0))) (gl:ν[l2]?=some (.lst (nat (P0.map (·.1)))))
 (k:∀(P:PT)(x:Option D)(ν':Mem),(∃E,P=P0++E)->Tree R K lay key P->(∀h∈K.getD o [],h∈P.map (·.1))->zpq d l2 ν ν'->ν'[d]?=some (.dct (dkP P))->ν'[l2]?=some (.lst (nat (P.map (·.1))))->nx [some (wn R K),some (.loc n),some (.int key),some (.loc d),x,some (.loc l2),some (.int at_),some (.int o)] ν') :
 WS zif [some (wn R K),some (.loc n),some (.int key),some (.loc d),x4,some (.loc l2),some (.int at_),some (.int o)] ν nx rt bk ct:=by
 unfold zif;refine zkg (zTe (zl (zl (zc rfl (w_c (zae (zc rfl (zLq ho (.inl ⟨_,rfl,?_⟩)))))))));refine zpc (JPa R K lay key n d l2 at_ o P0 ν) ⟨P0,_,rfl,⟨[],by simp⟩,t,by simp,λ_ _ _ _ e=>e,gd,gl⟩ (λ_ _ _ _=>rfl) ?_ ?_
 ·rintro m x J ν1 hx ⟨P,y,rfl,⟨E,hE⟩,tP,hm,k1,g1,g2⟩;rw[yh]at hx
  cases hy:(K.getD o [])[m]? with
  |none=>rw[hy]at hx;cases hx
  |some h=>
   rw[hy]at hx;cases hx;have hmem:=mem_of_getElem? hy;have htk:(K.getD o []).take (m+1)=(K.getD o []).take m++[h]:=by rw[take_succ,hy];rfl
   have hpl:=tP.len;have hrl:=w.rl
   have hat:(P.map (·.1))[at_]?=some q.1:=by
    have hlt:=(List.getElem?_eq_some_iff.mp hq).1;rw[hE,map_append,yw (by simpa using hlt),yh,hq];rfl
   refine z4d ?_;unfold zjh;refine zog (zJ (zl (zc rfl (zc rfl (zOo (z9k g1) ⟨_,rfl,λhb=>?_,λhb=>zpb ?_⟩)))))
   ·have hnew:h∉P.map (·.1):=by
     rw[zbj]at hb;simpa using hb
    refine zp (zlk (zxg (zb (zc rfl (zb (zl (zc rfl (zc rfl (z5c (zq g2) (zke (v:=.int (q.1:Nat)) (by rw[yh,hat];rfl)) (zk ?_))))))))));refine zzq (zc rfl (zc rfl ⟨_,_,_,rfl,rfl,g1,by simp[dkP];omega,?_⟩));rw[show(D.tup [.int (o:Nat),.int (q.1:Nat)])=.tup [.int (o:Nat),onD (some q.1)] from rfl,zXr hnew];have g1':=zN (o':=tD.dct (dkP (P++[(h,o,some q.1)]))) g1;have g2':=zS (o':=tD.dct (dkP (P++[(h,o,some q.1)]))) g2 (by omega:d≠l2);refine zdi (zTg (zc rfl ⟨_,_,rfl,g2',?_⟩));refine zb (zc rfl (zk ?_));refine zQi g2' (by rw[length_map,length_map];omega) ?_
    have hatP:P[at_]?=some q:=by
     have hlt:=(List.getElem?_eq_some_iff.mp hq).1;rw[hE,yw hlt];exact hq
    refine⟨P++[(h,o,some q.1)],_,rfl,⟨E++[(h,o,some q.1)],by rw[hE];simp⟩,tP.add hnew ((w.key ho).2 h hmem) ho hmem (.inr ⟨at_,q,hatP,rfl,hlo⟩),λg hg=>?_,λi o' hi1 hi2 e'=>zS (zS (k1 i o' hi1 hi2 e') (Yv hi1)) (Yv hi2),zS g1' (by omega),?_⟩
    ·rw[htk]at hg;rw[map_append,mem_append];rcases List.mem_append.mp hg with hg|hg
     ·exact .inl (hm g hg)
     ·rw[List.mem_singleton.mp hg];exact .inr (by simp)
    ·rw[zN g2',map_append,zXc];rfl
   ·have hold:h∈P.map (·.1):=by
     rw[zbj]at hb;simpa using hb
    refine⟨P,_,rfl,⟨E,hE⟩,tP,λg hg=>?_,k1,g1,g2⟩;rw[htk]at hg;rcases List.mem_append.mp hg with hg|hg
    ·exact hm g hg
    ·rw[List.mem_singleton.mp hg];exact hold
 ·rintro J ν1 ⟨P,y,rfl,hE,tP,hm,k1,g1,g2⟩;rw[length_map,take_length]at hm;exact k P y ν1 hE tP hm k1 g1 g2
abbrev JPb(R:List Nat)(K:List (List Nat))(lay:List (Option Nat))(key n:Nat)(μ:Mem):Nat->M.Loc->Mem->Prop:=λm J ν=>∃(P:PT)(x:Option D),J=[some (wn R K),some (.loc n),some (.int key),some (.loc μ.length),x,none,none,none]/\Tree R K lay key P/\(∀p∈P,p.2=(key,none))/\(∀h∈(K.getD key []).take m,h∈P.map (·.1))/\tw μ ν/\ν[μ.length]?=some (.dct (dkP P))
abbrev JPc(R:List Nat)(K:List (List Nat))(lay:List (Option Nat))(key n:Nat)(μ ν1:Mem):Nat->M.Loc->Mem->Prop:=λm J ν=>∃(P:PT)(at_:Nat)(x y:Option D),m=R.length-at_/\at_<=P.length/\J=[some (wn R K),some (.loc n),some (.int key),some (.loc μ.length),x,some (.loc ν1.length),some (.int at_),y]/\Tree R K lay key P/\(∀h∈K.getD key [],h∈P.map (·.1))/\(∀(i:Nat) p,i<at_->P[i]?=some p->∀o,lay.getD o none=some p.1->∀h∈K.getD o [],h∈P.map (·.1))/\tw μ ν/\ν[μ.length]?=some (.dct (dkP P))/\ν[ν1.length]?=some (.lst (nat (P.map (·.1))))
abbrev JPd(R:List Nat)(K:List (List Nat))(lay:List (Option Nat))(key n:Nat)(μ ν1:Mem)(at_:Nat)(P:PT)(q0:Nat×Nat×Option Nat)(l4:Nat):Nat->M.Loc->Mem->Prop:=λj J ν=>∃(P':PT)(x y:Option D),J=[some (wn R K),some (.loc n),some (.int key),some (.loc μ.length),x,some (.loc ν1.length),some (.int at_),y]/\(∃E,P'=P++E)/\Tree R K lay key P'/\(∀o∈(zzk lay q0.1).take j,∀h∈K.getD o [],h∈P'.map (·.1))/\tw μ ν/\ν[μ.length]?=some (.dct (dkP P'))/\ν[ν1.length]?=some (.lst (nat (P'.map (·.1))))/\ν[l4]?=some (.lst (nat (zzk lay q0.1)))
def zCn{key:Nat}(w:Wb L R K)(hlen:lay.length=K.length)(hL:L<=1000)(hn:μ[n]?=some (.lst (lay.map onD)))(hk:key<K.length)
 (q:∀(P:PT)(d:Nat)(μ':Mem),Tree R K lay key P->(∀h∈K.getD key [],h∈P.map (·.1))->(∀p∈P,∀o,lay.getD o none=some p.1->∀h∈K.getD o [],h∈P.map (·.1))->tw μ μ'->μ.length<=d->μ'[d]?=some (.dct (dkP P))->Q (.loc d) μ'):WF zcf [wn R K,.loc n,.int key] μ Q:=by
 have hrl:=w.rl;have hkl:=w.kl;refine zzb rfl ?_;show WS z0e [some (wn R K),some (.loc n),some (.int key),none,none,none,none,none] μ _ _ _ _;unfold z0e;refine zp (zab (z9v (zp (zkg (zTe (zl (zl (zc rfl (w_c (zae (zc rfl (zLq hk (.inl ⟨_,rfl,?_⟩))))))))))))) ;refine zpc (JPb R K lay key n μ) ⟨[],_,rfl,⟨by simp,by simp,λi p e=>by simp at e⟩,by simp,by simp,.app,zt⟩ (λ_ _ _ _=>rfl) ?_ ?_
 ·rintro m x J ν1 hx ⟨P,y,rfl,tP,ha,hm,k1,g1⟩;rw[yh]at hx
  cases hy:(K.getD key [])[m]? with
  |none=>rw[hy]at hx;cases hx
  |some h=>
   rw[hy]at hx;cases hx;have hmem:=mem_of_getElem? hy;have htk:(K.getD key []).take (m+1)=(K.getD key []).take m++[h]:=by rw[take_succ,hy];rfl
   have hpl:=tP.len;refine z4d ?_;unfold zoh;refine zlk (zxg (zb (zc rfl (zb (w_c (zk ?_))))));refine zzq (zc rfl (zc rfl ⟨_,_,_,rfl,rfl,g1,by simp[dkP];omega,?_⟩));rw[show(D.tup [.int (key:Nat),.non])=.tup [.int (key:Nat),onD none] from rfl];have kk:∀o':tD,tw μ (ν1.set μ.length o'):=λo' i o e=>zS (k1 i o e) (Yc (zC e))
   by_cases hin:h∈P.map (·.1)
   ·rw[z8u hin ha];refine⟨P,_,rfl,tP,ha,λg hg=>?_,kk _,zN g1⟩;rw[htk]at hg;rcases List.mem_append.mp hg with hg|hg
    ·exact hm g hg
    ·rw[List.mem_singleton.mp hg];exact hin
   ·rw[zXr hin];refine⟨P++[(h,key,none)],_,rfl,tP.add hin ((w.key hk).2 h hmem) hk hmem (.inl ⟨rfl,rfl⟩),λp hp=>?_,λg hg=>?_,kk _,zN g1⟩
    ·rcases List.mem_append.mp hp with hp|hp
     ·exact ha p hp
     ·rw[List.mem_singleton.mp hp]
    ·rw[htk]at hg;rw[map_append,mem_append];rcases List.mem_append.mp hg with hg|hg
     ·exact .inl (hm g hg)
     ·rw[List.mem_singleton.mp hg];exact .inr (by simp)
 ·rintro J ν1 ⟨P0,y,rfl,tP0,_,hm0,k1,g1⟩;rw[length_map,take_length]at hm0;refine zp (zab (zi (zb (zc rfl (zk (z5u (z9k g1) ?_))))));rw[zRo];have hl2:μ.length<ν1.length:=zC g1;refine zp (zab (w_c (zp ?_)));refine ztj (JPc R K lay key n μ ν1) (m:=R.length) (by omega) ⟨P0,0,_,_,by simp,by simp,rfl,tP0,hm0,by simp,k1.to,zB g1,zt⟩ ?_;rintro m J ν2 ⟨P,at_,x,y,rfl,hat,rfl,tP,hkey,hcl,k2,g2,g3⟩;have hpl:=tP.len
  repeat walk_at "w"
  refine zQd (zq g3) ?_;refine z0l ⟨_,rfl,λh1=>?_,λh1=>?_⟩
  ·have h1:at_<P.length:=by
    have:=of_decide_eq_true h1;simp only[length_map]at this;omega
   have hq:P[at_]?=some P[at_]:=by simp[h1]
   generalize P[at_]=q0 at hq;have hat':(P.map (·.1))[at_]?=some q0.1:=by rw[yh,hq];rfl
   unfold zRg;refine zp (zkg (zTe (zi (zb (zc rfl (zb (zl (zc rfl (zc rfl (z5c (zq g3) (zke (v:=.int (q0.1:Nat)) (by rw[yh,hat'];rfl)) (zk ?_)))))))))));refine zit (h:=q0.1) (k2 _ _ hn) (by omega) λl4 ν4 k4 hl4 g4 =>.inr (.inr ⟨l4,_,rfl,g4,?_⟩);have hν2:=zC g3;refine zpc (JPd R K lay key n μ ν1 at_ P q0 l4) ⟨P,_,_,rfl,⟨[],by simp⟩,tP,by simp,k2.trans k4,k4 _ _ g2,k4 _ _ g3,g4⟩ (λj J ν ⟨_,_,_,_,_,_,_,_,_,_,h⟩=>znb h .refl) ?_ ?_
   ·rintro j z J ν5 hz ⟨P',x',y',rfl,⟨E,hE⟩,tP',hdone,k5,g5,g6,g7⟩;rw[yh]at hz
    cases ho:(zzk lay q0.1)[j]? with
    |none=>rw[ho]at hz;cases hz
    |some o=>
     rw[ho]at hz;cases hz;have hom:=mem_of_getElem? ho;have hom':=List.mem_filter.mp hom;have hol:o<K.length:=by rw[<-hlen];simpa using hom'.1
     have hlo:=of_decide_eq_true hom'.2;have htk:(zzk lay q0.1).take (j+1)=(zzk lay q0.1).take j++[o]:=by rw[take_succ,ho];rfl
     have hq':P'[at_]?=some q0:=by rw[hE,yw h1];exact hq
     refine z4d ?_;have hl5:=zC g6;refine zrs w tP' hol hq' hlo hl2 g5 g6 λP'' x'' ν6 ⟨E',hE'⟩ tP'' hall k6 g8 g9=>⟨P'',_,_,rfl,⟨E++E',by rw[hE',hE,append_assoc]⟩,tP'',λo' ho' h hh=>?_,λi o' e'=>k6 i o' (yt (zC e')) (by have:=zC e';omega) (k5 i o' e'),g8,g9,k6 l4 _ (by omega) (by omega) g7⟩
     rw[htk]at ho';rcases List.mem_append.mp ho' with ho'|ho'
     ·rw[hE',map_append,mem_append];exact .inl (hdone o' ho' h hh)
     ·rw[List.mem_singleton.mp ho']at hh;exact hall h hh
   ·rintro J ν5 ⟨P',x',y',rfl,⟨E,hE⟩,tP',hdone,k5,g5,g6,g7⟩;rw[nat,length_map,take_length]at hdone;have hpl':=tP'.len;refine zEx rfl (w_c (zIv ?_));refine⟨R.length-(at_+1),by omega,P',at_+1,_,_,rfl,by rw[hE];simp;omega,rfl,tP',λh hh=>?_,λi p hi e o ho h hh=>?_,k5,g5,g6⟩
    ·rw[hE,map_append,mem_append];exact .inl (hkey h hh)
    ·by_cases hia:i<at_
     ·rw[hE,yw (by omega)]at e;rw[hE,map_append,mem_append];exact .inl (hcl i p hia e o ho h hh)
     ·have:i=at_:=by omega
      subst this;rw[hE,yw h1,hq]at e;cases e;refine hdone o ?_ h hh;refine List.mem_filter.mpr ⟨?_,decide_eq_true ho⟩;rw[mem_range];refine Nat.lt_of_not_le λhle=>?_;rw[getD_eq_getElem?_getD,yK hle]at ho;cases ho
  ·refine zub (zc rfl ?_)
   have h1:at_=P.length:=by
    have:=of_decide_eq_false h1;simp only[length_map]at this;omega
   refine q P _ ν2 tP hkey (λp hp o e h hh=>?_) k2 (yj _) g2;obtain⟨i,hi,rfl⟩:=List.mem_iff_getElem.mp hp;exact hcl i P[i] (by omega) (by simp[hi]) o e h hh
abbrev pD(p:Nat×Nat):D:=.tup [.int (p.1:Nat),.int (p.2:Nat)]
inductive Path(P:PT)(lay:List (Option Nat)):Nat->List (Nat×Nat)->Prop
 |one {i:Nat} {p:Nat×Nat×Option Nat} (e:P[i]?=some p):Path P lay i [(p.2.1,p.1)]
 |up {i j:Nat} {p q:Nat×Nat×Option Nat} {row:List (Nat×Nat)} (h:Path P lay i row) (e:P[i]?=some p) (eq:P[j]?=some q) (hj:j<i) (hf:p.2.2=some q.1) (hl:lay.getD p.2.1 none=some q.1):Path P lay j ((q.2.1,q.1)::row)
def Path.head{P:PT}(h:Path P lay i row):∃p r,P[i]?=some p/\row=(p.2.1,p.1)::r:=by
 cases h with
 |one e=>exact⟨_,_,e,rfl⟩
 |up h e eq hj hf hl=>exact⟨_,_,eq,rfl⟩
def Path.idx{P:PT}(h:Path P lay i row):∀x∈row,∃j p,i<=j/\P[j]?=some p/\x=(p.2.1,p.1):=by
 induction h with
 |one e=>intro x hx;rw[List.mem_singleton.mp hx];exact⟨_,_,yj _,e,rfl⟩
 |up h e eq hj hf hl ih=>
  intro x hx;rcases List.mem_cons.mp hx with rfl|hx
  ·exact⟨_,_,yj _,eq,rfl⟩
  ·obtain⟨m,p,hm,e',r⟩:=ih x hx;exact⟨m,p,by omega,e',r⟩
def Path.tail{P:PT}(h:Path P lay i row):∀x∈row.tail,∃j p,i<=j/\P[j]?=some p/\lay.getD x.1 none=some p.1:=by
 induction h with
 |one e=>intro x hx;cases hx
 |up h e eq hj hf hl ih=>
  intro x hx;obtain⟨p',r,e',er⟩:=h.head;rw[e]at e';cases e';rw[List.tail_cons,er]at hx;rcases List.mem_cons.mp hx with rfl|hx
  ·exact⟨_,_,yj _,eq,hl⟩
  ·obtain⟨m,p,hm,e',r⟩:=ih x (by rw[er];exact hx);exact⟨m,p,by omega,e',r⟩
def Path.link{P:PT}(h:Path P lay i row):∀n p q,row[n]?=some p->row[n+1]?=some q->lay.getD q.1 none=some p.2:=by
 induction h with
 |one e=>intro n p q _ e2;simp at e2
 |up h e eq hj hf hl ih=>
  intro n p q e1 e2
  cases n with
  |zero=>
   obtain⟨p',r,e',er⟩:=h.head;rw[e]at e';cases e';rw[er]at e2;simp at e1 e2;subst e1 e2;exact hl
  |succ n=>exact ih n p q (by simpa using e1) (by simpa using e2)
def z0v{P:PT}(nd:(P.map (·.1)).Nodup){i j:Nat}{p q:Nat×Nat×Option Nat}(e1:P[i]?=some p)(e2:P[j]?=some q)(h:p.1=q.1):i=j:=by
 have h1:(P.map (·.1))[i]?=some p.1:=by rw[yh,e1];rfl
 have h2:(P.map (·.1))[j]?=some p.1:=by rw[yh,e2,h];rfl
 obtain⟨a,h1⟩:=List.getElem?_eq_some_iff.mp h1;obtain⟨b,h2⟩:=List.getElem?_eq_some_iff.mp h2;have pw:=List.pairwise_iff_getElem.mp nd;rcases Nat.lt_trichotomy i j with h|h|h
 ·exact absurd (h1.trans h2.symm) (pw i j a b h)
 ·exact h
 ·exact absurd (h2.trans h1.symm) (pw j i b a h)
def Path.ndk{P:PT}{key:Nat}(t:Tree R K lay key P)(hkey:lay.getD key none=none)(h:Path P lay i row):(row.map (·.1)).Nodup:=by
 induction h with
 |one e=>simp
 |@up i j p q row h e eq hj hf hl ih=>
  rw[map_cons,List.nodup_cons];refine⟨λhm=>?_,ih⟩;obtain⟨x,hx,ex⟩:=List.mem_map.mp hm;have ht:=(Path.up h e eq hj hf hl).tail x hx;obtain⟨m,p',hm',e',el⟩:=ht;rw[ex]at el;obtain⟨_,_,h3⟩:=t.ok j q eq;rcases h3 with ⟨_,h3⟩|⟨j',q',hj',eq',_,h4⟩
  ·simp only at el;rw[h3,hkey]at el;cases el
  ·simp only at el;rw[h4]at el;have:=z0v t.nd eq' e' (by injection el);omega
def Path.ok{P:PT}{key:Nat}{p:Nat×Nat×Option Nat}(t:Tree R K lay key P)(hkey:lay.getD key none=none)(h:Path P lay i row)(e:P[i]?=some p)(hp:p.2.2=none):Ti K lay key row:=by
 refine⟨?_,λx hx=>?_,h.link,h.ndk t hkey⟩
 ·obtain⟨p',r,e',er⟩:=h.head;rw[e]at e';cases e';rcases(t.ok i p e).2.2 with ⟨_,h3⟩|⟨_,_,_,_,h3,_⟩
  ·exact⟨p.1,r,by rw[er,h3]⟩
  ·rw[hp]at h3;cases h3
 ·obtain⟨j,q,_,eq,rfl⟩:=h.idx x hx;obtain⟨h1,h2,h3⟩:=t.ok j q eq;refine⟨h1,h2,?_⟩;rcases h3 with ⟨_,h3⟩|⟨j',q',hj',eq',_,h4⟩
  ·simp only;rw[h3,hkey];exact λh=>by cases h
  ·simp only;rw[h4];intro h;have:=z0v t.nd eq' eq (by injection h);omega
abbrev JRo(P:PT)(lay:List (Option Nat))(p0:Nat×Nat×Option Nat)(d:Nat)(μ:Mem):Nat->M.Loc->Mem->Prop:=λm J ν=>∃(acc:List (Nat×Nat)) (f:Option Nat),J=[some (.loc d),some (onD f),some (.loc μ.length)]/\tw μ ν/\ν[μ.length]?=some (.lst (acc.map pD))/\acc.length+m<=P.length /\
 ((f=none∧(∃ k,acc[0]?=some (k,p0.1))∧∃ i p,Path P lay i acc.reverse∧P[i]?=some p∧p.2.2=none) ∨
  (∃i p,m=i+1/\P[i]?=some p/\f=some p.1/\((acc=[]/\p=p0)\/((∃k,acc[0]?=some (k,p0.1))/\∃i' p',i<i'/\Path P lay i' acc.reverse/\P[i']?=some p'/\p'.2.2=some p.1/\lay.getD p'.2.1 none=some p.1))))
def zXs{key d i0:Nat}{p0:Nat×Nat×Option Nat}{P:PT}(t:Tree R K lay key P)(hR:R.length<=10)(hkey:lay.getD key none=none)(hd:zdc μ (.loc d)=some (dkP P))(hp0:P[i0]?=some p0)
 (q:∀(row:List (Nat×Nat)) (l:Nat) (μ':Mem),Ti K lay key row->(row.getD (row.length-1) (0,0)).2=p0.1->row.length<=P.length->tw μ μ'->μ.length<=l->μ'[l]?=some (.lst (row.map pD))->Q (.loc l) μ'):WF z2i [.loc d,.int p0.1] μ Q:=by
 have hpl:=t.len;refine zzb rfl ?_;show WS zUi [some (.loc d),some (.int p0.1),none] μ _ _ _ _;unfold zUi;refine zp (zab (zKg (zk (zp ?_))));have hi0:=(List.getElem?_eq_some_iff.mp hp0).1
 have hdk:∀{μ':Mem},tw μ μ'->zdc μ' (.loc d)=some (dkP P):=λ{μ'} kp=>by
  cases e:μ[d]? with
  |none=>simp[e]at hd
  |some o=>
   have e':=kp _ _ e;simp only[zdc,e]at hd;simp only[zdc,e'];exact hd
 refine ztj (JRo P lay p0 d μ) (m:=i0+1) (by omega)
  ⟨[],some p0.1,rfl,.app,zt,by simp;omega,.inr ⟨i0,p0,rfl,hp0,rfl,.inl ⟨rfl,rfl⟩⟩⟩ ?_
 rintro m J ν ⟨acc,f,rfl,kp,g,hlen,h⟩;refine zJ (zl (zc rfl (w_c (zhh (zFl _) ⟨_,rfl,λh1=>?_,λh1=>?_⟩))))
 ·rcases h with ⟨rfl,_⟩|⟨i,p,rfl,ep,rfl,h⟩
  ·cases h1
  ·have hlook:=zOu t.nd (mem_of_getElem? ep)
   have hnew:Path P lay i ((p.2.1,p.1)::acc.reverse):=by
    rcases h with ⟨rfl,rfl⟩|⟨_,i',p',hi',hpa,ep',hf,hl⟩
    ·exact .one ep
    ·exact .up hpa ep' ep hi' hf hl
   have hac:∃k,(acc++[(p.2.1,p.1)])[0]?=some (k,p0.1):=by
    rcases h with ⟨rfl,rfl⟩|⟨⟨k,hk⟩,_⟩
    ·exact⟨p.2.1,rfl⟩
    ·refine⟨k,?_⟩;rw[yw (List.getElem?_eq_some_iff.mp hk).1];exact hk
   unfold zGk;refine zp (zdi (zTg (zc rfl ⟨_,_,rfl,g,?_⟩)));refine zb (zxg (zb (zl (zl (zc rfl (zc rfl (z1v (hdk kp) hlook (w_c (z5c rfl rfl (zb (zc rfl (zk (zk ?_)))))))))))));refine zQi g (by rw[length_map];omega) ?_;have kp2:tw μ (ν.set μ.length (.lst (acc.map pD++[pD (p.2.1,p.1)]))):=λa o e=>zS (kp a o e) (Yc (zC e));refine zab (zl (zl (zc rfl (zc rfl (z1v (hdk kp2) hlook (w_c (z5c rfl rfl ?_)))))));obtain⟨_,_,h3⟩:=t.ok i p ep;rcases h3 with ⟨h3,_⟩|⟨j,q',hj,eq',h3,h4⟩
   ·refine⟨0,by omega,acc++[(p.2.1,p.1)],none,?_,kp2,?_,by rw[length_append];simp;omega,.inl ⟨rfl,hac,i,p,?_,ep,h3⟩⟩
    ·rw[h3];rfl
    ·rw[zN g,map_append];rfl
    ·rw[List.reverse_append];exact hnew
   ·refine⟨j+1,by omega,acc++[(p.2.1,p.1)],some q'.1,?_,kp2,?_,by rw[length_append];simp;omega,.inr ⟨j,q',rfl,eq',rfl,.inr ⟨hac,i,p,hj,?_,ep,h3,h4⟩⟩⟩
    ·rw[h3];rfl
    ·rw[zN g,map_append];rfl
    ·rw[List.reverse_append];exact hnew
 ·rcases h with ⟨rfl,⟨k,hk⟩,i,p,hpa,ep,hn⟩|⟨i,p,rfl,ep,rfl,h⟩
  ·refine zub (zEw (zc rfl ⟨_,_,rfl,g,?_⟩));refine q acc.reverse _ _ (hpa.ok t hkey ep hn) ?_ (by rw[List.length_reverse];omega) kp.to kp.len ?_
   ·have h0:=(List.getElem?_eq_some_iff.mp hk).1
    have:acc.reverse[acc.reverse.length-1]?=some (k,p0.1):=by
     rw[List.length_reverse,List.getElem?_reverse (by omega),show acc.length-1-(acc.length-1)=0 by omega];exact hk
    rw[getD_eq_getElem?_getD,this];rfl
   ·rw[zt,List.map_reverse]
  ·cases h1
def zZw(P:PT)(lay:List (Option Nat))(key:Nat):List Nat:=(yi lay.length).filter λo=>decide (o=key)||decide (∃p∈P,lay.getD o none=some p.1)
def zxs{key:Nat}(w:Wb L R K)(hlen:lay.length=K.length)(hL:L<=1000)(hn:μ[n]?=some (.lst (lay.map onD)))(hk:key<K.length)(hkey:lay.getD key none=none)
 (q1:∀(row:List (Nat×Nat)) (l:Nat) (μ':Mem),Ti K lay key row->lay.count (some (row.getD (row.length-1) (0,0)).2)<R.getD (row.getD (row.length-1) (0,0)).2 0->row.length<=10->tw μ μ'->μ.length<=l->μ'[l]?=some (.lst (row.map pD))->Q (.tup [.str "put",.loc l]) μ')
 (q2:∀(S:List Nat)(l:Nat)(μ':Mem),S.Sublist (yi K.length)->key∈S->Tw R K lay S->tw μ μ'->μ.length<=l->μ'[l]?=some (.lst (nat S))->Q (.tup [.str "full",.loc l]) μ'):WF zPi [wn R K,.loc n,.int key] μ Q:=by
 have hrl:=w.rl;have hkl:=w.kl;refine zzb rfl ?_;show WS z0i [some (wn R K),some (.loc n),some (.int key),none,none,none] μ _ _ _ _;unfold z0i;refine zp (zab (zi (zb (zc rfl (zb (zc rfl (zb (zc rfl (zk ?_)))))))));refine zCn w hlen hL hn hk λP d μ1 t hhome hcl k1 hd g1=>?_;refine zp (zab (zi (zb (zc rfl (zb (zc rfl (zk ?_)))))));refine zio w (k1 _ _ hn) λl2 μ2 k2 hl2 g2=>?_;have g1':=k2 _ _ g1;have hpl:=t.len;refine zp (zkg (zdu (zc rfl ⟨_,_,rfl,g1',?_⟩)));have hd1:d<μ1.length:=zC g1;have kf:tw μ (μ2.set d (.dcf (dkP P))):=λi o e=>zS ((k1.trans k2) i o e) (by have:=zC e;omega);have gd:=zN (o':=tD.dcf (dkP P)) g1';have gl:=zS (o':=tD.dcf (dkP P)) g2 (by omega:d≠l2);generalize μ2.set d (.dcf (dkP P))=μ3 at kf gd gl;rw[zRo];refine zpc (λm J ν=>∃x:Option D,J=[some (wn R K),some (.loc n),some (.int key),some (.loc d),some (.loc l2),x]/\ν=μ3/\∀(i:Nat) p,i<m->P[i]?=some p->R.getD p.1 0<=lay.count (some p.1)) ⟨_,rfl,rfl,by simp⟩ (λ_ _ _ _=>rfl) ?_ ?_
 ·rintro m x J ν hx ⟨y,rfl,rfl,hb⟩;rw[yh,yh]at hx
  cases ep:P[m]? with
  |none=>rw[ep]at hx;cases hx
  |some p=>
   rw[ep]at hx;cases hx;have hlt:=t.lt p (mem_of_getElem? ep);refine z4d ?_;unfold z0k;refine zog (zJ (zl (zl (zc rfl (zc rfl (z5c (zq gl) (zke (v:=.int ((R.getD p.1 0:Int)-(lay.count (some p.1):Nat))) (by unfold zmj;simp[hlt])) (w_c (z0l ⟨_,rfl,λh1=>?_,λh1=>?_⟩))))))))
   ·have h1:=of_decide_eq_true h1;refine zub (zxg (zb (w_c (zb (zi (zb (zc rfl (zb (zc rfl (zk ?_))))))))));refine zXs t hrl.2 hkey (zWh gd) ep λrow l μ4 hrow hlast hrl4 k4 hl4 g4=>zk ?_;refine q1 row l μ4 hrow ?_ (by omega) (kf.trans k4) (by have:=kf.len;omega) g4;rw[hlast];omega
   ·have h1:=of_decide_eq_false h1;refine zpb ⟨_,rfl,rfl,λi p' hi e'=>?_⟩
    by_cases hm:i=m
    ·subst hm;rw[ep]at e';cases e';omega
    ·exact hb i p' (by omega) e'
 ·rintro J ν ⟨y,rfl,rfl,hb⟩;rw[nat,length_map,length_map]at hb
  have hfull:∀p∈P,R.getD p.1 0<=lay.count (some p.1):=λp hp=>by
   obtain⟨i,hi,rfl⟩:=List.mem_iff_getElem.mp hp;exact hb i P[i] hi (by simp[hi])
  refine zub (zxg (zb (w_c (zb (zrk ?_)))));refine znf (zc rfl (.inr (.inr ⟨n,_,rfl,kf _ _ hn,zLb (by rw[zFc,length_map];omega),?_⟩)));rw[zGb onD lay none];refine zLf (λ(k:Nat) =>.tup [.int k,onD (lay.getD k none)]) (yi lay.length) (λ(k:Nat)=>D.int k) (λo=>decide (o=key)||decide (∃p∈P,lay.getD o none=some p.1)) (λμ' k'=>znb (kf _ _ hn) k') (λk hk' μ' kp=>?_) (λμ' kp=>?_)
  ·have gd':=kp _ _ gd;refine zIl (zne (z4d (zne (z4d (znk ?_)))));unfold zPk zYk;refine z2l (zJ (zl (zc rfl (zc rfl (z9h ⟨_,rfl,λh1=>?_,λh1=>?_⟩)))))
   ·have h1:k≠key:=by
     intro e;rw[e]at h1;simp at h1
    rw[decide_eq_false h1,Bool.false_or]
    cases e:lay.getD k none with
    |none=>
     refine zJ (zl (zc rfl (zc rfl (zNv (zWh gd') ?_ ⟨_,rfl,?_,kp,λhb=>(by cases hb)⟩))))
     ·rw[all_eq_true];intro x hx;obtain⟨p,hp,rfl⟩:=List.mem_map.mp hx;have:=t.lt p hp;exact decide_eq_true (by simp only;omega)
     ·symm
      refine decide_eq_false ?_;rintro⟨p,_,e⟩;cases e
    |some h=>
     refine zJ (zl (zc rfl (zc rfl (z8w (zWh gd') ⟨_,rfl,?_,kp,λhb=>zc rfl ⟨rfl,kp⟩⟩))));rw[zbj];refine decide_eq_decide.mpr ?_;rw[mem_map];constructor
     ·rintro⟨p,hp,rfl⟩;exact⟨p,hp,rfl⟩
     ·rintro⟨p,hp,e⟩;cases e;exact⟨p,hp,rfl⟩
   ·have h1:k=key:=by
     have:=beq_iff_eq.mp h1;omega
    rw[decide_eq_true h1,Bool.true_or];exact⟨rfl,kp,λ_=>zc rfl ⟨rfl,kp⟩⟩
  ·refine zk (q2 (zZw P lay key) _ _ ?_ ?_ ?_ (kf.trans kp.to) (kf.trans kp).len zt)
   ·rw[<-hlen];exact filter_sublist
   ·exact List.mem_filter.mpr ⟨by simpa[hlen] using hk,by simp⟩
   ·have hin:∀k∈zZw P lay key,∀h∈K.getD k [],∃p∈P,p.1=h:=λk hkm h hh=>by
     have hm:=(List.mem_filter.mp hkm).2;rw[Bool.or_eq_true,decide_eq_true_iff,decide_eq_true_iff]at hm;rcases hm with rfl|⟨p,hp,e⟩
     ·obtain⟨p,hp,e⟩:=List.mem_map.mp (hhome h hh);exact⟨p,hp,e⟩
     ·obtain⟨p',hp',e'⟩:=List.mem_map.mp (hcl p hp k e h hh);exact⟨p',hp',e'⟩
    refine⟨λk hkm=>?_,λk hkm h hh=>?_,λk hkm h hh o e=>?_⟩
    ·have:=(List.mem_filter.mp hkm).1;rw[<-hlen];simpa using this
    ·obtain⟨p,hp,rfl⟩:=hin k hkm h hh;exact hfull p hp
    ·obtain⟨p,hp,rfl⟩:=hin k hkm h hh;refine List.mem_filter.mpr ⟨?_,?_⟩
     ·rw[mem_range];refine Nat.lt_of_not_le λhle=>?_;rw[getD_eq_getElem?_getD,yK hle]at e;cases e
     ·rw[Bool.or_eq_true];exact .inr (decide_eq_true ⟨p,hp,e⟩)
def zIw{ys:List D}(h:μ[n]?=some (.lst xs))(h2:μ[m]?=some (.lst ys))(hl:xs.length+ys.length<=1000000)(q:Q .non (μ.set n (.lst (xs++ys)))):WM zku (.loc n) [.loc m] μ Q:=⟨_,_,by simp[h,h2,hl]<;>rfl,q⟩
def z6v(h:k<lay.length):atI (lay.map onD) (k:Int)=some (onD (lay.getD k none)):=zke (by simp[h])
def zBp{p:Nat×Nat}(e:row[i]?=some p):atI (row.map pD) (i:Int)=some (pD p):=zke (by rw[yh,e];rfl)
def zOq{key r:Nat}{p:Nat×Nat}(w:Wb L R K)(hlen:lay.length=K.length)(hn:μ[n]?=some (.lst (lay.map onD)))(hr:μ[r]?=some (.lst (row.map pD)))(hrl:row.length<=1000)(ok:Ti K lay key row)(e:row[i]?=some p)
 (q:∀μ',tw μ μ'->Q (.bl true) μ'):WF zwh [wn R K,.loc n,.loc r,.int i] μ Q:=by
 have hm:=ok.mem p (mem_of_getElem? e);have hi:=(List.getElem?_eq_some_iff.mp e).1;refine zzb rfl ?_;show WS zbh [some (wn R K),some (.loc n),some (.loc r),some (.int i),none] μ _ _ _ _;unfold zbh;refine zp (zab (zl (zl (zc rfl (zc rfl (z5c (zq hr) (zBp e) (w_c (z5c rfl rfl ?_))))))));refine zp (zog (z2l (zJ (zl (zc rfl (w_c (z0l ⟨_,rfl,λh1=>?_,λh1=>?_⟩)))))))
 case refine_2=>have:=of_decide_eq_true h1;omega
 refine zJ (zl (zc rfl (zi (zb (zc rfl (zk (zQd (zq hn) (z0l ⟨_,rfl,λh2=>?_,λh2=>zpb ?_⟩))))))))
 ·have:=of_decide_eq_true h2;rw[length_map]at this;omega
 refine zp (zog (z2l (zJ (zl (zl (zl (zc rfl (zc rfl (z5c (zq hr) (zBp e) (w_c (z5c rfl rfl (zl (zl (zc rfl (w_c (zae (zc rfl (zLq hm.1 (z6l rfl ⟨_,rfl,λh3=>?_,λh3=>?_⟩)))))))))))))))))))
 case refine_2=>rw[decide_eq_true hm.2.1]at h3;cases h3
 refine zJ (zl (zl (zl (zc rfl (zc rfl (z5c (zq hr) (zBp e) (w_c (z5c rfl rfl (zl (zc rfl (zc rfl (z5c (zq hn) (z6v (by omega)) (zsr (α:=Option Nat) (some p.2) (lay.getD p.1 none) ⟨_,rfl,λh4=>?_,λh4=>zpb ?_⟩)))))))))))))
 ·exact absurd (of_decide_eq_true h4).symm hm.2.2
 refine zub (zl (zc rfl (zrk (zTe (zTx (zc rfl (zat (zLo (zc rfl ⟨_,rfl,_,_,rfl,hr,.inr (.inr ⟨_,_,rfl,zt,?_,?_⟩)⟩)))))))))
 ·rw[zYn];exact zLb (by rw[length_take,length_map];omega)
 rw[zYn,<-List.map_take];refine zyf pD (row.take i) (λx =>.int (x.1:Nat)) (λμ' k=>znb zt k) (λx hx μ' kp=>?_) (λμ' kp=>?_)
 ·unfold zzj;exact z4d (zl (zc rfl (w_c (z5c rfl rfl ⟨rfl,kp,kp⟩))))
 ·have e2:((row.take i).map λx=>D.int (x.1:Nat))=nat ((row.take i).map (·.1)):=(zMh _ _).symm;rw[e2];refine z6l (zq zt) ?_
  have hnot:p.1∉(row.take i).map (·.1):=by
   intro hmem;have nd:=ok.nd;rw[<-take_append_drop i row,map_append,nodup_append]at nd;refine nd.2.2 _ hmem _ ?_ rfl;refine List.mem_map.mpr ⟨p,?_,rfl⟩;rw[drop_eq_getElem_cons hi,(List.getElem?_eq_some_iff.mp e).2];exact mem_cons_self
  rw[decide_eq_false hnot];exact q _ (tw.app.trans (kp.to))
def zHp{key r:Nat}{p:Nat×Nat}(hlen:lay.length=K.length)(hn:μ[n]?=some (.lst (lay.map onD)))(hr:μ[r]?=some (.lst (row.map pD)))(ok:Ti K lay key row)(e:row[i]?=some p)
 (q:Q (.bl true) μ):WF zrh [.loc n,.int key,.loc r,.int i] μ Q:=by
 refine zzb rfl ?_;show WS z1g [some (.loc n),some (.int key),some (.loc r),some (.int i)] μ _ _ _ _;unfold z1g;refine zp (zog (zJ (zl (zc rfl (w_c (z9h ⟨_,rfl,λh1=>?_,λh1=>zpb ?_⟩))))))
 ·obtain⟨h,r0,e0⟩:=ok.first
  refine zub (zl (zl (zl (zc rfl (w_c (z5c (zq hr) (zBp (i:=0) (p:=(key,h)) (by rw[e0];rfl)) (w_c (z5c rfl rfl (zc rfl (z9h ?_))))))))));rw[beq_self_eq_true];exact q
 ·cases i with
  |zero=>exact absurd h1 (by decide)
  |succ j=>
   have hj:j<row.length:=by
    have:=(List.getElem?_eq_some_iff.mp e).1;omega
   have ej:row[j]?=some row[j]:=by simp[hj]
   have hl:=ok.link j _ _ ej e;have hm:=ok.mem p (mem_of_getElem? e);refine zub (zl (zl (zc rfl (zl (zl (zc rfl (zc rfl (z5c (zq hr) (zBp e) (w_c (z5c rfl rfl (z5c (zq hn) (z6v (by omega)) (zl (zl (zc rfl (zl (zc rfl (w_c (zEv ?_))))))))))))))))));rw[show((j+1:Nat):Int)-1=(j:Int) by omega];refine z5c (zq hr) (zBp ej) (w_c (z5c rfl rfl (zsr (α:=Option Nat) (lay.getD p.1 none) (some (row[j]).2) ?_)));rw[decide_eq_true hl];exact q
def zDg(r:tY R K lay):zcd R K (lay.map onD)=.non:=by
 unfold zcd;rw[zRf λk hk=>?_,zRf λh hh=>?_]
 ·unfold z2n;rw[zdo];have:=r.room h;exact decide_eq_false (by omega)
 ·unfold zCj
  have e:(lay.map onD).getD k .non=onD (lay.getD k none):=by
   have hk':k<lay.length:=by rw[r.len];exact hk
   simp[hk']
  rw[e]
  cases e2:lay.getD k none with
  |none=>rfl
  |some h=>
   have hm:h∈K.getD k []:=r.home k h (by
    have hk':k<lay.length:=by rw[r.len];exact hk
    simp[hk']at e2;simp[hk',e2])
   show(_ && !((nat (K.getD k [])).any λy=>eqF y (.int h)))=false;rw[zZl,decide_eq_true hm,Bool.not_true,Bool.and_false]
def z7w(lay:List (Option Nat))(k h:Nat):(lay.set k (some h)).map onD=(lay.map onD).set k (.int h):=List.map_set
def zur{key r:Nat}(w:Wb L R K)(hL:L<=1000)(rt:tY R K lay)(hn:μ[n]?=some (.lst (lay.map onD)))(hr:μ[r]?=some (.lst (row.map pD)))(hrl:row.length<=1000)(ok:Ti K lay key row)(hkey:lay.getD key none=none)(hroom:lay.count (some (row.getD (row.length-1) (0,0)).2)<R.getD (row.getD (row.length-1) (0,0)).2 0)
 (q:∀(l:Nat)(μ':Mem),tw μ μ'->μ.length<=l->μ'[l]?=some (.lst ((zse lay row).map onD))->Q (.loc l) μ'):WF zTi [wn R K,.loc n,.int key,.loc r] μ Q:=by
 have hkl:=w.kl;have hlen:=rt.len;refine zzb rfl ?_;show WS z9i [some (wn R K),some (.loc n),some (.int key),some (.loc r),none,none,none] μ _ _ _ _;unfold z9i;refine zp (zab (zi (zb (zc rfl (zk (zCr (zq hn) ?_))))));refine zp (zkg (znf (zc rfl (.inr (.inr ⟨r,_,rfl,zB hr,?_⟩)))));refine zpc (λm J ν=>∃x y:Option D,J=[some (wn R K),some (.loc n),some (.int key),some (.loc r),some (.loc μ.length),x,y]/\tw μ ν/\ν[μ.length]?=some (.lst ((zse lay (row.take m)).map onD))) ⟨_,_,rfl,.app,zt⟩ (λm J ν ⟨_,_,_,k,_⟩=>znb hr k) ?_ ?_
 ·rintro m x J ν hx ⟨a,b,rfl,kp,g⟩;obtain⟨p,ep,rfl⟩:=z5p hx;have hm:=ok.mem p (mem_of_getElem? ep);have htk:row.take (m+1)=row.take m++[p]:=by rw[take_succ,ep];rfl
  refine zIl (zne (z4d (zne (z4d (znk ?_)))));unfold zil;refine zp (zog (zBo (zar (zJ (zi (zb (zc rfl (zb (zc rfl (zb (zc rfl (zb (zc rfl (zk ?_))))))))))))));refine zOq w hlen (kp _ _ hn) (kp _ _ hr) hrl ok ep λμ1 k1=>⟨_,rfl,λ_=>?_,λh=>(by cases h)⟩
  refine zJ (zi (zb (zc rfl (zb (zc rfl (zb (zc rfl (zb (zc rfl (zk ?_))))))))));refine zHp hlen ((kp.trans k1) _ _ hn) ((kp.trans k1) _ _ hr) ok ep ⟨_,rfl,λh=>(by cases h),λ_=>zpb ?_⟩;refine zlk (zl (zc rfl (w_c (z5c rfl rfl ?_))));have g1:=k1 _ _ g;refine zst (zc rfl (zl (zc rfl (w_c (z5c rfl rfl ⟨_,_,_,rfl,rfl,g1,?_,?_⟩)))))
  ·rw[length_map,zBh];omega
  ·refine⟨_,_,rfl,λi o e=>zS (k1 _ _ (kp i o e)) (Yc (zC e)),?_⟩;rw[zN g1,htk,zdl,z7w];rfl
 ·rintro J ν ⟨a,b,rfl,kp,g⟩;rw[zFc,length_map,take_length]at g
  have hpos:0<row.length:=by
   obtain⟨h,q,e⟩:=ok.first
   rw[e];simp
  refine zp (zog (z2l (zJ (zl (zi (zb (zc rfl (zk (zQd (zq (kp _ _ hr)) (w_c (z9h ⟨_,rfl,λh1=>?_,λh1=>?_⟩)))))))))))
  case refine_2=>
   have:=beq_iff_eq.mp h1;rw[length_map]at this;omega
  have hr2:=zXj rt ok hkey hroom;refine zJ (zl (zi (zb (zc rfl (zb (zc rfl (zk ?_)))))));refine zJg w (zyg _) (by rw[length_map,zBh];exact hlen) g λμ1 k1=>?_;rw[zDg hr2];refine w_c (zhh rfl ⟨_,rfl,λh=>(by cases h),λ_=>zpb (zub (zc rfl ?_))⟩);exact q _ _ (kp.trans k1) (yj _) (k1 _ _ g)
def zEg(S:List Nat)(k:Nat):List Nat:=S.filter λo=>!decide (o=k)
def zOc(R:List Nat)(K:List (List Nat))(S:List Nat):Option Nat:=S.find? λk=>zKd R K (zEg S k)
def z3h(h:zOc R K S=some k):k∈S:=List.mem_of_find?_eq_some h
def znn(h:zOc R K S=some k):zKd R K (zEg S k)=true:=List.find?_some (p:=λk=>zKd R K (zEg S k)) h
def zye(S:List Nat)(k:Nat):(zEg S k).Sublist S:=filter_sublist
def zsj(h:S.Nodup)(k:Nat):S.erase k=zEg S k:=by
 rw[h.erase_eq_filter];unfold zEg;refine filter_congr λx _=>?_
 by_cases e:x=k<;>simp[e]
def znj(h:S.Nodup){k:Nat}(hk:k∈S):(zEg S k).length+1=S.length:=by
 rw[<-zsj h,List.length_erase_of_mem hk];have:=List.length_pos_of_mem hk;omega
def zgk(R:List Nat)(K:List (List Nat)):Nat->List Nat->List Nat
 |0,S=>S
 |n+1,S=>match zOc R K S with
  |none=>S
  |some k=>zgk R K n (zEg S k)
def zQm(R:List Nat)(K:List (List Nat))(S:List Nat):List Nat:=zgk R K S.length S
def zRp(h:zOc R K S=none):zQm R K S=S:=by
 unfold zQm
 cases S with
 |nil=>rfl
 |cons a S=>rw[length_cons,zgk,h]
def zTp(hd:S.Nodup)(h:zOc R K S=some k):zQm R K S=zQm R K (zEg S k):=by
 have h1:=znj hd (z3h h);unfold zQm
 conv=>lhs;rw[<-h1,zgk,h]
def zHm{R:List Nat}{K:List (List Nat)}:∀(n:Nat)(S:List Nat),(zgk R K n S).Sublist S
 |0,S=>List.Sublist.refl _
 |n+1,S=>by
  unfold zgk
  cases zOc R K S with
  |none=>exact List.Sublist.refl _
  |some k=>exact(zHm n _).trans (zye S k)
def ztn{R:List Nat}{K:List (List Nat)}:∀(n:Nat)(S:List Nat),S.Nodup->S.length<=n->zOc R K (zgk R K n S)=none
 |0,S,_,h=>by
  have:S=[]:=List.length_eq_zero_iff.mp (by omega);subst this;rfl
 |n+1,S,hd,h=>by
  unfold zgk
  cases e:zOc R K S with
  |none=>exact e
  |some k=>
   have:=znj hd (z3h e);exact ztn n _ (hd.sublist (zye S k)) (by omega)
def zOj{R:List Nat}{K:List (List Nat)}:∀(n:Nat)(S:List Nat),zKd R K S=true->zKd R K (zgk R K n S)=true
 |0,S,h=>h
 |n+1,S,h=>by
  unfold zgk
  cases e:zOc R K S with
  |none=>exact h
  |some k=>exact zOj n _ (znn e)
def zAj(w:Wb L R K)(hn:μ[n]?=some (.lst (nat S)))(hS:∀k∈S,k<K.length)(hl:S.length<=1000)
 (q:∀μ',tw μ μ'->Q (onD (zOc R K S)) μ'):WF zLd [wn R K,.loc n] μ Q:=by
 refine zzb rfl ?_;show WS zlf [some (wn R K),some (.loc n),none] μ _ _ _ _;unfold zlf;refine zp (zkg (zTe (zc rfl (.inr (.inr ⟨n,_,rfl,hn,?_⟩)))));refine zpc (λm J μ'=>∃a:Option D,J=[some (wn R K),some (.loc n),a]/\tw μ μ'/\∀k∈S.take m,zKd R K (zEg S k)=false) ⟨_,rfl,.refl,by simp⟩ (λm J μ' ⟨a,_,k,_⟩=>znb hn k) ?_ ?_
 ·rintro m x J μ1 hx ⟨a,rfl,k1,hb⟩;rw[yh]at hx
  cases hy:S[m]? with
  |none=>rw[hy]at hx;cases hx
  |some kk=>
   rw[hy]at hx;cases hx;have ht:S.take (m+1)=S.take m++[kk]:=by rw[take_succ,hy];rfl
   refine z4d ?_;unfold zXg;refine zog (zJ (zi (zb (zc rfl (zb (zrk ?_))))));refine zTe (zc rfl (.inr (.inr ⟨n,_,rfl,k1 _ _ hn,zLb (by rw[length_map];omega),?_⟩)));refine zLf (λ(k:Nat)=>D.int k) S (λ(k:Nat)=>D.int k) (λo=>!decide (o=kk)) (λμ' k'=>znb (k1 _ _ hn) k') (λj hj μ' kp=>?_) (λμ2 k2=>?_)
   ·repeat walk_at "w"
    refine⟨?_,kp,λ_=>?_⟩
    ·congr 1
     by_cases e:j=kk
     ·subst e;simp
     ·simp[e];omega
    ·unfold zDh;exact zc rfl ⟨rfl,kp⟩
   ·refine zk ?_;have hls:(zEg S kk).length<=S.length:=(zye S kk).length_le;refine zgg w (S:=zEg S kk) zt (λk hk=>hS k ((zye S kk).subset hk)) (by omega) λμ3 k3=>⟨_,rfl,λh1=>?_,λh1=>?_⟩
    ·refine zub (zc rfl ?_);have:=q μ3 (k1.trans (k2.to.trans k3))
     have e:zOc R K S=some kk:=by
      unfold zOc;rw[List.find?_eq_some_iff_append];refine⟨h1,S.take m,S.drop (m+1),?_,λa ha=>by rw[hb a ha];rfl⟩;have hlt:=(List.getElem?_eq_some_iff.mp hy).1
      have e1:S.drop m=kk::S.drop (m+1):=by
       rw[drop_eq_getElem_cons hlt,(List.getElem?_eq_some_iff.mp hy).2]
      rw[<-e1,take_append_drop]
     rw[e]at this;exact this
    ·refine zpb ⟨_,rfl,k1.trans (k2.to.trans k3),λk hk=>?_⟩;rw[ht]at hk;rcases List.mem_append.mp hk with hk|hk
     ·exact hb k hk
     ·rw[List.mem_singleton.mp hk];exact h1
 ·rintro J μ1 ⟨a,rfl,k1,hb⟩;rw[length_map,take_length]at hb;refine zub (w_c ?_);have:=q μ1 k1
  have e:zOc R K S=none:=by
   unfold zOc;rw[List.find?_eq_none];intro k hk;rw[hb k hk];exact yv
  rw[e]at this;exact this
def zWp(w:Wb L R K)(hn:μ[n]?=some (.lst (nat S)))(hS:∀k∈S,k<K.length)(hl:S.length<=1000)(hd:S.Nodup)
 (q:∀(l:Nat)(μ':Mem),tw μ μ'->μ.length<=l->μ'[l]?=some (.lst (nat (zQm R K S)))->Q (.loc l) μ'):WF zth [wn R K,.loc n] μ Q:=by
 refine zzb rfl ?_;show WS zQg [some (wn R K),some (.loc n),none,none] μ _ _ _ _;unfold zQg;refine zp (zab (zi (zb (zc rfl (zk (zCr (zq hn) ?_))))));refine zp (zab (zi (zb (zc rfl (zb (zc rfl (zk ?_)))))));refine zAj w zt hS hl λμ1 k1=>?_;refine zp ?_;refine ztj (λm J μ'=>∃T:List Nat,m=T.length/\J=[some (wn R K),some (.loc n),some (.loc μ.length),some (onD (zOc R K T))]/\tw μ μ'/\μ'[μ.length]?=some (.lst (nat T))/\T.Sublist S/\zQm R K S=zQm R K T) (m:=S.length) (by omega) ⟨S,rfl,rfl,tw.app.trans k1,k1 _ _ zt,List.Sublist.refl _,rfl⟩ ?_;rintro m J μ' ⟨T,rfl,rfl,k2,g2,hT,ht⟩;have hTd:=hd.sublist hT;have hTl:=hT.length_le
 repeat walk_at "w"
 refine zhh (zFl _) ⟨_,rfl,λh1=>?_,λh1=>?_⟩
 ·cases e:zOc R K T with
  |none=>rw[e]at h1;cases h1
  |some k=>
   have hk:=z3h e;have hle:=znj hTd hk;unfold zbk;refine zp (zdi (zTg (zc rfl ⟨_,_,rfl,g2,?_⟩)));refine zb (zc rfl (zk ?_));refine zUq g2 hk ?_;rw[zsj hTd];refine zab (zi (zb (zc rfl (zb (zc rfl (zk ?_))))));have g3:=zN (o':=tD.lst (nat (zEg T k))) g2;refine zAj w g3 (λx hx=>hS x (hT.subset ((zye T k).subset hx))) (by omega) λμ3 k3=>?_;exact⟨(zEg T k).length,by omega,zEg T k,rfl,rfl,λi o e'=>k3 _ _ (zS (k2 _ _ e') (Yc (zC e'))),k3 _ _ g3,(zye T k).trans hT,by rw[ht,zTp hTd e]⟩
 ·refine zub (zc rfl ?_)
  have e:zOc R K T=none:=by
   cases e:zOc R K T with
   |none=>rfl
   |some k=>rw[e]at h1;cases h1
  refine q _ _ k2 (yj _) ?_;rw[ht,zRp e];exact g2
def zOs{key:Nat}(ok:Ti K lay key row){k:Nat}(h:k∈row.map (·.1)):k=key\/(lay.getD k none).isSome=true:=by
 obtain⟨p,hp,rfl⟩:=List.mem_map.mp h;obtain⟨i,hi,rfl⟩:=List.mem_iff_getElem.mp hp
 cases i with
 |zero=>
  obtain⟨h,r,e⟩:=ok.first
  subst e;exact .inl rfl
 |succ j=>
  have:=ok.link j row[j] row[j+1] (by simp[show j<row.length by omega]) (by simp[hi]);exact .inr (by rw[this];rfl)
def zwj{key:Nat}(hlen:lay.length=K.length)(ok:Ti K lay key row){k:Nat}(h:k=key\/(lay.getD k none).isSome=true):((zse lay row).getD k none).isSome=true:=by
 by_cases hm:k∈row.map (·.1)
 ·obtain⟨p,hp,rfl⟩:=List.mem_map.mp hm;rw[zOl ok.nd hp (by rw[hlen];exact(ok.mem p hp).1)];rfl
 ·rcases h with rfl|h
  ·obtain⟨h,r,e⟩:=ok.first
   subst e;exact absurd (by simp) hm
  ·rw[zNe hm];exact h
def zgj{key:Nat}(ok:Ti K lay key row){k:Nat}(h:lay.getD k none=none)(hk:k≠key):(zse lay row).getD k none=none:=by
 rw[zNe λhm=>?_]
 ·exact h
 ·rcases zOs ok hm with e|e
  ·exact hk e
  ·rw[h]at e;cases e
def zAl{s:yF}(h:Xg s=true):toP μ 8 (.str s)=some (.str s):=by
 show(bif Xg s then some (PyData.str s) else none)=_;rw[h];rfl
def zwl{a b:yF}(q:Q (.bl (Yu (.str a) (.str b))) μ)(ha:Xg a=true:=by decide +kernel)(hb:Xg b=true:=by decide +kernel):W2 gEq (.str a) (.str b) μ Q:=zdx (zAl ha) (zAl hb) q
def zFq{a b:yF}(q:Q (.bl (!PyData.eqv (.str a) (.str b))) μ)(ha:Xg a=true:=by decide +kernel)(hb:Xg b=true:=by decide +kernel):W2 gNe (.str a) (.str b) μ Q:=zzx (zAl ha) (zAl hb) q
structure Done(R:List Nat)(K:List (List Nat))(lay0 lay:List (Option Nat))(ks C:List Nat):Prop where
 right:tY R K lay
 sI:Tw R K lay C
 old:∀k,(lay0.getD k none).isSome=true->(lay.getD k none).isSome=true
 non:∀k,k∉ks->lay0.getD k none=none->lay.getD k none=none
 all:∀k∈ks,(lay.getD k none).isSome=true\/(k∈C/\lay.getD k none=none)
 out:C≠[]->∃k∈C,k∈ks/\lay.getD k none=none
def Done.put{key:Nat}(d:Done R K lay0 lay ks C)(hk:key∉ks)(hkey:lay.getD key none=none)(ok:Ti K lay key row)
 (hroom:lay.count (some (row.getD (row.length-1) (0,0)).2)<R.getD (row.getD (row.length-1) (0,0)).2 0):Done R K lay0 (zse lay row) (ks++[key]) C:=by
 have hlen:=d.right.len;refine⟨zXj d.right ok hkey hroom,d.sI.push d.right ok hkey hroom,λk h=>zwj hlen ok (.inr (d.old k h)),λk h h0=>?_,λk h=>?_,λhC=>?_⟩
 ·rw[mem_append,not_or]at h;exact zgj ok (d.non k h.1 h0) (by simpa using h.2)
 ·rcases List.mem_append.mp h with h'|h
  ·rcases d.all k h' with h1|⟨h1,h2⟩
   ·exact .inl (zwj hlen ok (.inr h1))
   ·exact .inr ⟨h1,zgj ok h2 (by rintro rfl;exact hk h')⟩
  ·rw[List.mem_singleton.mp h];exact .inl (zwj hlen ok (.inl rfl))
 ·obtain⟨k,h1,h2,h3⟩:=d.out hC;exact⟨k,h1,mem_append_left _ h2,zgj ok h3 (by rintro rfl;exact hk h2)⟩
def Done.full{key:Nat}(d:Done R K lay0 lay ks C)(hkey:lay.getD key none=none)(hS:key∈S)(s:Tw R K lay S):Done R K lay0 lay (ks++[key]) (C++S):=by
 refine⟨d.right,d.sI.app s,d.old,λk h h0=>?_,λk h=>?_,λhC=>⟨key,mem_append_right _ hS,by simp,hkey⟩⟩
 ·rw[mem_append,not_or]at h;exact d.non k h.1 h0
 ·rcases List.mem_append.mp h with h|h
  ·rcases d.all k h with h1|⟨h1,h2⟩
   ·exact .inl h1
   ·exact .inr ⟨mem_append_left _ h1,h2⟩
  ·rw[List.mem_singleton.mp h];exact .inr ⟨mem_append_right _ hS,hkey⟩
def zMp(m:Nat)(C:List Nat):List Nat:=(yi m).filter λk=>decide (k∈C)
def zlh(h:∀k∈C,k<m)(k:Nat):k∈zMp m C↔k∈C:=by
 unfold zMp;rw[mem_filter,mem_range,decide_eq_true_iff];exact⟨λq=>q.2,λq=>⟨h k q,q⟩⟩
def zcu{G:FE}{J:M.Loc}(hC:∀k∈C,k<m)(hm:m<64)(hl:C.length<=4000)(h:WE G J μ λx μ1=>x=.loc n/\μ1[n]?=some (.lst (nat C))/\Q (.loc μ1.length) (μ1++[.lst (nat (zMp m C))])):WE (z2p G) J μ Q:=by
 have hmem:∀i:Int,i∈(zMp m C).map (λ(k:Nat)=>(k:Int))↔i∈C.map (λ(k:Nat)=>(k:Int)):=λi=>by
  simp only[mem_map];constructor
  ·rintro⟨k,hk,rfl⟩;exact⟨k,(zlh hC k).mp hk,rfl⟩
  ·rintro⟨k,hk,rfl⟩;exact⟨k,(zlh hC k).mpr hk,rfl⟩
 have hpw:((zMp m C).map (λ(k:Nat)=>(k:Int))).Pairwise (· < ·):=by
  rw[pairwise_map];exact(List.pairwise_lt_range.filter _).imp λh=>by omega
 have hp:=zQl hmem hpw;have hsort:=z8o hmem hpw;have hsl:(zMp m C).length<=m:=by unfold zMp;simpa using(filter_sublist (l:=yi m) (p:=λk=>decide (k∈C))).length_le
 refine z9t (h.mono ?_);rintro x μ1 ⟨rfl,g,q⟩;refine⟨_,C.map (λ(k:Nat)=>(k:Int)),rfl,by rw[g,map_map];rfl,by rw[length_map];omega,by rw[hp.length_eq,length_map];omega,?_⟩;rw[hsort,map_map];exact q
abbrev JLm(R:List Nat)(K:List (List Nat))(lay0:List (Option Nat))(ks:List Nat)(n m:Nat)(μ:Mem):Nat->M.Loc->Mem->Prop:=λi J ν=>∃(lay:List (Option Nat)) (C:List Nat) (l:Nat) (x y:Option D),J=[some (wn R K),some (.loc l),some (.loc m),some (.loc μ.length),x,y]/\Done R K lay0 lay (ks.take i) C/\C.length<=i*K.length/\tw μ ν/\(l=n/\lay=lay0\/μ.length<l)/\ν[μ.length]?=some (.lst (nat C))/\ν[l]?=some (.lst (lay.map onD))
def zjo(w:Wb L R K)(hL:L<=60)(rt:tY R K lay0)(hn:μ[n]?=some (.lst (lay0.map onD)))(hm:μ[m]?=some (.lst (nat ks)))(hks:∀k∈ks,k<K.length)(hnd:ks.Nodup)(hnon:∀k∈ks,lay0.getD k none=none)
 (q:∀(lay:List (Option Nat)) (C:List Nat) (l l2:Nat) (μ':Mem),Done R K lay0 lay ks C->tw μ μ'->(l=n/\lay=lay0\/μ.length<=l)->μ.length<=l2->l≠l2->μ'[l]?=some (.lst (lay.map onD))->μ'[l2]?=some (.lst (nat (zMp K.length C)))->Q (.tup [.loc l,.loc l2]) μ'):WF z5e [wn R K,.loc n,.loc m] μ Q:=by
 have hkl:=w.kl
 have hkn:ks.length<=K.length:=by
  have:=zxd hnd (m:=yi K.length) λx hx=>by simpa using hks x hx
  simpa using this
 refine zzb rfl ?_;show WS zkf [some (wn R K),some (.loc n),some (.loc m),none,none,none] μ _ _ _ _;unfold zkf;refine zp (zab (zKg (zk (zp (zkg (zTe (zc rfl (.inr (.inr ⟨m,_,rfl,zB hm,?_⟩)))))))));have hnl:=zC hn
 refine zpc (JLm R K lay0 ks n m μ)
  ⟨lay0,[],n,_,_,rfl,⟨rt,.nil,λ_ h=>h,λ_ _ h=>h,by simp,λh=>absurd rfl h⟩,by simp,.app,.inl ⟨rfl,rfl⟩,zt,zB hn⟩ (λi J ν ⟨_,_,_,_,_,_,_,_,k,_⟩=>znb hm k) ?_ ?_
 ·rintro i z J ν hz ⟨lay,C,l,x,y,rfl,d,hCl,kp,hl,gC,gl⟩;rw[yh]at hz
  cases ek:ks[i]? with
  |none=>rw[ek]at hz;cases hz
  |some key=>
   rw[ek]at hz;cases hz;have hkm:=mem_of_getElem? ek;have hil:=(List.getElem?_eq_some_iff.mp ek).1;have htk:ks.take (i+1)=ks.take i++[key]:=by rw[take_succ,ek];rfl
   have hkt:key∉ks.take i:=by
    intro hmem;have nd:=hnd;rw[<-take_append_drop i ks,nodup_append]at nd;refine nd.2.2 _ hmem _ ?_ rfl;rw[drop_eq_getElem_cons hil,(List.getElem?_eq_some_iff.mp ek).2];exact mem_cons_self
   have hkey:=d.non key hkt (hnon key hkm);have hCb:i*K.length<=60*60:=Nat.mul_le_mul (by omega) (by omega);refine z4d ?_;unfold zuh;refine zp (zab (zi (zb (zc rfl (zb (zc rfl (zb (zc rfl (zk ?_)))))))));refine zxs w d.right.len (by omega) gl (hks key hkm) hkey (λrow r μ1 ok hroom hrl k1 hr gr=>?_) (λS r μ1 hS hkS s k1 hr gr=>?_)
   ·refine zog (zJ (zl (zl (zc rfl (w_c (z5c rfl rfl (w_c (zwl ⟨_,rfl,λ_=>?_,λh=>absurd h (by decide +kernel)⟩))))))));refine zab (zi (zb (zc rfl (zb (zc rfl (zb (zc rfl (zb (zl (zc rfl (w_c (z5c rfl rfl (zk ?_)))))))))))));refine zur w (by omega) d.right (k1 _ _ gl) gr (by omega) ok hkey hroom λl' μ2 k2 hl' g2=>?_;refine⟨zse lay row,C,l',_,_,rfl,by rw[htk];exact d.put hkt hkey ok hroom,by rw[Nat.succ_mul];omega,kp.trans (k1.trans k2),.inr ?_,(k1.trans k2) _ _ gC,g2⟩;have:=(kp.trans k1).len;have:=k1.len;have:=zC gC;omega
   ·refine zog (zJ (zl (zl (zc rfl (w_c (z5c rfl rfl (w_c (zwl ⟨_,rfl,λh=>?_,λ_=>?_⟩))))))))
    ·exact absurd h (by decide +kernel)
    have hSl:S.length<=K.length:=by simpa using hS.length_le
    refine zdi (zTg (zc rfl ⟨_,_,rfl,k1 _ _ gC,?_⟩));refine zb (zl (zc rfl (w_c (z5c rfl rfl (zk ?_)))));refine zIw (k1 _ _ gC) gr (by simp only[length_map];omega) ?_;have hlt:=zC gC;refine⟨lay,C++S,l,_,_,rfl,by rw[htk];exact d.full hkey hkS s,by rw[Nat.succ_mul,length_append];omega,λa o e=>zS (k1 _ _ (kp a o e)) (Yc (zC e)),hl,?_,zS (k1 _ _ gl) (by rcases hl with ⟨h,_⟩|h<;>omega)⟩;rw[zN (k1 _ _ gC),zXc]
 ·rintro J ν ⟨lay,C,l,x,y,rfl,d,hCl,kp,hl,gC,gl⟩;rw[length_map,take_length]at d;rw[length_map]at hCl;have hCb:ks.length*K.length<=60*60:=Nat.mul_le_mul (by omega) (by omega);refine zub (zxg (zb (zc rfl (zb ?_))));refine zcu (n:=μ.length) (m:=K.length) d.sI.keys (by omega) (by omega) (zc rfl ⟨rfl,gC,zk ?_⟩);have:=zC gl;exact q lay C l _ _ d kp.to (by rcases hl with h|h;exact .inl h;exact .inr (by omega)) kp.len (by omega) (zB gl) zt
def zGm(w:Wb L R K)(hL:L<=60)
 (q:∀(lay:List (Option Nat)) (C:List Nat) (l l2:Nat) (μ':Mem),Done R K (yu K.length none) lay (yi K.length) C->tw μ μ'->μ.length<=l->μ.length<=l2->l≠l2->μ'[l]?=some (.lst (lay.map onD))->μ'[l2]?=some (.lst (nat (zMp K.length C)))->Q (.tup [.loc l,.loc l2]) μ'):WF zrd [wn R K] μ Q:=by
 have hkl:=w.kl;refine zzb rfl ?_;show WS zvd [some (wn R K)] μ _ _ _ _;unfold zvd;refine zub (zi (zb (zc rfl (zb (zl (zKg (zb (w_c (zk (zi (zb (zl (zc rfl (w_c (zae (zk (zQd rfl ?_)))))))))))))))));refine zMt zt (by rw[length_map];omega) (by omega) (by simp) ?_;refine zb (zUo (zi (zb (zl (zc rfl (w_c (zae (zk (zQd rfl ⟨_,rfl,?_,zk ?_⟩)))))))))
 ·rw[length_map];omega
 have e1:(yu (((K.map tn).length:Nat):Int).toNat [D.non]).flatten=(yu K.length (none:Option Nat)).map onD:=by
  rw[yJ,length_map,List.map_replicate,List.flatten_replicate_singleton]
 rw[e1,yJ,length_map]
 have hrep:∀k,(yu K.length (none:Option Nat)).getD k none=none:=λk=>by
  rw[getD_eq_getElem?_getD,Yw]
  split<;>rfl
 refine zjo (ks:=yi K.length) w hL ⟨by simp,λk h e=>?_,λh=>?_⟩ (zB zt) zt (by simp) nodup_range (λk _=>hrep k) λlay C l l2 μ' d k hl hl2 hne g g2=>?_
 ·rw[Yw]at e
  split at e
  ·cases e
  ·cases e
 ·rw[List.count_replicate];simp
 ·have k':=(tw.to (tw.to (tw.app (μ:=μ) (g:=[.lst [.non]])))).trans k;refine q lay C l l2 μ' d k' ?_ ?_ hne g g2
  ·rcases hl with ⟨rfl,_⟩|hl
   ·simp
   ·simp at hl;omega
  ·simp at hl2;omega
def zBj(w:Wb L R K)(hL:L<=60)
 (q1:∀(lay:List (Option Nat)) (l:Nat) (μ':Mem),tY R K lay->(∀k<K.length,(lay.getD k none).isSome=true)->tw μ μ'->μ.length<=l->μ'[l]?=some (.lst (lay.map onD))->Q (.tup [.str "fits",.loc l]) μ')
 (q2:∀(T:List Nat)(l:Nat)(μ':Mem),T.Sublist (yi K.length)->zKd R K T=true->zOc R K T=none->tw μ μ'->μ.length<=l->μ'[l]?=some (.lst (nat T))->Q (.tup [.str "crowd",.loc l]) μ'):WF zch [wn R K] μ Q:=by
 have hkl:=w.kl;refine zzb rfl ?_;show WS z8i [some (wn R K),none] μ _ _ _ _;unfold z8i;refine zp (zab (zi (zb (zc rfl (zk ?_)))));refine zGm w hL λlay C l l2 μ1 d k1 hl hl2 hne g g2=>?_;refine zp (zog (zJ (zl (zl (zc rfl (w_c (z5c rfl rfl (zKg (zk ?_)))))))));refine zCx (α:=Nat) (zMp K.length C) [] (zB g2) zt ⟨_,rfl,λh1=>?_,λh1=>zpb ?_⟩
 ·have h1:=of_decide_eq_true h1;refine zub (zxg (zb (w_c (zb (zl (zc rfl (w_c (z5c rfl rfl (zk ?_)))))))));refine q1 lay l _ d.right (λk hk=>?_) k1.to hl (zB g);rcases d.all k (by simpa using hk) with h|⟨h,_⟩
  ·exact h
  ·have:=(zlh d.sI.keys k).mpr h;rw[h1]at this;cases this
 ·have h1:=of_decide_eq_false h1
  have hC:C≠[]:=by
   rintro rfl;exact h1 (by unfold zMp;simp)
  obtain⟨k0,hk0,_,hn0⟩:=d.out hC;have hsub:(zMp K.length C).Sublist (yi K.length):=filter_sublist;have hcr:=zAp w (d.sI.congr (zlh d.sI.keys)) d.right.len ((zlh d.sI.keys k0).mpr hk0) hn0;have hsl:(zMp K.length C).length<=K.length:=by simpa using hsub.length_le
  have hnd:=List.nodup_range.sublist hsub;refine zub (zxg (zb (w_c (zb (zi (zb (zc rfl (zb (zl (zc rfl (w_c (z5c rfl rfl (zk ?_)))))))))))));refine zWp w (zB g2) (λk hk=>by simpa using hsub.subset hk) (by omega) hnd λl3 μ3 k3 hl3 g3=>zk ?_;exact q2 _ l3 μ3 ((zHm _ _).trans hsub) (zOj _ _ hcr) (ztn _ _ hnd (yj _)) (k1.to.trans k3) (by have:=k1.len;simp at hl3;omega) g3
def zXm(R:List Nat)(K:List (List Nat)):Prop:=∃lay,tY R K lay/\∀k<K.length,(lay.getD k none).isSome=true
def zcp(w:Wb L R K)(hT:T.Sublist (yi K.length))(hc:zKd R K T=true):¬zXm R K:=by
 rintro⟨lay,r,h⟩;have hTk:∀k∈T,k<K.length:=λk hk=>by simpa using hT.subset hk
 have:=zwr w r (List.nodup_range.sublist hT) hTk λk hk=>h k (hTk k hk);rw[hc]at this;cases this
def zwu(h:μ[n]?=some (.lst (nat S)))(hp:T.Perm S)(hT:T.Pairwise (· < ·))(hl:S.length<64)(q:Q (.loc μ.length) (μ++[.lst (nat T)])):WF zKm [.loc n] μ Q:=by
 have e1:nat S=(S.map λ(k:Nat)=>(k:Int)).map D.int:=by rw[map_map];rfl
 have e2:nat T=(T.map λ(k:Nat)=>(k:Int)).map D.int:=by rw[map_map];rfl
 have e3:zuk (S.map λ(k:Nat)=>(k:Int))=T.map λ(k:Nat)=>(k:Int):=by
  refine zUc ((mergeSort_perm _ _).trans (hp.symm.map _)) (zRh _) ?_;rw[pairwise_map];exact hT.imp λh=>by omega
 refine⟨_,_,?_,q⟩;simp only[zKm,h];rw[e1,zWg,yp,length_map,decide_eq_true hl,cond_true,e3,<-e2]
def z9s{α:Type}{xs:List α}{x y:α}:y∈z4o xs k x↔y=x\/y∈xs:=by
 unfold z4o;rw[mem_append,mem_cons];constructor
 ·rintro(h|h|h)
  ·exact .inr (List.mem_of_mem_take h)
  ·exact .inl h
  ·exact .inr (List.mem_of_mem_drop h)
 ·rintro(h|h)
  ·exact .inr (.inl h)
  ·rw[<-take_append_drop k xs]at h;rcases List.mem_append.mp h with h|h
   ·exact .inl h
   ·exact .inr (.inr h)
def zsu{α:Type}{xs:List α}{x:α}(nd:xs.Nodup)(h:x∉xs):(z4o xs k x).Nodup:=by
 unfold z4o;have e:=take_append_drop k xs;rw[<-e,nodup_append]at nd;rw[nodup_append];refine⟨nd.1,List.nodup_cons.mpr ⟨λhm=>h (List.mem_of_mem_drop hm),nd.2.1⟩,λa ha b hb=>?_⟩;rcases List.mem_cons.mp hb with rfl|hb
 ·rintro rfl;exact h (List.mem_of_mem_take ha)
 ·exact nd.2.2 a ha b hb
def ztv(S:List Nat)(i k:Nat):z4o (nat S) i (.int k)=nat (z4o S i k):=by
 unfold z4o nat;rw[map_append,map_cons,List.map_take,List.map_drop]
structure Ord(O:List Nat)(n:Nat):Prop where
 nd:O.Nodup
 len:O.length=n
 mem:∀k,k∈O↔k<n
def Ord.lt(o:Ord O n)(h:i<n):O.getD i 0<n:=by
 have hi:i<O.length:=by rw[o.len];exact h
 rw[getD_eq_getElem?_getD,yd hi];exact(o.mem _).mp (getElem_mem hi)
def Ord.tT(o:Ord O n)(h:j<n):O.idxOf j<n:=by
 rw[<-o.len];exact List.idxOf_lt_length_iff.mpr ((o.mem j).mpr h)
def Ord.tL(o:Ord O n)(h:j<n):O.getD (O.idxOf j) 0=j:=by
 have hi:=List.idxOf_lt_length_iff.mpr ((o.mem j).mpr h);rw[getD_eq_getElem?_getD,yd hi];exact List.getElem_idxOf hi
def Ord.tV(o:Ord O n)(h:i<n):O.idxOf (O.getD i 0)=i:=by
 have hi:i<O.length:=by rw[o.len];exact h
 rw[getD_eq_getElem?_getD,yd hi];exact o.nd.idxOf_getElem i hi
def zug(O:List Nat):List Nat:=(yi O.length).map λj=>O.idxOf j
def zBg(o:Ord O n)(h:j<n):(zug O).getD j 0=O.idxOf j:=by
 unfold zug;simp[o.len,h]
def Ord.inv(o:Ord O n):Ord (zug O) n:=by
 have hm:∀k,k∈zug O↔k<n:=λk=>by
  unfold zug;rw[mem_map];constructor
  ·rintro⟨j,hj,rfl⟩;exact o.tT (by rw[<-o.len];simpa using hj)
  ·intro hk;exact⟨O.getD k 0,by rw[mem_range,o.len];exact o.lt hk,o.tV hk⟩
 refine⟨?_,by unfold zug;simp[o.len],hm⟩;unfold zug;rw[List.Nodup,pairwise_map];refine xB ?_ nodup_range;intro a b ha hb hne he;have ha:a<n:=by rw[<-o.len];simpa using ha
 have hb:b<n:=by rw[<-o.len];simpa using hb
 have e1:=o.tL ha;have e2:=o.tL hb;rw[he,e2]at e1;exact hne e1.symm
def zCd(O:List Nat)(xs:List D):List D:=(yi xs.length).map λj=>xs.getD (O.idxOf j) .non
def zfg{α:Type}{xs:List α}(o:Ord O xs.length)(f:α->D)(d:α):zCd O (xs.map f)=((yi xs.length).map λj=>xs.getD (O.idxOf j) d).map f:=by
 unfold zCd;rw[length_map,map_map];refine map_congr_left λj hj=>?_;have hj:j<xs.length:=by simpa using hj
 have hi:=o.tT hj;simp[hi]
def zRj{x:D}(o:Ord O xs.length)(hl:xs.length<=1000)(hx:x=.tup xs\/∃n,x=.loc n/\μ[n]?=some (.lst xs))(ho:μ[ol]?=some (.lst (nat O)))(q:∀(l:Nat)(μ':Mem),tw μ μ'->μ.length<=l->μ'[l]?=some (.lst (zCd O xs))->Q (.loc l) μ'):WF z9d [x,.loc ol] μ Q:=by
 refine zzb rfl ?_;show WS z1i [some x,some (.loc ol),none,none,none] μ _ _ _ _;unfold z1i
 have hit:∀{ν:Mem},tw μ ν->items ν x=some xs:=λ{ν} k=>by
  rcases hx with rfl|⟨n,rfl,hn⟩
  ·rfl
  ·exact zq (k _ _ hn)
 refine zp (zab (zl (zKg (zb (w_c (zk (zi (zb (zc rfl (zk (zQd (hit .app) ?_)))))))))));refine zMt zt (by omega) (by omega) (by simp) ?_;rw[yJ,List.flatten_replicate_singleton];have ka:tw μ ((μ++[tD.lst [D.non]])++[tD.lst (yu xs.length D.non)]):=tw.to tw.app;have ga:((μ++[tD.lst [D.non]])++[tD.lst (yu xs.length D.non)])[(μ++[tD.lst [D.non]]).length]?=some (.lst (yu xs.length D.non)):=zt;have hc:μ.length<=(μ++[tD.lst [D.non]]).length:=by simp
 generalize (μ++[tD.lst [D.non]])++[tD.lst (yu xs.length D.non)]=μa at ka ga;generalize (μ++[tD.lst [D.non]]).length=c at ga hc
 have loop:∀(ok:Mem->Bool) {nx:M.Loc->Mem->Prop} {rt:D->Mem->Prop},(∀ν,tw μ ν->ok ν=true)->(∀(ν:Mem)(y z:Option D),tw μ ν->ν[c]?=some (.lst (zCd O xs))->nx [some x,some (.loc ol),some (.loc c),y,z] ν)->WFor (gT 2 (zbb (gN 3) (zbb (gN 4) zUe))) zTh ok (zzg xs) [some x,some (.loc ol),some (.loc c),none,none] μa nx rt:=by
  intro ok nx rt hok fin;have ee:=zGb (λ(d:D)=>d) xs D.non;rw[List.map_id']at ee;rw[ee]
  have e0:yu xs.length D.non=(yi xs.length).map λj=>if O.idxOf j<0 then xs.getD (O.idxOf j) .non else .non:=by
   refine ext_getElem? λi=>?_;rw[Yw,yh]
   by_cases hi:i<xs.length
   ·rw[if_pos hi,yZ hi];rfl
   ·rw[if_neg hi,yK (by simp;omega)];rfl
  refine zpc (λi J ν=>∃y z:Option D,J=[some x,some (.loc ol),some (.loc c),y,z]/\tw μ ν/\ν[c]?=some (.lst ((yi xs.length).map λj=>if O.idxOf j<i then xs.getD (O.idxOf j) .non else .non))) ⟨_,_,rfl,ka,by rw[<-e0];exact ga⟩ (λ_ _ _ ⟨_,_,_,k,_⟩=>hok _ k) ?_ ?_
  ·rintro i w0 J ν hw ⟨y,z,rfl,k,g⟩
   have hi:i<xs.length:=by
    have:=(List.getElem?_eq_some_iff.mp hw).1;simpa using this
   rw[yh,yZ hi]at hw;cases hw;refine zIl (zne (z4d (zne (z4d (znk ?_)))));unfold zTh;have hoi:i<O.length:=by rw[o.len];exact hi
   have hlt:=o.lt hi;refine zlk (zc rfl (zst (zc rfl (zl (zc rfl (zc rfl (z5c (zq (k _ _ ho)) (z0c hoi) ⟨_,_,_,rfl,rfl,g,⟨by omega,by rw[length_map,length_range];omega⟩,?_⟩)))))));rw[yJ];refine⟨_,_,rfl,λa o' e=>zS (k a o' e) (by have:=zC e;omega),?_⟩;rw[zN g]
   congr 2
   refine ext_getElem? λj=>?_
   by_cases hj:j<xs.length
   ·by_cases e:O.getD i 0=j
    ·subst e;rw[Yz (by simpa using hlt),yh,yZ hlt,xr,o.tV hi,if_pos (by omega)]
    ·rw[Yk e,yh,yh,yZ hj,xr,xr];have hne:O.idxOf j≠i:=λh=>e (by rw[<-h];exact o.tL hj)
     by_cases h1:O.idxOf j<i
     ·rw[if_pos h1,if_pos (by omega)]
     ·rw[if_neg h1,if_neg (by omega)]
   ·rw[yK (by simp;omega),yK (by simp;omega)]
  ·rintro J ν ⟨y,z,rfl,k,g⟩;rw[length_map,length_range]at g;refine fin ν y z k ?_;rw[g]
   congr 2
   unfold zCd;refine map_congr_left λj hj=>?_;rw[if_pos (o.tT (by simpa using hj))]
 have last:∀(ν:Mem)(y z:Option D),tw μ ν->ν[c]?=some (.lst (zCd O xs))->WS (zec (zh 2)) [some x,some (.loc ol),some (.loc c),y,z] ν (λ_ μ'=>Q .non μ') Q (λ_ _=>False) (λ_ _=>False):=λν y z k g=>zub (zc rfl (q _ _ k hc g));rcases hx with rfl|⟨n,rfl,hn⟩
 ·exact zp (zkg (znf (zc rfl (.inl ⟨_,rfl,loop _ (λ_ _=>rfl) last⟩))))
 ·exact zp (zkg (znf (zc rfl (.inr (.inr ⟨n,_,rfl,ka _ _ hn,loop _ (λν k=>znb hn k) last⟩)))))
def zNm(h:tO ns μ l B)(hB:B<=100000)(hm:m<=1000)(q:∀(O:List Nat)(n:Nat)(μ':Mem),O.Nodup->O.length=m->(∀k,k∈O↔k<m)->KB [l] μ μ'->tO ns μ' l (B+m)->μ.length<=n->μ'[n]?=some (.lst (nat O))->Q (.loc n) μ'):WF zed [.loc l,.int (m:Nat)] μ Q:=by
 refine zzb rfl ?_;show WS zZd [some (.loc l),some (.int (m:Nat)),none,none] μ _ _ _ _;unfold zZd;refine zp (zab (zKg (zk ?_)));refine zp (zkg (zue (zb (zc rfl (zk ⟨_,rfl,by omega,by omega,?_⟩)))));rw[yJ];have hlt:=h.lt;refine zpc (λi J ν=>∃(O:List Nat)(x:Option D),J=[some (.loc l),some (.int (m:Nat)),some (.loc μ.length),x]/\O.Nodup/\O.length=i/\(∀k,k∈O↔k<i)/\KB [l] μ ν/\tO ns ν l (B+i)/\ν[μ.length]?=some (.lst (nat O))) ⟨[],_,rfl,by simp,rfl,by simp,KB.refl.app,h.app,zt⟩ (λ_ _ _ _=>rfl) ?_ ?_
 ·rintro i x J ν hx ⟨O,y,rfl,nd,hl,hm',k,p,g⟩;obtain⟨hi,rfl⟩:=zOg hx;refine z4d ?_;unfold zpg;refine zdi (zTg (zc rfl ⟨_,_,rfl,g,?_⟩));refine zb (zi (zb (zc rfl (zb (zl (zc rfl (w_c (zsf (zk ?_)))))))));refine zjf p (by omega) (by omega) (by omega) λv ν2 a b k2 e2 p2=>zb (zc rfl (zk ?_));have g2:=k2.at_ _ _ (by simp;omega) g;refine⟨.non,_,by simp only[zJj,g2];rw[decide_eq_true (by rw[length_map];omega),cond_true],?_⟩;rw[ztv];refine⟨z4o O v.toNat i,_,rfl,zsu nd λh=>(by have:=(hm' i).mp h;omega),by rw[zTo,hl],λk'=>?_,(k.trans k2).set (.inr (yj _)),p2.set (by omega),zN g2⟩;rw[z9s,hm' k'];omega
 ·rintro J ν ⟨O,y,rfl,nd,hl,hm',k,p,g⟩;simp only[length_map,length_range]at hl hm' p;exact zub (zc rfl (q O _ ν nd hl hm' k p (yj _) g))
def zmf(O R:List Nat):List Nat:=(yi R.length).map λj=>R.getD (O.idxOf j) 0
def zQc(O:List Nat)(K:List (List Nat)):List (List Nat):=(yi K.length).map λj=>K.getD (O.idxOf j) []
def zhc(O:List Nat)(K:List (List Nat)):List (List Nat):=K.map λk=>k.map λh=>O.getD h 0
def zsh(w:Wb L R K)(hL:L<=1000)(o:Ord O R.length)(ho:μ[ol]?=some (.lst (nat O)))(q:∀μ',tw μ μ'->Q (wn (zmf O R) (zhc O K)) μ'):WF zKc [wn R K,.loc ol] μ Q:=by
 have hkl:=w.kl;have hrl:=w.rl;refine zzb rfl ?_;show WS zmd [some (wn R K),some (.loc ol),none] μ _ _ _ _;unfold zmd;refine zp (zab (zrk (zTe (zl (zc rfl (w_c (zae (.inl ⟨_,rfl,zLb (by rw[length_map];omega),?_⟩))))))));refine zyf tn K (λk=>tn (k.map λh=>O.getD h 0)) (λ_ _=>rfl) (λk hk μ' kp=>?_) (λμ' kp=>?_)
 ·obtain⟨hk3,hkn⟩:=w.kn k hk;refine z4d ?_;unfold zEf;refine zi (zb (zrk (zTe (zc rfl (.inl ⟨_,rfl,zLb (by rw[length_map];omega),?_⟩)))));refine zyf (λ(h:Nat)=>D.int h) k (λh =>.int (O.getD h 0:Nat)) (λ_ _=>rfl) (λh hh μ2 k2=>?_) (λμ2 k2=>?_)
  ·refine z4d ?_;unfold zCf;exact zl (zc rfl (zc rfl (z5c (zq (k2 _ _ (kp _ _ ho))) (z0c (by rw[o.len];exact hkn h hh)) ⟨rfl,k2,k2⟩)))
  ·refine zk (zOf (zq zt) ⟨?_,kp.trans k2.to,kp⟩);show D.tup _=D.tup (nat _);rw[zMh]
 have k1:tw μ (μ'++[tD.lst (K.map λk=>tn (k.map λh=>O.getD h 0))]):=kp.to
 have g1:(μ'++[tD.lst (K.map λk=>tn (k.map λh=>O.getD h 0))])[μ'.length]?=some (.lst ((zhc O K).map tn)):=by
  rw[zt];unfold zhc;rw[map_map];rfl
 generalize μ'++[tD.lst (K.map λk=>tn (k.map λh=>O.getD h 0))]=μ1 at k1 g1;generalize μ'.length=kl at g1;refine zub (zxg (zb (zi (zb (zi (zb (zl (zc rfl (w_c (zCg (zb (zc rfl (zk ?_)))))))))))));refine zRj (xs:=nat R) (by rw[length_map];exact o) (by rw[length_map];omega) (.inl rfl) (k1 _ _ ho) λl μ2 k2 hl g2=>zk (zOf (zq g2) ?_);refine zb (zi (zb (zc rfl (zk (zOf (zq (k2 _ _ g1)) (zk ?_))))));have e:zCd O (nat R)=nat (zmf O R):=zfg o (λ(n:Nat)=>D.int n) 0;rw[e];exact q _ (k1.trans k2)
def zBi(w:Wb L R K)(hL:L<=1000)(o:Ord O K.length)(ho:μ[ol]?=some (.lst (nat O)))(q:∀μ',tw μ μ'->Q (wn R (zQc O K)) μ'):WF zad [wn R K,.loc ol] μ Q:=by
 have hkl:=w.kl;refine zzb rfl ?_;show WS zSd [some (wn R K),some (.loc ol)] μ _ _ _ _;unfold zSd;refine zub (zxg (zb (zl (zc rfl (w_c (zCg (zb (zi (zb (zi (zb (zl (zc rfl (w_c (zae (zb (zc rfl (zk ?_))))))))))))))))));refine zRj (xs:=K.map tn) (by rw[length_map];exact o) (by rw[length_map];omega) (.inl rfl) ho λl μ2 k2 hl g2=>zk (zOf (zq g2) (zk ?_));have e:zCd O (K.map tn)=(zQc O K).map tn:=zfg o tn [];rw[e];exact q _ k2
def zet(h:μ[n]?=some (.lst (nat S)))(hk:k∈S)(q:Q (.int (S.idxOf k:Nat)) μ):WM zbl (.loc n) [.int (k:Nat)] μ Q:=by
 have hf:(nat S).findIdx? (λy=>eqF y (.int (k:Nat)))=some (S.idxOf k):=by
  rw[List.findIdx?_map,List.findIdx?_eq_some_iff_getElem];have hi:=List.idxOf_lt_length_iff.mpr hk;refine⟨hi,?_,λj hj=>?_⟩
  ·show eqF (.int _) (.int _)=true;rw[List.getElem_idxOf hi];show(((k:Nat):Int)==((k:Nat):Int))=true;exact beq_self_eq_true _
  ·intro he;have he:(((S[j]'(by omega):Nat):Int)==((k:Nat):Int))=true:=he;have he:=beq_iff_eq.mp he;have:=List.not_of_lt_findIdx (p:=(· == k)) (xs:=S) (i:=j) hj
   have e9:(S[j]'(by omega)==k)=true:=by
    rw[beq_iff_eq];omega
   rw[e9]at this;cases this
 exact⟨_,_,by simp only[zbl,h];rw[zOi S];show(bif true&&true then _ else _)=_;rw[Bool.and_self,cond_true,hf,yp],q⟩
def zAe(O:List Nat)(x:Option Nat):Option Nat:=x.map λh=>O.getD h 0
def zjn{x:Option Nat}(hx:∀h,x=some h->h<O.length)(ho:μ[ol]?=some (.lst (nat O)))(q:Q (onD (zAe O x)) μ):WF zie [onD x,.loc ol] μ Q:=by
 refine zzb rfl ?_;show WS zhe [some (onD x),some (.loc ol)] μ _ _ _ _;unfold zhe
 cases x with
 |none=>exact zp (zog (z2l (zJ (zl (zc rfl (w_c (zCw rfl ⟨_,rfl,λh=>(by cases h),λ_=>⟨λ_=>zub (zc rfl q),λh=>(by cases h)⟩⟩)))))))
 |some h=>
  have hh:=hx h rfl;refine zp (zog (z2l (zJ (zl (zc rfl (w_c (zCw rfl ⟨_,rfl,λ_=>?_,λh=>(by cases h)⟩)))))));refine z2l (zJ (zl (zc rfl (w_c (z0l ⟨_,rfl,λ_=>?_,λhb=>?_⟩)))))
  case refine_2=>
   have:=of_decide_eq_true hb;omega
  refine zJ (zl (zc rfl (zi (zb (zc rfl (zk (zQd (zq ho) (z0l ⟨_,rfl,λhb=>?_,λ_=>zpb ?_⟩))))))))
  ·have:=of_decide_eq_true hb;rw[length_map]at this;omega
  exact zub (zl (zc rfl (zc rfl (z5c (zq ho) (z0c hh) q))))
def zrf(hl:lay.length<=1000)(hx:∀h,some h∈lay->h<O.length)(hn:μ[n]?=some (.lst (lay.map onD)))(ho:μ[ol]?=some (.lst (nat O)))(q:∀(l:Nat)(μ':Mem),tw μ μ'->μ.length<=l->μ'[l]?=some (.lst ((lay.map (zAe O)).map onD))->Q (.loc l) μ'):WF zmb [.loc n,.loc ol] μ Q:=by
 refine zzb rfl ?_;show WS z7b [some (.loc n),some (.loc ol)] μ _ _ _ _;unfold z7b;refine zub (zrk (zTe (zc rfl (.inr (.inr ⟨n,_,rfl,hn,zLb (by rw[length_map];omega),?_⟩)))));refine zyf onD lay (λx=>onD (zAe O x)) (λμ' k=>znb hn k) (λx hxm μ' kp=>?_) (λμ' kp=>?_)
 ·refine z4d ?_;unfold zDd;refine zi (zb (zc rfl (zb (zc rfl (zk ?_)))));exact zjn (λh e=>hx h (by rw[<-e];exact hxm)) (kp _ _ ho) ⟨rfl,kp,kp⟩
 ·refine q _ _ kp.to kp.len ?_;rw[zt,map_map];rfl
def zLh(O S:List Nat):List Nat:=(yi O.length).filter λj=>decide (O.idxOf j∈S)
def z4e(o:Ord O n)(hS:S.Sublist (yi n)):(zLh O S).Perm (S.map λk=>O.getD k 0):=by
 have hlt:∀k∈S,k<n:=λk hk=>by simpa using hS.subset hk
 have nd1:(zLh O S).Nodup:=List.nodup_range.sublist filter_sublist
 have nd2:(S.map λk=>O.getD k 0).Nodup:=by
  rw[List.Nodup,pairwise_map];refine xB ?_ (List.nodup_range.sublist hS);intro a b ha hb hne he;have e1:=o.tV (hlt a ha);have e2:=o.tV (hlt b hb);rw[he,e2]at e1;exact hne e1.symm
 refine(perm_ext_iff_of_nodup nd1 nd2).mpr λj=>?_;unfold zLh;rw[mem_filter,mem_range,decide_eq_true_iff,mem_map,o.len];constructor
 ·rintro⟨h1,h2⟩;exact⟨_,h2,o.tL h1⟩
 ·rintro⟨k,hk,rfl⟩;exact⟨o.lt (hlt k hk),by rw[o.tV (hlt k hk)];exact hk⟩
def zVb{sl:Nat}(o:Ord O n)(hn:n<=60)(hS:S.Sublist (yi n))(hs:μ[sl]?=some (.lst (nat S)))(ho:μ[ol]?=some (.lst (nat O)))(q:∀(l:Nat)(μ':Mem),tw μ μ'->μ.length<=l->μ'[l]?=some (.lst (nat (zLh O S)))->Q (.loc l) μ'):WF zX [.loc sl,.loc ol] μ Q:=by
 have hSl:S.length<=n:=by simpa using hS.length_le
 refine zzb rfl ?_;show WS z5d [some (.loc sl),some (.loc ol)] μ _ _ _ _;unfold z5d;refine zub (zi (zb (zrk (zTe (zc rfl (.inr (.inr ⟨sl,_,rfl,hs,zLb (by rw[length_map];omega),?_⟩)))))));refine zyf (λ(k:Nat)=>D.int k) S (λk =>.int (O.getD k 0:Nat)) (λμ' k=>znb hs k) (λk hk μ' kp=>?_) (λμ' kp=>?_)
 ·refine z4d ?_;unfold zqg;have hkn:k<n:=by simpa using hS.subset hk
  exact zl (zc rfl (zc rfl (z5c (zq (kp _ _ ho)) (z0c (by rw[o.len];exact hkn)) ⟨rfl,kp,kp⟩)))
 ·refine zk (zwu (S:=S.map λk=>O.getD k 0) (T:=zLh O S) (by rw[zt,zMh]) (z4e o hS) (List.pairwise_lt_range.filter _) (by rw[length_map];omega) ?_);exact q _ _ kp.to.to (by have:=kp.len;simp;omega) zt
def zGo{kvs:List (Int×D)}(h:μ[n]?=some (.dct kvs)):zdc μ (.loc n)=some kvs:=by simp only[zdc,h]
def zox{G ψ:FE}{J:M.Loc}(h:WE G J (μ++[.dct []]) λx μ1=>WE ψ J μ1 λy μ2=>∃i,x=.int i/\μ2[μ.length]?=some (.dct [])/\Q (.loc μ.length) (μ2.set μ.length (.dct [(i,y)]))):WE (zex G ψ) J μ Q:=by
 obtain⟨x,μ1,e1,y,μ2,e2,i,rfl,e3,q⟩:=h;exact⟨_,_,by simp only[zex,e1,e2,e3,yp],q⟩
def dkB(N:List Nat):List (Int×D):=N.map λ(h:Nat)=>((h:Int),D.bl true)
def zbu(N:List Nat)(h:Nat):List Nat:=if h∈N then N else N++[h]
def zUu(nd:N.Nodup):(zbu N h).Nodup:=by
 unfold zbu
 split
 ·exact nd
 ·rename_i hn
  rw[nodup_append];refine⟨nd,by simp,λa ha b hb=>?_⟩;rw[List.mem_singleton.mp hb];rintro rfl;exact hn ha
def ziv(N:List Nat)(h:Nat):z3p (dkB N) (h:Int) (.bl true)=dkB (zbu N h):=by
 have ha:((dkB N).any λp=>decide (p.1=(h:Int)))=decide (h∈N):=by
  refine ztd ?_;unfold dkB;rw[any_map,any_eq_true];simp only[xP,decide_eq_true_iff];constructor
  ·rintro⟨p,hp,e⟩;have:p=h:=by omega
   subst this;exact hp
  ·intro hm;exact⟨h,hm,rfl⟩
 unfold z3p zbu;rw[ha]
 by_cases hm:h∈N
 ·rw[decide_eq_true hm,if_pos rfl,if_pos hm];unfold dkB;rw[map_map];refine map_congr_left λp _=>?_;simp only[xP]
  split<;>rfl
 ·rw[decide_eq_false hm,if_neg yv,if_neg hm];simp[dkB]
def zso:(zkd (dkB N) (h:Int)).isSome=decide (h∈N):=by
 refine ztd ?_;unfold zkd dkB;rw[Option.isSome_map,List.find?_isSome];constructor
 ·rintro⟨p,hp,e⟩;obtain⟨k,hk,rfl⟩:=List.mem_map.mp hp;have e:=of_decide_eq_true e;have:k=h:=by omega
  rw[<-this];exact hk
 ·intro hm;exact⟨_,List.mem_map.mpr ⟨h,hm,rfl⟩,decide_eq_true rfl⟩
inductive Jn(K:List (List Nat))(a:Nat):Nat->Prop
 |refl:Jn K a a
 |step {b c:Nat}:Jn K a b->(∃k∈K,b∈k/\c∈k)->Jn K a c
def Jn.trans{c:Nat}(h1:Jn K a b)(h2:Jn K b c):Jn K a c:=by
 induction h2 with
 |refl=>exact h1
 |step _ e ih=>exact .step ih e
def Jn.symm(h:Jn K a b):Jn K b a:=by
 induction h with
 |refl=>exact .refl
 |step _ e ih=>
  obtain⟨k,hk,h1,h2⟩:=e;exact Jn.trans (.step .refl ⟨k,hk,h2,h1⟩) ih
def jnB(K:List (List Nat))(a b:Nat):Bool:=@decide (Jn K a b) (xH _)
def zKj:jnB K a b=true↔Jn K a b:=@decide_eq_true_iff _ (xH _)
def zsb(n:Nat)(K:List (List Nat))(a:Nat):List Nat:=(yi n).filter λb=>jnB K a b
def tX:b∈zsb n K a↔b<n/\Jn K a b:=by
 unfold zsb;rw[mem_filter,mem_range,zKj]
def zYs(n:Nat)(K:List (List Nat))(a:Nat):(zsb n K a).Pairwise (· < ·):=List.pairwise_lt_range.filter _
def zNu{a b:List Nat}(na:a.Nodup)(nb:b.Nodup)(h:∀x,x∈a↔x∈b):a.Perm b:=(perm_ext_iff_of_nodup na nb).mpr h
def zss(h:μ[n]?=some (.dct (dkB S)))(hp:T.Perm S)(hT:T.Pairwise (· < ·))(hl:S.length<64)(q:Q (.loc μ.length) (μ++[.lst (nat T)])):WF zom [.loc n] μ Q:=by
 have e0:(dkB S).map (·.1)=S.map λ(k:Nat)=>(k:Int):=by unfold dkB;rw[map_map];rfl
 have e2:nat T=(T.map λ(k:Nat)=>(k:Int)).map D.int:=by rw[map_map];rfl
 have e3:zuk (S.map λ(k:Nat)=>(k:Int))=T.map λ(k:Nat)=>(k:Int):=by
  refine zUc ((mergeSort_perm _ _).trans (hp.symm.map _)) (zRh _) ?_;rw[pairwise_map];exact hT.imp λh=>by omega
 have e4:(dkB S).length<64:=by unfold dkB;rw[length_map];exact hl
 refine⟨_,_,?_,q⟩;simp only[zom,zGo h,yp];rw[decide_eq_true e4,cond_true,e0,e3,<-e2]
structure Jw(n:Nat)(K:List (List Nat))(a:Nat)(S T:List Nat):Prop where
 nd:S.Nodup
 lt:∀s∈S,s<n
 jn:∀s∈S,Jn K a s
 one:a∈S
 sub:∀t∈T,t∈S
def Jw.len(j:Jw n K a S T):S.length<=n:=by
 simpa using zxd (m:=yi n) j.nd λs hs=>List.mem_range.mpr (j.lt s hs)
def Cl(K:List (List Nat))(S:List Nat)(s:Nat):Prop:=∀c,(∃k∈K,s∈k/\c∈k)->c∈S
def zDq(w:Wb L R K)(hL:L<=60)(hn:nest<R.length)(q:∀(l:Nat)(μ':Mem),tw μ μ'->μ.length<=l->μ'[l]?=some (.lst (nat (zsb R.length K nest)))->Q (.loc l) μ'):WF zZe [wn R K,.int (nest:Nat)] μ Q:=by
 have hkl:=w.kl;have hrl:=w.rl;refine zzb rfl ?_;show WS zgf [some (wn R K),some (.int (nest:Nat)),none,none,none,none,none] μ _ _ _ _;unfold zgf;refine zp (zab (zox (zc rfl (w_c ⟨_,rfl,zt,?_⟩))));have gA0:((μ++[tD.dct []]).set μ.length (.dct [((nest:Nat),D.bl true)]))[μ.length]?=some (.dct (dkB [nest])):=zN zt;have kA0:KB [] μ ((μ++[tD.dct []]).set μ.length (.dct [((nest:Nat),D.bl true)])):=KB.refl.app.set (.inr (yj _));generalize (μ++[tD.dct []]).set μ.length (.dct [((nest:Nat),D.bl true)])=μ1 at gA0 kA0;generalize hA:μ.length=A at gA0;have hA1:=zC gA0;refine zp (zab (zKg (zb (zc rfl (zk ?_)))));have gA1:(μ1++[tD.lst [D.int (nest:Nat)]])[A]?=some (.dct (dkB [nest])):=zB gA0;have gB1:(μ1++[tD.lst [D.int (nest:Nat)]])[μ1.length]?=some (.lst (nat [nest])):=zt;have k1:KB [] μ (μ1++[tD.lst [D.int (nest:Nat)]]):=kA0.app;have hAB:A≠μ1.length:=by omega
 have hB:A<=μ1.length:=by omega
 generalize μ1++[tD.lst [D.int (nest:Nat)]]=μ2 at gA1 gB1 k1;generalize μ1.length=B at gB1 hAB hB;clear gA0 kA0 hA1;refine zp ?_
 refine ztj (n:=100000) (m:=2*(R.length-1)+1) (λm J ν=>∃(S T:List Nat)(x y z:Option D),J=[some (wn R K),some (.int (nest:Nat)),some (.loc A),some (.loc B),x,y,z]/\m=2*(R.length-S.length)+T.length/\m<=100/\Jw R.length K nest S T/\(∀s∈S,s∉T->Cl K S s)/\KB [] μ ν/\ν[A]?=some (.dct (dkB S))/\ν[B]?=some (.lst (nat T))) (by omega)
  ⟨[nest],[nest],_,_,_,rfl,rfl,by omega,⟨by simp,λs hs=>by rw[List.mem_singleton.mp hs];exact hn,λs hs=>by rw[List.mem_singleton.mp hs];exact .refl,by simp,λt ht=>ht⟩,λs hs hno=>absurd hs hno,k1,gA1,gB1⟩ ?_
 rintro m J ν ⟨S,T,x,y,z,rfl,rfl,h100,jw,cl,kν,gA,gB⟩;refine zJ (zl (zc rfl (zKg (zk (zHu T [] (zB gB) zt ⟨_,rfl,λhT=>?_,λhT=>?_⟩)))))
 ·have hT:T≠[]:=by simpa using hT
  obtain⟨T',h,rfl⟩:∃T' h,T=T'++[h]:=⟨T.dropLast,T.getLast hT,(List.dropLast_concat_getLast hT).symm⟩
  have gA2:(ν++[tD.lst []])[A]?=some (.dct (dkB S)):=zB gA;have gB2:(ν++[tD.lst []])[B]?=some (.lst (nat T'++[.int (h:Nat)])):=by rw[zB gB,zXc];rfl
  have k2:KB [] μ (ν++[tD.lst []]):=kν.app;show WS zPe _ _ _ _ _ _;generalize ν++[tD.lst []]=ν2 at gA2 gB2 k2;unfold zPe;refine zp (zab (zwv (zc rfl ⟨_,_,rfl,gB2,zpx gB2 ?_⟩)));have hhS:h∈S:=jw.sub h (by simp);have hlen:=jw.len;refine zkg (zTe (zl (zc rfl (w_c (zae (.inl ⟨_,rfl,?_⟩))))))
  refine zpc (λi J ν=>∃(S1 T1:List Nat)(y z:Option D),J=[some (wn R K),some (.int (nest:Nat)),some (.loc A),some (.loc B),some (.int (h:Nat)),y,z]/\2*(R.length-S1.length)+T1.length+1<=2*(R.length-S.length)+(T'++[h]).length/\Jw R.length K nest S1 T1/\h∈S1/\(∀s∈S1,s∉T1->s≠h->Cl K S1 s)/\(∀k∈K.take i,h∈k->∀c∈k,c∈S1)/\KB [] μ ν/\ν[A]?=some (.dct (dkB S1))/\ν[B]?=some (.lst (nat T1)))
   ⟨S,T',_,_,rfl,by rw[length_append];exact yj _,⟨jw.nd,jw.lt,jw.jn,jw.one,λt ht=>jw.sub t (mem_append_left _ ht)⟩,hhS,λs hs hno hne=>cl s hs λhm=>by
    rcases List.mem_append.mp hm with hm|hm
    ·exact hno hm
    ·exact hne (List.mem_singleton.mp hm),by simp,k2.set (.inr (by omega)),zS gA2 (Yv hAB),zN gB2⟩ (λ_ _ _ _=>rfl) ?_ ?_
  ·rintro i z0 J ν3 hz ⟨S1,T1,y,z,rfl,hm,j1,hh1,cl1,pr1,k3,gA3,gB3⟩;rw[yh]at hz
   cases er:K[i]? with
   |none=>rw[er]at hz;cases hz
   |some ks=>
    rw[er]at hz;cases hz;have hks:=mem_of_getElem? er;have hkn:=(w.kn ks hks).2;have htk:K.take (i+1)=K.take i++[ks]:=by rw[take_succ,er];rfl
    refine z4d ?_;unfold zCh;refine zkg (zTe (zc rfl (.inl ⟨_,rfl,?_⟩)))
    refine zpc (λj J ν=>∃(S1 T1:List Nat)(z:Option D),J=[some (wn R K),some (.int (nest:Nat)),some (.loc A),some (.loc B),some (.int (h:Nat)),some (tn ks),z]/\2*(R.length-S1.length)+T1.length+1<=2*(R.length-S.length)+(T'++[h]).length/\Jw R.length K nest S1 T1/\h∈S1/\(∀s∈S1,s∉T1->s≠h->Cl K S1 s)/\(∀k∈K.take i,h∈k->∀c∈k,c∈S1)/\(h∈ks->∀c∈ks.take j,c∈S1)/\KB [] μ ν/\ν[A]?=some (.dct (dkB S1))/\ν[B]?=some (.lst (nat T1)))
     ⟨S1,T1,_,rfl,hm,j1,hh1,cl1,pr1,by simp,k3,gA3,gB3⟩ (λ_ _ _ _=>rfl) ?_ ?_
    ·rintro j z0 J ν4 hz ⟨S2,T2,z,rfl,hm,j2,hh2,cl2,pr2,ps2,k4,gA4,gB4⟩;rw[yh]at hz
     cases ej:ks[j]? with
     |none=>rw[ej]at hz;cases hz
     |some o=>
      rw[ej]at hz;cases hz;have hom:=mem_of_getElem? ej;have hoR:=hkn o hom;have htj:ks.take (j+1)=ks.take j++[o]:=by rw[take_succ,ej];rfl
      have hl2:=j2.len;refine z4d ?_;unfold zSg;refine zog (zar (zJ (zl (zc rfl (zc rfl (zDv (S:=ks) rfl ⟨_,rfl,λhin=>?_,λhin=>⟨λh=>(by cases h),λ_=>zpb ?_⟩⟩))))))
      ·have hin:h∈ks:=of_decide_eq_true hin;refine zJ (zl (zc rfl (zc rfl (zOo (zGo gA4) ⟨_,rfl,λho=>?_,λho=>zpb ?_⟩))))
       ·rw[zso]at ho;have ho:o∉S2:=by simpa using ho
        refine zp (zlk (w_c (zzq (zc rfl (zc rfl ⟨_,_,_,rfl,rfl,gA4,by unfold dkB;rw[length_map];omega,?_⟩)))));rw[ziv];have eS:zbu S2 o=S2++[o]:=by unfold zbu;rw[if_neg ho]
        have gB5:(ν4.set A (.dct (dkB (zbu S2 o))))[B]?=some (.lst (nat T2)):=zS gB4 hAB;have gA5:(ν4.set A (.dct (dkB (zbu S2 o))))[A]?=some (.dct (dkB (S2++[o]))):=by rw[zN gA4,eS]
        have hT2:T2.length<=1000000:=by omega
        refine zdi (zTg (zc rfl ⟨_,_,rfl,gB5,zb (zc rfl (zk (zQi gB5 (by rw[length_map];exact hT2) ?_)))⟩));have nd':(S2++[o]).Nodup:=eS▸zUu j2.nd
        have j3:Jw R.length K nest (S2++[o]) (T2++[o]):=by
         refine⟨nd',λs hs=>?_,λs hs=>?_,mem_append_left _ j2.one,λt ht=>?_⟩
         ·rcases List.mem_append.mp hs with hs|hs
          ·exact j2.lt s hs
          ·rw[List.mem_singleton.mp hs];exact hoR
         ·rcases List.mem_append.mp hs with hs|hs
          ·exact j2.jn s hs
          ·rw[List.mem_singleton.mp hs];exact .step (j2.jn h hh2) ⟨ks,hks,hin,hom⟩
         ·rcases List.mem_append.mp ht with ht|ht
          ·exact mem_append_left _ (j2.sub t ht)
          ·exact mem_append_right _ ht
        have hl3:=j3.len;refine⟨S2++[o],T2++[o],_,rfl,?_,j3,mem_append_left _ hh2,λs hs hno hne=>?_,λk hk hhk c hc=>mem_append_left _ (pr2 k hk hhk c hc),λ_ c hc=>?_,(k4.set (.inr (by omega))).set (.inr (by omega)),zS gA5 (Yv hAB),by rw[zN gB5,zXc];rfl⟩
        ·rw[length_append]at hl3 ⊢;rw[length_append];simp only[length_singleton]at hl3 ⊢;simp only[length_append,length_singleton]at hm ⊢;omega
        ·rcases List.mem_append.mp hs with hs|hs
         ·intro c hc;exact mem_append_left _ (cl2 s hs (λht=>hno (mem_append_left _ ht)) hne c hc)
         ·exact absurd (mem_append_right _ hs) hno
        ·rw[htj]at hc;rcases List.mem_append.mp hc with hc|hc
         ·exact mem_append_left _ (ps2 hin c hc)
         ·exact mem_append_right _ hc
       ·rw[zso]at ho;have ho:o∈S2:=by simpa using ho
        refine⟨S2,T2,_,rfl,hm,j2,hh2,cl2,pr2,λ_ c hc=>?_,k4,gA4,gB4⟩;rw[htj]at hc;rcases List.mem_append.mp hc with hc|hc
        ·exact ps2 hin c hc
        ·rw[List.mem_singleton.mp hc];exact ho
      ·have hin:h∉ks:=of_decide_eq_false hin;exact⟨S2,T2,_,rfl,hm,j2,hh2,cl2,pr2,λh'=>absurd h' hin,k4,gA4,gB4⟩
    ·rintro J ν4 ⟨S2,T2,z,rfl,hm,j2,hh2,cl2,pr2,ps2,k4,gA4,gB4⟩;rw[length_map,take_length]at ps2;refine⟨S2,T2,_,_,rfl,hm,j2,hh2,cl2,λk hk hhk c hc=>?_,k4,gA4,gB4⟩;rw[htk]at hk;rcases List.mem_append.mp hk with hk|hk
     ·exact pr2 k hk hhk c hc
     ·rw[List.mem_singleton.mp hk]at hhk hc;exact ps2 hhk c hc
  ·rintro J ν3 ⟨S1,T1,y,z,rfl,hm,j1,hh1,cl1,pr1,k3,gA3,gB3⟩;rw[length_map,take_length]at pr1;refine⟨_,by omega,S1,T1,_,_,_,rfl,rfl,by omega,j1,λs hs hno=>?_,k3,gA3,gB3⟩
   by_cases hsh:s=h
   ·subst hsh;rintro c ⟨k,hk,h1,h2⟩;exact pr1 k hk h1 c h2
   ·exact cl1 s hs hno hsh
 ·have hT:T=[]:=by simpa using hT
  subst hT
  have hin:∀{b},Jn K nest b->b∈S:=λ{b} h=>by
   induction h with
   |refl=>exact jw.one
   |step hb e ih=>exact cl _ ih (by simp) _ e
  have hall:∀b,b∈zsb R.length K nest↔b∈S:=λb=>by
   rw[tX];constructor
   ·exact λh=>hin h.2
   ·exact λh=>⟨jw.lt b h,jw.jn b h⟩
  have hlen:=jw.len;refine zub (zi (zb (zc rfl (zk (zss (zB gA) (zNu (List.nodup_range.filter _) jw.nd hall) (zYs _ _ _) (by omega) ?_)))));have kk:tw μ ((ν++[tD.lst []])++[tD.lst (nat (zsb R.length K nest))]):=λa o e=>zB (zB (kν.at_ _ _ (by simp) e));refine q _ _ kk ?_ zt;have:=kν.len;simp;omega
def zxf(n:Nat)(K:List (List Nat))(a:Nat):List Nat:=(yi K.length).filter λk=>decide ((K.getD k []).getD 0 0∈zsb n K a)
def z7u(h:0<ks.length)(q:Q (.int (ks.getD 0 0:Nat)) μ):W2 gIx (tn ks) (.int 0) μ Q:=z5c rfl (z0c h) q
def zks(w:Wb L R K)(hL:L<=60)(hn:nest<R.length)(q:∀(a b:Nat)(μ':Mem),tw μ μ'->μ.length<=a->a<b->μ'[a]?=some (.lst (nat (zsb R.length K nest)))->μ'[b]?=some (.lst (nat (zxf R.length K nest)))->Q (.tup [.loc a,.loc b]) μ'):WF zgh [wn R K,.int (nest:Nat)] μ Q:=by
 have hkl:=w.kl;refine zzb rfl ?_;show WS zfh [some (wn R K),some (.int (nest:Nat)),none] μ _ _ _ _;unfold zfh;refine zp (zab (zi (zb (zc rfl (zb (zc rfl (zk ?_)))))));refine zDq w hL hn λa μ1 k1 ha ga=>?_;refine zub (zxg (zb (zc rfl (zb (zrk (znf (zl (zc rfl (w_c (zae (.inl ⟨_,rfl,?_⟩)))))))))));rw[zGb tn K []];refine⟨zLb (by simp;omega),?_⟩;refine zLf (λ(k:Nat)=>D.tup [.int k,tn (K.getD k [])]) (yi K.length) (λ(k:Nat)=>D.int k) (λk=>decide ((K.getD k []).getD 0 0∈zsb R.length K nest)) (λ_ _=>rfl) (λk hk μ2 k2=>?_) (λμ2 k2=>?_)
 ·have hk:k<K.length:=List.mem_range.mp hk;refine zIl (zne (z4d (zne (z4d (znk ?_)))));unfold zcj zpj;exact zJ (zl (zl (zc rfl (w_c (z7u (by have:=(w.key hk).1;omega) (zc rfl (zDv (zq (k2 _ _ ga)) ⟨_,rfl,rfl,k2,λ_=>zc rfl ⟨rfl,k2⟩⟩)))))))
 ·refine zk (q a μ2.length _ (k1.trans k2.to) ha ?_ (zB (k2 _ _ ga)) zt);exact zC (k2 _ _ ga)
def ss(μ:Mem)(lo:Nat)(n:Nat)(K:List (List Nat))(l:Nat)(P:List Nat):Prop:=∃xs:List (Nat×Nat),μ[l]?=some (.lst (xs.map λp=>D.tup [.loc p.1,.loc p.2]))/\xs.length=P.length/\lo<=l/\∀(i:Nat)(p:Nat×Nat)(a:Nat),xs[i]?=some p->P[i]?=some a->lo<=p.1/\lo<=p.2/\p.1≠l/\p.2≠l/\μ[p.1]?=some (.lst (nat (zsb n K a)))/\μ[p.2]?=some (.lst (nat (zxf n K a)))
def zrb(n:Nat)(K:List (List Nat)):List Nat:=(yi n).filter λa=>decide ((zsb n K a).getD 0 0=a)
def zsl(h:a<n):0<(zsb n K a).length:=List.length_pos_of_mem (tX.mpr ⟨h,.refl⟩)
def zop(w:Wb L R K)(hL:L<=60)(q:∀(l:Nat)(μ':Mem),tw μ μ'->ss μ' μ.length R.length K l (zrb R.length K)->Q (.loc l) μ'):WF zck [wn R K] μ Q:=by
 have hkl:=w.kl;have hrl:=w.rl;refine zzb rfl ?_;show WS zKl [some (wn R K),none] μ _ _ _ _;unfold zKl;refine zp (zab (zrk (zue (zb (zi (zb (zl (zc rfl (w_c (zCg (zk (zQd rfl (zk ⟨_,rfl,by omega,?_,zLb ?_,?_⟩)))))))))))))
 ·rw[length_map];omega
 ·simp;omega
 rw[yJ,length_map];refine z5h (λi ys μ'=>tw μ μ'/\∃xs:List (Nat×Nat),ys=xs.map (λp=>D.tup [.loc p.1,.loc p.2])/\xs.length=i/\∀(j:Nat)(p:Nat×Nat),xs[j]?=some p->μ.length<=p.1/\μ.length<=p.2/\μ'[p.1]?=some (.lst (nat (zsb R.length K j)))/\μ'[p.2]?=some (.lst (nat (zxf R.length K j)))) ⟨.refl,[],rfl,rfl,by simp⟩ (λ_ _ _ _=>rfl) ?_ ?_
 ·rintro i x ys μ1 hx ⟨k1,xs,rfl,hl,hxs⟩;obtain⟨hi,rfl⟩:=zOg hx;refine z4d (zTr ⟨λ_=>?_,λhf=>(by cases hf)⟩);unfold zcn;refine zi (zb (zc rfl (zb (zc rfl (zk ?_)))));refine zks w hL hi λa b μ2 k2 ha hab ga gb=>⟨k1.trans k2,xs++[(a,b)],by rw[map_append];rfl,by simp[hl],λj p hj=>?_⟩
  have hm1:=k1.len
  by_cases hjl:j<xs.length
  ·rw[yw hjl]at hj;obtain⟨h1,h2,h3,h4⟩:=hxs j p hj;exact⟨h1,h2,k2 _ _ h3,k2 _ _ h4⟩
  ·have hj2:=(List.getElem?_eq_some_iff.mp hj).1;rw[length_append,length_singleton]at hj2;have ej:j=xs.length:=by omega
   subst ej;rw[yL (yj _),Nat.sub_self]at hj;cases hj;rw[hl];exact⟨by show μ.length<=a;omega,by show μ.length<=b;omega,ga,gb⟩
 rintro ys μ1 ⟨k1,xs,rfl,hl,hxs⟩;simp only[length_map,length_range]at hl;have hm1:=k1.len;have g1:(μ1++[tD.lst (xs.map λp=>D.tup [.loc p.1,.loc p.2])])[μ1.length]?=some (.lst (xs.map λp=>D.tup [.loc p.1,.loc p.2])):=zt;have k2:tw μ1 (μ1++[tD.lst (xs.map λp=>D.tup [.loc p.1,.loc p.2])]) :=.app;generalize hM:μ1++[tD.lst (xs.map λp=>D.tup [.loc p.1,.loc p.2])]=M2 at g1 k2;refine zub (zrk (znf (zc rfl (.inr (.inr ⟨μ1.length,_,rfl,g1,?_⟩)))));rw[zGb (λ(p:Nat×Nat)=>D.tup [.loc p.1,.loc p.2]) xs (0,0),hl];refine⟨zLb (by simp;omega),?_⟩;refine zLf (λ(k:Nat)=>D.tup [.int k,D.tup [.loc (xs.getD k (0,0)).1,.loc (xs.getD k (0,0)).2]]) (yi R.length) (λ(k:Nat)=>D.tup [.loc (xs.getD k (0,0)).1,.loc (xs.getD k (0,0)).2]) (λa=>decide ((zsb R.length K a).getD 0 0=a)) (λμ' k=>znb g1 k) (λk hk μ3 k3=>?_) (λμ3 k3=>?_)
 ·have hk:k<R.length:=List.mem_range.mp hk;obtain⟨h1,h2,h3,h4⟩:=hxs k (xs.getD k (0,0)) (by rw[getD_eq_getElem?_getD,yd (by omega)];rfl);refine zIl (zne (z4d (zne (z4d (znk ?_)))));unfold znm zvm;exact zJ (zl (zl (zl (zc rfl (w_c (z5c rfl rfl (w_c (z5c (zq (k3 _ _ (k2 _ _ h3))) (z0c (i:=0) (zsl hk)) (zc rfl (zsr (α:=Nat) ((zsb R.length K k).getD 0 0) k ⟨_,rfl,rfl,k3,λ_=>zc rfl ⟨rfl,k3⟩⟩))))))))))
 ·refine q _ _ (k1.trans (k2.trans k3.to)) ⟨(zrb R.length K).map λk=>xs.getD k (0,0),by rw[zt,map_map];rfl,by simp,by have:=k2.len;have:=k3.len;omega,λi p a e1 e2=>?_⟩;rw[yh,e2]at e1;cases e1
  have ha:a<R.length:=by
   have:=mem_of_getElem? e2;unfold zrb at this;exact List.mem_range.mp (List.mem_filter.mp this).1
  obtain⟨h1,h2,h3,h4⟩:=hxs a (xs.getD a (0,0)) (by rw[getD_eq_getElem?_getD,yd (by omega)];rfl);have g3:=k3 _ _ (k2 _ _ h3);have g4:=k3 _ _ (k2 _ _ h4);exact⟨h1,h2,yt (zC g3),yt (zC g4),zB g3,zB g4⟩
def zoq(N k:List Nat):Bool:=k.any λh=>!decide (h∈N)
def zhi(R:List Nat)(K:List (List Nat))(N:List Nat):Nat:=zml R N+(K.filter (zoq N)).length
def zni{α:Type}(l:List α)(d:α)(p:α->Bool):(l.filter p).length=((yi l.length).filter λk=>p (l.getD k d)).length:=by
 have e:l=(yi l.length).map λk=>l.getD k d:=by
  refine ext_getElem? λi=>?_
  by_cases h:i<l.length
  ·simp[h]
  ·simp[h]
 conv=>lhs;rw[e,List.filter_map,length_map]
 rfl
def z5r{k:List Nat}(hk:k.length<=1000)(hn:μ[n]?=some (.lst (nat N)))(q:∀μ',tw μ μ'->Q (.bl (zoq N k)) μ'):WF z5b [tn k,.loc n] μ Q:=by
 refine zzb rfl ?_;show WS zac [some (tn k),some (.loc n)] μ _ _ _ _;unfold zac;refine zub (zi (zb (zrk (zTe (zc rfl (.inl ⟨_,rfl,zLb (by rw[length_map];omega),?_⟩))))));refine zyf (λ(h:Nat)=>D.int h) k (λh =>.bl (!decide (h∈N))) (λ_ _=>rfl) (λh hh μ' kp=>?_) (λμ' kp=>?_)
 ·refine z4d ?_;unfold zHd;exact zl (zc rfl (zc rfl (z6l (zq (kp _ _ hn)) ⟨rfl,kp,kp⟩)))
 ·refine zk (zux (bs:=k.map λh=>!decide (h∈N)) (by rw[zt,map_map];rfl) ?_);rw[any_map];exact q _ kp.to
def z1o(w:Wb L R K)(hL:L<=1000)(hN:∀h∈N,h<R.length)(hl:N.length<=1000)(hn:μ[n]?=some (.lst (nat N)))(q:∀μ',tw μ μ'->Q (.int (zhi R K N:Nat)) μ'):WF zQj [wn R K,.loc n] μ Q:=by
 have hkl:=w.kl;refine zzb rfl ?_;show WS zCl [some (wn R K),some (.loc n)] μ _ _ _ _;unfold zCl;refine zub (zl (zi (zb (zc rfl (zb (zc rfl (zk ?_)))))));refine z2g hn hN hl λμ1 k1=>?_;refine zi (zb (zrk (zTe (zl (zc rfl (w_c (zae (.inl ⟨_,rfl,zLb (by rw[length_map];omega),?_⟩))))))));refine zLf tn K tn (zoq N) (λ_ _=>rfl) (λk hk μ' kp=>?_) (λμ' kp=>?_)
 ·refine z4d ?_;unfold zgm zTm;have hk3:=(w.kn k hk).1;refine zJ (zi (zb (zc rfl (zb (zc rfl (zk ?_))))));exact z5r (by omega) (kp _ _ (k1 _ _ hn)) λμ'' k''=>⟨_,rfl,rfl,kp.trans k'',λ_=>zc rfl ⟨rfl,kp.trans k''⟩⟩
 ·refine zk (zQd (zq zt) (zsf ?_))
  have e:((zml R N:Nat):Int)+((((K.filter (zoq N)).map tn).length:Nat):Int)=((zhi R K N:Nat):Int):=by
   rw[length_map];unfold zhi;rw[Int.natCast_add]
  rw[e];exact q _ (k1.trans kp.to)
structure sO(R:List Nat)(K:List (List Nat))(X:List Nat):Prop where
 len:X.length=K.length
 home:∀(i h:Nat)(k:List Nat),X[i]?=some h->K[i]?=some k->h∈k
 room:∀h,X.count h<=R.getD h 0
def zTk(X:List Nat)(h:Nat):(X.map some).count (some h)=X.count h:=by
 induction X with
 |nil=>rfl
 |cons x X ih=>
  rw[map_cons,count_cons,count_cons,ih]
  congr 1
def z7o:∀{lay:List (Option Nat)},(∀k<lay.length,(lay.getD k none).isSome=true)->∃X:List Nat,lay=X.map some
 |[],_=>⟨[],rfl⟩
 |x::lay,h=>by
  obtain⟨X,rfl⟩:=z7o (lay:=lay) λk hk=>by simpa using h (k+1) (by simp;omega)
  have h0:=h 0 (by simp)
  cases x with
  |none=>cases h0
  |some n=>exact⟨n::X,rfl⟩
def zDt(r:tY R K lay)(hall:∀k<K.length,(lay.getD k none).isSome=true):∃X:List Nat,lay.map onD=nat X/\sO R K X:=by
 have hl:=r.len;obtain⟨X,rfl⟩:=z7o (lay:=lay) λk h=>hall k (by omega);refine⟨X,by rw[map_map];rfl,⟨by rw[length_map]at hl;exact hl,λi h k e1 e2=>?_,λh=>?_⟩⟩
 ·have h1:=r.home i h (by rw[yh,e1];rfl);rw[getD_eq_getElem?_getD,e2]at h1;exact h1
 ·have:=r.room h;rw[zTk]at this;exact this
def sO.right{X:List Nat}(a:sO R K X):tY R K (X.map some):=by
 have hl:=a.len;refine⟨by rw[length_map];exact hl,λk h e=>?_,λh=>by rw[zTk];exact a.room h⟩;rw[yh]at e
 cases ex:X[k]? with
 |none=>rw[ex]at e;cases e
 |some h'=>
  rw[ex]at e;cases e;have hk:=(List.getElem?_eq_some_iff.mp ex).1;have ek:K[k]?=some (K.getD k []):=by rw[getD_eq_getElem?_getD,yd (by omega)];rfl
  exact a.home k h _ ex ek
def z3n{X:List Nat}(h:k<X.length):((X.map some).getD k none).isSome=true:=by
 rw[getD_eq_getElem?_getD,yh,yd h];rfl
def sO.fits{X:List Nat}(a:sO R K X):zXm R K:=⟨_,a.right,λk hk=>z3n (by have:=a.len;omega)⟩
structure Ren(O T:List Nat)(R:List Nat)(K:List (List Nat))(R':List Nat)(K':List (List Nat)):Prop where
 o:Ord O R.length
 t:Ord T K.length
 rl:R'.length=R.length
 kl:K'.length=K.length
 room:∀h<R.length,R'.getD (O.getD h 0) 0=R.getD h 0
 home:∀k<K.length,∀h<R.length,h∈K.getD k []↔O.getD h 0∈K'.getD (T.getD k 0) []
 lt:∀k<K.length,∀h∈K.getD k [],h<R.length
 lt':∀k<K.length,∀h∈K'.getD k [],h<R.length
def Ord.inj(o:Ord O n)(hi:i<n)(hj:j<n)(e:O.getD i 0=O.getD j 0):i=j:=by
 have:=o.tV hi;rw[e,o.tV hj]at this;exact this.symm
def Ren.inv{R:List Nat}{K:List (List Nat)}(r:Ren O T R K R' K'):Ren (zug O) (zug T) R' K' R K:=by
 have o:=r.o;have t:=r.t;refine⟨by rw[r.rl];exact o.inv,by rw[r.kl];exact t.inv,r.rl.symm,r.kl.symm,λh hh=>?_,λk hk h hh=>?_,λk hk h hh=>?_,λk hk h hh=>?_⟩
 ·rw[r.rl]at hh;have:=r.room _ (o.tT hh);rw[o.tL hh]at this;rw[zBg o hh];exact this.symm
 ·rw[r.rl]at hh;rw[r.kl]at hk;have:=r.home _ (t.tT hk) _ (o.tT hh);rw[o.tL hh,t.tL hk]at this;rw[zBg o hh,zBg t hk];exact this.symm
 ·rw[r.rl];exact r.lt' k (by rw[<-r.kl];exact hk) h hh
 ·rw[r.rl];exact r.lt k (by rw[<-r.kl];exact hk) h hh
def zhn{f:Nat->Nat}{h:Nat}:∀{X:List Nat},(∀x∈X,f x=f h->x=h)->(X.map f).count (f h)=X.count h
 |[],_=>rfl
 |x::X,k=>by
  rw[map_cons,count_cons,count_cons,zhn λy hy=>k y (mem_cons_of_mem _ hy)]
  congr 1
  by_cases z:x=h
  ·rw[z,if_pos (beq_self_eq_true _),if_pos (beq_self_eq_true _)]
  ·rw[if_neg (by rw[beq_iff_eq];exact λe=>z (k x mem_cons_self e)),if_neg (by rw[beq_iff_eq];exact z)]
def zfm{X:List Nat}(t:Ord T X.length):((yi X.length).map λj=>X.getD (T.idxOf j) 0).Perm X:=by
 have e1:((yi X.length).map λj=>X.getD (T.idxOf j) 0)=(zug T).map λi=>X.getD i 0:=by
  unfold zug;rw[map_map,t.len];rfl
 have e2:X=(yi X.length).map λi=>X.getD i 0:=by
  refine ext_getElem (by simp) λi h1 h2=>?_;simp[yd h1]
 have hp:(zug T).Perm (yi X.length):=(perm_ext_iff_of_nodup t.inv.nd nodup_range).mpr λk=>by rw[t.inv.mem,mem_range]
 rw[e1];exact(hp.map _).trans (List.Perm.of_eq e2.symm)
def Ren.to{R:List Nat}{K:List (List Nat)}(r:Ren O T R K R' K')(f:zXm R K):zXm R' K':=by
 obtain⟨lay,rl,hall⟩:=f;obtain⟨X,_,a⟩:=zDt rl hall;have o:=r.o;have t:=r.t;have hXl:=a.len
 have hX:∀k,k<K.length->X.getD k 0∈K.getD k []:=λk hk=>by
  have e1:X[k]?=some (X.getD k 0):=by rw[getD_eq_getElem?_getD,yd (by omega)];rfl
  have e2:K[k]?=some (K.getD k []):=by rw[getD_eq_getElem?_getD,yd hk];rfl
  exact a.home k _ _ e1 e2
 have hXr:∀x∈X,x<R.length:=λx hx=>by
  obtain⟨i,hi,rfl⟩:=List.mem_iff_getElem.mp hx;have:=r.lt i (by omega) _ (hX i (by omega));rw[getD_eq_getElem?_getD,yd hi]at this;exact this
 have hp:=zfm (T:=T) (X:=X) (by rw[hXl];exact t);obtain⟨σ,hY⟩:∃σ,σ=(yi X.length).map λj=>X.getD (T.idxOf j) 0:=⟨_,rfl⟩
 rw[<-hY]at hp
 have hYg:∀j h,σ[j]?=some h->j<K.length/\h=X.getD (T.idxOf j) 0:=λj h e=>by
  rw[hY,yh]at e
  cases er:(yi X.length)[j]? with
  |none=>rw[er]at e;cases e
  |some i=>
   rw[er]at e;cases e;have hj:=(List.getElem?_eq_some_iff.mp er).1;rw[length_range]at hj;rw[yZ hj]at er;cases er;exact⟨by omega,rfl⟩
 refine sO.fits (X:=σ.map λh=>O.getD h 0) ⟨by rw[length_map,hp.length_eq,hXl,r.kl],λi h k e1 e2=>?_,λh=>?_⟩
 ·rw[yh]at e1
  cases ey:σ[i]? with
  |none=>rw[ey]at e1;cases e1
  |some y=>
   rw[ey]at e1;cases e1;obtain⟨hi,rfl⟩:=hYg i y ey;have hti:=t.tT hi;have h1:=hX _ hti;have h2:=(r.home _ hti _ (r.lt _ hti _ h1)).mp h1;rw[t.tL hi,getD_eq_getElem?_getD (l:=K'),e2]at h2;exact h2
 ·by_cases hm:h∈σ.map λh=>O.getD h 0
  ·obtain⟨y,hy,rfl⟩:=List.mem_map.mp hm;have hyr:=hXr y (hp.mem_iff.mp hy);rw[zhn (f:=λh=>O.getD h 0) λx hx e=>o.inj (hXr x (hp.mem_iff.mp hx)) hyr e,hp.count_eq,r.room y hyr];exact a.room y
  ·rw[List.count_eq_zero.mpr hm];exact yR _
def Ren.fits{R:List Nat}{K:List (List Nat)}(r:Ren O T R K R' K'):zXm R' K'↔zXm R K:=⟨r.inv.to,r.to⟩
section
variable {O T R R' S N:List Nat}{K K':List (List Nat)}
def zIf(o:Ord O n):j∈zLh O S↔j<n/\O.idxOf j∈S:=by
 unfold zLh;rw[mem_filter,mem_range,o.len,decide_eq_true_iff]
def Ren.near(r:Ren O T R K R' K')(hS:∀k∈S,k<K.length):zFd R'.length K' (zLh T S)=zLh O (zFd R.length K S):=by
 unfold zFd;show _=(yi O.length).filter _;rw[r.rl,r.o.len];refine filter_congr λj hj=>decide_eq_decide.mpr ?_;have hj:=List.mem_range.mp hj;have hi:=r.o.tT hj;rw[mem_filter,mem_range,decide_eq_true_iff];constructor
 ·rintro⟨k',hk',hh⟩;obtain⟨h1,h2⟩:=(zIf r.t).mp hk';refine⟨hi,T.idxOf k',h2,?_⟩;rw[r.home _ (hS _ h2) _ hi,r.t.tL h1,r.o.tL hj];exact hh
 ·rintro⟨_,k,hk,hh⟩;have hkl:=hS k hk;refine⟨T.getD k 0,(zIf r.t).mpr ⟨r.t.lt hkl,by rw[r.t.tV hkl];exact hk⟩,?_⟩;have:=(r.home k hkl _ hi).mp hh;rw[r.o.tL hj]at this;exact this
def Ren.rooms(r:Ren O T R K R' K')(hN:N.Sublist (yi R.length)):zml R' (zLh O N)=zml R N:=by
 have p:=z4e r.o hN;unfold zml;rw[((p.map λh=>R'.getD h 0).sum_nat),map_map]
 congr 1
 refine map_congr_left λh hh=>?_;exact r.room h (List.mem_range.mp (hN.subset hh))
def Ren.crowd(r:Ren O T R K R' K')(hS:S.Sublist (yi K.length)):zKd R' K' (zLh T S)=zKd R K S:=by
 unfold zKd;rw[r.near λk hk=>List.mem_range.mp (hS.subset hk),r.rooms (N:=zFd R.length K S) filter_sublist,(z4e r.t hS).length_eq,length_map]
variable {lay:List (Option Nat)}
def zuf(O T:List Nat)(lay:List (Option Nat)):List (Option Nat):=(yi lay.length).map λj=>zAe O (lay.getD (T.idxOf j) none)
def zVl(t:Ord T n)(hl:lay.length=n)(hk:k<n):(zuf O T lay).getD (T.getD k 0) none=zAe O (lay.getD k none):=by
 unfold zuf;have h1:=t.lt hk;rw[getD_eq_getElem?_getD,yh,yZ (by omega)];show zAe O (lay.getD (T.idxOf (T.getD k 0)) none)=_;rw[t.tV hk]
def zAh(t:Ord T n)(hl:lay.length=n):(zuf O T lay).Perm (lay.map (zAe O)):=by
 have h1:((yi n).map λj=>T.idxOf j).Perm (yi n):=by
  have:=t.inv;refine(perm_ext_iff_of_nodup ?_ nodup_range).mpr λx=>?_
  ·have e:zug T=(yi n).map λj=>T.idxOf j:=by unfold zug;rw[t.len]
   rw[<-e];exact this.nd
  ·have e:zug T=(yi n).map λj=>T.idxOf j:=by unfold zug;rw[t.len]
   rw[<-e,this.mem x,mem_range]
 have h2:(zuf O T lay)=(((yi n).map λj=>T.idxOf j).map λi=>zAe O (lay.getD i none)):=by
  unfold zuf;rw[map_map,hl];rfl
 have h3:lay.map (zAe O)=(yi n).map λi=>zAe O (lay.getD i none):=by
  refine ext_getElem? λi=>?_;rw[yh,yh]
  by_cases hi:i<n
  ·rw[yZ hi,yd (by omega)];simp[getD_eq_getElem?_getD,yd (show i<lay.length by omega)]
  ·rw[yK (by omega),yK (by simp;omega)];rfl
 rw[h2,h3];exact h1.map _
def zxk(o:Ord O m)(t:Ord T n)(hl:lay.length=n)(hh:h<m)(hx:∀x,some x∈lay->x<m):(zuf O T lay).count (some (O.getD h 0))=lay.count (some h):=by
 rw[(zAh t hl).count_eq];clear hl t
 induction lay with
 |nil=>rfl
 |cons a lay ih=>
  have ih:=ih λx hx'=>hx x (.tail _ hx');rw[map_cons,count_cons,count_cons,ih]
  congr 1
  have:(zAe O a==some (O.getD h 0))=(a==some h):=by
   apply Bool.eq_iff_iff.mpr;rw[beq_iff_eq,beq_iff_eq]
   cases a with
   |none=>simp[zAe]
   |some x=>
    have hxm:=hx x (.head _);simp only[zAe,xr,xX];exact⟨λe=>o.inj hxm hh e,λe=>by rw[e]⟩
  rw[this]
variable {L:Nat}
def ztm(hk:k<K.length):(zhc O K).getD k []=(K.getD k []).map λh=>O.getD h 0:=by
 unfold zhc;rw[getD_eq_getElem?_getD,yh,yd hk,getD_eq_getElem?_getD,yd hk];rfl
def zLk{X:List (List Nat)}(t:Ord T X.length)(hk:k<X.length):(zQc T X).getD (T.getD k 0) []=X.getD k []:=by
 unfold zQc;rw[getD_eq_getElem?_getD,yh,yZ (t.lt hk)];show X.getD (T.idxOf (T.getD k 0)) []=_;rw[t.tV hk]
def zDw(w:Wb L R K)(o:Ord O R.length)(t:Ord T K.length):Ren O T R K (zmf O R) (zQc T (zhc O K)):=by
 have hnl:(zhc O K).length=K.length:=by unfold zhc;simp
 have t':Ord T (zhc O K).length:=by rw[hnl];exact t
 refine⟨o,t,by unfold zmf;simp,by unfold zQc;simp[hnl],λh hh=>?_,λk hk h hh=>?_,λk hk h hh=>(w.key hk).2 h hh,λk hk h hh=>?_⟩
 ·unfold zmf;rw[getD_eq_getElem?_getD,yh,yZ (o.lt hh)];show R.getD (O.idxOf (O.getD h 0)) 0=_;rw[o.tV hh]
 ·rw[zLk t' (by rw[hnl];exact hk),ztm hk];constructor
  ·intro hm;exact List.mem_map.mpr ⟨h,hm,rfl⟩
  ·intro hm;obtain⟨x,hx,e⟩:=List.mem_map.mp hm;have:=o.inj ((w.key hk).2 x hx) hh e;rw[<-this];exact hx
 ·have e:k=T.getD (T.idxOf k) 0:=(t.tL hk).symm;have hi:=t.tT hk;rw[e,zLk t' (by rw[hnl];exact hi),ztm hi]at hh;obtain⟨x,hx,rfl⟩:=List.mem_map.mp hh;exact o.lt ((w.key hi).2 x hx)
def zHq{k:List Nat}:zoq N k=true↔∃h∈k,h∉N:=by
 unfold zoq;simp
def Ren.bey(r:Ren O T R K R' K'){k:Nat}(hk:k<K.length):zoq (zLh O N) (K'.getD (T.getD k 0) [])=zoq N (K.getD k []):=by
 apply Bool.eq_iff_iff.mpr;rw[zHq,zHq];constructor
 ·rintro⟨h',hh,hn⟩;have hlt:h'<R.length:=r.lt' _ (r.t.lt hk) h' hh;have hi:=r.o.tT hlt;refine⟨O.idxOf h',?_,λhm=>hn ((zIf r.o).mpr ⟨hlt,hm⟩)⟩;rw[r.home k hk _ hi,r.o.tL hlt];exact hh
 ·rintro⟨h,hh,hn⟩;have hlt:=r.lt k hk h hh;refine⟨O.getD h 0,(r.home k hk h hlt).mp hh,λhm=>?_⟩;have:=((zIf r.o).mp hm).2;rw[r.o.tV hlt]at this;exact hn this
def Ren.bound(r:Ren O T R K R' K')(hN:N.Sublist (yi R.length)):zhi R' K' (zLh O N)=zhi R K N:=by
 unfold zhi;rw[r.rooms hN,zni K' [] (zoq (zLh O N)),zni K [] (zoq N)]
 congr 1
 have e:((yi K'.length).filter λk=>zoq (zLh O N) (K'.getD k []))=zLh T ((yi K.length).filter λk=>zoq N (K.getD k [])):=by
  show _=(yi T.length).filter _;rw[r.kl,r.t.len];refine filter_congr λj hj=>?_;have hj:=List.mem_range.mp hj;have hi:=r.t.tT hj;have:=r.bey (N:=N) hi;rw[r.t.tL hj]at this;rw[this];apply Bool.eq_iff_iff.mpr;rw[decide_eq_true_iff,mem_filter,mem_range];exact⟨λh=>⟨hi,h⟩,λh=>h.2⟩
 rw[e,(z4e r.t filter_sublist).length_eq,length_map]
def Ren.right(r:Ren O T R K R' K')(hx:∀x,some x∈lay->x<R.length)(h:tY R K lay):tY R' K' (zuf O T lay) where
 len:=by unfold zuf;rw[length_map,length_range,h.len,r.kl]
 home:=λk' h' e=>by
  have hk':k'<K.length:=by
   have:=(List.getElem?_eq_some_iff.mp e).1;unfold zuf at this;rw[length_map,length_range,h.len]at this;exact this
  have hi:=r.t.tT hk';have e2:=zVl (O:=O) r.t h.len hi;rw[r.t.tL hk',getD_eq_getElem?_getD,e]at e2
  cases hl:lay.getD (T.idxOf k') none with
  |none=>rw[hl]at e2;cases e2
  |some x=>
   rw[hl]at e2;cases e2
   have hxk:lay[T.idxOf k']?=some (some x):=by
    rw[getD_eq_getElem?_getD,yd (by rw[h.len];exact hi)]at hl;rw[yd (by rw[h.len];exact hi)];exact congrArg some hl
   have hm:=h.home _ _ hxk;have:=(r.home _ hi x (r.lt _ hi x hm)).mp hm;rw[r.t.tL hk']at this;exact this
 room:=λh'=>by
  by_cases hlt:h'<R.length
  ·have hi:=r.o.tT hlt;have:=zxk r.o r.t h.len hi hx;rw[r.o.tL hlt]at this;rw[this];have hr:=r.room _ hi;rw[r.o.tL hlt]at hr;rw[hr];exact h.room _
  ·have:(zuf O T lay).count (some h')=0:=List.count_eq_zero.mpr λhm=>by
    have hm:=(zAh r.t h.len).mem_iff.mp hm;obtain⟨a,ha,e⟩:=List.mem_map.mp hm
    cases a with
    |none=>cases e
    |some x=>
     cases e;exact hlt (r.o.lt (hx x ha))
   omega
def Ren.jn1(r:Ren O T R K R' K'){a b:Nat}(h:Jn K a b)(ha:a<R.length):b<R.length/\Jn K' (O.getD a 0) (O.getD b 0):=by
 induction h with
 |refl=>exact⟨ha,.refl⟩
 |@step b c _ e ih=>
  obtain⟨k,hk,h1,h2⟩:=e;obtain⟨i,hi⟩:=List.mem_iff_getElem?.mp hk;have hlt:=(List.getElem?_eq_some_iff.mp hi).1;have hg:K.getD i []=k:=by rw[getD_eq_getElem?_getD,hi];rfl
  rw[<-hg]at h1 h2;have hb:=r.lt i hlt b h1;have hc:=r.lt i hlt c h2;have hT:T.getD i 0<K'.length:=by rw[r.kl];exact r.t.lt hlt
  have hm:K'.getD (T.getD i 0) []∈K':=by
   rw[getD_eq_getElem?_getD,yd hT];exact getElem_mem hT
  exact⟨hc,.step ih.2 ⟨_,hm,(r.home i hlt b hb).mp h1,(r.home i hlt c hc).mp h2⟩⟩
def Ren.jn(r:Ren O T R K R' K'){a b:Nat}(ha:a<R.length)(hb:b<R.length):Jn K' (O.getD a 0) (O.getD b 0)↔Jn K a b:=by
 refine⟨λh=>?_,λh=>(r.jn1 h ha).2⟩;have:=(r.inv.jn1 h (by rw[r.rl];exact r.o.lt ha)).2;rw[zBg r.o (r.o.lt ha),zBg r.o (r.o.lt hb),r.o.tV ha,r.o.tV hb]at this;exact this
def Ren.comp(r:Ren O T R K R' K'){a:Nat}(ha:a<R.length):zsb R'.length K' (O.getD a 0)=zLh O (zsb R.length K a):=by
 unfold zsb;show _=(yi O.length).filter _;rw[r.rl,r.o.len];refine filter_congr λj hj=>?_;have hj:=List.mem_range.mp hj;have hi:=r.o.tT hj;apply Bool.eq_iff_iff.mpr;rw[zKj,decide_eq_true_iff,mem_filter,mem_range,zKj];have:=r.jn ha hi;rw[r.o.tL hj]at this;rw[this];exact⟨λh=>⟨hi,h⟩,λh=>h.2⟩
def zlt(hk:k<K.length)(h0:0<(K.getD k []).length)(hlt:∀x∈K.getD k [],x<n)(hm:h∈K.getD k []):(K.getD k []).getD 0 0∈zsb n K a↔h∈zsb n K a:=by
 have h1:(K.getD k []).getD 0 0∈K.getD k []:=by
  rw[getD_eq_getElem?_getD (l:=K.getD k []),yd h0];exact getElem_mem h0
 have hkK:K.getD k []∈K:=by
  rw[getD_eq_getElem?_getD,yd hk];exact getElem_mem hk
 rw[tX,tX];constructor
 ·rintro⟨_,h2⟩;exact⟨hlt h hm,.step h2 ⟨_,hkK,h1,hm⟩⟩
 ·rintro⟨_,h2⟩;exact⟨hlt _ h1,.step h2 ⟨_,hkK,hm,h1⟩⟩
def Ren.keys(r:Ren O T R K R' K')(hp:∀k<K.length,0<(K.getD k []).length)(hp':∀k<K'.length,0<(K'.getD k []).length){a:Nat}(ha:a<R.length):zxf R'.length K' (O.getD a 0)=zLh T (zxf R.length K a):=by
 unfold zxf;show _=(yi T.length).filter _;rw[r.kl,r.t.len];refine filter_congr λj hj=>?_;have hj:=List.mem_range.mp hj;have hi:=r.t.tT hj;apply Bool.eq_iff_iff.mpr;rw[decide_eq_true_iff,decide_eq_true_iff,mem_filter,mem_range,decide_eq_true_iff];have h0:=hp _ hi
 have hm:(K.getD (T.idxOf j) []).getD 0 0∈K.getD (T.idxOf j) []:=by
  rw[getD_eq_getElem?_getD (l:=K.getD (T.idxOf j) []),yd h0];exact getElem_mem h0
 have hx:=r.lt _ hi _ hm;have hm':=(r.home _ hi _ hx).mp hm;rw[r.t.tL hj]at hm';have hjk:j<K'.length:=by rw[r.kl];exact hj
 rw[zlt (n:=R'.length) (a:=O.getD a 0) hjk (hp' j hjk) (λx hx=>by rw[r.rl];exact r.lt' j hj x hx) hm',r.comp ha,zIf r.o,r.o.tV hx];exact⟨λh=>⟨hi,h.2⟩,λh=>⟨r.o.lt hx,h.2⟩⟩
def Ren.laid(r:Ren O T R K R' K')(hl:lay.length=K.length):zvp (zuf O T lay)=zLh T (zvp lay):=by
 have hll:(zuf O T lay).length=K.length:=by unfold zuf;rw[length_map,length_range,hl]
 unfold zvp;show _=(yi T.length).filter _;rw[hll,r.t.len];refine filter_congr λj hj=>?_;have hj:=List.mem_range.mp hj;have hi:=r.t.tT hj;have e:=zVl (O:=O) r.t hl hi;rw[r.t.tL hj]at e;apply Bool.eq_iff_iff.mpr;rw[decide_eq_true_iff,mem_filter,mem_range,hl,e];cases lay.getD (T.idxOf j) none<;>simp[zAe,hi]
def Ren.left(r:Ren O T R K R' K')(hl:lay.length=K.length)(hx:∀x,some x∈lay->x<R.length){h:Nat}(hh:h<R.length):(zmj R' (zuf O T lay)).getD (O.getD h 0) 0=(zmj R lay).getD h 0:=by
 have g:∀(X:List Nat)(ly:List (Option Nat)) (i:Nat),i<X.length->(zmj X ly).getD i 0=(X.getD i 0:Int)-(ly.count (some i):Nat):=λX ly i hi=>by
  unfold zmj;rw[getD_eq_getElem?_getD,yh,yZ hi];rfl
 rw[g R' _ _ (by rw[r.rl];exact r.o.lt hh),g R _ _ hh,r.room h hh,zxk r.o r.t hl hh hx]
end
def zqu{hs:List Int}(h:μ[n]?=some (.lst xs))(hh:xs.mapM (zMm μ)=some hs)(hl:xs.length<64)(nd:hs.Nodup)(q:Q (.loc μ.length) (μ++[.lst (zLj xs hs)])):WF zkl [.loc n] μ Q :=
 ⟨_,_,by simp only[zkl,h,hh,yp,decide_eq_true (show xs.length<64/\hs.Nodup from⟨hl,nd⟩),cond_true],q⟩
def zou{x:Nat}(h:μ[a]?=some (.lst (nat (x::S)))):zMm μ (.tup [.loc a,.loc b])=some ((x:Nat):Int):=by
 have e:nat (x::S)=D.int ((x:Nat):Int)::(S.map λ(k:Nat)=>(k:Int)).map D.int:=by
  rw[map_map];rfl
 rw[e]at h;simp only[zMm,h,zWg,xr]
section
variable {n:Nat}{K:List (List Nat)}
def zEl(h:Jn K a b):zsb n K a=zsb n K b:=by
 unfold zsb;refine filter_congr λx _=>?_;apply Bool.eq_iff_iff.mpr;rw[zKj,zKj];exact⟨λz=>h.symm.trans z,λz=>h.trans z⟩
def zIh(ha:a<n):(zsb n K a).getD 0 0∈zsb n K a:=by
 have h0:=zsl (K:=K) ha;rw[getD_eq_getElem?_getD,yd h0];exact getElem_mem h0
def Tg:a∈zrb n K↔a<n/\(zsb n K a).getD 0 0=a:=by
 unfold zrb;rw[mem_filter,mem_range,decide_eq_true_iff]
def z2k(ha:a<n):(zsb n K a).getD 0 0∈zrb n K:=by
 obtain⟨h1,h2⟩:=tX.mp (zIh (K:=K) ha);exact Tg.mpr ⟨h1,by rw[<-zEl h2]⟩
variable {O T R R':List Nat}{K':List (List Nat)}
def Ren.least(r:Ren O T R K R' K'):((zrb R.length K).map λa=>(zsb R'.length K' (O.getD a 0)).getD 0 0).Perm (zrb R'.length K'):=by
 refine(perm_ext_iff_of_nodup ?_ (List.nodup_range.filter _)).mpr λx=>⟨λhx=>?_,λhx=>?_⟩
 ·rw[List.Nodup,pairwise_map];refine xB (λ{a b} ha hb hab e=>hab ?_) (List.nodup_range.filter (λa=>decide ((zsb R.length K a).getD 0 0=a)));obtain⟨a1,a2⟩:=Tg.mp (show a∈zrb R.length K from ha);obtain⟨b1,b2⟩:=Tg.mp (show b∈zrb R.length K from hb);have ha':O.getD a 0<R'.length:=by rw[r.rl];exact r.o.lt a1
  have hb':O.getD b 0<R'.length:=by rw[r.rl];exact r.o.lt b1
  have j1:=(tX.mp (zIh (K:=K') ha')).2;have j2:=(tX.mp (zIh (K:=K') hb')).2;rw[e]at j1;have:=(r.jn a1 b1).mp (j1.trans j2.symm);rw[<-a2,<-b2,zEl this]
 ·obtain⟨a,ha,rfl⟩:=List.mem_map.mp hx;obtain⟨a1,_⟩:=Tg.mp ha;exact z2k (by rw[r.rl];exact r.o.lt a1)
 ·obtain⟨x1,x2⟩:=Tg.mp hx;have x1':x<R.length:=by rw[<-r.rl];exact x1
  have hb:=r.o.tT x1';have hm:=zIh (K:=K) hb;obtain⟨m1,m2⟩:=tX.mp hm;refine List.mem_map.mpr ⟨_,z2k hb,?_⟩;have j:=(r.jn hb m1).mpr m2;rw[r.o.tL x1']at j;rw[<-zEl j];exact x2
end
def zmr{R:List Nat}{K:List (List Nat)}{tl sl nl:Nat}(w:Wb L R K)(w':Wb L R' K')(hL:L<=60)(r:Ren O T R K R' K')(hS:S.Sublist (yi K.length))(hN:N.Sublist (yi R.length))(ho:μ[ol]?=some (.lst (nat O)))(ht:μ[tl]?=some (.lst (nat T)))(hs:μ[sl]?=some (.lst (nat S)))(hn:μ[nl]?=some (.lst (nat N)))
 (q:∀μ',tw μ μ'->Q (.bl true) μ'):WF z4c [wn R K,wn R' K',.loc ol,.loc tl,.loc sl,.loc nl] μ Q:=by
 have hkl:=w.kl;have hrl:=w.rl;have hSl:S.length<=K.length:=by simpa using hS.length_le
 have hNl:N.length<=R.length:=by simpa using hN.length_le
 have hSm:∀k∈S,k<K.length:=λk hk=>List.mem_range.mp (hS.subset hk);have hNm:∀k∈N,k<R.length:=λk hk=>List.mem_range.mp (hN.subset hk);have hDm:∀k∈zLh T S,k<K'.length:=λk hk=>by rw[r.kl];exact((zIf r.t).mp hk).1
 have hEm:∀k∈zLh O N,k<R'.length:=λk hk=>by rw[r.rl];exact((zIf r.o).mp hk).1
 have hDl:(zLh T S).length<=1000:=by rw[(z4e r.t hS).length_eq,length_map];omega
 have hEl:(zLh O N).length<=1000:=by rw[(z4e r.o hN).length_eq,length_map];omega
 refine zzb rfl ?_;show WS z2c [some (wn R K),some (wn R' K'),some (.loc ol),some (.loc tl),some (.loc sl),some (.loc nl),none,none] μ _ _ _ _;unfold z2c;refine zp (zab (zi (zb (zc rfl (zb (zc rfl (zk (zVb r.t (by omega) hS hs ht λa μ1 k1 _ e1=>?_))))))));refine zp (zab (zi (zb (zc rfl (zb (zc rfl (zk (zVb r.o (by omega) hN (k1 _ _ hn) (k1 _ _ ho) λb μ2 k2 _ e2=>?_))))))));have k02:=k1.trans k2;refine zp (zog (zJ (zl (zi (zb (zc rfl (zb (zc rfl (zk (zgg w' (k2 _ _ e1) hDm hDl λμ3 k3=>zi (zb (zc rfl (zb (zc rfl (zk (zgg w (k3 _ _ (k02 _ _ hs)) hSm (by omega) λμ4 k4=>?_))))))))))))))));rw[r.crowd hS];refine zmv (α:=Bool) _ _ ⟨_,rfl,λhb=>?_,λ_=>zpb ?_⟩
 ·simp at hb
 have k24:=k3.trans k4;refine zp (zog (zJ (zl (zi (zb (zc rfl (zb (zc rfl (zk (zci w' (k24 _ _ (k2 _ _ e1)) hDm hDl λc μ5 k5 _ e5=>?_))))))))));refine zi (zb (zi (zb (zc rfl (zb (zc rfl (zk (zci w (k5 _ _ (k24 _ _ (k02 _ _ hs))) hSm (by omega) λd μ6 k6 _ e6=>?_))))))));refine zb (zc rfl (zk (zVb (S:=zFd R.length K S) r.o (by omega) filter_sublist e6 (k6 _ _ (k5 _ _ (k24 _ _ (k02 _ _ ho)))) λg μ7 k7 _ e7=>?_)));refine zHu (α:=Nat) _ _ (k7 _ _ (k6 _ _ e5)) e7 ⟨_,rfl,λhb=>?_,λ_=>zpb ?_⟩
 ·rw[r.near hSm]at hb;simp at hb
 have k07:=(k02.trans k24).trans (k5.trans (k6.trans k7));have e2':=(k24.trans (k5.trans (k6.trans k7))) _ _ e2;refine zub (zpt (zl (zi (zb (zc rfl (zb (zc rfl (zk (z2g e2' hEm hEl λμ8 k8=>?_)))))))));refine zi (zb (zc rfl (zb (zc rfl (zk (z2g (k8 _ _ (k07 _ _ hn)) hNm (by omega) λμ9 k9=>z9h ⟨_,rfl,λ_=>?_,λhb=>?_⟩))))))
 ·refine zl (zi (zb (zc rfl (zb (zc rfl (zk (z1o w' (by omega) hEm hEl (k9 _ _ (k8 _ _ e2')) λμa ka=>?_)))))));refine zi (zb (zc rfl (zb (zc rfl (zk (z1o w (by omega) hNm (by omega) (ka _ _ (k9 _ _ (k8 _ _ (k07 _ _ hn)))) λμb kb=>z9h ?_))))));rw[r.bound hN];have:(((zhi R K N:Nat):Int)==((zhi R K N:Nat):Int))=true:=by simp
  rw[this];exact q _ (k07.trans (k8.trans (k9.trans (ka.trans kb))))
 ·rw[r.rooms hN]at hb;simp at hb
def pPt(n:Nat)(K:List (List Nat))(a:Nat):Xa:=.tuple [.list ((zsb n K a).map Enc.p),.list ((zxf n K a).map Enc.p)]
def eqvPt{n:Nat}{K:List (List Nat)}:∀P:List Nat,Ys (P.map (pPt n K)) (P.map (pPt n K))=true
 |[]=>by simp[Ys]
 |a::P=>by
  have e:∀X:List Nat,Yu (.list (X.map Enc.p)) (.list (X.map Enc.p))=true:=λX=>by rw[Yu];exact(zIe X X).mpr rfl
  rw[map_cons,Ys,eqvPt P,Bool.and_true];unfold pPt;rw[Yu,Ys,e,Ys,e,Ys];rfl
def zLt(e:μ[n]?=some (.lst (nat S))):toP μ 6 (.loc n)=some (.list (S.map Enc.p)):=by
 show(match μ[n]? with
  |some (.lst ds)=>(ds.mapM (toP μ 5)).bind λps=>some (PyData.list ps)
  |_=>none)=_
 rw[e];show((S.map Enc.d).mapM (toP μ (4+Enc.dep Nat))).bind (λps=>some (PyData.list ps))=_;rw[sM μ 4 S];rfl
def PrA(μ:Mem)(n:Nat)(K:List (List Nat))(l:Nat)(P:List Nat):Prop:=∃xs:List (Nat×Nat),μ[l]?=some (.lst (xs.map λp=>D.tup [.loc p.1,.loc p.2]))/\xs.length=P.length/\∀(i:Nat)(p:Nat×Nat)(a:Nat),xs[i]?=some p->P[i]?=some a->μ[p.1]?=some (.lst (nat (zsb n K a)))/\μ[p.2]?=some (.lst (nat (zxf n K a)))
def PrA.keep{μ μ':Mem}{P:List Nat}(h:PrA μ n K l P)(k:tw μ μ'):PrA μ' n K l P:=by
 obtain⟨xs,e,hl,hx⟩:=h;exact⟨xs,k _ _ e,hl,λi p a e1 e2=>⟨k _ _ (hx i p a e1 e2).1,k _ _ (hx i p a e1 e2).2⟩⟩
def ss.pr{lo:Nat}{P:List Nat}(h:ss μ lo n K l P):PrA μ n K l P:=by
 obtain⟨xs,e,hl,_,hx⟩:=h;exact⟨xs,e,hl,λi p a e1 e2=>(hx i p a e1 e2).2.2.2.2⟩
def mapPt{μ:Mem}{n:Nat}{K:List (List Nat)}:∀(xs:List (Nat×Nat)) (P:List Nat),xs.length=P.length->(∀(i:Nat)(p:Nat×Nat)(a:Nat),xs[i]?=some p->P[i]?=some a->μ[p.1]?=some (.lst (nat (zsb n K a)))/\μ[p.2]?=some (.lst (nat (zxf n K a))))->(xs.map λp=>D.tup [.loc p.1,.loc p.2]).mapM (toP μ 7)=some (P.map (pPt n K))
 |[],[],_,_=>rfl
 |[],_::_,h,_=>by simp at h
 |_::_,[],h,_=>by simp at h
 |p::xs,a::P,h,hx=>by
  obtain⟨h1,h2⟩:=hx 0 p a rfl rfl
  have e:toP μ 7 (.tup [.loc p.1,.loc p.2])=some (pPt n K a):=by
   show(([D.loc p.1,D.loc p.2]).mapM (toP μ 6)).bind (λps=>some (PyData.tuple ps))=_;rw[mapM_cons,mapM_cons,List.mapM_nil,zLt h1,zLt h2];rfl
  rw[map_cons,mapM_cons,e,mapPt xs P (by simpa using h) λi q b e1 e2=>hx (i+1) q b (by simpa using e1) (by simpa using e2)];rfl
def PrA.toP{P:List Nat}(h:PrA μ n K l P):M.toP μ 8 (.loc l)=some (.list (P.map (pPt n K))):=by
 obtain⟨xs,e,hl,hx⟩:=h
 show(match μ[l]? with
  |some (.lst ds)=>(ds.mapM (M.toP μ 7)).bind λps=>some (PyData.list ps)
  |_=>none)=_
 rw[e];show((xs.map λp=>D.tup [.loc p.1,.loc p.2]).mapM (M.toP μ 7)).bind (λps=>some (PyData.list ps))=_;rw[mapPt xs P hl hx];rfl
def zXv{P:List Nat}(ha:PrA μ n K a P)(hb:PrA μ n K b P)(q:Q (.bl true) μ):W2 gEq (.loc a) (.loc b) μ Q :=
 zdx ha.toP hb.toP (by rw[Yu,eqvPt P];exact q)
def ptD(z:Nat×(Nat×Nat)):D:=.tup [.loc z.2.1,.loc z.2.2]
def zDo{μ:Mem}{f:Nat×(Nat×Nat)->Int}:∀ρ:List (Nat×(Nat×Nat)),(∀z∈ρ,zMm μ (ptD z)=some (f z))->(ρ.map ptD).mapM (zMm μ)=some (ρ.map f)
 |[],_=>rfl
 |z::ρ,h=>by
  rw[map_cons,mapM_cons,h z (.head _),zDo ρ λy hy=>h y (.tail _ hy)];rfl
def zlq(h:Nat->Nat)(ρ:List (Nat×(Nat×Nat))):zLj (ρ.map ptD) (ρ.map λz=>((h z.1:Nat):Int))=(ρ.mergeSort λp q=>decide (h p.1<=h q.1)).map ptD:=by
 unfold zLj;rw[List.zip_map',<-List.map_mergeSort (r:=λp q=>decide (h p.1<=h q.1)) (f:=λz=>(ptD z,((h z.1:Nat):Int))) (s:=λp q:D×Int=>decide (p.2<=q.2)),map_map]
 ·rfl
 ·intro a _ b _;exact decide_eq_decide.mpr (by show _↔((h a.1:Nat):Int)<=((h b.1:Nat):Int);omega)
def zJr(h:zsb n K a=zsb n K b):zxf n K a=zxf n K b:=by
 unfold zxf;rw[h]
def Ren.sortPt{R:List Nat}{K:List (List Nat)}(r:Ren O T R K R' K')(hp:∀k<K.length,0<(K.getD k []).length)(hp':∀k<K'.length,0<(K'.getD k []).length)(hR:R.length<=60){l:Nat}{xs:List (Nat×Nat)}(e:μ[l]?=some (.lst (xs.map λp=>D.tup [.loc p.1,.loc p.2])))(hl:xs.length=(zrb R.length K).length)
 (hx:∀(i:Nat)(p:Nat×Nat)(a:Nat),xs[i]?=some p->(zrb R.length K)[i]?=some a->μ[p.1]?=some (.lst (nat (zLh O (zsb R.length K a))))/\μ[p.2]?=some (.lst (nat (zLh T (zxf R.length K a)))))
 (q:∀(l':Nat)(μ':Mem),tw μ μ'->PrA μ' R'.length K' l' (zrb R'.length K')->Q (.loc l') μ'):WF zkl [.loc l] μ Q:=by
 have hpl:(zrb R.length K).length<=R.length:=by unfold zrb;exact yA (List.length_filter_le _ _) (by simp)
 have hpm:∀a∈zrb R.length K,a<R.length:=λa ha=>(Tg.mp ha).1;have hperm:=r.least;obtain⟨h,hh⟩:∃h:Nat->Nat,h=λa=>(zsb R'.length K' (O.getD a 0)).getD 0 0:=⟨_,rfl⟩
 rw[<-hh]at hperm;have hha:∀a,h a=(zsb R'.length K' (O.getD a 0)).getD 0 0:=λa=>by rw[hh]
 generalize zrb R.length K=P at hl hx hpl hpm hperm
 have ex:(P.zip xs).map ptD=xs.map λp=>D.tup [.loc p.1,.loc p.2]:=by
  have:(P.zip xs).map ptD=((P.zip xs).map Prod.snd).map λp=>D.tup [.loc p.1,.loc p.2]:=by rw[map_map];rfl
  rw[this,List.map_snd_zip (by omega)]
 have ep:∀{β:Type} (f:Nat->β),((P.zip xs).map λz=>f z.1)=P.map f:=λf=>by
  have:((P.zip xs).map λz=>f z.1)=((P.zip xs).map Prod.fst).map f:=by rw[map_map];rfl
  rw[this,List.map_fst_zip (by omega)]
 have hz:∀z∈P.zip xs,z.1<R.length/\μ[z.2.1]?=some (.lst (nat (zsb R'.length K' (O.getD z.1 0))))/\μ[z.2.2]?=some (.lst (nat (zxf R'.length K' (O.getD z.1 0)))):=λz hz=>by
  obtain⟨i,hi⟩:=List.mem_iff_getElem?.mp hz;obtain⟨i1,i2⟩:=List.getElem?_zip_eq_some.mp hi;have ha:=hpm _ (mem_of_getElem? i1);obtain⟨h1,h2⟩:=hx i z.2 z.1 i2 i1;rw[r.comp ha,r.keys hp hp' ha];exact⟨ha,h1,h2⟩
 generalize P.zip xs=ρ at ex ep hz
 have hm:(xs.map λp=>D.tup [.loc p.1,.loc p.2]).mapM (zMm μ)=some (ρ.map λz=>((h z.1:Nat):Int)):=by
  rw[<-ex];refine zDo ρ λz hzm=>?_;obtain⟨h1,h2,_⟩:=hz z hzm;have h0:=zsl (K:=K') (show O.getD z.1 0<R'.length by rw[r.rl];exact r.o.lt h1);rw[hha]
  cases ec:zsb R'.length K' (O.getD z.1 0) with
  |nil=>rw[ec]at h0;cases h0
  |cons x S=>
   rw[ec]at h2;exact zou h2
 have hnd:(ρ.map λz=>((h z.1:Nat):Int)).Nodup:=by
  rw[ep λa=>((h a:Nat):Int)];have n1:(P.map h).Nodup:=hperm.nodup_iff.mpr (by unfold zrb;exact List.nodup_range.filter _);rw[List.Nodup,pairwise_map]at n1 ⊢;exact n1.imp λhne e=>hne (by omega)
 refine zqu e hm (by rw[length_map];omega) hnd ?_;rw[<-ex,zlq];have pz:=mergeSort_perm ρ λp q=>decide (h p.1<=h q.1);have oz:=List.pairwise_mergeSort (le:=λp q:Nat×(Nat×Nat)=>decide (h p.1<=h q.1)) (λa b c h1 h2=>by simp at h1 h2 ⊢;omega) (λa b=>by simp;omega) ρ;generalize (ρ.mergeSort λp q=>decide (h p.1<=h q.1))=σ at pz oz
 have ey:(σ.map λz=>h z.1)=zrb R'.length K':=by
  have p1:(σ.map λz=>h z.1).Perm (zrb R'.length K'):=(pz.map λz=>h z.1).trans (by rw[ep h];exact hperm);refine p1.eq_of_pairwise (le:=(·<=·)) (λa b _ _ h3 h4=>by omega) ?_ ?_
  ·rw[pairwise_map];exact oz.imp λh=>by simpa using h
  ·unfold zrb;exact(List.pairwise_lt_range.filter _).imp λh=>YD h
 refine q _ _ .app ⟨σ.map Prod.snd,by rw[zt,map_map];rfl,by rw[<-ey,length_map,length_map],λi p x e1 e2=>?_⟩;rw[<-ey,yh]at e2;rw[yh]at e1
 cases ez:σ[i]? with
 |none=>rw[ez]at e1;cases e1
 |some z=>
  rw[ez]at e1 e2;cases e1;cases e2;obtain⟨h1,h2,h3⟩:=hz z (pz.mem_iff.mp (mem_of_getElem? ez));have hO:O.getD z.1 0<R'.length:=by rw[r.rl];exact r.o.lt h1
  have hc:zsb R'.length K' (h z.1)=zsb R'.length K' (O.getD z.1 0):=by
   rw[hha];exact(zEl (tX.mp (zIh (K:=K') hO)).2).symm
  rw[hc,zJr hc];exact⟨zB h2,zB h3⟩
def zwp(hn:μ[n]?=some (.lst (lay.map onD)))(q:Q (.bl (!decide (none∈lay))) μ):WF zVf [.loc n] μ Q:=by
 refine zzb rfl ?_;show WS zig [some (.loc n)] μ _ _ _ _;unfold zig
 repeat walk_at "w"
 refine zNn (zq hn) rfl (zyg lay) ?_;rw[show(List.any (lay.map onD) λd=>eqF d .non)=decide (none∈lay) from zGw none lay];exact q
def zTq(hn:μ[n]?=some (.lst (lay.map onD)))(hl:lay.length<=1000)(q:∀(l:Nat)(μ':Mem),tw μ μ'->μ.length<=l->μ'[l]?=some (.lst (nat (zvp lay)))->Q (.loc l) μ'):WF zqm [.loc n] μ Q:=by
 refine zzb rfl ?_;show WS zIo [some (.loc n)] μ _ _ _ _;unfold zIo
 repeat walk_at "w"
 refine znf (zc rfl (.inr (.inr ⟨n,_,rfl,hn,zLb (by rw[zFc,length_map];omega),?_⟩)));rw[zGb onD lay none];refine zLf (λ(k:Nat) =>.tup [.int k,onD (lay.getD k none)]) (yi lay.length) (λ(k:Nat)=>D.int k) (λk=>(lay.getD k none).isSome) (λμ' k=>znb hn k) (λk hk μ' kp=>?_) (λμ' kp=>?_)
 ·repeat walk_at "w"
  refine zhh (zFl _) ?_
  repeat walk_at "w"
  refine⟨zvt _,kp,λ_=>?_⟩;unfold zJo;exact zc rfl ⟨rfl,kp⟩
 ·exact q _ _ kp.to kp.len zt
section
variable {L:Nat}{O T R R':List Nat}{K K':List (List Nat)}{lay:List (Option Nat)}
def z2j(hlt:∀k<K.length,∀h∈K.getD k [],h<R.length)(hl:lay.length=K.length):ztk (zcd R K (lay.map onD))=true↔tY R K lay:=by
 refine⟨λe=>?_,λr=>by rw[zDg r];rfl⟩;unfold zcd at e
 cases e1:(yi K.length).find? (zCj K (lay.map onD)) with
 |some k=>rw[e1]at e;cases e
 |none=>
  rw[e1]at e
  cases e2:(yi R.length).find? (z2n R (lay.map onD)) with
  |some h=>rw[e2]at e;cases e
  |none=>
   have hm:∀k h,lay[k]?=some (some h)->h∈K.getD k []:=λk h ek=>by
    have hk:k<K.length:=by rw[<-hl];exact(List.getElem?_eq_some_iff.mp ek).1
    have:=List.find?_eq_none.mp e1 k (List.mem_range.mpr hk);unfold zCj at this;rw[getD_eq_getElem?_getD,yh,ek]at this
    have h2:((nat (K.getD k [])).any λy=>eqF y (.int (h:Nat)))=true:=by
     cases hb:((nat (K.getD k [])).any λy=>eqF y (.int (h:Nat))) with
     |true=>rfl
     |false=>exact absurd (by show(!ztk (D.int (h:Nat)) && !((nat (K.getD k [])).any λy=>eqF y (.int (h:Nat))))=true;rw[hb];rfl) this
    rw[zZl]at h2;exact of_decide_eq_true h2
   refine⟨hl,hm,λh=>?_⟩
   by_cases hh:h<R.length
   ·have:=List.find?_eq_none.mp e2 h (List.mem_range.mpr hh);unfold z2n at this;rw[zdo,decide_eq_true_iff]at this;omega
   ·have:lay.count (some h)=0:=List.count_eq_zero.mpr λhc=>by
     obtain⟨k,hk⟩:=List.mem_iff_getElem?.mp hc;exact hh (hlt k (by rw[<-hl];exact(List.getElem?_eq_some_iff.mp hk).1) h (hm k h hk))
    omega
def zDr(o:Ord O m)(t:Ord T n)(hl:lay.length=n)(hx:∀x,some x∈lay->x<m):zuf (zug O) (zug T) (zuf O T lay)=lay:=by
 have hll:(zuf O T lay).length=n:=by unfold zuf;rw[length_map,length_range,hl]
 have hl2:(zuf (zug O) (zug T) (zuf O T lay)).length=n:=by unfold zuf at hll ⊢;rw[length_map,length_range,hll]
 refine ext_getElem (by rw[hl2,hl]) λk h1 h2=>?_;have hk:k<n:=by rw[<-hl];exact h2
 have e:=zVl (O:=zug O) t.inv hll (t.lt hk);rw[zBg t (t.lt hk),t.tV hk,zVl t hl hk,getD_eq_getElem?_getD,yd h1,getD_eq_getElem?_getD,yd h2]at e;have e:(zuf (zug O) (zug T) (zuf O T lay))[k]=zAe (zug O) (zAe O lay[k]):=e;rw[e]
 cases ex:lay[k] with
 |none=>rfl
 |some x=>
  have hxm:=hx x (by rw[<-ex];exact getElem_mem h2);show some ((zug O).getD (O.getD x 0) 0)=some x;rw[zBg o (o.lt hxm),o.tV hxm]
def zDp(t:Ord T n)(hl:lay.length=n):zCd T ((lay.map (zAe O)).map onD)=(zuf O T lay).map onD:=by
 rw[zfg (xs:=lay.map (zAe O)) (by rw[length_map,hl];exact t) onD none]
 congr 1
 unfold zuf;rw[length_map];refine map_congr_left λj _=>?_;rw[getD_eq_getElem?_getD,yh,getD_eq_getElem?_getD];cases lay[T.idxOf j]?<;>rfl
def z4p(t:Ord T n)(hl:lay.length=n):∃l2:List (Option Nat),zCd T (lay.map onD)=l2.map onD/\l2.length=n/\l2.map (zAe O)=zuf O T lay/\∀x,some x∈l2->some x∈lay:=by
 refine⟨(yi lay.length).map λj=>lay.getD (T.idxOf j) none,zfg (xs:=lay) (by rw[hl];exact t) onD none,by rw[length_map,length_range,hl],by rw[map_map];rfl,λx hx=>?_⟩;obtain⟨j,_,e⟩:=List.mem_map.mp hx;rw[getD_eq_getElem?_getD]at e
 cases eg:lay[T.idxOf j]? with
 |none=>rw[eg]at e;cases e
 |some a=>
  rw[eg]at e;have e:a=some x:=e;rw[<-e];exact mem_of_getElem? eg
def Ren.fault(r:Ren O T R K R' K')(hl:lay.length=K.length)(hx:∀x,some x∈lay->x<R.length):ztk (zcd R' K' ((zuf O T lay).map onD))=ztk (zcd R K (lay.map onD)):=by
 have hll:(zuf O T lay).length=K.length:=by unfold zuf;rw[length_map,length_range,hl]
 apply Bool.eq_iff_iff.mpr;rw[z2j r.lt hl,z2j (by rw[r.kl,r.rl];exact r.lt') (by rw[hll,r.kl])];refine⟨λh=>?_,λh=>r.right hx h⟩
 have hx':∀x,some x∈zuf O T lay->x<R'.length:=λx hm=>by
  obtain⟨a,ha,e⟩:=List.mem_map.mp ((zAh r.t hl).mem_iff.mp hm)
  cases a with
  |none=>cases e
  |some y=>
   cases e;rw[r.rl];exact r.o.lt (hx y ha)
 have:=r.inv.right hx' h;rw[zDr r.o r.t hl hx]at this;exact this
end
def zZm(R:List Nat)(K:List (List Nat))(ds:List D):zcd R K ds=.non\/∃es,zcd R K ds=.tup es:=by
 unfold zcd
 split
 ·exact .inr ⟨_,rfl⟩
 ·split
  ·exact .inr ⟨_,rfl⟩
  ·exact .inl rfl
def zeu(q:Q (.bl (ztk (zcd R K ds))) μ):W2 gIs (zcd R K ds) .non μ Q:=by
 rcases zZm R K ds with e|⟨es,e⟩
 ·rw[e]at q ⊢;exact⟨_,_,rfl,q⟩
 ·rw[e]at q ⊢;exact⟨_,_,rfl,q⟩
def zps(q:Q (.bl (!ztk (zcd R K ds))) μ):W2 zNf (zcd R K ds) .non μ Q:=by
 rcases zZm R K ds with e|⟨es,e⟩
 ·rw[e]at q ⊢;exact⟨_,_,rfl,q⟩
 ·rw[e]at q ⊢;exact⟨_,_,rfl,q⟩
def zNl(o:Ord O n)(hn:n<=1000)(ho:μ[ol]?=some (.lst (nat O)))(q:∀(l:Nat)(μ':Mem),tw μ μ'->μ'[l]?=some (.lst (nat (zug O)))->Q (.loc l) μ'):WF zyc [.loc ol] μ Q:=by
 have hol:=o.len;refine zzb rfl ?_;show WS zce [some (.loc ol)] μ _ _ _ _;unfold zce;refine zub (zrk (zue (zb (zi (zb (zc rfl (zk (zQd (zq ho) (zk ⟨_,rfl,by omega,by rw[length_map];omega,zLb (by simp;omega),?_⟩)))))))));rw[yJ,length_map];refine zyf (λ(k:Nat)=>D.int k) (yi O.length) (λi =>.int (O.idxOf i:Nat)) (λ_ _=>rfl) (λi hi μ2 k2=>?_) (λμ2 k2=>?_)
 ·refine z4d ?_;unfold zlg;exact zTg (zc rfl ⟨_,_,rfl,k2 _ _ ho,zb (zc rfl (zk (zet (k2 _ _ ho) ((o.mem i).mpr (by rw[<-hol];simpa using hi)) ⟨rfl,k2,k2⟩)))⟩)
 ·refine q _ _ k2.to ?_;rw[zt];unfold zug;rw[zMh]
def zMf(t:Ord T xs.length)(hl:xs.length<=1000)(hn:μ[n]?=some (.lst xs))(ho:μ[ol]?=some (.lst (nat T)))(q:∀(l:Nat)(μ':Mem),tw μ μ'->μ.length<=l->μ'[l]?=some (.lst (zCd T xs))->Q (.loc l) μ'):WF zob [.loc n,.loc ol] μ Q:=by
 refine zzb rfl ?_;show WS zmc [some (.loc n),some (.loc ol)] μ _ _ _ _;unfold zmc;exact zub (zi (zb (zc rfl (zb (zc rfl (zk (zRj t hl (.inr ⟨n,rfl,hn⟩) ho q)))))))
def zao{R:List Nat}{K:List (List Nat)}{tl:Nat}(w:Wb L R K)(w':Wb L R' K')(hL:L<=60)(r:Ren O T R K R' K')(hl:lay.length=K.length)(hx:∀x,some x∈lay->x<R.length)(ho:μ[ol]?=some (.lst (nat O)))(ht:μ[tl]?=some (.lst (nat T)))(hn:μ[n]?=some (.lst (lay.map onD)))
 (q:∀μ',tw μ μ'->Q (.bl true) μ'):WF znc [wn R K,wn R' K',.loc ol,.loc tl,.loc n] μ Q:=by
 have hkl:=w.kl;have hrl:=w.rl;have hll:(zuf O T lay).length=K.length:=by unfold zuf;rw[length_map,length_range,hl]
 have hol:=r.o.len;refine zzb rfl ?_;show WS zoc [some (wn R K),some (wn R' K'),some (.loc ol),some (.loc tl),some (.loc n),none,none,none] μ _ _ _ _;unfold zoc;refine zp (zab (zi (zb (zi (zb (zc rfl (zb (zc rfl (zk ?_)))))))));refine zrf (by omega) (λh hm=>by rw[hol];exact hx h hm) hn ho λa μ1 k1 _ e1=>?_;refine zb (zc rfl (zk (zMf (xs:=(lay.map (zAe O)).map onD) (by rw[length_map,length_map,hl];exact r.t) (by rw[length_map,length_map];omega) e1 (k1 _ _ ht) λb μ2 k2 _ e2=>?_)));rw[zDp r.t hl]at e2;have k02:=k1.trans k2;refine zp (zog (zJ (zl (zl (zi (zb (zc rfl (zb (zc rfl (zk (zJg w (zyg lay) (by rw[length_map];exact hl) (k02 _ _ hn) λμ3 k3=>w_c (zeu ?_))))))))))));refine zl (zi (zb (zc rfl (zb (zc rfl (zk (zJg w' (zyg (zuf O T lay)) (by rw[length_map,hll,r.kl]) (k3 _ _ e2) λμ4 k4=>w_c (zeu ?_))))))));rw[r.fault hl hx];refine zmv (α:=Bool) _ _ ⟨_,rfl,λhb=>?_,λ_=>zpb ?_⟩
 ·simp at hb
 have k04:=k02.trans (k3.trans k4);refine zp (zog (zJ (zl (zi (zb (zc rfl (zb (zc rfl (zk (zJg w (zyg lay) (by rw[length_map];exact hl) (k04 _ _ hn) λμ5 k5=>w_c (zps ⟨_,rfl,λ_=>zub (w_c (q _ (k04.trans k5))),λ_=>zpb ?_⟩)))))))))));have k05:=k04.trans k5;have k25:=k3.trans (k4.trans k5);refine zp (zog (zJ (zl (zi (zb (zc rfl (zk (zTq (k25 _ _ e2) (by omega) λc μ6 k6 _ e6=>?_))))))));refine zi (zb (zi (zb (zc rfl (zk (zTq (k6 _ _ (k05 _ _ hn)) (by omega) λd μ7 k7 _ e7=>?_)))))) ;refine zb (zc rfl (zk (zVb (S:=zvp lay) r.t (by omega) (by unfold zvp;rw[hl];exact filter_sublist) e7 (k7 _ _ (k6 _ _ (k05 _ _ ht))) λg μ8 k8 _ e8=>?_)));rw[r.laid hl]at e6;refine zHu (α:=Nat) _ _ (k8 _ _ (k7 _ _ e6)) e8 ⟨_,rfl,λhb=>?_,λ_=>zpb ?_⟩
 ·simp at hb
 have k58:=k6.trans (k7.trans k8);have k08:=k05.trans k58;refine zp (zab (zi (zb (zc rfl (zb (zc rfl (zk (zio w (k08 _ _ hn) λm μ9 k9 _ e9=>?_))))))));refine zp (zab (zi (zb (zc rfl (zb (zc rfl (zk (zio w' (k9 _ _ (k58 _ _ (k25 _ _ e2))) λh μa ka _ ea=>?_))))))));have k0a:=k08.trans (k9.trans ka);have em:=ka _ _ e9;refine zub (zi (zb (zrk (zue (zb (zi (zb (zc rfl (zk (zQd (zq (k0a _ _ ho)) (zk ⟨_,rfl,by omega,by rw[length_map];omega,zLb (by simp;omega),?_⟩)))))))))));rw[yJ,length_map,hol];refine zyf (λ(k:Nat)=>D.int k) (yi R.length) (λ_ =>.bl true) (λ_ _=>rfl) (λi hi μb kb=>?_) (λμb kb=>?_)
 ·have hi:i<R.length:=List.mem_range.mp hi;have hli:(zmj R lay).length=R.length:=by unfold zmj;simp
  have hlj:(zmj R' (zuf O T lay)).length=R.length:=by unfold zmj;simp[r.rl]
  refine z4d ?_;unfold zRd;have g1:∀(X:List Int)(j:Nat),j<X.length->atI (X.map D.int) (j:Int)=some (.int (X.getD j 0)):=λX j hj=>zke (by simp[hj]);refine zl (zl (zc rfl (zl (zc rfl (zc rfl (z5c (zq (kb _ _ (k0a _ _ ho))) (z0c (by rw[hol];exact hi)) ?_))))));refine z5c (zq (kb _ _ ea)) (g1 _ _ (by rw[hlj];exact r.o.lt hi)) ?_;refine zl (zc rfl (zc rfl (z5c (zq (kb _ _ em)) (g1 _ _ (by rw[hli];exact hi)) ?_)));rw[r.left hl hx hi];refine zsr (α:=Int) _ _ ⟨?_,kb,kb⟩;rw[decide_eq_true rfl]
 ·refine zk (zxx (bs:=(yi R.length).map λ_=>true) (by rw[zt,map_map];rfl) ?_)
  have:((yi R.length).map λ_=>true).all (λb=>b)=true:=by
   rw[all_map];exact List.all_eq_true.mpr λ_ _=>rfl
  rw[this];exact q _ (k0a.trans kb.to)
def zYv(w:Wb L R K)(r:tY R K lay):∀x,some x∈lay->x<R.length:=λx hx=>by
 obtain⟨k,hk⟩:=List.mem_iff_getElem?.mp hx;have hkl:k<K.length:=by rw[<-r.len];exact(List.getElem?_eq_some_iff.mp hk).1
 exact(w.key hkl).2 x (r.home k x hk)
def zyp(t:Ord T n)(hl:lay.length=n)(hw:∀k<n,(lay.getD k none).isSome=true):(none:Option Nat)∉zuf O T lay:=λhm=>by
 obtain⟨a,ha,e⟩:=List.mem_map.mp ((zAh t hl).mem_iff.mp hm)
 cases a with
 |some x=>cases e
 |none=>
  obtain⟨k,hk⟩:=List.mem_iff_getElem?.mp ha;have:=hw k (by rw[<-hl];exact(List.getElem?_eq_some_iff.mp hk).1);rw[getD_eq_getElem?_getD,hk]at this;cases this
def z6p{R:List Nat}{K:List (List Nat)}{tl:Nat}(w:Wb L R K)(w':Wb L R' K')(hL:L<=60)(r:Ren O T R K R' K')(ho:μ[ol]?=some (.lst (nat O)))(ht:μ[tl]?=some (.lst (nat T)))
 (q:∀μ',tw μ μ'->Q (.bl true) μ'):WF zaf [wn R K,wn R' K',.loc ol,.loc tl] μ Q:=by
 have hkl:=w.kl;have hrl:=w.rl;have ri:=r.inv;refine zzb rfl ?_;show WS zef [some (wn R K),some (wn R' K'),some (.loc ol),some (.loc tl),none,none,none] μ _ _ _ _;unfold zef;refine zp (zlk (zi (zb (zc rfl (zk ?_)))));refine zBj w' hL (λlay l μ1 rt hall k1 _ e1=>?_) (λS l μ1 hS hc _ k1 _ e1=>?_)
 ·have f':zXm R' K':=⟨lay,rt,hall⟩
  have f:=r.fits.mp f';refine zIl (zne (z4d (zne (z4d (znk ?_)))));refine zp (zog (zJ (zl (zc rfl (zl (zi (zb (zc rfl (zk ?_)))))))));refine zBj w hL (λlay2 l2 μ2 _ _ k2 _ _=>?_) (λS2 l2 μ2 hS2 hc2 _ _ _ _=>absurd f (zcp w hS2 hc2));refine w_c (z5c rfl rfl (zFq ⟨_,rfl,λh=>absurd h (by decide +kernel),λ_=>zpb ?_⟩));refine zp (zog (zJ (zl (zc rfl (w_c (zwl ⟨_,rfl,λh=>absurd h (by decide +kernel),λ_=>zpb ?_⟩))))));have k02:=k1.trans k2;have hlen:lay.length=K.length:=by rw[rt.len,r.kl]
  refine zp (zab (zi (zb (zi (zb (zc rfl (zb (zi (zb (zc rfl (zk ?_)))))))))));refine zNl r.t (by omega) (k02 _ _ ht) λa μ3 k3 e3=>zk ?_;refine zMf (xs:=lay.map onD) (by rw[length_map,hlen];exact r.t.inv) (by rw[length_map];omega) (k3 _ _ (k2 _ _ e1)) e3 λb μ4 k4 _ e4=>?_;refine zb (zi (zb (zc rfl (zk ?_))));have k04:=k02.trans (k3.trans k4);refine zNl r.o (by omega) (k04 _ _ ho) λc μ5 k5 e5=>zk ?_;obtain⟨lay3,p1,p2,p3,p4⟩:=z4p (O:=zug O) r.t.inv hlen;rw[p1]at e4;have hlt:=zYv w' rt;refine zrf (by omega) (λh hm=>by rw[r.o.inv.len,<-r.rl];exact hlt h (p4 h hm)) (k5 _ _ e4) e5 λg μ6 k6 _ e6=>?_;rw[p3]at e6;have rt2:=ri.right hlt rt;have k06:=k04.trans (k5.trans k6);refine zub (zpt (zl (zi (zb (zc rfl (zb (zc rfl (zk (zJg w (zyg (zuf (zug O) (zug T) lay)) (by rw[length_map,rt2.len]) e6 λμ7 k7=>w_c (zeu ?_))))))))));rw[zDg rt2];refine⟨_,rfl,λ_=>?_,λh=>(by cases h)⟩;refine zi (zb (zc rfl (zk (zwp (k7 _ _ e6) ?_))));rw[decide_eq_false (zyp (O:=zug O) r.t.inv hlen λk hk=>hall k (by rw[r.kl];exact hk))];exact q _ (k06.trans k7)
 ·have nf':=zcp w' hS hc;have nf:¬zXm R K:=λf=>nf' (r.fits.mpr f);refine zIl (zne (z4d (zne (z4d (znk ?_)))));refine zp (zog (zJ (zl (zc rfl (zl (zi (zb (zc rfl (zk ?_)))))))));refine zBj w hL (λlay2 l2 μ2 r2 h2 _ _ _=>absurd ⟨lay2,r2,h2⟩ nf) (λS2 l2 μ2 _ _ _ k2 _ _=>?_);refine w_c (z5c rfl rfl (zFq ⟨_,rfl,λh=>absurd h (by decide +kernel),λ_=>zpb ?_⟩));refine zp (zog (zJ (zl (zc rfl (w_c (zwl ⟨_,rfl,λ_=>?_,λh=>absurd h (by decide +kernel)⟩))))));have k02:=k1.trans k2;refine zub (zi (zb (zc rfl (zb (zi (zb (zc rfl (zb (zi (zb (zc rfl (zk ?_))))))))))));refine zNl r.t (by omega) (k02 _ _ ht) λa μ3 k3 e3=>zk ?_;rw[r.kl]at hS;refine zVb (S:=S) r.t.inv (by omega) hS (k3 _ _ (k2 _ _ e1)) e3 λg μ4 k4 _ e4=>zk ?_;have hm:∀k∈zLh (zug T) S,k<K.length:=λk hk=>((zIf r.t.inv).mp hk).1;refine zgg w e4 hm (by rw[(z4e r.t.inv hS).length_eq,length_map];have:=hS.length_le;simp at this;omega) λμ5 k5=>?_;rw[ri.crowd (by rw[r.kl];exact hS),hc];exact q _ (k02.trans (k3.trans (k4.trans k5)))
instance instEncPair{α β:Type}[Enc α][Enc β]:Enc (α×β):=⟨λx =>.tup [Enc.d x.1,Enc.d x.2],λx =>.tuple [Enc.p x.1,Enc.p x.2],Enc.dep α+Enc.dep β+1,λμ n x=>by
 show(([Enc.d x.1,Enc.d x.2]).mapM (toP μ (n+(Enc.dep α+Enc.dep β)))).bind (λps=>some (PyData.tuple ps))=_
 have h1:toP μ (n+(Enc.dep α+Enc.dep β)) (Enc.d x.1)=some (Enc.p x.1):=by
  rw[show n+(Enc.dep α+Enc.dep β)=n+Enc.dep β+Enc.dep α by omega];exact Enc.rd μ _ x.1
 have h2:toP μ (n+(Enc.dep α+Enc.dep β)) (Enc.d x.2)=some (Enc.p x.2):=by
  rw[show n+(Enc.dep α+Enc.dep β)=n+Enc.dep α+Enc.dep β by omega];exact Enc.rd μ _ x.2
 rw[mapM_cons,mapM_cons,h1,h2];rfl,λa b=>by
 rw[Yu,Ys,Ys,Ys,yG,yG,Enc.eq,Enc.eq];constructor
 ·rintro⟨h1,h2,_⟩;exact Prod.ext h1 h2
 ·rintro rfl;exact⟨rfl,rfl,rfl⟩⟩
def zZx{R:List Nat}{K:List (List Nat)}(q:Q (.bl (!decide ((R,K)=(R',K')))) μ):W2 gNe (wn R K) (wn R' K') μ Q:=zmv (R,K) (R',K') q
section
variable {ns:List Int}
def zau(hp:tO ns μ l B)(hB:B<=100000)(hm:m<=1000)(q:∀(S:List Nat)(μ':Mem),S.Sublist (yi m)->KB [l] μ μ'->tO ns μ' l (B+m)->Q (.loc μ'.length) (μ'++[.lst (nat S)])):WL (gN 0) (z5 (zu gEq (zo zr (ze (zh 1) (ze (fC (.int 2)) zy))) (fC (.int 0)))) (zh 0) yes [none,some (.loc l)] ((yi m).map λ(k:Nat) =>.int k) [] μ Q:=by
 refine z5h (λi ys μ'=>∃S:List Nat,ys=nat S/\S.Sublist (yi i)/\KB [l] μ μ'/\tO ns μ' l (B+i)) ⟨[],rfl,by simp,.refl,hp⟩ (λ_ _ _ _=>rfl) ?_ ?_
 ·rintro i x ys μ' hx ⟨S,rfl,h1,k,p⟩;obtain⟨hi,rfl⟩:=zOg hx;refine z4d ?_;refine zJ (zl (zi (zb (zc rfl (zb (w_c (zk ?_)))))));refine zjf p (by omega) (by omega) (by omega) λv μ2 a b k2 e2 p2=>w_c (z9h ⟨_,rfl,λ_=>zc rfl ?_,λ_=>?_⟩)
  ·refine⟨S++[i],by rw[zXc];rfl,?_,k.trans k2,p2⟩;rw[List.range_succ];exact h1.append (List.Sublist.refl _)
  ·refine⟨S,rfl,?_,k.trans k2,p2⟩;rw[List.range_succ];exact h1.trans (List.sublist_append_left _ _)
 ·rintro ys μ' ⟨S,rfl,h1,k,p⟩;simp only[length_map,length_range]at h1 p;exact q S μ' h1 k p
def zLw(w:Wb L R K)(hL:L<=60)(hp:tO ns μ l B)(hB:B<=100000)(q:∀(lay:List (Option Nat)) (μ':Mem),lay.length=K.length->(∀x,some x∈lay->x<R.length)->KB [l] μ μ'->Q (.loc μ'.length) (μ'++[.lst (lay.map onD)])):WL (gN 0) zqk zho yes [none,some (.loc l)] (K.map tn) [] μ Q:=by
 have hkl:=w.kl;refine z5h (λi ys μ'=>∃lay:List (Option Nat),ys=lay.map onD/\lay.length=i/\(∀x,some x∈lay->x<R.length)/\KB [l] μ μ'/\tO ns μ' l (B+2*i)) ⟨[],rfl,rfl,by simp,.refl,hp⟩ (λ_ _ _ _=>rfl) ?_ ?_
 ·rintro i x ys μ' hx ⟨lay,rfl,hl,hb,k,p⟩;rw[yh]at hx
  cases ek:K[i]? with
  |none=>rw[ek]at hx;cases hx
  |some own=>
   rw[ek]at hx;cases hx;obtain⟨h3,hlt⟩:=w.kn own (mem_of_getElem? ek);have hi:i<K.length:=(List.getElem?_eq_some_iff.mp ek).1;refine z4d (zTr ⟨λ_=>?_,λh=>(by cases h)⟩);unfold zho;refine zl (zKg (zb (w_c (zb (zl (zc rfl (zi (zb (zc rfl (zb (zi (zb (zc rfl (zk (zQd rfl (zk ?_))))))))))))))));refine zjf p (by omega) (by rw[length_map];omega) (by rw[length_map];omega) λv ν1 a b k1 e1 p1=>?_;obtain⟨v,rfl⟩:=Int.eq_ofNat_of_zero_le a;rw[length_map]at b;have hv:v<own.length:=by omega
   refine z5c rfl (z0c hv) (zk ?_);refine zi (zb (w_c (zb (zi (zb (zc rfl (zb (w_c (zk ?_)))))))));refine zjf p1.app (by omega) (by omega) (by omega) λu ν2 a' b' k2 e2 p2=>zk (zIt ?_);have hq1:=p1.lt;have gl:ν2[ν1.length]?=some (.lst [.non,.int (own.getD v 0:Nat)]):=k2.at_ _ _ (by simp;omega) zt;have kk:KB [l] μ ν2:=(k.trans k1).trans (KB.refl.app.trans k2);have p3:=p2.up (show B+2*i+1+1<=B+2*(i+1) by omega)
   by_cases hu:u<1
   ·have hu0:u=0:=by omega
    subst hu0;refine z5c (zq gl) rfl ⟨lay++[none],by rw[map_append];rfl,by simp[hl],λh hm=>?_,kk,p3⟩;rcases List.mem_append.mp hm with hm|hm
    ·exact hb h hm
    ·simp at hm
   ·rw[if_neg hu];refine z5c (zq gl) rfl ⟨lay++[some (own.getD v 0)],by rw[map_append];rfl,by simp[hl],λh hm=>?_,kk,p3⟩;rcases List.mem_append.mp hm with hm|hm
    ·exact hb h hm
    ·have e:h=own.getD v 0:=by simpa using hm
     rw[e];refine hlt _ ?_;rw[getD_eq_getElem?_getD,yd hv];exact getElem_mem hv
 ·rintro ys μ' ⟨lay,rfl,hl,hb,k,p⟩;rw[length_map]at hl;exact q lay μ' hl hb k
variable {L:Nat}{O T R:List Nat}{K:List (List Nat)}
def z3m(t:Ord T K.length):zhc O (zQc T K)=zQc T (zhc O K):=by
 have hnl:(zhc O K).length=K.length:=by unfold zhc;simp
 unfold zQc;rw[hnl];unfold zhc;rw[map_map];refine map_congr_left λj hj=>?_;have hi:=t.tT (List.mem_range.mp hj);show(K.getD (T.idxOf j) []).map _=_;rw[getD_eq_getElem?_getD,getD_eq_getElem?_getD,yh,yd hi];rfl
def zIs(w:Wb L R K)(o:Ord O R.length):Wb L (zmf O R) (zhc O K):=by
 have hpl:(zmf O R).length=R.length:=by unfold zmf;simp
 have hnl:(zhc O K).length=K.length:=by unfold zhc;simp
 refine⟨by rw[hpl];exact w.rl,by rw[hnl];exact w.kl,λk hk=>?_⟩;unfold zhc at hk;obtain⟨x,hx,rfl⟩:=List.mem_map.mp hk;obtain⟨h1,h2⟩:=w.kn x hx;refine⟨by rw[length_map];exact h1,λh hh=>?_⟩;obtain⟨y,hy,rfl⟩:=List.mem_map.mp hh;rw[hpl];exact o.lt (h2 y hy)
def zwn(w:Wb L R K)(t:Ord T K.length):Wb L R (zQc T K):=by
 have hpl:(zQc T K).length=K.length:=by unfold zQc;simp
 refine⟨w.rl,by rw[hpl];exact w.kl,λk hk=>?_⟩;unfold zQc at hk;obtain⟨j,hj,rfl⟩:=List.mem_map.mp hk;exact w.key (t.tT (List.mem_range.mp hj))
end
def zLs(ns:List Int)(_hn:ns.length<=63):∃μ',zIp [.fz (ns.map .int)] []=some (.bl true,μ'):=by
 have main:WF zIp [.fz (ns.map .int)] [] λd _=>d=.bl true:=by
  refine zzb rfl ?_;show WS zbt [some (.fz (ns.map .int)),none,none,none,none,none,none,none,none,none] [] _ _ _ _;unfold zbt;refine zp (zab (zi (zb (zc rfl (zk ?_)))));refine z0u λμ1 k1 p1 e1=>?_;generalize List.length ([]:Mem)=pn at p1;refine zp (zab (zi (zb (zc rfl (zb (w_c (zk ?_)))))));refine zju (m:=13) p1 (by omega) ⟨by omega,by omega⟩ λR K μ2 w k2 p2=>?_;have hkl:K.length<=12:=w.kl;have hrl:=w.rl;refine zp (zab (zi (zb (zc rfl (zb (zi (zb (zl (zc rfl (w_c (zCg (zk (zQd rfl (zk ?_))))))))))))));rw[length_map];refine zNm p2 (by omega) (by omega) λO ol μ3 nd hOl hOm k3 p3 hol g3=>?_;have o:Ord O R.length:=⟨nd,hOl,hOm⟩
  refine zp (zab (zi (zb (zc rfl (zb (zi (zb (zl (zc rfl (w_c (zae (zk (zQd rfl (zk ?_))))))))))))));rw[length_map];refine zNm p3 (by omega) (by omega) λT tl μ4 nd2 hTl hTm k4 p4 htl g4=>?_;have t:Ord T K.length:=⟨nd2,hTl,hTm⟩
  have hp2:=p2.lt;have hp3:=p3.lt;have g34:=k4.at_ _ _ (by simp;omega) g3;have hnl:(zhc O K).length=K.length:=by unfold zhc;simp
  have w1:=zIs w o;have w2:=zwn w t;have w':=zwn w1 (T:=T) (by rw[hnl];exact t);have r:=zDw w o t;refine zp (zab (zi (zb (zi (zb (zc rfl (zb (zc rfl (zk ?_)))))))));refine zsh w (by omega) o g34 λμ5 k5=>zb (zc rfl (zk ?_));refine zBi w1 (by omega) (by rw[hnl];exact t) (k5 _ _ g4) λμ6 k6=>?_;have k46:=k5.trans k6;refine zp (zog (z2l (zJ (zl (zi (zb (zi (zb (zc rfl (zb (zc rfl (zk ?_))))))))))));refine zBi w (by omega) t (k46 _ _ g4) λμ7 k7=>zb (zc rfl (zk ?_));refine zsh w2 (by omega) o (k7 _ _ (k46 _ _ g34)) λμ8 k8=>zc rfl ?_;rw[z3m t];refine zZx ⟨_,rfl,λ_=>?_,λh=>?_⟩
  case refine_2=>simp at h
  have k48:=k46.trans (k7.trans k8);generalize zmf O R=R' at r w' ⊢;generalize zQc T (zhc O K)=K' at r w' ⊢;refine zBo (zJ (zi (zb (zc rfl (zb (zc rfl (zb (zc rfl (zb (zc rfl (zk ?_)))))))))));refine z6p w w' (by omega) r (k48 _ _ g34) (k48 _ _ g4) λμ9 k9=>⟨_,rfl,λh=>(by cases h),λ_=>zpb ?_⟩
  have k49:=k48.trans k9;have p9:=p4.keep k49;have gO:=k49 _ _ g34;have gT:=k49 _ _ g4;refine zp (zab (zrk (zue (zb (zi (zb (zc rfl (zk (zQd (zq gT) (zk ⟨_,rfl,by omega,by rw[length_map];omega,zLb (by simp;omega),?_⟩))))))))));rw[yJ,length_map,hTl];unfold zHr ztq;refine zau p9 (by omega) (by omega) λS μa hS ka pa=>?_;have gOa:=zB (g:=[tD.lst (nat S)]) (ka.at_ _ _ (by simp;omega) gO);have gTa:=zB (g:=[tD.lst (nat S)]) (ka.at_ _ _ (by simp;omega) gT);have gSa:(μa++[tD.lst (nat S)])[μa.length]?=some (.lst (nat S)):=zt;have pb:=pa.app (g:=[tD.lst (nat S)]);have hla:=pa.lt;generalize μa++[tD.lst (nat S)]=μb at gOa gTa gSa pb;generalize μa.length=sl at gSa hla;refine zp (zab (zrk (zue (zb (zi (zb (zc rfl (zk (zQd (zq gOa) (zk ⟨_,rfl,by omega,by rw[length_map];omega,zLb (by simp;omega),?_⟩))))))))));rw[yJ,length_map,hOl];unfold zjs zwq;refine zau pb (by omega) (by omega) λN μc hN kc pc=>?_;have gOc:=zB (g:=[tD.lst (nat N)]) (kc.at_ _ _ (by simp;omega) gOa);have gTc:=zB (g:=[tD.lst (nat N)]) (kc.at_ _ _ (by simp;omega) gTa);have gSc:=zB (g:=[tD.lst (nat N)]) (kc.at_ _ _ (by simp;omega) gSa);have gNc:(μc++[tD.lst (nat N)])[μc.length]?=some (.lst (nat N)):=zt;have pd:=pc.app (g:=[tD.lst (nat N)]);generalize μc++[tD.lst (nat N)]=μd at gOc gTc gSc gNc pd;generalize μc.length=nl at gNc;refine zp (zog (zBo (zJ (zi (zb (zc rfl (zb (zc rfl (zb (zc rfl (zb (zc rfl (zb (zc rfl (zb (zc rfl (zk ?_)))))))))))))))));refine zmr w w' (by omega) r hS hN gOc gTc gSc gNc λμe ke=>⟨_,rfl,λh=>(by cases h),λ_=>zpb ?_⟩
  have pe:=pd.keep ke;refine zp (zab (zrk (zTe (zl (zc rfl (w_c (zae (.inl ⟨_,rfl,zLb (by rw[length_map];omega),?_⟩))))))));refine zLw w (by omega) pe (by omega) λlay μf hll hlx kf=>?_;have gOf:=zB (g:=[tD.lst (lay.map onD)]) (kf.at_ _ _ (by simp;omega) (ke _ _ gOc));have gTf:=zB (g:=[tD.lst (lay.map onD)]) (kf.at_ _ _ (by simp;omega) (ke _ _ gTc));have gLf:(μf++[tD.lst (lay.map onD)])[μf.length]?=some (.lst (lay.map onD)):=zt;generalize μf++[tD.lst (lay.map onD)]=μg at gOf gTf gLf;generalize μf.length=ll at gLf;refine zp (zab (zi (zb (zrk (zTe (zi (zb (zc rfl (zk ?_)))))))));refine zop w (by omega) λl μh kh hpar=>?_;obtain⟨xs,e,hl,_,hx⟩:=hpar;have hpl:(zrb R.length K).length<=R.length:=by unfold zrb;exact yA (List.length_filter_le _ _) (by simp)
  refine .inr (.inr ⟨l,_,rfl,e,zLb (by rw[length_map];omega),?_⟩);refine z5h (λi ys μ'=>tw μh μ'/\∃zs:List (Nat×Nat),ys=zs.map (λp=>D.tup [.loc p.1,.loc p.2])/\zs.length=i/\∀(j:Nat)(p:Nat×Nat)(a:Nat),zs[j]?=some p->(zrb R.length K)[j]?=some a->μ'[p.1]?=some (.lst (nat (zLh O (zsb R.length K a))))/\μ'[p.2]?=some (.lst (nat (zLh T (zxf R.length K a))))) ⟨.refl,[],rfl,rfl,by simp⟩ (λ_ _ _ h=>znb e h.1) ?_ ?_
  ·rintro i x ys ν hix ⟨kν,zs,rfl,hzl,hz⟩;rw[yh]at hix
   cases ep:xs[i]? with
   |none=>rw[ep]at hix;cases hix
   |some p=>
    rw[ep]at hix;cases hix;have hi:i<(zrb R.length K).length:=by rw[<-hl];exact(List.getElem?_eq_some_iff.mp ep).1
    have ea:(zrb R.length K)[i]?=some (zrb R.length K)[i]:=yd hi;obtain⟨_,_,_,_,q1,q2⟩:=hx i p _ ep ea;refine zIl (zne (z4d (zne (z4d (znk (zTr ⟨λ_=>?_,λh=>(by cases h)⟩))))));unfold zuq;refine zxg (zb (zi (zb (zc rfl (zb (zc rfl (zk ?_)))))));refine zVb (S:=zsb R.length K (zrb R.length K)[i]) o (by omega) (by unfold zsb;exact filter_sublist) (kν _ _ q1) (kν _ _ (kh _ _ gOf)) λa ν1 m1 _ f1=>?_;refine zb (zi (zb (zc rfl (zb (zc rfl (zk ?_))))));refine zVb (S:=zxf R.length K (zrb R.length K)[i]) t (by omega) (by unfold zxf;exact filter_sublist) (m1 _ _ (kν _ _ q2)) (m1 _ _ (kν _ _ (kh _ _ gTf))) λb ν2 m2 _ f2=>zk ?_;refine⟨(kν.trans m1).trans m2,zs++[(a,b)],by rw[map_append];rfl,by simp[hzl],λj p' a' ej1 ej2=>?_⟩
    by_cases hj:j<zs.length
    ·rw[yw hj]at ej1;obtain⟨z1,z2⟩:=hz j p' a' ej1 ej2;exact⟨m2 _ _ (m1 _ _ z1),m2 _ _ (m1 _ _ z2)⟩
    ·have hj2:=(List.getElem?_eq_some_iff.mp ej1).1;rw[length_append,length_singleton]at hj2;have ej:j=zs.length:=by omega
     subst ej;rw[yL (yj _),Nat.sub_self]at ej1;cases ej1;rw[hzl,ea]at ej2;cases ej2;exact⟨m2 _ _ f1,f2⟩
  rintro ys ν ⟨kν,zs,rfl,hzl,hz⟩;rw[length_map,hl]at hzl;refine zk (r.sortPt (λk hk=>by have:=(w.key hk).1;omega) (λk hk=>by have:=(w'.key hk).1;omega) (by omega) zt hzl (λi p a e1 e2=>⟨zB (hz i p a e1 e2).1,zB (hz i p a e1 e2).2⟩) λdl μi ki hpr=>?_);have k0:=kh.trans (kν.to.trans ki);refine zub (zpt (zi (zb (zc rfl (zb (zc rfl (zb (zc rfl (zb (zc rfl (zb (zc rfl (zk ?_)))))))))))));refine zao w w' (by omega) r hll hlx (k0 _ _ gOf) (k0 _ _ gTf) (k0 _ _ gLf) λμj kj=>⟨_,rfl,λ_=>?_,λh=>(by cases h)⟩
  refine zl (zi (zb (zc rfl (zk ?_))));refine zop w' (by omega) λl2 μk kk hpar2=>zc rfl (zXv hpar2.pr ((hpr.keep kj).keep kk) rfl)
 obtain⟨d,μ',e,rfl⟩:=main;exact⟨μ',e⟩
end P
namespace P
open PySem PySem.Spec PyProof.Rows L2 M
set_option maxHeartbeats 4000000
def ln1{α:Type}:∀{us:List α},us.length=1->∃a0,us=[a0]
 |[a0],_=>⟨a0,rfl⟩
def fa1{K:yz}{mg:yF->Option yb}{h:Yb}{x p0:yF}{st:Yg}{f:yg}{fd:yk}(X:K.In h)(φ:h.Ns yB mg)(a:xF K yB x=some (some (.ref f)))(u:Fun K x x st f fd)
 (b:∀(kV doc pm:yb)(an:Option yg)(cdv ct a0:yb),bindArgs (W.fnOf x x (zMc st) (zfc st) (zn st) .none kV doc pm an cdv ct) ⟨[a0],[]⟩=pure [(p0,a0)]):FnAt K mg x st [p0] f fd :=
 ⟨u,W.mg_of X φ a,u.binds λkV doc pm an cdv ct us hl=>by obtain⟨a0,rfl⟩:=ln1 hl;exact b kV doc pm an cdv ct a0⟩
def ln2{α:Type}:∀{us:List α},us.length=2->∃a0 a1,us=[a0,a1]
 |[a0,a1],_=>⟨a0,a1,rfl⟩
def fa2{K:yz}{mg:yF->Option yb}{h:Yb}{x p0 p1:yF}{st:Yg}{f:yg}{fd:yk}(X:K.In h)(φ:h.Ns yB mg)(a:xF K yB x=some (some (.ref f)))(u:Fun K x x st f fd)
 (b:∀(kV doc pm:yb)(an:Option yg)(cdv ct a0 a1:yb),bindArgs (W.fnOf x x (zMc st) (zfc st) (zn st) .none kV doc pm an cdv ct) ⟨[a0,a1],[]⟩=pure [(p0,a0),(p1,a1)]):FnAt K mg x st [p0,p1] f fd :=
 ⟨u,W.mg_of X φ a,u.binds λkV doc pm an cdv ct us hl=>by obtain⟨a0,a1,rfl⟩:=ln2 hl;exact b kV doc pm an cdv ct a0 a1⟩
def ln3{α:Type}:∀{us:List α},us.length=3->∃a0 a1 a2,us=[a0,a1,a2]
 |[a0,a1,a2],_=>⟨a0,a1,a2,rfl⟩
def fa3{K:yz}{mg:yF->Option yb}{h:Yb}{x p0 p1 p2:yF}{st:Yg}{f:yg}{fd:yk}(X:K.In h)(φ:h.Ns yB mg)(a:xF K yB x=some (some (.ref f)))(u:Fun K x x st f fd)
 (b:∀(kV doc pm:yb)(an:Option yg)(cdv ct a0 a1 a2:yb),bindArgs (W.fnOf x x (zMc st) (zfc st) (zn st) .none kV doc pm an cdv ct) ⟨[a0,a1,a2],[]⟩=pure [(p0,a0),(p1,a1),(p2,a2)]):FnAt K mg x st [p0,p1,p2] f fd :=
 ⟨u,W.mg_of X φ a,u.binds λkV doc pm an cdv ct us hl=>by obtain⟨a0,a1,a2,rfl⟩:=ln3 hl;exact b kV doc pm an cdv ct a0 a1 a2⟩
def ln4{α:Type}:∀{us:List α},us.length=4->∃a0 a1 a2 a3,us=[a0,a1,a2,a3]
 |[a0,a1,a2,a3],_=>⟨a0,a1,a2,a3,rfl⟩
def fa4{K:yz}{mg:yF->Option yb}{h:Yb}{x p0 p1 p2 p3:yF}{st:Yg}{f:yg}{fd:yk}(X:K.In h)(φ:h.Ns yB mg)(a:xF K yB x=some (some (.ref f)))(u:Fun K x x st f fd)
 (b:∀(kV doc pm:yb)(an:Option yg)(cdv ct a0 a1 a2 a3:yb),bindArgs (W.fnOf x x (zMc st) (zfc st) (zn st) .none kV doc pm an cdv ct) ⟨[a0,a1,a2,a3],[]⟩=pure [(p0,a0),(p1,a1),(p2,a2),(p3,a3)]):FnAt K mg x st [p0,p1,p2,p3] f fd :=
 ⟨u,W.mg_of X φ a,u.binds λkV doc pm an cdv ct us hl=>by obtain⟨a0,a1,a2,a3,rfl⟩:=ln4 hl;exact b kV doc pm an cdv ct a0 a1 a2 a3⟩
def ln5{α:Type}:∀{us:List α},us.length=5->∃a0 a1 a2 a3 a4,us=[a0,a1,a2,a3,a4]
 |[a0,a1,a2,a3,a4],_=>⟨a0,a1,a2,a3,a4,rfl⟩
def fa5{K:yz}{mg:yF->Option yb}{h:Yb}{x p0 p1 p2 p3 p4:yF}{st:Yg}{f:yg}{fd:yk}(X:K.In h)(φ:h.Ns yB mg)(a:xF K yB x=some (some (.ref f)))(u:Fun K x x st f fd)
 (b:∀(kV doc pm:yb)(an:Option yg)(cdv ct a0 a1 a2 a3 a4:yb),bindArgs (W.fnOf x x (zMc st) (zfc st) (zn st) .none kV doc pm an cdv ct) ⟨[a0,a1,a2,a3,a4],[]⟩=pure [(p0,a0),(p1,a1),(p2,a2),(p3,a3),(p4,a4)]):FnAt K mg x st [p0,p1,p2,p3,p4] f fd :=
 ⟨u,W.mg_of X φ a,u.binds λkV doc pm an cdv ct us hl=>by obtain⟨a0,a1,a2,a3,a4,rfl⟩:=ln5 hl;exact b kV doc pm an cdv ct a0 a1 a2 a3 a4⟩
def ln6{α:Type}:∀{us:List α},us.length=6->∃a0 a1 a2 a3 a4 a5,us=[a0,a1,a2,a3,a4,a5]
 |[a0,a1,a2,a3,a4,a5],_=>⟨a0,a1,a2,a3,a4,a5,rfl⟩
def fa6{K:yz}{mg:yF->Option yb}{h:Yb}{x p0 p1 p2 p3 p4 p5:yF}{st:Yg}{f:yg}{fd:yk}(X:K.In h)(φ:h.Ns yB mg)(a:xF K yB x=some (some (.ref f)))(u:Fun K x x st f fd)
 (b:∀(kV doc pm:yb)(an:Option yg)(cdv ct a0 a1 a2 a3 a4 a5:yb),bindArgs (W.fnOf x x (zMc st) (zfc st) (zn st) .none kV doc pm an cdv ct) ⟨[a0,a1,a2,a3,a4,a5],[]⟩=pure [(p0,a0),(p1,a1),(p2,a2),(p3,a3),(p4,a4),(p5,a5)]):FnAt K mg x st [p0,p1,p2,p3,p4,p5] f fd :=
 ⟨u,W.mg_of X φ a,u.binds λkV doc pm an cdv ct us hl=>by obtain⟨a0,a1,a2,a3,a4,a5,rfl⟩:=ln6 hl;exact b kV doc pm an cdv ct a0 a1 a2 a3 a4 a5⟩
def all_of{l:W.OpenLaw}{w:yH}{K:yz}{h:Yb}{mg:yF->Option yb}{fa:yg}(X:K.In h)(φ:h.Ns yB mg)(hfa:mg "law"=some (.ref fa))(e:Hd.obs K=Hd.good)
 : ∃fd:yk,(∀(s:yc)(v:yb),BindsTo s fd ⟨[v],[]⟩ [("_law_script",v)])/\∀base:Yb,K.In base->base.Ns yB mg->tq l.prog w K mg base CX0 8 fa fd ["_law_script"] (spM K 1 zIp):=by
 have e_fn:=congrArg (·.1) e;have e_vv:=congrArg (·.2) e;obtain⟨⟨_,_,a0,u0⟩,e_fn⟩:=fnc e_fn;have z1f:FnAt K mg "_law_pen" zeg zWc _ _:=fa1 X φ a0 u0 λ_ _ _ _ _ _ _=>rfl;obtain⟨⟨_,_,a1,u1⟩,e_fn⟩:=fnc e_fn;have zYd:FnAt K mg "_law_mixed" zVd z8b _ _:=fa2 X φ a1 u1 λ_ _ _ _ _ _ _ _=>rfl;obtain⟨⟨_,_,a2,u2⟩,e_fn⟩:=fnc e_fn;have zz:FnAt K mg "_law_take" zRc zib _ _:=fa2 X φ a2 u2 λ_ _ _ _ _ _ _ _=>rfl;obtain⟨⟨_,_,a3,u3⟩,e_fn⟩:=fnc e_fn;have zdg:FnAt K mg "_law_web" zYf zYc _ _:=fa2 X φ a3 u3 λ_ _ _ _ _ _ _ _=>rfl;obtain⟨⟨_,_,a4,u4⟩,e_fn⟩:=fnc e_fn;have z9c:FnAt K mg "_law_order" zXd z9b _ _:=fa2 X φ a4 u4 λ_ _ _ _ _ _ _ _=>rfl;obtain⟨⟨_,_,a5,u5⟩,e_fn⟩:=fnc e_fn;have zZc:FnAt K mg "placed" z6f zjc _ _:=fa2 X φ a5 u5 λ_ _ _ _ _ _ _ _=>rfl;obtain⟨⟨_,_,a6,u6⟩,e_fn⟩:=fnc e_fn;have zfd:FnAt K mg "keys_named" z2d z1b _ _:=fa2 X φ a6 u6 λ_ _ _ _ _ _ _ _=>rfl;obtain⟨⟨_,_,a7,u7⟩,e_fn⟩:=fnc e_fn;have zLc:FnAt K mg "nests_named" zjd zPb _ _:=fa2 X φ a7 u7 λ_ _ _ _ _ _ _ _=>rfl;obtain⟨⟨_,_,a8,u8⟩,e_fn⟩:=fnc e_fn;have zH:FnAt K mg "some_named" zYb zV _ _:=fa2 X φ a8 u8 λ_ _ _ _ _ _ _ _=>rfl;obtain⟨⟨_,_,a9,u9⟩,e_fn⟩:=fnc e_fn;have zXb:FnAt K mg "room_of" zve zOb _ _:=fa2 X φ a9 u9 λ_ _ _ _ _ _ _ _=>rfl;obtain⟨⟨_,_,a10,u10⟩,e_fn⟩:=fnc e_fn;have ztc:FnAt K mg "homes_of" zwe zZb _ _:=fa2 X φ a10 u10 λ_ _ _ _ _ _ _ _=>rfl;obtain⟨⟨_,_,a11,u11⟩,e_fn⟩:=fnc e_fn;have zBb:FnAt K mg "is_crowd" zwd zvb _ _:=fa2 X φ a11 u11 λ_ _ _ _ _ _ _ _=>rfl;obtain⟨⟨_,_,a12,u12⟩,e_fn⟩:=fnc e_fn;have z2b:FnAt K mg "has_home_beyond" z6b zeb _ _:=fa2 X φ a12 u12 λ_ _ _ _ _ _ _ _=>rfl;obtain⟨⟨_,_,a13,u13⟩,e_fn⟩:=fnc e_fn;have zuj:FnAt K mg "bound" zvl zcg _ _:=fa2 X φ a13 u13 λ_ _ _ _ _ _ _ _=>rfl;obtain⟨⟨_,_,a14,u14⟩,e_fn⟩:=fnc e_fn;have z7c:FnAt K mg "_law_of_some" z3c zEb _ _:=fa6 X φ a14 u14 λ_ _ _ _ _ _ _ _ _ _ _ _=>rfl;obtain⟨⟨_,_,a15,u15⟩,e_fn⟩:=fnc e_fn;have zgb:FnAt K mg "laying_of_keys" zMb zW _ _:=fa2 X φ a15 u15 λ_ _ _ _ _ _ _ _=>rfl;obtain⟨⟨_,_,a16,u16⟩,e_fn⟩:=fnc e_fn;have zTf:FnAt K mg "left" zwk zme _ _:=fa2 X φ a16 u16 λ_ _ _ _ _ _ _ _=>rfl;obtain⟨⟨_,_,a17,u17⟩,e_fn⟩:=fnc e_fn;have z7d:FnAt K mg "nest_named" zge zbc _ _:=fa2 X φ a17 u17 λ_ _ _ _ _ _ _ _=>rfl;obtain⟨⟨_,_,a18,u18⟩,e_fn⟩:=fnc e_fn;have z7:FnAt K mg "laying_of_nests" zAb zR _ _:=fa2 X φ a18 u18 λ_ _ _ _ _ _ _ _=>rfl;obtain⟨⟨_,_,a19,u19⟩,e_fn⟩:=fnc e_fn;have zhd:FnAt K mg "fault" z0h z1c _ _:=fa2 X φ a19 u19 λ_ _ _ _ _ _ _ _=>rfl;obtain⟨⟨_,_,a20,u20⟩,e_fn⟩:=fnc e_fn;have zmm:FnAt K mg "laid" zPo z7h _ _:=fa1 X φ a20 u20 λ_ _ _ _ _ _ _=>rfl;obtain⟨⟨_,_,a21,u21⟩,e_fn⟩:=fnc e_fn;have zlc:FnAt K mg "_law_of_laying" zkc zkb _ _:=fa5 X φ a21 u21 λ_ _ _ _ _ _ _ _ _ _ _=>rfl;obtain⟨⟨_,_,a22,u22⟩,e_fn⟩:=fnc e_fn;have zem:FnAt K mg "lying" zBl zjg _ _:=fa2 X φ a22 u22 λ_ _ _ _ _ _ _ _=>rfl;obtain⟨⟨_,_,a23,u23⟩,e_fn⟩:=fnc e_fn;have zXe:FnAt K mg "pushes_to" z8e zAc _ _:=fa3 X φ a23 u23 λ_ _ _ _ _ _ _ _ _=>rfl;obtain⟨⟨_,_,a24,u24⟩,e_fn⟩:=fnc e_fn;have zZi:FnAt K mg "row_to" zXi zze _ _:=fa2 X φ a24 u24 λ_ _ _ _ _ _ _ _=>rfl;obtain⟨⟨_,_,a25,u25⟩,e_fn⟩:=fnc e_fn;have zRi:FnAt K mg "put_in" z3i zOe _ _:=fa3 X φ a25 u25 λ_ _ _ _ _ _ _ _ _=>rfl;obtain⟨⟨_,_,a26,u26⟩,e_fn⟩:=fnc e_fn;have zeh:FnAt K mg "is_push" zHh zzd _ _:=fa4 X φ a26 u26 λ_ _ _ _ _ _ _ _ _ _=>rfl;obtain⟨⟨_,_,a27,u27⟩,e_fn⟩:=fnc e_fn;have z6g:FnAt K mg "follows" zGh zyd _ _:=fa4 X φ a27 u27 λ_ _ _ _ _ _ _ _ _ _=>rfl;obtain⟨⟨_,_,a28,u28⟩,e_fn⟩:=fnc e_fn;have zYi:FnAt K mg "pushed" z6i zEe _ _:=fa4 X φ a28 u28 λ_ _ _ _ _ _ _ _ _ _=>rfl;obtain⟨⟨_,_,a29,u29⟩,e_fn⟩:=fnc e_fn;have zWe:FnAt K mg "laid_more" z7e zwc _ _:=fa3 X φ a29 u29 λ_ _ _ _ _ _ _ _ _=>rfl;obtain⟨⟨_,_,a30,u30⟩,e_fn⟩:=fnc e_fn;have zsd:FnAt K mg "laid_at_all" zod zQb _ _:=fa1 X φ a30 u30 λ_ _ _ _ _ _ _=>rfl;obtain⟨⟨_,_,a31,u31⟩,e_fn⟩:=fnc e_fn;have zEd:FnAt K mg "spare_key" z1e zuc _ _:=fa2 X φ a31 u31 λ_ _ _ _ _ _ _ _=>rfl;obtain⟨⟨_,_,a32,u32⟩,e_fn⟩:=fnc e_fn;have zph:FnAt K mg "trimmed" z8g zBd _ _:=fa2 X φ a32 u32 λ_ _ _ _ _ _ _ _=>rfl;obtain⟨⟨_,_,a33,u33⟩,e_fn⟩:=fnc e_fn;have zUg:FnAt K mg "fitted" z5i zFe _ _:=fa1 X φ a33 u33 λ_ _ _ _ _ _ _=>rfl;obtain⟨⟨_,_,a34,u34⟩,e_fn⟩:=fnc e_fn;have zxc:FnAt K mg "_law_about" z3d z4b _ _:=fa1 X φ a34 u34 λ_ _ _ _ _ _ _=>rfl;obtain⟨⟨_,_,a35,u35⟩,e_fn⟩:=fnc e_fn;have z0f:FnAt K mg "is_whole" zZf zTc _ _:=fa1 X φ a35 u35 λ_ _ _ _ _ _ _=>rfl;obtain⟨⟨_,_,a36,u36⟩,e_fn⟩:=fnc e_fn;have zdf:FnAt K mg "_law_fits" z9e zCc _ _:=fa4 X φ a36 u36 λ_ _ _ _ _ _ _ _ _ _=>rfl;obtain⟨⟨_,_,a37,u37⟩,e_fn⟩:=fnc e_fn;have z6e:FnAt K mg "joined_to" zbf zzc _ _:=fa2 X φ a37 u37 λ_ _ _ _ _ _ _ _=>rfl;obtain⟨⟨_,_,a38,u38⟩,e_fn⟩:=fnc e_fn;have zih:FnAt K mg "part_of" z9g zAd _ _:=fa2 X φ a38 u38 λ_ _ _ _ _ _ _ _=>rfl;obtain⟨⟨_,_,a39,u39⟩,e_fn⟩:=fnc e_fn;have zHj:FnAt K mg "parts" ztl z8f _ _:=fa1 X φ a39 u39 λ_ _ _ _ _ _ _=>rfl;obtain⟨⟨f40,oc40,od40,sl40,kV40,dc40,pm40,an40,cd40,ct40,a40,l40,c40,k40⟩,e_fn⟩:=fnl e_fn;have u40:=zWt (st:=zgo) l40 c40 k40;have zFx:FnAt K mg "law" zgo zqo _ _:=fa1 X φ a40 u40 λ_ _ _ _ _ _ _=>rfl;have e:=hfa.symm.trans (W.mg_of X φ a40);cases e;obtain⟨zyx,e_vv⟩:=Yy e_vv;obtain⟨z4x,e_vv⟩:=Yy e_vv;obtain⟨zbo,e_vv⟩:=Yy e_vv;obtain⟨zNx,e_vv⟩:=Yy e_vv;obtain⟨zFw,e_vv⟩:=Yy e_vv;obtain⟨zSx,e_vv⟩:=Yy e_vv;obtain⟨zhv,e_vv⟩:=Yy e_vv;obtain⟨zeq,e_vv⟩:=Yy e_vv;obtain⟨zwx,e_vv⟩:=Yy e_vv;obtain⟨zKs,e_vv⟩:=Yy e_vv;obtain⟨z0x,e_vv⟩:=Yy e_vv;obtain⟨z1u,e_vv⟩:=Yy e_vv;have T:Txt K mg:=⟨YN X φ zyx,YN X φ z4x,YN X φ zbo,YN X φ zNx,YN X φ zFw,YN X φ zSx,YN X φ zhv,YN X φ zeq,YN X φ zwx,YN X φ zKs,YN X φ z0x,YN X φ z1u⟩
 refine⟨W.fnOf "law" "law" (zMc zgo) (zfc zgo) (zn zgo) .none kV40 dc40 pm40 an40 cd40 ct40,λs v =>.of_eq rfl,λbase _ _=>?_⟩;have zvg:=zUm (P:=l.prog) (w:=w) (base:=base) T z1f;have zYe:=zek (P:=l.prog) (w:=w) (base:=base) T zYd;have zw:=zGl T zYd zYe zz;have zAg:=zwm T zz zw zdg;have zud:=zfk T zz zw z9c;have zIc:=z1p (P:=l.prog) (w:=w) (base:=base) T zZc;have zpd:=zhk T zZc zIc zfd;have z8c:=zak T zZc zIc zLc;have zD:=zsk (P:=l.prog) (w:=w) (base:=base) T zH;have zNb:=zoo (P:=l.prog) (w:=w) (base:=base) T zXb;have zrc:=zrm (P:=l.prog) (w:=w) (base:=base) T ztc;have zwb:=zin T zXb zNb ztc zrc zBb;have zPc:=zFg (P:=l.prog) (w:=w) (base:=base) T z2b;have zSi:=zIr T zXb zNb z2b zPc zuj;have zNd:=zKi T zH zD zBb zwb ztc zrc zXb zNb zuj zSi z7c;have zlb:=zmh T zZc zIc zgb;have zle:=zus (P:=l.prog) (w:=w) (base:=base) T zTf;have zVe:=zdk (P:=l.prog) (w:=w) (base:=base) T z7d;have zdb:=zGg T z7d zVe z7;have zNc:=z9q T zTf zle zhd;have zMl:=zRs (P:=l.prog) (w:=w) (base:=base) T zmm;have zVc:=zkh T zgb zlb zTf zle z7 zdb zhd zNc zmm zMl zH zD zlc;have zHl:=z4r (P:=l.prog) (w:=w) (base:=base) T zem;have zDf:=z7l T zem zHl zXe;have zUj:=zJp (P:=l.prog) (w:=w) (base:=base) T zZi;have zdj:=zQp T zXe zDf zTf zle zZi zUj zRi;have zYh:=zQn (P:=l.prog) (w:=w) (base:=base) T zeh;have zQh:=zBn (P:=l.prog) (w:=w) (base:=base) T z6g;have zEj:=zjq T zhd zNc zeh zYh z6g zQh zYi;have zzf:=z3l T zRi zdj zYi zEj zWe;have zje:=zaj T zWe zzf zsd;have zde:=zDl T zBb zwb zEd;have zZh:=zIn T zEd zde zph;have znh:=zqp T zsd zje zph zZh zUg;have zJc:=zok (P:=l.prog) (w:=w) (base:=base) T zxc;have zwg:=zCm (P:=l.prog) (w:=w) (base:=base) T z0f;have zKf:=zUl T zUg znh z7 zdb zBb zwb zgb zlb zxc zJc z0f zwg zH zD zhd zNc zdf;have zHf:=zyl (P:=l.prog) (w:=w) (base:=base) T z6e;have zUh:=zLn T z6e zHf zih;have zVi:=zGr T zih zUh zHj;exact zcv T z1f zvg zdg zAg z9c zud zfd zpd zLc z8c z7c zNd zlc zVc zdf zKf zHj zVi zz zw zH zD zFx
def walk{l:W.OpenLaw}{q:yy}{loose:List yF}{XP:(yF->Option yb)->Yb->Prop}{YP:yH->Yb->Prop}{d:DefRec}{K:Params->yz}(hn:l.most=some 63)(hdf:d.params.defaults=[])
 (hY:∀(w:yH)(h:Yb),YP w h->(K w.params).In h)
 (F:∀(w:yH)(mg:yF->Option yb)(fa:yg)(h:Yb),(K w.params).In h->h.Ns yB mg->mg d.name=some (.ref fa) ->
  ∃fd:yk,(∀(s:yc)(u:yb),BindsTo s fd ⟨[u],[]⟩ [("_law_script",u)])/\∀base:Yb,(K w.params).In base->base.Ns yB mg->tq l.prog w (K w.params) mg base CX0 8 fa fd ["_law_script"] (spM (K w.params) 1 zIp)) :
 W.WalkO q loose XP YP l.row.toRowW d [] (λf vs=>PySem.call f vs) :=
 L2.walk_of (n:=63) (k:=8) (x:="_law_script") (CX:=λ_=>CX0) (sp:=λw=>spM (K w.params) 1 zIp) hn (by decide) hdf (by first|exact⟨rfl,by decide,by decide,rfl⟩|exact⟨rfl,by decide,by decide⟩) hY F (λ_ _ a ns hl hO hS=>zew (zLs ns hl) hO hS) λ_ _ _ _ _ z=>z
end P
open PySem PySem.W PyProof.Rows
set_option maxRecDepth 100000 in
set_option maxHeartbeats 0 in
theorem PySem.Challenge.cw_keynests_k59_whole_carried_along_holds : PySem.Challenge.rw_keynests_k59_whole_carried_along.Holds := by
 refine M.sV (l:=xk) (q:=Hd.qv) (loose:=Hd.lse) (d:=Hd.dl) (obs:=Hd.obs) (good:=Hd.good) (N:=60000) Hd.hd1 Hd.hd2 Hd.hd3 Hd.hd4 Hd.hd5 Hd.hd6 Hd.hd7 ?hw λK e=>?_
 case hw=>w_witness2
 exact P.walk (l:=xk) (K:=λ_=>K) (by rfl) (by rfl) (λw h σ=>σ) λw mg fa h KX φ hmg=>P.all_of KX φ hmg e
