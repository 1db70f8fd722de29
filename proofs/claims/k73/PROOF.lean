import PyProof.Rows.All
import Wide.All
import OpenK.AllK
import Wide.FinOn
import Lean
import PyProof.EqAt
import PyProof.EqKinds
import PyProof.TupleCall
import OpenK.KRaise
import PySem.SetOps
import PyProof.SetKind
import PyProof.DictStraight
import PyProof.CollectWalk
import PyProof.Seq
import PyProof.Walks
import PyProof.FactsAll.set
import PyProof.Rows.SortShell
import PyProof.Rows.SortWalk
import PyProof.Rows.SetFrom
import PyProof.SumAny
import PyProof.ListRange
import PyProof.EnumMake
import KE.KDictList
import KE.KRevIter
import KE.BitLaws
import PyProof.Rows.MinMaxN
import PyProof.DictDisplay
import KE.KRevSl
import PyProof.PureInt
import KE.KSortAsk
import PyProof.FactsAll.list_2
import KE.KEqDict
import PySem.Challenge.RW_keynests_k73_whole_by_other_names
set_option autoImplicit false
open List (all_cons all_eq_true all_map any_cons any_eq_true any_map append_assoc countP_cons count_append count_cons drop_eq_getElem_cons ext_getElem ext_getElem? filterMap_cons filter_congr filter_cons filter_sublist flatten_cons getD_eq_getElem?_getD getElem_mem length_append length_cons length_drop length_filter_le length_map length_range length_reverse length_set length_singleton length_take lookup_cons mapM_cons map_append map_congr_left map_cons map_map map_nil mem_append mem_append_left mem_append_right mem_cons mem_cons_of_mem mem_cons_self mem_filter mem_map mem_of_getElem? mem_range mergeSort_perm nodup_append nodup_cons nodup_range not_mem_nil pairwise_append pairwise_cons pairwise_map perm_ext_iff_of_nodup replicate_succ size_toArray sum_cons take_append_drop take_length take_succ)
set_option maxRecDepth 100000
set_option linter.all false
set_option Elab.async false
open PySem renaming wpAny_bind→ya,Value→yb,Shared→ye,Addr→yg,wpAny_pure→yi,FuncData→yj,wpAny→yq,starEach→yu,Program→yy,model→yA,mainGlobals→yE,Str→yF,Expr→yG,sizeLine→yI,World→yJ,bootBuiltins→yL,Around→yM,wpAny_call_entry→yO,wpAny_newObj_type→yT,mem_of_lookup→yV,wpAny_callSpecial?_slot→yX,sizeLine_eq→yZ,Stmt→Yb,wpAny_holding→Yc,Heap→Ye,compareOp→Yl,cellsFrom→Ym,eval→Yx,rawInt→YD,attributeBase→YG,assignEach→YI,foldedSetIterable→YJ,wpAny_setState_of→YL,wpAny_field→YM,wpAny_ite_split→YQ,codeAny_builtin→YR,wpAny_mono→YT,Builtin→YW,backTo→YY,NameKind→YZ,Obj→xa,wpAny_truthy_bool→xb,wpAny_loadPart'→xf,SetTable→xm,wpAny_passesOwn→xq,wpAny_specialOf→xr,codeAny_mono→xt,wpAny_typeOf→xu,call_meets→xy,plainId_quiet→xz,Keyword→xF,wpAny_setEntries_of→xG,binaryOp→xH,wpAny_setField→xK,wpAny_Call_Name_kw→xP,wpAny_setField_rec→xR,builtinLookup_eq_fast→xW,Scope→xY,wpAny_pyIter_list→xZ,Pos→Xd,keywordEach→Xf,PyData→Xh
open List renaming getElem?_eq_getElem→yc,range→yd,getElem?_map→yh,getElem?_append_left→yn,replicate→yo,getElem?_eq_none→yx,getElem?_append_right→yH,getElem?_range→yR,getElem?_set_ne→yW,getElem?_replicate→Yi,getElem?_set_self→Yn,take_of_length_le→xi,flatten_replicate_singleton→xv,eraseIdx_cons_succ→xI,length→xM,length_replicate→xU,mem_of_mem_take→Xk
open PySem.Heap renaming get?_push_of_some→yf,lt_size→ym,get?_push_size→yp,get?_update_self→Yh,SameBut→Yr,size_push→Yw,get?_update_other→xh
open Nat renaming le_refl→yk,ne_of_lt→yw,lt_of_lt_of_le→yC,le_trans→yD,zero_le→yP,lt_succ_of_lt→yY,lt_succ_self→Yd,ne_of_gt→Yg,lt_irrefl→Yj,le_of_lt→Yq,lt_of_not_le→xL,le_succ→xN
open Option renaming bind_some→yr,map_some→YO
open PySem.NameKind renaming free→yt,cell→yK
open Bool renaming false_ne_true→yv,and_eq_true→yz,eq_iff_iff→xc,false_eq_true→xl,not_eq_true'→xw,and_false→Xg
open PySem.W renaming Frag→yB,mg_none_of→YX,nsIn→Xe
open Sum renaming inl→yN
open Int renaming toNat_natCast→yQ,toNat→xT
open Option.some renaming inj→yS,injEq→Xb
open PySem.Obj renaming mapSeq→yU,data_mapFields→Yv,isFreed_of_fields→xo
open Ne renaming symm→Yk
open PySem.Value renaming type→Yo,none→YC,ref→YE
open PySem.Builtin.List renaming listExtendWith→Yp,listTooLong→YV,listLengthHint→xj,listSameRef→xA,listItems→xS
open PySem.Heap.SameBut renaming update→Ys
open PyProof.Rows renaming seqObj→Yt,callWith_type1→YF,slot_tuple_getitem→YS,IntsAre→Xl,listItems_at→Xm
open PySem.PyData renaming eqv→Yu,eqvAll→YH,strOk→xQ
open PySem.Around renaming under_plainId→Yy
open PySem.Builtin.SmallTypes renaming nextOf→Yz
open PySem.SetTable renaming below→YA,grown→Xj
open List.cons renaming inj→YB
open PySem.Str renaming ofString→YK
open ForInStep renaming yield→YN
open PySem.Builtin.Tuple renaming tupleExact→YU
open PyProof.Rows.F renaming plain_set_update_loop→xg
open PySem.Challenge renaming rw_keynests_k73_whole_by_other_names→xk
open PySem.F renaming slot_tuple_iterator_next→xn,slot_enumerate_next→xX
open PySem.Builtin.Slice renaming slicePlaces→xp
open PySem.AutoSeq1 renaming wpAny_loadPart'→xB
open Function renaming comp→xC
open List.Pairwise renaming imp_of_mem→xD
open Array renaming length_toList→xE,getElem?_toList→xV,getD→Xi
open Classical renaming propDecidable→xJ
open False renaming elim→xO
open PySem.SetTable.below renaming go→Xa
open List.Sublist renaming refl→Xc
noncomputable section
namespace M
open PySem PySem.W PyProof.Rows
def kOf(as:List yg)(h:Ye):Frag:=as.filterMap λa=>(h.get? a).map λo=>(a,o)
def zfz(h:Ye):Frag:=kOf (yd h.objs.size) h
def zxy(s:Yb):Arguments:=match s with
 |.FunctionDef _ a _ _ _ _ _ _ _ _=>a
 |_=>{posonlyargs:=[],args:=[],vararg:=none,kwonlyargs:=[],kw_defaults:=[],kwarg:=none,defaults:=[]}
def z5x(s:Yb):List Yb:=match s with
 |.FunctionDef _ _ b _ _ _ _ _ _ _=>b
 |_=>[]
def zTu(s:Yb):xY:=match s with
 |.FunctionDef _ _ _ _ _ _ sc _ _ _=>sc
 |_=>{kind:=.function,names:=[],isGenerator:=false,isCoroutine:=false }
def zrB(s:Yb):Xd:=match s with
 |.FunctionDef _ _ _ _ _ _ _ _ _ p=>p
 |_=>⟨0,0,0,0⟩
structure TQ where
 name:yF
 qual:yF
 params:Arguments
 body:FuncBody
 scope:xY
 globals:yg
 closure:List (yF×yg)
 defaults:yb
 builtins:yg
 code:Bool
 keep:Bool
def zdr(K:Frag)(a:yg)(qual:yF):Option TQ:=match K.lookup a with
 |some ⟨_,_,.func fd,_⟩=>some ⟨fd.name,fd.qualname,fd.params,fd.body,fd.scope,fd.globals,fd.closure,fd.defaults,fd.builtins,codeIn K fd.code qual,keepIn K (.ref a)⟩
 |_=>none
def zQ(K:Frag)(nm:yF):Option TQ:=match nsIn K yE nm with
 |some (some (.ref a))=>zdr K a nm
 |_=>none
def zbt(nm qual:yF)(st:Yb):Option TQ:=some ⟨nm,qual,zxy st,.stmts (z5x st),zTu st,yE,[],.none,builtinsNs,true,true⟩
def zS(nm:yF)(st:Yb):Option TQ:=zbt nm nm st
def zHv{p q:yy}{loose:List yF}{α:Type}{Yf:ye->α}{y:α}{N:Nat}(h1:LeftO p q loose (λ_=>true) (λ_=>()) (λ_=>()) N)(h2:∀w,(openEnds treeTable p w N).map Yf=some y):LeftO p q loose (λ_=>true) Yf (λ_=>y) N:=λw=>by
 obtain⟨s,e,a⟩:=Option.map_eq_some_iff.mp (h1 w);obtain⟨s',e',b⟩:=Option.map_eq_some_iff.mp (h2 w);rw[e]at e';cases e';rw[e];show some (_,Yf s)=some (_,y);rw[b];exact congrArg (λz=>some (z.1,y)) a
end M
namespace Hd
open PySem PySem.Spec PyProof.Rows M
def top(i:Nat):Yb:=PySem.Challenge.pw_keynests_k73_whole_by_other_names.main.body.getD i (.Pass ⟨0,0,0,0⟩)
def qv:yy:={PySem.Challenge.pw_keynests_k73_whole_by_other_names with main:={PySem.Challenge.pw_keynests_k73_whole_by_other_names.main with body:=[top 63]}}
def lse:List yF:=(PySem.Challenge.pw_keynests_k73_whole_by_other_names.main.scope.names.map (·.1)).filter λx=>!(x == "law")
def dl:DefRec:={name:="law",params:=zxy (top 63),body:=z5x (top 63),scope:=zTu (top 63),pos:=zrB (top 63)}
def obs(K:yB):List (Option TQ)×List (Option (Option yb)):=([zQ K "_law_mixed",zQ K "_law_cell_at",zQ K "_law_pen",zQ K "_law_take",zQ K "_law_web",zQ K "placed",zQ K "keys_named",zQ K "_law_order",zQ K "nests_named",zQ K "falling",zQ K "lying",zQ K "pushes_to",zQ K "left",zQ K "row_to",zQ K "put_in",zQ K "fault",zQ K "is_push",zQ K "follows",zQ K "pushed",zQ K "laid_more",zQ K "laid",zQ K "homes_of",zQ K "best",zQ K "room_of",zQ K "has_home_beyond",zQ K "bound",zQ K "is_shown",zQ K "is_best",zQ K "some_named",zQ K "laying_of_keys",zQ K "nest_named",zQ K "laying_of_nests",zQ K "_law_led",zQ K "_law_best_alike",zQ K "_law_greedy",zQ K "laid_at_all",zQ K "is_crowd",zQ K "spare_key",zQ K "trimmed",zQ K "fitted",zQ K "held_to",zQ K "may_lie",zQ K "_law_key_alike",zQ K "_law_fits_alike",zQ K "_law_some",zQ K "joined_to",zQ K "part_of",zQ K "parts",zQ K "most",zQ K "_law_told_alike",zQ K "law"],[Xe K yE "all",Xe K yE "any",Xe K yE "enumerate",Xe K yE "len",Xe K yE "list",Xe K yE "range",Xe K yE "reversed",Xe K yE "set",Xe K yE "sorted",Xe K yE "sum",Xe K yE "tuple"])
def good:List (Option TQ)×List (Option (Option yb)):=([zS "_law_mixed" (top 50),zS "_law_cell_at" (top 51),zS "_law_pen" (top 53),zS "_law_take" (top 52),zS "_law_web" (top 54),zS "placed" (top 1),zS "keys_named" (top 3),zS "_law_order" (top 56),zS "nests_named" (top 2),zS "falling" (top 45),zS "lying" (top 15),zS "pushes_to" (top 20),zS "left" (top 12),zS "row_to" (top 21),zS "put_in" (top 22),zS "fault" (top 13),zS "is_push" (top 17),zS "follows" (top 18),zS "pushed" (top 19),zS "laid_more" (top 23),zS "laid" (top 14),zS "homes_of" (top 26),zS "best" (top 46),zS "room_of" (top 27),zS "has_home_beyond" (top 37),zS "bound" (top 38),zS "is_shown" (top 47),zS "is_best" (top 48),zS "some_named" (top 7),zS "laying_of_keys" (top 6),zS "nest_named" (top 4),zS "laying_of_nests" (top 5),zS "_law_led" (top 58),zS "_law_best_alike" (top 61),zS "_law_greedy" (top 55),zS "laid_at_all" (top 24),zS "is_crowd" (top 29),zS "spare_key" (top 30),zS "trimmed" (top 31),zS "fitted" (top 32),zS "held_to" (top 34),zS "may_lie" (top 35),zS "_law_key_alike" (top 62),zS "_law_fits_alike" (top 59),zS "_law_some" (top 57),zS "joined_to" (top 41),zS "part_of" (top 42),zS "parts" (top 43),zS "most" (top 39),zS "_law_told_alike" (top 60),zS "law" (top 63)],[some none,some none,some none,some none,some none,some none,some none,some none,some none,some none,some none])
set_option maxHeartbeats 0
def hd21:W.LeftO PySem.Challenge.rw_keynests_k73_whole_by_other_names.prog qv lse (λ_=>true) (λ_=>()) (λ_=>()) 60000:=λw=>by kernel_rfl
def hd22:∀w,(W.openEnds treeTable PySem.Challenge.rw_keynests_k73_whole_by_other_names.prog w 60000).map (λs=>obs (zfz s.heap))=some good:=λw=>by kernel_rfl
def hd2:W.LeftO PySem.Challenge.rw_keynests_k73_whole_by_other_names.prog qv lse (λ_=>true) (λs=>obs (zfz s.heap)) (λ_=>good) 60000:=zHv hd21 hd22
def hd1:PySem.Challenge.rw_keynests_k73_whole_by_other_names.wellSaid=true:=by kernel_rfl
def hd3:W.defOf qv PySem.Challenge.rw_keynests_k73_whole_by_other_names.name=some (dl,[]):=by kernel_rfl
def hd4:PySem.Challenge.rw_keynests_k73_whole_by_other_names.prog.theDef PySem.Challenge.rw_keynests_k73_whole_by_other_names.name=some (dl.params,dl.body,dl.scope):=by kernel_rfl
def hd5:W.kwWritten? dl.params.kwonlyargs dl.params.kw_defaults=some []:=by kernel_rfl
def hd6:(W.chainsOk qv&&W.opensWell PySem.Challenge.rw_keynests_k73_whole_by_other_names.prog&&(W.frees PySem.Challenge.rw_keynests_k73_whole_by_other_names.row.toRowW&&PySem.Challenge.rw_keynests_k73_whole_by_other_names.row.within.isEmpty))=true:=by kernel_rfl
def hd7:PySem.Challenge.rw_keynests_k73_whole_by_other_names.prog.bare:=⟨rfl,rfl,rfl,rfl,rfl,by decide +kernel⟩
end Hd
namespace L2
open PySem PySem.Spec PyProof.Rows
abbrev Key:=Sum Int yF
def zZp:Key->yb->Bool
 |.inl k,v=>Value.isInt k v
 |.inr x,v=>Value.isStrOf x v
def zuB(w:yJ):Key->Int
 |.inl k=>hashInt k
 |.inr x=>hashStr w x
def zqb:∀{k:Key} {v:yb},zZp k v=true->(∃i t,k=yN i/\v=Value.int i t)\/(∃x t,k=Sum.inr x/\v=Value.str x t)
 |.inl i,v,h=>by
  obtain⟨t,e⟩:=Value.isInt_shape (k:=i) (v:=v) h;exact .inl ⟨i,t,rfl,e⟩
 |.inr x,v,h=>by
  obtain⟨t,e⟩:=Value.isStrOf_shape (x:=x) (v:=v) h;exact .inr ⟨x,t,rfl,e⟩
def zDu(i:Int)(t:Tok):zZp (.inl i) (.int i t)=true:=by simp[zZp,Value.isInt]
def zpt(x:yF)(t:Tok):zZp (.inr x) (.str x t)=true:=by simp[zZp,Value.isStrOf]
def zOz(a b:Int):decide ((yN a:Key)=yN b)=(a==b):=by
 by_cases e:a=b
 ·subst e;simp
 ·have h:¬(yN a:Key)=yN b:=λq=>e (Sum.inl.inj q);rw[decide_eq_false h];exact(beq_eq_false_iff_ne.mpr e).symm
def zgz(a b:yF):decide ((Sum.inr a:Key)=Sum.inr b)=decide (a=b):=by
 by_cases e:a=b
 ·subst e;simp
 ·have h:¬(Sum.inr a:Key)=Sum.inr b:=λq=>e (Sum.inr.inj q);rw[decide_eq_false h,decide_eq_false e]
def zSy(a:Int)(b:yF):decide ((yN a:Key)=Sum.inr b)=false:=decide_eq_false (λq=>nomatch q)
def zLy(a:yF)(b:Int):decide ((Sum.inr a:Key)=yN b)=false:=decide_eq_false (λq=>nomatch q)
def z7b(prog:yy)(w:yJ):PySem.KeyKind prog w Key where
 is:=zZp
 hash:=zuB w
 inj:=λv a b ha hb=>by
  rcases zqb ha with ⟨i,t,rfl,rfl⟩|⟨x,t,rfl,rfl⟩
  ·rcases zqb hb with ⟨j,u,rfl,e⟩|⟨y,u,rfl,e⟩
   ·injection e with e1 _;rw[e1]
   ·exact nomatch e
  ·rcases zqb hb with ⟨j,u,rfl,e⟩|⟨y,u,rfl,e⟩
   ·exact nomatch e
   ·injection e with e1 _;rw[e1]
 byValue:=λk v h=>by
  rcases zqb h with ⟨i,t,rfl,rfl⟩|⟨x,t,rfl,rfl⟩<;>rfl
 pyHash:=λhv h=>by
  rcases zqb hv with ⟨i,t,rfl,rfl⟩|⟨x,t,rfl,rfl⟩
  ·exact wpAny_pyHash_int h
  ·exact wpAny_pyHash_str h
 eqBool:=λhu hv h=>by
  rcases zqb hu with ⟨i,t,rfl,rfl⟩|⟨x,t,rfl,rfl⟩
  ·rcases zqb hv with ⟨j,u,rfl,rfl⟩|⟨y,u,rfl,rfl⟩
   ·rw[zOz]at h;exact wpAny_eqBool_int h
   ·rw[zSy]at h;exact SeqAt.EqAt.int_str i t y u _ _ _ _ h
  ·rcases zqb hv with ⟨j,u,rfl,rfl⟩|⟨y,u,rfl,rfl⟩
   ·rw[zLy]at h;exact SeqAt.EqAt.str_int x t j u _ _ _ _ h
   ·rw[zgz]at h;exact wpAny_eqBool_str h
 «strs»:=λk x t v h=>by
  rcases zqb h with ⟨i,u,rfl,e⟩|⟨y,u,rfl,e⟩
  ·exact nomatch e
  ·injection e with e1 _;subst e1;cases v<;>rfl
def zKj(prog:yy)(w:yJ)(k:Key)(v:yb):(z7b prog w).is k v=zZp k v:=rfl
def zIq(prog:yy)(w:yJ)(i:Int)(t:Tok):(z7b prog w).is (.inl i) (.int i t)=true:=zDu i t
def zXp(prog:yy)(w:yJ)(x:yF)(t:Tok):(z7b prog w).is (.inr x) (.str x t)=true:=zpt x t
inductive V where
 |non|bl (b:Bool)|int (i:Int)|str (x:yF)|byt (b:Array UInt8)|flt (b:UInt64)|ref (a:yg)|ty (n:String)
 deriving DecidableEq
def RelV:V->yb->Prop
 |.non,u=>u=YC
 |.bl b,u=>u=Value.bool b
 |.int i,u=>∃t,u=Value.int i t
 |.str x,u=>∃t,u=Value.str x t
 |.byt b,u=>∃t,u=Value.bytes b t
 |.flt b,u=>∃t,u=Value.float b t
 |.ref a,u=>u=YE a
 |.ty n,u=>u=Yo n
abbrev Vals:List V->List yb->Prop:=Paired RelV
def Vals.length{xs:List V}{us:List yb}(r:Vals xs us):xs.length=us.length:=Paired.length r
def Vals.get:∀{xs:List V} {us:List yb} {i:Nat} {x:V},Vals xs us->xs[i]?=some x->∃u,us[i]?=some u/\RelV x u
 |_,_,_,_,.nil,e=>by simp at e
 |_,_,0,_,.cons r _,e=>by simp at e;subst e;exact⟨_,rfl,r⟩
 |_,_,i+1,x,.cons _ t,e=>by
  obtain⟨u,h1,h2⟩:=Vals.get (i:=i) (x:=x) t (by simpa using e);exact⟨u,by simpa using h1,h2⟩
def Vals.set{x:V}{u:yb}(r:RelV x u):∀{xs:List V} {us:List yb} (i:Nat),Vals xs us->Vals (xs.set i x) (us.set i u)
 |_,_,_,.nil =>.nil
 |_,_,0,.cons _ t =>.cons r t
 |_,_,i+1,.cons q t =>.cons q (Vals.set r i t)
def Vals.append:∀{xs ys:List V} {us ws:List yb},Vals xs us->Vals ys ws->Vals (xs++ys) (us++ws)
 |_,_,_,_,.nil,s=>s
 |_,_,_,_,.cons r t,s =>.cons r (Vals.append t s)
def Vals.take:∀{xs:List V} {us:List yb} (n:Nat),Vals xs us->Vals (xs.take n) (us.take n)
 |_,_,0,_ =>.nil
 |_,_,_+1,.nil =>.nil
 |_,_,n+1,.cons r t =>.cons r (Vals.take n t)
def Vals.drop:∀{xs:List V} {us:List yb} (n:Nat),Vals xs us->Vals (xs.drop n) (us.drop n)
 |_,_,0,r=>r
 |_,_,_+1,.nil =>.nil
 |_,_,n+1,.cons _ t=>Vals.drop n t
def sI:Option V->Option yb->Prop
 |some v,some u=>RelV v u
 |none,none=>True
 |_,_=>False
def KV{κ:Type}:List (κ×V)->List (κ×yb)->Prop:=Paired λ(p:κ×V) (q:κ×yb)=>p.1=q.1/\RelV p.2 q.2
def kV:Key->V
 |.inl i =>.int i
 |.inr x =>.str x
inductive HO where
 |lst (xs:List V)
 |tup (xs:List V)
 |dK (kvs:List (Key×V))|dT (kvs:List (List Key×V))
 |set (S:Int->Bool) (n:Nat)
 |ins (C dx:yg) (fs:List (yF×V))
 |own (x:yg)
 |xd (fs:List (yF×V))
 |met (f x:yg)
 |rng (lo hi:Int)
 |frz (o:xa) (u:HO)
 |tbl (ps:Array yb)
 |ext (G:Ye->Prop)
abbrev Hp:=yg->Option HO
def upd(H:Hp)(a:yg)(o:HO):Hp:=λb=>if b=a then some o else H b
def zH{H:Hp}{a:yg}{o:HO}:upd H a o a=some o:=by unfold upd;rw[if_pos rfl]
def zeb{H:Hp}{a b:yg}{o:HO}(h:b≠a):upd H a o b=H b:=by unfold upd;rw[if_neg h]
def zV{H:Hp}{a b:yg}{o:HO}(h:H a=some o)(h':H b=none):a≠b:=by
 intro e;subst e;rw[h]at h';cases h'
section
variable (P:yy)(w:yJ)
def tQ(H:Hp)(h:Ye)(a:yg):HO->Prop
 |.lst xs=>xs.length<=yI/\∃(its:List yb)(n:Nat),Vals xs its/\h.get? a=some {cls:=.type "list",data:=.seq its.toArray n }
 |.tup xs=>xs.length<=yI/\∃its:List yb,Vals xs its/\IsTup h a its.toArray
 |.dK kvs=>kvs.length<=yI/\(a==sysModules)=false/\∃vs,KV kvs vs/\h.DictOf (z7b P w) a vs
 |.dT kvs=>kvs.length<=yI/\(a==sysModules)=false/\∃xs:List (List Key×yg×yb),
  Paired (λ(p:List Key×V) (q:List Key×yg×yb)=>p.1=q.1/\H q.2.1=some (.tup (p.1.map kV))/\RelV p.2 q.2.2) kvs xs /\
  ∃o es ep,h.get? a=some o/\o.ExactDict/\o.data=.dict es ep/\es.toList=xs.map (entryOfKey (tupleKind (z7b P w)))/\(xs.map (·.1)).Nodup
 |.set S n=>h.SetOf (intKind P w) a S n
 |.ins C dx fs=>H dx=some (.own a)/\fs.length<=1000/\dx≠a/\h.get? a=some (W.instObj C dx) /\
  ∃mA,h.Ns1 dx mA/\(∀f,sI (fs.lookup f) (mA f))/\PySem.Within mA (fs.map (·.1))
 |.own _=>∃o,h.get? a=some o
 |.xd fs=>∃mA,h.Ns1 a mA/\∀f,sI (fs.lookup f) (mA f)
 |.rng lo hi=>∃t u v,h.get? a=some {cls:=.type "range",data:=.fields #[.int lo t,.int hi u,.int 1 v]}
 |.frz o u=>h.get? a=some o/\tQ H h a u
 |.tbl ps=>h.get? a=some {cls:=.none,data:=.fields ps }
 |.met f x=>h.get? a=some (W.methodObj (.ref f) (.ref x))
 |.ext G=>G h/\(∃o,h.get? a=some o)/\∀h1 h2:Ye,G h1->(∀o,h1.get? a=some o->h2.get? a=some o)->G h2
def HOk(H:Hp)(h:Ye):Prop:=∀a o,H a=some o->tQ P w H h a o
variable {P:yy}{w:yJ}{H H':Hp}{h h':Ye}{a:yg}{o:HO}
def tQ.lt(x:tQ P w H h a o):a<h.objs.size:=by
 cases o with
 |lst xs=>obtain⟨_,_,_,_,e⟩:=x;exact ym e
 |tup xs=>obtain⟨_,_,_,p⟩:=x;exact p.lt
 |dK kvs=>obtain⟨_,_,_,_,o,_,_,e,_⟩:=x;exact ym e
 |dT kvs=>obtain⟨_,_,_,_,o,_,_,e,_⟩:=x;exact ym e
 |set S n=>obtain⟨o,_,_,_,e,_⟩:=x;exact ym e
 |ins C dx fs=>obtain⟨_,_,_,e,_⟩:=x;exact ym e
 |own y=>obtain⟨_,e⟩:=x;exact ym e
 |xd fs=>obtain⟨_,⟨_,_,_,e,_⟩,_⟩:=x;exact ym e
 |rng lo hi=>obtain⟨_,_,_,e⟩:=x;exact ym e
 |frz ob u=>obtain⟨e,_⟩:=x;exact ym e
 |tbl ps=>exact ym (show h.get? a=some _ from x)
 |met f y=>exact ym (show h.get? a=some _ from x)
 |ext G=>obtain⟨_,⟨_,e⟩,_⟩:=x;exact ym e
def Paired.mapP{α β:Type}{F φ:α->β->Prop}:∀{l₁:List α} {l₂:List β},Paired F l₁ l₂->(∀a b,F a b->φ a b)->Paired φ l₁ l₂
 |_,_,.nil,_ =>.nil
 |_,_,.cons r t,f =>.cons (f _ _ r) (Paired.mapP t f)
def tQ.stay(x:tQ P w H h a o)(k:∀b u,(b=a\/H b=some (.own a))->h.get? b=some u->h'.get? b=some u)
 (ho:∀b,H b=some (.own a)->H' b=some (.own a)) (ht:∀b xs,H b=some (.tup xs)->H' b=some (.tup xs)):tQ P w H' h' a o:=by
 induction o with
 |lst xs=>obtain⟨z,its,n,r,e⟩:=x;exact⟨z,its,n,r,k _ _ (.inl rfl) e⟩
 |tup xs=>obtain⟨z,its,r,ob,e,c⟩:=x;exact⟨z,its,r,ob,k _ _ (.inl rfl) e,c⟩
 |dK kvs=>obtain⟨z,y,vs,r,ob,es,ep,e,c⟩:=x;exact⟨z,y,vs,r,ob,es,ep,k _ _ (.inl rfl) e,c⟩
 |dT kvs=>
  obtain⟨z,y,xs,r,ob,es,ep,e,c⟩:=x;exact⟨z,y,xs,Paired.mapP r λp q z=>⟨z.1,ht _ _ z.2.1,z.2.2⟩,ob,es,ep,k _ _ (.inl rfl) e,c⟩
 |set S n=>obtain⟨ob,es,ep,t,e,c⟩:=x;exact⟨ob,es,ep,t,k _ _ (.inl rfl) e,c⟩
 |ins C dx fs=>
  obtain⟨d,z,ne,e,mA,⟨od,es,ep,e2,c⟩,r⟩:=x;exact⟨ho _ d,z,ne,k _ _ (.inl rfl) e,mA,⟨od,es,ep,k _ _ (.inr d) e2,c⟩,r⟩
 |own y=>obtain⟨ob,e⟩:=x;exact⟨ob,k _ _ (.inl rfl) e⟩
 |xd fs=>obtain⟨mA,⟨od,es,ep,e,c⟩,r⟩:=x;exact⟨mA,⟨od,es,ep,k _ _ (.inl rfl) e,c⟩,r⟩
 |rng lo hi=>obtain⟨t,u,v,e⟩:=x;exact⟨t,u,v,k _ _ (.inl rfl) e⟩
 |frz ob u ih=>obtain⟨e,q⟩:=x;exact⟨k _ _ (.inl rfl) e,ih q⟩
 |tbl ps=>
  have e:h.get? a=some {cls:=.none,data:=.fields ps }:=x;show h'.get? a=some {cls:=.none,data:=.fields ps };exact k a _ (.inl rfl) e
 |met f y=>
  have e:h.get? a=some (W.methodObj (.ref f) (.ref y)):=x;show h'.get? a=some (W.methodObj (.ref f) (.ref y));exact k a _ (.inl rfl) e
 |ext G=>obtain⟨p,⟨o,e⟩,st⟩:=x;exact⟨st _ _ p λo q=>k _ _ (.inl rfl) q,⟨o,k _ _ (.inl rfl) e⟩,st⟩
def HOk.lt(x:HOk P w H h)(e:H a=some o):a<h.objs.size:=(x a o e).lt
def HOk.fresh(x:HOk P w H h)(e:h.objs.size<=a):H a=none:=by
 cases q:H a with
 |none=>rfl
 |some u=>exact absurd (yC (x.lt q) e) (Yj _)
def HOk.kept(x:HOk P w H h)(k:∀b u,h.get? b=some u->h'.get? b=some u):HOk P w H h':=λa o e=>
 (x a o e).stay (λb u _ q=>k b u q) (λ_ q=>q) λ_ _ q=>q
def HOk.laid(x:HOk P w H h)(k:∀b u,h.get? b=some u->h'.get? b=some u)(hp:h.objs.size<=a)(new:tQ P w (upd H a o) h' a o):HOk P w (upd H a o) h':=λb u e=>by
 have hn:=x.fresh hp
 by_cases hb:b=a
 ·subst hb;rw[zH]at e;cases e;exact new
 ·rw[zeb hb]at e;exact(x b u e).stay (λc v _ q=>k c v q) (λc q=>by rw[zeb (zV q hn)];exact q) λc xs q=>by rw[zeb (zV q hn)];exact q
end
def Rd(H:Hp)(a:yg)(u:HO):Prop:=H a=some u\/∃o,H a=some (.frz o u)
def Rd.ok{P:yy}{w:yJ}{H:Hp}{h:Ye}{a:yg}{u:HO}(r:Rd H a u)(x:HOk P w H h):tQ P w H h a u:=by
 rcases r with r|⟨o,r⟩
 ·exact x a u r
 ·obtain⟨_,q⟩:=x a _ r;exact q
def Mut:Option HO->Prop
 |some (.lst _)=>True
 |some (.dK _)=>True
 |some (.dT _)=>True
 |some (.set _ _)=>True
 |some (.ins _ _ _)=>True
 |some (.ext _)=>True
 |_=>False
section
variable {P:yy}{w:yJ}{H:Hp}{h h':Ye}{x e:yg}{o':HO}
def HOk.write(ok:HOk P w H h)(mu:Mut (H x))(he:e=x\/H e=some (.own x))(k:∀b u,b≠e->h.get? b=some u->h'.get? b=some u)(heo:∃u,h'.get? e=some u)
 (new:tQ P w (upd H x o') h' x o'):HOk P w (upd H x o') h':=λb u q=>by
 have nown:∀c y,H c=some (.own y)->c≠x:=λc y r z=>by subst z;rw[r]at mu;exact mu
 have ntup:∀c xs,H c=some (.tup xs)->c≠x:=λc xs r z=>by subst z;rw[r]at mu;exact mu
 by_cases hb:b=x
 ·subst hb;rw[zH]at q;cases q;exact new
 ·rw[zeb hb]at q
  by_cases hbe:b=e
  ·have q':H b=some (.own x):=by
    rcases he with z|z
    ·exact absurd (hbe.trans z) hb
    ·rw[hbe];exact z
   rw[q]at q';cases q';obtain⟨v,hv⟩:=heo;exact⟨v,by rw[hbe];exact hv⟩
  ·refine(ok b u q).stay (λc v hc r=>k c v ?_ r) (λc r=>by rw[zeb (nown c b r)];exact r) λc xs r=>by rw[zeb (ntup c xs r)];exact r
   rcases hc with rfl|hc
   ·exact hbe
   ·rintro rfl;rcases he with z|z
    ·exact nown c b hc z
    ·rw[hc]at z;cases z;exact hb rfl
end
structure Un(fs ex:List yg)(H H':Hp)(h h':Ye):Prop where
 keep:∀b o,h.get? b=some o->H b=none->b∉fs->b∉ex->h'.get? b=some o
 slot:∀b o,h.get? b=some o->H b=none->b∈fs->b∉ex->∃sl,h'.get? b=some {o with slots:=sl }
 free:∀b o,h.get? b=some o->H b=none->b∉ex->H' b=none
 there:∀b o,h.get? b=some o->b∉ex->∃o',h'.get? b=some o'
 tups:∀b xs,H b=some (.tup xs)->H' b=some (.tup xs)
 su:∀b o u,H b=some (.frz o u)->H' b=some (.frz o u)
 sC:∀b ps,H b=some (.tbl ps)->∃more,H' b=some (.tbl (ps++more))
section
variable {fs fs' ex ex':List yg}{H H1 H2:Hp}{h h1 h2 h':Ye}{a x e:yg}{o:HO}
def Un.any(u:Un fs ex H H1 h h1){b:yg}{ob:xa}(q:h.get? b=some ob)(n:H b=none)(hx:b∉ex):∃sl,h1.get? b=some {ob with slots:=sl }:=by
 by_cases hb:b∈fs
 ·exact u.slot b ob q n hb hx
 ·exact⟨ob.slots,u.keep b ob q n hb hx⟩
def Un.kept(k:∀b u,h.get? b=some u->h'.get? b=some u):Un fs ex H H h h' :=
 ⟨λb ob q _ _ _=>k b ob q,λb ob q _ _ _=>⟨ob.slots,k b ob q⟩,λ_ _ _ n _=>n,λb ob q _=>⟨ob,k b ob q⟩,λ_ _ q=>q,λ_ _ _ q=>q,λ_ ps q=>⟨#[],by rw[q];simp⟩⟩
def Un.refl:Un fs ex H H h h:=Un.kept λ_ _ q=>q
def Un.laid(k:∀b u,h.get? b=some u->h'.get? b=some u)(hp:h.objs.size<=a)(hn:H a=none):Un fs ex H (upd H a o) h h' where
 keep:=λb u q _ _ _=>k b u q
 slot:=λb u q _ _ _=>⟨u.slots,k b u q⟩
 free:=λb u q n _=>by rw[zeb (yw (yC (ym q) hp))];exact n
 there:=λb u q _=>⟨u,k b u q⟩
 tups:=λb xs q=>by rw[zeb (zV q hn)];exact q
 su:=λb u xs q=>by rw[zeb (zV q hn)];exact q
 sC:=λb ps q=>⟨#[],by rw[zeb (zV q hn),q];simp⟩
def Un.write(mu:Mut (H x))(he:e=x\/H e=some (.own x))(k:∀b u,b≠e->h.get? b=some u->h'.get? b=some u)(heo:∃u,h'.get? e=some u):Un fs ex H (upd H x o) h h':=by
 have hx:∀b,H b=none->b≠x:=λb n z=>by subst z;rw[n]at mu;exact mu
 have hb:∀b,H b=none->b≠e:=λb n z=>by
  subst z;rcases he with r|r
  ·exact hx b n r
  ·rw[n]at r;cases r
 have hm:∀b u,H b=some u->¬Mut (some u)->b≠x:=λb u q nm z=>by subst z;rw[q]at mu;exact nm mu
 refine⟨λb u q n _ _=>k b u (hb b n) q,λb u q n _ _=>⟨u.slots,k b u (hb b n) q⟩,λb u q n _=>by rw[zeb (hx b n)];exact n,λb u q _=>?_,
  λb xs q=>by rw[zeb (hm b _ q λz=>z)];exact q,λb u xs q=>by rw[zeb (hm b _ q λz=>z)];exact q,λb ps q=>⟨#[],by rw[zeb (hm b _ q λz=>z),q];simp⟩⟩
 by_cases hbe:b=e
 ·subst hbe;exact heo
 ·exact⟨u,k b u hbe q⟩
end
def trk(h:Ye)(H:Hp):List yg:=(yd h.objs.size).filter λa=>(H a).isSome
def zZv(h:Ye)(H:Hp):Ye:=W.hideAll h (trk h H)
def zdu(h:Ye)(H:Hp):(zZv h H).objs.size=h.objs.size:=W.hideAll_size _ _
def zvw{h:Ye}{H:Hp}{b:yg}{o:xa}(e:h.get? b=some o)(n:H b=none):(zZv h H).get? b=some o :=
 W.hideAll_get _ e λhm=>by
  have q:(H b).isSome=true:=(List.mem_filter.mp hm).2;rw[n]at q;simp at q
def z3x{h:Ye}{H:Hp}{b:yg}{o:xa}(e:(zZv h H).get? b=some o):h.get? b=some o/\H b=none:=by
 have e':h.get? b=some o:=W.of_hideAll (trk h H) e;refine⟨e',?_⟩
 cases q:H b with
 |none=>rfl
 |some x=>
  have hm:b∈trk h H:=List.mem_filter.mpr ⟨List.mem_range.mpr (ym e'),by simp[q]⟩;have z:(zZv h H).get? b=none:=W.hideAll_none (trk h H) hm;rw[z]at e;cases e
def zFx(g h:Ye)(L:yg):List (yg×xa):=(yd h.objs.size).filterMap λa=>if a=L\/(g.get? a).isSome=true then none else(h.get? a).map λo=>(a,o)
def rest(g h:Ye)(L d:yg):List (yg×xa):=(zFx g h L).filter λp=>decide (p.1≠d)
structure Mod(K:yB)(mg:yF->Option yb)(base:Ye):Prop where
 kin:K.In base
 glob:base.Ns yE mg
 blt:∃mb,base.Ns builtinsNs mb/\∀x:yF,x≠"__name__"->mb x=yL x
 nolimit:base.NoLimit
structure Cx where
 prog:yy
 w:yJ
 K:yB
 mg:yF->Option yb
 base:Ye
 A:yM
 N:List yF
 s₀:ye
 H₀:Hp
 env:Env
 outer:List Env
 stack:List Env
 ex:List yg
 fn:yF->Bool
 calm:Bool
 pn:List (yg×xa)
 xe:yb->ye->Prop
def frs(l:List Env):List yg:=l.filterMap (·.frame)
abbrev Cx.fs(X:Cx):List yg:=frs X.outer
def Vis(sc:xY)(x:yF):Prop:=sc.names.lookup x=some .local\/sc.names.lookup x=some .cell\/sc.names.lookup x=some .free
def Loc(sc:xY)(x:yF):Prop:=sc.names.lookup x=some .local\/sc.names.lookup x=some .cell
def ztB(env:Env)(h:Ye)(m:yF->Option yb)(x:yF)(u:yb):Prop :=
 (env.kindOf x=some .local/\m x=some u)\/((env.kindOf x=some .cell\/env.kindOf x=some .free)/\∃c,env.cells.lookup x=some c/\h.IsCell c (some u))
structure Cx.Ok(X:Cx):Prop where
 mod:Mod X.K X.mg X.base
 kind:X.env.scope.kind=.function
 glob:X.env.globals=yE
 blt:X.env.builtins=builtinsNs
 above:X.s₀.heap.objs.size<=X.env.locals
 inj:∀x y c,X.env.cells.lookup x=some c->X.env.cells.lookup y=some c->x=y
 has:∀x,(X.env.kindOf x=some .cell\/X.env.kindOf x=some .free)->∃c,X.env.cells.lookup x=some c
 cab:∀x c,X.fn x=true->X.env.cells.lookup x=some c->X.s₀.heap.objs.size<=c
 hd:X.calm=true->X.A.handled=none
 frames:X.A.frames=some X.stack
 stk:X.stack=X.outer\/(X.stack=X.env::X.outer/\X.env.frame=some X.env.locals)
 exf:∀b∈X.ex,b≠X.env.locals/\∀x c,X.env.cells.lookup x=some c->c≠b
 bs:∀b o,X.base.get? b=some o->X.s₀.heap.get? b=some o/\X.H₀ b=none
 bsz:X.base.objs.size<=X.s₀.heap.objs.size
 Sd:∀b o,X.base.get? b=some o->b∉X.ex
 exfs:∀b∈X.ex,b∉X.fs
 TZ:X.s₀.heap.FunFrames X.base X.outer
 frf:∀b∈X.fs,X.H₀ b=none
structure Inv(X:Cx)(U:List (yg×xa))(Y:List (Option V))(H:Hp)(s:ye):Prop where
 ok:X.Ok
 os:s.os=X.s₀.os
 bare:AllBare s.gens
 base:Un X.fs X.ex X.H₀ H X.s₀.heap s.heap
 loc:∃m,s.heap.Ns X.env.locals m/\∀(i:Nat)(x:yF)(v:V),X.N[i]?=some x->Y[i]?=some (some v)->Vis X.env.scope x->∃u,RelV v u/\ztB X.env s.heap m x u
 cell:∀x c,X.env.cells.lookup x=some c->∃v,s.heap.IsCell c v
 free:H X.env.locals=none
 freeC:∀x c,X.env.cells.lookup x=some c->H c=none
 pin:∀p∈X.pn++U,s.heap.get? p.1=some p.2/\H p.1=none/\p.1≠X.env.locals/\p.1∉X.fs/\∀v,p.2.data≠.cell v
 hok:HOk X.prog X.w H s.heap
 len:Y.length=X.N.length
section
variable {X:Cx}{U:List (yg×xa)}{Y:List (Option V)}{H H':Hp}{s:ye}{h':Ye}
def Cx.Ok.nofr(ok:X.Ok){b:yg}{o:xa}(e:X.base.get? b=some o):b∉X.fs:=λhb=>by
 have:=(ok.TZ.mem hb).1;rw[e]at this;cases this
def Inv.bs(I:Inv X U Y H s):∀b o,X.base.get? b=some o->s.heap.get? b=some o/\H b=none:=λb o e=>
 ⟨I.base.keep b o (I.ok.bs b o e).1 (I.ok.bs b o e).2 (I.ok.nofr e) (I.ok.Sd b o e),I.base.free b o (I.ok.bs b o e).1 (I.ok.bs b o e).2 (I.ok.Sd b o e)⟩
def Inv.bk(I:Inv X U Y H s):∀b o,X.base.get? b=some o->s.heap.get? b=some o:=λb o e=>(I.bs b o e).1
def Inv.mod(I:Inv X U Y H s):Mod X.K X.mg X.base:=I.ok.mod
def Inv.kIn(I:Inv X U Y H s):X.K.In s.heap:=I.ok.mod.kin.keeps I.bk
def Inv.fr(I:Inv X U Y H s):∃m,Fr X.base X.env.locals s.heap m :=
 let ⟨m,hn,_⟩:=I.loc
 ⟨m,hn,I.bk,yD I.ok.bsz I.ok.above⟩
def Inv.lt(I:Inv X U Y H s):X.env.locals<s.heap.objs.size:=let ⟨_,hn,_⟩:=I.loc;hn.lt
def Inv.sz(I:Inv X U Y H s):X.s₀.heap.objs.size<=s.heap.objs.size:=yD I.ok.above (Yq I.lt)
def Inv.nofs(I:Inv X U Y H s){a:yg}(h:s.heap.objs.size<=a):a∉X.fs:=λhb=>by
 obtain⟨_,o,ho,_⟩:=I.ok.TZ.mem hb;exact absurd (yC (ym ho) (yD I.sz h)) (Yj _)
def Inv.cne(I:Inv X U Y H s):∀x c,X.env.cells.lookup x=some c->c≠X.env.locals:=λx c e z=>by
 obtain⟨v,o,ho,hd⟩:=I.cell x c e;obtain⟨m,⟨o',es,ep,ho',hd',_⟩,_⟩:=I.loc;rw[z,ho']at ho;cases ho;rw[hd']at hd;cases hd
def Inv.TZ(I:Inv X U Y H s):s.heap.FunFrames X.base X.outer:=by
 have all:∀(l:List Env),(∀b∈frs l,b∈X.fs)->X.s₀.heap.FunFrames X.base l->s.heap.FunFrames X.base l:=by
  intro l
  induction l with
  |nil=>intro _ _;trivial
  |cons env r ih=>
   intro hs hl;obtain⟨hk,⟨L,o,hf,hn,ho,hd⟩,hr⟩:=hl;have hL:L∈X.fs:=hs L (by unfold frs;rw[filterMap_cons,hf];exact mem_cons_self);obtain⟨sl,e⟩:=I.base.slot L o ho (I.ok.frf L hL) hL λz=>I.ok.exfs L z hL;exact⟨hk,⟨L,_,hf,hn,e,hd⟩,ih (λb hb=>hs b (by unfold frs;rw[filterMap_cons,hf];exact mem_cons_of_mem _ hb)) hr⟩
 exact all X.outer (λ_ hb=>hb) I.ok.TZ
def Inv.stack(I:Inv X U Y H s):s.heap.FunFrames X.base X.stack:=by
 rcases I.ok.stk with e|⟨e,hf⟩
 ·rw[e];exact I.TZ
 ·rw[e];obtain⟨m,hn,_⟩:=I.loc;refine .cons (by rw[I.ok.kind];decide) hf hn ?_ I.TZ;exact Heap.get?_none_of_le (yD I.ok.bsz I.ok.above)
def Inv.sD(I:Inv X U Y H s):∀b∈frs X.stack,b∈X.env.locals::X.fs:=λb hb=>by
 rcases I.ok.stk with e|⟨e,hf⟩
 ·rw[e]at hb;exact mem_cons_of_mem _ hb
 ·rw[e]at hb;unfold frs at hb;rw[filterMap_cons,hf]at hb;exact hb
def Inv.sU(I:Inv X U Y H s):∀b∈frs X.stack,H b=none:=λb hb=>by
 rcases List.mem_cons.mp (I.sD b hb) with e|hb
 ·rw[e];exact I.free
 ·obtain⟨_,o,ho,_⟩:=I.ok.TZ.mem hb;exact I.base.free b o ho (I.ok.frf b hb) λz=>I.ok.exfs b z hb
def Inv.step{g':Array GenState}{t':Nat}{d':Drawn}{ch:List yg}(I:Inv X U Y H s)
 (hch:∀b∈ch,(b∈X.ex\/X.s₀.heap.objs.size<=b)/\b≠X.env.locals/\(∀x c,X.env.cells.lookup x=some c->c≠b)/\∀p∈X.pn++U,p.1≠b)
 (keep:∀b o,b≠X.env.locals->b∉X.fs->b∉ch->s.heap.get? b=some o->H b=none->h'.get? b=some o)
 (slot:∀b o,b≠X.env.locals->b∈X.fs->b∉ch->s.heap.get? b=some o->H b=none->∃sl,h'.get? b=some {o with slots:=sl }) (free:∀b o,b∉ch->s.heap.get? b=some o->H b=none->H' b=none)
 (there:∀b o,b∉ch->s.heap.get? b=some o->∃o',h'.get? b=some o')
 (tups:∀b xs,H b=some (.tup xs)->H' b=some (.tup xs)) (su:∀b o u,H b=some (.frz o u)->H' b=some (.frz o u)) (sC:∀b ps,H b=some (.tbl ps)->∃more,H' b=some (.tbl (ps++more)))
 (ns:∀m,s.heap.Ns X.env.locals m->h'.Ns X.env.locals m) (hok:HOk X.prog X.w H' h') (hg:AllBare g') :
 Inv X U Y H' {s with heap:=h',gens:=g',drawn:=d',toks:=t' }:=by
 have neL:∀b o,X.s₀.heap.get? b=some o->b≠X.env.locals:=λb o e=>yw (yC (ym e) I.ok.above)
 have neC:∀b o,X.s₀.heap.get? b=some o->b∉X.ex->b∉ch:=λb o e hx hb=>by
  rcases(hch b hb).1 with z|z
  ·exact hx z
  ·exact absurd (yC (ym e) z) (Yj _)
 have cellK:∀x c,X.env.cells.lookup x=some c->∀v,s.heap.IsCell c v->h'.IsCell c v:=λx c e v ⟨o,ho,hd⟩=>by
  have nch:c∉ch:=λz=>(hch c z).2.2.1 x c e rfl
  by_cases hc:c∈X.fs
  ·obtain⟨sl,q⟩:=slot c o (I.cne x c e) hc nch ho (I.freeC x c e);exact⟨_,q,hd⟩
  ·exact⟨o,keep c o (I.cne x c e) hc nch ho (I.freeC x c e),hd⟩
 refine⟨I.ok,I.os,hg,⟨λb o e n hb hx=>?_,λb o e n hb hx=>?_,λb o e n hx=>?_,λb o e hx=>?_,λb xs e=>tups b xs (I.base.tups b xs e),λb o xs e=>su b o xs (I.base.su b o xs e),λb ps e=>?_⟩,?_,λx c e=>?_,?_,λx c e=>?_,λp hp=>?_,hok,I.len⟩
 ·exact keep b o (neL b o e) hb (neC b o e hx) (I.base.keep b o e n hb hx) (I.base.free b o e n hx)
 ·obtain⟨sl,e1⟩:=I.base.slot b o e n hb hx;obtain⟨sl',e2⟩:=slot b _ (neL b o e) hb (neC b o e hx) e1 (I.base.free b o e n hx);exact⟨sl',e2⟩
 ·obtain⟨o',e1⟩:=I.base.there b o e hx;exact free b o' (neC b o e hx) e1 (I.base.free b o e n hx)
 ·obtain⟨o',e1⟩:=I.base.there b o e hx;exact there b o' (neC b o e hx) e1
 ·obtain⟨m1,e1⟩:=I.base.sC b ps e;obtain⟨m2,e2⟩:=sC b _ e1;exact⟨m1++m2,by rw[e2,Array.append_assoc]⟩
 ·obtain⟨m,hn,hl⟩:=I.loc;refine⟨m,ns m hn,λi x v e1 e2 e3=>?_⟩;obtain⟨u,r,l⟩:=hl i x v e1 e2 e3;refine⟨u,r,?_⟩;rcases l with l|⟨k,c,e,z⟩
  ·exact .inl l
  ·exact .inr ⟨k,c,e,cellK x c e _ z⟩
 ·obtain⟨v,z⟩:=I.cell x c e;exact⟨v,cellK x c e v z⟩
 ·obtain⟨m,⟨o,_,_,ho,_⟩,_⟩:=I.loc;exact free _ o (λz=>(hch _ z).2.1 rfl) ho I.free
 ·obtain⟨v,o,ho,hd⟩:=I.cell x c e;exact free c o (λz=>(hch c z).2.2.1 x c e rfl) ho (I.freeC x c e)
 ·obtain⟨e,n,ne,nf,d⟩:=I.pin p hp;have nch:p.1∉ch:=λz=>(hch p.1 z).2.2.2 p hp rfl;exact⟨keep p.1 p.2 ne nf nch e n,free p.1 p.2 nch e n,ne,nf,d⟩
def Inv.un{t':Nat}(I:Inv X U Y H s)(u:Un X.fs [] H H' s.heap h')(hok:HOk X.prog X.w H' h'):Inv X U Y H' {s with heap:=h',toks:=t' }:=by
 obtain⟨m,⟨o,es,ep,ho,r⟩,_⟩:=id I.loc;obtain⟨sl,hL⟩:=u.any ho I.free (by simp)
 exact I.step (g':=s.gens) (d':=s.drawn) (ch:=[]) (λ_ z=>nomatch z) (λb o _ hb _ e n=>u.keep b o e n hb (by simp)) (λb o _ hb _ e n=>u.slot b o e n hb (by simp)) (λb o _ e n=>u.free b o e n (by simp)) (λb o _ e=>u.there b o e (by simp)) u.tups u.su u.sC (λm' hm=>by
  obtain⟨o',es',ep',ho',r'⟩:=hm;rw[ho]at ho';cases ho';exact⟨_,es',ep',hL,r'⟩) hok I.bare
def Inv.call{g':Array GenState}{t':Nat}{d':Drawn}{ch:List yg}(I:Inv X U Y H s)(u:Un (frs X.stack) ch H H' s.heap h')(hok:HOk X.prog X.w H' h')(hg:AllBare g')
 (hch:∀b∈ch,(b∈X.ex\/X.s₀.heap.objs.size<=b)/\b≠X.env.locals/\(∀x c,X.env.cells.lookup x=some c->c≠b)/\∀p∈X.pn++U,p.1≠b) :
 Inv X U Y H' {s with heap:=h',gens:=g',drawn:=d',toks:=t' }:=by
 obtain⟨m,⟨o,es,ep,ho,r⟩,_⟩:=id I.loc;obtain⟨sl,hL⟩:=u.any ho I.free λz=>(hch _ z).2.1 rfl
 exact I.step (ch:=ch) hch (λb o hL hb hc e n=>u.keep b o e n (λz=>(List.mem_cons.mp (I.sD b z)).elim hL hb) hc) (λb o _ _ hc e n=>u.any e n hc) (λb o hc e n=>u.free b o e n hc) (λb o hc e=>u.there b o e hc) u.tups u.su u.sC (λm' hm=>by
  obtain⟨o',es',ep',ho',r'⟩:=hm;rw[ho]at ho';cases ho';exact⟨_,es',ep',hL,r'⟩) hok hg
def Inv.turned{t':Nat}{it:yg}(I:Inv X U Y H s)(k:∀b o,b≠it->s.heap.get? b=some o->h'.get? b=some o)(hn:H it=none)(hL:it≠X.env.locals)
 (h1:it∈X.ex\/X.s₀.heap.objs.size<=it) (h2:∀x c,X.env.cells.lookup x=some c->c≠it) (h3:∀p∈X.pn++U,p.1≠it):Inv X U Y H {s with heap:=h',toks:=t' }:=by
 have nit:∀b u,H b=some u->b≠it:=λb u e z=>by rw[z,hn]at e;cases e
 refine I.step (g':=s.gens) (d':=s.drawn) (ch:=[it]) (λb hb=>?_) (λb o _ _ hc e _=>k b o (λz=>hc (by simp[z])) e) (λb o _ _ hc e _=>⟨o.slots,k b o (λz=>hc (by simp[z])) e⟩) (λ_ _ _ _ n=>n)
  (λb o hc e=>⟨o,k b o (λz=>hc (by simp[z])) e⟩) (λ_ _ e=>e) (λ_ _ _ e=>e) (λb ps e=>⟨#[],by rw[e];simp⟩) (λm hm=>?_) (λb u e=>?_) I.bare
 ·have e:b=it:=by simpa using hb
  subst e;exact⟨h1,hL,h2,h3⟩
 ·obtain⟨o,es,ep,ho,r⟩:=hm;exact⟨o,es,ep,k _ o (Yk hL) ho,r⟩
 ·refine(I.hok b u e).stay (λc v hc q=>k c v ?_ q) (λ_ q=>q) λ_ _ q=>q;rcases hc with z|z
  ·rw[z];exact nit b u e
  ·exact nit c _ z
def Inv.tok(I:Inv X U Y H s)(t:Nat):Inv X U Y H {s with toks:=t }:=I.un (h':=s.heap) (t':=t) Un.refl I.hok
def Inv.kept{t':Nat}(I:Inv X U Y H s)(k:∀b u,s.heap.get? b=some u->h'.get? b=some u):Inv X U Y H {s with heap:=h',toks:=t' }:=I.un (Un.kept k) (I.hok.kept k)
def Inv.laid{a:yg}{o:HO}{t':Nat}(I:Inv X U Y H s)(k:∀b u,s.heap.get? b=some u->h'.get? b=some u)(hp:s.heap.objs.size<=a)(new:tQ X.prog X.w (upd H a o) h' a o) :
 Inv X U Y (upd H a o) {s with heap:=h',toks:=t' }:=I.un (Un.laid k hp (I.hok.fresh hp)) (I.hok.laid k hp new)
def Inv.write{x e:yg}{o:HO}{t':Nat}(I:Inv X U Y H s)(mu:Mut (H x))(he:e=x\/H e=some (.own x))(k:∀b u,b≠e->s.heap.get? b=some u->h'.get? b=some u)(heo:∃u,h'.get? e=some u)
 (new:tQ X.prog X.w (upd H x o) h' x o):Inv X U Y (upd H x o) {s with heap:=h',toks:=t' }:=I.un (Un.write mu he k heo) (I.hok.write mu he k heo new)
def Inv.weak{Y':List (Option V)}(I:Inv X U Y H s)(hl:Y'.length=Y.length)(w:∀(i:Nat) v,Y'[i]?=some (some v)->Y[i]?=some (some v)):Inv X U Y' H s :=
 ⟨I.ok,I.os,I.bare,I.base,let ⟨m,hn,hl'⟩:=I.loc;⟨m,hn,λi x v e1 e2 e3=>hl' i x v e1 (w i v e2) e3⟩,I.cell,I.free,I.freeC,I.pin,I.hok,hl.trans I.len⟩
def Inv.sE{U':List (yg×xa)}(I:Inv X U Y H s)(h:∀p∈U',s.heap.get? p.1=some p.2/\H p.1=none/\p.1≠X.env.locals/\p.1∉X.fs/\∀v,p.2.data≠.cell v):Inv X U' Y H s :=
 ⟨I.ok,I.os,I.bare,I.base,I.loc,I.cell,I.free,I.freeC,λp hp=>(List.mem_append.mp hp).elim (λz=>I.pin p (mem_append_left _ z)) (h p),I.hok,I.len⟩
def zDr{N:List yF}(hN:N.Nodup){i j:Nat}{x:yF}(a:N[i]?=some x)(b:N[j]?=some x):i=j:=by
 obtain⟨h1,e1⟩:=List.getElem?_eq_some_iff.mp a;obtain⟨h2,e2⟩:=List.getElem?_eq_some_iff.mp b;exact(List.getElem_inj hN).mp (e1.trans e2.symm)
def zqo{M:Model}{A:yM}{E:yb->ye->Prop}{i:Nat}{x:yF}{v:V}{u:yb}{Q:Unit->ye->Prop}(I:Inv X U Y H s)(hN:X.N.Nodup)(hi:X.N[i]?=some x)(hx:Loc X.env.scope x)(r:RelV v u)
 (h:∀s',Inv X U (Y.set i (some v)) H s'->(∃a,Yr a s.heap s'.heap/\(a=X.env.locals\/X.env.cells.lookup x=some a))->Q () s') (hf:X.fn x=true\/X.env.scope.names.lookup x=some .local:=by first|exact .inl rfl|exact .inr rfl|assumption):yq M A (storeName X.env x u) Q E s:=by
 obtain⟨m,hn,hl⟩:=id I.loc;have hcls:(X.env.scope.kind == .class||(X.env.scope.kind == .module&&X.env.locals != X.env.globals))=false:=by rw[I.ok.kind];rfl
 have hiσ:i<Y.length:=by rw[I.len];exact(List.getElem?_eq_some_iff.mp hi).1
 have cne:=I.cne
 have tracked:∀{a:yg} {h':Ye},(∃o,s.heap.get? a=some o/\H a=none)->Yr a s.heap h'->HOk X.prog X.w H h':=λ{a h'} ha hs b ob e=>by
  obtain⟨_,_,hfree⟩:=ha;refine(I.hok b ob e).stay (λc w' hc q=>(hs.2 c ?_).trans q) (λ_ q=>q) λ_ _ q=>q;rintro rfl;rcases hc with rfl|hc
  ·rw[hfree]at e;cases e
  ·rw[hfree]at hc;cases hc
 rcases hx with hk|hk
 ·refine wpAny_storeName_local hk hn (λh' hn' hs=>?_) hcls;obtain⟨oL,_,_,hoL,_⟩:=id hn;refine h _ ⟨I.ok,I.os,I.bare,⟨λb o e n hb hx=>?_,λb o e n hb hx=>?_,I.base.free,λb o e hx=>?_,I.base.tups,I.base.su,I.base.sC⟩,⟨_,hn',λj y v' e1 e2 e3=>?_⟩,λy c e=>?_,I.free,I.freeC,λp hp=>?_,tracked ⟨oL,hoL,I.free⟩ hs,by simpa using I.len⟩ ⟨_,hs,.inl rfl⟩
  ·exact(hs.2 b (yw (yC (ym e) I.ok.above))).trans (I.base.keep b o e n hb hx)
  ·obtain⟨sl,e1⟩:=I.base.slot b o e n hb hx;exact⟨sl,(hs.2 b (yw (yC (ym e) I.ok.above))).trans e1⟩
  ·obtain⟨o',e1⟩:=I.base.there b o e hx;exact⟨o',(hs.2 b (yw (yC (ym e) I.ok.above))).trans e1⟩
  ·by_cases hj:j=i
   ·subst hj;rw[hi]at e1;cases e1;rw[Yn hiσ]at e2;cases e2;exact⟨u,r,.inl ⟨hk,by simp⟩⟩
   ·rw[yW (Yk hj)]at e2;obtain⟨u',r',q⟩:=hl j y v' e1 e2 e3;refine⟨u',r',?_⟩;rcases q with ⟨k,e⟩|⟨k,c,e,z⟩
    ·refine .inl ⟨k,?_⟩;have:y≠x:=λe=>hj (zDr hN e1 (e▸hi));simp[this,e]
    ·exact .inr ⟨k,c,e,z.sameBut hs (cne y c e)⟩
  ·obtain⟨w',z⟩:=I.cell y c e;exact⟨w',z.sameBut hs (cne y c e)⟩
  ·obtain⟨e,n,ne,nf,d⟩:=I.pin p hp;exact⟨(hs.2 p.1 ne).trans e,n,ne,nf,d⟩
 ·have hfn:X.fn x=true:=by
   rcases hf with z|z
   ·exact z
   ·rw[z]at hk;cases hk
  obtain⟨c,hc⟩:=I.ok.has x (.inl hk);obtain⟨w',z⟩:=I.cell x c hc;refine wpAny_storeName_cell I.ok.kind hk hc z (λh' hc' hs=>?_);obtain⟨oc,hoc,hocd⟩:=id z;refine h {s with heap:=h' } ⟨I.ok,I.os,I.bare,⟨λb o e n hb hx=>?_,λb o e n hb hx=>?_,I.base.free,λb o e hx=>?_,I.base.tups,I.base.su,I.base.sC⟩,⟨m,hn.sameBut hs (Yk (cne x c hc)),λj y v' e1 e2 e3=>?_⟩,λy c' e=>?_,I.free,I.freeC,λp hp=>?_,tracked ⟨oc,hoc,I.freeC x c hc⟩ hs,by simpa using I.len⟩ ⟨c,hs,.inr hc⟩
  ·exact(hs.2 b (yw (yC (ym e) (I.ok.cab x c hfn hc)))).trans (I.base.keep b o e n hb hx)
  ·obtain⟨sl,e1⟩:=I.base.slot b o e n hb hx;exact⟨sl,(hs.2 b (yw (yC (ym e) (I.ok.cab x c hfn hc)))).trans e1⟩
  ·obtain⟨o',e1⟩:=I.base.there b o e hx;exact⟨o',(hs.2 b (yw (yC (ym e) (I.ok.cab x c hfn hc)))).trans e1⟩
  ·by_cases hj:j=i
   ·subst hj;rw[hi]at e1;cases e1;rw[Yn hiσ]at e2;cases e2;exact⟨u,r,.inr ⟨.inl hk,c,hc,hc'⟩⟩
   ·rw[yW (Yk hj)]at e2;obtain⟨u',r',q⟩:=hl j y v' e1 e2 e3;refine⟨u',r',?_⟩;rcases q with q|⟨k,c',e,z'⟩
    ·exact .inl q
    ·refine .inr ⟨k,c',e,z'.sameBut hs ?_⟩;rintro rfl;exact hj (zDr hN e1 (I.ok.inj _ _ _ e hc▸hi))
  ·by_cases hcc:c'=c
   ·subst hcc;exact⟨_,hc'⟩
   ·obtain⟨w2,z2⟩:=I.cell y c' e;exact⟨w2,z2.sameBut hs hcc⟩
  ·obtain⟨e,n,ne,nf,d⟩:=I.pin p hp;refine⟨(hs.2 p.1 ?_).trans e,n,ne,nf,d⟩;intro q;rw[q,hoc]at e;have q':oc=p.2:=yS e;exact d w' (by rw[<-q'];exact hocd)
def z5n{M:Model}{A:yM}{E:yb->ye->Prop}{i:Nat}{x:yF}{v:V}{u:yb}{Q:Unit->ye->Prop}(I:Inv X U Y H s)(hN:X.N.Nodup)(hi:X.N[i]?=some x)(hx:Loc X.env.scope x)(r:RelV v u)
 (h:∀s',Inv X U (Y.set i (some v)) H s'->Q () s') (hf:X.fn x=true\/X.env.scope.names.lookup x=some .local:=by first|exact .inl rfl|exact .inr rfl|assumption):yq M A (storeName X.env x u) Q E s :=
 zqo I hN hi hx r (λs' I' _=>h s' I') hf
def Inv.call'{s':ye}{ch:List yg}(I:Inv X U Y H s)(ho:s'.os=s.os)(u:Un (frs X.stack) ch H H' s.heap s'.heap)(hok:HOk X.prog X.w H' s'.heap)(hg:AllBare s'.gens)
 (hch:∀b∈ch,(b∈X.ex\/X.s₀.heap.objs.size<=b)/\b≠X.env.locals/\(∀x c,X.env.cells.lookup x=some c->c≠b)/\∀p∈X.pn++U,p.1≠b):Inv X U Y H' s':=by
 obtain⟨h',g',d',t',o'⟩:=s';have e:o'=s.os:=ho;subst e;exact I.call (g':=g') (t':=t') (d':=d') u hok hg hch
end
abbrev XK:=yb->Option yg->Hp->Prop
abbrev St:=List (Option V)
abbrev VK:=V->Hp->Prop
abbrev TE:=St->Hp->VK->Prop
abbrev TT:=St->Hp->(Bool->Hp->Prop)->Prop
abbrev TA:=St->Hp->(List V->Hp->Prop)->Prop
structure Ends where
 nx:St->Hp->Prop
 rt:VK
 bk:St->Hp->Prop:=λ_ _=>False
 ct:St->Hp->Prop:=λ_ _=>False
abbrev TS:=Ends->St->Hp->Prop
def EP(X:Cx)(U:List (yg×xa))(Y:St)(Q:VK)(u:yb)(s':ye):Prop:=∃v H',Inv X U Y H' s'/\RelV v u/\Q v H'
def TP(X:Cx)(U:List (yg×xa))(Y:St)(Q:Bool->Hp->Prop)(b:Bool)(s':ye):Prop:=∃H',Inv X U Y H' s'/\Q b H'
def AP(X:Cx)(U:List (yg×xa))(Y:St)(Q:List V->Hp->Prop)(us:List yb)(s':ye):Prop:=∃vs H',Inv X U Y H' s'/\Vals vs us/\Q vs H'
def SP(X:Cx)(U:List (yg×xa))(D:Ends)(f:Flow)(s':ye):Prop :=
 match f with
 |.next=>∃Y' H',Inv X U Y' H' s'/\D.nx Y' H'
 |.brk=>∃Y' H',Inv X U Y' H' s'/\D.bk Y' H'
 |.cont=>∃Y' H',Inv X U Y' H' s'/\D.ct Y' H'
 |.ret u=>∃v Y' H',Inv X U Y' H' s'/\RelV v u/\D.rt v H'
def PE(X:Cx)(e:yG)(t:TE):Prop :=
 ∀(U:List (yg×xa)) (s:ye) (Y:St) (H:Hp) (Q:VK),Inv X U Y H s->t Y H Q->yq (yA X.prog X.w) X.A (Yx e X.env) (EP X U Y Q) X.xe s
def PT(X:Cx)(e:yG)(t:TT):Prop :=
 ∀(U:List (yg×xa)) (s:ye) (Y:St) (H:Hp) (Q:Bool->Hp->Prop),Inv X U Y H s->t Y H Q->yq (yA X.prog X.w) X.A (isTrue e X.env (Yx e X.env)) (TP X U Y Q) X.xe s
def PW(X:Cx)(e:yG)(t:TT):Prop :=
 ∀(whole:Sem yb)(U:List (yg×xa)) (s:ye) (Y:St) (H:Hp) (Q:Bool->Hp->Prop),Inv X U Y H s->t Y H Q->yq (yA X.prog X.w) X.A (isTrue e X.env whole) (TP X U Y Q) X.xe s
def PA(X:Cx)(es:List yG)(t:TA):Prop :=
 ∀(pos:Xd)(U:List (yg×xa)) (s:ye) (Y:St) (H:Hp) (Q:List V->Hp->Prop),Inv X U Y H s->t Y H Q->yq (yA X.prog X.w) X.A (spliced (YY pos (yu es X.env))) (AP X U Y Q) X.xe s
def PS(X:Cx)(st:Yb)(t:TS):Prop :=
 ∀(U:List (yg×xa)) (s:ye) (Y:St) (H:Hp) (D:Ends),Inv X U Y H s->t D Y H->yq (yA X.prog X.w) X.A (exec st X.env) (SP X U D) X.xe s
def PSs(X:Cx)(st:List Yb)(t:TS):Prop :=
 ∀(U:List (yg×xa)) (s:ye) (Y:St) (H:Hp) (D:Ends),Inv X U Y H s->t D Y H->yq (yA X.prog X.w) X.A (execs st X.env) (SP X U D) X.xe s
def thn{α:Type}{t:Sem α}{Q Q':α->ye->Prop}{M:Model}{A:yM}{E:yb->ye->Prop}{s:ye}(h:yq M A t Q E s)(hQ:∀a s,Q a s->Q' a s):yq M A t Q' E s:=YT h hQ λ_ _ x=>x
section
variable {X:Cx}
def z6A(i:Nat):TE:=λY H Q=>∃v,Y[i]?=some (some v)/\Q v H
def tC(v:V):TE:=λ_ H Q=>Q v H
def zOy{i:Nat}{x:yF}{pos:Xd}(hN:X.N[i]?=some x)(hv:Vis X.env.scope x)(hd:(x==("__debug__":yF))=false:=by decide)(hcd:(x==("__classdict__":yF))=false:=by decide):PE X (.Name x pos) (z6A i):=by
 intro U s Y H Q I h;obtain⟨v,e,h⟩:=h;obtain⟨m,hn,hl⟩:=I.loc;obtain⟨u,r,l⟩:=hl i x v hN e hv;have fin:EP X U Y Q u s:=⟨v,H,I,r,h⟩
 rcases l with ⟨hk,hm⟩|⟨hk,c,hc,hcell⟩
 ·exact wpAny_Name (wpAny_loadName_local I.ok.kind hk hn hm fin) hd
 ·rcases hk with hk|hk
  ·exact wpAny_Name (wpAny_loadName_cell I.ok.kind hk hc hcell fin) hd
  ·exact wpAny_Name (wpAny_loadName_free I.ok.kind hk hc hcell fin hcd) hd
def zMz{i j pos}:PE X (.Constant (.int i) j pos) (tC (.int i)):=λ_ _ _ H _ I h=>wpAny_Constant_int ⟨.int i,H,I.tok _,⟨_,rfl⟩,h⟩
def zBA{b j pos}:PE X (.Constant (.bool b) j pos) (tC (.bl b)):=λ_ _ _ H _ I h=>Constant_bool ⟨.bl b,H,I,rfl,h⟩
def zUy{j pos}:PE X (.Constant .none j pos) (tC .non):=λ_ _ _ H _ I h=>Constant_none ⟨.non,H,I,rfl,h⟩
def zKy{x j pos}:PE X (.Constant (.str x) j pos) (tC (.str x)):=λ_ _ _ H _ I h=>Calls.Constant_str ⟨.str x,H,I.tok _,⟨_,rfl⟩,h⟩
def Gl(X:Cx)(x:yF):Prop:=X.env.kindOf x=some .globalImplicit
def zTx{E:yb->ye->Prop}{U:List (yg×xa)}{s:ye}{Y:St}{H:Hp}{x:yF}{u:yb}{pos:Xd}{Q:yb->ye->Prop}(I:Inv X U Y H s)(hg:Gl X x)(hm:X.mg x=some u)(h:Q u s)
 (hd:(x==("__debug__":yF))=false:=by decide):yq (yA X.prog X.w) X.A (Yx (.Name x pos) X.env) Q E s :=
 Calls.Name_function_global I.ok.kind hg (Calls.loadGlobal_global (by rw[I.ok.glob];exact I.mod.glob.keeps I.bk) hm h) hd
def zzm{E:yb->ye->Prop}{U:List (yg×xa)}{s:ye}{Y:St}{H:Hp}{x:yF}{u:yb}{pos:Xd}{Q:yb->ye->Prop}(I:Inv X U Y H s)(hg:Gl X x)(hm:X.mg x=none)(hv:yL x=some u)(h:Q u s)
 (hn:x≠"__name__":=by decide) (hd:(x==("__debug__":yF))=false:=by decide):yq (yA X.prog X.w) X.A (Yx (.Name x pos) X.env) Q E s:=by
 obtain⟨mb,h1,h2⟩:=I.mod.blt;exact Calls.Name_function_global I.ok.kind hg (Calls.loadGlobal_builtin (by rw[I.ok.glob];exact I.mod.glob.keeps I.bk) hm (by rw[I.ok.blt];exact h1.keeps I.bk) ((h2 x hn).trans hv) h) hd
variable {a b:yG}{ta tb:TE}{pos:Xd}
def sJ(b:yG){op:CmpOp}(h:op≠.In)(h2:op≠.NotIn):behindInMarks op b=false:=by
 have e1:(op==CmpOp.In)=false:=by cases op<;>first|rfl|exact absurd rfl h
 have e2:(op==CmpOp.NotIn)=false:=by cases op<;>first|rfl|exact absurd rfl h2
 cases b<;>simp[behindInMarks,e1,e2]
def tB(t:TE):TT:=λY H Q=>t Y H λx H1=>∃c,x=.bl c/\Q c H1
def z7y{e:yG}{t:TE}(h:PE X e t)(he:∀whole,isTrue e X.env whole=(do let v <-whole;standAt e.pos;holding [v] (truthy v)):=by intro _;rfl):PT X e (tB t):=by
 intro U s Y H Q I hw;refine isTrue_plain (thn (h U s Y H _ I hw) λv s1 ⟨x,H1,I1,r1,q1⟩=>?_) (he _);obtain⟨d,rfl,q⟩:=q1;cases r1;exact xb ⟨H1,I1,q⟩
variable {tA tB':TT}{rest:List yG}
def zGB(t u:TT):TT:=λY H Q=>t Y H λc H1=>if c=true then u Y H1 Q else Q false H1
def tOr(t u:TT):TT:=λY H Q=>t Y H λc H1=>if c=true then Q true H1 else u Y H1 Q
def zvB(t:TT):TT:=λY H Q=>t Y H λc H1=>Q (!c) H1
def zvx(ha:PT X a tA):PW X (.BoolOp .And [a] pos) tA:=by
 intro wh U s Y H Q I h;refine isTrue_and (thn (ha U s Y H Q I h) λc s1 e=>?_)
 cases c with
 |true=>exact isTrue_and_nil e
 |false=>exact e
def zcz(ha:PT X a tA):PW X (.BoolOp .Or [a] pos) tA:=by
 intro wh U s Y H Q I h;refine isTrue_or (thn (ha U s Y H Q I h) λc s1 e=>?_)
 cases c with
 |false=>exact isTrue_or_nil e
 |true=>exact e
def zCy(ha:PT X a tA)(hb:PW X (.BoolOp .And (b::rest) pos) tB'):PW X (.BoolOp .And (a::b::rest) pos) (zGB tA tB'):=by
 intro wh U s Y H Q I h;refine isTrue_and (thn (ha U s Y H _ I h) λc s1 ⟨H1,I1,q1⟩=>?_)
 cases c with
 |true=>exact hb wh U s1 Y H1 Q I1 q1
 |false=>exact⟨H1,I1,q1⟩
def zHA(ha:PT X a tA)(hb:PW X (.BoolOp .Or (b::rest) pos) tB'):PW X (.BoolOp .Or (a::b::rest) pos) (tOr tA tB'):=by
 intro wh U s Y H Q I h;refine isTrue_or (thn (ha U s Y H _ I h) λc s1 ⟨H1,I1,q1⟩=>?_)
 cases c with
 |true=>exact⟨H1,I1,q1⟩
 |false=>exact hb wh U s1 Y H1 Q I1 q1
def zjz(ha:PT X a tA):PT X (.UnaryOp .Not a pos) (zvB tA):=by
 intro U s Y H Q I h;exact isTrue_not (ha U s Y H (λc H1=>Q (!c) H1) I h)
def zlA(ta tb:TE):TE:=λY H Q=>ta Y H λx H1=>∃c,x=.bl c/\if c=true then tb Y H1 Q else Q (.bl false) H1
def zFz{op}{t:TE}(h:PE X a t):PE X (.BoolOp op [a] pos) t:=λU s Y H Q I hw=>BoolOp_one (h U s Y H Q I hw)
def znz(ha:PE X a ta)(hb:PE X (.BoolOp .And (b::rest) pos) tb):PE X (.BoolOp .And (a::b::rest) pos) (zlA ta tb):=by
 intro U s Y H Q I h;refine BoolOp_and (thn (ha U s Y H _ I h) λv s1 ⟨x,H1,I1,r1,q1⟩=>?_);obtain⟨c,rfl,q1⟩:=q1;cases r1;refine xb ?_
 cases c with
 |true=>exact hb U s1 Y H1 Q I1 q1
 |false=>exact⟨.bl false,H1,I1,rfl,q1⟩
end
def SqL(K:yB)(H:Hp)(a:yg)(xs:List V):Prop :=
 Rd H a (.lst xs) \/
  ∃(o:xa)(its:Array yb)(n:Nat),K.lookup a=some o/\o.cls=.type "list"/\o.dict=none/\o.data=.seq its n/\its.size<=yI/\Vals xs its.toList
def SqT(K:yB)(H:Hp)(a:yg)(xs:List V):Prop :=
 Rd H a (.tup xs) \/
  ∃(o:xa)(its:Array yb)(n:Nat),K.lookup a=some o/\o.cls=.type "tuple"/\o.data=.seq its n/\its.size<=yI/\Vals xs its.toList
def zqB:yb->Option V
 |.none=>some .non
 |.bool b=>some (.bl b)
 |.int i _=>some (.int i)
 |.str x _=>some (.str x)
 |.bytes b _=>some (.byt b)
 |.float b _=>some (.flt b)
 |.ref a=>some (.ref a)
 |.type n=>some (.ty n)
 |_=>none
def RelV.abs{x:V}{u:yb}(r:RelV x u):zqB u=some x:=by
 cases x with
 |non=>cases r;rfl
 |bl _=>cases r;rfl
 |int _=>obtain⟨t,rfl⟩:=r;rfl
 |str _=>obtain⟨t,rfl⟩:=r;rfl
 |byt _=>obtain⟨t,rfl⟩:=r;rfl
 |flt _=>obtain⟨t,rfl⟩:=r;rfl
 |ref _=>cases r;rfl
 |ty _=>cases r;rfl
def RelV.inj{x y:V}{u:yb}(r:RelV x u)(q:RelV y u):x=y:=yS (r.abs.symm.trans q.abs)
def Vals.inj{xs ys:List V}{us:List yb}(h:Vals xs us):Vals ys us->xs=ys:=by
 induction h generalizing ys with
 |nil=>intro h;cases h;rfl
 |cons r _ ih=>
  intro h
  cases h with
  |cons r' t'=>rw[r.inj r',ih t']
section
variable {X:Cx}{U:List (yg×xa)}{Y:St}{H:Hp}{s:ye}{a:yg}{xs ys:List V}
def SqL.of{K:yB}(h:H a=some (.lst xs)):SqL K H a xs:=.inl (.inl h)
def SqT.of{K:yB}(h:H a=some (.tup xs)):SqT K H a xs:=.inl (.inl h)
def Inv.list(I:Inv X U Y H s)(h:SqL X.K H a xs):∃its:List yb,Vals xs its/\PlainL s.heap a its.toArray/\xs.length<=yI:=by
 rcases h with h|⟨o,its,n,hk,hc,hd,hs,hz,r⟩
 ·obtain⟨z,its,n,r,e⟩:=h.ok I.hok;exact⟨its,r,⟨_,n,e,rfl,rfl,rfl⟩,z⟩
 ·refine⟨its.toList,r,⟨o,n,I.kIn a o hk,hc,hd,by simpa using hs⟩,?_⟩;have e:=r.length;simp only[xE]at e;omega
def Inv.tuple(I:Inv X U Y H s)(h:SqT X.K H a xs):∃its:List yb,Vals xs its/\IsTup s.heap a its.toArray/\xs.length<=yI:=by
 rcases h with h|⟨o,its,n,hk,hc,hs,hz,r⟩
 ·obtain⟨z,its,r,p⟩:=h.ok I.hok;exact⟨its,r,p,z⟩
 ·refine⟨its.toList,r,⟨o,I.kIn a o hk,hc,n,by simpa using hs⟩,?_⟩;have e:=r.length;simp only[xE]at e;omega
def Inv.sK(I:Inv X U Y H s)(h:SqL X.K H a xs)(h':SqL X.K H a ys):xs=ys:=by
 obtain⟨its,r,⟨o,n,e,_,_,d⟩,_⟩:=I.list h;obtain⟨its',r',⟨o',n',e',_,_,d'⟩,_⟩:=I.list h';rw[e]at e';cases e';rw[d]at d';injection d' with d1 _;have:its=its':=by simpa using congrArg Array.toList d1
 subst this;exact r.inj r'
def Inv.sw(I:Inv X U Y H s)(h:SqT X.K H a xs)(h':SqT X.K H a ys):xs=ys:=by
 obtain⟨its,r,⟨o,e,_,n,d⟩,_⟩:=I.tuple h;obtain⟨its',r',⟨o',e',_,n',d'⟩,_⟩:=I.tuple h';rw[e]at e';cases e';rw[d]at d';injection d' with d1 _;have:its=its':=by simpa using congrArg Array.toList d1
 subst this;exact r.inj r'
end
abbrev Cx.sv(X:Cx)(E:yb->ye->Prop):Cx:={X with xe:=E }
abbrev Cx.nox(X:Cx):Cx:=X.sv λ_ _=>False
def Cx.Ok.sv{X:Cx}(ok:X.Ok)(E:yb->ye->Prop):(X.sv E).Ok :=
 ⟨ok.mod,ok.kind,ok.glob,ok.blt,ok.above,ok.inj,ok.has,ok.cab,ok.hd,ok.frames,ok.stk,ok.exf,ok.bs,ok.bsz,ok.Sd,ok.exfs,ok.TZ,ok.frf⟩
def Cx.Ok.Tw{X:Cx}{E:yb->ye->Prop}(ok:(X.sv E).Ok):X.Ok :=
 ⟨ok.mod,ok.kind,ok.glob,ok.blt,ok.above,ok.inj,ok.has,ok.cab,ok.hd,ok.frames,ok.stk,ok.exf,ok.bs,ok.bsz,ok.Sd,ok.exfs,ok.TZ,ok.frf⟩
section
variable {X:Cx}{U:List (yg×xa)}{Y:St}{H:Hp}{s:ye}{E:yb->ye->Prop}
def Inv.sv(I:Inv X U Y H s)(E:yb->ye->Prop):Inv (X.sv E) U Y H s:=⟨I.ok.sv E,I.os,I.bare,I.base,I.loc,I.cell,I.free,I.freeC,I.pin,I.hok,I.len⟩
def Inv.Tw(I:Inv (X.sv E) U Y H s):Inv X U Y H s:=⟨I.ok.Tw,I.os,I.bare,I.base,I.loc,I.cell,I.free,I.freeC,I.pin,I.hok,I.len⟩
def SP.Tw{D:Ends}{f:Flow}{s':ye}(h:SP (X.sv E) U D f s'):SP X U D f s':=by
 cases f with
 |next=>obtain⟨Y',H',I,q⟩:=h;exact⟨Y',H',I.Tw,q⟩
 |brk=>obtain⟨Y',H',I,q⟩:=h;exact⟨Y',H',I.Tw,q⟩
 |cont=>obtain⟨Y',H',I,q⟩:=h;exact⟨Y',H',I.Tw,q⟩
 |ret u=>obtain⟨v,Y',H',I,r,q⟩:=h;exact⟨v,Y',H',I.Tw,r,q⟩
def PSs.nox{st:List Yb}{t:TS}(h:PSs X.nox st t):PSs X st t:=λU s Y H D I hw=>
 YT (h U s Y H D (I.sv _) hw) (λ_ _ q=>q.Tw) λ_ _ z=>xO z
variable {st:Yb}{rest:List Yb}{t u:TS}{e:yG}{te:TE}{pos:Xd}
def zmA:TS:=λD Y H=>D.nx Y H
def zhB(t u:TS):TS:=λD Y H=>t {D with nx:=u D } Y H
def zEx:PSs X [] zmA:=λ_ _ Y H _ I h=>wpAny_execs_nil ⟨Y,H,I,h⟩
def zpv(h1:PS X st t)(h2:PSs X rest u):PSs X (st::rest) (zhB t u):=by
 intro U s Y H D I h;refine wpAny_execs_cons (thn (h1 U s Y H {D with nx:=u D } I h) λf s1 q=>?_)
 cases f with
 |next=>
  obtain⟨Y',H',I',q⟩:=q;exact h2 U s1 Y' H' D I' q
 |ret v=>exact q
 |brk=>exact q
 |cont=>exact q
def zsy(h1:PS X st t):PSs X [st] t:=by
 intro U s Y H D I h;refine wpAny_execs_cons (thn (h1 U s Y H D I h) λf s1 q=>?_)
 cases f with
 |next=>exact wpAny_execs_nil q
 |ret v=>exact q
 |brk=>exact q
 |cont=>exact q
def Inv.quiet{U:List (yg×xa)}{Y:St}{H:Hp}{s:ye}(I:Inv X U Y H s):interactive X.env=false:=by simp[interactive,I.ok.kind]
def zCA(te:TE):TS:=λD Y H=>te Y H λ_ H1=>D.nx Y H1
def zfy(he:PE X e te)(hs:swapsWith e none pos.line X.env=pure false:=by rfl):PS X (.Expr e pos) (zCA te):=by
 intro U s Y H D I h;exact wpAny_Expr_any (thn (he U s Y H _ I h) λv s1 ⟨x,H1,I1,r1,q1⟩=>⟨Y,H1,I1,q1⟩) I.quiet hs
def zgB(te:TE):TS:=λD Y H=>te Y H D.rt
def zNy(he:PE X e te):PS X (.Return (some e) pos) (zgB te):=by
 intro U s Y H D I h;exact wpAny_Return_some (thn (he U s Y H _ I h) λv s1 ⟨x,H1,I1,r1,q1⟩=>⟨x,Y,H1,I1,r1,q1⟩)
def zlB(c:TT)(t u:TS):TS:=λD Y H=>c Y H λb H1=>if b=true then t D Y H1 else u D Y H1
def zRA{c:yG}{a b:List Yb}{tc:TT}(hc:PT X c tc)(ha:PSs X a t)(hb:PSs X b u):PS X (.If c a b pos) (zlB tc t u):=by
 intro U s Y H D I h;refine wpAny_If (thn (hc U s Y H _ I h) λd s1 ⟨H1,I1,q1⟩=>?_)
 cases d with
 |true=>exact ha U s1 Y H1 D I1 q1
 |false=>exact hb U s1 Y H1 D I1 q1
def zQz:TS:=λ_ _ _=>False
def zaw:PS X st zQz:=λ_ _ _ _ _ _ h=>h.elim
end
abbrev TG:=V->St->Hp->(St->Hp->Prop)->Prop
abbrev TGs:=List V->St->Hp->(St->Hp->Prop)->Prop
def PG(X:Cx)(target:yG)(t:TG):Prop :=
 ∀(U:List (yg×xa)) (s:ye) (Y:St) (H:Hp) (v:V) (u:yb) (Q:St->Hp->Prop),Inv X U Y H s->RelV v u->t v Y H Q ->
  yq (yA X.prog X.w) X.A (assign target X.env u) (λ_ s'=>∃Y' H',Inv X U Y' H' s'/\Q Y' H') X.xe s
def PGs(X:Cx)(ts:List yG)(t:TGs):Prop :=
 ∀(U:List (yg×xa)) (s:ye) (Y:St) (H:Hp) (vs:List V) (us:List yb) (Q:St->Hp->Prop),Inv X U Y H s->Vals vs us->t vs Y H Q ->
  yq (yA X.prog X.w) X.A (assignInOrder ((YI ts X.env).map (·.2)) us) (λ_ s'=>∃Y' H',Inv X U Y' H' s'/\Q Y' H') X.xe s
abbrev zFA:=V->V->V->Hp->(Hp->Prop)->Prop
def zZA(X:Cx)(t:zFA):Prop :=
 ∀(U:List (yg×xa)) (s:ye) (Y:St) (H:Hp) (o i v:V) (ov iv u:yb) (Q:Hp->Prop),Inv X U Y H s->RelV o ov->RelV i iv->RelV v u->t o i v H Q ->
  yq (yA X.prog X.w) X.A (setItem ov iv u) (λ_ s'=>∃H',Inv X U Y H' s'/\Q H') X.xe s
abbrev TIp:=V->V->Hp->VK->Prop
def PIp(X:Cx)(op:Operator)(t:TIp):Prop :=
 ∀(U:List (yg×xa)) (s:ye) (Y:St) (H:Hp) (x y:V) (v u:yb) (Q:VK),Inv X U Y H s->RelV x v->RelV y u->t x y H Q ->
  yq (yA X.prog X.w) X.A (inplaceOp op v u) (EP X U Y Q) X.xe s
section
variable {X:Cx}{pos:Xd}
def zWx(i:Nat):TG:=λv Y H Q=>Q (Y.set i (some v)) H
def ztu{i:Nat}{x:yF}(hN:X.N.Nodup)(hi:X.N[i]?=some x)(hx:Loc X.env.scope x)(hf:X.fn x=true\/X.env.scope.names.lookup x=some .local:=by first|exact .inl rfl|exact .inr rfl|assumption):PG X (.Name x pos) (zWx i):=by
 intro U s Y H v u Q I r h;exact wpAny_assign_Name (z5n I hN hi hx r (λs' I'=>⟨_,H,I',h⟩) hf)
def zsB:TGs:=λvs Y H Q=>vs=[]/\Q Y H
def zIA(t:TG)(u:TGs):TGs:=λvs Y H Q=>∃v r,vs=v::r/\t v Y H λY' H'=>u r Y' H' Q
def zUt:PGs X [] zsB:=by
 intro U s Y H vs us Q I r h;obtain⟨e,h⟩:=h;subst e;cases r;exact assignInOrder_nil ⟨Y,H,I,h⟩
def zir{e:yG}{es:List yG}{t:TG}{u:TGs}(h1:PG X e t)(h2:PGs X es u)
 (hs:(YI (e::es) X.env).map (·.2)=assign e X.env::(YI es X.env).map (·.2):=by rfl):PGs X (e::es) (zIA t u):=by
 intro U s Y H vs us Q I r h;obtain⟨v,vr,e1,h⟩:=h;subst e1
 cases r with
 |cons r rr=>
  rw[hs];refine assignInOrder_cons (thn (h1 U s Y H _ _ _ I r h) λ_ s1 ⟨Y1,H1,I1,q1⟩=>?_);exact h2 U s1 Y1 H1 _ _ Q I1 rr q1
def zwB(K:yB)(n:Nat)(t:TGs):TG:=λv Y H Q=>∃a xs,v=.ref a/\SqT K H a xs/\xs.length=n/\t xs Y H Q
def z6w{es:List yG}{k:Nat}{t:TGs}{n:Nat}(hc:X.calm=true)(h:PGs X es t)
 (hn:(YI es X.env).length=n:=by rfl) (hst:(YI es X.env).findIdx? (·.1)=none:=by rfl):PG X (.Tuple es k pos) (zwB X.K n t):=by
 intro U s Y H v u Q I r hw;obtain⟨a,xs,e1,hq,hl,hw⟩:=hw;subst e1;cases r;obtain⟨its,rv,ht,hz⟩:=I.tuple hq;refine assign_Tuple_tuple (I.ok.hd hc) ht (by simp[hn,<-hl,rv.length]) hst λh' hx=>?_;have I1:Inv X U Y H {s with heap:=h' }:=I.kept (t':=s.toks) λb o e=>hx b o (yw (ym e)) e;exact h U _ Y H xs _ Q I1 (by simpa using rv) hw
def zKw(to ti:TE)(t:zFA):TG:=λv Y H Q=>to Y H λo H1=>ti Y H1 λi H2=>t o i v H2 λH3=>Q Y H3
def z8w{o i:yG}{to ti:TE}{t:zFA}(ho:PE X o to)(hi:PE X i ti)(hs:zZA X t)
 (ha:∀v,assign (.Subscript o i pos) X.env v=(do
  let ov <-holding [v] (Yx o X.env)
  let iv <-holding [v,ov] (Yx i X.env)
  standAt pos
  holding [v,ov,iv] (setItem ov iv v)
  release [v,ov,iv] []):=by intro _;rfl):PG X (.Subscript o i pos) (zKw to ti t):=by
 intro U s Y H v u Q I r h;rw[ha];refine ya (Yc (thn (ho U s Y H _ I h) λov s1 ⟨x,H1,I1,r1,q1⟩=>?_));refine ya (Yc (thn (hi U s1 Y H1 _ I1 q1) λiv s2 ⟨y,H2,I2,r2,q2⟩=>?_));refine ya (wpAny_standAt (ya (Yc (thn (hs U s2 Y H2 x y v ov iv u _ I2 r1 r2 r q2) λ_ s3 ⟨H3,I3,q3⟩=>?_))));exact wpAny_release ⟨Y,H3,I3,q3⟩
def zLA(te:TE)(g:TG):TS:=λD Y H=>te Y H λx H1=>g x Y H1 D.nx
def zxz{tg e:yG}{te:TE}{g:TG}(he:PE X e te)(hg:PG X tg g)(hs:swapsWithSole [tg] e pos.line X.env=pure false:=by rfl)(hw:swappedStores [tg] e X.env=pure none:=by rfl)
 (h1:(YI [tg] X.env).map (·.2)=[assign tg X.env]:=by rfl):PS X (.Assign [tg] e pos) (zLA te g):=by
 intro U s Y H D I h;refine wpAny_Assign_stores (thn (he U s Y H _ I h) λv s1 ⟨x,H1,I1,r1,q1⟩=>?_) hs hw;rw[h1];exact thn (hg U s1 Y H1 x v _ I1 r1 q1) λ_ s2 q=>q
def zDz{i:Nat}{x:yF}{e:yG}{te:TE}{pos':Xd}(hN:X.N.Nodup)(hi:X.N[i]?=some x)(hx:Loc X.env.scope x)(he:PE X e te)(hs:swapsWith e (some (.Name x pos')) pos.line X.env=pure false:=by rfl)(hf:X.fn x=true\/X.env.scope.names.lookup x=some .local:=by first|exact .inl rfl|exact .inr rfl|assumption) :
 PS X (.Assign [.Name x pos'] e pos) (zLA te (zWx i)):=by
 intro U s Y H D I h;refine wpAny_Assign_Name (thn (he U s Y H _ I h) λv s1 ⟨y,H1,I1,r1,q1⟩=>?_) hs;exact z5n I1 hN hi hx r1 (λs2 I2=>⟨_,H1,I2,q1⟩) hf
def zBB(i:Nat)(te:TE)(ti:TIp):TS:=λD Y H=>∃x,Y[i]?=some (some x)/\te Y H λy H1=>ti x y H1 λz H2=>D.nx (Y.set i (some z)) H2
def zPy{i:Nat}{x:yF}{e:yG}{te:TE}{op:Operator}{ti:TIp}{pos':Xd}(hN:X.N.Nodup)(hi:X.N[i]?=some x)(hx:Loc X.env.scope x)(he:PE X e te)(ho:PIp X op ti)(hf:X.fn x=true\/X.env.scope.names.lookup x=some .local:=by first|exact .inl rfl|exact .inr rfl|assumption) :
 PS X (.AugAssign (.Name x pos') op e pos) (zBB i te ti):=by
 intro U s Y H D I h;obtain⟨v,e1,h⟩:=h;obtain⟨m,hn,hl⟩:=I.loc;have vis:Vis X.env.scope x:=by rcases hx with k|k;exact .inl k;exact .inr (.inl k)
 obtain⟨u,r,l⟩:=hl i x v hi e1 vis;refine wpAny_AugAssign_Name ?_
 have go:yq (yA X.prog X.w) X.A (Yx e X.env) (λw s₂=>yq (yA X.prog X.w) X.A (inplaceOp op u w) (λr s₃=>yq (yA X.prog X.w) X.A (storeName X.env x r) (λ_=>SP X U D .next) X.xe s₃) X.xe s₂) X.xe s:=by
  refine thn (he U s Y H _ I h) λw s1 ⟨y,H1,I1,r1,q1⟩=>?_;refine thn (ho U s1 Y H1 v y u w _ I1 r r1 q1) λz s2 ⟨zv,H2,I2,r2,q2⟩=>?_;exact z5n I2 hN hi hx r2 (λs3 I3=>⟨_,H2,I3,q2⟩) hf
 rcases l with ⟨hk,hm⟩|⟨hk,c,hc,hcell⟩
 ·exact wpAny_loadName_local I.ok.kind hk hn hm go
 ·rcases hk with hk|hk
  ·exact wpAny_loadName_cell I.ok.kind hk hc hcell go
  ·rcases hx with k|k
   ·have:X.env.scope.names.lookup x=some .free:=hk;rw[k]at this;cases this
   ·have:X.env.scope.names.lookup x=some .free:=hk;rw[k]at this;cases this
def zdz(c:TT)(tb:TS):TS:=λD Y H=>∃W:Nat->St->Hp->Prop,(∃m,W m Y H)/\∀m Y H,W m Y H ->
 c Y H λb H1=>if b=true then ∃N:St->Hp->Prop,(∀Y' H',N Y' H'->∃m',m'<m/\W m' Y' H')/\tb {D with nx:=N,ct:=N,bk:=D.nx } Y H1 else D.nx Y H1
def zLv{c:yG}{body:List Yb}{tc:TT}{tb:TS}(hp:PassesOwn (yA X.prog X.w) X.A X.env X.xe)(hc:PT X c tc)(hb:PSs X body tb):PS X (.While c body [] pos) (zdz tc tb):=by
 intro U s Y H D I h;obtain⟨W,⟨m0,w0⟩,turn⟩:=h;refine wpAny_While (codeAny_whileLoop (λn s'=>∃Y' H',Inv X U Y' H' s'/\W n Y' H') ?_ m0 ⟨Y,H,I,w0⟩);rintro n s1 ⟨Y1,H1,I1,w1⟩;refine xq hp (thn (hc U s1 Y1 H1 _ I1 (turn n Y1 H1 w1)) λb s2 ⟨H2,I2,q2⟩=>?_)
 cases b with
 |true=>
  obtain⟨N,hN,q2⟩:=q2;rw[if_pos rfl];refine xq hp (thn (hb U s2 Y1 H2 _ I2 q2) λf s3 q3=>?_)
  cases f with
  |next=>
   obtain⟨Y3,H3,I3,n3⟩:=q3;obtain⟨m',hm,w3⟩:=hN Y3 H3 n3;exact⟨m',hm,Y3,H3,I3,w3⟩
  |cont=>
   obtain⟨Y3,H3,I3,n3⟩:=q3;obtain⟨m',hm,w3⟩:=hN Y3 H3 n3;exact⟨m',hm,Y3,H3,I3,w3⟩
  |brk=>exact q3
  |ret v=>exact q3
 |false=>
  rw[if_neg yv];exact wpAny_execs_nil ⟨Y1,H2,I2,q2⟩
end
structure It where
 go:Nat->Hp->Prop
 yld:Nat->Hp->V->Hp->Prop
 stop:Nat->Hp->Prop
def zUq(X:Cx)(U:List (yg×xa))(H:Hp)(b:yg):Prop :=
 H b=none/\b≠X.env.locals/\b∉X.fs/\(b∈X.ex\/X.s₀.heap.objs.size<=b)/\(∀x c,X.env.cells.lookup x=some c->c≠b)/\∀p∈X.pn++U,p.1≠b
def Inv.sQ{X:Cx}{U:List (yg×xa)}{Y:St}{H H':Hp}{s:ye}{b:yg}(I:Inv X U Y H s)(hb:s.heap.objs.size<=b)(hn:H' b=none):zUq X U H' b:=by
 refine⟨hn,Yg (yC I.lt hb),I.nofs hb,.inr (yD I.sz hb),λx c e z=>?_,λp hp z=>?_⟩
 ·obtain⟨v,q⟩:=I.cell x c e;exact absurd (yC q.lt (by rw[z];exact hb)) (Yj _)
 ·exact absurd (yC (ym (I.pin p hp).1) (by rw[z];exact hb)) (Yj _)
structure Turn(P:yy)(w:yJ)(K:yB)(tg:yG)(δ:It)(fp:List yg)(it:yg)(tn:Nat->Ye->Prop):Prop where
 mem:it∈fp
 obj:∀i h,tn i h->∀b∈fp,∃o,h.get? b=some o/\∀v,o.data≠.cell v
 keep:∀i h h',tn i h->(∀b∈fp,∀o,h.get? b=some o->h'.get? b=some o)->tn i h'
 item:∀(X:Cx),X.prog=P->X.w=w->X.K=K->X.calm=true->∀(i:Nat)(U:List (yg×xa)) (s:ye) (Y:St) (H:Hp) (E:yb->ye->Prop),Inv X U Y H s->(∀b∈fp,zUq X U H b)->tn i s.heap->δ.go i H ->
  yq (yA P w) X.A (pyNext (.ref it)) (λr s1=>∃u,r=some u /\
   yq (yA P w) X.A (letOwnedTupleGo tg (.ref it) u) (λ_ s2=>∃x H',Inv X U Y H' s2/\RelV x u/\δ.yld i H x H'/\tn (i+1) s2.heap/\∀b∈fp,H' b=none) E s1) E s
 done:∀(X:Cx),X.prog=P->X.w=w->X.K=K->X.calm=true->∀(i:Nat)(U:List (yg×xa)) (s:ye) (Y:St) (H:Hp) (E:yb->ye->Prop),Inv X U Y H s->(∀b∈fp,zUq X U H b)->tn i s.heap->δ.stop i H ->
  yq (yA P w) X.A (pyNext (.ref it)) (λr s1=>r=none/\Inv X U Y H s1) E s
 self:∀(A:yM)(i:Nat)(s:ye)(Q:yb->ye->Prop)(E:yb->ye->Prop),tn i s.heap->Q (.ref it) s->yq (yA P w) A (pyIter (.ref it)) Q E s
abbrev TI:=St->Hp->(It->Hp->Prop)->Prop
def PIE(X:Cx)(U:List (yg×xa))(Y:St)(tg:yG)(R:It->Hp->Prop)(itv:yb)(s2:ye):Prop :=
 ∃(it:yg)(fp:List yg)(tn:Nat->Ye->Prop)(δ:It)(H':Hp),itv=.ref it/\Inv X U Y H' s2/\Turn X.prog X.w X.K tg δ fp it tn/\tn 0 s2.heap/\(∀b∈fp,zUq X U H' b)/\R δ H'
def PI(X:Cx)(tg iter:yG)(wi:TI):Prop :=
 ∀(U:List (yg×xa)) (s:ye) (Y:St) (H:Hp) (R:It->Hp->Prop),Inv X U Y H s->wi Y H R ->
  yq (yA X.prog X.w) X.A (Yx iter X.env) (λv s1=>yq (yA X.prog X.w) X.A (pyIter v) (PIE X U Y tg R) X.xe s1) X.xe s
def ziw{M:Model}{A:yM}{E:yb->ye->Prop}{s:ye}{tg:yG}{it:yg}{u:yb}{o:xa}{n:String}{vs:Array yb}{Q:Unit->ye->Prop}(ho:s.heap.get? it=some o)(hc:o.cls=.type n)(hd:o.data=.fields vs)
 (hn:["enumerate","zip","dict_itemiterator","dict_reverseitemiterator","odict_iterator","itertools.zip_longest","itertools.pairwise"].contains n=false) (hQ:Q () s):yq M A (letOwnedTupleGo tg (.ref it) u) Q E s:=by
 unfold letOwnedTupleGo
 cases tg<;>first
  |exact yi hQ
  |(cases u<;>first
   |exact yi hQ
   | (refine ya (wpAny_load ho ?_)
      rw[hc,hd];show yq M A (if(["enumerate","zip","dict_itemiterator","dict_reverseitemiterator","odict_iterator","itertools.zip_longest","itertools.pairwise"].contains n&&vs[0]?==some (YD _))=true then _ else _) Q E s;rw[if_neg (by intro h;rw[hn,Bool.false_and]at h;cases h)];exact yi hQ))
def Itl(K:yB)(a:yg):It :=
 ⟨λi H=>∃xs x,SqL K H a xs/\xs[i]?=some x,λi H x H'=>H'=H/\∀xs,SqL K H a xs->xs[i]?=some x,λi H=>∃xs,SqL K H a xs/\xs.length<=i⟩
def Itt(K:yB)(a:yg):It :=
 ⟨λi H=>∃xs x,SqT K H a xs/\xs[i]?=some x,λi H x H'=>H'=H/\∀xs,SqT K H a xs->xs[i]?=some x,λi H=>∃xs,SqT K H a xs/\xs.length<=i⟩
def Itr(lo:Int)(n:Nat):It:=⟨λi _=>i<n,λi H x H'=>H'=H/\x=.int (lo+i),λi _=>n<=i⟩
def zJt{P:yy}{w:yJ}{K:yB}{tg:yG}(a it:yg):Turn P w K tg (Itl K a) [it] it (λi h=>h.IsListIter it a i) where
 mem:=by simp
 obj:=λi h st b hb=>by
  have e:b=it:=by simpa using hb
  subst e;obtain⟨o,e,c,d⟩:=st;exact⟨o,e,λv z=>by rw[d]at z;cases z⟩
 keep:=λi h h' st k=>st.at λo e=>k it (by simp) o e
 item:=by
  intro X hP hw hK hc i U s Y H E I hf st hg;subst hP hw hK;obtain⟨xs,x,hq,hx⟩:=hg;obtain⟨its,rv,p,hz⟩:=I.list hq;obtain⟨u,hu,ru⟩:=rv.get hx;obtain⟨f0,f1,f2,f3,f4,f5⟩:=hf it (by simp);refine wpAny_pyNext_list_item st p.isList (x:=u) (by simpa using hu) λh' st' sb=>?_;have I1:Inv X U Y H {s with heap:=h' }:=I.turned (t':=s.toks) (λb o hb e=>(sb.2 b hb).trans e) f0 f1 f3 f4 f5;obtain⟨o,e,c,d⟩:=id st';exact⟨u,rfl,ziw (s:={s with heap:=h' }) e c d (by decide) ⟨x,H,I1,ru,⟨rfl,λys hy=>by rw[I.sK hy hq];exact hx⟩,st',λb hb=>(hf b hb).1⟩⟩
 done:=by
  intro X hP hw hK hc i U s Y H E I hf st hg;subst hP hw hK;obtain⟨xs,hq,hx⟩:=hg;obtain⟨its,rv,p,hz⟩:=I.list hq;obtain⟨f0,f1,f2,f3,f4,f5⟩:=hf it (by simp);have hl:=rv.length;exact wpAny_pyNext_list_end (I.ok.hd hc) st p.isList (by simp;omega) λh' eb=>⟨rfl,I.turned (t':=s.toks) (λb o hb e=>eb b o hb e) f0 f1 f3 f4 f5⟩
 self:=λ_ _ _ _ _ st h=>wpAny_pyIter_listiter st h
def zvs{P:yy}{w:yJ}{K:yB}{tg:yG}(a it:yg):Turn P w K tg (Itt K a) [it] it (λi h=>h.IsTupleIter it a i) where
 mem:=by simp
 obj:=λi h st b hb=>by
  have e:b=it:=by simpa using hb
  subst e;obtain⟨o,e,c,d⟩:=st;exact⟨o,e,λv z=>by rw[d]at z;cases z⟩
 keep:=λi h h' st k=>st.at λo e=>k it (by simp) o e
 item:=by
  intro X hP hw hK hc i U s Y H E I hf st hg;subst hP hw hK;obtain⟨xs,x,hq,hx⟩:=hg;obtain⟨its,rv,p,hz⟩:=I.tuple hq;obtain⟨u,hu,ru⟩:=rv.get hx;obtain⟨f0,f1,f2,f3,f4,f5⟩:=hf it (by simp);refine wpAny_pyNext_tuple_item st (show s.heap.IsTuple a its.toArray from p) (x:=u) (by simpa using hu) λh' st' sb=>?_;have I1:Inv X U Y H {s with heap:=h' }:=I.turned (t':=s.toks) (λb o hb e=>(sb.2 b hb).trans e) f0 f1 f3 f4 f5;obtain⟨o,e,c,d⟩:=id st';exact⟨u,rfl,ziw (s:={s with heap:=h' }) e c d (by decide) ⟨x,H,I1,ru,⟨rfl,λys hy=>by rw[I.sw hy hq];exact hx⟩,st',λb hb=>(hf b hb).1⟩⟩
 done:=by
  intro X hP hw hK hc i U s Y H E I hf st hg;subst hP hw hK;obtain⟨xs,hq,hx⟩:=hg;obtain⟨its,rv,p,hz⟩:=I.tuple hq;obtain⟨f0,f1,f2,f3,f4,f5⟩:=hf it (by simp);have hl:=rv.length;exact wpAny_pyNext_tuple_end (I.ok.hd hc) st (show s.heap.IsTuple a its.toArray from p) (by simp;omega) λh' eb=>⟨rfl,I.turned (t':=s.toks) (λb o hb e=>eb b o hb e) f0 f1 f3 f4 f5⟩
 self:=λ_ _ _ _ _ st h=>wpAny_pyIter_tupleiter st h
def zms{P:yy}{w:yJ}{K:PySem.W.Frag}{tg:yG}(it:yg)(lo:Int)(n:Nat):Turn P w K tg (Itr lo n) [it] it (λi h=>IsRangeIter h it (lo+(i:Nat)*1) ((n:Int)-(i:Nat)) 1) where
 mem:=by simp
 obj:=λi h st b hb=>by
  have e:b=it:=by simpa using hb
  subst e
  exact⟨_,st,λv z=>by
   have z':Data.fields _=Data.cell v:=z;cases z'⟩
 keep:=λi h h' st k=>k it (by simp) _ st
 item:=by
  intro X hP hw hK hc i U s Y H E I hf st hg;subst hP hw hK;obtain⟨f0,f1,f2,f3,f4,f5⟩:=hf it (by simp);have W:=Walks.range (prog:=X.prog) (w:=X.w) (I.ok.hd hc) it lo 1 n;refine W.item i s _ _ hg st λv h' tk hv st' kk=>?_;obtain⟨t,rfl⟩:=hv;have I1:Inv X U Y H {s with heap:=h',toks:=tk }:=I.turned (λb o hb e=>kk b o (by simpa using hb) e) f0 f1 f3 f4 f5;refine⟨_,rfl,ziw (s:={s with heap:=h',toks:=tk }) (n:="range_iterator") st' rfl rfl (by decide) ⟨.int (lo+i),H,I1,⟨t,?_⟩,⟨rfl,rfl⟩,st',λb hb=>(hf b hb).1⟩⟩;rw[Int.mul_one]
 done:=by
  intro X hP hw hK hc i U s Y H E I hf st hg;subst hP hw hK;obtain⟨f0,f1,f2,f3,f4,f5⟩:=hf it (by simp);exact wpAny_pyNext_range_end (I.ok.hd hc) st (by have:n<=i:=hg;omega) λh' eb=>⟨rfl,I.turned (t':=s.toks) (λb o hb e=>eb b o hb e) f0 f1 f3 f4 f5⟩
 self:=λ_ _ _ _ _ st h=>wpAny_pyIter_rangeiter st h
section
variable {X:Cx}{tg:yG}
def zht(K:yB)(tl:TE):TI:=λY H R=>tl Y H λx H1=>∃a,x=.ref a/\(∃xs,SqL K H1 a xs)/\R (Itl K a) H1
def zAB(K:yB)(tl:TE):TI:=λY H R=>tl Y H λx H1=>∃a,x=.ref a/\(∃xs,SqT K H1 a xs)/\R (Itt K a) H1
def zwy{l:yG}{tl:TE}(hl:PE X l tl):PI X tg l (zht X.K tl):=by
 intro U s Y H R I h;refine thn (hl U s Y H _ I h) λv s1 ⟨x,H1,I1,r1,q1⟩=>?_;obtain⟨a,e,⟨xs,hq⟩,q⟩:=q1;subst e;cases r1;obtain⟨its,rv,p,hz⟩:=I1.list hq;refine xZ p.isList ?_;refine⟨s1.heap.objs.size,[s1.heap.objs.size],_,_,H1,rfl,I1.kept (t':=s1.toks) λb o e=>yf _ e,zJt a _,⟨_,yp _ rfl,rfl,rfl⟩,λb hb=>?_,q⟩;have e:b=s1.heap.objs.size:=by simpa using hb
 subst e;exact I1.sQ (yk _) (I1.hok.fresh (yk _))
def z1y{l:yG}{tl:TE}(hl:PE X l tl):PI X tg l (zAB X.K tl):=by
 intro U s Y H R I h;refine thn (hl U s Y H _ I h) λv s1 ⟨x,H1,I1,r1,q1⟩=>?_;obtain⟨a,e,⟨xs,hq⟩,q⟩:=q1;subst e;cases r1;obtain⟨its,rv,p,hz⟩:=I1.tuple hq;refine wpAny_pyIter_tuple (show s1.heap.IsTuple a its.toArray from p) ?_;refine⟨s1.heap.objs.size,[s1.heap.objs.size],_,_,H1,rfl,I1.kept (t':=s1.toks) λb o e=>yf _ e,zvs a _,⟨_,yp _ rfl,rfl,rfl⟩,λb hb=>?_,q⟩;have e:b=s1.heap.objs.size:=by simpa using hb
 subst e;exact I1.sQ (yk _) (I1.hok.fresh (yk _))
def znv{U:List (yg×xa)}{Y:St}{H:Hp}{s:ye}{R:It->Hp->Prop}{E:yb->ye->Prop}{lo hi:Int}{t u v:Tok}{tk:Nat}(I:Inv X U Y H s)(h1:-(2^62)<=lo)(h2:lo<2^62)(h3:-(2^62)<=hi)(h4:hi<2^62)
 (q:R (Itr lo (hi-lo).toNat) H):yq (yA X.prog X.w) X.A (pyIter (.ref s.heap.objs.size)) (PIE X U Y tg R) E {s with heap:=s.heap.push {cls:=.type "range",data:=.fields #[.int lo t,.int hi u,.int 1 v]},toks:=tk }:=by
 refine wpAny_pyIter_range (IsRange.new ..) (small_one h1 h2 h3 h4) ?_;have I1:Inv X U Y H {s with heap:=s.heap.push {cls:=.type "range",data:=.fields #[.int lo t,.int hi u,.int 1 v]},toks:=tk }:=I.kept λb o e=>yf _ e
 refine⟨(s.heap.push {cls:=.type "range",data:=.fields #[.int lo t,.int hi u,.int 1 v]}).objs.size,[(s.heap.push {cls:=.type "range",data:=.fields #[.int lo t,.int hi u,.int 1 v]}).objs.size],_,_,H,rfl,
  I1.kept (t':=tk) λb o e=>yf _ e,zms _ lo (hi-lo).toNat,?_,λb hb=>?_,q⟩
 ·have e1:lo+((0:Nat):Int)*1=lo:=by simp
  have e2:(((hi-lo).toNat:Nat):Int)-((0:Nat):Int)=Builtin.Range.rangeSize lo hi 1:=by rw[rangeSize_one];split<;>omega
  show IsRangeIter _ _ (lo+((0:Nat):Int)*1) ((((hi-lo).toNat:Nat):Int)-((0:Nat):Int)) 1;rw[e1,e2];exact yp _ rfl
 ·have e:b=(s.heap.push {cls:=.type "range",data:=.fields #[.int lo t,.int hi u,.int 1 v]}).objs.size:=by simpa using hb
  subst e;exact I1.sQ (yk _) (I1.hok.fresh (yk _))
def zMA(ta:TA):TI:=λY H R=>ta Y H λvs H1=>∃j:Int,vs=[.int j]/\-(2^62)<=j/\j<2^62/\R (Itr 0 j.toNat) H1
def zAt{a:yG}{ta:TA}{p pos:Xd}(hg:Gl X "range")(hm:X.mg "range"=none)(ha:PA X [a] ta)(hs:yu [a] X.env=[(false,Yx a X.env)]:=by rfl):PI X tg (.Call (.Name "range" p) [a] [] pos) (zMA ta):=by
 intro U s Y H R I h;refine Call_ (zzm I hg hm boot_range (YF (thn (ha pos U s Y H _ I h) λus s1 ⟨vs,H1,I1,r1,q1⟩=>?_) hs rfl));obtain⟨j,e,q1,q2,q⟩:=q1;subst e
 cases r1 with
 |cons r rr=>
  cases rr;obtain⟨t,rfl⟩:=r;exact call_range_1 (znv I1 (by omega) (by omega) q1 q2 (by simpa using q))
def zDB(wi:TI)(g:TG)(tb:TS):TS:=λD Y H=>wi Y H λδ H1=>∃W:Nat->Nat->St->Hp->Prop,(∃m,W 0 m Y H1)/\∀i m Y H,W i m Y H ->
 (δ.stop i H/\D.nx Y H)\/(δ.go i H/\∃N:St->Hp->Prop,(∀Y' H',N Y' H'->∃m',m'<m/\W (i+1) m' Y' H')/\∀x H',δ.yld i H x H'->g x Y H' λY2 H2=>tb {D with nx:=N,ct:=N,bk:=D.nx } Y2 H2)
def zPp(fp:List yg)(h:Ye):List (yg×xa):=fp.filterMap λb=>(h.get? b).map λo=>(b,o)
def zHh{fp:List yg}{h:Ye}{b:yg}{o:xa}(hb:b∈fp)(e:h.get? b=some o):(b,o)∈zPp fp h:=List.mem_filterMap.mpr ⟨b,hb,by rw[e];rfl⟩
def zeu{fp:List yg}{h:Ye}{p:yg×xa}(hp:p∈zPp fp h):p.1∈fp/\h.get? p.1=some p.2:=by
 obtain⟨b,hb,e⟩:=List.mem_filterMap.mp hp
 cases q:h.get? b with
 |none=>rw[q]at e;cases e
 |some o=>
  rw[q]at e;have e':(b,o)=p:=yS e;subst e';exact⟨hb,q⟩
def Inv.pinned{U:List (yg×xa)}{Y:St}{H:Hp}{s:ye}{fp:List yg}(I:Inv X U Y H s)(hf:∀b∈fp,zUq X U H b)(ho:∀b∈fp,∃o,s.heap.get? b=some o/\∀v,o.data≠.cell v):Inv X (U++zPp fp s.heap) Y H s :=
 I.sE λp hp=>(List.mem_append.mp hp).elim (λz=>I.pin p (mem_append_right _ z)) λz=>by
  obtain⟨hb,e⟩:=zeu z;obtain⟨f0,f1,f2,_⟩:=hf p.1 hb;obtain⟨o,e',d⟩:=ho p.1 hb;rw[e]at e';cases e';exact⟨e,f0,f1,f2,d⟩
def Inv.Tx{U pl:List (yg×xa)}{Y:St}{H:Hp}{s:ye}(I:Inv X (U++pl) Y H s):Inv X U Y H s:=I.sE λp hp=>I.pin p (mem_append_right _ (mem_append_left _ hp))
def zGz{iter:yG}{body:List Yb}{wi:TI}{g:TG}{tb:TS}{pos:Xd}(hp:PassesOwn (yA X.prog X.w) X.A X.env X.xe)(hc:X.calm=true)(hi:PI X tg iter wi)(hg:PG X tg g)(hb:PSs X body tb)
 (hs:∀x,YJ iter X.env x=pure x:=by intro _;rfl):PS X (.For tg iter body [] pos) (zDB wi g tb):=by
 intro U s Y H D I h;refine wpAny_For (thn (hi U s Y H _ I h) λv s1 h1=>thn h1 λitv s2 h2=>?_) hs;obtain⟨it,fp,tn,δ,H2,e,I2,T,st2,f2,W,⟨m0,w0⟩,turn⟩:=h2;subst e;have stat:∀{H':Hp},(∀b∈fp,H' b=none)->∀b∈fp,zUq X U H' b:=λhn b hb=>⟨hn b hb,(f2 b hb).2⟩
 refine codeAny_forLoop_any (λn s'=>∃i Y' H',Inv X U Y' H' s'/\tn i s'.heap/\(∀b∈fp,H' b=none)/\W i n Y' H') ?_ m0 ⟨0,Y,H2,I2,st2,λb hb=>(f2 b hb).1,w0⟩;rintro n s3 ⟨i,Y3,H3,I3,st3,fr3,w3⟩;rcases turn i n Y3 H3 w3 with ⟨stop,qn⟩|⟨go,N,hN,step⟩
 ·refine xq hp (thn (T.done X rfl rfl rfl hc i U s3 Y3 H3 X.xe I3 (stat fr3) st3 stop) λr s4 ⟨hr,I4⟩=>?_);subst hr;exact wpAny_execs_nil ⟨Y3,H3,I4,qn⟩
 ·refine xq hp (thn (T.item X rfl rfl rfl hc i U s3 Y3 H3 X.xe I3 (stat fr3) st3 go) λr s4 ⟨u,hr,h4⟩=>?_);subst hr;refine xq hp (thn h4 λ_ s5 ⟨x,H5,I5,r5,y5,st5,fr5⟩=>?_);have I5':=I5.pinned (stat fr5) (T.obj _ _ st5);refine xq hp (thn (hg _ s5 Y3 H5 x u _ I5' r5 (step x H5 y5)) λ_ s6 ⟨Y6,H6,I6,q6⟩=>?_);refine xq hp (thn (hb _ s6 Y6 H6 _ I6 q6) λf s7 q7=>?_)
  have again:∀{Y7:St} {H7:Hp},Inv X (U++zPp fp s5.heap) Y7 H7 s7->N Y7 H7->∃m,m<n/\∃i Y' H',Inv X U Y' H' s7/\tn i s7.heap/\(∀b∈fp,H' b=none)/\W i m Y' H':=λ{Y7 H7} I7 n7=>by
   obtain⟨m',hm,w7⟩:=hN Y7 H7 n7;refine⟨m',hm,i+1,Y7,H7,I7.Tx,T.keep _ _ _ st5 λb hb o e=>(I7.pin (b,o) (mem_append_right _ (mem_append_right _ (zHh hb e)))).1,λb hb=>?_,w7⟩;obtain⟨o,e,d⟩:=T.obj _ _ st5 b hb;exact(I7.pin (b,o) (mem_append_right _ (mem_append_right _ (zHh hb e)))).2.1
  cases f with
  |next=>obtain⟨Y7,H7,I7,n7⟩:=q7;exact again I7 n7
  |cont=>obtain⟨Y7,H7,I7,n7⟩:=q7;exact again I7 n7
  |brk=>obtain⟨Y7,H7,I7,q7⟩:=q7;exact⟨Y7,H7,I7.Tx,q7⟩
  |ret v=>obtain⟨x7,Y7,H7,I7,r7,q7⟩:=q7;exact⟨x7,Y7,H7,I7.Tx,r7,q7⟩
end
abbrev R2:=V->V->Hp->VK->Prop
def OpR(X:Cx)(f:yb->yb->Sem yb)(r:R2):Prop :=
 ∀(U:List (yg×xa)) (s:ye) (Y:St) (H:Hp) (x y:V) (v u:yb) (Q:VK),Inv X U Y H s->RelV x v->RelV y u->r x y H Q ->
  yq (yA X.prog X.w) X.A (f v u) (EP X U Y Q) X.xe s
def zrm(X:Cx)(f:yb)(r:List V->Hp->VK->Prop):Prop :=
 ∀(U:List (yg×xa)) (s:ye) (Y:St) (H:Hp) (xs:List V) (us:List yb) (Q:VK),Inv X U Y H s->Vals xs us->r xs H Q ->
  yq (yA X.prog X.w) X.A (call f us) (EP X U Y Q) X.xe s
def tOp(r:R2)(ta tb:TE):TE:=λY H Q=>ta Y H λx H1=>tb Y H1 λy H2=>r x y H2 Q
def rI(C:Int->Int->Prop)(g:Int->Int->V):R2:=λx y H Q=>∃i j,x=.int i/\y=.int j/\C i j/\Q (g i j) H
def rI0(g:Int->Int->V):R2:=λx y H Q=>∃i j,x=.int i/\y=.int j/\Q (g i j) H
section
variable {X:Cx}{a b c:yG}{ta tb tc:TE}{pos:Xd}
def binT(ha:PE X a ta)(hb:PE X b tb){U:List (yg×xa)}{s:ye}{Y:St}{H:Hp}{R:V->V->Hp->Prop}(I:Inv X U Y H s)
 (h:ta Y H λx H1=>tb Y H1 λy H2=>R x y H2) {Q:yb->ye->Prop} {f:yb->yb->Sem yb}
 (hf:∀v u s2 x y H2,Inv X U Y H2 s2->RelV x v->RelV y u->R x y H2->yq (yA X.prog X.w) X.A (f v u) Q X.xe s2) :
 yq (yA X.prog X.w) X.A (Yx a X.env) (λv s₁=>yq (yA X.prog X.w) X.A (Yx b X.env) (λu s₂=>yq (yA X.prog X.w) X.A (f v u) Q X.xe s₂) X.xe s₁) X.xe s:=by
 refine thn (ha U s Y H _ I h) λv s1 ⟨x,H1,I1,r1,q1⟩=>?_;refine thn (hb U s1 Y H1 _ I1 q1) λu s2 ⟨y,H2,I2,r2,q2⟩=>?_;exact hf v u s2 x y H2 I2 r1 r2 q2
def zDA{op:Operator}{r:R2}(ho:OpR X (xH op) r)(ha:PE X a ta)(hb:PE X b tb):PE X (.BinOp a op b pos) (tOp r ta tb):=by
 intro U s Y H Q I h;exact wpAny_BinOp (binT ha hb I h λv u s2 x y H2 I2 rx ry q=>ho U s2 Y H2 x y v u Q I2 rx ry q)
def opI{f:yb->yb->Sem yb}{C:Int->Int->Prop}{g:Int->Int->Int}
 (rule:∀(i j:Int)(t u:Tok)(s:ye)(Q:yb->ye->Prop)(E:yb->ye->Prop),C i j->Q (.int (g i j) s.toks) {s with toks:=s.toks+1 }->yq (yA X.prog X.w) X.A (f (.int i t) (.int j u)) Q E s) :
 OpR X f (rI C λi j =>.int (g i j)):=by
 intro U s Y H x y v u Q I rx ry h;obtain⟨i,j,rfl,rfl,hc,q⟩:=h;obtain⟨t,rfl⟩:=rx;obtain⟨t',rfl⟩:=ry;exact rule i j t t' s _ _ hc ⟨.int (g i j),H,I.tok _,⟨_,rfl⟩,q⟩
def opI0{f:yb->yb->Sem yb}{g:Int->Int->Int}
 (rule:∀(i j:Int)(t u:Tok)(s:ye)(Q:yb->ye->Prop)(E:yb->ye->Prop),Q (.int (g i j) s.toks) {s with toks:=s.toks+1 }->yq (yA X.prog X.w) X.A (f (.int i t) (.int j u)) Q E s) :
 OpR X f (rI0 λi j =>.int (g i j)):=by
 intro U s Y H x y v u Q I rx ry h;obtain⟨i,j,rfl,rfl,q⟩:=h;obtain⟨t,rfl⟩:=rx;obtain⟨t',rfl⟩:=ry;exact rule i j t t' s _ _ ⟨.int (g i j),H,I.tok _,⟨_,rfl⟩,q⟩
def opB0{f:yb->yb->Sem yb}{g:Int->Int->Bool}
 (rule:∀(i j:Int)(t u:Tok)(s:ye)(Q:yb->ye->Prop)(E:yb->ye->Prop),Q (.bool (g i j)) s->yq (yA X.prog X.w) X.A (f (.int i t) (.int j u)) Q E s) :
 OpR X f (rI0 λi j =>.bl (g i j)):=by
 intro U s Y H x y v u Q I rx ry h;obtain⟨i,j,rfl,rfl,q⟩:=h;obtain⟨t,rfl⟩:=rx;obtain⟨t',rfl⟩:=ry;exact rule i j t t' s _ _ ⟨.bl (g i j),H,I,rfl,q⟩
def z0y:OpR X (xH .Mod) (rI (λ_ j=>0<j) λi j =>.int (i%j)):=opI λi j _ _ _ _ _ hc q=>by
 have h1:(0:Int)<j:=hc;exact mod_int' (by omega) (by rw[Int.fmod_eq_emod_of_nonneg i (by omega)];exact q)
def z9x:OpR X (inplaceOp .Add) (rI0 λi j =>.int (i+j)):=opI0 λ_ _ _ _ _ _ _ q=>iadd_int q
def zBw{U:List (yg×xa)}{Y:St}{H:Hp}{s:ye}{Q:VK}{k k':Bool}(I:Inv X U Y H s)(q:Q (.bl k) H)(e:k=k'):EP X U Y Q (.bool k') s:=by
 subst e;exact⟨.bl k,H,I,rfl,q⟩
def znA:OpR X (Yl .Lt) (rI0 λi j =>.bl (decide (i<j))):=opB0 λ_ _ _ _ _ _ _ q=>lt_int q
def zxA:OpR X (Yl .Gt) (rI0 λi j =>.bl (decide (j<i))):=opB0 λ_ _ _ _ _ _ _ q=>gt_int q
def zjA:OpR X (Yl .GtE) (rI0 λi j =>.bl (decide (j<=i))):=opB0 λ_ _ _ _ _ _ _ q=>ge_int q
def zZm:OpR X (Yl .Is) (λx y H Q=>y=.non/\Q (.bl (decide (x=.non))) H):=by
 intro U s Y H x y v u Q I rx ry h;obtain⟨rfl,q⟩:=h;cases ry;refine is_none_gen (zBw I q ?_)
 cases x<;>first
  |(cases rx;rfl)
  |(obtain⟨t,rfl⟩:=rx;rfl)
def z1j:OpR X (Yl .IsNot) (λx y H Q=>y=.non/\Q (.bl (!decide (x=.non))) H):=by
 intro U s Y H x y v u Q I rx ry h;obtain⟨rfl,q⟩:=h;cases ry;refine isnot_none_gen (zBw I q ?_)
 cases x<;>first
  |(cases rx;rfl)
  |(obtain⟨t,rfl⟩:=rx;rfl)
def zOx{op:CmpOp}{r:R2}(ho:OpR X (Yl op) r)(ha:PE X a ta)(hb:PE X b tb)(hm:behindInMarks op b=false):PE X (.Compare a [op] [b] pos) (tOp r ta tb):=by
 intro U s Y H Q I h;exact wpAny_Compare1 (binT ha hb I h λv u s2 x y H2 I2 rx ry q=>ho U s2 Y H2 x y v u Q I2 rx ry q) hm
def zNA(t:TE):TT:=λY H Q=>t Y H λx H'=>∃k,x=.bl k/\Q k H'
def zYx{op:CmpOp}{r:R2}(ho:OpR X (Yl op) r)(ha:PE X a ta)(hb:PE X b tb)(hm:behindInMarks op b=false):PT X (.Compare a [op] [b] pos) (zNA (tOp r ta tb)):=by
 intro U s Y H Q I h
 refine wpAny_isTrue_Compare1 (thn (ha U s Y H _ I h) λv s1 ⟨x,H1,I1,r1,q1⟩=>thn (hb U s1 Y H1 _ I1 q1) λu s2 ⟨y,H2,I2,r2,q2⟩=>
  thn (ho U s2 Y H2 x y v u _ I2 r1 r2 q2) λc s3 ⟨z,H3,I3,r3,k,e,q3⟩=>?_) hm
 subst e;cases r3;exact xb ⟨H3,I3,q3⟩
def sd:(yI:Nat)<2^63:=by rw[yZ];decide
def vals1{x:V}{us:List yb}(r:Vals [x] us):∃u,us=[u]/\RelV x u:=by
 cases r with
 |cons r1 r2=>cases r2;exact⟨_,rfl,r1⟩
end
structure ObjM(h:Ye)(x dx C:yg)(mA:yF->Option yb):Prop where
 obj:h.get? x=some (W.instObj C dx)
 ns:h.Ns1 dx mA
 ne:dx≠x
section
variable {prog:yy}{w:yJ}{A:yM}{E:yb->ye->Prop}{s:ye}{K:yB}{x dx C f:yg}{mA:yF->Option yb}{name:yF}{v:yb}
end
def sI.some_of{v:V}{o:Option yb}(r:sI (some v) o):∃u,o=some u/\RelV v u:=by
 cases o with
 |none=>exact(show False from r).elim
 |some u=>exact⟨u,rfl,r⟩
section
variable {P:yy}{w:yJ}{H H':Hp}{h h':Ye}{a C dx:yg}{fs fs':List (yF×V)}
end
structure Cls(K:yB)(C:yg):Prop where
 pg:W.plainGet K C Str.empty=true
 hd:W.hasDictIn K C=true
 po:W.plainOver K C=true
 sa:W.findIn K (.ref C) "__setattr__"=some (some (.builtin "object.__setattr__"))
structure Con(K:yB)(C:yg)(f:yF)(v:V)(u:yb):Prop where
 at_:W.findIn K (.ref C) f=some (some u)
 rel:RelV v u
 get:W.specialIn K u "__get__"=some none
 cp:W.copiedNames.contains f=false
structure Meth(K:yB)(C:yg)(m:yF)(f:yg):Prop where
 at_:W.findIn K (.ref C) m=some (some (.ref f))
 fn:W.isFn K (.ref f)=true
 kp:W.keepIn K (.ref f)=true
section
variable {X:Cx}{U:List (yg×xa)}{Y:St}{H:Hp}{s:ye}{a C dx:yg}{fs:List (yF×V)}{f:yF}{v:V}{A:yM}{E:yb->ye->Prop}
variable {o e value:yG}{pos pos' tpos:Xd}{ta tv:TE}
variable {Q:yb->ye->Prop}{c:yb}{b:Bool}
inductive se(K:yB)(H:Hp):V->yb->Prop where
 |non:se K H .non (.type "NoneType")
 |bl (x:Bool):se K H (.bl x) (.type "bool")
 |int (i:Int):se K H (.int i) (.type "int")
 |str (x:yF):se K H (.str x) (.type "str")
 |flt (x:UInt64):se K H (.flt x) (.type "float")
 |lst {a:yg} {xs:List V} (e:H a=some (.lst xs)):se K H (.ref a) (.type "list")
 |frz {a:yg} {o:xa} {xs:List V} (e:H a=some (.frz o (.lst xs))):se K H (.ref a) (.type "list")
 |tup {a:yg} {xs:List V} (e:H a=some (.tup xs)):se K H (.ref a) (.type "tuple")
 |dK {a:yg} {kvs:List (Key×V)} (e:H a=some (.dK kvs)):se K H (.ref a) (.type "dict")
 |dT {a:yg} {kvs:List (List Key×V)} (e:H a=some (.dT kvs)):se K H (.ref a) (.type "dict")
 |ins {a C dx:yg} {fs:List (yF×V)} (e:H a=some (.ins C dx fs)) (cl:Cls K C) (ha:W.findIn K (.ref C) "__class__"=some (some (.builtin "object.__class__")))
  (hn:W.specialIn K (.builtin "object.__class__") "__get__"=some (some (.builtin "getset_descriptor.__get__"))) (htk:W.takesIn K (.builtin "object.__class__")=some true)
  (hm:W.mroIn K C (.type "object")=some true):se K H (.ref a) (.ref C)
end
structure Tk(k:Nat)(A:yM):Prop where
 hd:A.handled=none
 dp:A.depth+3*k+5<recursionLimit
 un:A.units+16*k+200<cLine
 gd:A.guards=some []
def Tk.mono{j k:Nat}{A:yM}(r:Tk k A)(h:j<=k):Tk j A:=⟨r.hd,by have:=r.dp;omega,by have:=r.un;omega,r.gd⟩
def Tk.deeper{k:Nat}{A:yM}(r:Tk (k+1) A)(env:Env):Tk k (A.deeper env) :=
 ⟨r.hd,by have:=r.dp;show A.depth+1+3*k+5<_;omega,by have:=r.un;show A.units+3+16*k+200<_;omega,r.gd⟩
def Tk.depth{k:Nat}{A:yM}(r:Tk k A):A.depth<recursionLimit:=by have:=r.dp;omega
def Tk.units{k:Nat}{A:yM}(r:Tk k A):A.units+64<cLine:=by have:=r.un;omega
def zHB:TA:=λ_ H Q=>Q [] H
def zzA(ta:TE)(tr:TA):TA:=λY H Q=>ta Y H λx H1=>tr Y H1 λxs H2=>Q (x::xs) H2
section
variable {X:Cx}{e:yG}{es:List yG}{te:TE}{t:TA}{pos:Xd}
def z0l:PA X [] zHB:=λ_ _ _ _ H Q I h=>Calls.spliced_nil ⟨[],H,I,.nil,h⟩
def zbi(ha:PE X e te)(hr:PA X es t)(hs:yu (e::es) X.env=(false,Yx e X.env)::yu es X.env:=by rfl):PA X (e::es) (zzA te t):=by
 intro pos U s Y H Q I h;rw[hs];show yq _ _ (spliced ((false,Yx e X.env)::YY pos (yu es X.env))) _ _ s;refine Calls.spliced_cons (thn (ha U s Y H _ I h) λu s1 ⟨x,H1,I1,r1,q1⟩=>?_);exact thn (hr pos U s1 Y H1 _ I1 q1) λus s2 ⟨xs,H2,I2,r2,q2⟩=>⟨x::xs,H2,I2,.cons r1 r2,q2⟩
def zmB(t:TA):TE:=λY H Q=>t Y H λxs H1=>xs.length<=yI/\∀p,H1 p=none->Q (.ref p) (upd H1 p (.tup xs))
def zxB(t:TA):TE:=λY H Q=>t Y H λxs H1=>xs.length<=yI/\∀p,H1 p=none->Q (.ref p) (upd H1 p (.lst xs))
def z6y{x1}(h:PA X es t):PE X (.Tuple es x1 pos) (zmB t):=by
 intro U s Y H Q I hq;refine wpAny_Tuple_spliced (thn (h pos U s Y H _ I hq) λus s1 ⟨xs,H1,I1,r,z,q⟩=>⟨by rw[<-r.length];exact z,?_⟩);have hf:H1 s1.heap.objs.size=none:=I1.hok.fresh (yk _);refine⟨.ref s1.heap.objs.size,upd H1 s1.heap.objs.size (.tup xs),I1.laid (t':=s1.toks) (λb u e=>yf _ e) (yk _) ?_,rfl,q _ hf⟩;exact⟨z,us,r,⟨_,yp _ rfl,rfl,_,rfl⟩⟩
def zlz(h:PA X es t):PE X (.List es pos) (zxB t):=by
 intro U s Y H Q I hq;refine wpAny_List_spliced (thn (h pos U s Y H _ I hq) λus s1 ⟨xs,H1,I1,r,z,q⟩=>⟨by rw[<-r.length];exact z,?_⟩);have hf:H1 s1.heap.objs.size=none:=I1.hok.fresh (yk _);refine⟨.ref s1.heap.objs.size,upd H1 s1.heap.objs.size (.lst xs),I1.laid (t':=s1.toks) (λb u e=>yf _ e) (yk _) ?_,rfl,q _ hf⟩;exact⟨z,us,0,r,yp _ rfl⟩
end
abbrev Sp:=List V->Hp->VK->XK->Prop
abbrev CXT:=List Env->Hp->ye->XK->yb->ye->Prop
structure Env0(P:yy)(w:yJ)(K:yB)(mg:yF->Option yb)(base:Ye)(A:yM)(outer:List Env)(s:ye)(H:Hp):Prop where
 frames:A.frames=some outer
 mod:Mod K mg base
 bs:∀b o,base.get? b=some o->s.heap.get? b=some o/\H b=none
 bsz:base.objs.size<=s.heap.objs.size
 TZ:s.heap.FunFrames base outer
 frf:∀b∈frs outer,H b=none
 hok:HOk P w H s.heap
 bare:AllBare s.gens
def CE(outer:List Env)(P:yy)(w:yJ)(H:Hp)(s:ye)(Q:VK)(u:yb)(s':ye):Prop :=
 ∃v H',s'.os=s.os/\AllBare s'.gens/\Un (frs outer) [] H H' s.heap s'.heap/\HOk P w H' s'.heap/\RelV v u/\Q v H'
def CR(CX:CXT)(outer:List Env)(P:yy)(w:yJ)(H:Hp)(s:ye)(Q:VK)(E:XK)(r:Result)(s':ye):Prop :=
 match r with
 |.ok (.ret u)=>CE outer P w H s Q u s'
 |.ok _=>False
 |.error e=>CX outer H s E e s'
structure tm(P:yy)(w:yJ)(K:yB)(mg:yF->Option yb)(base:Ye)(CX:CXT)(k:Nat)(f:yg)(fd:yj)(ps:List yF)(sp:Sp):Prop where
 len:∀vs H Q E,sp vs H Q E->vs.length=ps.length
 run:∀(A:yM)(outer:List Env)(s:ye)(H:Hp)(args:Args)(us:List yb)(vs:List V)(Q:VK)(E:XK),Tk k A->Env0 P w K mg base A outer s H->BindsTo s fd args (ps.zip us)->Vals vs us->sp vs H Q E ->
  codeAny (yA P w) A (.call (.ref f) args) (CR CX outer P w H s Q E) s
section
variable {X:Cx}{U:List (yg×xa)}{Y:St}{H:Hp}{s s':ye}
def Inv.env0(I:Inv X U Y H s):Env0 X.prog X.w X.K X.mg X.base X.A X.stack s H :=
 ⟨I.ok.frames,I.ok.mod,I.bs,yD I.ok.bsz I.sz,I.stack,I.sU,I.hok,I.bare⟩
def Inv.after{Q:VK}{u:yb}(I:Inv X U Y H s)(h:CE X.stack X.prog X.w H s Q u s'):EP X U Y Q u s':=by
 obtain⟨v,H',os,bare,un,hok,r,q⟩:=h;obtain⟨hh,g,d,t,os'⟩:=s';obtain rfl:os'=s.os:=os;exact⟨v,H',I.call (h':=hh) (g':=g) (d':=d) (t':=t) (ch:=[]) un hok bare (λb z=>absurd z (by simp)),r,q⟩
end
def zhA(sp:Sp)(dvs:List V)(E:XK)(t:TA):TE:=λY H Q=>t Y H λvs H1=>sp (vs++dvs) H1 Q E
def Binds(K:yB)(fd:yj)(ps:List yF)(ds:List yb):Prop :=
 ∀(s:ye)(us:List yb),K.In s.heap->(us++ds).length=ps.length->BindsTo s fd ⟨us,[]⟩ (ps.zip (us++ds))
def Binds.all{K:yB}{fd:yj}{ps:List yF}(h:∀us:List yb,us.length=ps.length->bindArgs fd ⟨us,[]⟩=pure (ps.zip us)):Binds K fd ps []:=λs us _ hl=>by
 rw[List.append_nil]at hl ⊢;exact .of_eq (h us hl)
def z5t(CX:CXT)(X:Cx)(E:XK):Prop:=∀(U:List (yg×xa)) (Y:St) (H:Hp) (s:ye) (e:yb) (s':ye),Inv X U Y H s->CX X.stack H s E e s'->X.xe e s'
section
variable {X:Cx}{CX:CXT}{k:Nat}{f C:yg}{fd:yj}{ps:List yF}{sp:Sp}{dvs:List V}{ds:List yb}{E:XK}{x m:yF}{p pos apos:Xd}{e o:yG}{es:List yG}{ta:TE}{t:TA}
def zqz{U:List (yg×xa)}{Y:St}{H:Hp}{s:ye}{Q:VK}{us:List yb}{vs:List V}(F:tm X.prog X.w X.K X.mg X.base CX k f fd ps sp)(hr:Tk k X.A)(hb:Binds X.K fd ps ds)(hd:Vals dvs ds)(hx:z5t CX X E)
 (I:Inv X U Y H s) (r:Vals vs us) (h:sp (vs++dvs) H Q E):yq (yA X.prog X.w) X.A (call (.ref f) us) (EP X U Y Q) X.xe s:=by
 have r2:Vals (vs++dvs) (us++ds):=r.append hd;have hl:(us++ds).length=ps.length:=by rw[<-r2.length];exact F.len _ _ _ _ h
 refine wpAny_call (xt (F.run X.A X.stack s H ⟨us,[]⟩ (us++ds) (vs++dvs) Q E hr I.env0 (hb s us I.kIn hl) r2 h) λr s' hq=>?_)
 cases r with
 |error e=>exact hx U Y H s e s' I hq
 |ok fl=>
  cases fl with
  |ret u=>exact I.after hq
  |next=>exact xO hq
  |brk=>exact xO hq
  |cont=>exact xO hq
def zjy(F:tm X.prog X.w X.K X.mg X.base CX k f fd ps sp)(hr:Tk k X.A)(hg:Gl X x)(hm:X.mg x=some (.ref f))(hk:W.keepIn X.K (.ref f)=true)(hb:Binds X.K fd ps ds)(hd:Vals dvs ds)(hx:z5t CX X E)
 (ha:PA X (e::es) t) (hdb:(x==("__debug__":yF))=false:=by decide) (he:yu (e::es) X.env=(false,Yx e X.env)::yu es X.env:=by rfl) (hpl:(YY pos (yu es X.env)).any (·.1)=false:=by rfl) :
 PE X (.Call (.Name x p) (e::es) [] pos) (zhA sp dvs E t):=by
 intro U s Y H Q I h;refine xP (zTx I hg hm ?_ hdb);refine W.callWith_K (h₀:=X.base) I.ok.mod.kin hk (thn (ha pos U s Y H _ I h) λus s1 ⟨vs,H1,I1,r,q⟩=>⟨I1.kIn,?_⟩) he hpl;exact zqz F hr hb hd hx I1 r q
structure Mk(K:yB)(C f:yg):Prop where
 makes:W.makesIn K C=true
 init:W.findIn K (.ref C) "__init__"=some (some (.ref f))
 fn:W.isFn K (.ref f)=true
 kp:W.keepIn K (.ref C)=true
variable {ks:List yF}{kpos:Xd}{kws:List xF}{te:TE}{tk:TA}{nm:Option yF}
structure KBinds(K:yB)(fd:yj)(ps ks:List yF)(g:List yb->List yb->List yb)(gV:List V->List V->List V):Prop where
 to:∀(s:ye)(us ws:List yb),K.In s.heap->(g us ws).length=ps.length->BindsTo s fd ⟨us,ks.zip ws⟩ (ps.zip (g us ws))
 rel:∀{vs:List V} {us:List yb} {zs:List V} {ws:List yb},Vals vs us->Vals zs ws->Vals (gV vs zs) (g us ws)
variable {g:List yb->List yb->List yb}{gV:List V->List V->List V}
end
structure tq(N P:List yF)(sc:xY):Prop where
 kind:sc.kind=.function
 co:sc.isCoroutine=false
 gen:sc.isGenerator=false
 nd:N.Nodup
 pre:N.take P.length=P
 par:∀x∈P,sc.names.lookup x=some .local\/sc.names.lookup x=some .cell
 nofree:∀y∈sc.names,y.2≠.free
def zRo{kindOf:yF->Option YZ}{x:yF}:∀{binds:List (yF×yb)} {m:yF->Option yb},(∀v,(x,v)∉binds)->bindL kindOf binds m x=m x
 |[],_,_=>rfl
 |(n,v)::r,m,h=>by
  unfold bindL;rw[zRo λw hw=>h w (mem_cons_of_mem _ hw)]
  split
  ·have:x≠n:=by rintro rfl;exact h v mem_cons_self
   simp[this]
  ·rfl
def zzp{kindOf:yF->Option YZ}{x:yF}:∀{binds:List (yF×yb)} {m:yF->Option yb},(∀v,(x,v)∉binds)->bindC kindOf binds m x=m x
 |[],_,_=>rfl
 |(n,v)::r,m,h=>by
  unfold bindC;rw[zzp λw hw=>h w (mem_cons_of_mem _ hw)]
  split
  ·rfl
  ·have:x≠n:=by rintro rfl;exact h v mem_cons_self
   simp[this]
def zMp{kindOf:yF->Option YZ}{x:yF}{v:yb}:∀{P:List yF} {vs:List yb} {i:Nat} {m:yF->Option yb},P.Nodup->P[i]?=some x->vs[i]?=some v->kindOf x=some .local ->
 bindL kindOf (P.zip vs) m x=some v
 |[],_,_,_,_,h,_,_=>by simp at h
 |_::_,[],_,_,_,_,h,_=>by simp at h
 |p::P,w::vs,0,m,nd,h1,h2,hk=>by
  simp at h1 h2;subst h1;subst h2;show bindL kindOf ((p,w)::P.zip vs) m p=_;unfold bindL;rw[zRo λv hv=>(List.nodup_cons.mp nd).1 (List.of_mem_zip hv).1,if_pos hk];simp
 |p::P,w::vs,i+1,m,nd,h1,h2,hk=>by
  show bindL kindOf ((p,w)::P.zip vs) m x=_;unfold bindL;exact zMp (i:=i) (List.nodup_cons.mp nd).2 (by simpa using h1) (by simpa using h2) hk
def zmo{kindOf:yF->Option YZ}{x:yF}{v:yb}:∀{P:List yF} {vs:List yb} {i:Nat} {m:yF->Option yb},P.Nodup->P[i]?=some x->vs[i]?=some v->kindOf x≠some .local ->
 bindC kindOf (P.zip vs) m x=some v
 |[],_,_,_,_,h,_,_=>by simp at h
 |_::_,[],_,_,_,_,h,_=>by simp at h
 |p::P,w::vs,0,m,nd,h1,h2,hk=>by
  simp at h1 h2;subst h1;subst h2;show bindC kindOf ((p,w)::P.zip vs) m p=_;unfold bindC;rw[zzp λv hv=>(List.nodup_cons.mp nd).1 (List.of_mem_zip hv).1,if_neg hk];simp
 |p::P,w::vs,i+1,m,nd,h1,h2,hk=>by
  show bindC kindOf ((p,w)::P.zip vs) m x=_;unfold bindC;exact zmo (i:=i) (List.nodup_cons.mp nd).2 (by simpa using h1) (by simpa using h2) hk
def start(N:List yF)(vs:List V):St:=vs.map some++yo (N.length-vs.length) none
def zxx(CX:CXT)(P:yy)(w:yJ)(K:yB)(mg:yF->Option yb)(base:Ye)(N:List yF)(qual:yF)(scope:xY)(f:yg)(cd:yb)(A:yM)(outer:List Env)(s:ye)(H:Hp)(E:XK):Cx where
 prog:=P
 w:=w
 K:=K
 mg:=mg
 base:=base
 A:=A.deeper (envOfC qual scope s.heap.objs.size f cd)
 N:=N
 s₀:=s
 H₀:=H
 env:=envOfC qual scope s.heap.objs.size f cd
 outer:=outer
 stack:=envOfC qual scope s.heap.objs.size f cd::outer
 ex:=[]
 calm:=true
 fn:=λ_=>true
 pn:=[]
 xe:=λe s'=>yq (yA P w) (A.deeper (envOfC qual scope s.heap.objs.size f cd)) (leaving (envOfC qual scope s.heap.objs.size f cd) e) (λ_ s''=>CX outer H s E e s'') (λe' s''=>CX outer H s E e' s'') s'
def zRq{sc:xY}{n:Nat}{x:yF}(h:sc.names.lookup x=some .cell):∃c,(Ym n sc.names []).lookup x=some c:=by
 have q:=W.cellsFrom_some sc.names n [] (.inl h);exact Option.isSome_iff_exists.mp q
def zxu{CX:CXT}{P:yy}{w:yJ}{K:yB}{mg:yF->Option yb}{base:Ye}{N ps:List yF}{qual:yF}{scope:xY}{f:yg}{cd:yb}{A:yM}{outer:List Env}{s s1:ye}{H:Hp}{E:XK}{us:List yb}{vs:List V}
 (S:tq N ps scope) (hd:A.handled=none) (e0:Env0 P w K mg base A outer s H) (hl:vs.length=ps.length) (r:Vals vs us)
 (x:InCallC s s.heap.objs.size (bindL (envOfC qual scope s.heap.objs.size f cd).kindOf (ps.zip us) λ_=>none) (Ym (s.heap.objs.size+1) scope.names []) (bindC (envOfC qual scope s.heap.objs.size f cd).kindOf (ps.zip us) λ_=>none) s1) :
 Inv (zxx CX P w K mg base N qual scope f cd A outer s H E) [] (start N vs) H s1:=by
 have hpl:ps.length<=N.length:=by have:=congrArg xM S.pre;rw[length_take]at this;omega
 obtain⟨h1,tk,rfl,hk⟩:=x.done;have noA:∀b:yg,b∉(zxx CX P w K mg base N qual scope f cd A outer s H E).ex:=λb z=>absurd (show b∈([]:List yg) from z) (by simp)
 refine⟨⟨e0.mod,S.kind,rfl,rfl,yk _,λy z c h1 h2=>?_,λy hy=>?_,λy c _ h=>?_,λ_=>hd,Around.frames_deeper e0.frames,.inr ⟨rfl,rfl⟩,λb z=>absurd z (noA b),e0.bs,e0.bsz,λb _ _=>noA b,λb z=>absurd z (noA b),e0.TZ,e0.frf⟩,
  rfl,e0.bare,Un.kept hk,⟨_,x.toInCall.ns,λi y v h1 h2 h3=>?_⟩,λy c h=>⟨_,x.cell y c h⟩,e0.hok.fresh (yk _),λy c h=>?_,λp hp=>absurd (show p∈([]:List (yg×xa)) from hp) (by simp),e0.hok.kept hk,?_⟩
 ·exact name_of_addr x.apart (yV h1) (yV h2)
 ·have hy:scope.names.lookup y=some .cell\/scope.names.lookup y=some .free:=hy;rcases hy with hy|hy
  ·exact zRq hy
  ·exact absurd rfl (S.nofree _ (yV hy))
 ·exact Yq (x.above y c (yV h))
 ·have hi:i<vs.length:=by
   unfold start at h2
   by_cases hi:i<vs.length
   ·exact hi
   ·rw[yH (by simpa using hi)]at h2;rw[Yi]at h2
    split at h2<;>cases h2
  have ha:vs[i]?=some v:=by
   unfold start at h2;rw[yn (by simpa using hi),yh]at h2
   cases e:vs[i]? with
   |none=>rw[e]at h2;cases h2
   |some a=>rw[e]at h2;cases h2;rfl
  obtain⟨u,hu,rv⟩:=r.get ha
  have hp:ps[i]?=some y:=by
   rw[<-S.pre,List.getElem?_take_of_lt (by omega)];exact h1
  have ndP:ps.Nodup:=by rw[<-S.pre];exact S.nd.sublist (List.take_sublist _ _)
  refine⟨u,rv,?_⟩;rcases S.par y (mem_of_getElem? hp) with k|k
  ·exact .inl ⟨k,zMp ndP hp hu k⟩
  ·obtain⟨c,e⟩:=zRq (n:=s.heap.objs.size+1) k;refine .inr ⟨.inl k,c,e,?_⟩;have q:=x.cell y c e;rw[zmo ndP hp hu (by show scope.names.lookup y≠_;rw[k];decide)]at q;exact q
 ·exact e0.hok.fresh (Yq (x.above y c (yV h)))
 ·unfold start;show _=N.length;rw[length_append,length_map,xU];omega
def z8z{CX:CXT}{P:yy}{w:yJ}{K:yB}{mg:yF->Option yb}{base:Ye}{k:Nat}{f:yg}{name qual:yF}{params:Arguments}{body:List Yb}{scope:xY}{dV kV doc pm cdv ct oc:yb}{an od:Option yg}
 {osl:Array (Option yb)} {N ps:List yF} {sp:Sp} (lk:K.lookup f=some ⟨oc,od,.func (W.fnOf name qual params body scope dV kV doc pm an cdv ct),osl⟩) (hcd:W.codeIn K cdv qual=true) (S:tq N ps scope)
 (len:∀vs H Q E,sp vs H Q E->vs.length=ps.length)
 (hbody:∀(A:yM)(outer:List Env)(s:ye)(H:Hp)(vs:List V)(Q:VK)(E:XK),Tk k (A.deeper (envOfC qual scope s.heap.objs.size f cdv))->sp vs H Q E ->
  ∃t,PSs (zxx CX P w K mg base N qual scope f cdv A outer s H E) body t/\t {nx:=λ_ H'=>Q .non H',rt:=Q } (start N vs) H) :
 tm P w K mg base CX (k+1) f (W.fnOf name qual params body scope dV kV doc pm an cdv ct) ps sp:=by
 refine⟨len,λA outer s H args us vs Q E hr e0 hb r hsp=>?_⟩;have hl:=len _ _ _ _ hsp;have KX:K.In s.heap:=e0.mod.kin.keeps λb o e=>(e0.bs b o e).1;have lim:s.heap.NoLimit:=e0.mod.nolimit.keeps λb o e=>(e0.bs b o e).1
 have hkind:∀y∈ps.zip us,scope.names.lookup y.1=some .local\/(scope.names.lookup y.1=some .cell/\((Ym (s.heap.objs.size+1) scope.names []).lookup y.1).isSome=true):=λ⟨n,v⟩ hy=>by
  rcases S.par n (List.of_mem_zip hy).1 with q|q
  ·exact .inl q
  ·exact .inr ⟨q,W.cellsFrom_some _ _ _ (.inl q)⟩
 refine codeAny_call_function hr.depth (KX _ _ lk) rfl S.co S.gen rfl (W.codeRec_of KX hcd) (hb _ _ _ _ ?_);refine wpAny_newFunctionEnv_cells S.kind hkind λenv he s1 x=>?_;subst he;refine⟨lim.keeps x.toInCall.keep,codeAny_func ?_⟩;obtain⟨t,ht,hq⟩:=hbody A outer s H vs Q E (hr.deeper _) hsp;have I:Inv (zxx CX P w K mg base N qual scope f cdv A outer s H E) [] (start N vs) H s1:=zxu S hr.hd e0 hl r x;refine YT (ht [] s1 (start N vs) H _ I hq) (λfl s' hs=>?_) λe s' hs=>hs
 have fin:∀{Y':St} {H':Hp} {v:V} {u:yb},Inv (zxx CX P w K mg base N qual scope f cdv A outer s H E) [] Y' H' s'->RelV v u->Q v H'->CE outer P w H s Q u s' :=
  λ{Y' H' v u} δ rv q=>⟨v,H',δ.os,δ.bare,δ.base,δ.hok,rv,q⟩
 cases fl with
 |ret u=>
  obtain⟨v,Y',H',δ,rv,q⟩:=hs;exact fin δ rv q
 |next=>
  obtain⟨Y',H',δ,q⟩:=hs;exact fin (v:=V.non) (u:=YC) δ rfl q
 |brk=>
  obtain⟨_,_,_,q⟩:=hs;exact xO q
 |cont=>
  obtain⟨_,_,_,q⟩:=hs;exact xO q
section
variable {X:Cx}{x:yF}{p pos:Xd}{e:yG}{es:List yG}{t:TA}{id T:String}{r:List V->Hp->VK->Prop}
def tCB(r:List V->Hp->VK->Prop)(t:TA):TE:=λY H Q=>t Y H λvs H1=>r vs H1 Q
def z6q(hc:zrm X (.builtin id) r)(hg:Gl X x)(hm:X.mg x=none)(hv:yL x=some (.builtin id))(ha:PA X (e::es) t)(hn:x≠"__name__":=by decide)(hdb:(x==("__debug__":yF))=false:=by decide)
 (he:yu (e::es) X.env=(false,Yx e X.env)::yu es X.env:=by rfl) (hpl:(YY pos (yu es X.env)).any (·.1)=false:=by rfl):PE X (.Call (.Name x p) (e::es) [] pos) (tCB r t):=by
 intro U s Y H Q I h;refine xP (zzm I hg hm hv ?_ hn hdb);exact PyProof.Rows.callWith_builtin1 (thn (ha pos U s Y H _ I h) λus s1 ⟨vs,H1,I1,r1,q1⟩=>hc U s1 Y H1 vs us Q I1 r1 q1) he hpl
def z2i(hc:zrm X (.type T) r)(hg:Gl X x)(hm:X.mg x=none)(hv:yL x=some (.type T))(ha:PA X (e::es) t)(hn:x≠"__name__":=by decide)(hdb:(x==("__debug__":yF))=false:=by decide)
 (he:yu (e::es) X.env=(false,Yx e X.env)::yu es X.env:=by rfl) (hpl:(YY pos (yu es X.env)).any (·.1)=false:=by rfl):PE X (.Call (.Name x p) (e::es) [] pos) (tCB r t):=by
 intro U s Y H Q I h;refine xP (zzm I hg hm hv ?_ hn hdb);exact YF (thn (ha pos U s Y H _ I h) λus s1 ⟨vs,H1,I1,r1,q1⟩=>hc U s1 Y H1 vs us Q I1 r1 q1) he hpl
end
end L2
namespace HT
open PySem PyProof.Rows
def Se(A:yM)(s:ye)(a:Int)(t:Tok)(c:Int)(u:Tok):∃e,SeqAt.EqAt A s (.int a t) (.int c u) e/\(e=true↔a=c) :=
 ⟨(a==c),SeqAt.EqAt.int_int a t c u,by simp⟩
def Sf(A:yM)(s:ye)(a:Int)(t:Tok)(c:Int)(u:Tok)(prog:yy)(w:yJ)(E:yb->ye->Prop)(Q:yb->ye->Prop)(h:Q (.bool (decide (a<c))) s) :
 yq (yA prog w) A (richCompare .Lt (.int a t) (.int c u)) Q E s :=
 (PyProof.Rows.lt_int h:yq (yA prog w) A (Yl .Lt (.int a t) (.int c u)) Q E s)
section
open PySem.SeqAt
open PySem.AutoSeq1 (wpAny_loadPart')
open PySem.MeetsSeq PySem.MeetsSeq2 PySem.MeetsSeq3
end
section
variable {prog:yy}{w:yJ}{A:yM}{E:yb->ye->Prop}{s:ye}
def cat_tup{t b:yg}{vs ws:List yb}{Q:yb->ye->Prop}(ht:IsTup s.heap t vs.toArray)(hb:IsTup s.heap b ws.toArray)(hv:vs≠[])
 (h1:ws=[]->Q (.ref t) s) (h2:ws≠[]->Q (.ref s.heap.objs.size) {s with heap:=s.heap.push {cls:=.type "tuple",data:=.seq (vs++ws).toArray }})
 (hsz:vs.length+ws.length<=yI):yq (yA prog w) A (xH .Add (.ref t) (.ref b)) Q E s:=by
 obtain⟨⟨cls,dd,data,sl⟩,ho,hc,n,hd⟩:=id ht;obtain⟨⟨cls2,dd2,data2,sl2⟩,ho2,hc2,n2,hd2⟩:=id hb;simp only at hc hd hc2 hd2;subst hc hd hc2 hd2;have e:vs.toArray++ws.toArray=(vs++ws).toArray:=by simp
 by_cases hw:ws=[]
 ·exact concat_meets ⟨_,ho,rfl⟩ ⟨_,ho2,rfl⟩ noFill_tuple_add seq_tuple_add PySem.F.slot_tuple_add PySem.F.entry_tuple_add (PySem.F.args_tuple_add_2 _ _)
   (tuple_addW1 t b vs.toArray ws.toArray n n2 dd dd2 sl sl2 (by simpa using hv) (by simp[hw])) ⟨ho,ho2,h1 hw⟩
 ·refine concat_meets ⟨_,ho,rfl⟩ ⟨_,ho2,rfl⟩ noFill_tuple_add seq_tuple_add PySem.F.slot_tuple_add PySem.F.entry_tuple_add (PySem.F.args_tuple_add_2 _ _)
   (tuple_addW2 t b vs.toArray ws.toArray n n2 dd dd2 sl sl2 (by simpa using hv) (by simpa using hw) (by rw[size_toArray,size_toArray];exact hsz)) ⟨ho,ho2,?_⟩
  rw[e];exact h2 hw
def sIx(n d:Nat):Option Int->Nat
 |none=>d
 |some v=>if v<0 then(v+(n:Int)).toNat else min v.toNat n
def sL(n d:Nat):sIx n d none=d:=rfl
def sV(n d k:Nat):sIx n d (some (k:Int))=min k n:=by
 show(if(k:Int)<0 then((k:Int)+(n:Int)).toNat else min (k:Int).toNat n)=min k n;rw[if_neg (by omega),yQ]
def zhz(n d:Nat)(hd:d<=n)(o:Option Int):sIx n d o<=n:=by
 cases o with
 |none=>exact hd
 |some v=>
  show(if v<0 then(v+(n:Int)).toNat else min v.toNat n)<=n
  by_cases hv:v<0
  ·rw[if_pos hv];omega
  ·rw[if_neg hv];exact Nat.min_le_right _ _
def zNu(v:Int)(n d:Nat):(if v<0 then max (v+(n:Int)) 0 else min v (n:Int))=((sIx n d (some v):Nat):Int):=by
 show(if v<0 then max (v+(n:Int)) 0 else min v (n:Int))=(((if v<0 then(v+(n:Int)).toNat else min v.toNat n):Nat):Int)
 by_cases hv:v<0
 ·simp only[if_pos hv];omega
 ·simp only[if_neg hv];omega
def zGs(lo hi:Option Int)(n:Nat):Builtin.Slice.sliceAdjust lo hi 1 (n:Int)=(((sIx n 0 lo:Nat):Int),((sIx n n hi:Nat):Int)):=by
 have h1:¬((1:Int)<0):=by omega
 unfold Builtin.Slice.sliceAdjust;simp only[h1,if_false];refine Prod.ext ?_ ?_
 ·cases lo with
  |none=>rfl
  |some v=>exact zNu v n 0
 ·cases hi with
  |none=>rfl
  |some v=>exact zNu v n n
def zZr(i j:Nat):xp (i:Int) (j:Int) 1=j-i:=by
 unfold xp;have h1:(1:Int)>0:=by omega
 simp only[h1,if_true,Int.ediv_one]
 split<;>omega
def zMm{v:yb}{o:Option Int}{Q:Option Int->ye->Prop}(p:IsPart v o)(h:Q o s):yq (yA prog w) A (Builtin.Slice.slicePartIndex v) Q E s:=by
 cases p with
 |none=>exact slicePart_none h
 |int i t=>exact slicePart_int h
def To{sl:yg}{vl vu:yb}{lo hi:Option Int}{n:Nat}{Q:Int×Int×Nat->ye->Prop}(hs:s.heap.IsSliceOf sl vl vu .none)(pl:IsPart vl lo)(pu:IsPart vu hi)
 (h:Q (((sIx n 0 lo:Nat):Int),1,sIx n n hi-sIx n 0 lo) s):yq (yA prog w) A (Builtin.Slice.sliceApplied (.ref sl) (pure (n:Int))) Q E s:=by
 obtain⟨os,hos,hcs,hds⟩:=id hs;unfold Builtin.Slice.sliceApplied Builtin.Slice.sliceFields;refine ya (ya (YM hos hds (x:=vl) rfl (ya (YM hos hds (x:=vu) rfl (ya (YM hos hds (x:=.none) rfl (yi ?_)))))));refine ya (slicePart_none ?_);show yq _ _ (if((1:Int)==0)=true then _ else _) _ _ s;rw[if_neg (by decide)];refine ya (zMm pl (ya (zMm pu (ya (yi ?_)))));show yq _ _ (match Builtin.Slice.sliceAdjust lo hi 1 (n:Int) with|(lo,hi)=>pure (lo,(1:Int),xp lo hi 1)) _ _ s;rw[zGs lo hi n];show yq _ _ (pure (((sIx n 0 lo:Nat):Int),(1:Int),xp ((sIx n 0 lo:Nat):Int) ((sIx n n hi:Nat):Int) 1)) _ _ s;rw[zZr];exact yi h
def zMv(xs:Array yb)(i k:Nat):((yd k).filterMap λ(m:Nat)=>xs[((i:Int)+(m:Int)*1).toNat]?).toArray=((xs.toList.drop i).take k).toArray:=by
 have e:(λ(m:Nat)=>xs[((i:Int)+(m:Int)*1).toNat]?)=λm=>xs[i+m]?:=by
  funext m
  have:((i:Int)+(m:Int)*1).toNat=i+m:=by omega
  rw[this]
 rw[e];have:=pick_run xs i k;rw[List.filterMap_map]at this;have e2:((λx=>xs[x]?)∘λx=>i+x)=λm=>xs[i+m]?:=rfl;rw[e2]at this;rw[this]
def TR{t sl:yg}{items:Array yb}{vl vu:yb}{lo hi:Option Int}{Q:yb->ye->Prop}(ht:IsTup s.heap t items)(hs:s.heap.IsSliceOf sl vl vu .none)(pl:IsPart vl lo)(pu:IsPart vu hi)
 (hw:¬(sIx items.size 0 lo=0/\sIx items.size items.size hi=items.size))
 (h:Q (.ref s.heap.objs.size) {s with heap:=s.heap.push {cls:=.type "tuple",data:=.seq ((items.toList.drop (sIx items.size 0 lo)).take (sIx items.size items.size hi-sIx items.size 0 lo)).toArray }})
 (hsz:items.size<=yI):yq (yA prog w) A (getItem (.ref t) (.ref sl)) Q E s:=by
 have htake:sizeOk (.seq ((items.toList.drop (sIx items.size 0 lo)).take (sIx items.size items.size hi-sIx items.size 0 lo)).toArray):=by
  show((items.toList.drop (sIx items.size 0 lo)).take (sIx items.size items.size hi-sIx items.size 0 lo)).toArray.size<=yI;rw[size_toArray,length_take,length_drop,xE];omega
 have hj:sIx items.size items.size hi<=items.size:=zhz _ _ (yk _) hi;obtain⟨os,hos,hcs,hds⟩:=id hs;have hTs:s.TypeIs (.ref sl) "slice":=⟨os,hos,hcs⟩
 unfold getItem
 try with_reducible refine Yc ?_
 first|refine ya (yi ?_)|skip
 refine ya (wpAny_sequenceKey ht.typeIs (by decide) ?_)
 refine ya (yX (name:=YK "__getitem__") ht.typeIs YS
  (yO YS ht.typeIs entry_tuple_getitem ?_ (args_tuple_getitem _ _)))
 show yq _ _ (Builtin.Tuple.tupleItemsOf (.ref t) >>= _) _ _ s;refine ya (tupleItemsOf_ ht ?_);refine ya (xu hTs ?_);rw[if_pos (by decide)];refine ya (To hs pl pu ?_)
 have hno:¬((((sIx items.size 0 lo:Nat):Int)==0&&(1:Int)==1&&(sIx items.size items.size hi-sIx items.size 0 lo)==items.size)=true):=by
  intro q;rw[yz,yz]at q;have q1:((sIx items.size 0 lo:Nat):Int)=0:=eq_of_beq q.1.1;have q2:sIx items.size items.size hi-sIx items.size 0 lo=items.size:=eq_of_beq q.2;exact hw ⟨by omega,by omega⟩
 show yq _ _ (if(((sIx items.size 0 lo:Nat):Int)==0&&(1:Int)==1&&(sIx items.size items.size hi-sIx items.size 0 lo)==items.size)=true then _ else _) _ _ s;rw[if_neg hno,zMv]
 first
  |exact ya (m:=YU _) (yT (yi ⟨_,rfl,yi h⟩) htake)
  |exact ya (m:=YU _) (yT (ya (yi (yi ⟨_,rfl,yi h⟩))) htake)
  |exact ya (ya (m:=YU _) (yT (yi (yi ⟨_,rfl,yi h⟩)) htake))
  |exact ya (ya (m:=YU _) (yT (yi ⟨_,rfl,yi h⟩) htake))
end
end HT
namespace L2
open PySem PySem.Spec PyProof.Rows
abbrev TO:=St->Hp->(Option Int->Hp->Prop)->Prop
def PO(X:Cx)(e:Option yG)(t:TO):Prop :=
 ∀(U:List (yg×xa)) (s:ye) (Y:St) (H:Hp) (Q:Option Int->Hp->Prop),Inv X U Y H s->t Y H Q ->
  yq (yA X.prog X.w) X.A (evalPart e X.env) (λu s'=>∃o H',Inv X U Y H' s'/\IsPart u o/\Q o H') X.xe s
def zbx:TO:=λ_ H Q=>Q none H
def zqA(t:TE):TO:=λY H Q=>t Y H λx H1=>∃i,x=.int i/\Q (some i) H1
def z0f{ns:List Int}:∀{us:List yb},Vals (ns.map V.int) us->Xl us ns:=by
 induction ns with
 |nil=>intro us r;rw[map_nil]at r;cases r;exact .nil
 |cons n ns ih=>
  intro us r;rw[map_cons]at r
  cases r with
  |cons r1 r2=>
   obtain⟨t,e⟩:=r1;subst e;exact .cons n t (ih r2)
section
variable {X:Cx}{e:yG}{te:TE}{lo hi:Option yG}{tl th:TO}{pos p2:Xd}
def zJx:PO X none zbx:=by
 intro U s Y H Q I h;rw[evalPart_none];exact yi ⟨none,H,I,.none,h⟩
def zLx(h:PE X e te):PO X (some e) (zqA te):=by
 intro U s Y H Q I hw;rw[evalPart_some];refine thn (h U s Y H _ I hw) λu s1 ⟨x,H1,I1,r1,q1⟩=>?_;obtain⟨i,rfl,q⟩:=q1;obtain⟨t,rfl⟩:=r1;exact⟨some i,H1,I1,.int i t,q⟩
def SlR(X:Cx)(r:V->Option Int->Option Int->Hp->VK->Prop):Prop :=
 ∀(U:List (yg×xa)) (s:ye) (Y:St) (H:Hp) (x:V) (v vl vu:yb) (lo hi:Option Int) (sl:yg) (Q:VK),Inv X U Y H s->RelV x v->s.heap.IsSliceOf sl vl vu .none->IsPart vl lo->IsPart vu hi->r x lo hi H Q ->
  ∃T id,typeLookup (.type T) "__getitem__"=pure (some (.builtin id))/\s.TypeIs v T/\yq (yA X.prog X.w) X.A (getItem v (.ref sl)) (EP X U Y Q) X.xe s
def SlR.or{r r':V->Option Int->Option Int->Hp->VK->Prop}(h:SlR X r)(h':SlR X r'):SlR X (λx lo hi H Q=>r x lo hi H Q\/r' x lo hi H Q):=by
 intro U s Y H x v vl vu lo hi sl Q I rx hs pl pu q;rcases q with q|q
 ·exact h U s Y H x v vl vu lo hi sl Q I rx hs pl pu q
 ·exact h' U s Y H x v vl vu lo hi sl Q I rx hs pl pu q
def tSl(r:V->Option Int->Option Int->Hp->VK->Prop)(te:TE)(tl th:TO):TE:=λY H Q=>te Y H λx H1=>tl Y H1 λl H2=>th Y H2 λu H3=>r x l u H3 Q
def zkw{r:V->Option Int->Option Int->Hp->VK->Prop}(hr:SlR X r)(he:PE X e te)(hl:PO X lo tl)(hu:PO X hi th):PE X (.Subscript e (.Slice lo hi none p2) pos) (tSl r te tl th):=by
 intro U s Y H Q I h;refine Subscript_ (thn (he U s Y H _ I h) λv s1 ⟨x,H1,I1,r1,q1⟩=>?_);refine wpAny_Slice (thn (hl U s1 Y H1 _ I1 q1) λvl s2 ⟨l,H2,I2,pl,q2⟩=>thn (hu U s2 Y H2 _ I2 q2) λvu s3 ⟨u,H3,I3,pu,q3⟩=>?_);rw[evalPart_none];refine yi ?_;have I4:Inv X U Y H3 {s3 with heap:=s3.heap.push {cls:=.type "slice",data:=.fields #[vl,vu,.none]}}:=I3.kept (t':=s3.toks) λb ob q=>yf _ q;obtain⟨T,id,hT,ht,hg⟩:=hr U {s3 with heap:=s3.heap.push {cls:=.type "slice",data:=.fields #[vl,vu,.none]}} Y H3 x v vl vu l u s3.heap.objs.size Q I4 r1 (Heap.IsSliceOf.new ..) pl pu q3;show yq (yA X.prog X.w) X.A (subscriptTail e (.Slice lo hi none p2) v (.ref s3.heap.objs.size)) (EP X U Y Q) X.xe {s3 with heap:=s3.heap.push {cls:=.type "slice",data:=.fields #[vl,vu,.none]}};exact tail_any (ops:=[.ref s3.heap.objs.size,v]) ht hT hg (by with_unfolding_all rfl)
def zCu(xs:List V)(lo hi:Option Int):List V:=(xs.drop (HT.sIx xs.length 0 lo)).take (HT.sIx xs.length xs.length hi-HT.sIx xs.length 0 lo)
def z6k(xs:List V)(lo hi:Option Int):(zCu xs lo hi).length<=xs.length:=by
 unfold zCu;rw[length_take,length_drop];omega
def zoB(K:yB):V->Option Int->Option Int->Hp->VK->Prop:=λx lo hi H Q=>∃a xs,x=.ref a/\SqT K H a xs /\
 ¬(HT.sIx xs.length 0 lo=0/\HT.sIx xs.length xs.length hi=xs.length)/\∀p,H p=none->Q (.ref p) (upd H p (.tup (zCu xs lo hi)))
def zBz:SlR X (zoB X.K):=by
 intro U s Y H x v vl vu lo hi sl Q I rx hs pl pu h;obtain⟨a,xs,rfl,hx,hw,q⟩:=h;cases rx;obtain⟨its,r,ht,hz⟩:=I.tuple hx;have hlen:its.toArray.size=xs.length:=by rw[size_toArray];exact r.length.symm
 refine⟨"tuple",_,PyProof.Rows.slot_tuple_getitem.lookup,ht.typeIs,?_⟩;refine HT.TR ht hs pl pu (by rw[hlen];exact hw) ?_ (by rw[hlen];exact hz);rw[hlen];refine⟨.ref s.heap.objs.size,_,I.laid (t':=s.toks) (o:=.tup (zCu xs lo hi)) (λb ob q=>yf _ q) (yk _) ?_,rfl,q _ (I.hok.fresh (yk _))⟩;exact⟨yD (z6k xs lo hi) hz,_,(r.drop (HT.sIx xs.length 0 lo)).take (HT.sIx xs.length xs.length hi-HT.sIx xs.length 0 lo),IsTup.new _ _⟩
def zSA(K:yB):R2:=λx y H Q=>∃a b xs ys,x=.ref a/\y=.ref b/\SqT K H a xs/\SqT K H b ys/\xs≠[]/\xs.length+ys.length<=yI /\
 (ys=[]->Q (.ref a) H)/\(ys≠[]->∀p,H p=none->Q (.ref p) (upd H p (.tup (xs++ys))))
def Vals.TY{xs:List V}{us:List yb}(r:Vals xs us):us=[]↔xs=[]:=by
 cases r with
 |nil=>simp
 |cons _ _=>simp
def z4x:OpR X (xH .Add) (zSA X.K):=by
 intro U s Y H x y v u Q I rx ry h;obtain⟨a,b,xs,ys,rfl,rfl,ha,hb,hx,hz,q1,q2⟩:=h;cases rx;cases ry;obtain⟨its,r1,p1,_⟩:=I.tuple ha;obtain⟨its2,r2,p2,_⟩:=I.tuple hb;refine HT.cat_tup p1 p2 (λz=>hx (r1.TY.mp z)) (λz=>⟨.ref a,H,I,rfl,q1 (r2.TY.mp z)⟩) (λz=>?_) (by rw[<-r1.length,<-r2.length];exact hz);refine⟨.ref s.heap.objs.size,_,I.laid (t':=s.toks) (o:=.tup (xs++ys)) (λb ob q=>yf _ q) (yk _) ?_,rfl,q2 (λw=>z (r2.TY.mpr w)) _ (I.hok.fresh (yk _))⟩;exact⟨by rw[length_append];exact hz,_,r1.append r2,IsTup.new _ _⟩
end
def ixN(n:Nat)(i:Int):Option Nat:=if 0<=i then(if i<n then some i.toNat else none) else if -(n:Int)<=i then some (i+n).toNat else none
def atI{α:Type}(xs:List α)(i:Int):Option α:=(ixN xs.length i).bind λj=>xs[j]?
def zRt{n:Nat}{i:Int}{j:Nat}(h:ixN n i=some j):seqIndex? i n=some j/\j<n/\-(n:Int)<=i/\i<n:=by
 unfold ixN at h
 by_cases h0:0<=i
 ·rw[if_pos h0]at h
  by_cases h1:i<n
  ·rw[if_pos h1]at h;have e:i.toNat=j:=yS h;exact⟨by rw[seqIndex_of h0 h1,e],by omega,by omega,h1⟩
  ·rw[if_neg h1]at h;cases h
 ·rw[if_neg h0]at h
  by_cases h1:-(n:Int)<=i
  ·rw[if_pos h1]at h;have e:(i+n).toNat=j:=yS h;exact⟨by rw[seqIndex_neg (by omega) h1,e],by omega,h1,by omega⟩
  ·rw[if_neg h1]at h;cases h
def zfq{α:Type}{xs:List α}{i:Int}{v:α}(h:atI xs i=some v):∃j,seqIndex? i xs.length=some j/\xs[j]?=some v/\j<xs.length/\-(xs.length:Int)<=i/\i<xs.length:=by
 unfold atI at h
 cases e:ixN xs.length i with
 |none=>rw[e]at h;cases h
 |some j=>
  rw[e]at h;obtain⟨h1,h2,h3,h4⟩:=zRt e;exact⟨j,h1,h,h2,h3,h4⟩
def zVe{α:Type}{xs:List α}{j:Nat}{v:α}(h:xs[j]?=some v):atI xs (j:Int)=some v:=by
 have hj:j<xs.length:=(List.getElem?_eq_some_iff.mp h).1
 have e:ixN xs.length (j:Int)=some j:=by
  unfold ixN;rw[if_pos (by omega),if_pos (by omega)];simp
 unfold atI;rw[e];exact h
def zKq(b:yG):Prop:=∀o i,subscripted b false o i=operate [o,i] (getItem o i)
def IxR(X:Cx)(r:R2):Prop :=
 ∀(value slice:yG)(U:List (yg×xa)) (s:ye) (Y:St) (H:Hp) (x y:V) (v u:yb) (Q:VK),Inv X U Y H s->RelV x v->RelV y u->r x y H Q ->
  subscripted slice false v u=operate [v,u] (getItem v u)->yq (yA X.prog X.w) X.A (subscriptTail value slice v u) (EP X U Y Q) X.xe s
def MtR(X:Cx)(id:String)(r:V->List V->Hp->VK->Prop):Prop :=
 ∀(U:List (yg×xa)) (s:ye) (Y:St) (H:Hp) (x:V) (xs:List V) (v:yb) (us:List yb) (Q:VK),Inv X U Y H s->RelV x v->Vals xs us->r x xs H Q ->
  yq (yA X.prog X.w) X.A (call (.builtin id) (v::us)) (EP X U Y Q) X.xe s
section
variable {X:Cx}{a b:yG}{ta tb:TE}{pos:Xd}
def IxR.or{r r':R2}(h:IxR X r)(h':IxR X r'):IxR X (λx y H Q=>r x y H Q\/r' x y H Q):=by
 intro value slice U s Y H x y v u Q I rx ry q hs;rcases q with q|q
 ·exact h value slice U s Y H x y v u Q I rx ry q hs
 ·exact h' value slice U s Y H x y v u Q I rx ry q hs
def zbz{r:R2}(hr:IxR X r)(ha:PE X a ta)(hb:PE X b tb)(hs:zKq b):PE X (.Subscript a b pos) (tOp r ta tb):=by
 intro U s Y H Q I h;exact Subscript_ (binT ha hb I h λv u s2 x y H2 I2 rx ry q=>hr a b U s2 Y H2 x y v u Q I2 rx ry q (hs _ _))
def zfB(K:yB):R2:=λx y H Q=>∃p xs i v,x=.ref p/\y=.int i/\SqL K H p xs/\atI xs i=some v/\Q v H
def zcB(K:yB):R2:=λx y H Q=>∃p xs i v,x=.ref p/\y=.int i/\SqT K H p xs/\atI xs i=some v/\Q v H
def zbB:R2:=λx y H Q=>∃z i c,x=.str z/\y=.int i/\z.length<=yI/\atI z.cps.toList i=some c/\Q (.str ⟨#[c]⟩) H
def ix_list:IxR X (zfB X.K):=by
 intro value slice U s Y H x y v u Q I rx ry h hs;obtain⟨p,xs,i,z,rfl,rfl,hq,he,q⟩:=h;cases rx;obtain⟨t,rfl⟩:=ry;obtain⟨its,r,pl,hz⟩:=I.list hq;obtain⟨j,h1,h2,h3,h4,h5⟩:=zfq he;obtain⟨w,ew,rw'⟩:=r.get h2;have hl:=r.length;have hn:=sd;have fin:EP X U Y Q w s:=⟨z,H,I,rw',q⟩
 by_cases h0:0<=i
 ·have hj:i.toNat=j:=by
   rw[seqIndex_of h0 h5]at h1;exact yS h1
  exact item_listR pl.isList h0 (by omega) (by rw[hj];simpa using ew) fin hs
 ·have hj:(i+(its.toArray.size:Int)).toNat=j:=by
   rw[seqIndex_neg (by omega) h4]at h1;rw[size_toArray,<-hl];exact yS h1
  exact subscriptTail_builtinR (x:=w) pl.isList.typeIs slot_list_getitem.lookup
   (wpAny_getItem_list_neg (Q:=λr s'=>r=w/\EP X U Y Q r s') pl.isList (by omega) (by rw[size_toArray]<;>omega) (by omega) (by rw[hj];simpa using ew) ⟨rfl,fin⟩) hs
def ix_tup:IxR X (zcB X.K):=by
 intro value slice U s Y H x y v u Q I rx ry h hs;obtain⟨p,xs,i,z,rfl,rfl,hq,he,q⟩:=h;cases rx;obtain⟨t,rfl⟩:=ry;obtain⟨its,r,pl,hz⟩:=I.tuple hq;obtain⟨j,h1,h2,h3,h4,h5⟩:=zfq he;obtain⟨w,ew,rw'⟩:=r.get h2;have hl:=r.length;have hn:=sd;have fin:EP X U Y Q w s:=⟨z,H,I,rw',q⟩
 exact subscriptTail_builtinR (x:=w) pl.typeIs slot_tuple_getitem.lookup
  (getItem_tuple (j:=j) (Q:=λr s'=>r=w/\EP X U Y Q r s') pl (by omega) (by omega) (by rw[size_toArray,<-hl];exact h1) (by simpa using ew) ⟨rfl,fin⟩) hs
def zVz:IxR X zbB:=by
 intro value slice U s Y H x y v u Q I rx ry h hs;obtain⟨z,i,c,rfl,rfl,hz,he,q⟩:=h;obtain⟨t,rfl⟩:=rx;obtain⟨t',rfl⟩:=ry;obtain⟨j,h1,h2,h3,h4,h5⟩:=zfq he;have hl:z.cps.toList.length=z.length:=by simp[Str.length]
 rw[hl]at h1 h4 h5;have hn:=sd
 exact tail_any (typeIs_str s z t) slot_str_getitem.lookup (getItem_str (c:=c) (by
  have e1:decide (i < -(2^63:Int))=false:=decide_eq_false (by omega);have e2:decide (i≥2^63)=false:=decide_eq_false (by omega);rw[e1,e2,Bool.or_false]) (by rw[h1];simpa using h2) ⟨.str ⟨#[c]⟩,H,I.tok _,⟨_,rfl⟩,q⟩) hs
def rIx(K:yB):R2:=λx y H Q=>zfB K x y H Q\/zcB K x y H Q\/zbB x y H Q
def zPw:IxR X (rIx X.K):=ix_list.or (ix_tup.or zVz)
def zSr(its:List yb)(n j:Nat)(u:yb):yU (·.setIfInBounds j u) {cls:=.type "list",data:=.seq its.toArray n } = {cls:=.type "list",data:=.seq (its.set j u).toArray n }:=by
 simp[yU]
def Inv.lst{U:List (yg×xa)}{Y:St}{H:Hp}{s:ye}{p:yg}{xs:List V}(I:Inv X U Y H s)(h:H p=some (.lst xs)) :
 ∃(its:List yb)(n:Nat),Vals xs its/\s.heap.get? p=some {cls:=.type "list",data:=.seq its.toArray n }/\xs.length<=yI:=by
 obtain⟨z,its,n,r,e⟩:=I.hok p _ h;exact⟨its,n,r,e,z⟩
def Inv.lstUpd{U:List (yg×xa)}{Y:St}{H:Hp}{s:ye}{p:yg}{xs ys:List V}{its its':List yb}{n n':Nat}{f:xa->xa}(I:Inv X U Y H s)(h:H p=some (.lst xs))
 (ho:s.heap.get? p=some {cls:=.type "list",data:=.seq its.toArray n }) (hf:f {cls:=.type "list",data:=.seq its.toArray n } = {cls:=.type "list",data:=.seq its'.toArray n' }) (r:Vals ys its') (hz:ys.length<=yI) (t:Nat) :
 Inv X U Y (upd H p (.lst ys)) {s with heap:=s.heap.update p f,toks:=t }:=by
 have e:(s.heap.update p f).get? p=some {cls:=.type "list",data:=.seq its'.toArray n' }:=by
  rw[Yh f ho (by rw[hf]<;>rfl),hf]
 refine I.write (x:=p) (e:=p) (by rw[h];trivial) (.inl rfl) (λb u hb q=>(xh _ _ (Yk hb)).trans q) ⟨_,e⟩ ?_;exact⟨hz,its',n',r,e⟩
def z1A:V->V->V->Hp->(Hp->Prop)->Prop:=λo i v H Q=>∃p xs k j,o=.ref p/\i=.int k/\H p=some (.lst xs)/\ixN xs.length k=some j/\Q (upd H p (.lst (xs.set j v)))
def zSv:zZA X z1A:=by
 intro U s Y H o i v ov iv u Q I ro ri rv h;obtain⟨p,xs,k,j,rfl,rfl,hp,hj,q⟩:=h;cases ro;obtain⟨t,rfl⟩:=ri;obtain⟨its,n,r,ho,hz⟩:=I.lst hp;obtain⟨h1,h2,h3,h4⟩:=zRt hj;have hl:=r.length;have hn:=sd
 have I':Inv X U Y (upd H p (.lst (xs.set j v))) {s with heap:=s.heap.update p (yU (·.setIfInBounds j u))} :=
  I.lstUpd hp ho (zSr its n j u) (r.set rv j) (by rw[length_set];exact hz) s.toks
 by_cases h0:0<=k
 ·have hk:k.toNat=j:=by
   rw[seqIndex_of h0 h4]at h1;exact yS h1
  exact W.ki_setAt ho h0 (by omega) (by rw[size_toArray,<-hl];exact h4) (by rw[hk];exact⟨_,I',q⟩)
 ·have hk:(k+(its.toArray.size:Int)).toNat=j:=by
   rw[seqIndex_neg (by omega) h3]at h1;rw[size_toArray,<-hl];exact yS h1
  exact W.ki_setBack ho (by omega) (by rw[size_toArray,<-hl];exact h3) (by omega) (by rw[hk];exact⟨_,I',q⟩)
def zPo(lo hi:Option Int)(n:Nat):(sliceBounds lo hi none n).1=((HT.sIx n 0 lo:Nat):Int)/\(sliceBounds lo hi none n).2.1=((HT.sIx n n hi:Nat):Int)/\(sliceBounds lo hi none n).2.2=1:=by
 refine⟨?_,?_,rfl⟩
 ·cases lo with
  |none=>simp[sliceBounds,HT.sIx]
  |some i=>
   simp only[sliceBounds,HT.sIx,Option.getD_none,show(1:Int)>0 by decide,if_true]
   by_cases h:i<0
   ·simp only[h,if_true]<;>omega
   ·simp only[h,if_false]<;>omega
 ·cases hi with
  |none=>simp[sliceBounds,HT.sIx]
  |some i=>
   simp only[sliceBounds,HT.sIx,Option.getD_none,show(1:Int)>0 by decide,if_true]
   by_cases h:i<0
   ·simp only[h,if_true]<;>omega
   ·simp only[h,if_false]<;>omega
def zDn(its:List yb)(lo hi:Option Int):slicePick its.toArray lo hi none=((its.drop (HT.sIx its.length 0 lo)).take (HT.sIx its.length its.length hi-HT.sIx its.length 0 lo)).toArray:=by
 obtain⟨h1,h2,h3⟩:=zPo lo hi its.toArray.size;unfold slicePick;rw[h1,h2,h3];simp only[sliceRange_one,pick_run,size_toArray]<;>rfl
def zFB(K:yB):V->Option Int->Option Int->Hp->VK->Prop:=λx lo hi H Q=>∃a xs,x=.ref a/\SqL K H a xs/\∀p,H p=none->Q (.ref p) (upd H p (.lst (zCu xs lo hi)))
def zIx:SlR X (zFB X.K):=by
 intro U s Y H x v vl vu lo hi sl Q I rx hs pl pu h;obtain⟨a,xs,rfl,hx,q⟩:=h;cases rx;obtain⟨its,r,ht,hz⟩:=I.list hx;have hlen:=r.length;refine⟨"list",_,slot_list_getitem.lookup,ht.isList.typeIs,?_⟩;refine wpAny_getItem_list_slice ht.isList hs pl pu .none (by simp) ?_ (by rw[size_toArray]<;>omega);rw[zDn,<-hlen];refine⟨.ref s.heap.objs.size,_,I.laid (t':=s.toks) (o:=.lst (zCu xs lo hi)) (λb ob q=>yf _ q) (yk _) ?_,rfl,q _ (I.hok.fresh (yk _))⟩;exact⟨yD (z6k xs lo hi) hz,_,0,(r.drop (HT.sIx xs.length 0 lo)).take (HT.sIx xs.length xs.length hi-HT.sIx xs.length 0 lo),yp _ rfl⟩
def zDk:V->Bool
 |.non=>true
 |.bl _=>true
 |.int _=>true
 |.str _=>true
 |_=>false
def eqV:V->V->Bool
 |.non,.non=>true
 |.bl a,.bl b=>a==b
 |.bl a,.int b=>(if a then 1 else 0)==b
 |.int a,.bl b=>a==(if b then 1 else 0)
 |.int a,.int b=>a==b
 |.str a,.str b=>a==b
 |_,_=>false
def zAz{A:yM}{s:ye}{y x:V}{u v:yb}(ry:RelV y u)(rx:RelV x v)(fy:zDk y=true)(fx:zDk x=true):SeqAt.EqAt A s u v (eqV y x):=by
 cases y with
 |non=>
  cases ry
  cases x with
  |non=>cases rx;exact SeqAt.EqAt.same _
  |bl b=>cases rx;exact SeqAt.EqAt.none_bool b
  |int b=>obtain⟨t,rfl⟩:=rx;exact SeqAt.EqAt.none_int b t
  |str b=>obtain⟨t,rfl⟩:=rx;exact SeqAt.EqAt.none_str b t
  |_=>exact absurd (show false=true from fx) yv
 |bl a=>
  cases ry
  cases x with
  |non=>cases rx;exact SeqAt.EqAt.bool_none a
  |bl b=>cases rx;exact SeqAt.EqAt.bool_bool a b
  |int b=>obtain⟨t,rfl⟩:=rx;exact SeqAt.EqAt.bool_int a b t
  |str b=>obtain⟨t,rfl⟩:=rx;exact SeqAt.EqAt.bool_str a b t
  |_=>exact absurd (show false=true from fx) yv
 |int a=>
  obtain⟨t',rfl⟩:=ry
  cases x with
  |non=>cases rx;exact SeqAt.EqAt.int_none a t'
  |bl b=>cases rx;exact SeqAt.EqAt.int_bool a t' b
  |int b=>obtain⟨t,rfl⟩:=rx;exact SeqAt.EqAt.int_int a t' b t
  |str b=>obtain⟨t,rfl⟩:=rx;exact SeqAt.EqAt.int_str a t' b t
  |_=>exact absurd (show false=true from fx) yv
 |str a=>
  obtain⟨t',rfl⟩:=ry
  cases x with
  |non=>cases rx;exact SeqAt.EqAt.str_none a t'
  |bl b=>cases rx;exact SeqAt.EqAt.str_bool a t' b
  |int b=>obtain⟨t,rfl⟩:=rx;exact SeqAt.EqAt.str_int a t' b t
  |str b=>obtain⟨t,rfl⟩:=rx;exact SeqAt.EqAt.str_str a t' b t
  |_=>exact absurd (show false=true from fx) yv
 |_=>exact absurd (show false=true from fy) yv
def eqU(x:V)(u:yb):Bool:=match u with
 |.none=>eqV .non x
 |.bool b=>eqV (.bl b) x
 |.int i _=>eqV (.int i) x
 |.str z _=>eqV (.str z) x
 |_=>false
def zkr{x y:V}{u:yb}(r:RelV y u)(f:zDk y=true):eqU x u=eqV y x:=by
 cases y with
 |non=>cases r;rfl
 |bl b=>cases r;rfl
 |int i=>obtain⟨t,rfl⟩:=r;rfl
 |str z=>obtain⟨t,rfl⟩:=r;rfl
 |_=>exact absurd (show false=true from f) yv
def zVl{x:V}:∀{xs:List V} {us:List yb},Vals xs us->xs.all zDk=true->us.any (eqU x)=xs.any λy=>eqV y x
 |_,_,.nil,_=>rfl
 |y::xs,u::us,.cons r t,f=>by
  rw[all_cons,yz]at f;rw[any_cons,any_cons,zkr r f.1,zVl t f.2]
def ztg{A:yM}{s:ye}{x:V}{v:yb}(rx:RelV x v)(fx:zDk x=true):∀{xs:List V} {us:List yb},Vals xs us->xs.all zDk=true->∀u∈us,SeqAt.EqAt A s u v (eqU x u)
 |_,_,.nil,_=>λu hu=>by cases hu
 |y::xs,u::us,.cons r t,f=>λu' hu=>by
  rw[all_cons,yz]at f;rcases List.mem_cons.mp hu with rfl|hu
  ·rw[zkr r f.1];exact zAz r rx f.1 fx
  ·exact ztg rx fx t f.2 u' hu
def inV(x:V)(xs:List V):Bool:=xs.any λy=>eqV y x
def rIn(K:yB)(neg:Bool):R2:=λx y H Q=>∃p xs,y=.ref p/\(SqL K H p xs\/SqT K H p xs)/\zDk x=true/\xs.all zDk=true/\Q (.bl (if neg then !inV x xs else inV x xs)) H
def zet:OpR X (Yl .In) (rIn X.K false):=by
 intro U s Y H x y v u Q I rx ry h;obtain⟨p,xs,rfl,hq,fx,fs,q⟩:=h;cases ry;rcases hq with hq|hq
 ·obtain⟨its,r,pl,hz⟩:=I.list hq;refine SeqAt.in_listAt (eqU x) pl.isList (λw hw=>ztg rx fx r fs w (by simpa using hw)) ⟨.bl _,H,I,rfl,?_⟩;rw[show its.toArray.any (eqU x)=its.any (eqU x) by simp,zVl r fs];exact q
 ·obtain⟨its,r,pl,hz⟩:=I.tuple hq;refine SeqAt.in_tupleAt (eqU x) pl (λw hw=>ztg rx fx r fs w (by simpa using hw)) ⟨.bl _,H,I,rfl,?_⟩;rw[show its.toArray.any (eqU x)=its.any (eqU x) by simp,zVl r fs];exact q
def zDp:OpR X (Yl .NotIn) (rIn X.K true):=by
 intro U s Y H x y v u Q I rx ry h;obtain⟨p,xs,rfl,hq,fx,fs,q⟩:=h;cases ry;rcases hq with hq|hq
 ·obtain⟨its,r,pl,hz⟩:=I.list hq;refine SeqAt.notIn_listAt (eqU x) pl.isList (λw hw=>ztg rx fx r fs w (by simpa using hw)) ⟨.bl _,H,I,rfl,?_⟩;rw[show its.toArray.any (eqU x)=its.any (eqU x) by simp,zVl r fs];exact q
 ·obtain⟨its,r,pl,hz⟩:=I.tuple hq;refine SeqAt.notIn_tupleAt (eqU x) pl (λw hw=>ztg rx fx r fs w (by simpa using hw)) ⟨.bl _,H,I,rfl,?_⟩;rw[show its.toArray.any (eqU x)=its.any (eqU x) by simp,zVl r fs];exact q
def zNp:zrm X (.builtin "len") (λxs H Q=>∃p ys,xs=[.ref p]/\(SqL X.K H p ys\/SqT X.K H p ys)/\Q (.int ys.length) H):=by
 intro U s Y H xs us Q I r h;obtain⟨p,ys,rfl,hq,q⟩:=h;obtain⟨u,rfl,rx⟩:=vals1 r;cases rx;have hn:=sd;rcases hq with hq|hq
 ·obtain⟨its,r',pl,hz⟩:=I.list hq;have hlen:=r'.length;exact Calls.call_len_list pl.isList (by simp only[size_toArray]<;>omega) ⟨.int ys.length,H,I.tok _,⟨s.toks+1,by rw[size_toArray,hlen]⟩,q⟩
 ·obtain⟨its,r',pl,hz⟩:=I.tuple hq;have hlen:=r'.length;exact len_tuple pl (by simp only[size_toArray]<;>omega) ⟨.int ys.length,H,I.tok _,⟨s.toks+1,by rw[size_toArray,hlen]⟩,q⟩
def zCo:zrm X (.type "list") (λxs H Q=>∃p ys,xs=[.ref p]/\(SqL X.K H p ys\/SqT X.K H p ys)/\∀l,H l=none->Q (.ref l) (upd H l (.lst ys))):=by
 intro U s Y H xs us Q I r h;obtain⟨p,ys,rfl,hq,q⟩:=h;obtain⟨u,rfl,rx⟩:=vals1 r;cases rx
 have fin:∀(its:List yb),Vals ys its->ys.length<=yI->∀(h':Ye)(c':Nat),(∀b o',s.heap.get? b=some o'->h'.get? b=some o') ->
  h'.get? s.heap.objs.size=some {cls:=.type "list",dict:=none,data:=.seq its.toArray c',slots:=#[]}->EP X U Y Q (.ref s.heap.objs.size) {s with heap:=h' }:=λits r' hz h' c' kp e=>
  ⟨.ref s.heap.objs.size,_,I.laid (t':=s.toks) kp (yk _) (show tQ X.prog X.w _ h' _ (.lst ys) from⟨hz,its,c',r',e⟩),rfl,q _ (I.hok.fresh (yk _))⟩
 rcases hq with hq|hq
 ·obtain⟨its,r',pl,hz⟩:=I.list hq;have hlen:=r'.length;obtain⟨o,ho,hc,n,hd⟩:=pl.isList;exact call_list_seq p (.inl rfl) ho hc hd (λh' c' kp e=>fin its r' hz h' c' kp e) (by simp only[size_toArray]<;>omega)
 ·obtain⟨its,r',pl,hz⟩:=I.tuple hq;have hlen:=r'.length;obtain⟨o,ho,hc,n,hd⟩:=pl;exact call_list_seq p (.inr rfl) ho hc hd (λh' c' kp e=>fin its r' hz h' c' kp e) (by simp only[size_toArray]<;>omega)
def zBg:zrm X (.type "tuple") (λxs H Q=>∃p ys,xs=[.ref p]/\((SqL X.K H p ys/\∀l,H l=none->Q (.ref l) (upd H l (.tup ys)))\/(SqT X.K H p ys/\Q (.ref p) H))):=by
 intro U s Y H xs us Q I r h;obtain⟨p,ys,rfl,h⟩:=h;obtain⟨u,rfl,rx⟩:=vals1 r;cases rx;rcases h with ⟨hq,q⟩|⟨hq,q⟩
 ·obtain⟨its,r',pl,hz⟩:=I.list hq;have hlen:=r'.length;refine call_tuple_list pl.isList (λh' kp=>?_) (by simp only[size_toArray]<;>omega);have I1:Inv X U Y H {s with heap:=h' }:=I.kept (t':=s.toks) kp
  have I2:Inv X U Y (upd H h'.objs.size (.tup ys)) {s with heap:=h'.push {cls:=.type "tuple",data:=.seq its.toArray }} :=
   I1.laid (t':=s.toks) (λb o e=>yf _ e) (yk _) (show tQ X.prog X.w _ _ _ (.tup ys) from⟨hz,its,r',IsTup.new _ _⟩)
  exact⟨.ref h'.objs.size,_,I2,rfl,q _ (I1.hok.fresh (yk _))⟩
 ·obtain⟨its,r',pl,hz⟩:=I.tuple hq;exact call_tuple_same pl ⟨.ref p,H,I,rfl,q⟩
def tyV(K:yB)(T:String)(x:V)(H:Hp):Prop:=match x with
 |.str _=>T="str"
 |.int _=>T="int"
 |.ref p=>(T="list"/\∃xs,SqL K H p xs)\/(T="tuple"/\∃o,K.lookup p=some o/\o.cls=.type "tuple"/\o.dict=none) \/
  (T="dict"/\((∃kvs,H p=some (.dK kvs))\/∃kvs,H p=some (.dT kvs)))\/(T="set"/\∃S n,H p=some (.set S n))
 |_=>False
def zFw{U:List (yg×xa)}{Y:St}{H:Hp}{s:ye}{T:String}{x:V}{v:yb}(I:Inv X U Y H s)(r:RelV x v)(ty:tyV X.K T x H) :
 s.TypeIs v T/\∀a,v=.ref a->∃ob,s.heap.get? a=some ob/\ob.dict=none:=by
 cases x with
 |str z=>
  obtain⟨t,rfl⟩:=r;cases (show T="str" from ty);exact⟨typeIs_str s z t,λ_ e=>nomatch e⟩
 |int i=>
  obtain⟨t,rfl⟩:=r;cases (show T="int" from ty);exact⟨typeIs_int s i t,λ_ e=>nomatch e⟩
 |ref p=>
  cases r;rcases ty with ⟨rfl,xs,hq⟩|⟨rfl,o,hk,hc,hd⟩|⟨rfl,hk⟩|⟨rfl,S,n,hk⟩
  ·obtain⟨its,_,pl,_⟩:=I.list hq;refine⟨pl.isList.typeIs,λa e=>?_⟩;cases e;obtain⟨o,n,e,c,hd,_⟩:=pl;exact⟨o,e,hd⟩
  ·refine⟨⟨o,I.kIn p o hk,hc⟩,λa e=>?_⟩;cases e;exact⟨o,I.kIn _ o hk,hd⟩
  ·have z:∃o,s.heap.get? p=some o/\o.ExactDict:=by
    rcases hk with ⟨kvs,hk⟩|⟨kvs,hk⟩
    ·obtain⟨_,_,_,_,o,_,_,e,ex,_⟩:=I.hok p _ hk;exact⟨o,e,ex⟩
    ·obtain⟨_,_,_,_,o,_,_,e,ex,_⟩:=I.hok p _ hk;exact⟨o,e,ex⟩
   obtain⟨o,e,ex⟩:=z;refine⟨⟨o,e,ex.1⟩,λa e2=>?_⟩;cases e2;exact⟨o,e,ex.2.1⟩
  ·obtain⟨o,_,_,_,e,ex,_⟩:=I.hok p _ hk;refine⟨⟨o,e,ex.1⟩,λa e2=>?_⟩;cases e2;exact⟨o,e,ex.2.1⟩
 |_=>exact xO ty
def zpB(K:yB)(T:String)(r:V->List V->Hp->VK->Prop)(to:TE):TE:=λY H Q=>to Y H λx H1=>tyV K T x H1/\r x [] H1 Q
def tBM(K:yB)(T:String)(r:V->List V->Hp->VK->Prop)(to:TE)(t:TA):TE:=λY H Q=>to Y H λx H1=>tyV K T x H1/\t Y H1 λxs H2=>r x xs H2 Q
variable {o e:yG}{es:List yG}{to:TE}{t:TA}{name:yF}{apos cpos:Xd}{T id:String}{r:V->List V->Hp->VK->Prop}
def zaz(pa:PlainAttrs T)(slot:Slot T name id)(hty:typeOf (.builtin id)=pure (.type "method_descriptor"))(hm:MtR X id r)(ho:PE X o to)
 (hbase:YG o name X.env (Yx o X.env)=Yx o X.env:=by rfl) (hline:(apos.endLine==cpos.line)=true:=by rfl):PE X (.Call (.Attribute o name apos) [] [] cpos) (zpB X.K T r to):=by
 intro U s Y H Q I h;refine wpAny_Call_method0_late hbase hline (thn (ho U s Y H _ I h) λv s1 ⟨x,H1,I1,r1,ty,q1⟩=>?_);obtain⟨h1,h2⟩:=zFw I1 r1 ty;exact⟨T,id,pa,slot,hty,h1,h2,Calls.callWith_builtin rfl (PySem.evalArgs_none (hm U s1 Y H1 x [] v [] Q I1 r1 .nil q1))⟩
def zYA(pa:PlainAttrs T)(slot:Slot T name id)(hty:typeOf (.builtin id)=pure (.type "method_descriptor"))(hm:MtR X id r)(ho:PE X o to)(ha:PA X (e::es) t)
 (hbase:YG o name X.env (Yx o X.env)=Yx o X.env:=by rfl)
 (hfew:((YY cpos (yu (e::es) X.env)).all (λx=>!x.1)&&(backToKw cpos (Xf [] X.env)).all (λx=>x.1.isSome)
  && decide ((e::es).length+([]:List xF).length+(if([]:List xF).isEmpty then 0 else 1)<30))=true:=by rfl)
 (hline:(apos.endLine==cpos.line)=true:=by rfl) (hs:yu (e::es) X.env=(false,Yx e X.env)::yu es X.env:=by rfl) (hplain:(YY cpos (yu es X.env)).any (·.1)=false:=by rfl) :
 PE X (.Call (.Attribute o name apos) (e::es) [] cpos) (tBM X.K T r to t):=by
 intro U s Y H Q I h;refine wpAny_Call_method_late hbase hfew hline rfl (thn (ho U s Y H _ I h) λv s1 ⟨x,H1,I1,r1,ty,q1⟩=>?_);obtain⟨h1,h2⟩:=zFw I1 r1 ty;refine⟨T,id,pa,slot,hty,h1,h2,?_⟩;have hA:=ha cpos U s1 Y H1 _ I1 q1;rw[hs]at hA ⊢;refine Calls.callWith_builtin (by show(false||(YY cpos (yu es X.env)).any (·.1))=false;rw[hplain]<;>rfl) (Calls.evalArgs_plain ?_);exact thn hA λus s2 ⟨vs,H2,I2,r2,q2⟩=>hm U s2 Y H2 x vs v us Q I2 r1 r2 q2
end
def MtM(X:Cx)(id:String)(r:V->List V->Hp->VK->Prop):Prop :=
 ∀(U:List (yg×xa)) (s:ye) (Y:St) (H:Hp) (x:V) (xs:List V) (v:yb) (us:List yb) (Q:VK),Inv X U Y H s->RelV x v->Vals xs us->r x xs H Q ->
  yq (yA X.prog X.w) X.A (call (.builtin id) (v::us)) (EP X U Y Q) X.xe s
def Vals.uncons{x:V}{xs:List V}{us:List yb}(h:Vals (x::xs) us):∃u ws,us=u::ws/\RelV x u/\Vals xs ws:=by
 cases h with
 |cons r t=>exact⟨_,_,rfl,r,t⟩
def Vals.unnil{us:List yb}(h:Vals [] us):us=[]:=by
 cases h;rfl
def Vals.one{x:V}{us:List yb}(h:Vals [x] us):∃u,us=[u]/\RelV x u:=by
 obtain⟨u,ws,e,r,t⟩:=h.uncons;exact⟨u,by rw[e,t.unnil],r⟩
def Vals.zero:∀{us:List yb},Vals [] us->us=[]
 |_,.nil=>rfl
def Vals.dropLast{xs:List V}{us:List yb}(h:Vals xs us):Vals xs.dropLast us.dropLast:=by
 induction h with
 |nil=>exact .nil
 |cons r t ih=>
  cases t with
  |nil=>exact .nil
  |cons q t'=>exact .cons r ih
def Vals.reverse{xs:List V}{us:List yb}(h:Vals xs us):Vals xs.reverse us.reverse:=by
 induction h with
 |nil=>exact .nil
 |cons r t ih=>rw[List.reverse_cons,List.reverse_cons];exact Vals.append ih (.cons r .nil)
def Vals.rep{xs:List V}{us:List yb}(h:Vals xs us):∀k:Nat,Vals (yo k xs).flatten (yo k us).flatten
 |0 =>.nil
 |k+1=>by
  rw[replicate_succ,replicate_succ,flatten_cons,flatten_cons];exact Vals.append h (Vals.rep h k)
def zls{α:Type}(l:List α):l.eraseIdx (l.length-1)=l.dropLast:=by
 induction l with
 |nil=>rfl
 |cons a r ih=>
  cases r with
  |nil=>rfl
  |cons b r=>
   have e:(a::b::r).length-1=((b::r).length-1)+1:=by
    have h1:(a::b::r).length=r.length+2:=rfl;have h2:(b::r).length=r.length+1:=rfl;omega
   rw[e,xI,ih]
   all_goals rfl
def zkp(its:List yb):∀(k:Nat)(acc:List yb),
 List.foldl (λx1 x2=>x1++x2) acc.toArray (yo k its.toArray)=(acc++(yo k its).flatten).toArray
 |0,acc=>by simp
 |k+1,acc=>by
  have e:acc.toArray++its.toArray=(acc++its).toArray:=by simp
  have e2:(acc++its)++(yo k its).flatten=acc++(yo (k+1) its).flatten:=by
   rw[replicate_succ,flatten_cons,append_assoc]
  rw[<-e2,<-zkp its k (acc++its),<-e,replicate_succ,List.foldl_cons]
section
variable {X:Cx}{U:List (yg×xa)}{Y:St}{H:Hp}{s:ye}{l b:yg}{xs ys zs:List V}
def Inv.sZ{its its':List yb}{n:Nat}{f:Array yb->Array yb}{t':Nat}(I:Inv X U Y H s)(hH:H l=some (.lst xs))
 (e:s.heap.get? l=some {cls:=.type "list",data:=.seq its.toArray n }) (hf:f its.toArray=its'.toArray) (hv:Vals ys its') (hz:ys.length<=yI) :
 Inv X U Y (upd H l (.lst ys)) {s with heap:=s.heap.update l (yU f),toks:=t' }:=by
 have q:=PySem.IsL.update e f;rw[hf]at q;refine I.write (x:=l) (e:=l) (by rw[hH];exact trivial) (.inl rfl) (λb' u hb hu=>(xh s.heap (yU f) (Yk hb)).trans hu) ⟨_,q⟩ ?_;exact⟨hz,its',_,hv,q⟩
def Inv.lnew{its:List yb}{t':Nat}(I:Inv X U Y H s)(hv:Vals ys its)(hz:ys.length<=yI) :
 Inv X U Y (upd H s.heap.objs.size (.lst ys)) {s with heap:=s.heap.push {cls:=.type "list",data:=.seq its.toArray },toks:=t' } :=
 I.laid (λ_ _ q=>yf _ q) (yk _) ⟨hz,its,0,hv,yp _ rfl⟩
def Inv.fresh(I:Inv X U Y H s):H s.heap.objs.size=none:=I.hok.fresh (yk _)
def Inv.TX(I:Inv X U Y H s)(hH:H l=some (.lst xs)):xs.length<=yI/\∃(its:List yb)(n:Nat),Vals xs its/\xs.length=its.length/\s.heap.get? l=some {cls:=.type "list",data:=.seq its.toArray n }:=by
 obtain⟨z,its,n,r,e⟩:=I.hok l _ hH;exact⟨z,its,n,r,r.length,e⟩
def sf{n:Nat}(h:n<=yI):YV n=false:=by
 unfold YV;exact decide_eq_false (by omega)
def zHx:V->List V->Hp->VK->Prop:=λx vs H Q=>∃l xs y,x=.ref l/\vs=[y]/\H l=some (.lst xs)/\xs.length<yI/\Q .non (upd H l (.lst (xs++[y])))
def zdt:MtM X "list.append" zHx:=by
 intro U s Y H x vs v us Q I rx rv h;obtain⟨l,xs,y,rfl,rfl,hH,hz,q⟩:=h;cases rx;obtain⟨u,rfl,ru⟩:=rv.one;obtain⟨z,its,n,r,hl,e⟩:=I.TX hH;refine xy F.slot_list_append ⟨_,e,rfl⟩ F.entry_list_append (F.args_list_append_2 _ _) (PySem.list_append l its.toArray n u (by rw[size_toArray];omega)) ⟨e,?_⟩;refine⟨.non,_,I.sZ (its':=its++[u]) hH e (by simp) (r.append (.cons ru .nil)) ?_,rfl,q⟩;rw[length_append,length_singleton];omega
def z1x:V->List V->Hp->VK->Prop:=λx vs H Q=>∃l b xs zs,x=.ref l/\vs=[.ref b]/\H l=some (.lst xs)/\H b=some (.lst zs)/\xs.length+zs.length<=yI/\Q .non (upd H l (.lst (xs++zs)))
def zYu:MtM X "list.extend" z1x:=by
 intro U s Y H x vs v us Q I rx rv h;obtain⟨l,b,xs,zs,rfl,rfl,hH,hB,hz,q⟩:=h;cases rx;obtain⟨u,rfl,ru⟩:=rv.one;cases ru;obtain⟨z,its,n,r,hl,e⟩:=I.TX hH;obtain⟨z2,its2,n2,r2,hl2,e2⟩:=I.TX hB;have hsz:its.toArray.size+its2.toArray.size<=yI:=by rw[size_toArray,size_toArray];omega
 have hlong:¬(!its.toArray.isEmpty&&YV (its.toArray.size+its2.toArray.size))=true:=by
  rw[sf hsz,Xg];exact yv
 refine xy F.slot_list_extend ⟨_,e,rfl⟩ F.entry_list_extend (F.args_list_extend_2 _ _)
  (AutoSeq1.list_extend_list_list_0 l its.toArray n b its2.toArray n2 hlong (by rw[size_toArray];omega) (by omega)) ⟨e,e2,?_⟩
 refine⟨.non,_,I.sZ (its':=its++its2) hH e (by simp) (r.append r2) ?_,rfl,q⟩;rw[length_append];omega
def zkB:V->List V->Hp->VK->Prop:=λx vs H Q=>∃l xs y,x=.ref l/\vs=[]/\H l=some (.lst xs)/\xs[xs.length-1]?=some y/\Q y (upd H l (.lst xs.dropLast))
def zPz:MtM X "list.pop" zkB:=by
 intro U s Y H x vs v us Q I rx rv h;obtain⟨l,xs,y,rfl,rfl,hH,hy,q⟩:=h;cases rx;have hus:=rv.zero;subst hus;obtain⟨z,its,n,r,hl,e⟩:=I.TX hH;obtain⟨u,hu,ru⟩:=r.get hy
 have hy':its.toArray[its.toArray.size-1]?=some u:=by
  show its.toArray[its.length-1]?=some u;rw[<-xV,<-hl];exact hu
 refine xy F.slot_list_pop ⟨_,e,rfl⟩ F.entry_list_pop (F.args_list_pop_1 _) (MeetsSeq.list_pop_last l its.toArray n u hy' (by rw[size_toArray];omega)) ⟨e,?_⟩;refine⟨y,_,I.sZ (its':=its.dropLast) hH e ?_ r.dropLast ?_,ru,q⟩
 ·show its.toArray.eraseIdxIfInBounds (its.toArray.size-1)=its.dropLast.toArray;rw[size_toArray,List.eraseIdxIfInBounds_toArray,zls]
 ·rw[List.length_dropLast];omega
def zJB:R2:=λx y H Q=>∃l b xs zs,x=.ref l/\y=.ref b/\H l=some (.lst xs)/\H b=some (.lst zs)/\xs.length+zs.length<=yI/\∀p,H p=none->Q (.ref p) (upd H p (.lst (xs++zs)))
def zYy:OpR X (xH .Add) zJB:=by
 intro U s Y H x y v u Q I rx ry h;obtain⟨l,b,xs,zs,rfl,rfl,hH,hB,hz,q⟩:=h;cases rx;cases ry;obtain⟨z,its,n,r,hl,e⟩:=I.TX hH;obtain⟨z2,its2,n2,r2,hl2,e2⟩:=I.TX hB;refine PySem.P.add_list e e2 ?_ (by rw[size_toArray,size_toArray];omega);have ea:its.toArray++its2.toArray=(its++its2).toArray:=by simp
 rw[ea];exact⟨.ref _,_,I.lnew (t':=s.toks) (r.append r2) (by rw[length_append];omega),rfl,q _ I.fresh⟩
def zLB:R2:=λx y H Q=>∃l k xs,x=.ref l/\y=.int k/\H l=some (.lst xs)/\-(2^63)<=k/\k<2^63/\xs.length*k.toNat<=yI /\
 ∀p,H p=none->Q (.ref p) (upd H p (.lst (yo k.toNat xs).flatten))
def zKt{α:Type}(xs:List α)(k:Nat):(yo k xs).flatten.length=k*xs.length:=by
 induction k with
 |zero=>simp
 |succ k ih=>rw[replicate_succ,flatten_cons,length_append,ih,Nat.succ_mul,Nat.add_comm]
def zmz:OpR X (xH .Mult) zLB:=by
 intro U s Y H x y v u Q I rx ry h;obtain⟨l,k,xs,rfl,rfl,hH,h1,h2,hz,q⟩:=h;cases rx;obtain⟨t,rfl⟩:=ry;obtain⟨z,its,n,r,hl,e⟩:=I.TX hH;have hlen:its.toArray.size*k.toNat<=yI:=by rw[size_toArray,<-hl];exact hz
 have hcap:¬its.toArray.size*k.toNat>(2^63-1) / 8:=by
  have:(yI:Nat)<=(2^63-1) / 8:=by decide
  omega
 have hfit:¬(!Builtin.List.listFitsIndex k)=true:=by
  rw[fitsIndex_both h1 h2];exact yv
 have hlong:¬YV (its.toArray.size*k.toNat)=true:=by
  rw[sf hlen];exact yv
 have hnew:List.foldl (λx1 x2=>x1++x2) #[] (yo (if its.toArray.isEmpty=true then 0 else k.toNat) its.toArray)=(yo k.toNat its).flatten.toArray:=by
  have f0:∀m:Nat,List.foldl (λx1 x2=>x1++x2) #[] (yo m its.toArray)=(yo m its).flatten.toArray:=λm=>by
   have:=zkp its m [];rw[List.nil_append]at this;exact this
  rw[f0]
  cases its with
  |nil=>simp
  |cons a r'=>rw[if_neg (by simp)]
 refine wpAny_binaryOp_repeat_ref (T:="list") (U:="int") (by decide) ⟨_,e,rfl⟩ (λs'=>typeIs_int s' k t) noFill_list_mul F.fills_int_mul F.slot_int_rmul repeat_list F.slot_int_index.lookup
  (xy F.slot_int_rmul (typeIs_int s k t) F.entry_int_rmul (F.args_int_rmul_2 _ _) (int___rmul___int_list k t l its.toArray n)
   ⟨e,rfl,⟨_,e,rfl⟩,xy F.slot_list_mul ⟨_,e,rfl⟩ F.entry_list_mul (F.args_list_mul_2 _ _) (AutoListH.list___mul___list_int_3 l its.toArray n k t hfit hcap hlong) ⟨e,?_⟩⟩)
 rw[hnew];exact⟨.ref _,_,I.lnew (t':=s.toks) (r.rep k.toNat) (by rw[zKt,Nat.mul_comm];exact hz),rfl,q _ I.fresh⟩
variable {prog:yy}{w:yJ}{A:yM}{E:yb->ye->Prop}
end
end L2
namespace Att
open PySem PySem.W PySem.Calls PyProof.Rows
def zNl{P:Params}{h:Ye}:∀(ns:List Int)(vs:List yb),WellAll P h vs (ns.map WData.int)->Xl vs ns:=by
 intro ns
 induction ns with
 |nil=>
  intro vs w;rw[map_nil]at w;cases w;exact .nil
 |cons n ns ih=>
  intro vs w;rw[map_cons]at w
  cases w with
  |cons a b=>
   cases a;exact .cons _ _ (ih _ b)
def zOt{l:OpenLaw}{n:Nat}(hn:l.most=some n){P:Params}{h:Ye}{args:List WData}{vals:List yb}
 (hpre:l.row.toRowW.claim.pre args=true) (hwl:WellAll P h vals args) :
 ∃a vs ns,vals=[YE a]/\args=[WData.list (ns.map WData.int)]/\h.get? a=some {cls:=.type "list",data:=.seq vs.toArray }/\Xl vs ns/\ns.length<=n:=by
 have hsh:WShape.hasAll [] args [.list .int]=true:=(pre_splitW hpre).1;have hc:l.pre.holds [] {args:=args } = true:=(pre_splitW hpre).2;obtain⟨d,r,rfl,h1,h2⟩:=hasAllW_cons hsh;obtain rfl:=hasAllW_nil h2;obtain⟨xs,rfl,h3⟩:=hasW_list h1;obtain⟨ns,rfl⟩:=items_int h3
 have hlen:ns.length<=n:=by
  unfold OpenLaw.pre at hc
  have h4:(WTm.not (.lt (.lit (.int (n:Int))) (.len (.arg 0)))).holds [] {args:=[.list (ns.map .int)]} = true:=by
   have h4:=(holds_andW hc).1;rw[hn]at h4;exact h4
  have h5:=condW_of h4 (w_not (w_lt w_lit (w_len_list (w_arg rfl))));rw[length_map]at h5;refine Nat.le_of_not_lt λq=>?_;have q':(n:Int)<((ns.length:Nat):Int):=by omega
  first
   |(rw[decide_eq_true q']at h5;exact absurd h5 (by decide))
   |(simp at h5;omega)
 cases hwl with
 |cons w1 w2=>
  cases w2
  cases w1 with
  |list ho hall=>exact⟨_,_,ns,rfl,rfl,ho,zNl ns _ hall,hlen⟩
def zDt(l:OpenLaw)(args:List WData):l.row.toRowW.claim.post args (.bool true) args=true :=
 postW_of (r:=l.row.toRowW) (X:=(true==true))
  (show WShape.has [] (.bool true) .bool=true by first|rfl|decide|simp[WShape.has,WShape.arms,WShape.armsAll])
  (show(WTm.eq .res (.lit (.bool true))).value [] {args:=args,res:=some (.bool true),after:=args } = some (.bool (true==true)) from w_eq_bool (w_res rfl) w_lit) rfl
def sM{l:OpenLaw}{n:Nat}{q:yy}{loose:List yF}{XP:(yF->Option yb)->Ye->Prop}{YP:yJ->Ye->Prop}{d:DefRec}
 (hn:l.most=some n) (hdf:d.params.defaults=[])
 (call:∀(w:yJ)(s₀ s₁:ye)(mg mb:yF->Option yb)(fa:yg)(o:xa)(pm cd doc:yb)(a:yg)(vs:List yb)(ns:List Int),
  Ground q loose [] XP w s₀ mg mb s₁.heap->YP w s₁.heap ->
  s₁.heap.get? fa=some o->o.data=.func (docDef d.name d.params d.body d.scope pm cd doc)->s₁.heap.CodeRec cd d.name->mg d.name=some (.ref fa) ->
  s₁.heap.get? a=some {cls:=.type "list",data:=.seq vs.toArray }->Xl vs ns->ns.length<=n->s₁.gens = #[] ->
  codeAny (yA l.prog w) callerA (.call (.ref fa) ⟨[.ref a],[]⟩) (λr s'=>r=.ok (.ret (.bool true))/\OldK s₁.heap s'.heap/\s'.os=s₁.os/\AllBare s'.gens) s₁) :
 WalkO q loose XP YP l.row.toRowW d [] (λf vs=>PySem.call f vs):=by
 intro w s₀ s₁ mg mb φ σ fa o pm cd doc dV kV ho hd hcd hD hmg hg args vals as hpre hlay hrd hwl hlo;obtain rfl:dV=.none:=Dflts.none hD hdf;obtain rfl:kV=.none:=Dflts.noKw hD;obtain⟨a,vs,ns,rfl,rfl,hobj,hints,hlen⟩:=zOt hn hpre hwl;refine enter_call (xt (call w s₀ s₁ mg mb fa o pm cd doc a vs ns φ σ ho (fd_plain hd) hcd hmg hobj hints hlen hg) λr s' hq=>?_);obtain⟨rfl,h2,h3,h4⟩:=hq;exact⟨.inl ⟨.bool true,.bool true,[],rfl,λ_=>rfl,.bool true,zDt l _,λ_=>⟨List.Pairwise.nil,λ_ hm=>(nomatch hm)⟩⟩,h2,h3,h4⟩
section
variable {prog:yy}{w:yJ}{A:yM}{E:yb->ye->Prop}{s:ye}{K:Frag}
end
end Att
namespace L2
open PySem PySem.Spec PyProof.Rows
def zsp:∀{vs:List yb} {ns:List Int},Xl vs ns->Vals (ns.map V.int) vs
 |_,_,.nil =>.nil
 |_,_,.cons n t h =>.cons ⟨t,rfl⟩ (zsp h)
def zZz(H:Hp):Prop:=∀b,H b=none\/∃o xs,H b=some (.frz o (.lst xs))
def zgv{P:yy}{w:yJ}{K:yB}{mg mb:yF->Option yb}{CX:CXT}{k:Nat}{fa a:yg}{fd:yj}{x:yF}{sp:Sp}{s₁:ye}{vs:List yb}{ns:List Int}
 (KX:K.In s₁.heap) (hns:s₁.heap.Ns yE mg) (hb:s₁.heap.Ns builtinsNs mb) (hbb:∀x:yF,x≠"__name__"->mb x=yL x) (hlim:s₁.heap.NoLimit) (hg:s₁.gens = #[])
 (ha:s₁.heap.get? a=some {cls:=.type "list",data:=.seq vs.toArray }) (hi:Xl vs ns) (hl:ns.length<=yI) (hr:Tk k callerA)
 (F:∀base:Ye,K.In base->base.Ns yE mg->tm P w K mg base CX k fa fd [x] sp) (hbind:∀(s:ye)(u:yb),BindsTo s fd ⟨[u],[]⟩ [(x,u)])
 (hsp:∀H:Hp,zZz H->SqL K H a (ns.map V.int)->sp [.ref a] H (λv _=>v=.bl true) λ_ _ _=>False)
 (hCX:∀H e s',CX [] H s₁ (λ_ _ _=>False) e s'->False) :
 codeAny (yA P w) callerA (.call (.ref fa) ⟨[.ref a],[]⟩) (λr s'=>r=.ok (.ret (.bool true))/\OldK s₁.heap s'.heap/\s'.os=s₁.os/\AllBare s'.gens) s₁:=by
 have rv:=zsp hi;have lenV:=hi.length
 have core:∀H:Hp,zZz H->SqL K H a (ns.map V.int)->HOk P w H s₁.heap->(∀b,H b≠none->b=a)->(H a≠none->K.lookup a=none) ->
  codeAny (yA P w) callerA (.call (.ref fa) ⟨[.ref a],[]⟩) (λr s'=>r=.ok (.ret (.bool true))/\OldK s₁.heap s'.heap/\s'.os=s₁.os/\AllBare s'.gens) s₁:=by
  intro H hO hS hok hA hK;have base_of:∀{b:yg} {o:xa},s₁.heap.get? b=some o->H b=none->(zZv s₁.heap H).get? b=some o:=λe n=>zvw e n
  have noA:∀{b:yg} {o:xa} {es:Array DictEntry} {ep:Nat},s₁.heap.get? b=some o->o.data=.dict es ep->H b=none:=λ{b o es ep} e d=>by
   cases q:H b with
   |none=>rfl
   |some u=>
    have e':b=a:=hA b (by rw[q];simp);subst e';rw[ha]at e;cases e;have d':Data.seq vs.toArray _=Data.dict es ep:=d;cases d'
  have nsK:∀{b:yg} {m:yF->Option yb},s₁.heap.Ns b m->(zZv s₁.heap H).Ns b m:=λ{b m} ⟨o,es,ep,e,d,r⟩=>⟨o,es,ep,base_of e (noA e d),d,r⟩
  have hKb:K.In (zZv s₁.heap H):=λb o e=>base_of (KX b o e) (by
   cases q:H b with
   |none=>rfl
   |some u=>
    have e':b=a:=hA b (by rw[q];simp);subst e';rw[hK (by rw[q];simp)]at e;cases e)
  have hM:Mod K mg (zZv s₁.heap H):=⟨hKb,nsK hns,⟨mb,nsK hb,hbb⟩,let ⟨mc,h1,h2⟩:=hlim;⟨mc,nsK h1,h2⟩⟩
  have e0:Env0 P w K mg (zZv s₁.heap H) callerA [] s₁ H:=⟨rfl,hM,λb o e=>z3x e,Nat.le_of_eq (zdu _ _),trivial,λb hb=>absurd (show b∈([]:List yg) from hb) (by simp),hok,.of_eq hg⟩
  refine xt ((F _ hKb (nsK hns)).run callerA [] s₁ H ⟨[.ref a],[]⟩ [.ref a] [.ref a] _ _ hr e0 (hbind s₁ (.ref a)) (.cons rfl .nil) (hsp H hO hS)) λr s' h=>?_
  cases r with
  |error e=>exact(hCX H e s' h).elim
  |ok fl=>
   cases fl with
   |next=>exact xO h
   |brk=>exact xO h
   |cont=>exact xO h
   |ret u=>
    obtain⟨v,H',os,bare,un,hok',r',q⟩:=h;have q':v=.bl true:=q;subst q';obtain rfl:u=Value.bool true:=r';refine⟨rfl,OldK.of_keep λb o e=>?_,os,bare⟩
    cases q:H b with
    |none=>exact un.keep b o e q (by intro z;exact absurd (show b∈([]:List yg) from z) (by simp)) (by simp)
    |some u=>
     rcases hO b with z|⟨ob,xs,z⟩
     ·rw[q]at z;cases z
     ·have z2:=un.su b ob _ z;obtain⟨e1,_⟩:=hok b _ z;obtain⟨e2,_⟩:=hok' b _ z2;rw[e]at e1;cases e1;exact e2
 cases hk:K.lookup a with
 |some o=>
  have e:=KX a o hk;rw[ha]at e;cases e;refine core (λ_=>none) (λ_ =>.inl rfl) (.inr ⟨_,vs.toArray,_,hk,rfl,rfl,rfl,by rw[size_toArray,lenV];exact hl,by simpa using rv⟩) (λb u z=>by have z':(none:Option HO)=some u:=z;cases z') (λb z=>absurd rfl z) λz=>absurd rfl z
 |none=>
  refine core (λb=>if b=a then some (.frz {cls:=.type "list",data:=.seq vs.toArray } (.lst (ns.map V.int))) else none) (λb=>?_) (.inl (.inr ⟨{cls:=.type "list",data:=.seq vs.toArray },if_pos rfl⟩)) (λb u z=>?_) (λb z=>?_) λ_=>hk
  ·by_cases hb:b=a
   ·exact .inr ⟨_,_,if_pos hb⟩
   ·exact .inl (if_neg hb)
  ·by_cases hb:b=a
   ·have z':=(if_pos hb).symm.trans z;cases z';subst hb;exact⟨ha,by rw[length_map];exact hl,vs,_,rv,ha⟩
   ·have z':=(if_neg hb).symm.trans z;cases z'
  ·by_cases hb:b=a
   ·exact hb
   ·exact absurd (if_neg hb) z
def walk_of{l:W.OpenLaw}{n k:Nat}{q:yy}{loose:List yF}{XP:(yF->Option yb)->Ye->Prop}{YP:yJ->Ye->Prop}{d:DefRec}{K:Params->yB}{CX:yJ->CXT}{sp:yJ->Sp}{x:yF}
 (hn:l.most=some n) (hn2:n<=yI) (hdf:d.params.defaults=[]) (hr:Tk k callerA)
 (hY:∀(w:yJ)(h:Ye),YP w h->(K w.params).In h)
 (F:∀(w:yJ)(mg:yF->Option yb)(fa:yg)(h:Ye),(K w.params).In h->h.Ns yE mg->mg d.name=some (.ref fa) ->
  ∃fd:yj,(∀(s:ye)(u:yb),BindsTo s fd ⟨[u],[]⟩ [(x,u)]) /\
   ∀base:Ye,(K w.params).In base->base.Ns yE mg->tm l.prog w (K w.params) mg base (CX w) k fa fd [x] (sp w))
 (hsp:∀(w:yJ)(H:Hp)(a:yg)(ns:List Int),ns.length<=n->zZz H->SqL (K w.params) H a (ns.map V.int)->sp w [.ref a] H (λv _=>v=.bl true) λ_ _ _=>False)
 (hCX:∀(w:yJ)(H:Hp)(s:ye)(e:yb)(s':ye),CX w [] H s (λ_ _ _=>False) e s'->False) :
 W.WalkO q loose XP YP l.row.toRowW d [] (λf vs=>PySem.call f vs):=by
 refine Att.sM hn hdf λw s₀ s₁ mg mb fa o pm cd doc a vs ns φ σ ho hd hcd hmg hobj hints hlen hg=>?_;have KX:=hY w _ σ;obtain⟨fd,hb,hF⟩:=F w mg fa _ KX φ.T.g hmg;exact zgv KX φ.T.g φ.T.b φ.T.builtins φ.T.nolimit hg hobj hints (yD hlen hn2) hr hF hb (λH hO hS=>hsp w H a ns hlen hO hS) λH e s'=>hCX w H s₁ e s'
def z6d(s:Yb):Arguments:=match s with
 |.FunctionDef _ a _ _ _ _ _ _ _ _=>a
 |_=>{posonlyargs:=[],args:=[],vararg:=none,kwonlyargs:=[],kw_defaults:=[],kwarg:=none,defaults:=[]}
def zCd(s:Yb):List Yb:=match s with
 |.FunctionDef _ _ b _ _ _ _ _ _ _=>b
 |_=>[]
def zp(s:Yb):xY:=match s with
 |.FunctionDef _ _ _ _ _ _ sc _ _ _=>sc
 |_=>{kind:=.function,names:=[],isGenerator:=false,isCoroutine:=false }
abbrev CX0:CXT:=λ_ _ _ _ _ _=>False
abbrev E0:XK:=λ_ _ _=>False
def pass0{X:Cx}:z5t CX0 X E0:=λ_ _ _ _ _ _ _ h=>h.elim
structure Fun(K:yB)(x qual:yF)(st:Yb)(f:yg)(fd:yj):Prop where
 ex:∃(oc:yb)(od:Option yg)(kV doc pm:yb)(an:Option yg)(cdv ct:yb)(osl:Array (Option yb)),
  fd=W.fnOf x qual (z6d st) (zCd st) (zp st) .none kV doc pm an cdv ct/\K.lookup f=some ⟨oc,od,.func fd,osl⟩/\W.codeIn K cdv qual=true
 kp:W.keepIn K (.ref f)=true
section
variable {P:yy}{w:yJ}{K:yB}{mg:yF->Option yb}{base:Ye}
def Fun.ok{x qual:yF}{st:Yb}{f:yg}{fd:yj}{N ps:List yF}{k:Nat}{sp:Sp}(F:Fun K x qual st f fd)(S:tq N ps (zp st))(len:∀vs H Q E,sp vs H Q E->vs.length=ps.length)
 (hbody:∀(cdv:yb)(A:yM)(outer:List Env)(s:ye)(H:Hp)(vs:List V)(Q:VK)(E:XK),Tk k (A.deeper (envOfC qual (zp st) s.heap.objs.size f cdv))->sp vs H Q E ->
  ∃t,PSs (zxx CX0 P w K mg base N qual (zp st) f cdv A outer s H E).nox (zCd st) t/\t {nx:=λ_ H'=>Q .non H',rt:=Q } (start N vs) H):tm P w K mg base CX0 (k+1) f fd ps sp:=by
 obtain⟨oc,od,kV,doc,pm,an,cdv,ct,osl,rfl,lk,hcd⟩:=F.ex;refine z8z lk hcd S len λA outer s H vs Q E hr hsp=>?_;obtain⟨t,h,q⟩:=hbody cdv A outer s H vs Q E hr hsp;exact⟨t,h.nox,q⟩
def Fun.binds{x qual:yF}{st:Yb}{f:yg}{fd:yj}{ps:List yF}(F:Fun K x qual st f fd)
 (h:∀(kV doc pm:yb)(an:Option yg)(cdv ct:yb)(us:List yb),us.length=ps.length->bindArgs (W.fnOf x qual (z6d st) (zCd st) (zp st) .none kV doc pm an cdv ct) ⟨us,[]⟩=pure (ps.zip us)):Binds K fd ps []:=by
 obtain⟨oc,od,kV,doc,pm,an,cdv,ct,osl,rfl,lk,hcd⟩:=F.ex;exact .all (h kV doc pm an cdv ct)
def zWw{x qual:yF}{st:Yb}{f:yg}{oc:yb}{od an:Option yg}{osl:Array (Option yb)}{kV doc pm cdv ct:yb}(l:K.lookup f=some ⟨oc,od,.func (W.fnOf x qual (z6d st) (zCd st) (zp st) .none kV doc pm an cdv ct),osl⟩)
 (c:W.codeIn K cdv qual=true) (k:W.keepIn K (.ref f)=true):Fun K x qual st f (W.fnOf x qual (z6d st) (zCd st) (zp st) .none kV doc pm an cdv ct):=⟨⟨oc,od,kV,doc,pm,an,cdv,ct,osl,rfl,l,c⟩,k⟩
end
def sx{n:Nat}(h:n<=1000):n<yI:=Nat.lt_of_le_of_lt h (by decide)
section
variable {X:Cx}
end
def Sa{A B:Prop}(h:B):if false=true then A else B:=by
 rw[if_neg yv];exact h
def Sb{A B:Prop}(h:A):if true=true then A else B:=by
 rw[if_pos rfl];exact h
def Trc(B h:Ye)(e:yg)(x:yb):Prop:=x=.none\/∃T oT ts y,x=.ref T/\B.get? T=none/\T≠e/\h.get? T=some oT/\oT.data=.fields ts/\ts[3]?=some y
structure Fly(B:Ye)(l:List Env)(e:yg)(cls:yb)(dx:Option yg)(h:Ye):Prop where
 st:B.StaysIn h
 new:B.get? e=none
 ff:h.FunFrames B l
 ob:∃oe vs x,h.get? e=some oe/\oe.cls=cls/\oe.dict=dx/\oe.data=.fields vs/\vs[1]?=some x/\Trc B h e x
section
variable {M:Model}{A:yM}{E:yb->ye->Prop}{s:ye}{B:Ye}{l outer:List Env}{env:Env}{e L:yg}{cls:yb}{dx:Option yg}{Q:Unit->ye->Prop}
end
structure Cov(outer:List Env)(H':Hp)(h B:Ye):Prop where
 tr:∀b o,H' b=some o->∃u,B.get? b=some u
 old:∀b o,h.get? b=some o->b∉frs outer->∃u,B.get? b=some u
structure FlyX(P:yy)(w:yJ)(outer:List Env)(H:Hp)(s:ye)(C:yb)(dx:Option yg)(H':Hp)(e:yb)(s':ye):Prop where
 os:s'.os=s.os
 bare:AllBare s'.gens
 un:Un (frs outer) [] H H' s.heap s'.heap
 hok:HOk P w H' s'.heap
 fly:∃a B,e=.ref a/\Fly B outer a C dx s'.heap/\Cov outer H' s.heap B
section
variable {P:yy}{w:yJ}{outer:List Env}{H H':Hp}{h0 h h' B base:Ye}
variable {X:Cx}{U:List (yg×xa)}{Y:St}{s s':ye}{C:yb}{a:yg}{dx:Option yg}
end
def z0r(X:Cx)(C:yb)(dx:Option yg)(H':Hp):Prop:=∀U Y H s e s',Inv X U Y H s->FlyX X.prog X.w X.stack H s C dx H' e s'->X.xe e s'
section
variable {P:yy}{w:yJ}{K:yB}{mg:yF->Option yb}{base:Ye}{N:List yF}{qual:yF}{scope:xY}{f:yg}{cd:yb}{A:yM}{outer:List Env}{s:ye}{H H':Hp}{E:XK}{C:yb}{dx:Option yg}
end
end L2
namespace M
open PySem PySem.Spec PyProof.Rows L2
inductive D where
 |non|bl (b:Bool)|int (i:Int)|str (x:yF)|ty (n:String)
  |tup (ds:List D)
  |fz (ds:List D)
  |loc (n:Nat)
  |own (c:yF)
inductive tw where
 |lst (ds:List D)
  |dct (kvs:List (Int×D))
  |dcf (kvs:List (Int×D))
  |exc (c:yF) (fs:List (yF×D))
  |ins (c:yF) (fs:List (yF×D))
abbrev Mem:=List tw
def zcA(a C:yg)(dx:Option yg):Ye->Prop:=λh=>∃o vs,h.get? a=some o/\o.cls=.ref C/\o.dict=dx/\o.data=.fields vs
abbrev Loc:=List (Option D)
section
variable (K:yB)
def FzL(H:Hp)(a:yg)(vs:List V):Prop :=
 (∃o,H a=some (.frz o (.lst vs)))\/∃(o:xa)(its:Array yb)(n:Nat),K.lookup a=some o/\o.cls=.type "list"/\o.dict=none/\o.data=.seq its n/\its.size<=yI/\Vals vs its.toList
mutual
def tz(Z:List yg)(H:Hp):D->V->Prop
 |.non,v=>v=.non
 |.bl b,v=>v=.bl b
 |.int i,v=>v=.int i
 |.str x,v=>v=.str x
 |.ty n,v=>v=.ty n
 |.tup ds,v=>∃a vs,v=.ref a/\H a=some (.tup vs)/\tf Z H ds vs
 |.fz ds,v=>∃a vs,v=.ref a/\FzL K H a vs/\tf Z H ds vs
 |.loc n,v=>∃a,v=.ref a/\Z[n]?=some a
 |.own c,v=>∃a,v=.ref a/\Xe K yE c=some (some (.ref a))
def tf(Z:List yg)(H:Hp):List D->List V->Prop
 |[],vs=>vs=[]
 |d::ds,vs=>∃v r,vs=v::r/\tz Z H d v/\tf Z H ds r
end
def Sg(Z:List yg)(H:Hp)(fs:List (yF×D))(dx:Option yg):Prop:=(fs=[]/\dx=none)\/∃p vs,dx=some p/\H p=some (.xd vs)/\vs.map (·.1)=fs.map (·.1)/\tf K Z H (fs.map (·.2)) (vs.map (·.2))
def sN(Z:List yg)(H:Hp)(a:yg):tw->Prop
 |.lst ds=>∃vs,H a=some (.lst vs)/\tf K Z H ds vs
 |.dct kvs=>∃vs,H a=some (.dK vs)/\vs.map (·.1)=kvs.map (λp=>yN p.1)/\tf K Z H (kvs.map (·.2)) (vs.map (·.2))
 |.dcf kvs=>∃o vs,H a=some (.frz o (.dK vs))/\vs.map (·.1)=kvs.map (λp=>yN p.1)/\tf K Z H (kvs.map (·.2)) (vs.map (·.2))
 |.exc c fs=>∃C dx,Xe K yE c=some (some (.ref C))/\H a=some (.ext (zcA a C dx))/\Sg K Z H fs dx
 |.ins c fs=>∃C dx vs,Xe K yE c=some (some (.ref C))/\H a=some (.ins C dx vs)/\vs.map (·.1)=fs.map (·.1)/\tf K Z H (fs.map (·.2)) (vs.map (·.2))
structure tI(Z:List yg)(H:Hp)(μ:Mem):Prop where
 nd:Z.Nodup
 len:Z.length=μ.length
 at_:∀(n:Nat) a o,Z[n]?=some a->μ[n]?=some o->sN K Z H a o
structure Ext(Z:List yg)(H:Hp)(Z':List yg)(H':Hp):Prop where
 pre:∃more,Z'=Z++more
 tup:∀a vs,H a=some (.tup vs)->H' a=some (.tup vs)
 frz:∀a o u,H a=some (.frz o u)->H' a=some (.frz o u)
 xd:∀a fs,H a=some (.xd fs)->H' a=some (.xd fs)
def sW(Z:List yg)(H:Hp)(Y:L2.St)(J:Loc):Prop:=∀(i:Nat) d,J[i]?=some (some d)->∃v,Y[i]?=some (some v)/\tz K Z H d v
end
section
variable {K:yB}{Z Z' Z'':List yg}{H H' H'':Hp}{μ:Mem}{Y:L2.St}{J:Loc}
def Ext.refl:Ext Z H Z H:=⟨⟨[],by simp⟩,λ_ _ h=>h,λ_ _ _ h=>h,λ_ _ h=>h⟩
def Ext.trans(a:Ext Z H Z' H')(b:Ext Z' H' Z'' H''):Ext Z H Z'' H'':=by
 obtain⟨m,e⟩:=a.pre;obtain⟨m',e'⟩:=b.pre;exact⟨⟨m++m',by rw[e',e,append_assoc]⟩,λ_ _ h=>b.tup _ _ (a.tup _ _ h),λ_ _ _ h=>b.frz _ _ _ (a.frz _ _ _ h),λ_ _ h=>b.xd _ _ (a.xd _ _ h)⟩
def Ext.get(e:Ext Z H Z' H'){n:Nat}{a:yg}(h:Z[n]?=some a):Z'[n]?=some a:=by
 obtain⟨m,e⟩:=e.pre;rw[e,yn (List.getElem?_eq_some_iff.mp h).1];exact h
def Ext.fz(e:Ext Z H Z' H'){a:yg}{vs:List V}(h:FzL K H a vs):FzL K H' a vs:=by
 rcases h with ⟨o,h⟩|h
 ·exact .inl ⟨o,e.frz _ _ _ h⟩
 ·exact .inr h
mutual
def tz.ext(e:Ext Z H Z' H'):∀{d:D} {v:V},tz K Z H d v->tz K Z' H' d v
 |.non,_,h=>by unfold tz at h ⊢;exact h
 |.bl _,_,h=>by unfold tz at h ⊢;exact h
 |.int _,_,h=>by unfold tz at h ⊢;exact h
 |.str _,_,h=>by unfold tz at h ⊢;exact h
 |.ty _,_,h=>by unfold tz at h ⊢;exact h
 |.tup ds,_,h=>by
  unfold tz at h ⊢;obtain⟨a,vs,e1,e2,r⟩:=h;exact⟨a,vs,e1,e.tup _ _ e2,tf.ext e r⟩
 |.fz ds,_,h=>by
  unfold tz at h ⊢;obtain⟨a,vs,e1,e2,r⟩:=h;exact⟨a,vs,e1,e.fz e2,tf.ext e r⟩
 |.loc n,_,h=>by
  unfold tz at h ⊢;obtain⟨a,e1,e2⟩:=h;exact⟨a,e1,e.get e2⟩
 |.own c,_,h=>by unfold tz at h ⊢;exact h
def tf.ext(e:Ext Z H Z' H'):∀{ds:List D} {vs:List V},tf K Z H ds vs->tf K Z' H' ds vs
 |[],_,h=>by unfold tf at h ⊢;exact h
 |d::ds,_,h=>by
  unfold tf at h ⊢;obtain⟨v,r,e1,h1,h2⟩:=h;exact⟨v,r,e1,tz.ext e h1,tf.ext e h2⟩
end
def sW.ext(e:Ext Z H Z' H')(h:sW K Z H Y J):sW K Z' H' Y J:=λi d q=>
 let ⟨v,e1,r⟩:=h i d q
 ⟨v,e1,r.ext e⟩
def tf.length:∀{ds:List D} {vs:List V},tf K Z H ds vs->ds.length=vs.length
 |[],_,h=>by unfold tf at h;subst h;rfl
 |d::ds,_,h=>by
  unfold tf at h;obtain⟨v,r,e1,_,h2⟩:=h;subst e1;have:=tf.length h2;simp[this]
def tf.get:∀{ds:List D} {vs:List V} {i:Nat} {d:D},tf K Z H ds vs->ds[i]?=some d->∃v,vs[i]?=some v/\tz K Z H d v
 |[],_,_,_,_,q=>by simp at q
 |d::ds,_,0,d',h,q=>by
  unfold tf at h;obtain⟨v,r,e1,h1,_⟩:=h;subst e1;simp at q;subst q;exact⟨v,by simp,h1⟩
 |d::ds,_,i+1,d',h,q=>by
  unfold tf at h;obtain⟨v,r,e1,_,h2⟩:=h;subst e1;obtain⟨w,e2,h3⟩:=tf.get (i:=i) h2 (by simpa using q);exact⟨w,by simpa using e2,h3⟩
def tf.cons{d:D}{v:V}{ds:List D}{vs:List V}(h1:tz K Z H d v)(h2:tf K Z H ds vs):tf K Z H (d::ds) (v::vs):=by
 unfold tf;exact⟨v,vs,rfl,h1,h2⟩
def tf.nil:tf K Z H [] []:=by unfold tf;rfl
def tf.cons_inv{d:D}{ds:List D}{vs:List V}(h:tf K Z H (d::ds) vs):∃v r,vs=v::r/\tz K Z H d v/\tf K Z H ds r:=by
 unfold tf at h;exact h
def tf.nil_inv{vs:List V}(h:tf K Z H [] vs):vs=[]:=by unfold tf at h;exact h
def tf.append:∀{ds es:List D} {vs us:List V},tf K Z H ds vs->tf K Z H es us->tf K Z H (ds++es) (vs++us)
 |[],_,_,_,h,q=>by rw[h.nil_inv];exact q
 |d::ds,_,_,_,h,q=>by
  obtain⟨v,r,rfl,h1,h2⟩:=h.cons_inv;exact .cons h1 (tf.append h2 q)
def tf.take:∀{ds:List D} {vs:List V} (n:Nat),tf K Z H ds vs->tf K Z H (ds.take n) (vs.take n)
 |[],_,n,h=>by rw[h.nil_inv];simp[tf.nil]
 |d::ds,_,0,h=>by simp[tf.nil]
 |d::ds,_,n+1,h=>by
  obtain⟨v,r,rfl,h1,h2⟩:=h.cons_inv;simpa using tf.cons h1 (tf.take n h2)
def tf.drop:∀{ds:List D} {vs:List V} (n:Nat),tf K Z H ds vs->tf K Z H (ds.drop n) (vs.drop n)
 |[],_,n,h=>by rw[h.nil_inv];simp[tf.nil]
 |d::ds,_,0,h=>by simpa using h
 |d::ds,_,n+1,h=>by
  obtain⟨v,r,rfl,h1,h2⟩:=h.cons_inv;simpa using tf.drop n h2
def tf.set:∀{ds:List D} {vs:List V} {d:D} {v:V} (n:Nat),tz K Z H d v->tf K Z H ds vs->tf K Z H (ds.set n d) (vs.set n v)
 |[],_,_,_,n,_,h=>by rw[h.nil_inv];simp[tf.nil]
 |d::ds,_,_,_,0,q,h=>by
  obtain⟨v,r,rfl,h1,h2⟩:=h.cons_inv;simpa using tf.cons q h2
 |d::ds,_,_,_,n+1,q,h=>by
  obtain⟨v,r,rfl,h1,h2⟩:=h.cons_inv;simpa using tf.cons h1 (tf.set n q h2)
def tz.int_inv{i:Int}{v:V}(h:tz K Z H (.int i) v):v=.int i:=by unfold tz at h;exact h
def tz.tU{i:Bool}{v:V}(h:tz K Z H (.bl i) v):v=.bl i:=by unfold tz at h;exact h
def tz.tL{v:V}(h:tz K Z H .non v):v=.non:=by unfold tz at h;exact h
def tz.str_inv{x:yF}{v:V}(h:tz K Z H (.str x) v):v=.str x:=by unfold tz at h;exact h
def tz.tW{ds:List D}{v:V}(h:tz K Z H (.tup ds) v):∃a vs,v=.ref a/\H a=some (.tup vs)/\tf K Z H ds vs:=by unfold tz at h;exact h
def tz.sg{ds:List D}{v:V}(h:tz K Z H (.fz ds) v):∃a vs,v=.ref a/\FzL K H a vs/\tf K Z H ds vs:=by unfold tz at h;exact h
def tz.tD{n:Nat}{v:V}(h:tz K Z H (.loc n) v):∃a,v=.ref a/\Z[n]?=some a:=by unfold tz at h;exact h
def tz.int{i:Int}:tz K Z H (.int i) (.int i):=by unfold tz;rfl
def tz.bl{i:Bool}:tz K Z H (.bl i) (.bl i):=by unfold tz;rfl
def tz.non:tz K Z H .non .non:=by unfold tz;rfl
def tz.str{x:yF}:tz K Z H (.str x) (.str x):=by unfold tz;rfl
def tz.tup{ds:List D}{a:yg}{vs:List V}(e:H a=some (.tup vs))(h:tf K Z H ds vs):tz K Z H (.tup ds) (.ref a):=by unfold tz;exact⟨a,vs,rfl,e,h⟩
def tz.fz{ds:List D}{a:yg}{vs:List V}(e:FzL K H a vs)(h:tf K Z H ds vs):tz K Z H (.fz ds) (.ref a):=by unfold tz;exact⟨a,vs,rfl,e,h⟩
def tz.loc{n:Nat}{a:yg}(e:Z[n]?=some a):tz K Z H (.loc n) (.ref a):=by unfold tz;exact⟨a,rfl,e⟩
def FzL.sq{a:yg}{vs:List V}(h:FzL K H a vs):SqL K H a vs:=by
 rcases h with h|h
 ·exact .inl (.inr h)
 ·exact .inr h
def sN.some{a:yg}{o:tw}(h:sN K Z H a o):∃u,H a=some u:=by
 cases o with
 |lst ds=>obtain⟨vs,e,_⟩:=h;exact⟨_,e⟩
 |dct kvs=>obtain⟨vs,e,_⟩:=h;exact⟨_,e⟩
 |dcf kvs=>obtain⟨o,vs,e,_⟩:=h;exact⟨_,e⟩
 |exc c fs=>obtain⟨C,dx,_,e,_⟩:=h;exact⟨_,e⟩
 |ins c fs=>obtain⟨C,dx,vs,_,e,_⟩:=h;exact⟨_,e⟩
def tI.mem_some(R:tI K Z H μ){a:yg}(h:a∈Z):∃u,H a=some u:=by
 obtain⟨n,h1,e⟩:=List.mem_iff_getElem.mp h;have h2:n<μ.length:=by rw[<-R.len];exact h1
 exact(R.at_ n a μ[n] (by rw[yc h1,e]) (by simp[h2])).some
def Sg.ext{fs:List (yF×D)}{dx:Option yg}(e:Ext Z H Z' H')(h:Sg K Z H fs dx):Sg K Z' H' fs dx:=by
 rcases h with h|⟨p,vs,e1,e2,e3,r⟩
 ·exact .inl h
 ·exact .inr ⟨p,vs,e1,e.xd _ _ e2,e3,r.ext e⟩
def sN.ext{a:yg}{o:tw}(e:Ext Z H Z' H')(h:sN K Z H a o)(s:H' a=H a):sN K Z' H' a o:=by
 cases o with
 |lst ds=>obtain⟨vs,q,r⟩:=h;exact⟨vs,s.trans q,r.ext e⟩
 |dct kvs=>obtain⟨vs,q,q2,r⟩:=h;exact⟨vs,s.trans q,q2,r.ext e⟩
 |dcf kvs=>obtain⟨o,vs,q,q2,r⟩:=h;exact⟨o,vs,s.trans q,q2,r.ext e⟩
 |exc c fs=>obtain⟨C,dx,n,q,r⟩:=h;exact⟨C,dx,n,s.trans q,r.ext e⟩
 |ins c fs=>obtain⟨C,dx,vs,n,q,q2,r⟩:=h;exact⟨C,dx,vs,n,s.trans q,q2,r.ext e⟩
def Ext.new{p:yg}{o:HO}(hp:H p=none):Ext Z H Z (upd H p o) :=
 ⟨⟨[],by simp⟩,λa vs e=>by rw[zeb (zV e hp)];exact e,λa o u e=>by rw[zeb (zV e hp)];exact e,λa fs e=>by rw[zeb (zV e hp)];exact e⟩
def tI.other(R:tI K Z H μ)(e:Ext Z H Z H')(s:∀a∈Z,H' a=H a):tI K Z H' μ :=
 ⟨R.nd,R.len,λn a o h1 h2=>(R.at_ n a o h1 h2).ext e (s a (mem_of_getElem? h1))⟩
def tI.Ts(R:tI K Z H μ){p:yg}{o:HO}(hp:H p=none):tI K Z (upd H p o) μ :=
 R.other (Ext.new hp) λa ha=>by
  obtain⟨u,e⟩:=R.mem_some ha;exact zeb (zV e hp)
def Ext.push{p:yg}{o:HO}(hp:H p=none):Ext Z H (Z++[p]) (upd H p o) :=
 ⟨⟨[p],rfl⟩,(Ext.new (Z:=Z) hp).tup,(Ext.new (Z:=Z) hp).frz,(Ext.new (Z:=Z) hp).xd⟩
def tI.push(R:tI K Z H μ){p:yg}{o:HO}{lo:tw}(hp:H p=none)(h:sN K (Z++[p]) (upd H p o) p lo):tI K (Z++[p]) (upd H p o) (μ++[lo]):=by
 refine⟨?_,by simp[R.len],λn a u h1 h2=>?_⟩
 ·rw[nodup_append];refine⟨R.nd,by simp,λa ha b hb=>?_⟩;simp at hb;subst hb;obtain⟨u,e⟩:=R.mem_some ha;exact zV e hp
 ·by_cases hn:n<Z.length
  ·rw[yn hn]at h1;rw[yn (by rw[<-R.len];exact hn)]at h2;have q:=R.at_ n a u h1 h2;obtain⟨z,e⟩:=q.some;exact q.ext (Ext.push hp) (zeb (zV e hp))
  ·have hl:n<(Z++[p]).length:=(List.getElem?_eq_some_iff.mp h1).1;have e:n=Z.length:=by simp at hl;omega
   subst e;rw[yH (yk _)]at h1;rw[R.len,yH (yk _)]at h2;simp at h1 h2;subst h1 h2;exact h
def zSb{p:yg}(R:tI K Z H μ):(Z++[p])[μ.length]?=some p:=by
 rw[<-R.len];simp
def Ext.wr{p:yg}{o:HO}(hm:Mut (H p)):Ext Z H Z (upd H p o) :=
 ⟨⟨[],by simp⟩,λa vs e=>by rw[zeb (by rintro rfl;rw[e]at hm;exact hm)];exact e,λa o u e=>by rw[zeb (by rintro rfl;rw[e]at hm;exact hm)];exact e,λa fs e=>by rw[zeb (by rintro rfl;rw[e]at hm;exact hm)];exact e⟩
def tI.wr(R:tI K Z H μ){n:Nat}{p:yg}{o:HO}{lo:tw}(hm:Mut (H p))(hn:Z[n]?=some p)(h:sN K Z (upd H p o) p lo):tI K Z (upd H p o) (μ.set n lo):=by
 have hlt:=(List.getElem?_eq_some_iff.mp hn).1;refine⟨R.nd,by simp[R.len],λm a u h1 h2=>?_⟩
 by_cases hmn:m=n
 ·subst hmn;rw[hn]at h1;cases h1;rw[Yn (by rw[<-R.len];exact hlt)]at h2;cases h2;exact h
 ·rw[yW (Yk hmn)]at h2
  have hap:a≠p:=by
   rintro rfl;obtain⟨x1,y1⟩:=List.getElem?_eq_some_iff.mp h1;obtain⟨x2,y2⟩:=List.getElem?_eq_some_iff.mp hn;exact hmn ((List.getElem_inj R.nd).mp (y1.trans y2.symm))
  exact(R.at_ m a u h1 h2).ext (Ext.wr hm) (zeb hap)
end
abbrev FE:=Loc->Mem->Option (D×Mem)
abbrev FT:=Loc->Mem->Option (Bool×Mem)
abbrev FA:=Loc->Mem->Option (List D×Mem)
inductive Out where
 |next (J:Loc) (μ:Mem)|ret (d:D) (μ:Mem)|brk (J:Loc) (μ:Mem)|cont (J:Loc) (μ:Mem)
  |exc (c:yF) (fs:List (yF×D)) (μ:Mem)
abbrev FS:=Loc->Mem->Option Out
section
variable (K:yB)
structure At(Z:List yg)(H:Hp)(Y:L2.St)(J:Loc)(μ:Mem):Prop where
 st:sW K Z H Y J
 hp:tI K Z H μ
 len:Y.length=J.length
def tM(G:FE):TE:=λY H Q=>∃Z J μ d μ',At K Z H Y J μ/\G J μ=some (d,μ')/\∀Z' H' v,Ext Z H Z' H'->tI K Z' H' μ'->tz K Z' H' d v->Q v H'
def tMT(G:FT):TT:=λY H Q=>∃Z J μ b μ',At K Z H Y J μ/\G J μ=some (b,μ')/\∀Z' H',Ext Z H Z' H'->tI K Z' H' μ'->Q b H'
def tMA(G:FA):TA:=λY H Q=>∃Z J μ ds μ',At K Z H Y J μ/\G J μ=some (ds,μ')/\∀Z' H' vs,Ext Z H Z' H'->tI K Z' H' μ'->tf K Z' H' ds vs->Q vs H'
def sy(W:XK)(Z:List yg)(H:Hp)(E:Ends):Out->Prop
 |.next J' μ'=>∀Z' Y' H',Ext Z H Z' H'->At K Z' H' Y' J' μ'->E.nx Y' H'
 |.brk J' μ'=>∀Z' Y' H',Ext Z H Z' H'->At K Z' H' Y' J' μ'->E.bk Y' H'
 |.cont J' μ'=>∀Z' Y' H',Ext Z H Z' H'->At K Z' H' Y' J' μ'->E.ct Y' H'
 |.ret d μ'=>∀Z' v H',Ext Z H Z' H'->tI K Z' H' μ'->tz K Z' H' d v->E.rt v H'
 |.exc c fs μ'=>∀Z' H' C dx,PySem.W.nsIn K yE c=some (some (.ref C))->Ext Z H Z' H'->tI K Z' H' μ'->Sg K Z' H' fs dx->W (.ref C) dx H'
def tMS(W:XK)(ψ:FS):TS:=λE Y H=>∃Z J μ o,At K Z H Y J μ/\ψ J μ=some o/\sy K W Z H E o
end
def ME(X:Cx)(e:yG)(G:FE):Prop:=PE X e (tM X.K G)
def MT(X:Cx)(e:yG)(G:FT):Prop:=PT X e (tMT X.K G)
def MW(X:Cx)(e:yG)(G:FT):Prop:=PW X e (tMT X.K G)
def MA(X:Cx)(es:List yG)(G:FA):Prop:=PA X es (tMA X.K G)
def MS(X:Cx)(st:Yb)(ψ:FS):Prop:=PS X st (tMS X.K (z0r X) ψ)
def MSs(X:Cx)(st:List Yb)(ψ:FS):Prop:=PSs X st (tMS X.K (z0r X) ψ)
abbrev FF:=List D->Mem->Option (D×Mem)
def spM(K:yB)(n:Nat)(F:FF):Sp:=λvs H Q _=>vs.length=n/\∃Z ds μ d μ',tf K Z H ds vs/\tI K Z H μ/\F ds μ=some (d,μ')/\∀Z' H' v,Ext Z H Z' H'->tI K Z' H' μ'->tz K Z' H' d v->Q v H'
def At.ext{K:yB}{Z Z':List yg}{H H':Hp}{Y:L2.St}{J:Loc}{μ μ':Mem}(a:At K Z H Y J μ)(e:Ext Z H Z' H')(R:tI K Z' H' μ'):At K Z' H' Y J μ':=⟨a.st.ext e,R,a.len⟩
def zwg{X:Cx}{e:yG}{t:TE}{G:FE}(h:PE X e t)(w:∀Z J μ Y H d μ' Q,At X.K Z H Y J μ->G J μ=some (d,μ')->(∀Z' H' v,Ext Z H Z' H'->tI X.K Z' H' μ'->tz X.K Z' H' d v->Q v H')->t Y H Q):ME X e G :=
 by intro U s Y H Q I hh;obtain⟨Z,J,μ,d,μ',a,e,k⟩:=hh;exact h U s Y H Q I (w Z J μ Y H d μ' Q a e k)
def zfx{X:Cx}{e:yG}{t:TT}{G:FT}(h:PT X e t)(w:∀Z J μ Y H b μ' Q,At X.K Z H Y J μ->G J μ=some (b,μ')->(∀Z' H',Ext Z H Z' H'->tI X.K Z' H' μ'->Q b H')->t Y H Q):MT X e G :=
 by intro U s Y H Q I hh;obtain⟨Z,J,μ,d,μ',a,e,k⟩:=hh;exact h U s Y H Q I (w Z J μ Y H d μ' Q a e k)
def zDy{X:Cx}{e:yG}{t:TT}{G:FT}(h:PW X e t)(w:∀Z J μ Y H b μ' Q,At X.K Z H Y J μ->G J μ=some (b,μ')->(∀Z' H',Ext Z H Z' H'->tI X.K Z' H' μ'->Q b H')->t Y H Q):MW X e G :=
 λwh U s Y H Q I ⟨Z,J,μ,d,μ',a,e,k⟩=>h wh U s Y H Q I (w Z J μ Y H d μ' Q a e k)
def zHz{X:Cx}{e:List yG}{t:TA}{G:FA}(h:PA X e t)(w:∀Z J μ Y H ds μ' Q,At X.K Z H Y J μ->G J μ=some (ds,μ')->(∀Z' H' vs,Ext Z H Z' H'->tI X.K Z' H' μ'->tf X.K Z' H' ds vs->Q vs H')->t Y H Q):MA X e G :=
 λpos U s Y H Q I ⟨Z,J,μ,d,μ',a,e,k⟩=>h pos U s Y H Q I (w Z J μ Y H d μ' Q a e k)
def ztm{X:Cx}{e:Yb}{t:TS}{ψ:FS}(h:PS X e t)(w:∀Z J μ Y H o E,At X.K Z H Y J μ->ψ J μ=some o->sy X.K (z0r X) Z H E o->t E Y H):MS X e ψ :=
 by intro U s Y H E I hh;obtain⟨Z,J,μ,o,a,e,k⟩:=hh;exact h U s Y H E I (w Z J μ Y H o E a e k)
def z3w{X:Cx}{e:List Yb}{t:TS}{ψ:FS}(h:PSs X e t)(w:∀Z J μ Y H o E,At X.K Z H Y J μ->ψ J μ=some o->sy X.K (z0r X) Z H E o->t E Y H):MSs X e ψ :=
 by intro U s Y H E I hh;obtain⟨Z,J,μ,o,a,e,k⟩:=hh;exact h U s Y H E I (w Z J μ Y H o E a e k)
end M
namespace M
open PySem PySem.Spec PyProof.Rows L2
def zi{α β:Type}{o:Option α}{f:α->Option β}{b:β}(h:o.bind f=some b):∃a,o=some a/\f a=some b:=by
 cases o with
 |none=>cases h
 |some a=>exact⟨a,rfl,h⟩
section
variable {X:Cx}{a b c e:yG}{es:List yG}{G ψ χ:FE}{pos:Xd}
@[simp] def zg(i:Nat):FE:=λJ μ=>match J[i]? with
 |some (some d)=>some (d,μ)
 |_=>none
@[simp] def fC(d:D):FE:=λ_ μ=>some (d,μ)
def zFy{i:Nat}{x:yF}(h:PE X (.Name x pos) (z6A i)):ME X (.Name x pos) (zg i) :=
 zwg h λZ J μ Y H d μ' Q A e k=>by
  unfold zg at e
  split at e
  ·rename_i d' hd
   cases e;obtain⟨v,hv,r⟩:=A.st i _ hd;exact⟨v,hv,k Z H v Ext.refl A.hp r⟩
  ·cases e
def z3z{v:V}{d:D}(h:PE X e (tC v))(r:∀Z H,tz X.K Z H d v):ME X e (fC d) :=
 zwg h λZ J μ Y H d' μ' Q A e k=>by
  cases e;exact k Z H v Ext.refl A.hp (r Z H)
def zh{i j}:ME X (.Constant (.int i) j pos) (fC (.int i)):=z3z zMz λ_ _ =>.int
def z7g{i j}:ME X (.Constant (.bool i) j pos) (fC (.bl i)):=z3z zBA λ_ _ =>.bl
def zjd{j}:ME X (.Constant .none j pos) (fC .non):=z3z zUy λ_ _ =>.non
def zYf{x j}:ME X (.Constant (.str x) j pos) (fC (.str x)):=z3z zKy λ_ _ =>.str
def mv(i:Nat){x:yF}(hN:X.N[i]?=some x:=by rfl)(hv:Vis X.env.scope x:=by first|exact Or.inl rfl|exact Or.inr (Or.inl rfl)|exact Or.inr (Or.inr rfl))(hd:(x==("__debug__":yF))=false:=by decide)
 (hcd:(x==("__classdict__":yF))=false:=by decide):ME X (.Name x pos) (zg i):=zFy (zOy hN hv hd hcd)
abbrev φ2:=D->D->Mem->Option (D×Mem)
def rM(K:yB)(g:φ2):R2:=λx y H Q=>∃Z dx dy μ d μ',tz K Z H dx x/\tz K Z H dy y/\tI K Z H μ/\g dx dy μ=some (d,μ')/\∀Z' H' v,Ext Z H Z' H'->tI K Z' H' μ'->tz K Z' H' d v->Q v H'
def OpM(X:Cx)(f:yb->yb->Sem yb)(g:φ2):Prop:=OpR X f (rM X.K g)
def OpM.of{X:Cx}{f:yb->yb->Sem yb}{g:φ2}(h:∀(U:List (yg×xa)) (s:ye) (Y:L2.St) (H:Hp) (x y:V) (v u:yb) (Q:VK),Inv X U Y H s->RelV x v->RelV y u->∀(Z:List yg)(dx dy:D)(μ:Mem)(d:D)(μ':Mem),tz X.K Z H dx x->tz X.K Z H dy y->tI X.K Z H μ->g dx dy μ=some (d,μ')->(∀Z' H' v,Ext Z H Z' H'->tI X.K Z' H' μ'->tz X.K Z' H' d v->Q v H')->yq (yA X.prog X.w) X.A (f v u) (EP X U Y Q) X.xe s):OpM X f g:=by
 intro U s Y H x y v u Q I rx ry hh;obtain⟨Z,dx,dy,μ,d,μ',r1,r2,R,e,k⟩:=hh;exact h U s Y H x y v u Q I rx ry Z dx dy μ d μ' r1 r2 R e k
@[simp] def zy(g:φ2)(G ψ:FE):FE:=λJ μ=>(G J μ).bind λp=>(ψ J p.2).bind λq=>g p.1 q.1 q.2
def z1s{g:φ2}{Z:List yg}{J:Loc}{μ:Mem}{Y:L2.St}{H:Hp}{d:D}{μ':Mem}{Q:VK}(A:At X.K Z H Y J μ)(e:zy g G ψ J μ=some (d,μ'))
 (k:∀Z' H' v,Ext Z H Z' H'->tI X.K Z' H' μ'->tz X.K Z' H' d v->Q v H'):tOp (rM X.K g) (tM X.K G) (tM X.K ψ) Y H Q:=by
 obtain⟨⟨x,μ1⟩,e1,e⟩:=zi e;obtain⟨⟨y,μ2⟩,e2,e⟩:=zi e;refine⟨Z,J,μ,x,μ1,A,e1,λZ1 H1 v x1 R1 r1=>?_⟩;refine⟨Z1,J,μ1,y,μ2,A.ext x1 R1,e2,λZ2 H2 u x2 R2 r2=>?_⟩;exact⟨Z2,x,y,μ2,d,μ',r1.ext x2,r2,R2,e,λZ3 H3 w x3 R3 r3=>k Z3 H3 w (x1.trans (x2.trans x3)) R3 r3⟩
def zAb{op:Operator}{g:φ2}(ho:OpM X (xH op) g)(ha:ME X a G)(hb:ME X b ψ):ME X (.BinOp a op b pos) (zy g G ψ) :=
 zwg (zDA ho ha hb) λ_ _ _ _ _ _ _ _ A e k=>z1s A e k
def zvi{op:CmpOp}{g:φ2}(ho:OpM X (Yl op) g)(ha:ME X a G)(hb:ME X b ψ)(hm:behindInMarks op b=false:=by first|exact sJ _ (by decide) (by decide)|rfl|with_unfolding_all rfl):ME X (.Compare a [op] [b] pos) (zy g G ψ) :=
 zwg (zOx ho ha hb hm) λ_ _ _ _ _ _ _ _ A e k=>z1s A e k
@[simp] def zX(G:FE):FT:=λJ μ=>(G J μ).bind λp=>match p.1 with
 |.bl b=>some (b,p.2)
 |_=>none
def zsr{J:Loc}{μ μ':Mem}{b:Bool}(h:zX G J μ=some (b,μ')):G J μ=some (.bl b,μ'):=by
 obtain⟨⟨x,μ1⟩,e1,e⟩:=zi h;dsimp only at e
 split at e
 ·cases e;exact e1
 ·cases e
def zI{op:CmpOp}{g:φ2}(ho:OpM X (Yl op) g)(ha:ME X a G)(hb:ME X b ψ)(hm:behindInMarks op b=false:=by first|exact sJ _ (by decide) (by decide)|rfl|with_unfolding_all rfl):MT X (.Compare a [op] [b] pos) (zX (zy g G ψ)) :=
 zfx (zYx ho ha hb hm) λZ J μ Y H b μ' Q A e k=>z1s (Q:=λx H'=>∃k,x=.bl k/\Q k H') A (zsr e) λZ' H' v x R r=>⟨b,r.tU,k Z' H' x R⟩
@[simp] def znm:φ2:=λx y μ=>match x,y with
 |.int i,.int j=>some (.int (i+j),μ)
 |.tup as,.tup bs=>bif decide (as.length+bs.length<=1000000) then some (.tup (as++bs),μ) else none
 |.loc l,.loc m=>match μ[l]?,μ[m]? with
  |some (.lst as),some (.lst bs)=>bif decide (as.length+bs.length<=1000000) then some (.loc μ.length,μ++[.lst (as++bs)]) else none
  |_,_=>none
 |_,_=>none
@[simp] def zKw:φ2:=λx y μ=>match x,y with
 |.int i,.int j=>some (.int (i-j),μ)
 |_,_=>none
def zso(i j:Int):Bool:=decide (-(2^64)<i/\i<2^64)||decide (-(2^64)<j/\j<2^64)||(decide (i.natAbs<2^1000)&&decide (j.natAbs<2^1000))
def zev{i j:Int}(h:zso i j=true):IntMulOk i j:=by
 unfold zso at h;rw[Bool.or_eq_true,Bool.or_eq_true,yz]at h;rcases h with (h|h)|⟨h1,h2⟩
 ·have h:=of_decide_eq_true h;exact .of_left (intBits_le_64 h.1 h.2)
 ·have h:=of_decide_eq_true h;exact .of_right (intBits_le_64 h.1 h.2)
 ·exact .of_le (m:=1000) (n:=1000) (intBits_le (of_decide_eq_true h1)) (intBits_le (of_decide_eq_true h2)) (by decide)
def zPl:φ2:=λx y μ=>match x,y with
 |.int i,.int j=>bif zso i j then some (.int (i*j),μ) else none
 |.tup ds,.int n=>bif decide (2<=n/\n<=1000/\0<ds.length/\ds.length<=1000) then some (.tup (yo n.toNat ds).flatten,μ) else none
 |.loc l,.int n=>match μ[l]? with
  |some (.lst ds)=>bif decide (n<=1000/\-(2^62)<=n/\ds.length<=1000) then some (.loc μ.length,μ++[.lst (yo n.toNat ds).flatten]) else none
  |_=>none
 |_,_=>none
@[simp] def zas:φ2:=λx y μ=>match x,y with
 |.int i,.int j=>bif decide (0<j) then some (.int (i%j),μ) else none
 |_,_=>none
@[simp] def zAy:φ2:=λx y μ=>match x,y with
 |.int i,.int j=>bif decide (0<j/\j<1606938044258990275541962092341162602522202993782792835301376) then some (.int (i / j),μ) else none
 |_,_=>none
def z8A:φ2:=λx y μ=>match x,y with
 |.int i,.int j=>bif decide (0<=j/\j<=100000/\i.natAbs<1606938044258990275541962092341162602522202993782792835301376) then some (.int (i^j.toNat),μ) else none
 |_,_=>none
def z5{α:Type}{c:Bool}{o:Option α}{x:α}(h:(bif c then o else none)=some x):c=true/\o=some x:=by
 cases c with
 |true=>exact⟨rfl,h⟩
 |false=>cases h
def zCq{f:yb->yb->Sem yb}{g:φ2}{C:Int->Int->Prop}{h:Int->Int->Int}(o:OpR X f (rI C λi j =>.int (h i j)))
 (w:∀x y μ d μ',g x y μ=some (d,μ')->∃i j,x=.int i/\y=.int j/\C i j/\d=.int (h i j)/\μ'=μ):OpM X f g:=by
 refine OpM.of λU s Y H x y v u Q I rx ry Z dx dy μ d μ' r1 r2 R e k=>?_;obtain⟨i,j,rfl,rfl,hc,rfl,rfl⟩:=w _ _ _ _ _ e;refine o U s Y H x y v u Q I rx ry ⟨i,j,r1.int_inv,r2.int_inv,hc,?_⟩;exact k Z H _ Ext.refl R .int
def zVp:OpM X (xH .Sub) zKw:=zCq (C:=λ_ _=>True) (h:=λi j=>i-j) (opI λ_ _ _ _ _ _ _ _ q=>sub_int q) λx y μ d μ' e=>by
 unfold zKw at e
 split at e
 ·cases e;exact⟨_,_,rfl,rfl,trivial,rfl,rfl⟩
 ·cases e
def zHf:OpM X (xH .Mod) zas:=zCq (h:=λi j=>i%j) z0y λx y μ d μ' e=>by
 unfold zas at e
 split at e
 ·obtain⟨h1,e⟩:=z5 e;cases e;have h2:=of_decide_eq_true h1;exact⟨_,_,rfl,rfl,h2,rfl,rfl⟩
 ·cases e
def zHy(i j:Int):Prop:=0<j/\j<1606938044258990275541962092341162602522202993782792835301376
def zEv:OpR X (xH .FloorDiv) (rI zHy λi j =>.int (i / j)):=opI λi j _ _ _ _ _ hc q=>by
 have h1:(0:Int)<j:=hc.1;have h2:j<1606938044258990275541962092341162602522202993782792835301376:=hc.2;refine floordiv_int (by omega) (by rw[Int.fdiv_eq_ediv_of_nonneg i (by omega)];exact q) (.inl (PyProof.noPylong_of_log2 ?_));have:j.natAbs.log2<200:=(Nat.log2_lt (by omega)).mpr (by rw[show 2^200=1606938044258990275541962092341162602522202993782792835301376 from rfl];omega);omega
def zDq:OpM X (xH .FloorDiv) zAy:=zCq (C:=zHy) (h:=λi j=>i / j) zEv λx y μ d μ' e=>by
 unfold zAy at e
 split at e
 ·obtain⟨h1,e⟩:=z5 e;cases e;have h2:=of_decide_eq_true h1;exact⟨_,_,rfl,rfl,h2,rfl,rfl⟩
 ·cases e
@[simp] def zPm(p:Int->Int->Bool):φ2:=λx y μ=>match x,y with
 |.int i,.int j=>some (.bl (p i j),μ)
 |_,_=>none
def znq{f:yb->yb->Sem yb}{p:Int->Int->Bool}(o:OpR X f (rI0 λi j =>.bl (p i j))):OpM X f (zPm p):=by
 refine OpM.of λU s Y H x y v u Q I rx ry Z dx dy μ d μ' r1 r2 R e k=>?_;unfold zPm at e
 split at e
 ·cases e;exact o U s Y H x y v u Q I rx ry ⟨_,_,r1.int_inv,r2.int_inv,k Z H _ Ext.refl R .bl⟩
 ·cases e
def zXm:OpM X (Yl .Lt) (zPm λi j=>decide (i<j)):=znq znA
def zLp:OpM X (Yl .Gt) (zPm λi j=>decide (j<i)):=znq zxA
def zQt:OpM X (Yl .GtE) (zPm λi j=>decide (j<=i)):=znq zjA
@[simp] def z5z(G ψ:FE):FE:=λJ μ=>(G J μ).bind λp=>match p.1 with
 |.bl true=>ψ J p.2
 |.bl false=>some (.bl false,p.2)
 |_=>none
@[simp] def fOr(G ψ:FE):FE:=λJ μ=>(G J μ).bind λp=>match p.1 with
 |.bl false=>ψ J p.2
 |.bl true=>some (.bl true,p.2)
 |_=>none
@[simp] def zCB(G:FE):FE:=λJ μ=>(G J μ).bind λp=>match p.1 with
 |.bl b=>some (.bl (!b),p.2)
 |_=>none
def zHw{op}(h:ME X a G):ME X (.BoolOp op [a] pos) G:=zFz h
def zYw{rest:List yG}(ha:ME X a G)(hb:ME X (.BoolOp .And (b::rest) pos) ψ):ME X (.BoolOp .And (a::b::rest) pos) (z5z G ψ) :=
 zwg (znz ha hb) λZ J μ Y H d μ' Q A e k=>by
  obtain⟨⟨x,μ1⟩,e1,e⟩:=zi e;refine⟨Z,J,μ,x,μ1,A,e1,λZ1 H1 v x1 R1 r1=>?_⟩;dsimp only at e
  split at e
  ·exact⟨true,r1.tU,Sb ⟨Z1,J,μ1,d,μ',A.ext x1 R1,e,λZ2 H2 w x2 R2 r2=>k Z2 H2 w (x1.trans x2) R2 r2⟩⟩
  ·cases e;exact⟨false,r1.tU,Sa (k Z1 H1 _ x1 R1 .bl)⟩
  ·cases e
@[simp] def zep(G ψ:FT):FT:=λJ μ=>(G J μ).bind λp=>bif p.1 then ψ J p.2 else some (false,p.2)
@[simp] def zuu(G ψ:FT):FT:=λJ μ=>(G J μ).bind λp=>bif p.1 then some (true,p.2) else ψ J p.2
@[simp] def zPt(G:FT):FT:=λJ μ=>(G J μ).bind λp=>some (!p.1,p.2)
def zwm{G:FE}(h:ME X a G)(he:∀whole,isTrue a X.env whole=(do let v <-whole;standAt a.pos;holding [v] (truthy v)):=by intro _;rfl):MT X a (zX G) :=
 zfx (z7y h he) λZ J μ Y H b μ' Q A e k=>⟨Z,J,μ,.bl b,μ',A,zsr e,λZ' H' v x R r=>⟨b,r.tU,k Z' H' x R⟩⟩
def MW.mt{G:FT}(h:MW X a G):MT X a G:=h _
def ztl{G:FT}(h:MT X a G):MW X (.BoolOp .And [a] pos) G:=zvx h
def zkk{G:FT}(h:MT X a G):MW X (.BoolOp .Or [a] pos) G:=zcz h
def zGm{G ψ:FT}{rest:List yG}(ha:MT X a G)(hb:MW X (.BoolOp .And (b::rest) pos) ψ):MW X (.BoolOp .And (a::b::rest) pos) (zep G ψ) :=
 zDy (zCy ha hb) λZ J μ Y H b μ' Q A e k=>by
  obtain⟨⟨x,μ1⟩,e1,e⟩:=zi e;refine⟨Z,J,μ,x,μ1,A,e1,λZ1 H1 x1 R1=>?_⟩
  cases x with
  |true=>exact Sb ⟨Z1,J,μ1,b,μ',A.ext x1 R1,e,λZ2 H2 x2 R2=>k Z2 H2 (x1.trans x2) R2⟩
  |false=>
   cases e;exact Sa (k Z1 H1 x1 R1)
def zsn{G ψ:FT}{rest:List yG}(ha:MT X a G)(hb:MW X (.BoolOp .Or (b::rest) pos) ψ):MW X (.BoolOp .Or (a::b::rest) pos) (zuu G ψ) :=
 zDy (zHA ha hb) λZ J μ Y H b μ' Q A e k=>by
  obtain⟨⟨x,μ1⟩,e1,e⟩:=zi e;refine⟨Z,J,μ,x,μ1,A,e1,λZ1 H1 x1 R1=>?_⟩
  cases x with
  |false=>exact Sa ⟨Z1,J,μ1,b,μ',A.ext x1 R1,e,λZ2 H2 x2 R2=>k Z2 H2 (x1.trans x2) R2⟩
  |true=>
   cases e;exact Sb (k Z1 H1 x1 R1)
def zBt{G:FT}(ha:MT X a G):MT X (.UnaryOp .Not a pos) (zPt G) :=
 zfx (zjz ha) λZ J μ Y H b μ' Q A e k=>by
  obtain⟨⟨x,μ1⟩,e1,e⟩:=zi e;cases e;exact⟨Z,J,μ,x,μ1,A,e1,λZ1 H1 x1 R1=>k Z1 H1 x1 R1⟩
structure MAn(X:Cx)(es:List yG)(G:FA):Prop where
 ma:MA X es G
 len:∀J μ ds μ',G J μ=some (ds,μ')->ds.length=es.length
@[simp] def zB:FA:=λ_ μ=>some ([],μ)
@[simp] def ze(G:FE)(ψ:FA):FA:=λJ μ=>(G J μ).bind λp=>(ψ J p.2).bind λq=>some (p.1::q.1,q.2)
def zc:MAn X [] zB:=⟨zHz z0l λZ J μ Y H ds μ' Q A e k=>by
 cases e;exact k Z H [] Ext.refl A.hp .nil,λ_ _ _ _ e=>by cases e;rfl⟩
def zTy:yG->Bool
 |.Starred ..=>false
 |_=>true
def zql{e:yG}{es:List yG}{env:Env}(h:zTy e=true):yu (e::es) env=(false,Yx e env)::yu es env:=by
 cases e<;>first|rfl|cases h
def za{G:FE}{ψ:FA}(ha:ME X e G)(hr:MAn X es ψ)(hs:yu (e::es) X.env=(false,Yx e X.env)::yu es X.env:=by exact zql rfl):MAn X (e::es) (ze G ψ) :=
 ⟨zHz (zbi ha hr.ma hs) λZ J μ Y H ds μ' Q A e k=>by
  obtain⟨⟨x,μ1⟩,e1,e⟩:=zi e;obtain⟨⟨y,μ2⟩,e2,e⟩:=zi e;cases e;refine⟨Z,J,μ,x,μ1,A,e1,λZ1 H1 v x1 R1 r1=>?_⟩;refine⟨Z1,J,μ1,y,μ2,A.ext x1 R1,e2,λZ2 H2 u x2 R2 r2=>?_⟩;exact k Z2 H2 _ (x1.trans x2) R2 (.cons (r1.ext x2) r2),λJ μ ds μ' e=>by
  obtain⟨⟨x,μ1⟩,e1,e⟩:=zi e;obtain⟨⟨y,μ2⟩,e2,e⟩:=zi e;cases e;have:=hr.len _ _ _ _ e2;simp[this]⟩
@[simp] def zii(G:FA):FE:=λJ μ=>(G J μ).bind λp=>some (.tup p.1,p.2)
@[simp] def zgm(G:FA):FE:=λJ μ=>(G J μ).bind λp=>some (.loc p.2.length,p.2++[.lst p.1])
def zJb{x1}{G:FA}(h:MAn X es G)(hn:es.length<=1000:=by decide):ME X (.Tuple es x1 pos) (zii G) :=
 zwg (z6y h.ma) λZ J μ Y H d μ' Q A e k=>by
  obtain⟨⟨x,μ1⟩,e1,e⟩:=zi e;cases e;refine⟨Z,J,μ,x,μ1,A,e1,λZ1 H1 vs x1 R1 r1=>⟨?_,λp hp=>?_⟩⟩
  ·rw[<-r1.length,h.len _ _ _ _ e1];exact Yq (sx hn)
  ·exact k Z1 _ _ (x1.trans (Ext.new hp)) (R1.Ts hp) (.tup zH (r1.ext (Ext.new hp)))
def zxd{G:FA}(h:MAn X es G)(hn:es.length<=1000:=by decide):ME X (.List es pos) (zgm G) :=
 zwg (zlz h.ma) λZ J μ Y H d μ' Q A e k=>by
  obtain⟨⟨x,μ1⟩,e1,e⟩:=zi e;cases e;refine⟨Z,J,μ,x,μ1,A,e1,λZ1 H1 vs x1 R1 r1=>⟨?_,λp hp=>?_⟩⟩
  ·rw[<-r1.length,h.len _ _ _ _ e1];exact Yq (sx hn)
  ·exact k _ _ _ (x1.trans (Ext.push hp)) (R1.push hp ⟨vs,zH,r1.ext (Ext.push hp)⟩) (.loc (zSb R1))
@[simp] def zq(F:FF)(G:FA):FE:=λJ μ=>(G J μ).bind λp=>F p.1 p.2
def zoy{k n:Nat}{f:yg}{fd:yj}{ps:List yF}{F:FF}{x:yF}{p:Xd}{G:FA}(φ:tm X.prog X.w X.K X.mg X.base CX0 k f fd ps (spM X.K n F))(hr:Tk k X.A)(hm:X.mg x=some (.ref f))(hk:W.keepIn X.K (.ref f)=true)(hb:Binds X.K fd ps [])
 (ha:MAn X (e::es) G) (hn:(e::es).length=n:=by rfl) (hg:Gl X x:=by rfl) (hdb:(x==("__debug__":yF))=false:=by decide) (he:yu (e::es) X.env=(false,Yx e X.env)::yu es X.env:=by exact zql rfl) (hpl:(YY pos (yu es X.env)).any (·.1)=false:=by rfl) :
 ME X (.Call (.Name x p) (e::es) [] pos) (zq F G) :=
 zwg (zjy φ hr hg hm hk hb .nil pass0 ha.ma hdb he hpl) λZ J μ Y H d μ' Q A e k=>by
  obtain⟨⟨x,μ1⟩,e1,e⟩:=zi e;refine⟨Z,J,μ,x,μ1,A,e1,λZ1 H1 vs x1 R1 r1=>?_⟩;show spM X.K n F (vs++[]) H1 Q E0;rw[List.append_nil];exact⟨by rw[<-r1.length,ha.len _ _ _ _ e1];exact hn,Z1,x,μ1,d,μ',r1,R1,e,λZ2 H2 v x2 R2 r2=>k Z2 H2 v (x1.trans x2) R2 r2⟩
abbrev GL:=List D->Mem->Option (D×Mem)
def rCM(K:yB)(g:GL):List V->Hp->VK->Prop:=λvs H Q=>∃Z ds μ d μ',tf K Z H ds vs/\tI K Z H μ/\g ds μ=some (d,μ')/\∀Z' H' v,Ext Z H Z' H'->tI K Z' H' μ'->tz K Z' H' d v->Q v H'
def tZ(X:Cx)(f:yb)(g:GL):Prop:=zrm X f (rCM X.K g)
def tZ.of{X:Cx}{f:yb}{g:GL}(h:∀(U:List (yg×xa)) (s:ye) (Y:L2.St) (H:Hp) (xs:List V) (us:List yb) (Q:VK),Inv X U Y H s->Vals xs us->∀(Z:List yg)(ds:List D)(μ:Mem)(d:D)(μ':Mem),tf X.K Z H ds xs->tI X.K Z H μ->g ds μ=some (d,μ')->(∀Z' H' v,Ext Z H Z' H'->tI X.K Z' H' μ'->tz X.K Z' H' d v->Q v H')->yq (yA X.prog X.w) X.A (call f us) (EP X U Y Q) X.xe s):tZ X f g:=by
 intro U s Y H xs us Q I r hh;obtain⟨Z,ds,μ,d,μ',r1,R,e,k⟩:=hh;exact h U s Y H xs us Q I r Z ds μ d μ' r1 R e k
def zdB{g:GL}{G:FA}{Z:List yg}{J:Loc}{μ:Mem}{Y:L2.St}{H:Hp}{d:D}{μ':Mem}{Q:VK}(A:At X.K Z H Y J μ)(e:zq g G J μ=some (d,μ'))
 (k:∀Z' H' v,Ext Z H Z' H'->tI X.K Z' H' μ'->tz X.K Z' H' d v->Q v H'):tCB (rCM X.K g) (tMA X.K G) Y H Q:=by
 obtain⟨⟨x,μ1⟩,e1,e⟩:=zi e;exact⟨Z,J,μ,x,μ1,A,e1,λZ1 H1 vs x1 R1 r1=>⟨Z1,x,μ1,d,μ',r1,R1,e,λZ2 H2 v x2 R2 r2=>k Z2 H2 v (x1.trans x2) R2 r2⟩⟩
def zN{g:GL}{id:String}{x:yF}{p:Xd}{G:FA}(hc:tZ X (.builtin id) g)(hm:X.mg x=none)(hv:yL x=some (.builtin id))(ha:MAn X (e::es) G)(hg:Gl X x:=by rfl)(hn:x≠"__name__":=by decide)(hdb:(x==("__debug__":yF))=false:=by decide)
 (he:yu (e::es) X.env=(false,Yx e X.env)::yu es X.env:=by exact zql rfl) (hpl:(YY pos (yu es X.env)).any (·.1)=false:=by rfl):ME X (.Call (.Name x p) (e::es) [] pos) (zq g G) :=
 zwg (z6q hc hg hm hv ha.ma hn hdb he hpl) λ_ _ _ _ _ _ _ _ A e k=>zdB A e k
def zVc{g:GL}{T:String}{x:yF}{p:Xd}{G:FA}(hc:tZ X (.type T) g)(hm:X.mg x=none)(hv:yL x=some (.type T))(ha:MAn X (e::es) G)(hg:Gl X x:=by rfl)(hn:x≠"__name__":=by decide)(hdb:(x==("__debug__":yF))=false:=by decide)
 (he:yu (e::es) X.env=(false,Yx e X.env)::yu es X.env:=by exact zql rfl) (hpl:(YY pos (yu es X.env)).any (·.1)=false:=by rfl):ME X (.Call (.Name x p) (e::es) [] pos) (zq g G) :=
 zwg (z2i hc hg hm hv ha.ma hn hdb he hpl) λ_ _ _ _ _ _ _ _ A e k=>zdB A e k
variable {K:yB}{Z:List yg}{H:Hp}{μ:Mem}
@[simp] def items(μ:Mem):D->Option (List D)
 |.tup ds=>some ds
 |.fz ds=>some ds
 |.loc n=>match μ[n]? with
  |some (.lst ds)=>some ds
  |_=>none
 |_=>none
def zmh{d:D}{v:V}{ds:List D}(R:tI K Z H μ)(r:tz K Z H d v)(e:items μ d=some ds):∃p vs,v=.ref p/\(SqL K H p vs\/SqT K H p vs)/\tf K Z H ds vs:=by
 unfold items at e
 split at e
 ·cases e;obtain⟨a,vs,e1,e2,q⟩:=r.tW;exact⟨a,vs,e1,.inr (SqT.of e2),q⟩
 ·cases e;obtain⟨a,vs,e1,e2,q⟩:=r.sg;exact⟨a,vs,e1,.inl e2.sq,q⟩
 ·split at e
  ·rename_i h
   cases e;obtain⟨a,e1,e2⟩:=r.tD;obtain⟨vs,e3,q⟩:=R.at_ _ _ _ e2 h;exact⟨a,vs,e1,.inl (SqL.of e3),q⟩
  ·cases e
 ·cases e
@[simp] def gIx:φ2:=λx y μ=>match y with
 |.int i=>(items μ x).bind λds=>(atI ds i).bind λd=>some (d,μ)
 |_=>none
def zXx{K:yB}{Z:List yg}{H:Hp}{ds:List D}{vs:List V}{i:Int}{d:D}(r:tf K Z H ds vs)(e:atI ds i=some d):∃v,atI vs i=some v/\tz K Z H d v:=by
 unfold atI at e ⊢;rw[r.length]at e;obtain⟨j,e1,e2⟩:=zi e;obtain⟨v,e3,q⟩:=r.get e2;exact⟨v,by rw[e1];exact e3,q⟩
def ixM:IxR X (rM X.K gIx):=by
 intro value slice U s Y H x y v u Q I rx ry ⟨Z,dx,dy,μ,d,μ',r1,r2,R,e,k⟩ hs;unfold gIx at e
 split at e
 ·obtain⟨ds,e1,e⟩:=zi e;obtain⟨d',e2,e⟩:=zi e;cases e;obtain⟨p,vs,rfl,hq,rr⟩:=zmh R r1 e1;obtain⟨w,e3,q⟩:=zXx rr e2;rcases hq with hq|hq
  ·exact zPw value slice U s Y H _ y v u Q I rx ry (.inl ⟨p,vs,_,w,rfl,r2.int_inv,hq,e3,k Z H w Ext.refl R q⟩) hs
  ·exact zPw value slice U s Y H _ y v u Q I rx ry (.inr (.inl ⟨p,vs,_,w,rfl,r2.int_inv,hq,e3,k Z H w Ext.refl R q⟩)) hs
 ·cases e
def zw(ha:ME X a G)(hb:ME X b ψ)(hs:zKq b:=by exact λ_ _=>rfl):ME X (.Subscript a b pos) (zy gIx G ψ) :=
 zwg (zbz ixM ha hb hs) λ_ _ _ _ _ _ _ _ A e k=>z1s A e k
@[simp] def z6i:GL:=λds μ=>match ds with
 |[d]=>(items μ d).bind λxs=>some (.int xs.length,μ)
 |_=>none
def zU:tZ X (.builtin "len") z6i:=by
 refine tZ.of λU s Y H xs us Q I r Z ds μ d μ' r1 R e k=>?_;unfold z6i at e
 split at e
 ·obtain⟨ds,e1,e⟩:=zi e;cases e;obtain⟨v,rr,rfl,q1,q2⟩:=r1.cons_inv;have q2:=q2.nil_inv;subst q2;obtain⟨p,vs,rfl,hq,rr⟩:=zmh R q1 e1;exact zNp U s Y H _ us Q I r ⟨p,vs,rfl,hq,k Z H _ Ext.refl R (by rw[rr.length];exact .int)⟩
 ·cases e
@[simp] def zbs:GL:=λds μ=>match ds with
 |[d]=>(items μ d).bind λxs=>some (.loc μ.length,μ++[.lst xs])
 |_=>none
def z4j:tZ X (.type "list") zbs:=by
 refine tZ.of λU s Y H xs us Q I r Z ds μ d μ' r1 R e k=>?_;unfold zbs at e
 split at e
 ·obtain⟨ds,e1,e⟩:=zi e;cases e;obtain⟨v,rr,rfl,q1,q2⟩:=r1.cons_inv;have q2:=q2.nil_inv;subst q2;obtain⟨p,vs,rfl,hq,rr⟩:=zmh R q1 e1;exact zCo U s Y H _ us Q I r ⟨p,vs,rfl,hq,λl hl=>k _ _ _ (Ext.push hl) (R.push hl ⟨vs,zH,rr.ext (Ext.push hl)⟩) (.loc (zSb R))⟩
 ·cases e
@[simp] def zGe:GL:=λds μ=>match ds with
 |[.tup xs]=>some (.tup xs,μ)
 |[d]=>(items μ d).bind λxs=>some (.tup xs,μ)
 |_=>none
def zhc:tZ X (.type "tuple") zGe:=by
 refine tZ.of λU s Y H xs us Q I r Z ds μ d μ' r1 R e k=>?_
 have key:∃x ys,ds=[x]/\items μ x=some ys/\d=.tup ys/\μ'=μ:=by
  unfold zGe at e
  split at e
  ·cases e;exact⟨_,_,rfl,rfl,rfl,rfl⟩
  ·obtain⟨ds,e1,e⟩:=zi e;cases e;exact⟨_,_,rfl,e1,rfl,rfl⟩
  ·cases e
 obtain⟨x,ys,rfl,e1,rfl,rfl⟩:=key;obtain⟨v,rr,rfl,q1,q2⟩:=r1.cons_inv;have q2:=q2.nil_inv;subst q2
 cases x with
 |tup zs=>
  cases e1;obtain⟨a,vs,rfl,e2,q⟩:=q1.tW;exact zBg U s Y H _ us Q I r ⟨a,vs,rfl,.inr ⟨SqT.of e2,k Z H _ Ext.refl R q1⟩⟩
 |fz zs=>
  cases e1;obtain⟨a,vs,rfl,e2,q⟩:=q1.sg;exact zBg U s Y H _ us Q I r ⟨a,vs,rfl,.inl ⟨e2.sq,λl hl=>k Z _ _ (Ext.new hl) (R.Ts hl) (.tup zH (q.ext (Ext.new hl)))⟩⟩
 |loc n=>
  unfold items at e1;dsimp only at e1
  split at e1
  ·rename_i h
   cases e1;obtain⟨a,rfl,e2⟩:=q1.tD;obtain⟨vs,e3,q⟩:=R.at_ _ _ _ e2 h;exact zBg U s Y H _ us Q I r ⟨a,vs,rfl,.inl ⟨SqL.of e3,λl hl=>k Z _ _ (Ext.new hl) (R.Ts hl) (.tup zH (q.ext (Ext.new hl)))⟩⟩
  ·cases e1
 |_=>cases e1
end
def z1o{prog:yy}{w:yJ}{A:yM}{R:Result->ye->Prop}{s:ye}{elt target iter:yG}{ifs:List yG}{scope:xY}{pos:Xd}{it acc:yb}{env:Env}(I:Nat->ye->Prop)
 (turn:∀n s,I n s->yq (yA prog w) A (pyNext it) (λr s₁=>match r with
  |none=>R (.ok .next) s₁
  |some v=>yq (yA prog w) A (letOwnedTupleGo target it v) (λ_ s₁'=>yq (yA prog w) A (assign target env v) (λ_ s₂=>
   yq (yA prog w) A (forIn ifs true λc r=>if r=true then do let ok <-isTrue c env (Yx c env);pure (YN ok) else pure (YN r)) (λok s₃=>
    if ok=true then yq (yA prog w) A (Yx elt env) (λx s₄=>
     yq (yA prog w) A (call (.builtin "list.append") [acc,x]) (λ_ s₅=>∃m,m<n/\I m s₅) (λ_ _=>False) s₄) (λ_ _=>False) s₃
    else ∃m,m<n/\I m s₃) (λ_ _=>False) s₂) (λ_ _=>False) s₁') (λ_ _=>False) s₁) (λ_ _=>False) s)
 (n:Nat) (h:I n s) :
 codeAny (yA prog w) A (.compLoop (.ListComp elt [⟨target,iter,ifs,0⟩] scope pos) 0 it acc env) R s:=by
 refine codeAny_loop rfl I (λn s hI=>?_) n h;show yq _ A ((compTurn (.ListComp elt [⟨target,iter,ifs,0⟩] scope pos) 0 it acc env).onRaise (λx=>do noteFrame x env;theTreesLotGoes x)) _ _ s;refine wpAny_noted ?_;rw[compTurn_list];refine ya (wpAny_standAt (ya (YT (turn n s hI) (λr s₁ h₁=>?_) λ_ _ h'=>h'.elim)))
 cases r with
 |none=>exact yi h₁
 |some v=>
  refine ya (YT h₁ (λ_ s₁' h₁=>?_) λ_ _ h'=>h'.elim);refine ya (YT h₁ (λ_ s₂ h₂=>ya (YT h₂ (λok s₃ h₃=>?_) λ_ _ h'=>h'.elim)) λ_ _ h'=>h'.elim)
  cases ok with
  |false=>exact yi ⟨rfl,h₃⟩
  |true=>
   exact ya (ya (YT h₃ (λx s₄ h₄=>ya (YT h₄ (λ_ s₅ h₅=>yi (yi ⟨rfl,h₅⟩)) λ_ _ h'=>h'.elim)) λ_ _ h'=>h'.elim))
def zYb(cells:List (yF×yg)):List (yF×YZ)->List (yF×yg)->List (yF×yg)
 |[],acc=>acc
 |(n,k)::r,acc=>zYb cells r (if k == .free then(match cells.lookup n with|some c=>(n,c)::acc|none=>acc) else acc)
def zbk{env:Env}:∀(names:List (yF×YZ)) (acc:List (yF×yg)),(∀x∈names,x.2=.free->∃c,env.cells.lookup x.1=some c) ->
 (forIn names acc λ(x:yF×YZ) (cs:List (yF×yg))=>(match x with|(name,kind)=>if kind == .free then do let c <-cellOf env name;pure (YN ((name,c)::cs)) else pure (YN cs):Sem (ForInStep (List (yF×yg)))))=(pure (zYb env.cells names acc):Sem (List (yF×yg)))
 |[],acc,_=>rfl
 |(n,k)::r,acc,h=>by
  have ih:=λacc'=>zbk r acc' λx hx=>h x (mem_cons_of_mem _ hx);rw[List.forIn_cons]
  by_cases hk:k=.free
  ·subst hk;obtain⟨c,hc⟩:=h (n,.free) mem_cons_self rfl;have e:cellOf env n=pure c:=by unfold cellOf;rw[hc]
   have:zYb env.cells ((n,yt)::r) acc=zYb env.cells r ((n,c)::acc):=by
    show zYb env.cells r (if(yt==yt)=true then(match env.cells.lookup n with|some c=>(n,c)::acc|none=>acc) else acc)=_;rw[hc];rfl
   rw[this,<-ih];show((do let c <-cellOf env n;pure (YN ((n,c)::acc))) >>= _:Sem _)=_;rw[e];rfl
  ·have hb:(k==yt)=false:=by simpa using hk
   have:zYb env.cells ((n,k)::r) acc=zYb env.cells r acc:=by
    show zYb env.cells r (if(k==yt)=true then _ else acc)=_;rw[hb];rfl
   rw[this,<-ih];simp only[hb,xl,if_false];rfl
def zfn{scope:xY}{env:Env}(h:∀x∈scope.names,x.2=.free->∃c,env.cells.lookup x.1=some c):closureFor scope env=pure (zYb env.cells scope.names []):=by
 have e:=zbk (env:=env) scope.names [] h;unfold closureFor;show(forIn scope.names [] _ >>= λr=>pure r:Sem _)=_;rw[show(forIn scope.names ([]:List (yF×yg)) λ(x:yF×YZ) (r:List (yF×yg))=>(match x with|(name,kind)=>if kind == .free then do let c <-cellOf env name;pure (YN ((name,c)::r)) else pure (YN r):Sem (ForInStep (List (yF×yg)))))=pure (zYb env.cells scope.names []) from e];rfl
def zZn{cells:List (yF×yg)}{x:yF}{c:yg}:∀(names:List (yF×YZ)) (acc:List (yF×yg)),(zYb cells names acc).lookup x=some c->acc.lookup x=some c\/cells.lookup x=some c
 |[],_,h =>.inl h
 |(n,k)::r,acc,h=>by
  rcases zZn r _ h with q|q
  ·by_cases hk:(k==yt)=true
   ·rw[if_pos hk]at q
    cases e:cells.lookup n with
    |none=>rw[e]at q;exact .inl q
    |some a=>
     rw[e]at q;simp only[lookup_cons]at q
     by_cases hx:(x==n)=true
     ·rw[hx]at q;have hx':x=n:=by simpa using hx
      subst hx';cases q;exact .inr e
     ·have hx':(x==n)=false:=by simpa using hx
      rw[hx']at q;exact .inl q
   ·rw[if_neg hk]at q;exact .inl q
  ·exact .inr q
def zZs{cells:List (yF×yg)}{x:yF}:∀(names:List (yF×YZ)) (acc:List (yF×yg)),(acc.lookup x).isSome=true->((zYb cells names acc).lookup x).isSome=true
 |[],_,h=>h
 |(n,k)::r,acc,h=>by
  refine zZs r _ ?_
  by_cases hk:(k==yt)=true
  ·rw[if_pos hk]
   cases e:cells.lookup n with
   |none=>exact h
   |some a=>
    simp only[lookup_cons]
    by_cases hx:(x==n)=true
    ·rw[hx];rfl
    ·have hx':(x==n)=false:=by simpa using hx
     rw[hx'];exact h
  ·rw[if_neg hk];exact h
def zQw{cells:List (yF×yg)}{x:yF}{c:yg}(hc:cells.lookup x=some c):∀(names:List (yF×YZ)) (acc:List (yF×yg)),(x,yt)∈names->((zYb cells names acc).lookup x).isSome=true
 |[],_,h=>by cases h
 |(n,k)::r,acc,h=>by
  rcases List.mem_cons.mp h with h|h
  ·cases h;refine zZs r _ ?_;rw[if_pos (by rfl),hc];simp[lookup_cons]
  ·exact zQw hc r _ h
def cxC(X:Cx)(own:List yF)(fr:List Nat)(scope:xY)(cl:List (yF×yg))(C:yg)(s₀:ye)(H₀:Hp)(fp:List yg):Cx :=
 {X with N:=own++fr.map λi=>X.N.getD i Str.empty,s₀:=s₀,H₀:=H₀,env:=compEnvC scope cl C X.env,outer:=X.stack,ex:=fp,fn:=λx=>scope.names.lookup x==some .cell,xe:=λ_ _=>False }
def σC(n:Nat)(fr:List Nat)(Y:L2.St):L2.St:=yo n none++fr.map λi=>(Y[i]?).getD none
def zcy(Y Y':L2.St):Prop:=Y'.length=Y.length/\∀(i:Nat) v,Y[i]?=some (some v)->Y'[i]?=some (some v)
def PF(X:Cx)(ifs:List yG)(t:TT):Prop:=∀(U:List (yg×xa)) (s:ye) (Y:L2.St) (H:Hp) (Q:Bool->Hp->Prop),Inv X U Y H s->t Y H Q ->
 yq (yA X.prog X.w) X.A (forIn ifs true λc r=>if r=true then do let ok <-isTrue c X.env (Yx c X.env);pure (YN ok) else pure (YN r)) (TP X U Y Q) X.xe s
def ztz{X:Cx}:PF X [] (λY H Q=>Q true H):=λU s Y H Q I h=>wpAny_tests_nil ⟨H,I,h⟩
def z2y{X:Cx}{c:yG}{t:TT}(h:PT X c t):PF X [c] t:=λU s Y H Q I hw=>wpAny_tests_one (h U s Y H Q I hw)
def tLC(n:Nat)(fr:List Nat)(wi:TI)(g:TG)(tc:TT)(te:TE):TE:=λY H Q=>wi Y H λδ H1=>∃W:Nat->Nat->List V->Hp->Prop,(∃m,W 0 m [] H1)/\∀i m ys H,W i m ys H ->
 (δ.stop i H/\∀p,H p=none->Q (.ref p) (upd H p (.lst ys))) \/
 (δ.go i H/\ys.length<yI/\∀x H',δ.yld i H x H'->g x (σC n fr Y) H' λY2 H2=>zcy (σC n fr Y) Y2/\tc Y2 H2 λb H3=>
  if b=true then te Y2 H3 λy H4=>∃m',m'<m/\W (i+1) m' (ys++[y]) H4 else ∃m',m'<m/\W (i+1) m' ys H3)
section
variable {X:Cx}{own:List yF}{fr:List Nat}{scope:xY}{U:List (yg×xa)}{Y:L2.St}{H:Hp}{s:ye}
def zGf{env:Env}{x:yF}{k:YZ}:∀{names:List (yF×YZ)},(names.map λ(n,k)=>if(k==yt&&env.scope.kind == .function&&env.kindOf n==some .cell) then(n,yK) else(n,k)).lookup x=some k ->
 (k=.cell\/k=.free)->(x,yt)∈names\/(x,yK)∈names
 |[],h,_=>by simp at h
 |(n,k')::r,h,hk=>by
  rw[map_cons]at h
  by_cases hx:x=n
  ·subst hx
   by_cases hb:(k'==yt&&env.scope.kind == .function&&env.kindOf x==some .cell)=true
   ·have:k'=.free:=by
     simp only[yz,beq_iff_eq]at hb;exact hb.1.1
    subst this;exact .inl mem_cons_self
   ·have h2:((x,k')::r.map λ(n,k)=>if(k==yt&&env.scope.kind == .function&&env.kindOf n==some .cell) then(n,yK) else(n,k)).lookup x=some k:=by
     have e:(if(k'==yt&&env.scope.kind == .function&&env.kindOf x==some .cell)=true then(x,yK) else(x,k'))=(x,k'):=if_neg hb;rw[<-e];exact h
    simp only[lookup_cons,beq_self_eq_true]at h2;cases h2;rcases hk with rfl|rfl
    ·exact .inr mem_cons_self
    ·exact .inl mem_cons_self
  ·have hx':(x==n)=false:=by simpa using hx
   have h2:(r.map λ(n,k)=>if(k==yt&&env.scope.kind == .function&&env.kindOf n==some .cell) then(n,yK) else(n,k)).lookup x=some k:=by
    by_cases hb:(k'==yt&&env.scope.kind == .function&&env.kindOf n==some .cell)=true
    ·have e:(if(k'==yt&&env.scope.kind == .function&&env.kindOf n==some .cell)=true then(n,yK) else(n,k'))=(n,yK):=if_pos hb;have h3:((n,yK)::r.map λ(n,k)=>if(k==yt&&env.scope.kind == .function&&env.kindOf n==some .cell) then(n,yK) else(n,k)).lookup x=some k:=by rw[<-e];exact h
     simpa only[lookup_cons,hx'] using h3
    ·have e:(if(k'==yt&&env.scope.kind == .function&&env.kindOf n==some .cell)=true then(n,yK) else(n,k'))=(n,k'):=if_neg hb;have h3:((n,k')::r.map λ(n,k)=>if(k==yt&&env.scope.kind == .function&&env.kindOf n==some .cell) then(n,yK) else(n,k)).lookup x=some k:=by rw[<-e];exact h
     simpa only[lookup_cons,hx'] using h3
   rcases zGf h2 hk with q|q
   ·exact .inl (mem_cons_of_mem _ q)
   ·exact .inr (mem_cons_of_mem _ q)
def zqk{env:Env}{x:yF}:∀{names:List (yF×YZ)},names.lookup x=some .free ->
 (names.map λ(n,k)=>if(k==yt&&env.scope.kind == .function&&env.kindOf n==some .cell) then(n,yK) else(n,k)).lookup x=some .cell \/
 (names.map λ(n,k)=>if(k==yt&&env.scope.kind == .function&&env.kindOf n==some .cell) then(n,yK) else(n,k)).lookup x=some .free
 |[],h=>by simp at h
 |(n,k')::r,h=>by
  rw[map_cons]
  by_cases hx:x=n
  ·subst hx;simp only[lookup_cons,beq_self_eq_true]at h;cases h
   by_cases hb:(yt==yt&&env.scope.kind == .function&&env.kindOf x==some .cell)=true
   ·have e:(if(yt==yt&&env.scope.kind == .function&&env.kindOf x==some .cell)=true then(x,yK) else(x,yt))=(x,yK):=if_pos hb
    left
    show List.lookup x ((if(yt==yt&&env.scope.kind == .function&&env.kindOf x==some .cell)=true then(x,yK) else(x,yt))::_)=_;rw[e];simp[lookup_cons]
   ·have e:(if(yt==yt&&env.scope.kind == .function&&env.kindOf x==some .cell)=true then(x,yK) else(x,yt))=(x,yt):=if_neg hb
    right
    show List.lookup x ((if(yt==yt&&env.scope.kind == .function&&env.kindOf x==some .cell)=true then(x,yK) else(x,yt))::_)=_;rw[e];simp[lookup_cons]
  ·have hx':(x==n)=false:=by simpa using hx
   simp only[lookup_cons,hx']at h;have ih:=zqk (env:=env) h
   have step:∀k,(r.map λ(n,k)=>if(k==yt&&env.scope.kind == .function&&env.kindOf n==some .cell) then(n,yK) else(n,k)).lookup x=some k ->
    List.lookup x ((if(k'==yt&&env.scope.kind == .function&&env.kindOf n==some .cell)=true then(n,yK) else(n,k'))::(r.map λ(n,k)=>if(k==yt&&env.scope.kind == .function&&env.kindOf n==some .cell) then(n,yK) else(n,k)))=some k:=λk hk=>by
     by_cases hb:(k'==yt&&env.scope.kind == .function&&env.kindOf n==some .cell)=true
     ·rw[if_pos hb];simpa only[lookup_cons,hx'] using hk
     ·rw[if_neg hb];simpa only[lookup_cons,hx'] using hk
   rcases ih with ih|ih
   ·exact .inl (step _ ih)
   ·exact .inr (step _ ih)
def zvq{b:yg}(I:Inv X U Y H s)(h1:b≠X.env.locals)(h2:b∉X.fs):b∉frs X.stack:=λz=>
 (List.mem_cons.mp (I.sD b z)).elim h1 h2
def σC_get{n:Nat}{i:Nat}{v:V}(h:(σC n fr Y)[i]?=some (some v)):n<=i/\∃j,fr[i-n]?=some j/\Y[j]?=some (some v):=by
 unfold σC at h
 by_cases hi:i<n
 ·rw[yn (by simpa using hi),Yi]at h
  split at h<;>cases h
 ·have hi:n<=i:=Nat.le_of_not_lt hi;rw[yH (by simpa using hi),xU,yh]at h
  cases e:fr[i-n]? with
  |none=>rw[e]at h;cases h
  |some j=>
   rw[e]at h;refine⟨hi,j,rfl,?_⟩;have h':(Y[j]?).getD none=some v:=yS h
   cases e2:Y[j]? with
   |none=>rw[e2]at h';cases h'
   |some o=>rw[e2]at h';exact congrArg some h'
def zEm:∀(names:List (yF×YZ)) (n:Nat) (acc:List (yF×yg)),Ym n names acc=Ym n names []++acc
 |[],n,acc=>rfl
 |(x,k)::r,n,acc=>by
  unfold Ym
  split
  ·rw[zEm r (n+1) ((x,n)::acc),zEm r (n+1) [(x,n)]];simp
  ·exact zEm r n acc
def zAm:∀(names:List (yF×YZ)) (n:Nat) (x:yF) (c:yg),(x,c)∈Ym n names []->n<=c/\(x,yK)∈names
 |[],n,x,c,h=>by cases h
 |(y,k)::r,n,x,c,h=>by
  unfold Ym at h
  split at h
  ·rename_i hk
   rw[zEm]at h;rcases List.mem_append.mp h with h|h
   ·obtain⟨h1,h2⟩:=zAm r (n+1) x c h;exact⟨Nat.le_of_succ_le h1,mem_cons_of_mem _ h2⟩
   ·have e:(x,c)=(y,n):=by simpa using h
    cases e;rw[beq_iff_eq.mp hk];exact⟨yk _,mem_cons_self⟩
  ·obtain⟨h1,h2⟩:=zAm r n x c h;exact⟨h1,mem_cons_of_mem _ h2⟩
def z8p{names:List (yF×YZ)}{n:Nat}{acc:List (yF×yg)}{x:yF}{c:yg}(h:(Ym n names acc).lookup x=some c):(Ym n names []).lookup x=some c\/((Ym n names []).lookup x=none/\acc.lookup x=some c):=by
 rw[zEm,List.lookup_append]at h
 cases e:(Ym n names []).lookup x with
 |none=>rw[e]at h;exact .inr ⟨rfl,h⟩
 |some d=>rw[e]at h;exact .inl h
def zmx{names:List (yF×YZ)}{n:Nat}{x:yF}(hn:∀y∈names,names.lookup y.1=some y.2)(h:(x,yt)∈names):(Ym n names []).lookup x=none:=by
 cases e:(Ym n names []).lookup x with
 |none=>rfl
 |some c=>
  have h1:=hn _ (zAm _ _ _ _ (yV e)).2;have h2:=hn _ h;rw[h1]at h2;cases h2
def zOv{fp:List yg}{D C:yg}{lo:Nat}{h1:Ye}{t:Nat}{mC:yF->Option yb}{oD:xa}(I:Inv X U Y H s)(hf:∀b∈fp,zUq X U H b)(hfl:∀b∈fp,b<s.heap.objs.size)
 (hk:scope.kind=.function) (hnm:∀y∈scope.names,scope.names.lookup y.1=some y.2) (hfree:∀x∈scope.names,x.2=.free->(X.env.kindOf x.1=some .cell\/X.env.kindOf x.1=some .free))
 (hfr:∀i∈fr,∃x,X.N[i]?=some x/\scope.names.lookup x=some .free) (hlo:C<lo) (hOC:CellsOk h1 lo (Ym lo scope.names []))
 (old:∀b o,s.heap.get? b=some o->h1.get? b=some o) (hD:s.heap.objs.size<=D) (hC:s.heap.objs.size<=C) (hDC:D≠C) (hDlo:D<lo) (eD:h1.get? D=some oD) (dD:∀v,oD.data≠.cell v) (nC:h1.Ns C mC) :
 Inv (cxC X own fr scope (Ym lo scope.names (zYb X.env.cells scope.names [])) C s H fp) (U++[(D,oD)]) (σC own.length fr Y) H {s with heap:=h1,toks:=t }:=by
 have cl1:∀x c,(zYb X.env.cells scope.names []).lookup x=some c->X.env.cells.lookup x=some c:=λx c e=>by
  rcases zZn _ _ e with q|q
  ·cases q
  ·exact q
 have clH:∀x,(x,yt)∈scope.names->∃c,(Ym lo scope.names (zYb X.env.cells scope.names [])).lookup x=some c/\X.env.cells.lookup x=some c:=λx hx=>by
  obtain⟨c,hc⟩:=I.ok.has x (hfree _ hx rfl);obtain⟨c',hc'⟩:=Option.isSome_iff_exists.mp (zQw hc scope.names [] hx);exact⟨c',by rw[zEm,List.lookup_append,zmx hnm hx];exact hc',cl1 _ _ hc'⟩
 have two:∀x c,(Ym lo scope.names (zYb X.env.cells scope.names [])).lookup x=some c->((Ym lo scope.names []).lookup x=some c/\lo<=c)\/X.env.cells.lookup x=some c:=λx c e=>by
  rcases z8p e with q|⟨_,q⟩
  ·exact .inl ⟨q,(zAm _ _ _ _ (yV q)).1⟩
  ·exact .inr (cl1 _ _ q)
 have oldc:∀x c,X.env.cells.lookup x=some c->c<s.heap.objs.size:=λx c e=>by
  obtain⟨v,o,ho,_⟩:=I.cell x c e;exact ym ho
 have hslo:s.heap.objs.size<=lo:=yD hC (Yq hlo)
 refine⟨⟨I.ok.mod,hk,I.ok.glob,I.ok.blt,hC,λx y c e1 e2=>?inj,λx hx=>?_,λx c hx e=>?cab,I.ok.hd,I.ok.frames,.inl rfl,λb hb=>⟨?_,λx c e=>?exf⟩,I.bs,yD I.ok.bsz I.sz,λb o e hb=>?_,λb hb=>?_,I.stack,I.sU⟩,
  rfl,I.bare,Un.kept old,⟨mC,nC,λi x v h1 h2 h3=>?_⟩,λx c e=>?cell,I.hok.fresh hC,λx c e=>?freeC,λp hp=>?_,I.hok.kept old,?_⟩
 case inj=>
  rcases two x c e1 with ⟨q1,l1⟩|q1
  ·rcases two y c e2 with ⟨q2,_⟩|q2
   ·exact name_of_addr hOC.apart (yV q1) (yV q2)
   ·exact absurd (yC (oldc y c q2) (yD hslo l1)) (Yj _)
  ·rcases two y c e2 with ⟨_,l2⟩|q2
   ·exact absurd (yC (oldc x c q1) (yD hslo l2)) (Yj _)
   ·exact I.ok.inj x y c q1 q2
 case cab=>
  have hx:(scope.names.lookup x==some .cell)=true:=hx;obtain⟨d,hd⟩:=Option.isSome_iff_exists.mp (W.cellsFrom_some scope.names lo [] (.inl (beq_iff_eq.mp hx)));rcases z8p (show(Ym lo scope.names (zYb X.env.cells scope.names [])).lookup x=some c from e) with q|⟨q,_⟩
  ·exact yD hslo (zAm _ _ _ _ (yV q)).1
  ·rw[q]at hd;cases hd
 case exf=>
  rcases two x c e with ⟨_,l⟩|q
  ·exact Yg (yC (hfl b hb) (yD hslo l))
  ·exact(hf b hb).2.2.2.2.1 x c q
 case cell=>
  rcases two x c e with ⟨q,_⟩|q
  ·exact⟨none,(hOC.empty x c (yV q)).1⟩
  ·obtain⟨v,o,ho,hd⟩:=I.cell x c q;exact⟨v,o,old _ _ ho,hd⟩
 case freeC=>
  rcases two x c e with ⟨_,l⟩|q
  ·exact I.hok.fresh (yD hslo l)
  ·exact I.freeC x c q
 ·have hx':(relabel scope X.env).names.lookup x=some .cell\/(relabel scope X.env).names.lookup x=some .free:=hx
  have hm:(x,yt)∈scope.names\/(x,yK)∈scope.names:=by
   rcases hx' with h|h
   ·exact zGf (env:=X.env) h (.inl rfl)
   ·exact zGf (env:=X.env) h (.inr rfl)
  rcases hm with hm|hm
  ·obtain⟨c,e,_⟩:=clH x hm;exact⟨c,e⟩
  ·exact Option.isSome_iff_exists.mp (W.cellsFrom_some scope.names lo _ (.inl (hnm _ hm)))
 ·exact yw (yC (hfl b hb) hC)
 ·rcases(hf b hb).2.2.2.1 with z|z
  ·exact I.ok.Sd b o e z
  ·exact absurd (yC (ym e) (yD I.ok.bsz z)) (Yj _)
 ·exact zvq I (hf b hb).2.1 (hf b hb).2.2.1
 ·obtain⟨hi,j,e1,e2⟩:=σC_get h2;have hjm:j∈fr:=mem_of_getElem? e1;obtain⟨y,ey,ly⟩:=hfr j hjm
  have hxy:x=y:=by
   have h1':(own++fr.map λi=>X.N.getD i Str.empty)[i]?=some x:=h1;rw[yH hi,yh,e1]at h1';have h1'':X.N.getD j Str.empty=x:=yS h1';rw[getD_eq_getElem?_getD,ey]at h1'';exact h1''.symm
  subst hxy;have hm:(x,yt)∈scope.names:=yV ly
  have hv:Vis X.env.scope x:=by
   rcases hfree _ hm rfl with q|q
   ·exact .inr (.inl q)
   ·exact .inr (.inr q)
  obtain⟨m,hn,hl⟩:=id I.loc;obtain⟨u,ru,q⟩:=hl j x v ey e2 hv;obtain⟨c,c1,c2⟩:=clH x hm;refine⟨u,ru,.inr ⟨zqk (env:=X.env) ly,c,c1,?_⟩⟩;rcases q with ⟨k,_⟩|⟨k,c',e',z⟩
  ·rcases hfree _ hm rfl with q|q
   ·rw[show X.env.kindOf (x,yt).1=X.env.kindOf x from rfl,k]at q;cases q
   ·rw[show X.env.kindOf (x,yt).1=X.env.kindOf x from rfl,k]at q;cases q
  ·rw[c2]at e';cases e';obtain⟨o,ho,hd⟩:=z;exact⟨o,old _ _ ho,hd⟩
 ·have hp':p∈X.pn++(U++[(D,oD)]):=hp;rw[<-append_assoc]at hp';rcases List.mem_append.mp hp' with hp'|hp'
  ·obtain⟨a1,a2,a3,a4,a5⟩:=I.pin p hp';exact⟨old _ _ a1,a2,yw (yC (ym a1) hC),zvq I a3 a4,a5⟩
  ·have:p=(D,oD):=by simpa using hp'
   subst this;refine⟨eD,I.hok.fresh hD,hDC,λz=>?_,dD⟩;rcases List.mem_cons.mp (I.sD _ z) with z|z
   ·exact absurd (yC I.lt (z▸hD)) (Yj _)
   ·exact I.nofs hD z
 ·show(σC own.length fr Y).length=(own++fr.map λi=>X.N.getD i Str.empty).length;unfold σC;simp
end
def HOk.track{P:yy}{w:yJ}{H:Hp}{h:Ye}{a:yg}{o:HO}(x:HOk P w H h)(hn:H a=none)(new:tQ P w (upd H a o) h a o):HOk P w (upd H a o) h:=λb u e=>by
 by_cases hb:b=a
 ·subst hb;rw[zH]at e;cases e;exact new
 ·rw[zeb hb]at e;exact(x b u e).stay (λc v _ q=>q) (λc q=>by rw[zeb (zV q hn)];exact q) λc xs q=>by rw[zeb (zV q hn)];exact q
def newEnvC{M:Model}{A:yM}{E:yb->ye->Prop}{s:ye}{scope:xY}{globals:yg}{cl:List (yF×yg)}{qual:yF}{env:Env}{Q:Env->ye->Prop}
 (hQ:Q (newEnv scope s.heap.objs.size globals (Ym (s.heap.objs.size+1) scope.names cl) qual none .none (some env) builtinsNs) {s with heap:=pushCells (s.heap.push {cls:=.type "dict",data:=.dict #[]}) scope.names }) :
 yq M A (newFunctionEnv scope globals cl [] qual none .none (some env)) Q E s:=by
 simp only[newFunctionEnv,Option.isSome_some,if_true];refine ya (wpAny_alloc ?_);refine ya (wpAny_layCells _ (λname kind cells=>by cases hkc:kind==yK<;>simp[hkc]) _ _ _ _ ?_);rw[show({s with heap:=s.heap.push {cls:=.type "dict",data:=.dict #[]}}:ye).heap.objs.size=s.heap.objs.size+1 from Yw ..];refine ya ?_;rw[List.forIn_nil];exact yi (yi hQ)
section
variable {X:Cx}{own:List yF}{fr:List Nat}{scope:xY}
structure sR(X:Cx)(U:List (yg×xa))(Y:L2.St)(H:Hp)(ys:List V)(D C:yg)(s:ye):Prop where
 inv:Inv X U Y (upd H D (.lst ys)) s
 free:H D=none
 freeC:upd H D (.lst ys) C=none
 own:∃m,s.heap.Ns C m
 notL:C≠X.env.locals
 young:X.s₀.heap.objs.size<=C
 sF:∀x c,X.env.cells.lookup x=some c->c≠C
 Si:∀p∈X.pn++U,p.1≠C
def zcu{elt tg iter:yG}{ifs:List yG}{pos:Xd}{g:TG}{tc:TT}{te:TE}{U:List (yg×xa)}{Y:L2.St}{s2:ye}{Qn:List V->Hp->Prop}{itv:yb}{RR:yb->yg->Result->ye->Prop}(own:List yF)(fr:List Nat)(hc:X.calm=true)
 (hg:∀cl C s₀ H₀ fp,PG (cxC X own fr scope cl C s₀ H₀ fp) tg g) (hq:∀cl C s₀ H₀ fp,PF (cxC X own fr scope cl C s₀ H₀ fp) ifs tc) (he:∀cl C s₀ H₀ fp,PE (cxC X own fr scope cl C s₀ H₀ fp) elt te)
 (hk:scope.kind=.function) (hnm:∀y∈scope.names,scope.names.lookup y.1=some y.2)
 (hfree:∀x∈scope.names,x.2=.free->(X.env.kindOf x.1=some .cell\/X.env.kindOf x.1=some .free)) (hfr:∀i∈fr,∃x,X.N[i]?=some x/\scope.names.lookup x=some .free)
 (h2:PIE X U Y tg (λδ H1=>∃W:Nat->Nat->List V->Hp->Prop,(∃m,W 0 m [] H1)/\∀i m ys H,W i m ys H ->
  (δ.stop i H/\Qn ys H)\/(δ.go i H/\ys.length<yI/\∀x H',δ.yld i H x H'->g x (σC own.length fr Y) H' λY2 H2=>zcy (σC own.length fr Y) Y2/\tc Y2 H2 λb H3=>
   if b=true then te Y2 H3 λy H4=>∃m',m'<m/\W (i+1) m' (ys++[y]) H4 else ∃m',m'<m/\W (i+1) m' ys H3)) itv s2)
 (fin:∀ys H D C s4,Qn ys H->sR X U Y H ys D C s4->RR (.ref D) C (.ok .next) s4) :
 yq (yA X.prog X.w) X.A (newList []) (λacc s₃=>yq (yA X.prog X.w) X.A (newFunctionEnv scope X.env.globals (zYb X.env.cells scope.names []) [] X.env.qual none .none (some X.env)) (λcenv s₄=>
  codeAny (yA X.prog X.w) X.A (.compStart (.ListComp elt [⟨tg,iter,ifs,0⟩] scope pos) 0 itv acc {cenv with scope:=relabel scope X.env }) (RR acc cenv.locals) s₄) X.xe s₃) X.xe s2:=by
 obtain⟨it,fp,tn,δ,H2,e,I2,T,st2,f2,W,⟨m0,w0⟩,turn⟩:=h2;subst e
 have hfl:∀b∈fp,b<s2.heap.objs.size:=λb hb=>by
  obtain⟨o,e,_⟩:=T.obj _ _ st2 b hb;exact ym e
 refine yT (newEnvC ?_);dsimp only;generalize hH2:s2.heap.push {cls:=.type "list",dict:=none,data:=.seq ([]:List yb).toArray } = φ2;have hC:φ2.objs.size=s2.heap.objs.size+1:=by rw[<-hH2,Yw]
 have hDC:s2.heap.objs.size≠φ2.objs.size:=by rw[hC];exact yw (Yd _)
 have hCle:s2.heap.objs.size<=φ2.objs.size:=by rw[hC];exact xN _
 have below:∀b,b<s2.heap.objs.size->b≠φ2.objs.size/\b≠s2.heap.objs.size:=λb hb=>⟨by rw[hC];exact yw (yY hb),yw hb⟩
 have hns₁:(pushCells (φ2.push {cls:=.type "dict",data:=.dict #[]}) scope.names).Ns φ2.objs.size (λ_=>none):=(Heap.Ns.new φ2 (.type "dict")).keeps λb o e=>pushCells_keeps _ _ _ _ e
 have hok₁:CellsOk (pushCells (φ2.push {cls:=.type "dict",data:=.dict #[]}) scope.names) (φ2.objs.size+1) (Ym (φ2.objs.size+1) scope.names []):=by
  have:=cellsFrom_ok scope.names (φ2.push {cls:=.type "dict",data:=.dict #[]}) (φ2.objs.size+1) [] ⟨λ_ _ hm=>(nomatch hm),List.Pairwise.nil⟩ (by rw[Yw];exact yk _);rw[Yw]at this;exact this
 have hk₁:∀b o,φ2.get? b=some o->(pushCells (φ2.push {cls:=.type "dict",data:=.dict #[]}) scope.names).get? b=some o:=λb o e=>pushCells_keeps _ _ _ _ (yf _ e);generalize pushCells (φ2.push {cls:=.type "dict",data:=.dict #[]}) scope.names=h₁ at hns₁ hok₁ hk₁ ⊢;have old:∀b o,s2.heap.get? b=some o->h₁.get? b=some o:=λb o e=>hk₁ b o (hH2▸yf _ e);have hacc:h₁.get? s2.heap.objs.size=some {cls:=.type "list",data:=.seq ([]:List yb).toArray 0 }:=hk₁ _ _ (hH2▸yp _ rfl);generalize hXC:cxC X own fr scope (Ym (φ2.objs.size+1) scope.names (zYb X.env.cells scope.names [])) φ2.objs.size s2 H2 fp=XC;have eenv:compEnvC scope (Ym (φ2.objs.size+1) scope.names (zYb X.env.cells scope.names [])) φ2.objs.size X.env=XC.env:=by rw[<-hXC];rfl
 have eprog:XC.prog=X.prog:=by rw[<-hXC];rfl
 have ew:XC.w=X.w:=by rw[<-hXC];rfl
 have eA:XC.A=X.A:=by rw[<-hXC];rfl
 have eK:XC.K=X.K:=by rw[<-hXC];rfl
 have ecalm:XC.calm=true:=by rw[<-hXC];exact hc
 have exe:XC.xe=λ_ _=>False:=by rw[<-hXC];rfl
 have eloc:XC.env.locals=φ2.objs.size:=by rw[<-hXC];rfl
 have eex:XC.ex=fp:=by rw[<-hXC];rfl
 have efs:XC.fs=frs X.stack:=by rw[<-hXC];rfl
 have es0:XC.s₀=s2:=by rw[<-hXC];rfl
 have eH0:XC.H₀=H2:=by rw[<-hXC];rfl
 have epn:XC.pn=X.pn:=by rw[<-hXC];rfl
 have ecells:∀x c,XC.env.cells.lookup x=some c->X.env.cells.lookup x=some c\/φ2.objs.size<c:=λx c e=>by
  rw[<-hXC]at e;rcases z8p (show(Ym (φ2.objs.size+1) scope.names (zYb X.env.cells scope.names [])).lookup x=some c from e) with q|⟨_,q⟩
  ·exact .inr (zAm _ _ _ _ (yV q)).1
  ·rcases zZn _ _ q with q|q
   ·cases q
   ·exact .inl q
 have hg':PG XC tg g:=hXC▸hg _ _ _ _ _;have hq':PF XC ifs tc:=hXC▸hq _ _ _ _ _;have he':PE XC elt te:=hXC▸he _ _ _ _ _
 have fpok:∀{H':Hp} {pl:List (yg×xa)},(∀b∈fp,H' b=none)->(∀p∈pl,p.1=s2.heap.objs.size)->∀b∈fp,zUq XC (U++pl) H' b:=λ{H' pl} hn hpl b hb=>by
  obtain⟨_,f2,f3,f4,f5,f6⟩:=f2 b hb;refine⟨hn b hb,by rw[eloc];exact(below b (hfl b hb)).1,by rw[efs];exact zvq I2 f2 f3,.inl (by rw[eex];exact hb),λx c e=>?c5,λp hp=>?_⟩
  case c5=>
   rcases ecells x c e with q|q
   ·exact f5 x c q
   ·exact Yg (yC (hfl b hb) (yD hCle (Yq q)))
  rw[epn,<-append_assoc]at hp;rcases List.mem_append.mp hp with hp|hp
  ·exact f6 p hp
  ·rw[hpl p hp];exact Yk (below b (hfl b hb)).2
 have loop:∀s₃:ye,s₃ = {s2 with heap:=h₁ } ->
  codeAny (yA X.prog X.w) X.A (.compLoop (.ListComp elt [⟨tg,iter,ifs,0⟩] scope pos) 0 (.ref it) (.ref s2.heap.objs.size) (compEnvC scope (Ym (φ2.objs.size+1) scope.names (zYb X.env.cells scope.names [])) φ2.objs.size X.env))
   (RR (.ref s2.heap.objs.size) φ2.objs.size) s₃:=by
  rintro s₃ rfl;have I0:=zOv (own:=own) (fr:=fr) (t:=s2.toks) (lo:=φ2.objs.size+1) I2 f2 hfl hk hnm hfree hfr (Yd _) hok₁ old (yk _) hCle hDC (Nat.lt_succ_of_le hCle) hacc (by intro v z;cases z) hns₁;rw[hXC]at I0
  refine z1o (λn s'=>∃(i:Nat)(ys:List V)(its:Array yb)(k:Nat)(H':Hp),Inv XC (U++[(s2.heap.objs.size,({cls:=.type "list",data:=.seq its k }:xa))]) (σC own.length fr Y) H' s'/\Vals ys its.toList/\ys.length<=yI/\tn i s'.heap/\(∀b∈fp,H' b=none)/\W i n ys H') ?_ m0
   ⟨0,[],#[],0,H2,I0,.nil,yP _,T.keep _ _ _ st2 (λb hb o e=>old b o e),λb hb=>(f2 b hb).1,w0⟩
  rintro n s3 ⟨i,ys,its,kk,H3,I3,rv,hz,st3,fr3,w3⟩
  have pl1:∀p∈[(s2.heap.objs.size,({cls:=.type "list",data:=.seq its kk }:xa))],p.1=s2.heap.objs.size:=λp hp=>by
   rw[List.mem_singleton.mp hp]
  rcases turn i n ys H3 w3 with ⟨stop,qn⟩|⟨go,hlt,step⟩
  ·have td:=T.done XC eprog ew eK ecalm i _ s3 _ H3 (λ_ _=>False) I3 (fpok fr3 pl1) st3 stop;rw[eA]at td;refine thn td λr s4 ⟨hr,I4⟩=>?_;subst hr;obtain⟨m,hn,_⟩:=id I4.loc;rw[eloc]at hn;obtain⟨p1,p2,p3,p4,p5⟩:=I4.pin (s2.heap.objs.size,_) (mem_append_right _ (mem_append_right _ mem_cons_self));have hnC:H3 φ2.objs.size=none:=by have:=I4.free;rw[eloc]at this;exact this
   have hokf:HOk X.prog X.w (upd H3 s2.heap.objs.size (.lst ys)) s4.heap:=by
    refine HOk.track (by have:=I4.hok;rw[eprog,ew]at this;exact this) p2 ⟨hz,its.toList,kk,rv,by simpa using p1⟩
   have u0:Un (frs X.stack) fp H2 H3 s2.heap s4.heap:=by
    have:=I4.base;rw[efs,eex,es0,eH0]at this;exact this
   have u1:Un (frs X.stack) fp H2 (upd H3 s2.heap.objs.size (.lst ys)) s2.heap s4.heap:=by
    have bd:∀b o,s2.heap.get? b=some o->b≠s2.heap.objs.size:=λb o e=>(below b (ym e)).2;refine⟨u0.keep,u0.slot,λb o e n hx=>by rw[zeb (bd b o e)];exact u0.free b o e n hx,u0.there,λb xs e=>?_,λb o u e=>?_,λb ps e=>?_⟩
    ·have q:=u0.tups b xs e;rw[zeb (zV q p2)];exact q
    ·have q:=u0.su b o u e;rw[zeb (zV q p2)];exact q
    ·obtain⟨more,q⟩:=u0.sC b ps e;exact⟨more,by rw[zeb (zV q p2)];exact q⟩
   have os4:s4.os=s2.os:=by have:=I4.os;rw[es0]at this;exact this
   have IF:Inv X U Y (upd H3 s2.heap.objs.size (.lst ys)) {s2 with heap:=s4.heap,gens:=s4.gens,drawn:=s4.drawn,toks:=s4.toks } :=
    I2.call (h':=s4.heap) (ch:=fp) u1 hokf I4.bare λb hb=>by
     obtain⟨_,f2,f3,f4,f5,f6⟩:=f2 b hb;exact⟨f4,f2,f5,f6⟩
   have es:s4 = {s2 with heap:=s4.heap,gens:=s4.gens,drawn:=s4.drawn,toks:=s4.toks }:=by
    obtain⟨a1,a2,a3,a4,a5⟩:=s4;have:a5=s2.os:=os4;subst this;rfl
   rw[<-es]at IF;refine fin ys H3 _ _ s4 qn ⟨IF,p2,by rw[zeb (Yk hDC)];exact hnC,⟨m,hn⟩,Yk (below _ I2.lt).1,yD I2.sz hCle,λx c e=>?_,λp hp=>?_⟩
   ·obtain⟨v,o,ho,_⟩:=I2.cell x c e;exact(below c (ym ho)).1
   ·exact(below p.1 (ym (I2.pin p hp).1)).1
  ·have td:=T.item XC eprog ew eK ecalm i _ s3 _ H3 (λ_ _=>False) I3 (fpok fr3 pl1) st3 go;rw[eA]at td;refine thn td λr s4 ⟨u,hr,h4⟩=>?_;subst hr;refine thn h4 λ_ s5 ⟨x,H5,I5,r5,y5,st5,fr5⟩=>?_;have I5':=I5.pinned (fpok fr5 pl1) (T.obj _ _ st5);have hgw:=hg' _ s5 _ H5 x u _ I5' r5 (step x H5 y5);rw[exe,eprog,ew,eA]at hgw;rw[eenv];refine thn hgw λ_ s6 ⟨Y6,H6,I6,⟨hsl,hsub⟩,q6⟩=>?_;have hqw:=hq' _ s6 Y6 H6 _ I6 q6;rw[exe,eprog,ew,eA]at hqw;refine thn hqw λok s7 ⟨H7,I7,q7⟩=>?_
   have back:∀{H8:Hp} {s8:ye},Inv XC (U++[(s2.heap.objs.size,({cls:=.type "list",data:=.seq its kk }:xa))]++zPp fp s5.heap) Y6 H8 s8 ->
    Inv XC (U++[(s2.heap.objs.size,({cls:=.type "list",data:=.seq its kk }:xa))]) (σC own.length fr Y) H8 s8/\tn (i+1) s8.heap/\∀b∈fp,H8 b=none:=λ{H8 s8} I8=>by
    refine⟨I8.Tx.weak hsl.symm hsub,T.keep _ _ _ st5 λb hb o e=>(I8.pin (b,o) (mem_append_right _ (mem_append_right _ (zHh hb e)))).1,λb hb=>?_⟩;obtain⟨o,e,d⟩:=T.obj _ _ st5 b hb;exact(I8.pin (b,o) (mem_append_right _ (mem_append_right _ (zHh hb e)))).2.1
   cases ok with
   |false=>
    have q7':∃m',m'<n/\W (i+1) m' ys H7:=by simpa using q7
    rw[if_neg yv];obtain⟨m',hm,w7⟩:=q7';obtain⟨δ1,δ2,δ3⟩:=back I7;exact⟨m',hm,i+1,ys,its,kk,H7,δ1,rv,hz,δ2,δ3,w7⟩
   |true=>
    rw[if_pos rfl]at q7 ⊢;have hew:=he' _ s7 Y6 H7 _ I7 q7;rw[exe,eprog,ew,eA]at hew;refine thn hew λy s8 ⟨vy,H8,I8,r8,m',hm,w8⟩=>?_;obtain⟨δ1,δ2,δ3⟩:=back I8;obtain⟨p1,p2,p3,p4,p5⟩:=δ1.pin (s2.heap.objs.size,_) (mem_append_right _ (mem_append_right _ mem_cons_self));have hil:its.size=ys.length:=by rw[rv.length];simp
    refine append_at (hsz:=by rw[hil];exact hz) p1 λh9 sb9 e9=>?_;have Df:s2.heap.objs.size∉fp:=λz=>absurd (hfl _ z) (Yj _);have δ0:Inv XC U (σC own.length fr Y) H8 s8:=δ1.Tx
    have δ9:Inv XC U (σC own.length fr Y) H8 {s8 with heap:=h9 }:=by
     refine δ0.turned (t':=s8.toks) (it:=s2.heap.objs.size) (λb o hb e=>(sb9.2 b hb).trans e) p2 p3 (.inr (by rw[es0];exact yk _)) (λx c e z=>?_) (λp hp z=>?_)
     ·rcases ecells x c e with q|q
      ·obtain⟨v,o,ho,_⟩:=I2.cell x c q;exact(below c (ym ho)).2 z
      ·exact Yg (Nat.lt_of_le_of_lt hCle q) z
     ·rw[epn]at hp;exact(below p.1 (ym (I2.pin p hp).1)).2 z
    refine⟨m',hm,i+1,ys++[vy],its.push y,kk+1,H8,δ9.sE λp hp=>?_,?_,by simp;exact hlt,T.keep _ _ _ δ2 (λb hb o e=>(sb9.2 b (λz=>Df (z▸hb))).trans e),δ3,w8⟩
    ·rcases List.mem_append.mp hp with hp|hp
     ·exact δ9.pin p (mem_append_right _ hp)
     ·have e:=List.mem_singleton.mp hp;subst e;exact⟨e9,p2,p3,p4,by intro v z;cases z⟩
    ·rw[Array.toList_push];exact rv.append (.cons r8 .nil)
 exact codeAny_compStart_list (loop _ rfl) (T.self X.A 0 _ _ _ (T.keep _ _ _ st2 λb hb o e=>old b o e) (loop _ rfl))
def sR.gone{U:List (yg×xa)}{Y:L2.St}{H:Hp}{ys:List V}{D C:yg}{s:ye}(w:sR X U Y H ys D C s){h':Ye}(sb:Yr C s.heap h'):Inv X U Y (upd H D (.lst ys)) {s with heap:=h' } :=
 w.inv.turned (t':=s.toks) (λb o hb e=>(sb.2 b hb).trans e) w.freeC (Yk (Yk w.notL)) (.inr w.young) w.sF w.Si
def z7z{elt tg iter:yG}{ifs:List yG}{pos:Xd}{wi:TI}{g:TG}{tc:TT}{te:TE}(own:List yF)(fr:List Nat)(hc:X.calm=true)(hi:PI X tg iter wi)
 (hg:∀cl C s₀ H₀ fp,PG (cxC X own fr scope cl C s₀ H₀ fp) tg g) (hq:∀cl C s₀ H₀ fp,PF (cxC X own fr scope cl C s₀ H₀ fp) ifs tc) (he:∀cl C s₀ H₀ fp,PE (cxC X own fr scope cl C s₀ H₀ fp) elt te)
 (hk:scope.kind=.function) (hnm:∀y∈scope.names,scope.names.lookup y.1=some y.2)
 (hfree:∀x∈scope.names,x.2=.free->(X.env.kindOf x.1=some .cell\/X.env.kindOf x.1=some .free)) (hfr:∀i∈fr,∃x,X.N[i]?=some x/\scope.names.lookup x=some .free)
 (hs:∀x,YJ iter X.env x=pure x:=by intro _;rfl):PE X (.ListComp elt [⟨tg,iter,ifs,0⟩] scope pos) (tLC own.length fr wi g tc te):=by
 intro U s Y H Q I h;rw[eval_ListComp];have hclos:closureFor scope X.env=pure (zYb X.env.cells scope.names []):=zfn λx hx e=>I.ok.has x.1 (hfree x hx e);refine wpAny_comprehension_free (use:=none) rfl hs hclos hk (λx hx e=>by rw[hnm x hx,e]) ?_;show yq _ _ (Yx iter X.env) _ _ s;refine thn (hi U s Y H _ I h) λv s1 h1=>thn h1 λitv s2 h2=>?_;refine zcu (RR:=λacc C=>compPost (yA X.prog X.w) X.A X.xe none (EP X U Y Q) acc C) own fr hc hg hq he hk hnm hfree hfr h2 λys H3 D C s4 q w=>?_;obtain⟨m,hn⟩:=w.own;exact⟨m,hn,λh' sb=>⟨.ref D,_,w.gone sb,rfl,q D w.free⟩⟩
def zqw{elt tg iter:yG}{ifs:List yG}{pos spos py:Xd}{wi:TI}{g:TG}{tc:TT}{te:TE}{y:yF}{i:Nat}(own:List yF)(fr:List Nat)(hN:X.N.Nodup)(hiN:X.N[i]?=some y)(hy:X.env.scope.names.lookup y=some .local)(hc:X.calm=true)(hi:PI X tg iter wi)
 (hsw:swapsWith (.ListComp elt [⟨tg,iter,ifs,0⟩] scope pos) (some (.Name y py)) spos.line X.env=pure true)
 (hg:∀cl C s₀ H₀ fp,PG (cxC X own fr scope cl C s₀ H₀ fp) tg g) (hq:∀cl C s₀ H₀ fp,PF (cxC X own fr scope cl C s₀ H₀ fp) ifs tc) (he:∀cl C s₀ H₀ fp,PE (cxC X own fr scope cl C s₀ H₀ fp) elt te)
 (hk:scope.kind=.function) (hnm:∀y∈scope.names,scope.names.lookup y.1=some y.2)
 (hfree:∀x∈scope.names,x.2=.free->(X.env.kindOf x.1=some .cell\/X.env.kindOf x.1=some .free)) (hfr:∀i∈fr,∃x,X.N[i]?=some x/\scope.names.lookup x=some .free)
 (hs:∀x,YJ iter X.env x=pure x:=by intro _;rfl):PS X (.Assign [.Name y py] (.ListComp elt [⟨tg,iter,ifs,0⟩] scope pos) spos) (zLA (tLC own.length fr wi g tc te) (zWx i)):=by
 intro U s Y H E I h;rw[exec_Assign_Name_used _ _ _ _ hsw];refine ya (wpAny_standAt (ya ?_));have hclos:closureFor scope X.env=pure (zYb X.env.cells scope.names []):=zfn λx hx e=>I.ok.has x.1 (hfree x hx e);show yq _ X.A (do let _ <-comprehension (.ListComp elt [⟨tg,iter,ifs,0⟩] scope pos) scope X.env _ (newList []) false (Yx iter X.env) (some (assign (.Name y py) X.env))) _ _ s;refine ya (YT (wpAny_comprehension_free (use:=some (assign (.Name y py) X.env)) (Q:=λ_ s'=>SP X U E .next s') rfl hs hclos hk (λx hx e=>by rw[hnm x hx,e]) ?_) (λ_ s' hq=>yi (yi hq)) λ_ _ e=>e);show yq _ _ (Yx iter X.env) _ _ s;refine thn (hi U s Y H _ I h) λv s1 h1=>thn h1 λitv s2 h2=>?_;refine zcu (RR:=λacc C=>compPost (yA X.prog X.w) X.A X.xe (some (assign (.Name y py) X.env)) (λ_ s'=>SP X U E .next s') acc C) own fr hc hg hq he hk hnm hfree hfr h2 λys H3 D C s4 q w=>?_;show yq _ X.A (assign (.Name y py) X.env (.ref D)) _ _ s4;obtain⟨m,hn⟩:=w.own;refine wpAny_assign_Name (zqo (v:=V.ref D) w.inv hN hiN (.inl hy) rfl (λs5 I5 ⟨a,sb,ha⟩=>?_) (.inr hy))
 have haC:C≠a:=by
  rcases ha with e|e
  ·rw[e];exact w.notL
  ·exact Yk (w.sF y a e)
 refine⟨m,hn.sameBut sb haC,λh' sb'=>?_⟩;refine⟨_,_,I5.turned (t':=s5.toks) (λb o hb e=>(sb'.2 b hb).trans e) w.freeC w.notL (.inr w.young) w.sF w.Si,q D w.free⟩
variable {K:yB}{Z Z1:List yg}{H H1:Hp}
def sy.ext{W:XK}{E:Ends}{o:Out}(h:sy K W Z H E o)(x:Ext Z H Z1 H1):sy K W Z1 H1 E o:=by
 cases o with
 |next J μ=>exact λZ' Y' H' x' A=>h Z' Y' H' (x.trans x') A
 |brk J μ=>exact λZ' Y' H' x' A=>h Z' Y' H' (x.trans x') A
 |cont J μ=>exact λZ' Y' H' x' A=>h Z' Y' H' (x.trans x') A
 |ret d μ=>exact λZ' v H' x' R r=>h Z' v H' (x.trans x') R r
 |exc c fs μ=>exact λZ' H' C dx hc x' R r=>h Z' H' C dx hc (x.trans x') R r
def At.set{Y:L2.St}{J:Loc}{μ:Mem}{d:D}{v:V}(A:At K Z H Y J μ)(r:tz K Z H d v)(i:Nat):At K Z H (Y.set i (some v)) (J.set i (some d)) μ:=by
 refine⟨λj d' e=>?_,A.hp,by simp[A.len]⟩
 by_cases hj:j=i
 ·subst hj
  have hl:j<J.length:=by
   have:=(List.getElem?_eq_some_iff.mp e).1;simpa using this
  rw[Yn hl]at e;cases e;exact⟨v,by rw[Yn (by rw[A.len];exact hl)],r⟩
 ·rw[yW (Yk hj)]at e;obtain⟨u,e1,q⟩:=A.st j d' e;exact⟨u,by rw[yW (Yk hj)];exact e1,q⟩
variable {a b c e:yG}{es:List yG}{G ψ χ:FE}{pos:Xd}{st:Yb}{rest:List Yb}
@[simp] def zZb:FS:=λJ μ=>some (.next J μ)
@[simp] def z7(p q:FS):FS:=λJ μ=>match p J μ with
 |some (.next J' μ')=>q J' μ'
 |o=>o
def zY:MSs X [] zZb:=z3w zEx λZ J μ Y H o E A e k=>by
 cases e;exact k Z Y H Ext.refl A
def zj{p:FS}(h:MS X st p):MSs X [st] p:=zsy h
def zf{p q:FS}(h1:MS X st p)(h2:MSs X rest q):MSs X (st::rest) (z7 p q) :=
 z3w (zpv h1 h2) λZ J μ Y H o E A e k=>by
  unfold z7 at e;show tMS X.K (z0r X) p {E with nx:=tMS X.K (z0r X) q E } Y H
  cases ep:p J μ with
  |none=>rw[ep]at e;cases e
  |some op=>
   rw[ep]at e;refine⟨Z,J,μ,op,A,ep,?_⟩
   cases op with
   |next J' μ'=>exact λZ' Y' H' x' A'=>⟨Z',J',μ',o,A',e,k.ext x'⟩
   |brk J' μ'=>cases e;exact k
   |cont J' μ'=>cases e;exact k
   |ret d μ'=>cases e;exact k
   |exc C fs μ'=>cases e;exact k
@[simp] def zMb(G:FE):FS:=λJ μ=>(G J μ).bind λp=>some (.ret p.1 p.2)
def zC(h:ME X e G):MS X (.Return (some e) pos) (zMb G):=ztm (zNy h) λZ J μ Y H o E A e k=>by
 obtain⟨⟨x,μ1⟩,e1,e⟩:=zi e;cases e;exact⟨Z,J,μ,x,μ1,A,e1,λZ' H' v x' R r=>k Z' v H' x' R r⟩
@[simp] def zeh(G:FE):FS:=λJ μ=>(G J μ).bind λp=>some (.next J p.2)
def z9d(h:ME X e G)(hs:swapsWith e none pos.line X.env=pure false:=by rfl):MS X (.Expr e pos) (zeh G):=ztm (zfy h hs) λZ J μ Y H o E A e k=>by
 obtain⟨⟨x,μ1⟩,e1,e⟩:=zi e;cases e;exact⟨Z,J,μ,x,μ1,A,e1,λZ' H' v x' R r=>k Z' Y H' x' (A.ext x' R)⟩
@[simp] def zNb(i:Nat)(G:FE):FS:=λJ μ=>(G J μ).bind λp=>some (.next (J.set i (some p.1)) p.2)
def zG{x:yF}{pos':Xd}(i:Nat)(he:ME X e G)(hN:X.N.Nodup:=by first|assumption|decide)(hi:X.N[i]?=some x:=by rfl)(hx:L2.Loc X.env.scope x:=by first|exact Or.inl rfl|exact Or.inr rfl)(hs:swapsWith e (some (.Name x pos')) pos.line X.env=pure false:=by rfl)
 (hf:X.fn x=true\/X.env.scope.names.lookup x=some .local:=by first|exact .inl rfl|exact .inr rfl|assumption):MS X (.Assign [.Name x pos'] e pos) (zNb i G):=ztm (zDz hN hi hx he hs hf) λZ J μ Y H o E A e k=>by
 obtain⟨⟨x,μ1⟩,e1,e⟩:=zi e;cases e;exact⟨Z,J,μ,x,μ1,A,e1,λZ' H' v x' R r=>k Z' _ H' x' ((A.ext x' R).set r i)⟩
@[simp] def sIf(c:FT)(p q:FS):FS:=λJ μ=>(c J μ).bind λt=>bif t.1 then p J t.2 else q J t.2
def z9b{s1 s2:List Yb}{t:FT}{p q:FS}(hc:MT X c t)(h1:MSs X s1 p)(h2:MSs X s2 q):MS X (.If c s1 s2 pos) (sIf t p q):=ztm (zRA hc h1 h2) λZ J μ Y H o E A e k=>by
 obtain⟨⟨x,μ1⟩,e1,e⟩:=zi e;refine⟨Z,J,μ,x,μ1,A,e1,λZ' H' x' R=>?_⟩
 cases x with
 |true=>exact Sb ⟨Z',J,μ1,o,A.ext x' R,e,k.ext x'⟩
 |false=>exact Sa ⟨Z',J,μ1,o,A.ext x' R,e,k.ext x'⟩
def zXt:FS:=λ_ _=>none
def zvr:MS X st zXt:=ztm zaw λ_ _ _ _ _ _ _ _ e _=>by cases e
abbrev FG:=D->Loc->Mem->Option (Loc×Mem)
abbrev FGs:=List D->Loc->Mem->Option (Loc×Mem)
def tMG(K:yB)(g:FG):TG:=λv Y H Q=>∃Z J μ d J' μ',At K Z H Y J μ/\tz K Z H d v/\g d J μ=some (J',μ')/\∀Z' Y' H',Ext Z H Z' H'->At K Z' H' Y' J' μ'->Q Y' H'
def ziB(K:yB)(g:FGs):TGs:=λvs Y H Q=>∃Z J μ ds J' μ',At K Z H Y J μ/\tf K Z H ds vs/\g ds J μ=some (J',μ')/\∀Z' Y' H',Ext Z H Z' H'->At K Z' H' Y' J' μ'->Q Y' H'
def MG(X:Cx)(t:yG)(g:FG):Prop:=PG X t (tMG X.K g)
def MGs(X:Cx)(t:List yG)(g:FGs):Prop:=PGs X t (ziB X.K g)
def mg_of{t:yG}{tt:TG}{g:FG}(h:PG X t tt)(w:∀Z J μ d J' μ' v Y H Q,At X.K Z H Y J μ->tz X.K Z H d v->g d J μ=some (J',μ')->(∀Z' Y' H',Ext Z H Z' H'->At X.K Z' H' Y' J' μ'->Q Y' H')->tt v Y H Q):MG X t g :=
 by intro U s Y H v u Q I r hh;obtain⟨Z,J,μ,d,J',μ',A,q,e,k⟩:=hh;exact h U s Y H v u Q I r (w Z J μ d J' μ' v Y H Q A q e k)
def zNw{t:List yG}{tt:TGs}{g:FGs}(h:PGs X t tt)(w:∀Z J μ d J' μ' v Y H Q,At X.K Z H Y J μ->tf X.K Z H d v->g d J μ=some (J',μ')->(∀Z' Y' H',Ext Z H Z' H'->At X.K Z' H' Y' J' μ'->Q Y' H')->tt v Y H Q):MGs X t g :=
 by intro U s Y H v u Q I r hh;obtain⟨Z,J,μ,d,J',μ',A,q,e,k⟩:=hh;exact h U s Y H v u Q I r (w Z J μ d J' μ' v Y H Q A q e k)
@[simp] def gN(i:Nat):FG:=λd J μ=>some (J.set i (some d),μ)
def zdb{x:yF}(i:Nat)(hN:X.N.Nodup:=by first|assumption|decide)(hi:X.N[i]?=some x:=by rfl)(hx:L2.Loc X.env.scope x:=by first|exact Or.inl rfl|exact Or.inr rfl)(hf:X.fn x=true\/X.env.scope.names.lookup x=some .local:=by first|exact .inl rfl|exact .inr rfl|assumption):MG X (.Name x pos) (gN i) :=
 mg_of (ztu hN hi hx hf) λZ J μ d J' μ' v Y H Q A q e k=>by
  cases e;exact k Z _ H Ext.refl (A.set q i)
@[simp] def zFe:FGs:=λds J μ=>match ds with
 |[]=>some (J,μ)
 |_=>none
@[simp] def zbb(g:FG)(gs:FGs):FGs:=λds J μ=>match ds with
 |d::r=>(g d J μ).bind λp=>gs r p.1 p.2
 |_=>none
def zai:MGs X [] zFe:=zNw zUt λZ J μ ds J' μ' vs Y H Q A q e k=>by
 unfold zFe at e
 split at e
 ·cases e;exact⟨q.nil_inv,k Z Y H Ext.refl A⟩
 ·cases e
def zUb{g:FG}{gs:FGs}(h1:MG X e g)(h2:MGs X es gs)(hs:(YI (e::es) X.env).map (·.2)=assign e X.env::(YI es X.env).map (·.2):=by rfl):MGs X (e::es) (zbb g gs) :=
 zNw (zir h1 h2 hs) λZ J μ ds J' μ' vs Y H Q A q e k=>by
  unfold zbb at e
  split at e
  ·obtain⟨⟨J1,μ1⟩,e1,e⟩:=zi e;obtain⟨v,r,rfl,q1,q2⟩:=q.cons_inv;refine⟨v,r,rfl,Z,J,μ,_,J1,μ1,A,q1,e1,λZ1 Y1 H1 x1 A1=>?_⟩;exact⟨Z1,J1,μ1,_,J',μ',A1,q2.ext x1,e,λZ2 Y2 H2 x2 A2=>k Z2 Y2 H2 (x1.trans x2) A2⟩
  ·cases e
@[simp] def gT(n:Nat)(gs:FGs):FG:=λd J μ=>match d with
 |.tup ds=>bif ds.length==n then gs ds J μ else none
 |_=>none
def zEl{k n:Nat}{gs:FGs}(h:MGs X es gs)(hc:X.calm=true:=by rfl)(hn:(YI es X.env).length=n:=by rfl)(hst:(YI es X.env).findIdx? (·.1)=none:=by rfl):MG X (.Tuple es k pos) (gT n gs) :=
 mg_of (z6w hc h hn hst) λZ J μ d J' μ' v Y H Q A q e k=>by
  unfold gT at e
  split at e
  ·obtain⟨h1,e⟩:=z5 e;obtain⟨a,vs,rfl,e2,q2⟩:=q.tW;exact⟨a,vs,rfl,SqT.of e2,by rw[<-q2.length];exact beq_iff_eq.mp h1,Z,J,μ,_,J',μ',A,q2,e,k⟩
  ·cases e
@[simp] def gAt(G ψ:FE):FG:=λd J μ=>(G J μ).bind λp=>(ψ J p.2).bind λq=>match p.1,q.1 with
 |.loc n,.int i=>match q.2[n]? with
  |some (.lst ds)=>(ixN ds.length i).bind λj=>some (J,q.2.set n (.lst (ds.set j d)))
  |_=>none
 |_,_=>none
def zOu{o i:yG}(ho:ME X o G)(hi:ME X i ψ)(ha:∀v,assign (.Subscript o i pos) X.env v=(do
 let ov <-holding [v] (Yx o X.env)
 let iv <-holding [v,ov] (Yx i X.env)
 standAt pos
 holding [v,ov,iv] (setItem ov iv v)
 release [v,ov,iv] []):=by intro _;rfl):MG X (.Subscript o i pos) (gAt G ψ) :=
 mg_of (z8w ho hi zSv ha) λZ J μ d J' μ' v Y H Q A q e k=>by
  obtain⟨⟨x,μ1⟩,e1,e⟩:=zi e;obtain⟨⟨y,μ2⟩,e2,e⟩:=zi e;refine⟨Z,J,μ,x,μ1,A,e1,λZ1 H1 v1 x1 R1 r1=>?_⟩;refine⟨Z1,J,μ1,y,μ2,A.ext x1 R1,e2,λZ2 H2 v2 x2 R2 r2=>?_⟩;dsimp only at e
  split at e
  ·split at e
   ·rename_i hm
    obtain⟨j,e3,e⟩:=zi e;cases e;obtain⟨ad,rfl,hr⟩:=(r1.ext x2).tD;obtain⟨vs,hv,q3⟩:=R2.at_ _ _ _ hr hm;have hmu:Mut (H2 ad):=by rw[hv];trivial
    refine⟨ad,vs,_,j,rfl,r2.int_inv,hv,by rw[<-q3.length];exact e3,?_⟩;have xx:=x1.trans x2;have R3:=R2.wr (o:=.lst (vs.set j v)) (lo:=.lst _) hmu hr ⟨_,zH,tf.ext (Ext.wr hmu) (q3.set j (q.ext xx))⟩;exact k Z2 Y _ (xx.trans (Ext.wr hmu)) (A.ext (xx.trans (Ext.wr hmu)) R3)
   ·cases e
  ·cases e
@[simp] def zIr(G:FE)(g:FG):FS:=λJ μ=>(G J μ).bind λp=>(g p.1 J p.2).bind λq=>some (.next q.1 q.2)
def zhh{tg:yG}{g:FG}(he:ME X e G)(hg:MG X tg g)(hs:swapsWithSole [tg] e pos.line X.env=pure false:=by rfl)(hw:swappedStores [tg] e X.env=pure none:=by rfl)
 (h1:(YI [tg] X.env).map (·.2)=[assign tg X.env]:=by rfl):MS X (.Assign [tg] e pos) (zIr G g):=ztm (zxz he hg hs hw h1) λZ J μ Y H o E A e k=>by
 obtain⟨⟨x,μ1⟩,e1,e⟩:=zi e;obtain⟨⟨J1,μ2⟩,e2,e⟩:=zi e;cases e;refine⟨Z,J,μ,x,μ1,A,e1,λZ1 H1 v1 x1 R1 r1=>?_⟩;exact⟨Z1,J,μ1,x,J1,μ2,A.ext x1 R1,r1,e2,λZ2 Y2 H2 x2 A2=>k Z2 Y2 H2 (x1.trans x2) A2⟩
abbrev FI:=Loc->Mem->Option (List D×(Mem->Bool)×Mem)
structure sS(K:yB)(δ:It)(Z:List yg)(H:Hp)(ds:List D)(ok:Mem->Bool):Prop where
 go:∀Z' H' μ' (i:Nat),Ext Z H Z' H'->tI K Z' H' μ'->ok μ'=true->i<ds.length->δ.go i H'
 yld:∀Z' H' μ' (i:Nat) x H'' d,Ext Z H Z' H'->tI K Z' H' μ'->ok μ'=true->ds[i]?=some d->δ.yld i H' x H''->Ext Z' H' Z' H''/\tI K Z' H'' μ'/\tz K Z' H'' d x
 stop:∀Z' H' μ',Ext Z H Z' H'->tI K Z' H' μ'->ok μ'=true->δ.stop ds.length H'
def tMI(K:yB)(G:FI):TI:=λY H R=>∃Z J μ ds ok μ',At K Z H Y J μ/\G J μ=some (ds,ok,μ')/\∀Z' H' δ,Ext Z H Z' H'->tI K Z' H' μ'->sS K δ Z' H' ds ok->R δ H'
def MI(X:Cx)(tg iter:yG)(G:FI):Prop:=PI X tg iter (tMI X.K G)
def zxt{tg it:yG}{t:TI}{G:FI}(h:PI X tg it t)(w:∀Z J μ Y H ds ok μ' R,At X.K Z H Y J μ->G J μ=some (ds,ok,μ')->(∀Z' H' δ,Ext Z H Z' H'->tI X.K Z' H' μ'->sS X.K δ Z' H' ds ok->R δ H')->t Y H R):MI X tg it G :=
 by intro U s Y H R I hh;obtain⟨Z,J,μ,ds,ok,μ',A,e,k⟩:=hh;exact h U s Y H R I (w Z J μ Y H ds ok μ' R A e k)
@[simp] def yes:Mem->Bool:=λ_=>true
@[simp] def zTg(G:FA):FI:=λJ μ=>(G J μ).bind λp=>match p.1 with
 |[.int j]=>bif decide (-(2^62)<=j/\j<2^62) then some ((yd j.toNat).map λ(k:Nat) =>.int k,yes,p.2) else none
 |_=>none
def zIg{tg:yG}{p:Xd}{G:FA}(hm:X.mg "range"=none)(ha:MAn X [a] G)(hg:Gl X "range":=by rfl)(hs:yu [a] X.env=[(false,Yx a X.env)]:=by rfl):MI X tg (.Call (.Name "range" p) [a] [] pos) (zTg G) :=
 zxt (zAt hg hm ha.ma hs) λZ J μ Y H ds ok μ' R A e k=>by
  obtain⟨⟨x,μ1⟩,e1,e⟩:=zi e;refine⟨Z,J,μ,x,μ1,A,e1,λZ1 H1 v1 x1 R1 r1=>?_⟩;dsimp only at e
  split at e
  ·rename_i j
   obtain⟨h1,e⟩:=z5 e;have h2:=of_decide_eq_true h1;cases e;obtain⟨w,r,rfl,q1,q2⟩:=r1.cons_inv;refine⟨j,by rw[q1.int_inv,q2.nil_inv],h2.1,h2.2,k Z1 H1 _ x1 R1 ⟨λZ' H' μ' i _ _ _ h=>by rw[length_map,length_range]at h;exact h,λZ' H' μ' i x H'' d _ RR _ e ⟨y1,y2⟩=>⟨y1▸Ext.refl,y1▸RR,?_⟩,λZ' H' μ' _ _ _=>by show j.toNat<=_;simp⟩⟩;rw[yh]at e
   cases e3:(yd j.toNat)[i]? with
   |none=>rw[e3]at e;cases e
   |some m=>
    rw[e3]at e
    have hmi:m=i:=by
     obtain⟨w1,w2⟩:=List.getElem?_eq_some_iff.mp e3;simpa using w2.symm
    subst hmi;have e':D.int (m:Nat)=d:=yS e;subst e';rw[y2,show(0:Int)+(m:Nat)=(m:Int) by omega];exact .int
  ·cases e
def zXw{K:yB}{Z:List yg}{H:Hp}{a:yg}{vs:List V}{ds:List D}(h:H a=some (.tup vs))(r:tf K Z H ds vs):sS K (Itt K a) Z H ds yes:=by
 refine⟨λZ' H' μ' i x R _ hi=>?_,λZ' H' μ' i x H'' d x' R _ e ⟨y1,y2⟩=>⟨y1▸Ext.refl,y1▸R,y1▸?_⟩,λZ' H' μ' x R _=>⟨vs,SqT.of (x.tup _ _ h),by rw[r.length];exact yk _⟩⟩
 ·have hi':i<vs.length:=by rw[<-r.length];exact hi
  exact⟨vs,vs[i],SqT.of (x.tup _ _ h),by simp[hi']⟩
 ·have q:=y2 vs (SqT.of (x'.tup _ _ h));obtain⟨w,e1,rr⟩:=(r.ext x').get e;rw[q]at e1;cases e1;exact rr
@[simp] def zOw(G:FE):FI:=λJ μ=>(G J μ).bind λp=>match p.1 with
 |.tup ds=>some (ds,yes,p.2)
 |_=>none
def zTz{tg:yG}(h:ME X a G):MI X tg a (zOw G) :=
 zxt (z1y h) λZ J μ Y H ds ok μ' R A e k=>by
  obtain⟨⟨x,μ1⟩,e1,e⟩:=zi e;refine⟨Z,J,μ,x,μ1,A,e1,λZ1 H1 v1 x1 R1 r1=>?_⟩;dsimp only at e
  split at e
  ·cases e;obtain⟨a,vs,rfl,e2,q2⟩:=r1.tW;exact⟨a,rfl,⟨vs,SqT.of e2⟩,k Z1 H1 _ x1 R1 (zXw e2 q2)⟩
  ·cases e
def zqm(n:Nat)(ds:List D):Mem->Bool:=λμ=>@decide (μ[n]?=some (.lst ds)) (xJ _)
def Tp{n:Nat}{ds:List D}{μ:Mem}:zqm n ds μ=true↔μ[n]?=some (.lst ds):=by
 unfold zqm;exact @decide_eq_true_iff _ (xJ _)
def zht(G:FE):FI:=λJ μ=>(G J μ).bind λp=>match p.1 with
 |.fz ds=>some (ds,yes,p.2)
 |.loc n=>match p.2[n]? with
  |some (.lst ds)=>some (ds,zqm n ds,p.2)
  |_=>none
 |_=>none
def zOq{K:yB}{Z:List yg}{H:Hp}{a:yg}{ds:List D}{ok:Mem->Bool}(h:∀Z' H' μ',Ext Z H Z' H'->tI K Z' H' μ'->ok μ'=true->∃vs,SqL K H' a vs/\tf K Z' H' ds vs):sS K (Itl K a) Z H ds ok:=by
 refine⟨λZ' H' μ' i x R o hi=>?_,λZ' H' μ' i x H'' d x' R o e ⟨y1,y2⟩=>⟨y1▸Ext.refl,y1▸R,y1▸?_⟩,λZ' H' μ' x R o=>?_⟩
 ·obtain⟨vs,s,r⟩:=h Z' H' μ' x R o;have hi':i<vs.length:=by rw[<-r.length];exact hi
  exact⟨vs,vs[i],s,by simp[hi']⟩
 ·obtain⟨vs,s,r⟩:=h Z' H' μ' x' R o;have q:=y2 vs s;obtain⟨w,e1,rr⟩:=r.get e;rw[q]at e1;cases e1;exact rr
 ·obtain⟨vs,s,r⟩:=h Z' H' μ' x R o;exact⟨vs,s,by rw[r.length];exact yk _⟩
def z4u{tg:yG}(h:ME X a G):MI X tg a (zht G) :=
 zxt (zwy h) λZ J μ Y H ds ok μ' R A e k=>by
  obtain⟨⟨x,μ1⟩,e1,e⟩:=zi e;refine⟨Z,J,μ,x,μ1,A,e1,λZ1 H1 v1 x1 R1 r1=>?_⟩;dsimp only at e
  split at e
  ·cases e;obtain⟨a,vs,rfl,e2,q2⟩:=r1.sg;exact⟨a,rfl,⟨vs,e2.sq⟩,k Z1 H1 _ x1 R1 (zOq λZ' H' μ' x _ _=>⟨vs,(x.fz e2).sq,q2.ext x⟩)⟩
  ·split at e
   ·rename_i hm
    cases e;obtain⟨a,rfl,e2⟩:=r1.tD;obtain⟨vs,e3,q3⟩:=R1.at_ _ _ _ e2 hm;refine⟨a,rfl,⟨vs,SqL.of e3⟩,k Z1 H1 _ x1 R1 (zOq λZ' H' μ'' x R' o=>?_)⟩;obtain⟨vs',e4,q4⟩:=R'.at_ _ _ _ (x.get e2) (Tp.mp o);exact⟨vs',SqL.of e4,q4⟩
   ·cases e
  ·cases e
def zOj(g:FG)(body:FS)(ok:Mem->Bool):List D->FS
 |[],J,μ=>bif ok μ then some (.next J μ) else none
 |x::xs,J,μ=>bif ok μ then(g x J μ).bind λp=>match body p.1 p.2 with
  |some (.next J' μ')=>zOj g body ok xs J' μ'
  |some (.cont J' μ')=>zOj g body ok xs J' μ'
  |some (.brk J' μ')=>some (.next J' μ')
  |some (.ret d μ')=>some (.ret d μ')
  |some (.exc C fs μ')=>some (.exc C fs μ')
  |none=>none
  else none
@[simp] def zxl(i:FI)(g:FG)(body:FS):FS:=λJ μ=>(i J μ).bind λp=>zOj g body p.2.1 p.1 J p.2.2
def zAd{tg iter:yG}{body:List Yb}{i:FI}{g:FG}{p:FS}(hi:MI X tg iter i)(hg:MG X tg g)(hb:MSs X body p)(hx:PassesOwn (yA X.prog X.w) X.A X.env X.xe:=by first|exact PassesOwn.never|exact PassesOwn.leaving)(hc:X.calm=true:=by rfl)
 (hs:∀x,YJ iter X.env x=pure x:=by intro _;rfl):MS X (.For tg iter body [] pos) (zxl i g p) :=
 ztm (zGz hx hc hi hg hb hs) λZ J μ Y H o E A e k=>by
  obtain⟨⟨ds,ok,μ1⟩,e1,e⟩:=zi e;refine⟨Z,J,μ,ds,ok,μ1,A,e1,λZ1 H1 δ x1 R1 II=>?_⟩;refine⟨λi m Y' H'=>∃Z' J' μ',Ext Z1 H1 Z' H'/\At X.K Z' H' Y' J' μ'/\i<=ds.length/\m=ds.length-i/\zOj g p ok (ds.drop i) J' μ'=some o,⟨_,Z1,J,μ1,Ext.refl,A.ext x1 R1,yP _,rfl,e⟩,?_⟩;rintro i m Y' H' ⟨Z',J',μ',x',A',hi,rfl,ef⟩
  by_cases hlt:i<ds.length
  ·right
   have hd:ds.drop i=ds[i]::ds.drop (i+1):=drop_eq_getElem_cons hlt;rw[hd]at ef;unfold zOj at ef;obtain⟨hok,ef⟩:=z5 ef;obtain⟨⟨J2,μ2⟩,e2,ef⟩:=zi ef;refine⟨II.go Z' H' μ' i x' A'.hp hok hlt,λY3 H3=>∃Z3 J3 μ3,Ext Z1 H1 Z3 H3/\At X.K Z3 H3 Y3 J3 μ3/\zOj g p ok (ds.drop (i+1)) J3 μ3=some o,λY3 H3 ⟨Z3,J3,μ3,x3,A3,e3⟩=>⟨ds.length-(i+1),by omega,Z3,J3,μ3,x3,A3,hlt,rfl,e3⟩,λx H'' y=>?_⟩;obtain⟨xe,Re,rx⟩:=II.yld Z' H' μ' i x H'' ds[i] x' A'.hp hok (by simp[hlt]) y;have x':=x'.trans xe;refine⟨Z',J',μ',ds[i],J2,μ2,A'.ext xe Re,rx,e2,λZ4 Y4 H4 x4 A4=>?_⟩
   cases eb:p J2 μ2 with
   |none=>rw[eb]at ef;cases ef
   |some ob=>
    rw[eb]at ef;refine⟨Z4,J2,μ2,ob,A4,eb,?_⟩;have x5:=x'.trans x4
    cases ob with
    |next J6 μ6=>exact λZ6 Y6 H6 x6 A6=>⟨Z6,J6,μ6,x5.trans x6,A6,ef⟩
    |cont J6 μ6=>exact λZ6 Y6 H6 x6 A6=>⟨Z6,J6,μ6,x5.trans x6,A6,ef⟩
    |brk J6 μ6=>cases ef;exact(k.ext x1).ext x5
    |ret d μ6=>cases ef;exact(k.ext x1).ext x5
    |exc C fs μ6=>cases ef;exact(k.ext x1).ext x5
  ·left
   have e0:i=ds.length:=by omega
   subst e0;rw[List.drop_length]at ef;unfold zOj at ef;obtain⟨hok,ef⟩:=z5 ef;cases ef;exact⟨II.stop Z' H' μ' x' A'.hp hok,k Z' Y' H' (x1.trans x') A'⟩
end
def zcv(g:FG)(c:FT)(G:FE)(ok:Mem->Bool)(J:Loc):List D->List D->Mem->Option (D×Mem)
 |[],ys,μ=>bif ok μ then some (.loc μ.length,μ++[.lst ys]) else none
 |x::xs,ys,μ=>bif ok μ then(g x J μ).bind λp=>(c p.1 p.2).bind λt=>bif t.1 then(G p.1 t.2).bind λq=>zcv g c G ok J xs (ys++[q.1]) q.2 else zcv g c G ok J xs ys t.2 else none
@[simp] def δC(n:Nat)(fr:List Nat)(J:Loc):Loc:=yo n none++fr.map λi=>(J[i]?).getD none
@[simp] def few(ds:List D):Bool:=decide (ds.length<=1000000)
@[simp] def fLC(n:Nat)(fr:List Nat)(i:FI)(g:FG)(c:FT)(G:FE):FE:=λJ μ=>(i J μ).bind λp=>bif few p.1 then zcv g c G p.2.1 (δC n fr J) p.1 [] p.2.2 else none
def MF(X:Cx)(ifs:List yG)(c:FT):Prop:=PF X ifs (tMT X.K c)
@[simp] def zCk:FT:=λ_ μ=>some (true,μ)
def zzd{X:Cx}:MF X [] zCk:=by intro U s Y H Q I hh;obtain⟨Z,J,μ,b,μ',A,e,k⟩:=hh;exact ztz U s Y H Q I (by cases e;exact k Z H Ext.refl A.hp)
def zWf{X:Cx}{e:yG}{c:FT}(h:MT X e c):MF X [e] c:=z2y h
def At.δC{K:yB}{Z:List yg}{H:Hp}{Y:L2.St}{J:Loc}{μ:Mem}(A:At K Z H Y J μ)(n:Nat)(fr:List Nat):At K Z H (σC n fr Y) (M.δC n fr J) μ:=by
 refine⟨λi d e=>?_,A.hp,by unfold σC M.δC;simp⟩;unfold M.δC at e;unfold σC
 by_cases hi:i<n
 ·rw[yn (by simpa using hi),Yi]at e
  split at e<;>cases e
 ·have hi:n<=i:=Nat.le_of_not_lt hi;rw[yH (by simpa using hi),xU,yh]at e;rw[yH (by simpa using hi),xU,yh]
  cases e1:fr[i-n]? with
  |none=>rw[e1]at e;cases e
  |some j=>
   rw[e1]at e;have e2:(J[j]?).getD none=some d:=yS e
   have e3:J[j]?=some (some d):=by
    cases q:J[j]? with
    |none=>rw[q]at e2;cases e2
    |some z=>rw[q]at e2;exact congrArg some e2
   obtain⟨v,hv,r⟩:=A.st j d e3;exact⟨v,by rw[YO,hv];rfl,r⟩
def TK(n:Nat)(Y Y':L2.St):Prop:=Y'.length=Y.length/\∀(i:Nat),n<=i->Y'[i]?=Y[i]?
def TK.refl{n:Nat}{Y:L2.St}:TK n Y Y:=⟨rfl,λ_ _=>rfl⟩
def TK.trans{n:Nat}{Y Y1 Y2:L2.St}(a:TK n Y Y1)(b:TK n Y1 Y2):TK n Y Y2:=⟨b.1.trans a.1,λi h=>(b.2 i h).trans (a.2 i h)⟩
def tGc(K:yB)(n:Nat)(g:FG):TG:=λv Y H Q=>∃Z J μ d J' μ',At K Z H Y J μ/\tz K Z H d v/\g d J μ=some (J',μ')/\∀Z' Y' H',Ext Z H Z' H'->At K Z' H' Y' J' μ'->TK n Y Y'->Q Y' H'
def znB(K:yB)(n:Nat)(g:FGs):TGs:=λvs Y H Q=>∃Z J μ ds J' μ',At K Z H Y J μ/\tf K Z H ds vs/\g ds J μ=some (J',μ')/\∀Z' Y' H',Ext Z H Z' H'->At K Z' H' Y' J' μ'->TK n Y Y'->Q Y' H'
def MGc(X:Cx)(n:Nat)(t:yG)(g:FG):Prop:=PG X t (tGc X.K n g)
def z2z(X:Cx)(n:Nat)(t:List yG)(g:FGs):Prop:=PGs X t (znB X.K n g)
section
variable {X:Cx}{e:yG}{es:List yG}{pos:Xd}{n:Nat}
def zE{x:yF}(i:Nat)(hin:i<n:=by decide)(hN:X.N.Nodup:=by first|assumption|decide)(hi:X.N[i]?=some x:=by rfl)(hx:L2.Loc X.env.scope x:=by first|exact Or.inl rfl|exact Or.inr rfl)(hf:X.fn x=true\/X.env.scope.names.lookup x=some .local:=by first|exact .inl rfl|exact .inr rfl|assumption):MGc X n (.Name x pos) (gN i) :=
 by intro U s Y H v u Q I r hh;obtain⟨Z,J,μ,d,J',μ',A,q,e,k⟩:=hh;exact ztu hN hi hx hf U s Y H v u Q I r (by
  cases e;exact k Z _ H Ext.refl (A.set q i) ⟨by simp,λj hj=>yW (by omega)⟩)
def zVd:z2z X n [] zFe:=by intro U s Y H v u Q I r hh;obtain⟨Z,J,μ,d,J',μ',A,q,e,k⟩:=hh;exact zUt U s Y H v u Q I r (by
 unfold zFe at e
 split at e
 ·cases e;exact⟨q.nil_inv,k Z Y H Ext.refl A TK.refl⟩
 ·cases e)
def zcb{g:FG}{gs:FGs}(h1:MGc X n e g)(h2:z2z X n es gs)(hs:(YI (e::es) X.env).map (·.2)=assign e X.env::(YI es X.env).map (·.2):=by rfl):z2z X n (e::es) (zbb g gs) :=
 by intro U s Y H vs us Q I r hh;obtain⟨Z,J,μ,ds,J',μ',A,q,e,k⟩:=hh;exact zir h1 h2 hs U s Y H vs us Q I r (by
  unfold zbb at e
  split at e
  ·obtain⟨⟨J1,μ1⟩,e1,e⟩:=zi e;obtain⟨v,vr,rfl,q1,q2⟩:=q.cons_inv;refine⟨v,vr,rfl,Z,J,μ,_,J1,μ1,A,q1,e1,λZ1 Y1 H1 x1 A1 f1=>?_⟩;exact⟨Z1,J1,μ1,_,J',μ',A1,q2.ext x1,e,λZ2 Y2 H2 x2 A2 f2=>k Z2 Y2 H2 (x1.trans x2) A2 (f1.trans f2)⟩
  ·cases e)
def zJf{k m:Nat}{gs:FGs}(h:z2z X n es gs)(hc:X.calm=true:=by rfl)(hn:(YI es X.env).length=m:=by rfl)(hst:(YI es X.env).findIdx? (·.1)=none:=by rfl):MGc X n (.Tuple es k pos) (gT m gs) :=
 by intro U s Y H v u Q I r hh;obtain⟨Z,J,μ,d,J',μ',A,q,e,k⟩:=hh;exact z6w hc h hn hst U s Y H v u Q I r (by
  unfold gT at e
  split at e
  ·obtain⟨h1,e⟩:=z5 e;obtain⟨a,vs,rfl,e2,q2⟩:=q.tW;exact⟨a,vs,rfl,SqT.of e2,by rw[<-q2.length];exact beq_iff_eq.mp h1,Z,J,μ,_,J',μ',A,q2,e,k⟩
  ·cases e)
end
def zIu{n:Nat}{fr:List Nat}{Y Y':L2.St}(f:TK n (σC n fr Y) Y'):zcy (σC n fr Y) Y':=by
 refine⟨f.1,λi v e=>?_⟩;obtain⟨hi,_⟩:=σC_get e;rw[f.2 i hi];exact e
def Th:1000000<yI:=by rw[yZ];decide
def z5A{K:yB}{n:Nat}{fr:List Nat}{i:FI}{g:FG}{c:FT}{G:FE}{Z:List yg}{J:Loc}{μ:Mem}{Y:L2.St}{H:Hp}{d:D}{μ':Mem}{Q:VK}(A:At K Z H Y J μ)(e:fLC n fr i g c G J μ=some (d,μ'))
 (k:∀Z' H' v,Ext Z H Z' H'->tI K Z' H' μ'->tz K Z' H' d v->Q v H'):tLC n fr (tMI K i) (tGc K n g) (tMT K c) (tM K G) Y H Q:=by
 obtain⟨⟨ds,ok,μ1⟩,e1,e⟩:=zi e;obtain⟨hfew,e⟩:=z5 e;have hfew:ds.length<=1000000:=of_decide_eq_true hfew;refine⟨Z,J,μ,ds,ok,μ1,A,e1,λZ1 H1 δ x1 R1 II=>?_⟩;refine⟨λi m ys H'=>∃Z' es μ2,Ext Z1 H1 Z' H'/\tI K Z' H' μ2/\tf K Z' H' es ys/\es.length<=i/\i<=ds.length/\m=ds.length-i/\zcv g c G ok (δC n fr J) (ds.drop i) es μ2=some (d,μ'),⟨_,Z1,[],μ1,Ext.refl,R1,.nil,yP _,yP _,rfl,e⟩,?_⟩;rintro i m ys H' ⟨Z',es,μ2,x',R',re,hel,hi,rfl,ef⟩
 by_cases hlt:i<ds.length
 ·right
  have hd:ds.drop i=ds[i]::ds.drop (i+1):=drop_eq_getElem_cons hlt;rw[hd]at ef;unfold zcv at ef;obtain⟨hok,ef⟩:=z5 ef;obtain⟨⟨J2,μ3⟩,e2,ef⟩:=zi ef;obtain⟨⟨b,μ4⟩,e3,ef⟩:=zi ef;refine⟨II.go Z' H' μ2 i x' R' hok hlt,?_,λx H'' y=>?_⟩
  ·rw[<-re.length];exact Nat.lt_of_le_of_lt (yD hel (yD hi hfew)) Th
  ·obtain⟨xe,Re,rx⟩:=II.yld Z' H' μ2 i x H'' ds[i] x' R' hok (by simp[hlt]) y;have x':=x'.trans xe;have re:=re.ext xe;have A':At K Z' H'' (σC n fr Y) (δC n fr J) μ2:=((A.ext x1 R1).ext x' Re).δC n fr;refine⟨Z',_,μ2,ds[i],J2,μ3,A',rx,e2,λZ4 Y4 H4 x4 A4 f4=>⟨zIu f4,?_⟩⟩;refine⟨Z4,J2,μ3,b,μ4,A4,e3,λZ5 H5 x5 R5=>?_⟩
   cases b with
   |false=>exact Sa ⟨ds.length-(i+1),by omega,Z5,es,μ4,x'.trans (x4.trans x5),R5,re.ext (x4.trans x5),by omega,hlt,rfl,ef⟩
   |true=>
    obtain⟨⟨y,μ6⟩,e4,ef⟩:=zi ef;refine Sb ⟨Z5,J2,μ4,y,μ6,A4.ext x5 R5,e4,λZ6 H6 v x6 R6 r6=>?_⟩;exact⟨ds.length-(i+1),by omega,Z6,es++[y],μ6,x'.trans (x4.trans (x5.trans x6)),R6,(re.ext (x4.trans (x5.trans x6))).append (.cons r6 .nil),by simp;exact hel,hlt,rfl,ef⟩
 ·left
  have e0:i=ds.length:=by omega
  subst e0;rw[List.drop_length]at ef;unfold zcv at ef;obtain⟨hok,ef⟩:=z5 ef;cases ef;refine⟨II.stop Z' H' μ2 x' R' hok,λp hp=>?_⟩;exact k _ _ _ (x1.trans (x'.trans (Ext.push hp))) (R'.push hp ⟨ys,zH,re.ext (Ext.push hp)⟩) (.loc (zSb R'))
def zVA{X:Cx}{scope:xY}{elt tg iter:yG}{ifs:List yG}{pos:Xd}{i:FI}{g:FG}{c:FT}{G:FE}(own:List yF)(fr:List Nat)(hi:MI X tg iter i)
 (hg:∀cl C s₀ H₀ fp,MGc (cxC X own fr scope cl C s₀ H₀ fp) own.length tg g) (hq:∀cl C s₀ H₀ fp,MF (cxC X own fr scope cl C s₀ H₀ fp) ifs c) (he:∀cl C s₀ H₀ fp,ME (cxC X own fr scope cl C s₀ H₀ fp) elt G)
 (hc:X.calm=true:=by rfl) (hk:scope.kind=.function:=by rfl) (hnm:∀y∈scope.names,scope.names.lookup y.1=some y.2:=by decide)
 (hfree:∀x∈scope.names,x.2=.free->(X.env.kindOf x.1=some .cell\/X.env.kindOf x.1=some .free):=by decide) (hfr:∀i∈fr,∃x,X.N[i]?=some x/\scope.names.lookup x=some .free)
 (hs:∀x,YJ iter X.env x=pure x:=by intro _;rfl):ME X (.ListComp elt [⟨tg,iter,ifs,0⟩] scope pos) (fLC own.length fr i g c G) :=
 zwg (z7z (wi:=tMI X.K i) (g:=tGc X.K own.length g) (tc:=tMT X.K c) (te:=tM X.K G) own fr hc hi (λcl C s₀ H₀ fp=>hg cl C s₀ H₀ fp) (λcl C s₀ H₀ fp=>hq cl C s₀ H₀ fp) (λcl C s₀ H₀ fp=>he cl C s₀ H₀ fp) hk hnm hfree hfr hs) λZ J μ Y H d μ' Q A e k=>z5A A e k
def toP(μ:Mem):Nat->D->Option Xh
 |0,_=>none
 |n+1,d=>match d with
  |.non=>some .none
  |.bl b=>some (.bool b)
  |.int i=>some (.int i)
  |.str x=>bif xQ x then some (.str x) else none
  |.ty _=>none
  |.own _=>none
  |.tup ds=>(ds.mapM (toP μ n)).bind λps=>some (.tuple ps)
  |.fz ds=>(ds.mapM (toP μ n)).bind λps=>some (.list ps)
  |.loc k=>match μ[k]? with
   |some (.lst ds)=>(ds.mapM (toP μ n)).bind λps=>some (.list ps)
   |_=>none
def zxk{f:D->Option Xh}{ps:List Xh}(h:([]:List D).mapM f=some ps):ps=[]:=by
 simp at h;exact h
def zCi{f:D->Option Xh}{d:D}{ds:List D}{ps:List Xh}(h:(d::ds).mapM f=some ps):∃p r,f d=some p/\ds.mapM f=some r/\ps=p::r:=by
 rw[mapM_cons]at h;obtain⟨p,e1,h⟩:=zi h;obtain⟨r,e2,h⟩:=zi h;cases h;exact⟨p,r,e1,e2,rfl⟩
def zym{f:D->Option Xh}{m:Nat}(hf:∀d p,f d=some p->p.canLay0=true/\p.depth<=m):∀{ds:List D} {ps:List Xh},ds.mapM f=some ps->PyData.canLayAll0 ps=true/\PyData.depthAll ps<=m
 |[],ps,h=>by rw[zxk h];exact⟨rfl,yP _⟩
 |d::ds,ps,h=>by
  obtain⟨p,r,e1,e2,rfl⟩:=zCi h;obtain⟨h1,h2⟩:=hf d p e1;obtain⟨h3,h4⟩:=zym hf e2;refine⟨?_,?_⟩
  ·simp only[PyData.canLayAll0,h1,h3,Bool.and_true]
  ·simp only[PyData.depthAll];omega
def zSo{μ:Mem}:∀(n:Nat)(d:D)(p:Xh),toP μ n d=some p->p.canLay0=true/\p.depth<=n
 |0,d,p,h=>by cases h
 |n+1,d,p,h=>by
  have seq:∀{ds:List D} {c:List Xh->Xh},(∀ps,(c ps).canLay0=PyData.canLayAll0 ps)->(∀ps,(c ps).depth=PyData.depthAll ps+1)->((ds.mapM (toP μ n)).bind λps=>some (c ps))=some p->p.canLay0=true/\p.depth<=n+1:=λ{ds c} h1 h2 h=>by
   obtain⟨ps,e1,e2⟩:=zi h;cases e2;obtain⟨q1,q2⟩:=zym (zSo n) e1;exact⟨by rw[h1];exact q1,by rw[h2];omega⟩
  unfold toP at h
  cases d with
  |non=>cases h;exact⟨rfl,yP _⟩
  |bl b=>cases h;exact⟨rfl,yP _⟩
  |int b=>cases h;exact⟨rfl,yP _⟩
  |str x=>
   obtain⟨h1,h2⟩:=z5 h;cases h2;exact⟨h1,yP _⟩
  |ty _=>cases h
  |own _=>cases h
  |tup ds=>exact seq (λ_=>rfl) (λ_=>rfl) h
  |fz ds=>exact seq (λ_=>rfl) (λ_=>rfl) h
  |loc k=>
   dsimp only at h
   split at h
   ·exact seq (λ_=>rfl) (λ_=>rfl) h
   ·cases h
section
variable {X:Cx}{U:List (yg×xa)}{Y:L2.St}{H:Hp}{s:ye}{Z:List yg}{μ:Mem}
def z4i{f:D->Option Xh}(hf:∀d p v u,f d=some p->tz X.K Z H d v->RelV v u->∃as,Reads s.heap u p as):∀{ds:List D} {ps:List Xh} {vs:List V} {us:List yb},ds.mapM f=some ps->tf X.K Z H ds vs->Vals vs us->∃as,ReadsAll s.heap us ps as
 |[],ps,vs,us,h,r,q=>by
  rw[zxk h];rw[r.nil_inv]at q;cases q;exact⟨[],.nil⟩
 |d::ds,ps,vs,us,h,r,q=>by
  obtain⟨p,pr,e1,e2,rfl⟩:=zCi h;obtain⟨v,vr,rfl,r1,r2⟩:=r.cons_inv
  cases q with
  |cons q1 q2=>
   obtain⟨a1,h1⟩:=hf _ _ _ _ e1 r1 q1;obtain⟨a2,h2⟩:=z4i hf e2 r2 q2;exact⟨_,.cons h1 h2⟩
def zng(I:Inv X U Y H s)(R:tI X.K Z H μ):∀(n:Nat)(d:D)(p:Xh)(v:V)(u:yb),toP μ n d=some p->tz X.K Z H d v->RelV v u->∃as,Reads s.heap u p as
 |0,d,p,v,u,h,_,_=>by cases h
 |n+1,d,p,v,u,h,r,q=>by
  unfold toP at h
  cases d with
  |non=>cases h;rw[r.tL]at q;cases q;exact⟨_,.none⟩
  |bl b=>cases h;rw[r.tU]at q;cases q;exact⟨_,.bool b⟩
  |int b=>cases h;rw[r.int_inv]at q;obtain⟨t,rfl⟩:=q;exact⟨_,.int b t⟩
  |str x=>
   obtain⟨h1,h2⟩:=z5 h;cases h2;rw[r.str_inv]at q;obtain⟨t,rfl⟩:=q;exact⟨_,.str x t⟩
  |ty _=>cases h
  |own _=>cases h
  |tup ds=>
   obtain⟨ps,e1,e2⟩:=zi h;cases e2;obtain⟨a,vs,rfl,e3,rr⟩:=r.tW;cases q;obtain⟨its,rv,⟨o,ho,hc,k,hd⟩,_⟩:=I.tuple (SqT.of e3);obtain⟨as,ha⟩:=z4i (zng I R n) e1 rr rv;exact⟨_,reads_tuple_at ho hc hd (by simpa using ha)⟩
  |fz ds=>
   obtain⟨ps,e1,e2⟩:=zi h;cases e2;obtain⟨a,vs,rfl,e3,rr⟩:=r.sg;cases q;obtain⟨its,rv,⟨o,k,ho,hc,_,hd⟩,_⟩:=I.list e3.sq;obtain⟨as,ha⟩:=z4i (zng I R n) e1 rr rv;exact⟨_,reads_list_at ho hc hd (by simpa using ha)⟩
  |loc k=>
   dsimp only at h
   split at h
   ·rename_i hm
    obtain⟨ps,e1,e2⟩:=zi h;cases e2;obtain⟨a,rfl,e2⟩:=r.tD;obtain⟨vs,e3,rr⟩:=R.at_ _ _ _ e2 hm;cases q;obtain⟨its,rv,⟨o,k,ho,hc,_,hd⟩,_⟩:=I.list (SqL.of (K:=X.K) e3);obtain⟨as,ha⟩:=z4i (zng I R n) e1 rr rv;exact⟨_,reads_list_at ho hc hd (by simpa using ha)⟩
   ·cases h
end
def gEq:φ2:=λx y μ=>(toP μ 8 x).bind λp=>(toP μ 8 y).bind λq=>some (.bl (Yu p q),μ)
def gNe:φ2:=λx y μ=>(toP μ 8 x).bind λp=>(toP μ 8 y).bind λq=>some (.bl (!PyData.eqv p q),μ)
def zTi{μ:Mem}{d:D}{p:Xh}(h:toP μ 8 d=some p):SeqAt.shaped p=true:=by
 obtain⟨h1,h2⟩:=zSo 8 d p h;unfold SeqAt.shaped;rw[h1,decide_eq_true (by omega)];rfl
section
variable {X:Cx}{a b c e:yG}{es:List yG}{G ψ χ:FE}{pos:Xd}
def zPc(hu:X.A.units+64<cLine):OpM X (Yl .Eq) gEq:=by
 refine OpM.of λU s Y H x y v u Q I rx ry Z dx dy μ d μ' r1 r2 R e k=>?_;obtain⟨p,e1,e⟩:=zi e;obtain⟨q,e2,e⟩:=zi e;cases e;obtain⟨as,h1⟩:=zng I R 8 dx p x v e1 r1 rx;obtain⟨bs,h2⟩:=zng I R 8 dy q y u e2 r2 ry;exact eq_dataH h1 h2 (zTi e1) (zTi e2) hu ⟨.bl _,H,I,rfl,k Z H _ Ext.refl R .bl⟩
def zjf(hu:X.A.units+64<cLine):OpM X (Yl .NotEq) gNe:=by
 refine OpM.of λU s Y H x y v u Q I rx ry Z dx dy μ d μ' r1 r2 R e k=>?_;obtain⟨p,e1,e⟩:=zi e;obtain⟨q,e2,e⟩:=zi e;cases e;obtain⟨as,h1⟩:=zng I R 8 dx p x v e1 r1 rx;obtain⟨bs,h2⟩:=zng I R 8 dy q y u e2 r2 ry;exact ne_dataH h1 h2 (zTi e1) (zTi e2) hu ⟨.bl _,H,I,rfl,k Z H _ Ext.refl R .bl⟩
@[simp] def gIs:φ2:=λx y μ=>match x,y with
 |.bl i,.bl j=>some (.bl (i==j),μ)
 |.non,.non=>some (.bl true,μ)
 |.bl _,.non=>some (.bl false,μ)
 |.int _,.non=>some (.bl false,μ)
 |.str _,.non=>some (.bl false,μ)
 |.tup _,.non=>some (.bl false,μ)
 |.loc _,.non=>some (.bl false,μ)
 |_,_=>none
@[simp] def zWg:φ2:=λx y μ=>match x,y with
 |.bl i,.bl j=>some (.bl (i != j),μ)
 |.non,.non=>some (.bl false,μ)
 |.bl _,.non=>some (.bl true,μ)
 |.int _,.non=>some (.bl true,μ)
 |.str _,.non=>some (.bl true,μ)
 |.tup _,.non=>some (.bl true,μ)
 |.loc _,.non=>some (.bl true,μ)
 |_,_=>none
def zPq:OpM X (Yl .Is) gIs:=by
 refine OpM.of λU s Y H x y v u Q I rx ry Z dx dy μ d μ' r1 r2 R e k=>?_;unfold gIs at e
 split at e<;>cases e
 ·rw[r1.tU]at rx;rw[r2.tU]at ry;cases rx;cases ry;exact is_bool ⟨.bl _,H,I,rfl,k Z H _ Ext.refl R .bl⟩
 ·exact zZm U s Y H x y v u Q I rx ry ⟨r2.tL,by rw[r1.tL];exact k Z H _ Ext.refl R .bl⟩
 ·exact zZm U s Y H x y v u Q I rx ry ⟨r2.tL,by rw[r1.tU];exact k Z H _ Ext.refl R .bl⟩
 ·exact zZm U s Y H x y v u Q I rx ry ⟨r2.tL,by rw[r1.int_inv];exact k Z H _ Ext.refl R .bl⟩
 ·exact zZm U s Y H x y v u Q I rx ry ⟨r2.tL,by rw[r1.str_inv];exact k Z H _ Ext.refl R .bl⟩
 ·exact zZm U s Y H x y v u Q I rx ry ⟨r2.tL,by obtain⟨a,vs,rfl,_⟩:=r1.tW;exact k Z H _ Ext.refl R .bl⟩
 ·exact zZm U s Y H x y v u Q I rx ry ⟨r2.tL,by obtain⟨a,rfl,_⟩:=r1.tD;exact k Z H _ Ext.refl R .bl⟩
def z2d:OpM X (Yl .IsNot) zWg:=by
 refine OpM.of λU s Y H x y v u Q I rx ry Z dx dy μ d μ' r1 r2 R e k=>?_;unfold zWg at e
 split at e<;>cases e
 ·rw[r1.tU]at rx;rw[r2.tU]at ry;cases rx;cases ry;exact isnot_bool ⟨.bl _,H,I,rfl,k Z H _ Ext.refl R .bl⟩
 ·exact z1j U s Y H x y v u Q I rx ry ⟨r2.tL,by rw[r1.tL];exact k Z H _ Ext.refl R .bl⟩
 ·exact z1j U s Y H x y v u Q I rx ry ⟨r2.tL,by rw[r1.tU];exact k Z H _ Ext.refl R .bl⟩
 ·exact z1j U s Y H x y v u Q I rx ry ⟨r2.tL,by rw[r1.int_inv];exact k Z H _ Ext.refl R .bl⟩
 ·exact z1j U s Y H x y v u Q I rx ry ⟨r2.tL,by rw[r1.str_inv];exact k Z H _ Ext.refl R .bl⟩
 ·exact z1j U s Y H x y v u Q I rx ry ⟨r2.tL,by obtain⟨a,vs,rfl,_⟩:=r1.tW;exact k Z H _ Ext.refl R .bl⟩
 ·exact z1j U s Y H x y v u Q I rx ry ⟨r2.tL,by obtain⟨a,rfl,_⟩:=r1.tD;exact k Z H _ Ext.refl R .bl⟩
inductive Ty where
 |non|bl|int|str|tup|lst|dict
 deriving DecidableEq
@[simp] def Ty.name:Ty->String
 |.non=>"NoneType" | .bl=>"bool" | .int=>"int" | .str=>"str" | .tup=>"tuple" | .lst=>"list" | .dict=>"dict"
@[simp] def zeB:D->Bool
 |.bl _=>true
 |_=>false
@[simp] def blB:D->Bool
 |.bl b=>b
 |_=>false
@[simp] def zYz:GL:=λds μ=>match ds with
 |[.loc n]=>match μ[n]? with
  |some (.lst xs)=>bif xs.all zeB then some (.bl (xs.all blB),μ) else none
  |_=>none
 |_=>none
def zkt(hc:X.calm=true):tZ X (.builtin "all") zYz:=by
 refine tZ.of λU s Y H xs us Q I r Z ds μ d μ' r1 R e k=>?_;unfold zYz at e
 split at e
 ·split at e
  ·rename_i n _ ys hm
   obtain⟨hb,e⟩:=z5 e;cases e;obtain⟨v,rr,rfl,q1,q2⟩:=r1.cons_inv;obtain⟨a,rfl,e2⟩:=q1.tD;obtain⟨vs,e3,q3⟩:=R.at_ _ _ _ e2 hm;rw[q2.nil_inv]at r;obtain⟨u,rfl,ru⟩:=vals1 r;cases ru;obtain⟨its,rv,pl,hz⟩:=I.list (SqL.of (K:=X.K) e3);have hlt:a<s.heap.objs.size:=by obtain⟨_,_,e,_⟩:=pl;exact ym e
   refine call_all_walk (xZ pl.isList ?_);refine⟨_,_,_,_,_,_,λi=>blB (ys.getD i .non),rfl,Walks.list (A:=X.A.in1) (I.ok.hd hc) s.heap.objs.size a (yw hlt) its.toArray,⟨⟨_,yp _ rfl,rfl,rfl⟩,pl.isList.push _⟩,?_,λh' tk hk=>?_⟩
   ·intro i w s' Q' E' hP hQ;have hi:its[i]?=some w:=by simpa using hP
    have hil:i<ys.length:=by
     have h1:=(List.getElem?_eq_some_iff.mp hi).1;rw[q3.length,rv.length];exact h1
    have hyi:ys[i]?=some ys[i]:=by simp[hil]
    obtain⟨vv,ev,rvv⟩:=q3.get hyi;obtain⟨ww,ew,rww⟩:=rv.get ev;rw[hi]at ew;cases ew;have hall:=List.all_eq_true.mp hb ys[i] (getElem_mem hil)
    have hQ':Q' (blB ys[i]) s':=by
     have e:ys.getD i .non=ys[i]:=by rw[getD_eq_getElem?_getD,hyi];rfl
     rw[<-e];exact hQ
    cases hyb:ys[i] with
    |bl b=>
     rw[hyb]at rvv hQ';rw[rvv.tU]at rww;cases rww;exact xb hQ'
    |_=>rw[hyb]at hall;cases hall
   ·have hsz:its.toArray.size=ys.length:=by rw[q3.length,rv.length];simp
    have eall:((yd its.toArray.size).all λi=>blB (ys.getD i .non))=ys.all blB:=by
     rw[hsz,xc,all_eq_true,all_eq_true];constructor
     ·intro h y hy;obtain⟨i,hi,rfl⟩:=List.mem_iff_getElem.mp hy;have:=h i (by simpa using hi);rw[getD_eq_getElem?_getD,show ys[i]?=some ys[i] by simp[hi]]at this;exact this
     ·intro h i hi;have hi':i<ys.length:=by simpa using hi
      rw[getD_eq_getElem?_getD,show ys[i]?=some ys[i] by simp[hi']];exact h ys[i] (getElem_mem hi')
    rw[eall];have I1:Inv X U Y H {s with heap:=s.heap.push {cls:=.type "list_iterator",data:=.fields #[.ref a,.int 0 0]}}:=I.kept (t':=s.toks) λb o e=>yf _ e;have hfr:=I1.hok;refine⟨.bl _,H,I.kept (h':=h') (t':=tk) λb o e=>hk b o (by simpa using yw (ym e)) (yf _ e),rfl,k Z H _ Ext.refl R .bl⟩
  ·cases e
 ·cases e
def zlv{scope:xY}{elt tg iter:yG}{ifs:List yG}{spos py:Xd}{y:yF}{fi:FI}{g:FG}{ct:FT}(i:Nat)(own:List yF)(fr:List Nat)(hi:MI X tg iter fi)
 (hg:∀cl C s₀ H₀ fp,MGc (cxC X own fr scope cl C s₀ H₀ fp) own.length tg g) (hq:∀cl C s₀ H₀ fp,MF (cxC X own fr scope cl C s₀ H₀ fp) ifs ct) (he:∀cl C s₀ H₀ fp,ME (cxC X own fr scope cl C s₀ H₀ fp) elt G)
 (hfr:∀i∈fr,∃x,X.N[i]?=some x/\scope.names.lookup x=some .free)
 (hN:X.N.Nodup:=by first|assumption|decide) (hiN:X.N[i]?=some y:=by rfl) (hy:X.env.scope.names.lookup y=some .local:=by rfl)
 (hsw:swapsWith (.ListComp elt [⟨tg,iter,ifs,0⟩] scope pos) (some (.Name y py)) spos.line X.env=pure true:=by rfl)
 (hc:X.calm=true:=by rfl) (hk:scope.kind=.function:=by rfl) (hnm:∀y∈scope.names,scope.names.lookup y.1=some y.2:=by decide)
 (hfree:∀x∈scope.names,x.2=.free->(X.env.kindOf x.1=some .cell\/X.env.kindOf x.1=some .free):=by decide)
 (hs:∀x,YJ iter X.env x=pure x:=by intro _;rfl):MS X (.Assign [.Name y py] (.ListComp elt [⟨tg,iter,ifs,0⟩] scope pos) spos) (zNb i (fLC own.length fr fi g ct G)) :=
 ztm (zqw (wi:=tMI X.K fi) (g:=tGc X.K own.length g) (tc:=tMT X.K ct) (te:=tM X.K G) own fr hN hiN hy hc hi hsw (λcl C s₀ H₀ fp=>hg cl C s₀ H₀ fp) (λcl C s₀ H₀ fp=>hq cl C s₀ H₀ fp) (λcl C s₀ H₀ fp=>he cl C s₀ H₀ fp) hk hnm hfree hfr hs) λZ J μ Y H o E A e k=>by
  obtain⟨⟨x,μ1⟩,e1,e⟩:=zi e;cases e;exact z5A A e1 λZ' H' v x' R r=>k Z' _ H' x' ((A.ext x' R).set r i)
end
@[simp] def zkb:Option Out->Option (D×Mem)
 |some (.ret d μ)=>some (d,μ)
 |some (.next _ μ)=>some (.non,μ)
 |_=>none
@[simp] def zM(N:List yF)(ds:List D):Loc:=ds.map some++yo (N.length-ds.length) none
def zcw{K:yB}{Z:List yg}{H:Hp}{μ:Mem}{N:List yF}{ds:List D}{vs:List V}(r:tf K Z H ds vs)(R:tI K Z H μ):At K Z H (L2.start N vs) (zM N ds) μ:=by
 refine⟨λi d e=>?_,R,by unfold L2.start zM;simp[r.length]⟩;unfold zM at e;unfold L2.start
 by_cases hi:i<ds.length
 ·rw[yn (by simpa using hi),yh]at e
  cases e1:ds[i]? with
  |none=>rw[e1]at e;cases e
  |some d'=>
   rw[e1]at e;cases e;obtain⟨v,e2,q⟩:=r.get e1;refine⟨v,?_,q⟩;rw[yn (by simpa[<-r.length] using hi),yh,e2];rfl
 ·rw[yH (by simpa using hi),Yi]at e
  split at e<;>cases e
def fnM{P:yy}{w:yJ}{K:yB}{mg:yF->Option yb}{base:Ye}{x qual:yF}{st:Yb}{f:yg}{fd:yj}{N ps:List yF}{k n:Nat}{F:FF}(φ:Fun K x qual st f fd)(S:tq N ps (zp st))(hn:ps.length=n)
 (hbody:∀(cdv:yb)(A:yM)(outer:List Env)(s:ye)(H:Hp)(E:XK),Tk k (A.deeper (envOfC qual (zp st) s.heap.objs.size f cdv)) ->
  ∃p,MSs (zxx CX0 P w K mg base N qual (zp st) f cdv A outer s H E).nox (zCd st) p/\∀ds μ d μ',ds.length=n->F ds μ=some (d,μ')->zkb (p (zM N ds) μ)=some (d,μ')) :
 tm P w K mg base CX0 (k+1) f fd ps (spM K n F):=by
 refine φ.ok S (λvs H Q E h=>by rw[hn];exact h.1) (λcdv A outer s H vs Q E hr h=>?_);obtain⟨p,hp,hF⟩:=hbody cdv A outer s H E hr;refine⟨_,hp,?_⟩;obtain⟨hl,Z,ds,μ,d,μ',r,R,e,k⟩:=h;have e':=hF ds μ d μ' (by rw[r.length];exact hl) e
 cases eo:p (zM N ds) μ with
 |none=>rw[eo]at e';cases e'
 |some o=>
  rw[eo]at e';refine⟨Z,zM N ds,μ,o,zcw r R,eo,?_⟩
  cases o with
  |ret d2 μ2=>cases e';exact λZ' v H' x' R' r'=>k Z' H' v x' R' r'
  |next J2 μ2=>cases e';exact λZ' Y' H' x' A'=>k Z' H' .non x' A'.hp .non
  |brk _ _=>cases e'
  |cont _ _=>cases e'
  |exc _ _ _=>cases e'
def zZw(sc inner:xY):Bool:=(inner.kind == .function)&&inner.names.all (λy=>inner.names.lookup y.1==some y.2) &&
 inner.names.all λx=>x.2 != .free||sc.names.lookup x.1==some .cell||sc.names.lookup x.1==some .free
def z0o{sc inner:xY}(h:zZw sc inner=true):inner.kind=.function:=by
 unfold zZw at h;simp only[yz,beq_iff_eq]at h;exact h.1.1
def zbv{sc inner:xY}(h:zZw sc inner=true):∀y∈inner.names,inner.names.lookup y.1=some y.2:=by
 unfold zZw at h;simp only[yz]at h;intro y hy;exact beq_iff_eq.mp (List.all_eq_true.mp h.1.2 y hy)
def zEp{sc inner:xY}(h:zZw sc inner=true):∀x∈inner.names,x.2=.free->(sc.names.lookup x.1=some .cell\/sc.names.lookup x.1=some .free):=by
 unfold zZw at h;simp only[yz]at h;intro y hy e;have:=List.all_eq_true.mp h.2 y hy;simpa[e] using this
def zF{N:List yF}(h:decide N.Nodup=true):N.Nodup:=of_decide_eq_true h
def ztb{P:Nat->Prop}:∀i∈([]:List Nat),P i:=λi h=>nomatch h
def z9{P:Nat->Prop}{i:Nat}{l:List Nat}(h:P i)(r:∀j∈l,P j):∀j∈i::l,P j:=λj hj=>by
 rcases List.mem_cons.mp hj with rfl|hj
 ·exact h
 ·exact r j hj
section
variable {X:Cx}{a b c e:yG}{es:List yG}{G ψ χ:FE}{pos:Xd}
def mlc{scope:xY}{elt tg iter:yG}{ifs:List yG}{i:FI}{g:FG}{ct:FT}(own:List yF)(fr:List Nat)(hi:MI X tg iter i)
 (hg:∀cl C s₀ H₀ fp,MGc (cxC X own fr scope cl C s₀ H₀ fp) own.length tg g) (hq:∀cl C s₀ H₀ fp,MF (cxC X own fr scope cl C s₀ H₀ fp) ifs ct) (he:∀cl C s₀ H₀ fp,ME (cxC X own fr scope cl C s₀ H₀ fp) elt G)
 (hfr:∀i∈fr,∃x,X.N[i]?=some x/\scope.names.lookup x=some .free) (hok:zZw X.env.scope scope=true:=by rfl) (hc:X.calm=true:=by rfl) (hs:∀x,YJ iter X.env x=pure x:=by intro _;rfl) :
 ME X (.ListComp elt [⟨tg,iter,ifs,0⟩] scope pos) (fLC own.length fr i g ct G) :=
 zVA own fr hi hg hq he hc (z0o hok) (zbv hok) (zEp hok) hfr hs
def mslc{scope:xY}{elt tg iter:yG}{ifs:List yG}{spos py:Xd}{y:yF}{fi:FI}{g:FG}{ct:FT}(i:Nat)(own:List yF)(fr:List Nat)(hi:MI X tg iter fi)
 (hg:∀cl C s₀ H₀ fp,MGc (cxC X own fr scope cl C s₀ H₀ fp) own.length tg g) (hq:∀cl C s₀ H₀ fp,MF (cxC X own fr scope cl C s₀ H₀ fp) ifs ct) (he:∀cl C s₀ H₀ fp,ME (cxC X own fr scope cl C s₀ H₀ fp) elt G)
 (hfr:∀i∈fr,∃x,X.N[i]?=some x/\scope.names.lookup x=some .free) (hN:X.N.Nodup) (hiN:X.N[i]?=some y:=by rfl) (hy:X.env.scope.names.lookup y=some .local:=by rfl)
 (hsw:swapsWith (.ListComp elt [⟨tg,iter,ifs,0⟩] scope pos) (some (.Name y py)) spos.line X.env=pure true:=by rfl) (hok:zZw X.env.scope scope=true:=by rfl) (hc:X.calm=true:=by rfl) (hs:∀x,YJ iter X.env x=pure x:=by intro _;rfl) :
 MS X (.Assign [.Name y py] (.ListComp elt [⟨tg,iter,ifs,0⟩] scope pos) spos) (zNb i (fLC own.length fr fi g ct G)) :=
 zlv i own fr hi hg hq he hfr hN hiN hy hsw hc (z0o hok) (zbv hok) (zEp hok) hs
structure FnAt(K:yB)(mg:yF->Option yb)(x:yF)(st:Yb)(ps:List yF)(f:yg)(fd:yj):Prop where
 fn:Fun K x x st f fd
 at_:mg x=some (.ref f)
 bd:Binds K fd ps []
def tj{k j n:Nat}{st:Yb}{f:yg}{fd:yj}{ps:List yF}{F:FF}{x:yF}{p:Xd}{G:FA}(B:FnAt X.K X.mg x st ps f fd)(φ:tm X.prog X.w X.K X.mg X.base CX0 j f fd ps (spM X.K n F))(hr:Tk k X.A)
 (ha:MAn X (e::es) G) (hj:j<=k:=by decide) (hn:(e::es).length=n:=by rfl) (hg:Gl X x:=by rfl) (hdb:(x==("__debug__":yF))=false:=by decide) (he:yu (e::es) X.env=(false,Yx e X.env)::yu es X.env:=by exact zql rfl) (hpl:(YY pos (yu es X.env)).any (·.1)=false:=by rfl) :
 ME X (.Call (.Name x p) (e::es) [] pos) (zq F G):=zoy φ (hr.mono hj) B.at_ B.fn.kp B.bd ha hn hg hdb he hpl
def cat0{prog:yy}{w:yJ}{A:yM}{E:yb->ye->Prop}{s:ye}{t b:yg}{vs ws:List yb}{Q:yb->ye->Prop}(ht:IsTup s.heap t vs.toArray)(hb:IsTup s.heap b ws.toArray)(hv:vs=[])(h:Q (.ref b) s) :
 yq (yA prog w) A (xH .Add (.ref t) (.ref b)) Q E s:=by
 obtain⟨⟨cls,dd,data,sl⟩,ho,hc,n,hd⟩:=id ht;obtain⟨⟨cls2,dd2,data2,sl2⟩,ho2,hc2,n2,hd2⟩:=id hb;simp only at hc hd hc2 hd2;subst hc hd hc2 hd2;refine concat_meets ⟨_,ho,rfl⟩ ⟨_,ho2,rfl⟩ noFill_tuple_add seq_tuple_add PySem.F.slot_tuple_add PySem.F.entry_tuple_add (PySem.F.args_tuple_add_2 _ _) (tuple_addW0 t b vs.toArray ws.toArray n n2 dd dd2 sl sl2 (by rw[hv];rfl)) ⟨ho,ho2,h⟩
def zKc:OpM X (xH .Add) znm:=by
 refine OpM.of λU s Y H x y v u Q I rx ry Z dx dy μ d μ' r1 r2 R e k=>?_;unfold znm at e
 split at e
 ·cases e;rw[r1.int_inv]at rx;rw[r2.int_inv]at ry;obtain⟨t,rfl⟩:=rx;obtain⟨t',rfl⟩:=ry;exact add_int ⟨.int _,H,I.tok _,⟨_,rfl⟩,k Z H _ Ext.refl R .int⟩
 ·rename_i as bs
  obtain⟨h1,e⟩:=z5 e;have h1:=of_decide_eq_true h1;cases e;obtain⟨a1,vs,rfl,e1,q1⟩:=r1.tW;obtain⟨a2,ws,rfl,e2,q2⟩:=r2.tW;have hm:=Th;have hl1:=q1.length;have hl2:=q2.length
  by_cases hv:vs=[]
  ·cases rx;cases ry;obtain⟨its,rv,p1,_⟩:=I.tuple (SqT.of (K:=X.K) e1);obtain⟨its2,rv2,p2,_⟩:=I.tuple (SqT.of (K:=X.K) e2);refine cat0 p1 p2 (rv.TY.mpr hv) ⟨.ref a2,H,I,rfl,k Z H _ Ext.refl R ?_⟩;have ha:as=[]:=by rw[hv]at hl1;exact List.length_eq_zero_iff.mp hl1
   rw[ha,List.nil_append];exact r2
  ·refine z4x U s Y H _ _ v u Q I rx ry ⟨a1,a2,vs,ws,rfl,rfl,SqT.of e1,SqT.of e2,hv,by omega,λhw=>?_,λ_ p hp=>?_⟩
   ·have hb:bs=[]:=by rw[hw]at hl2;exact List.length_eq_zero_iff.mp hl2
    rw[hb,List.append_nil]at k;exact k Z H _ Ext.refl R r1
   ·exact k Z _ _ (Ext.new hp) (R.Ts hp) (.tup zH ((q1.append q2).ext (Ext.new hp)))
 ·split at e
  ·rename_i hm1 hm2
   obtain⟨h1,e⟩:=z5 e;have h1:=of_decide_eq_true h1;cases e;obtain⟨a1,rfl,e1⟩:=r1.tD;obtain⟨a2,rfl,e2⟩:=r2.tD;obtain⟨vs,e3,q1⟩:=R.at_ _ _ _ e1 hm1;obtain⟨ws,e4,q2⟩:=R.at_ _ _ _ e2 hm2;have hm:=Th;have hl1:=q1.length;have hl2:=q2.length;exact zYy U s Y H _ _ v u Q I rx ry ⟨a1,a2,vs,ws,rfl,rfl,e3,e4,by omega,λp hp=>k _ _ _ (Ext.push hp) (R.push hp ⟨_,zH,(q1.append q2).ext (Ext.push hp)⟩) (.loc (zSb R))⟩
  ·cases e
 ·cases e
def zlm:fillsNumberSlot (.type "tuple") "mul"=pure false :=
 PyProof.Rows.fillsNumberSlot_seq (id:="tuple.__mul__") (r:=some (.builtin "tuple.__rmul__")) PySem.F.slot_tuple_mul.lookup (by decide +kernel) PySem.F.slot_tuple_rmul.lookup (by decide +kernel)
def zxs:seqRepeat? (.type "tuple")=pure (some (.builtin "tuple.__mul__")):=by
 unfold seqRepeat?;rw[PyProof.Rows.seqSlot_of (T:="tuple") (name:="__mul__") (id:="tuple.__mul__") PySem.F.slot_tuple_mul.lookup (by decide +kernel),PyProof.Rows.seqSlot_of (T:="tuple") (name:="__rmul__") (id:="tuple.__rmul__") PySem.F.slot_tuple_rmul.lookup (by decide +kernel)];rfl
def zQj(i:Int)(t:Tok)(l:yg)(items:Array yb)(n:Nat)(dd:Option yg)(sl:Array (Option yb)) :
 Meets (YW.«int.__rmul__» ⟨[.int i t,.ref l],[]⟩) (λ_ R s=>s.heap.get? l=some {cls:=.type "tuple",dict:=dd,data:=.seq items n,slots:=sl }/\R (.ok (.ret Value.notImplemented)) s) :=
 .of_wp λprog w A R s h=>by
  obtain⟨hp,g,d,tk,os⟩:=s;obtain⟨hl,h⟩:=h
  wp_walk
  exact⟨_,rfl,h⟩
def zeo(l:yg)(items:Array yb)(n:Nat)(dd:Option yg)(sl:Array (Option yb))(i:Int)(t:Tok)(h2:2<=i)(h3:i<=1000)(h4:items.isEmpty=false)(h5:items.size<=1000)
 (hsz:((yo i.toNat items).foldl (λx1 x2=>x1++x2) #[]).size<=yI) :
 Meets (YW.«tuple.__mul__» ⟨[.ref l,.int i t],[]⟩) (λ_ R s=>s.heap.get? l=some {cls:=.type "tuple",dict:=dd,data:=.seq items n,slots:=sl } /\
  R (.ok (.ret (YE s.heap.objs.size))) {s with heap:=s.heap.push {cls:=Yo "tuple",data:=Data.seq ((yo i.toNat items).foldl (λx1 x2=>x1++x2) #[])},toks:=s.toks }) :=
 .of_wp λprog w A R s h=>by
  obtain⟨hp,g,d,tk,os⟩:=s;obtain⟨hl,h⟩:=h;have f1:=AutoSeq1.idx_int
  have c1:¬((decide (i < -(2^63))||decide (i≥2^63))=true):=by
   rw[decide_eq_false (by omega),decide_eq_false (by omega)];exact yv
  have c2:¬((items.isEmpty||i==1)=true):=by
   rw[h4,show(i==1)=false by simp;omega];exact yv
  have c3:¬((decide (i<=0)||items.isEmpty)=true):=by
   rw[h4,decide_eq_false (by omega)];exact yv
  have c4:¬((items.size:Int)*i>(2^63-1) / 8):=by
   have h6:(items.size:Int)*i<=1000*1000:=Int.mul_le_mul (by omega) h3 (by omega) (by omega);omega
  have c5:¬(Builtin.Tuple.tupleTooMany ((items.size:Int)*i)=true):=by
   have h6:(items.size:Int)*i<=1000*1000:=Int.mul_le_mul (by omega) h3 (by omega) (by omega);have hz:(yI:Int)=16777216:=by rw[yZ];rfl
   unfold Builtin.Tuple.tupleTooMany;rw[decide_eq_false (by omega)];exact yv
  wp_walk using xf hl
  rw[if_neg c1]
  wp_walk using xf hl
  rw[if_neg c2];dsimp only;rw[if_neg c3,if_neg c4,if_neg c5];refine ya (m:=YU _) (yT (yi ⟨_,rfl,h⟩) hsz)
def zBm(its:List yb):∀(n:Nat)(acc:List yb),List.foldl (λx1 x2=>x1++x2) acc.toArray (yo n its.toArray)=(acc++(yo n its).flatten).toArray
 |0,acc=>by simp
 |n+1,acc=>by
  rw[replicate_succ,List.foldl_cons,List.append_toArray,zBm its n,replicate_succ,flatten_cons,append_assoc]
def zcq{K:yB}{Z:List yg}{H:Hp}{ds:List D}{vs:List V}(r:tf K Z H ds vs):∀n:Nat,tf K Z H (yo n ds).flatten (yo n vs).flatten
 |0 =>.nil
 |n+1=>by
  rw[replicate_succ,replicate_succ,flatten_cons,flatten_cons];exact r.append (zcq r n)
def zSn{vs:List V}{us:List yb}(r:Vals vs us):∀n:Nat,Vals (yo n vs).flatten (yo n us).flatten
 |0 =>.nil
 |n+1=>by
  rw[replicate_succ,replicate_succ,flatten_cons,flatten_cons];exact r.append (zSn r n)
def zFd:OpM X (xH .Mult) zPl:=by
 refine OpM.of λU s Y H x y v u Q I rx ry Z dx dy μ d μ' r1 r2 R e k=>?_;unfold zPl at e
 split at e
 ·obtain⟨h1,e⟩:=z5 e;cases e;rw[r1.int_inv]at rx;rw[r2.int_inv]at ry;obtain⟨t,rfl⟩:=rx;obtain⟨t',rfl⟩:=ry;exact mul_int ⟨.int _,H,I.tok _,⟨_,rfl⟩,k Z H _ Ext.refl R .int⟩ (zev h1)
 ·rename_i ds i
  obtain⟨h1,e⟩:=z5 e;have h1:=of_decide_eq_true h1;obtain⟨h2,h3,h4,h5⟩:=h1;cases e;obtain⟨a1,vs,rfl,e1,q1⟩:=r1.tW;rw[r2.int_inv]at ry;cases rx;obtain⟨t,rfl⟩:=ry;obtain⟨its,rv,⟨⟨cls,dd,data,sl⟩,ho,hc,n,hd⟩,hz⟩:=I.tuple (SqT.of (K:=X.K) e1);simp only at hc hd;subst hc hd;have hl:its.length=ds.length:=by rw[q1.length,rv.length]
  have hlen:((yo i.toNat vs).flatten).length<=yI:=by
   rw[zKt];have hm:=Th;have h6:i.toNat*vs.length<=1000*1000:=Nat.mul_le_mul (by omega) (by rw[<-q1.length];exact h5);omega
  have e2:=zBm its i.toNat [];rw[List.nil_append]at e2
  have hsz:((yo i.toNat its.toArray).foldl (λx1 x2=>x1++x2) #[]).size<=yI:=by
   rw[show(#[]:Array yb)=([]:List yb).toArray from rfl,e2,size_toArray,<-(zSn rv i.toNat).length];exact hlen
  refine wpAny_binaryOp_repeat_ref (T:="tuple") (U:="int") (by decide) ⟨_,ho,rfl⟩ (λs'=>typeIs_int s' i t) zlm PySem.F.fills_int_mul PySem.F.slot_int_rmul zxs PySem.F.slot_int_index.lookup
   (xy PySem.F.slot_int_rmul (typeIs_int s i t) PySem.F.entry_int_rmul (PySem.F.args_int_rmul_2 _ _) (zQj i t a1 its.toArray n dd sl)
    ⟨ho,rfl,⟨_,ho,rfl⟩,xy PySem.F.slot_tuple_mul ⟨_,ho,rfl⟩ PySem.F.entry_tuple_mul (PySem.F.args_tuple_mul_2 _ _) (zeo a1 its.toArray n dd sl i t h2 h3 (by rw[List.isEmpty_toArray,List.isEmpty_eq_false_iff_exists_mem];exact⟨_,getElem_mem (by omega:0<its.length)⟩) (by rw[size_toArray,hl];exact h5) hsz) ⟨ho,?_⟩⟩)
  rw[show(#[]:Array yb)=([]:List yb).toArray from rfl,e2];have hf:=I.hok.fresh (yk s.heap.objs.size);refine⟨.ref s.heap.objs.size,_,I.laid (t':=s.toks) (o:=.tup (yo i.toNat vs).flatten) (λb ob q=>yf _ q) (yk _) ?_,rfl,k Z _ _ (Ext.new hf) (R.Ts hf) (.tup zH ((zcq q1 i.toNat).ext (Ext.new hf)))⟩;exact⟨hlen,_,zSn rv i.toNat,IsTup.new _ _⟩
 ·rename_i l n
  split at e
  ·rename_i ds hm
   obtain⟨h1,e⟩:=z5 e;have h1:=of_decide_eq_true h1;obtain⟨h2,h3,h4⟩:=h1;cases e;obtain⟨a1,rfl,ea⟩:=r1.tD;obtain⟨vs,e3,q3⟩:=R.at_ _ _ _ ea hm;refine zmz U s Y H _ _ v u Q I rx ry ⟨a1,n,vs,rfl,r2.int_inv,e3,by omega,by omega,?_,λp hp=>k _ _ _ (Ext.push hp) (R.push hp ⟨_,zH,(zcq q3 n.toNat).ext (Ext.push hp)⟩) (.loc (zSb R))⟩;have hmi:=Th;have h6:vs.length*n.toNat<=1000*1000:=Nat.mul_le_mul (by rw[<-q3.length];exact h4) (by omega);omega
  ·cases e
 ·cases e
abbrev FO:=Loc->Mem->Option (Option Int×Mem)
def tMO(K:yB)(G:FO):TO:=λY H Q=>∃Z J μ o μ',At K Z H Y J μ/\G J μ=some (o,μ')/\∀Z' H',Ext Z H Z' H'->tI K Z' H' μ'->Q o H'
def MO(X:Cx)(e:Option yG)(G:FO):Prop:=PO X e (tMO X.K G)
@[simp] def pNo:FO:=λ_ μ=>some (none,μ)
@[simp] def zUx(G:FE):FO:=λJ μ=>(G J μ).bind λp=>match p.1 with
 |.int i=>some (some i,p.2)
 |_=>none
def cutD(xs:List D)(lo hi:Option Int):List D:=(xs.drop (HT.sIx xs.length 0 lo)).take (HT.sIx xs.length xs.length hi-HT.sIx xs.length 0 lo)
@[simp] def fSl(G:FE)(lo hi:FO):FE:=λJ μ=>(G J μ).bind λp=>(lo J p.2).bind λl=>(hi J l.2).bind λh=>match p.1 with
 |.tup ds=>some (.tup (cutD ds l.1 h.1),h.2)
 |.loc n=>match h.2[n]? with
  |some (.lst ds)=>some (.loc h.2.length,h.2++[.lst (cutD ds l.1 h.1)])
  |_=>none
 |_=>none
end
def zru{prog:yy}{w:yJ}{A:yM}{E:yb->ye->Prop}{s:ye}{t sl:yg}{items:Array yb}{vl vu:yb}{lo hi:Option Int}{Q:yb->ye->Prop}(ht:IsTup s.heap t items)(hs:s.heap.IsSliceOf sl vl vu .none)(pl:IsPart vl lo)(pu:IsPart vu hi)
 (hw:HT.sIx items.size 0 lo=0/\HT.sIx items.size items.size hi=items.size) (h:Q (.ref t) s):yq (yA prog w) A (getItem (.ref t) (.ref sl)) Q E s:=by
 obtain⟨os,hos,hcs,hds⟩:=id hs;have hTs:s.TypeIs (.ref sl) "slice":=⟨os,hos,hcs⟩
 unfold getItem
 try with_reducible refine Yc ?_
 first|refine ya (yi ?_)|skip
 refine ya (wpAny_sequenceKey ht.typeIs (by decide) ?_)
 refine ya (yX (name:=YK "__getitem__") ht.typeIs YS
  (yO YS ht.typeIs entry_tuple_getitem ?_ (args_tuple_getitem _ _)))
 show yq _ _ (Builtin.Tuple.tupleItemsOf (.ref t) >>= _) _ _ s;refine ya (tupleItemsOf_ ht ?_);refine ya (xu hTs ?_);rw[if_pos (by decide)];refine ya (HT.To hs pl pu ?_)
 have hyes:(((HT.sIx items.size 0 lo:Nat):Int)==0&&(1:Int)==1&&(HT.sIx items.size items.size hi-HT.sIx items.size 0 lo)==items.size)=true:=by
  rw[hw.1,hw.2];simp
 show yq _ _ (if(((HT.sIx items.size 0 lo:Nat):Int)==0&&(1:Int)==1&&(HT.sIx items.size items.size hi-HT.sIx items.size 0 lo)==items.size)=true then _ else _) _ _ s;rw[if_pos hyes];refine ya (m:=Builtin.Tuple.tupleIsExact _) ?_;unfold Builtin.Tuple.tupleIsExact;refine ya (xu ht.typeIs (yi ?_));rw[if_pos (by decide)];exact ya (wpAny_rule (yi ⟨_,rfl,yi h⟩))
section
variable {X:Cx}{a b c e:yG}{es:List yG}{G ψ χ:FE}{pos p2:Xd}{lo hi:Option yG}
def rSl(K:yB):V->Option Int->Option Int->Hp->VK->Prop:=λx lo hi H Q=>∃a xs,x=.ref a/\H a=some (.tup xs) /\
 ((HT.sIx xs.length 0 lo=0/\HT.sIx xs.length xs.length hi=xs.length)->Q (.ref a) H)/\∀p,H p=none->Q (.ref p) (upd H p (.tup (zCu xs lo hi)))
def zWy:SlR X (rSl X.K):=by
 intro U s Y H x v vl vu lo hi sl Q I rx hs pl pu h;obtain⟨a,xs,rfl,hx,h1,h2⟩:=h
 by_cases hw:HT.sIx xs.length 0 lo=0/\HT.sIx xs.length xs.length hi=xs.length
 ·cases rx;obtain⟨its,r,ht,hz⟩:=I.tuple (SqT.of (K:=X.K) hx);have hlen:its.toArray.size=xs.length:=by rw[size_toArray];exact r.length.symm
  exact⟨"tuple",_,PyProof.Rows.slot_tuple_getitem.lookup,ht.typeIs,zru ht hs pl pu (by rw[hlen];exact hw) ⟨.ref a,H,I,rfl,h1 hw⟩⟩
 ·exact zBz U s Y H _ v vl vu lo hi sl Q I rx hs pl pu ⟨a,xs,rfl,SqT.of hx,hw,h2⟩
def z9t:MO X none pNo:=by intro U s Y H Q I hh;obtain⟨Z,J,μ,o,μ',A,e,k⟩:=hh;exact zJx U s Y H Q I (by cases e;exact k Z H Ext.refl A.hp)
def zro(h:ME X e G):MO X (some e) (zUx G):=by intro U s Y H Q I hh;obtain⟨Z,J,μ,o,μ',A,e,k⟩:=hh;exact zLx h U s Y H Q I (by
 obtain⟨⟨x,μ1⟩,e1,e⟩:=zi e;refine⟨Z,J,μ,x,μ1,A,e1,λZ1 H1 v x1 R1 r1=>?_⟩;dsimp only at e
 split at e
 ·cases e;exact⟨_,r1.int_inv,k Z1 H1 x1 R1⟩
 ·cases e)
def zEq{K:yB}{Z:List yg}{H:Hp}{ds:List D}{vs:List V}{lo hi:Option Int}(r:tf K Z H ds vs):tf K Z H (cutD ds lo hi) (zCu vs lo hi):=by
 unfold cutD zCu;rw[r.length];exact(r.drop _).take _
def z6t{l h:FO}(he:ME X e G)(hl:MO X lo l)(hu:MO X hi h):ME X (.Subscript e (.Slice lo hi none p2) pos) (fSl G l h) :=
 zwg (zkw (SlR.or zWy zIx) he hl hu) λZ J μ Y H d μ' Q A e k=>by
  obtain⟨⟨x,μ1⟩,e1,e⟩:=zi e;obtain⟨⟨o1,μ2⟩,e2,e⟩:=zi e;obtain⟨⟨o2,μ3⟩,e3,e⟩:=zi e;refine⟨Z,J,μ,x,μ1,A,e1,λZ1 H1 v x1 R1 r1=>?_⟩;refine⟨Z1,J,μ1,o1,μ2,A.ext x1 R1,e2,λZ2 H2 x2 R2=>?_⟩;refine⟨Z2,J,μ2,o2,μ3,A.ext (x1.trans x2) R2,e3,λZ3 H3 x3 R3=>?_⟩;dsimp only at e
  split at e
  ·cases e;obtain⟨a,vs,rfl,ea,q⟩:=(r1.ext (x2.trans x3)).tW;have xx:=x1.trans (x2.trans x3);refine .inl ⟨a,vs,rfl,ea,λhw=>k Z3 H3 _ xx R3 (.tup ea ?_),λp hp=>k Z3 _ _ (xx.trans (Ext.new hp)) (R3.Ts hp) (.tup zH ((zEq q).ext (Ext.new hp)))⟩
   have e4:zCu vs o1 o2=vs:=by
    unfold zCu;rw[hw.1,hw.2,Nat.sub_zero,List.drop_zero,take_length]
   have:=zEq (lo:=o1) (hi:=o2) q;rw[e4]at this;exact this
  ·split at e
   ·rename_i hm
    cases e;obtain⟨a,rfl,ea⟩:=(r1.ext (x2.trans x3)).tD;obtain⟨vs,ev,q⟩:=R3.at_ _ _ _ ea hm;have xx:=x1.trans (x2.trans x3);exact .inr ⟨a,vs,rfl,SqL.of ev,λp hp=>k _ _ _ (xx.trans (Ext.push hp)) (R3.push hp ⟨_,zH,(zEq q).ext (Ext.push hp)⟩) (.loc (zSb R3))⟩
   ·cases e
  ·cases e
@[simp] def zjB(G:FE):FE:=λJ μ=>(G J μ).bind λp=>match p.1 with
 |.int i=>some (.int (-i),p.2)
 |_=>none
def big{U:List (yg×xa)}{Y:L2.St}{H:Hp}{s:ye}(I:Inv X U Y H s):sysModules<s.heap.objs.size:=by
 have h:yE<s.heap.objs.size:=(I.mod.glob.keeps I.bk).lt;exact Nat.lt_trans (by decide) h
@[simp] def zKA:FE:=λ_ μ=>some (.loc μ.length,μ++[.dct []])
def zWz:ME X (.Dict [] [] pos) zKA:=by
 intro U s Y H Q I hh;obtain⟨Z,J,μ,d,μ',A,e,k⟩:=hh;cases e;have hf:=I.hok.fresh (yk s.heap.objs.size);refine wpAny_Dict_empty ⟨.ref s.heap.objs.size,_,I.laid (a:=s.heap.objs.size) (o:=.dK []) (t':=s.toks) (λ_ _ q=>yf _ q) (yk _) ?_,rfl,k _ _ _ (Ext.push hf) (A.hp.push hf ⟨[],zH,rfl,.nil⟩) (.loc (zSb A.hp))⟩;exact⟨yP _,beq_eq_false_iff_ne.mpr (Yk (yw (big I))),[],.nil,Heap.DictOf.new _⟩
def zod:D->Bool
 |.non | .bl _ | .int _ | .str _=>true
 |_=>false
def eqF:D->D->Bool
 |.non,.non=>true
 |.bl a,.bl b=>a==b
 |.bl a,.int b=>(if a then 1 else 0)==b
 |.int a,.bl b=>a==(if b then 1 else 0)
 |.int a,.int b=>a==b
 |.str a,.str b=>a==b
 |_,_=>false
def gIn:φ2:=λx y μ=>(items μ y).bind λds=>bif zod x&&ds.all zod then some (.bl (ds.any λd=>eqF d x),μ) else none
def zoi:φ2:=λx y μ=>(items μ y).bind λds=>bif zod x&&ds.all zod then some (.bl (!ds.any λd=>eqF d x),μ) else none
def zxh{K:yB}{Z:List yg}{H:Hp}{d:D}{v:V}(r:tz K Z H d v)(f:zod d=true):zDk v=true:=by
 cases d with
 |non=>rw[r.tL];rfl
 |bl b=>rw[r.tU];rfl
 |int b=>rw[r.int_inv];rfl
 |str b=>rw[r.str_inv];rfl
 |_=>cases f
def zaq{K:yB}{Z:List yg}{H:Hp}{d d':D}{v v':V}(r:tz K Z H d v)(r':tz K Z H d' v')(f:zod d=true)(f':zod d'=true):eqV v v'=eqF d d':=by
 cases d with
 |non=>rw[r.tL];cases d' with
  |non=>rw[r'.tL];rfl
  |bl b=>rw[r'.tU];rfl
  |int b=>rw[r'.int_inv];rfl
  |str b=>rw[r'.str_inv];rfl
  |_=>cases f'
 |bl b=>rw[r.tU];cases d' with
  |non=>rw[r'.tL];rfl
  |bl b=>rw[r'.tU];rfl
  |int b=>rw[r'.int_inv];rfl
  |str b=>rw[r'.str_inv];rfl
  |_=>cases f'
 |int b=>rw[r.int_inv];cases d' with
  |non=>rw[r'.tL];rfl
  |bl b=>rw[r'.tU];rfl
  |int b=>rw[r'.int_inv];rfl
  |str b=>rw[r'.str_inv];rfl
  |_=>cases f'
 |str b=>rw[r.str_inv];cases d' with
  |non=>rw[r'.tL];rfl
  |bl b=>rw[r'.tU];rfl
  |int b=>rw[r'.int_inv];rfl
  |str b=>rw[r'.str_inv];rfl
  |_=>cases f'
 |_=>cases f
def zHo{K:yB}{Z:List yg}{H:Hp}{x:D}{v:V}(rx:tz K Z H x v)(fx:zod x=true):∀{ds:List D} {vs:List V},tf K Z H ds vs->ds.all zod=true->vs.all zDk=true/\inV v vs=ds.any λd=>eqF d x
 |[],_,r,_=>by rw[r.nil_inv];exact⟨rfl,rfl⟩
 |d::ds,_,r,f=>by
  obtain⟨w,ws,rfl,r1,r2⟩:=r.cons_inv;rw[all_cons,yz]at f;obtain⟨h1,h2⟩:=zHo rx fx r2 f.2;refine⟨by rw[all_cons,zxh r1 f.1,h1];rfl,?_⟩;unfold inV at h2 ⊢;rw[any_cons,any_cons,h2,zaq r1 rx f.1 fx]
def z2s:OpM X (Yl .In) gIn:=by
 refine OpM.of λU s Y H x y v u Q I rx ry Z dx dy μ d μ' r1 r2 R e k=>?_;obtain⟨ds,e1,e⟩:=zi e;obtain⟨h1,e⟩:=z5 e;rw[yz]at h1;cases e;obtain⟨p,vs,rfl,hq,rr⟩:=zmh R r2 e1;obtain⟨h3,h4⟩:=zHo r1 h1.1 rr h1.2;exact zet U s Y H x _ v u Q I rx ry ⟨p,vs,rfl,hq,zxh r1 h1.1,h3,by rw[if_neg yv,h4];exact k Z H _ Ext.refl R .bl⟩
def zoh:OpM X (Yl .NotIn) zoi:=by
 refine OpM.of λU s Y H x y v u Q I rx ry Z dx dy μ d μ' r1 r2 R e k=>?_;obtain⟨ds,e1,e⟩:=zi e;obtain⟨h1,e⟩:=z5 e;rw[yz]at h1;cases e;obtain⟨p,vs,rfl,hq,rr⟩:=zmh R r2 e1;obtain⟨h3,h4⟩:=zHo r1 h1.1 rr h1.2;exact zDp U s Y H x _ v u Q I rx ry ⟨p,vs,rfl,hq,zxh r1 h1.1,h3,by rw[if_pos rfl,h4];exact k Z H _ Ext.refl R .bl⟩
abbrev GM:=D->List D->Mem->Option (D×Mem)
@[simp] def zke(g:GM)(G:FE)(ψ:FA):FE:=λJ μ=>(G J μ).bind λp=>match p.1 with
 |.loc n=>match p.2[n]? with
  |some (.lst _)=>(ψ J p.2).bind λq=>g (.loc n) q.1 q.2
  |_=>none
 |_=>none
@[simp] def zHd:GM:=λx ds μ=>match x,ds with
 |.loc n,[d]=>match μ[n]? with
  |some (.lst xs)=>bif decide (xs.length<=1000000) then some (.non,μ.set n (.lst (xs++[d]))) else none
  |_=>none
 |_,_=>none
def MtG(X:Cx)(id:String)(g:GM):Prop:=MtR X id λx xs H Q=>∃Z dx ds μ d μ',tz X.K Z H dx x/\tf X.K Z H ds xs/\tI X.K Z H μ/\g dx ds μ=some (d,μ')/\∀Z' H' v,Ext Z H Z' H'->tI X.K Z' H' μ'->tz X.K Z' H' d v->Q v H'
def MtG.of{X:Cx}{id:String}{g:GM}(h:∀(U:List (yg×xa)) (s:ye) (Y:L2.St) (H:Hp) (x:V) (xs:List V) (v:yb) (us:List yb) (Q:VK),Inv X U Y H s->RelV x v->Vals xs us->∀(Z:List yg)(dx:D)(ds:List D)(μ:Mem)(d:D)(μ':Mem),tz X.K Z H dx x->tf X.K Z H ds xs->tI X.K Z H μ->g dx ds μ=some (d,μ')->(∀Z' H' v,Ext Z H Z' H'->tI X.K Z' H' μ'->tz X.K Z' H' d v->Q v H')->yq (yA X.prog X.w) X.A (call (.builtin id) (v::us)) (EP X U Y Q) X.xe s):MtG X id g:=by
 intro U s Y H x xs v us Q I rx rs hh;obtain⟨Z,dx,ds,μ,d,μ',r1,r2,R,e,k⟩:=hh;exact h U s Y H x xs v us Q I rx rs Z dx ds μ d μ' r1 r2 R e k
def z9j{o:yG}{ψ:FA}{name:yF}{id:String}{g:GM}{apos:Xd}(slot:Slot "list" name id)(hty:typeOf (.builtin id)=pure (.type "method_descriptor"))(hm:MtG X id g)(ho:ME X o G)(ha:MAn X (e::es) ψ)
 (hbase:YG o name X.env (Yx o X.env)=Yx o X.env:=by rfl)
 (hfew:((YY pos (yu (e::es) X.env)).all (λx=>!x.1)&&(backToKw pos (Xf [] X.env)).all (λx=>x.1.isSome)
  && decide ((e::es).length+([]:List xF).length+(if([]:List xF).isEmpty then 0 else 1)<30))=true:=by rfl)
 (hline:(apos.endLine==pos.line)=true:=by rfl) (hs:yu (e::es) X.env=(false,Yx e X.env)::yu es X.env:=by rfl) (hplain:(YY pos (yu es X.env)).any (·.1)=false:=by rfl) :
 ME X (.Call (.Attribute o name apos) (e::es) [] pos) (zke g G ψ) :=
 zwg (zYA PySem.F.plainAttrs_list slot hty hm ho ha.ma hbase hfew hline hs hplain) λZ J μ Y H d μ' Q A e k=>by
  obtain⟨⟨x,μ1⟩,e1,e⟩:=zi e;refine⟨Z,J,μ,x,μ1,A,e1,λZ1 H1 v x1 R1 r1=>?_⟩;dsimp only at e
  split at e
  ·split at e
   ·rename_i hm'
    obtain⟨⟨ds,μ2⟩,e2,e⟩:=zi e;obtain⟨a,rfl,ea⟩:=r1.tD;obtain⟨vs,e3,q3⟩:=R1.at_ _ _ _ ea hm';refine⟨.inl ⟨rfl,vs,SqL.of e3⟩,Z1,J,μ1,ds,μ2,A.ext x1 R1,e2,λZ2 H2 vs2 x2 R2 r2=>?_⟩;exact⟨Z2,_,ds,μ2,d,μ',r1.ext x2,r2,R2,e,λZ3 H3 v3 x3 R3 r3=>k Z3 H3 v3 (x1.trans (x2.trans x3)) R3 r3⟩
   ·cases e
  ·cases e
def zfs:MtG X "list.append" zHd:=by
 refine MtG.of λU s Y H x xs v us Q I rx rs Z dx ds μ d μ' r1 r2 R e k=>?_;unfold zHd at e
 split at e
 ·split at e
  ·rename_i hm
   obtain⟨h1,e⟩:=z5 e;have h1:=of_decide_eq_true h1;cases e;obtain⟨a,rfl,ea⟩:=r1.tD;obtain⟨vs,e3,q3⟩:=R.at_ _ _ _ ea hm;obtain⟨w,r,rfl,q1,q2⟩:=r2.cons_inv;rw[q2.nil_inv]at rs;have hl:=q3.length;have hmi:=Th;have hmu:Mut (H a):=by rw[e3];trivial
   refine zdt U s Y H _ _ v us Q I rx rs ⟨a,vs,w,rfl,rfl,e3,by omega,?_⟩;exact k Z _ _ (Ext.wr hmu) (R.wr hmu ea ⟨_,zH,tf.ext (Ext.wr hmu) (q3.append (.cons q1 .nil))⟩) .non
  ·cases e
 ·cases e
def zXe{o:yG}{ψ:FA}{apos:Xd}(ho:ME X o G)(ha:MAn X (e::es) ψ)
 (hbase:YG o "append" X.env (Yx o X.env)=Yx o X.env:=by rfl)
 (hfew:((YY pos (yu (e::es) X.env)).all (λx=>!x.1)&&(backToKw pos (Xf [] X.env)).all (λx=>x.1.isSome)
  && decide ((e::es).length+([]:List xF).length+(if([]:List xF).isEmpty then 0 else 1)<30))=true:=by rfl)
 (hline:(apos.endLine==pos.line)=true:=by rfl) (hs:yu (e::es) X.env=(false,Yx e X.env)::yu es X.env:=by rfl) (hplain:(YY pos (yu es X.env)).any (·.1)=false:=by rfl) :
 ME X (.Call (.Attribute o "append" apos) (e::es) [] pos) (zke zHd G ψ):=z9j PySem.F.slot_list_append PySem.F.type_list_append zfs ho ha hbase hfew hline hs hplain
end
end M
namespace M
open PySem
def RS(xs:Array Nat):Prop:=xs.toList.Pairwise (· < ·)
def zfo(xs:Array Nat)(j:Nat)(h:RS xs):∀(fuel lo hi:Nat),lo<=hi->hi<=xs.size->hi-lo<=fuel->(∀i (hi':i<xs.size),i<lo->xs[i]<j)->(∀i (hi':i<xs.size),hi<=i->j<=xs[i]) ->
 Xa xs j fuel lo hi<=xs.size/\(∀i (hi':i<xs.size),i<Xa xs j fuel lo hi->xs[i]<j)/\∀i (hi':i<xs.size),Xa xs j fuel lo hi<=i->j<=xs[i]
 |0,lo,hi,h1,h2,h3,h4,h5=>by
  have:lo=hi:=by omega
  subst this;unfold Xa;exact⟨h2,h4,h5⟩
 |fuel+1,lo,hi,h1,h2,h3,h4,h5=>by
  have hp:∀i k (hi:i<xs.size) (hk:k<xs.size),i<k->xs[i]<xs[k]:=λi k hi hk hik=>by
   have:=List.pairwise_iff_getElem.mp h i k (by simpa using hi) (by simpa using hk) hik;simpa using this
  unfold Xa
  by_cases hlt:lo<hi
  ·rw[if_pos hlt];dsimp only;have hm:(lo+hi) / 2<xs.size:=by omega
   have hg:xs.getD ((lo+hi) / 2) j=xs[(lo+hi) / 2]:=by simp[Xi,hm]
   rw[hg]
   by_cases hc:xs[(lo+hi) / 2]<j
   ·rw[if_pos hc];refine zfo xs j h fuel _ hi (by omega) h2 (by omega) (λi hi' hil=>?_) h5
    by_cases e:i=(lo+hi) / 2
    ·subst e;exact hc
    ·exact Nat.lt_trans (hp i _ hi' hm (by omega)) hc
   ·rw[if_neg hc];refine zfo xs j h fuel lo _ (by omega) (by omega) (by omega) h4 (λi hi' hil=>?_)
    by_cases e:i=(lo+hi) / 2
    ·subst e;omega
    ·exact yD (by omega) (Yq (hp _ i hm hi' (by omega)))
  ·rw[if_neg hlt];have:lo=hi:=by omega
   subst this;exact⟨h2,h4,h5⟩
def zYm(xs:Array Nat)(j:Nat)(h:RS xs):YA xs j<=xs.size/\(∀i (hi:i<xs.size),i<YA xs j->xs[i]<j)/\∀i (hi':i<xs.size),YA xs j<=i->j<=xs[i] :=
 zfo xs j h xs.size 0 xs.size (yP _) (yk _) (by omega) (λi _ h=>by omega) (λi h1 h2=>by omega)
def zPn{α:Type}(xs:Array α)(p:Nat)(x:α):(SetTable.insertAt xs p x).toList=xs.toList.take p++x::xs.toList.drop p:=by
 unfold SetTable.insertAt;simp;rw[xi (by simp)]
def zEy{xs:Array Nat}{j:Nat}(h:RS xs)(hn:xs[YA xs j]?≠some j):RS (SetTable.insertAt xs (YA xs j) j):=by
 obtain⟨h0,h1,h2⟩:=zYm xs j h;unfold RS at h ⊢;rw[zPn];generalize YA xs j=r at *
 have hd:∀y∈xs.toList.drop r,j<y:=λy hy=>by
  obtain⟨i,hi,rfl⟩:=List.mem_iff_getElem.mp hy;simp at hi;have hi':r+i<xs.size:=by omega
  have h3:=h2 (r+i) hi' (by omega);have e:(xs.toList.drop r)[i]'(by simp;omega)=xs[r+i]:=by simp
  rw[e]
  by_cases hz:i=0
  ·subst hz;have:xs[r]?=some xs[r]:=by simp
   simp only[Nat.add_zero]at h3 ⊢;rw[this]at hn;have:xs[r]≠j:=λe=>hn (by rw[e]);omega
  ·have hp:=List.pairwise_iff_getElem.mp h r (r+i) (by simp;omega) (by simpa using hi') (by omega);simp at hp;have:=h2 r (by omega) (yk _);omega
 have ht:∀y∈xs.toList.take r,y<j:=λy hy=>by
  obtain⟨i,hi,rfl⟩:=List.mem_iff_getElem.mp hy;simp at hi;have e:(xs.toList.take r)[i]'(by simp;omega)=xs[i]:=by simp
  rw[e];exact h1 i (by omega) (by omega)
 rw[pairwise_append];refine⟨h.sublist (List.take_sublist _ _),List.pairwise_cons.mpr ⟨hd,h.sublist (List.drop_sublist _ _)⟩,λa ha b hb=>?_⟩;rcases List.mem_cons.mp hb with rfl|hb
 ·exact ht a ha
 ·exact Nat.lt_trans (ht a ha) (hd b hb)
structure TOk(L:Bool)(t:xm):Prop where
 rs:RS t.place
 nd:t.dummies = #[]
 led:t.led=L
def zpr{j:Nat}:SetTable.has #[] j=false:=by
 unfold SetTable.has;simp
def zwr{t:xm}(hn:t.dummies = #[]){ha:Nat->Int}{h:Int}:∀(fuel:Nat)(p:SetTable.Probe)(j:Nat)(d:Option Nat),p.dummy=none->SetTable.probe.go t ha h fuel p=some (.empty j d)->t.slot j=.empty/\d=none
 |0,p,j,d,_,e=>by unfold SetTable.probe.go at e;cases e
 |fuel+1,p,j,d,hd,e=>by
  unfold SetTable.probe.go at e
  have hadv:(t.advance p).dummy=none:=by
   unfold SetTable.advance
   split
   ·exact hd
   ·exact hd
  split at e
  ·rename_i hs
   cases e;exact⟨hs,hd⟩
  ·rename_i hs
   unfold SetTable.slot at hs;dsimp only at hs;rw[hn,zpr]at hs
   split at hs<;>simp at hs
  ·split at e
   ·cases e
   ·exact zwr hn fuel _ j d hadv e
def zFn{t:xm}(hn:t.dummies = #[]){h:Int}{j:Nat}{b:Bool}(e:t.freeSlot h=some (j,b)):t.place[YA t.place j]?≠some j:=by
 unfold SetTable.freeSlot at e
 split at e
 ·rename_i j' d hp
  obtain⟨h1,rfl⟩:=zwr hn _ _ _ _ rfl hp;cases e;unfold SetTable.slot at h1;dsimp only at h1;intro q;simp only[Option.getD_none]at q;rw[q]at h1;simp at h1
 ·cases e
def TOk.standIn{L:Bool}{t:xm}(h:TOk L t)(n:Nat):TOk L (t.standIn n):=by
 refine⟨?_,rfl,h.led⟩;unfold RS SetTable.standIn;rw[Array.toList_range];exact List.pairwise_lt_range
def TOk.layNew{L:Bool}{t:xm}(h:TOk L t)(es:Array (Int×yb))(hs:Int)(x:yb):TOk L (layNew t es hs x).2.1:=by
 unfold PySem.layNew
 split
 ·rename_i slot wd e
  have hne:=zFn h.nd e
  have h1:TOk L (t.put slot).1:=⟨zEy h.rs hne,by
   unfold SetTable.put;dsimp only;rw[h.nd,zpr];rfl,h.led⟩
  show TOk L ((t.put slot).1.orStandIn _);unfold SetTable.orStandIn
  split
  ·exact h1
  ·exact h1.standIn _
 ·exact h.standIn _
def TOk.relay{L:Bool}{t:xm}(h:TOk L t)(es:Array (Int×yb))(wanted:Nat):TOk L (relayAll t es wanted).2.1:=by
 unfold relayAll
 split
 ·rename_i t' order e
  dsimp only
  split
  ·unfold SetTable.relaid SetTable.laid at e;obtain⟨ow,_,e⟩:=Option.bind_eq_some_iff.mp e;cases e;refine⟨?_,rfl,h.led⟩;unfold RS;dsimp only;rw[pairwise_map];refine List.Pairwise.filterMap _ (λa a' hlt b hb b' hb'=>?_) List.pairwise_lt_range;simp at hb hb';obtain⟨_,_,rfl⟩:=hb;obtain⟨_,_,rfl⟩:=hb';exact hlt
  ·exact h.standIn _
 ·exact h.standIn _
def TOk.fresh(L:Bool):TOk L (.fresh 0 0 L):=⟨List.Pairwise.nil,rfl,rfl⟩
def zjl(e:Int×yb):Int:=match e.2 with
 |.int i _=>i
 |_=>0
def Tv(prog:yy)(w:yJ)(h:Ye)(a:yg)(ks:List Int):Prop :=
 ∃o es ep t,h.get? a=some o/\o.ExactSet/\o.data=.set es ep t/\t.fits es.size=true/\TOk (!w.params.followText "set-order") t/\ElemsOf (intKind prog w) es.toList/\(es.toList.map zjl).Perm ks
section
variable {prog:yy}{w:yJ}{A:yM}{E:yb->ye->Prop}{s:ye}
def zMu{es:List (Int×yb)}{e:Int×yb}{k:Int}(h:ElemsOf (intKind prog w) es)(he:e∈es):(intKind prog w).is k e.2=true↔zjl e=k:=by
 obtain⟨⟨j,hj,_⟩,_⟩:=h e he;obtain⟨t,ht⟩:=Value.isInt_shape (show Value.isInt j e.2=true from hj);unfold zjl;rw[ht];constructor
 ·intro q;obtain⟨u,hu⟩:=Value.isInt_shape (show Value.isInt k (.int j t)=true from q);cases hu;rfl
 ·intro q;have q:j=k:=q;rw[q];exact intKind_is prog w k t
def Tv.at'{h h':Ye}{a:yg}{ks:List Int}(x:Tv prog w h a ks)(k:∀o,h.get? a=some o->h'.get? a=some o):Tv prog w h' a ks:=by
 obtain⟨o,es,ep,t,h1,h2⟩:=x;exact⟨o,es,ep,t,k o h1,h2⟩
def zyr(b:Bool){Q:Unit->ye->Prop}(h:Q () s):yq (yA prog w) A (match b with|true=>rule "set.scan.the-table-gave-way" | false=>pure ()) Q E s:=by
 cases b
 ·exact yi h
 ·exact wpAny_rule h
def stored{o:xa}{h:Ye}{a:yg}{es:Array (Int×yb)}{ep:Nat}{t:xm}(ho:h.get? a=some o)(hd:o.data=.set es ep t)(es1:Array (Int×yb))(t1:xm) :
 (h.update a (Obj.putSet es1 t1)).get? a=some {o with data:=.set es1 (ep+1) t1 }:=by
 have e:=putSet_of es1 t1 hd;have q:=Yh (Obj.putSet es1 t1) ho (by rw[e];rfl);rw[e]at q;exact q
def zKx{a:yg}{ks:List Int}{k:Int}{tk:Tok}{Q:Bool->ye->Prop}(hS:Tv prog w s.heap a ks)(hroom:ks.length+1<scanBound)
 (h:∀b h',Yr a s.heap h'->Tv prog w h' a (if k∈ks then ks else ks++[k])->Q b {s with heap:=h' }):yq (yA prog w) A (setAddHashed a (.int k tk) (hashInt k)) Q E s:=by
 obtain⟨o,es,ep,t,ho,hex,hd,hf,hT,hel,hp⟩:=hS
 have hsz:es.size=ks.length:=by
  have:=hp.length_eq;simpa using this
 have hmem:k∈ks↔∃e∈es.toList,zjl e=k:=by
  rw[<-hp.mem_iff,mem_map]
 unfold setAddHashed setAddHashedIn;refine Yc (ya (YL ho hd hf ?_));dsimp only;rw[byScan_of (knd:=intKind prog w) (x:=.int k tk) rfl (by omega) hel];simp only[↓reduceIte];unfold setAddByScan;refine ya (ya (wpAny_rule (ya (wpAny_setScan_of (knd:=intKind prog w) (k:=k) (intKind_is prog w k tk) ho hd hf hel ?_))))
 cases hr:List.findIdx? (λe=>(intKind prog w).is k e.2) es.toList with
 |some j=>
  dsimp only;obtain⟨hj,hpj,_⟩:=List.findIdx?_eq_some_iff_getElem.mp hr;have hk:k∈ks:=hmem.mpr ⟨es.toList[j],getElem_mem hj,(zMu hel (getElem_mem hj)).mp hpj⟩;have q:=h false s.heap (Heap.SameBut.refl a s.heap) ⟨o,es,ep,t,ho,hex,hd,hf,hT,hel,by rw[if_pos hk];exact hp⟩;exact yi (yi q)
 |none=>
  dsimp only
  have hk:k∉ks:=λhk=>by
   obtain⟨e,he,q⟩:=hmem.mp hk;have:=List.findIdx?_eq_none_iff.mp hr e he;rw[(zMu hel he).mpr q]at this;cases this
  rw[if_neg hk]at h;have p1:=layNew_perm t es (hashInt k) (.int k tk);have f1:=layNew_fits t es (hashInt k) (.int k tk);have T1:=hT.layNew es (hashInt k) (.int k tk);show yq _ _ (_ >>= _) _ _ _;generalize layNew t es (hashInt k) (.int k tk)=L1 at p1 f1 T1 ⊢;obtain⟨es1,t1,wd,gv⟩:=L1;dsimp only at p1 f1 T1 ⊢;rw[Array.toList_push]at p1;have el1:ElemsOf (intKind prog w) es1.toList:=(hel.push (intKind_is prog w k tk) rfl).perm p1
  have pk1:(es1.toList.map zjl).Perm (ks++[k]):=by
   refine(p1.map zjl).trans ?_;rw[map_append];exact hp.append_right _
  have z1:es1.size=ks.length+1:=by
   have:=pk1.length_eq;simpa using this
  refine ya (zyr gv ?_)
  have fin:yq (yA prog w) A (do
   storeSet a es1 t1
   if (!wd && t1.tooFull)=true then
    match relayAll t1 es1 (Xj es1.size) with
    |(es2,t2,gv2)=>do
     (match gv2 with|true=>rule "set.scan.the-table-gave-way" | false=>pure ())
     storeSet a es2 t2
     pure (some true)
   else pure (some true)) (λr s'=>∃h',s' = {s with heap:=h' }/\r=some true/\Yr a s.heap h'/\Tv prog w h' a (ks++[k])) E s:=by
   refine ya (wpAny_storeSet_of ho hd ?_ (fits_of_scanBound (by omega)));have s1:=stored ho hd es1 t1;have b1:=Ys s.heap a (Obj.putSet es1 t1)
   split
   ·have p2:=relayAll_perm t1 es1 (Xj es1.size);have f2:=relayAll_fits t1 es1 (Xj es1.size);have T2:=T1.relay es1 (Xj es1.size);generalize relayAll t1 es1 (Xj es1.size)=L2 at p2 f2 T2 ⊢;obtain⟨es2,t2,gv2⟩:=L2;dsimp only at p2 f2 T2 ⊢
    have z2:es2.size=es1.size:=by
     have:=p2.length_eq;simpa using this
    refine ya (zyr gv2 (ya (wpAny_storeSet_of s1 rfl ?_ (fits_of_scanBound (by omega)))));exact yi ⟨_,rfl,rfl,b1.trans (Ys _ a _),_,es2,_,t2,stored s1 rfl es2 t2,hex,rfl,f2,T2,el1.perm p2,(p2.map zjl).trans pk1⟩
   ·exact yi ⟨_,rfl,rfl,b1,_,es1,_,t1,s1,hex,rfl,f1,T1,el1,pk1⟩
  have goal2:yq (yA prog w) A (do
   storeSet a es1 t1
   if (!wd && t1.tooFull)=true then
    match relayAll t1 es1 (Xj es1.size) with
    |(es2,t2,gv2)=>do
     (match gv2 with|true=>rule "set.scan.the-table-gave-way" | false=>pure ())
     storeSet a es2 t2
     pure (some true)
   else pure (some true)) (λr s'=>yq (yA prog w) A (match r with|some added=>pure added|none=>setAddHashedIn a (.int k tk) (hashInt k) 99999) Q E s') E s:=by
   refine YT fin (λr s' ⟨h',e1,e2,b,x⟩=>?_) λ_ _ z=>z;subst e1 e2;exact yi (h true h' b x)
  split
  ·refine ya ?_;rw[hashByValue_scannable 8 (x:=.int k tk) rfl];exact yi goal2
  ·exact ya (yi goal2)
end
def zYj{α:Type}:∀(l:List α)(i:Nat)(h:i<l.length),(l[i]::l.eraseIdx i).Perm l
 |[],i,h=>by simp at h
 |y::ys,0,h=>by simp
 |y::ys,i+1,h=>by
  have h':i<ys.length:=by simpa using h
  show(ys[i]::y::ys.eraseIdx i).Perm (y::ys);exact(List.Perm.swap y ys[i] _).trans ((zYj ys i h').cons y)
def z3u{α:Type}(next:Nat->Nat):∀(fuel k:Nat)(rest:List α)(out:Array α),rest.length<=fuel->(pickOrder.go next fuel k rest out).toList.Perm (out.toList++rest)
 |0,k,rest,out,h=>by
  have:rest=[]:=List.length_eq_zero_iff.mp (Nat.le_zero.mp h);subst this;unfold pickOrder.go;simp
 |fuel+1,k,rest,out,h=>by
  unfold pickOrder.go
  cases rest with
  |nil=>simp
  |cons y ys=>
   have hlt:next k%(y::ys).length<(y::ys).length:=Nat.mod_lt _ (by simp);rw[yc hlt];dsimp only;refine(z3u next fuel (k+1) _ _ (by rw[List.length_eraseIdx_of_lt hlt];simp at h ⊢;omega)).trans ?_;rw[Array.toList_push,append_assoc];exact List.Perm.append_left _ (zYj _ _ hlt)
def zKl{α:Type}(next:Nat->Nat)(xs:Array α):(pickOrder next xs).toList.Perm xs.toList:=by
 unfold pickOrder;exact(z3u next xs.size 0 xs.toList #[] (by simp)).trans (by simp)
def tH:Slot "set_iterator" "__next__" "set_iterator.__next__" :=
 .of (owner:="set_iterator") (n:="__next__") (by rw[typeLookup_type,xW];kernel_rfl) (by decide +kernel) (by decide +kernel) (by decide +kernel) (by first|exact .inl (by decide +kernel)|exact .inr (by decide +kernel)) (by rw[isSubtype_type];kernel_rfl)
def zck:Slot "set_iterator" "__iter__" "set_iterator.__iter__" :=
 .of (owner:="set_iterator") (n:="__iter__") (by rw[typeLookup_type,xW];kernel_rfl) (by decide +kernel) (by decide +kernel) (by decide +kernel) (by first|exact .inl (by decide +kernel)|exact .inr (by decide +kernel)) (by rw[isSubtype_type];kernel_rfl)
def zne:entryFor table "set_iterator.__next__"=some YW.«set_iterator.__next__»:=entryFor_of_tree (by kernel_rfl)
def zxn:entryFor table "set_iterator.__iter__"=some YW.«dict_keyiterator.__iter__»:=entryFor_alias (id':="dict_keyiterator.__iter__") (by kernel_rfl) rfl (by decide +kernel) (by kernel_rfl)
def zdf(a:yb):argsOk "set_iterator.__next__" ⟨[a],[]⟩:=by unfold argsOk;kernel_rfl
def zdp(a:yb):argsOk "set_iterator.__iter__" ⟨[a],[]⟩:=by unfold argsOk;kernel_rfl
def z3o:entryFor table "set.__iter__"=some YW.«frozenset.__iter__»:=entryFor_alias (id':="frozenset.__iter__") (by kernel_rfl) rfl (by decide +kernel) (by kernel_rfl)
def SIt(h:Ye)(it a:yg)(first:yb)(i n ep:Nat):Prop:=∃o,h.get? it=some o/\o.cls=.type "set_iterator"/\o.data=.fields #[first,.int i 0,.ref a,.int n 0,.int ep 0]
def SOb(h:Ye)(a:yg)(es:Array (Int×yb))(ep:Nat)(t:xm):Prop:=∃o,h.get? a=some o/\o.cls=.type "set"/\o.data=.set es ep t/\t.fits es.size=true
section
variable {prog:yy}{w:yJ}{A:yM}{E:yb->ye->Prop}{s:ye}
def SIt.typeIs{it a:yg}{first:yb}{i n ep:Nat}(x:SIt s.heap it a first i n ep):s.TypeIs (.ref it) "set_iterator":=let ⟨o,ho,hc,_⟩:=x;⟨o,ho,hc⟩
def SIt.at'{h h':Ye}{it a:yg}{first:yb}{i n ep:Nat}(x:SIt h it a first i n ep)(k:∀o,h.get? it=some o->h'.get? it=some o):SIt h' it a first i n ep:=let ⟨o,ho,r⟩:=x;⟨o,k o ho,r⟩
def SOb.at'{h h':Ye}{a:yg}{es:Array (Int×yb)}{ep:Nat}{t:xm}(x:SOb h a es ep t)(k:∀o,h.get? a=some o->h'.get? a=some o):SOb h' a es ep t:=let ⟨o,ho,r⟩:=x;⟨o,k o ho,r⟩
def z0s{it:yg}{o:xa}{vs:Array yb}{Q:Option yb->ye->Prop}(hh:A.handled=none)(ho:s.heap.get? it=some o)(hd:o.data=.fields vs)(h2:2<vs.size)
 (hQ:∀h',Heap.ExtBut it s.heap h'->Q none {s with heap:=h' }) :
 yq (yA prog w) A.in1 (do setField (.ref it) 2 .none;raiseNew (<-newExc (.type "StopIteration") []):Sem Fin)
  (λ_ _=>False) (λe s'=>yq (yA prog w) A (do if <-isInstance e (.type "StopIteration") then pure none else throw e) Q E s') s:=by
 refine ya (xK ho hd h2 ?_);refine ya ?_;simp only[newExc,newTuple];refine ya (yT ?_ (by size_fits));refine ya (m:=firstArgMember _ _) (wpAny_of_eq (a:=YC) (by first|rfl|(simp only[firstArgMember];rfl)) ?_);refine yT ?_ (by size_fits);simp only[raiseNew];refine ya (wpAny_handled ?_);have e:A.in1.handled=none:=hh;rw[e];refine ya (yi (wpAny_throw ?_));refine ya (wpAny_isInstance (T:="StopIteration") (b:=true) ⟨_,yp _ rfl,rfl⟩ isSubtype_stop ?_);exact yi (hQ _ (((Ys s.heap it _).extBut.push _).push _))
variable {it a:yg}{es:Array (Int×yb)}{ep i:Nat}{t:xm}{Q:Option yb->ye->Prop}
def zUn(n:Nat):¬(((n:Int) != (n:Int))=true):=by simp
def z7l{slot nx:Nat}{x:yb}(hI:SIt s.heap it a (.int slot 0) i es.size ep)(hO:SOb s.heap a es ep t)
 (hn:∀(Q':Option (yb×Nat)->ye->Prop) (E':yb->ye->Prop),Q' (some (x,nx)) s->yq (yA prog w) A.in1 (setNext a slot i ep) Q' E' s)
 (hQ:∀h',SIt h' it a (.int nx 0) (i+1) es.size ep->Yr it s.heap h'->Q (some x) {s with heap:=h' }):yq (yA prog w) A (pyNext (.ref it)) Q E s:=by
 obtain⟨o,ho,hc,hd⟩:=id hI;obtain⟨oa,hoa,_,hda,hfa⟩:=hO;unfold pyNext;refine ya (wpAny_attempt (yX (name:=YK "__next__") hI.typeIs tH (yO tH hI.typeIs zne ?_ (zdf _))));unfold YW.«set_iterator.__next__»;refine ya (m:=slotArgs "__next__" 0 ⟨[YE it],[]⟩) (yi ?_);refine ya (wpAny_fieldsOf ho hd ?_);dsimp only;refine ya (xG hoa hda hfa ?_);rw[if_neg (zUn es.size)];refine ya (hn _ _ ?_);dsimp only;refine ya (xK ho hd (by simp) ?_);have ho1:=Yh (Obj.mapFields (·.setIfInBounds 0 (YD nx))) ho (xo (Yv hd _));have hd1:=Yv hd (·.setIfInBounds 0 (YD nx));refine ya (xK ho1 hd1 (by simp) (yi ⟨x,rfl,yi (hQ _ ?_ ((Ys s.heap it _).trans (Ys _ it _)))⟩));refine⟨_,Yh _ ho1 (xo (Yv hd1 _)),(Obj.cls_mapFields ..).trans ((Obj.cls_mapFields ..).trans hc),?_⟩;rw[Yv hd1];simp[YD]
def zon{slot:Nat}(hh:A.handled=none)(hI:SIt s.heap it a (.int slot 0) i es.size ep)(hO:SOb s.heap a es ep t)
 (hn:∀(Q':Option (yb×Nat)->ye->Prop) (E':yb->ye->Prop),Q' none s->yq (yA prog w) A.in1 (setNext a slot i ep) Q' E' s)
 (hQ:∀h',Heap.ExtBut it s.heap h'->Q none {s with heap:=h' }):yq (yA prog w) A (pyNext (.ref it)) Q E s:=by
 obtain⟨o,ho,hc,hd⟩:=id hI;obtain⟨oa,hoa,_,hda,hfa⟩:=hO;unfold pyNext;refine ya (wpAny_attempt (yX (name:=YK "__next__") hI.typeIs tH (yO tH hI.typeIs zne ?_ (zdf _))));unfold YW.«set_iterator.__next__»;refine ya (m:=slotArgs "__next__" 0 ⟨[YE it],[]⟩) (yi ?_);refine ya (wpAny_fieldsOf ho hd ?_);dsimp only;refine ya (xG hoa hda hfa ?_);rw[if_neg (zUn es.size)];refine ya (hn _ _ ?_);dsimp only;exact YT (z0s (Q:=Q) (E:=E) hh ho hd (by simp) hQ) (λ_ _ z=>z.elim) λ_ _ z=>z
def zAq{tup:yg}{ot:xa}{items:Array yb}{nt place:Nat}{x:yb}{hx:Int}(hI:SIt s.heap it a (.ref tup) i es.size ep)(hO:SOb s.heap a es ep t)(hot:s.heap.get? tup=some ot)(hdt:ot.data=.seq items nt)
 (hp:items[i]?=some (.int place 0)) (he:es[place]?=some (hx,x))
 (hQ:∀h',SIt h' it a (.ref tup) (i+1) es.size ep->Yr it s.heap h'->Q (some x) {s with heap:=h' }):yq (yA prog w) A (pyNext (.ref it)) Q E s:=by
 obtain⟨o,ho,hc,hd⟩:=id hI;obtain⟨oa,hoa,_,hda,hfa⟩:=hO;unfold pyNext;refine ya (wpAny_attempt (yX (name:=YK "__next__") hI.typeIs tH (yO tH hI.typeIs zne ?_ (zdf _))));unfold YW.«set_iterator.__next__»;refine ya (m:=slotArgs "__next__" 0 ⟨[YE it],[]⟩) (yi ?_);refine ya (wpAny_fieldsOf ho hd ?_);dsimp only;refine ya (xG hoa hda hfa ?_);rw[if_neg (zUn es.size)];refine ya (wpAny_seqItems hot hdt ?_);dsimp only;simp only[yQ,hp];unfold setNextDrawn;refine ya (ya (YL hoa hda hfa ?_));dsimp only;rw[if_neg (by simp),he];dsimp only;refine yi ?_;refine ya (xK ho hd (by simp) (yi ⟨x,rfl,yi (hQ _ ?_ (Ys s.heap it _))⟩));refine⟨_,Yh _ ho (xo (Yv hd _)),(Obj.cls_mapFields ..).trans hc,?_⟩;rw[Yv hd];simp[YD]
def z5r{tup:yg}{ot:xa}{items:Array yb}{nt:Nat}(hh:A.handled=none)(hI:SIt s.heap it a (.ref tup) i es.size ep)(hO:SOb s.heap a es ep t)(hot:s.heap.get? tup=some ot)(hdt:ot.data=.seq items nt)
 (hp:items[i]?=none) (hQ:∀h',Heap.ExtBut it s.heap h'->Q none {s with heap:=h' }):yq (yA prog w) A (pyNext (.ref it)) Q E s:=by
 obtain⟨o,ho,hc,hd⟩:=id hI;obtain⟨oa,hoa,_,hda,hfa⟩:=hO;unfold pyNext;refine ya (wpAny_attempt (yX (name:=YK "__next__") hI.typeIs tH (yO tH hI.typeIs zne ?_ (zdf _))));unfold YW.«set_iterator.__next__»;refine ya (m:=slotArgs "__next__" 0 ⟨[YE it],[]⟩) (yi ?_);refine ya (wpAny_fieldsOf ho hd ?_);dsimp only;refine ya (xG hoa hda hfa ?_);rw[if_neg (zUn es.size)];refine ya (wpAny_seqItems hot hdt ?_);dsimp only;simp only[yQ,hp];refine ya (xK ho hd (by simp) ?_);have ho1:=Yh (Obj.mapFields (·.setIfInBounds 0 (YD 0))) ho (xo (Yv hd _));have hd1:=Yv hd (·.setIfInBounds 0 (YD 0));exact YT (z0s (Q:=Q) (E:=E) hh ho1 hd1 (by simp) λh' x=>hQ h' λb o' hb e=>x b o' hb ((Ys s.heap it _).extBut b o' hb e)) (λ_ _ z=>z.elim) λ_ _ z=>z
def zui{Q:Bool->ye->Prop}(h:Q (w.params.followText "set-order") s):yq (yA prog w) A setsByText Q E s:=by
 unfold setsByText;exact ya (wpAny_askSetting (yi h))
def z9o{slot:Nat}(hw:w.params.followText "set-order"=true)(hO:SOb s.heap a es ep t){Q:Option (yb×Nat)->ye->Prop}(h:Q (((pickOrder (w.params.setOrder a ep) es)[i]?).map λe=>(e.2,slot)) s) :
 yq (yA prog w) A (setNext a slot i ep) Q E s:=by
 obtain⟨oa,hoa,_,hda,hfa⟩:=hO;unfold setNext;refine ya (YL hoa hda hfa ?_);dsimp only;refine ya (zui ?_);rw[hw,if_pos rfl,if_neg (by simp)];unfold setWalk;refine ya (ya (YL hoa hda hfa ?_));dsimp only;refine ya (zui ?_);rw[hw,if_pos rfl];exact ya (wpAny_askSetting (yi (yi h)))
def z9f(t:xm)(i:Nat):Nat:=if i=0 then 0 else t.place.getD (i-1) 0+1
def z7r(h:RS t.place)(hi:i<=t.place.size):YA t.place (z9f t i)=i:=by
 obtain⟨h0,h1,h2⟩:=zYm t.place (z9f t i) h
 have hp:∀i k (hi:i<t.place.size) (hk:k<t.place.size),i<k->t.place[i]<t.place[k]:=λi k hi hk hik=>by
  have:=List.pairwise_iff_getElem.mp h i k (by simpa using hi) (by simpa using hk) hik;simpa using this
 generalize hr:YA t.place (z9f t i)=r at *;unfold z9f at h1 h2
 by_cases hz:i=0
 ·subst hz;rw[if_pos rfl]at h1
  by_cases hr0:0<r
  ·have:=h1 0 (by omega) hr0;omega
  ·omega
 ·rw[if_neg hz]at h1 h2;have hl:i-1<t.place.size:=by omega
  have hg:t.place.getD (i-1) 0=t.place[i-1]:=by simp[Xi,hl]
  rw[hg]at h1 h2;rcases Nat.lt_trichotomy r i with hlt|he|hgt
  ·have h3:=h2 (i-1) hl (by omega);omega
  ·exact he
  ·have h3:=h1 i (by omega) hgt;have h4:=hp (i-1) i hl (by omega) (by omega);omega
def z5m(hw:w.params.followText "set-order"=false)(hd:(!t.plain&&decide (es.size>1))=false)(hT:TOk true t)(hi:i<=es.size)(hO:SOb s.heap a es ep t){Q:Option (yb×Nat)->ye->Prop}(h:Q ((es[i]?).map λe=>(e.2,z9f t (i+1))) s) :
 yq (yA prog w) A (setNext a (z9f t i) i ep) Q E s:=by
 obtain⟨oa,hoa,_,hda,hfa⟩:=hO
 have hsz:t.place.size=es.size:=by
  unfold SetTable.fits at hfa;rw[yz]at hfa;exact beq_iff_eq.mp hfa.1
 unfold setNext;refine ya (YL hoa hda hfa ?_);dsimp only;refine ya (zui ?_);rw[hw,if_neg yv];refine YQ (λhab=>?_) λ_=>?_
 ·have hab:(!t.plain&&decide (es.size>1))=true:=hab;rw[hd]at hab;cases hab
 ·refine ya ?_
  have led:yq (yA prog w) A (if(!t.led && !es.isEmpty)=true then unsupported "set:maker-not-led" else pure ()) (λ_ s'=>yq (yA prog w) A (pure (match es[YA t.place (z9f t i)]?,t.place[YA t.place (z9f t i)]? with
   |some (_,x),some j=>some (x,j+1)
   |_,_=>none):Sem (Option (yb×Nat))) Q E s') E s:=by
   rw[hT.led,if_neg (by simp)];refine yi (yi ?_);rw[z7r hT.rs (by omega)]
   by_cases hlt:i<es.size
   ·have e1:es[i]?=some es[i]:=by simp[hlt]
    have e2:t.place[i]?=some (t.place[i]'(by omega)):=by simp[show i<t.place.size by omega]
    rw[e1]at h;rw[e1,e2]
    have e3:z9f t (i+1)=t.place[i]'(by omega)+1:=by
     unfold z9f;rw[if_neg (by omega)];simp[Xi,show i<t.place.size by omega]
    rw[e3]at h;exact h
   ·have e1:es[i]?=none:=by simp;omega
    rw[e1]at h;rw[e1];exact h
  exact led
def z4m{α:Type}:∀(n:Nat)(xs:List α)(s:ye)(Q:List α->ye->Prop),n=xs.length->(∀ys d,ys.Perm xs->Q ys {s with drawn:=d })->yq (yA prog w) A (drawOrder n xs) Q E s
 |0,xs,s,Q,hn,h=>by
  have:xs=[]:=List.length_eq_zero_iff.mp hn.symm;subst this;exact yi (h [] s.drawn .nil)
 |n+1,[],s,Q,hn,h=>by simp at hn
 |n+1,x::xs,s,Q,hn,h=>by
  unfold drawOrder;refine ya ?_;intro Γ p hΓ;unfold choose;rw[Sem.wp_choose];refine⟨by simp,?_⟩;have hlt:(yA prog w).w.draws .order (s.drawn.get .order)%(x::xs).length<(x::xs).length:=Nat.mod_lt _ (by simp);generalize (yA prog w).w.draws .order (s.drawn.get .order)%(x::xs).length=j at hlt ⊢;generalize s.drawn.bump .order=d1
  have main:yq (yA prog w) A (match(x::xs)[j]? with
   |some y=>do return y::(<-drawOrder n ((x::xs).eraseIdx j))
   |none=>unsupported "internal:drawOrder") Q E {s with drawn:=d1 }:=by
   rw[yc hlt];dsimp only;refine ya (z4m n _ _ _ (by rw[List.length_eraseIdx_of_lt hlt];simp at hn ⊢;omega) λys d hp=>yi (h _ d ?_));exact(hp.cons _).trans (zYj _ _ hlt)
  simp only[Sem.wp_pure];exact main
variable {I:yg}
def z2p{first:yb}{n:Nat}{Q:yb->ye->Prop}(hI:SIt s.heap I a first i n ep)(h:Q (.ref I) s):yq (yA prog w) A (pyIter (.ref I)) Q E s:=by
 refine wpAny_pyIter_slot hI.typeIs zck (yO zck hI.typeIs zxn ?_ (zdp _));unfold YW.«dict_keyiterator.__iter__»;refine ya (m:=slotArgs "__iter__" 0 ⟨[YE I],[]⟩) (yi ?_);exact yi ⟨_,rfl,"set_iterator",_,hI.typeIs,tH.lookup,h⟩
abbrev zBy(ent:List (Int×yb))(i:Nat)(v:yb):Prop:=∃k,ent[i]?=some (k,v)
def z7t(hh:A.handled=none)(hne:a≠I)(hw:w.params.followText "set-order"=true) :
 Walks prog w A I [I,a] [I] es.size (zBy (pickOrder (w.params.setOrder a ep) es).toList) (λi h=>SIt h I a (.int ((0:Nat):Int) 0) i es.size ep/\SOb h a es ep t) where
 sub:=λb hb=>by simp at hb;simp[hb]
 frame:=λ_ _ _ st hk=>⟨st.1.at' λo e=>hk I (by simp) o e,st.2.at' λo e=>hk a (by simp) o e⟩
 item:=λi s Q E hi st hQ=>by
  have hl:(pickOrder (w.params.setOrder a ep) es).size=es.size:=by
   have:=(zKl (w.params.setOrder a ep) es).length_eq;simpa using this
  have hi':i<(pickOrder (w.params.setOrder a ep) es).size:=by omega
  have e1:(pickOrder (w.params.setOrder a ep) es)[i]?=some (pickOrder (w.params.setOrder a ep) es)[i]:=by simp[hi']
  refine z7l (nx:=0) (x:=(pickOrder (w.params.setOrder a ep) es)[i].2) st.1 st.2 (λQ' E' hq=>z9o hw st.2 (by rw[e1];exact hq)) λh' x sb=>?_;refine hQ _ h' s.toks ⟨_,by rw[xV,e1]⟩ ⟨x,st.2.at' λo e=>sb.extBut a o hne e⟩ λb o hb e=>sb.extBut b o (λh=>hb (by simp[h])) e
 done:=λs Q E st hQ=>by
  have hl:(pickOrder (w.params.setOrder a ep) es).size=es.size:=by
   have:=(zKl (w.params.setOrder a ep) es).length_eq;simpa using this
  refine zon hh st.1 st.2 (λQ' E' hq=>z9o hw st.2 (by rw[show(pickOrder (w.params.setOrder a ep) es)[es.size]?=none by simp;omega];exact hq)) λh' x=>hQ h' s.toks λb o hb e=>x b o (λh=>hb (by simp[h])) e
 self:=λ_ _ _ _ st hQ=>z2p st.1 hQ
def zrs(hh:A.handled=none)(hne:a≠I)(hw:w.params.followText "set-order"=false)(hd:(!t.plain&&decide (es.size>1))=false)(hT:TOk true t) :
 Walks prog w A I [I,a] [I] es.size (zBy es.toList) (λi h=>SIt h I a (.int (z9f t i:Nat) 0) i es.size ep/\SOb h a es ep t) where
 sub:=λb hb=>by simp at hb;simp[hb]
 frame:=λ_ _ _ st hk=>⟨st.1.at' λo e=>hk I (by simp) o e,st.2.at' λo e=>hk a (by simp) o e⟩
 item:=λi s Q E hi st hQ=>by
  have e1:es[i]?=some es[i]:=by simp[hi]
  refine z7l (nx:=z9f t (i+1)) (x:=es[i].2) st.1 st.2 (λQ' E' hq=>z5m hw hd hT (by omega) st.2 (by rw[e1];exact hq)) λh' x sb=>?_;refine hQ _ h' s.toks ⟨_,by rw[xV,e1]⟩ ⟨x,st.2.at' λo e=>sb.extBut a o hne e⟩ λb o hb e=>sb.extBut b o (λh=>hb (by simp[h])) e
 done:=λs Q E st hQ=>by
  refine zon hh st.1 st.2 (λQ' E' hq=>z5m hw hd hT (by omega) st.2 (by rw[show es[es.size]?=none by simp];exact hq)) λh' x=>hQ h' s.toks λb o hb e=>x b o (λh=>hb (by simp[h])) e
 self:=λ_ _ _ _ st hQ=>z2p st.1 hQ
def zQs{tup:yg}{ord:List Nat}{nt:Nat}(hh:A.handled=none)(hne:a≠I)(hne2:tup≠I)(hp:ord.Perm (yd es.size)) :
 Walks prog w A I [I,a,tup] [I] es.size (zBy (ord.map λj=>es.getD j (0,.none))) (λi h=>SIt h I a (.ref tup) i es.size ep/\SOb h a es ep t/\∃ot,h.get? tup=some ot/\ot.data=.seq (ord.map λ(j:Nat)=>YD j).toArray nt) where
 sub:=λb hb=>by simp at hb;simp[hb]
 frame:=λ_ _ _ st hk=>⟨st.1.at' λo e=>hk I (by simp) o e,st.2.1.at' λo e=>hk a (by simp) o e,let ⟨ot,h1,h2⟩:=st.2.2;⟨ot,hk tup (by simp) ot h1,h2⟩⟩
 item:=λi s Q E hi st hQ=>by
  obtain⟨st1,st2,ot,h1,h2⟩:=st
  have hl:ord.length=es.size:=by
   have:=hp.length_eq;simpa using this
  have hi':i<ord.length:=by omega
  have hj:ord[i]<es.size:=by
   have:=hp.mem_iff.mp (getElem_mem hi');simpa using this
  have e1:es[ord[i]]?=some es[ord[i]]:=by simp[hj]
  refine zAq (x:=es[ord[i]].2) (place:=ord[i]) (hx:=es[ord[i]].1) st1 st2 h1 h2 (by simp[hi',YD]) e1 λh' x sb=>?_;refine hQ _ h' s.toks ⟨es[ord[i]].1,by simp[hi',Xi,hj]⟩ ⟨x,st2.at' λo e=>sb.extBut a o hne e,ot,sb.extBut tup ot hne2 h1,h2⟩ λb o hb e=>sb.extBut b o (λh=>hb (by simp[h])) e
 done:=λs Q E st hQ=>by
  obtain⟨st1,st2,ot,h1,h2⟩:=st
  have hl:ord.length=es.size:=by
   have:=hp.length_eq;simpa using this
  refine z5r hh st1 st2 h1 h2 (by simp;omega) λh' x=>hQ h' s.toks λb o hb e=>x b o (λh=>hb (by simp[h])) e
 self:=λ_ _ _ _ st hQ=>z2p st.1 hQ
def zWk{ord:List Nat}(hp:ord.Perm (yd es.size)):(ord.map λj=>es.getD j (0,.none)).Perm es.toList:=by
 refine(hp.map _).trans ?_
 have:(yd es.size).map (λj=>es.getD j (0,YC))=es.toList:=by
  apply ext_getElem
  ·simp
  ·intro n h1 h2;simp at h1 h2;simp[Xi,h1]
 rw[this]
def zyA(prog:yy)(w:yJ)(A:yM)(s:ye)(es:Array (Int×yb))(a:yg)(I:yg)(s':ye):Prop :=
 ∃fp ent St,Walks prog w A I fp [I] es.size (zBy ent) St/\St 0 s'.heap/\ent.Perm es.toList/\s.heap.objs.size<=I/\(∀b∈fp,s.heap.objs.size<=b\/b=a)/\(∀b∈fp,b<s'.heap.objs.size)/\(∀b o,s.heap.get? b=some o->s'.heap.get? b=some o)/\∃d,s' = {s with heap:=s'.heap,drawn:=d }
def zUv{Q:yb->ye->Prop}(hh:A.handled=none)(hT:TOk (!w.params.followText "set-order") t)(hO:SOb s.heap a es ep t)(hsz:es.size<=yI)
 (h:∀I s',zyA prog w A s es a I s'->Q (.ref I) s'):yq (yA prog w) A (pyIter (.ref a)) Q E s:=by
 obtain⟨oa,hoa,hca,hda,hfa⟩:=id hO;have hTy:s.TypeIs (.ref a) "set":=⟨oa,hoa,hca⟩
 have hlt:a<s.heap.objs.size:=ym hoa;refine wpAny_pyIter_slot hTy F.slot_set_iter (yO F.slot_set_iter hTy z3o ?_ (F.args_set_iter_1 _));unfold YW.«frozenset.__iter__»;refine ya (m:=Builtin.Frozenset.slot0 "__iter__" ⟨[YE a],[]⟩) (yi ?_);unfold Builtin.Frozenset.sizeOf;refine ya (ya (xG hoa hda hfa (yi ?_)));unfold setDrawn;refine ya (ya (YL hoa hda hfa ?_));dsimp only;refine ya (zui (yi ?_));refine YQ (λhab=>?_) λhab=>?_
 ·have hab:(!w.params.followText "set-order" && (!t.plain&&decide (es.size>1)))=true:=hab;refine ya (z4m es.size _ _ _ (by simp) λord d hp=>?_)
  have hol:ord.length=es.size:=by
   have:=hp.length_eq;simpa using this
  unfold newTuple;refine ya (yT ?_ (by show(List.map (λ(i:Nat)=>YD i) ord).toArray.size<=yI;simp;omega));have hg:(s.heap.push {cls:=.type "tuple",data:=.seq (ord.map λ(i:Nat)=>YD i).toArray }).get? a=some oa:=yf _ hoa;refine ya ?_;unfold setEpoch;refine ya (YL (s:={s with heap:=_,drawn:=d }) hg hda hfa (yi ?_));unfold newFields;refine ya (yT (yi ⟨_,rfl,"set_iterator",_,⟨_,yp _ rfl,rfl⟩,tH.lookup,?_⟩));have hs1:(s.heap.push {cls:=.type "tuple",data:=.seq (ord.map λ(i:Nat)=>YD i).toArray }).objs.size=s.heap.objs.size+1:=by rw[Yw]
  refine h _ _ ⟨[(s.heap.push {cls:=.type "tuple",data:=.seq (ord.map λ(i:Nat)=>YD i).toArray }).objs.size,a,s.heap.objs.size],ord.map λj=>es.getD j (0,.none),_,
   zQs (t:=t) (ep:=ep) (nt:=0) hh (by rw[hs1];exact yw (yY hlt)) (by rw[hs1];exact yw (Yd _)) hp,⟨⟨_,yp _ rfl,rfl,by simp[YD]⟩,⟨oa,yf _ hg,hca,hda,hfa⟩,_,yf _ (yp _ rfl),rfl⟩,
   zWk hp,by rw[hs1];exact xN _,?_,?_,λb o e=>yf _ (yf _ e),d,rfl⟩
  ·intro b hb;rw[hs1]at hb;simp at hb;rcases hb with rfl|rfl|rfl
   ·exact .inl (xN _)
   ·exact .inr rfl
   ·exact .inl (yk _)
  ·intro b hb;show b<((s.heap.push _).push _).objs.size;rw[Yw,hs1];rw[hs1]at hb;simp at hb;rcases hb with rfl|rfl|rfl
   ·exact Yd _
   ·exact yY (yY hlt)
   ·exact yY (Yd _)
 ·have hab:¬(!w.params.followText "set-order" && (!t.plain&&decide (es.size>1)))=true:=hab;refine ya (yi ?_);refine ya ?_;unfold setEpoch;refine ya (YL hoa hda hfa (yi ?_));unfold newFields;refine ya (yT (yi ⟨_,rfl,"set_iterator",_,⟨_,yp _ rfl,rfl⟩,tH.lookup,?_⟩))
  have pre:∀(ent:List (Int×yb)) (St:Nat->Ye->Prop),Walks prog w A s.heap.objs.size [s.heap.objs.size,a] [s.heap.objs.size] es.size (zBy ent) St->St 0 (s.heap.push {cls:=.type "set_iterator",data:=.fields #[YD 0,YD 0,.ref a,YD es.size,YD ep]})->ent.Perm es.toList ->
   Q (.ref s.heap.objs.size) {s with heap:=s.heap.push {cls:=.type "set_iterator",data:=.fields #[YD 0,YD 0,.ref a,YD es.size,YD ep]}}:=λent St W st hp=>
   h _ _ ⟨_,ent,St,W,st,hp,yk _,λb hb=>by simp at hb;rcases hb with rfl|rfl;exact .inl (yk _);exact .inr rfl,λb hb=>by
    show b<(s.heap.push _).objs.size;rw[Yw];simp at hb;rcases hb with rfl|rfl
    ·exact Yd _
    ·exact yY hlt,λb o e=>yf _ e,s.drawn,rfl⟩
  cases hw:w.params.followText "set-order" with
  |true=>exact pre _ _ (z7t (t:=t) (ep:=ep) hh (yw hlt) hw) ⟨⟨_,yp _ rfl,rfl,by simp[YD]⟩,⟨oa,yf _ hoa,hca,hda,hfa⟩⟩ (zKl _ _)
  |false=>
   rw[hw]at hab hT;exact pre _ _ (zrs (t:=t) (ep:=ep) hh (yw hlt) hw (by simpa using hab) hT) ⟨⟨_,yp _ rfl,rfl,by simp[YD,z9f]⟩,⟨oa,yf _ hoa,hca,hda,hfa⟩⟩ (.refl _)
def z9v{Q:Bool->ye->Prop}(hT:s.TypeIs (.ref a) "set")(hq:Q false s):yq (yA prog w) A (xj (.ref a)) Q E s:=by
 unfold xj;refine ya (xr hT F.slot_set_len.lookup ?_);generalize hn:("set.__len__":String)=nm
 wp_delta
 rw[show splitId nm=some ("set","__len__") from by subst hn;decide +kernel];subst hn;refine ya (wpAny_isInstance (T:="set") (b:=true) hT (by rw[isSubtype_type];kernel_rfl) ?_);refine YQ (λno=>absurd no (by decide)) λ_=>?_;refine YQ (λ_=>?_) λno=>absurd (by decide +kernel) no;exact ya (xu hT (yi hq))
def zaB(s:ye)(es:Array (Int×yb))(vs:List yb)(s':ye):Prop :=
 (∃ent:List (Int×yb),ent.Perm es.toList/\vs=ent.map (·.2))/\(∀b o,s.heap.get? b=some o->s'.heap.get? b=some o)/\s'.os=s.os/\s'.gens=s.gens/\s.heap.objs.size<=s'.heap.objs.size
def z0v{ent:List (Int×yb)}{acc:Array yb}{n:Nat}(hl:ent.length=n)(h:ItemsOf (zBy ent) acc n):acc.toList=ent.map (·.2):=by
 apply ext_getElem
 ·simp[h.1,hl]
 ·intro j h1 h2;have h1':j<acc.size:=by simpa using h1
  obtain⟨k,e⟩:=h.2 j acc[j] (by simp[h1']);have h3:j<ent.length:=by simpa using h2
  rw[yc h3]at e;simp only[Xb]at e;simp[e]
def zUp{Q:List yb->ye->Prop}(hh:A.handled=none)(hT:TOk (!w.params.followText "set-order") t)(hO:SOb s.heap a es ep t)(hsz:es.size<=yI)(h:∀vs s',zaB s es vs s'->Q vs s') :
 yq (yA prog w) A (collect (.ref a)) Q E s:=by
 obtain⟨oa,hoa,hca,hda,hfa⟩:=id hO;have hlt:a<s.heap.objs.size:=ym hoa;unfold collect;refine ya (wpAny_runValue (YR F.entry_proto_collect ?_));rw[Yy F.plain_proto_collect _];show yq _ A.in1 (newList [] >>= λl=>again (.builtin "list.__iadd__" ⟨[l,.ref a],[]⟩)) _ _ s;refine ya (yT ?_);refine yi ⟨xz F.plain_list_iadd _,YR F.entry_list_iadd ?_⟩;rw[Yy F.plain_list_iadd _];obtain⟨S,hSe⟩:∃S,S=s.heap.objs.size:=⟨_,rfl⟩
 have hL:(s.heap.push {cls:=.type "list",data:=.seq ([]:List yb).toArray }).get? S=some {cls:=.type "list",data:=.seq #[]}:=by rw[hSe];exact yp _ rfl
 have hk0:∀b o,s.heap.get? b=some o->(s.heap.push {cls:=.type "list",data:=.seq ([]:List yb).toArray }).get? b=some o:=λb o e=>yf _ e;have hz0:(s.heap.push {cls:=.type "list",data:=.seq ([]:List yb).toArray }).objs.size=S+1:=by rw[hSe,Yw]
 show yq _ A.in1 (Yp (.ref s.heap.objs.size) (.ref a) (.ref s.heap.objs.size)) _ _ _;rw[<-hSe];generalize s.heap.push {cls:=.type "list",data:=.seq ([]:List yb).toArray } = h0 at hL hk0 hz0 ⊢;have hO0:SOb h0 a es ep t:=hO.at' λo e=>hk0 _ o e;have hSa:S≠a:=by rw[hSe];exact Yg hlt
 have hTy:Shared.TypeIs {s with heap:=h0 } (.ref a) "set":=⟨oa,hk0 _ _ hoa,hca⟩
 unfold Yp;refine ya (xu hTy ?_);have g1:xA (.ref S) (.ref a)=false:=by simp[xA,hSa]
 have g2:(Yo "set" == Yo "list")=false:=by decide
 have g3:(Yo "set" == Yo "tuple")=false:=by decide
 simp only[g1,g2,g3,Bool.or_false,xl,if_false];refine ya (zUv (s:={s with heap:=h0 }) hh hT hO0 hsz λI s1 hI=>?_);obtain⟨fp,ent,St,W,st,hp,hIs,hf1,hf2,hk1,d,hs1⟩:=hI;have hL1:s1.heap.get? S=some {cls:=.type "list",data:=.seq #[]}:=hk1 _ _ hL;have hIs:S+1<=I:=by rw[<-hz0];exact hIs
 have hSf:S∉fp:=λhm=>by
  rcases hf1 S hm with q|q
  ·have q:h0.objs.size<=S:=q;rw[hz0]at q;exact Yj _ q
  ·exact hSa q
 have hTy1:s1.TypeIs (.ref a) "set":=⟨oa,hk1 _ _ (hk0 _ _ hoa),hca⟩
 refine ya (Yc (z9v hTy1 ?_))
 have loop:∀(h2:Ye)(c:Nat),(∀b o,b≠S->s1.heap.get? b=some o->h2.get? b=some o)->h2.get? S=some {cls:=.type "list",data:=.seq #[] c } ->
  codeAny (yA prog w) A (.builtin "list.extend.loop" ⟨[.ref S,.ref I,.ref S],[]⟩) (λr s'=>∃acc c',r=.ok (.ret (.ref S))/\s'.heap.get? S=some {cls:=.type "list",dict:=none,data:=.seq acc c',slots:=#[]}/\zaB s es acc.toList s') {s1 with heap:=h2 }:=by
  intro h2 c hk2 hL2;refine codeAny_extend_loopS W.toS hsz S hSf (.ref S) es.size 0 _ #[] c rfl (yP _) (W.frame 0 _ _ st λb hb o e=>hk2 b o (λq=>hSf (q▸hb)) e) hL2 (ItemsOf.nil _) λs' acc c' hm hS' hacc=>?_;refine⟨acc,c',rfl,hS',⟨ent,hp,z0v (by simpa using hp.length_eq) hacc⟩,λb o e=>?_,?_,?_,by rw[<-hSe];exact Yq (ym hS')⟩
  ·have hb:b<s.heap.objs.size:=ym e;rw[<-hSe]at hb;refine hm.heap b o (λhmem=>?_) (hk2 b o (yw hb) (hk1 _ _ (hk0 _ _ e)));rcases List.mem_cons.mp hmem with q|q
   ·exact absurd hb (by rw[q];exact Yj _)
   ·rw[List.mem_singleton.mp q]at hb;exact Yj _ (Nat.lt_trans hb (yC (Yd _) hIs))
  ·have:=hm.os;rw[this];show s1.os=s.os;rw[hs1]
  ·have:s'.gens=s1.gens:=hm.gens;rw[this,hs1]
 have fin:∀(h2:Ye)(c:Nat),(∀b o,b≠S->s1.heap.get? b=some o->h2.get? b=some o)->h2.get? S=some {cls:=.type "list",data:=.seq #[] c } ->
  codeAny (yA prog w) A (.builtin "list.extend.loop" ⟨[.ref S,.ref I,.ref S],[]⟩) (λr s'=>match r with
   |.ok (.ret v)=>yq (yA prog w) A (match v with
    |.ref b=>do
     let o <-load b
     match o.data with
     |.seq xs _=>pure xs.toList
     |_=>unsupported "internal:collect"
    |_=>unsupported "internal:collect") Q E s'
   |_=>False) {s1 with heap:=h2 }:=λh2 c hk2 hL2=>xt (loop h2 c hk2 hL2) λr s' ⟨acc,c',e,hS',hc⟩=>by
  subst e;dsimp only;refine ya (wpAny_load hS' ?_);exact yi (h _ _ hc)
 refine YQ (λ_=>?_) λ_=>?_
 ·refine ya (wpAny_rule ?_);refine ya ?_;show yq _ _ (updateSeq S (·.push .none) >>= λ_=>updateSeq S (·.pop)) _ _ _;refine ya (wpAny_updateSeq hL1 rfl ?_);have hL2:=Yh (yU (·.push YC)) hL1 rfl;refine wpAny_updateSeq (hz:=by seq_fits) hL2 rfl ?_;have hL3:=Yh (yU (·.pop)) hL2 rfl;refine yi ⟨xz F.plain_extend_loop _,xt (fin _ _ (λb o hb e=>?_) hL3) λr s' z=>?_⟩
  ·exact(xh _ _ (Yk hb)).trans ((xh _ _ (Yk hb)).trans e)
  ·cases r with
   |error e=>exact z.elim
   |ok f=>cases f<;>exact z
 ·refine yi ⟨xz F.plain_extend_loop _,xt (fin _ _ (λb o hb e=>e) hL1) λr s' z=>?_⟩
  cases r with
  |error e=>exact z.elim
  |ok f=>cases f<;>exact z
end
end M
namespace M
open PySem PyProof.Rows
section
variable {prog:yy}{w:yJ}{A:yM}{E:yb->ye->Prop}{s:ye}{a:yg}
def zjj:∀(ent:List (Int×yb)),ElemsOf (intKind prog w) ent->Xl (ent.map (·.2)) (ent.map zjl)
 |[],_ =>.nil
 |e::ent,h=>by
  obtain⟨⟨k,hk,_⟩,_⟩:=h e mem_cons_self;obtain⟨t,ht⟩:=Value.isInt_shape (show Value.isInt k e.2=true from hk);have:zjl e=k:=by unfold zjl;rw[ht]
  rw[map_cons,map_cons,ht,this];exact .cons k t (zjj ent λx hx=>h x (mem_cons_of_mem _ hx))
def zGw(s:ye)(ks:List Int)(p:yg)(s':ye):Prop :=
 ∃(out:Array yb)(ns:List Int)(e:Nat),s'.heap.get? p=some {cls:=.type "list",data:=.seq out e }/\Xl out.toList ns/\ns.Perm ks/\ns.Pairwise (·<=·)/\s.heap.objs.size<=p/\(∀b o,s.heap.get? b=some o->s'.heap.get? b=some o)/\s'.os=s.os/\s'.gens=s.gens
def z9r{ks:List Int}{Q:yb->ye->Prop}(hh:A.handled=none)(hS:Tv prog w s.heap a ks)(h64:ks.length<64)(h:∀p s',zGw s ks p s'->Q (.ref p) s') :
 yq (yA prog w) A (call (.builtin "sorted") [.ref a]) Q E s:=by
 obtain⟨o,es,ep,t,ho,hex,hd,hf,hT,hel,hpk⟩:=hS
 have hlen:es.size=ks.length:=by
  have:=hpk.length_eq;simpa using this
 have hO:SOb s.heap a es ep t:=⟨o,ho,hex.1,hd,hf⟩
 refine Calls.call_function_entry kind_sorted plain_sorted entry_sorted (args_sorted1 _) ?_;unfold YW.«sorted»;refine ya (m:=checkCount "sorted" 1 1 _) (yi ?_);refine ya (zUp (A:=A.in1) hh hT hO (yD (Yq (by omega:es.size<64)) (by rw[yZ];decide)) λvs s1 hc=>?_);obtain⟨⟨ent,hp,rfl⟩,hk,hos,hgn,hsz⟩:=hc;have hel2:ElemsOf (intKind prog w) ent:=hel.perm hp;have hI:=zjj ent hel2
 have hl:ent.length=ks.length:=by
  rw[hp.length_eq];simpa using hlen
 refine ya (wpAny_newList ?_ (by simp;rw[yZ];omega));have hnew:(s1.heap.push (Yt "list" (ent.map (·.2)).toArray 0)).get? s1.heap.objs.size=some (Yt "list" (ent.map (·.2)).toArray 0):=yp _ rfl;refine ya (Yc (yO slot_list_sort ⟨_,hnew,rfl⟩ entry_list_sort (list_sort_tree hnew hI (by simp;omega) λout ns q1 q2 q3=>⟨_,rfl,?_⟩) (args_list_sort _)));obtain⟨e,he⟩:=sortedHeap_at (out:=out) hnew;refine yi ⟨_,rfl,h _ _ ⟨out,ns,e,he,q1,q2.trans ((hp.map zjl).trans hpk),q3,hsz,λb ob eb=>?_,hos,hgn⟩⟩;have hb1:=hk _ _ eb;have hlt1:b<s1.heap.objs.size:=ym hb1;show(sortedHeap (s1.heap.push (Yt "list" (ent.map (·.2)).toArray 0)) s1.heap.objs.size (ent.map (·.2)) out).get? b=some ob;rw[sortedHeap_old (yw hlt1) (by rw[size_push'];exact yY hlt1)];exact yf _ hb1
end
def z1z(ks:List Int)(k:Int):List Int:=if k∈ks then ks else ks++[k]
def uqN(val:Nat->Int):Nat->List Int
 |0=>[]
 |i+1=>z1z (uqN val i) (val i)
def zfu(val:Nat->Int):∀i,(uqN val i).length<=i
 |0=>yk _
 |i+1=>by
  have:=zfu val i;unfold uqN z1z
  split
  ·omega
  ·simp;omega
def zXu(val:Nat->Int)(k:Int):∀i,k∈uqN val i↔∃j,j<i/\val j=k
 |0=>by simp[uqN]
 |i+1=>by
  have ih:=zXu val k i;unfold uqN z1z;constructor
  ·intro h
   split at h
   ·obtain⟨j,h1,h2⟩:=ih.mp h;exact⟨j,by omega,h2⟩
   ·rcases List.mem_append.mp h with h|h
    ·obtain⟨j,h1,h2⟩:=ih.mp h;exact⟨j,by omega,h2⟩
    ·exact⟨i,by omega,by simpa using(List.mem_singleton.mp h).symm⟩
  ·rintro⟨j,h1,h2⟩
   by_cases e:j=i
   ·subst e
    split
    ·rename_i hm
     rw[<-h2];exact hm
    ·simp[h2]
   ·have:=ih.mpr ⟨j,by omega,h2⟩
    split
    ·exact this
    ·exact mem_append_left _ this
def znp(val:Nat->Int):∀i,(uqN val i).Nodup
 |0=>List.nodup_nil
 |i+1=>by
  have ih:=znp val i;unfold uqN z1z
  split
  ·exact ih
  ·rename_i hm
   rw[nodup_append];exact⟨ih,by simp,λa ha b hb e=>by simp at hb;subst hb;exact hm (e▸ha)⟩
section
variable {prog:yy}{w:yJ}{A:yM}{R:Result->ye->Prop}{I:yg}{fp wr:List yg}{n:Nat}{P:Nat->yb->Prop}{St:Nat->Ye->Prop}
def zwv(W:Walks prog w A.in1 I fp wr n P St)(S:yg)(hSf:S∉fp)(val:Nat->Int)(hval:∀i v,P i v->∃t,v=.int (val i) t)(hb:n+1<scanBound):∀(k i:Nat)(s:ye),n-i=k->i<=n->St i s.heap->Tv prog w s.heap S (uqN val i) ->
 (∀h' tk,(∀b o,b∉S::wr->s.heap.get? b=some o->h'.get? b=some o)->Tv prog w h' S (uqN val n)->R (.ok (.ret .none)) {s with heap:=h',toks:=tk })->codeAny (yA prog w) A (.builtin "set.update.loop" ⟨[.ref S,.ref I],[]⟩) R s:=by
 have hSw:S∉wr:=λq=>hSf (W.sub _ q);intro k
 induction k with
 |zero=>
  intro i s hk hi st hS hR;have e:i=n:=by omega
  subst e;refine YR PyProof.Rows.F.entry_set_update_loop ?_;rw[Yy xg _];show yq _ A.in1 (pyNext (.ref I) >>= _) _ _ s;refine ya (W.done s _ _ st λh' tk hk'=>?_);exact yi (hR h' tk (λb o hb e=>hk' b o (λq=>hb (mem_cons_of_mem _ q)) e) (hS.at' λo e=>hk' S o hSw e))
 |succ k ih=>
  intro i s hk hi st hS hR;have hlt:i<n:=by omega
  refine YR PyProof.Rows.F.entry_set_update_loop ?_;rw[Yy xg _];show yq _ A.in1 (pyNext (.ref I) >>= _) _ _ s;refine ya (W.item i s _ _ hlt st λv h1 tk hP st1 hk1=>?_);obtain⟨t,rfl⟩:=hval i v hP;show yq _ A.in1 (holding [Value.int (val i) t] (setAdd S (.int (val i) t)) >>= _) _ _ _;refine ya (Yc ?_);unfold setAdd;refine Yc ?_;refine ya (wpAny_pyHash_int ?_);have hS1:Tv prog w h1 S (uqN val i):=hS.at' λo e=>hk1 S o hSw e;refine zKx (s:={s with heap:=h1,toks:=tk+1 }) hS1 (by have:=zfu val i;omega) λb h2 sb hS2=>?_;refine yi ⟨xz xg _,ih (i+1) _ (by omega) hlt (W.frame _ _ _ st1 λc hc o e=>?_) hS2 λh3 tk3 hk3 hS3=>?_⟩
  ·exact sb.extBut c o (λq=>hSf (q▸hc)) e
  ·exact hR h3 tk3 (λc o hc e=>hk3 c o hc (sb.extBut c o (λq=>hc (by rw[q];exact mem_cons_self)) (hk1 c o (λq=>hc (mem_cons_of_mem _ q)) e))) hS3
variable {E:yb->ye->Prop}{s:ye}
abbrev zEe(w:yJ):xa:={cls:=.type "set",dict:=none,data:=.set #[] 0 (.fresh 0 0 (!w.params.followText "set-order"))}
def zpy(a:yb){Q:yb->ye->Prop}(h:Q (.ref s.heap.objs.size) {s with heap:=s.heap.push (zEe w)}) :
 codeAny (yA prog w) A (.call (.builtin "set.__new__") ⟨[.type "set",a],[]⟩) (wants Q E) s:=by
 refine codeAny_of_tree ?_;show yq _ A.in1 (do checkBuiltinCall "set.__new__" ⟨[.type "set",a],[]⟩;again (.builtin "set.__new__" ⟨[.type "set",a],[]⟩)) _ _ s;refine ya (wpAny_of_eq (PySem.F.newCall_set_1 a) (yi ⟨xz PySem.F.plain_set_new _,YR PySem.F.entry_set_new ?_⟩));rw[Yy PySem.F.plain_set_new _];unfold YW.«set.__new__» Builtin.Frozenset.newClass;have hsub:=PySem.sub_set_self;obtain⟨hp,g,d,tk,os⟩:=s;dsimp only
 wp_walk
 refine wpAny_askSetting (yi ?_);dsimp only;simp only[newObj];refine ya (wpAny_alloc (yi ?_));exact yi h
def zou(prog:yy)(w:yJ)(s:ye)(ks:List Int)(s':ye):Prop :=
 Tv prog w s'.heap s.heap.objs.size ks/\(∀b o,s.heap.get? b=some o->s'.heap.get? b=some o)/\∃h' tk,s' = {s with heap:=h',toks:=tk }
set_option maxHeartbeats 3200000 in
def zlq{l:yg}{its:Array yb}{ns:List Int}{Q:yb->ye->Prop}(hh:A.handled=none)(hl:s.heap.IsList l its)(hi:Xl its.toList ns)(hb:its.size+1<scanBound)
 (h:∀s',zou prog w s (uqN (λi=>ns.getD i 0) its.size) s'->Q (.ref s.heap.objs.size) s'):yq (yA prog w) A (call (.type "set") [.ref l]) Q E s:=by
 obtain⟨c,tl,hmro⟩:=PySem.F.called_set.mro;have hmade:=PySem.F.called_set.made;have hsub:=PySem.F.called_set.sub;refine wpAny_call (codeAny_of_tree ?_);show yq _ _ (callAny (.type "set") _) _ _ _;refine yi ⟨Code.quiet_builtin _ (by decide +kernel),YR PySem.F.entry_type_call ?_⟩;rw[Around.under_plain (weight_type_call_type "set" [.ref l] []) rfl];have t1:=PySem.F.called_set.notType;have t2:=PySem.F.called_set.canCreate;have t3:=PySem.F.typeCall_set_1 (.ref l)
 repeat (any_goals (first|assumption|wp_step))
 refine xt (zpy (w:=w) (.ref l) (E:=E) (Q:=λob s1=>ob=.ref s.heap.objs.size/\s1 = {s with heap:=s.heap.push (zEe w)}) ⟨rfl,rfl⟩) λr s1 hr=>?_
 cases r with
 |error e=>exact hr
 |ok fl=>
  cases fl with
  |ret ob=>
   obtain⟨rfl,rfl⟩:=hr;have hS:(s.heap.push (zEe w)).get? s.heap.objs.size=some (zEe w):=yp _ rfl;have hT:Shared.TypeIs {s with heap:=s.heap.push (zEe w)} (.ref s.heap.objs.size) "set":=⟨_,hS,rfl⟩
   have i1:=PySem.F.called_set.init.lookup;have i2:=PySem.F.called_set.init.bind (.ref s.heap.objs.size)
   repeat (any_goals (first|assumption|wp_step))
   refine xt (codeAny_call_builtin (R:=wants (λr s2=>r=.none/\zou prog w s (uqN (λi=>ns.getD i 0) its.size) s2) E) PySem.F.called_set.init.plain PySem.F.entry_set_init (check_set_init_1 hT ?_)) λr2 s2 hr2=>?_
   ·obtain⟨ol,hol,hcl,nl,hdl⟩:=hl;obtain⟨ocls,odict,odata,oslots⟩:=ol;simp only at hcl hdl;subst hcl;subst hdl;have hlS:l<s.heap.objs.size:=ym hol;have hol1:(s.heap.push (zEe w)).get? l=some {cls:=.type "list",dict:=odict,data:=.seq its nl,slots:=oslots }:=yf _ hol;have n1:=PySem.F.sub_list_set;have n2:=PySem.F.sub_list_frozenset;have n3:(Yo "list" == Yo "dict")=false:=by decide
    have hl1:(s.heap.push (zEe w)).IsList l its:=⟨_,hol1,rfl,nl,rfl⟩
    unfold YW.«set.__init__» noKeywords Builtin.Frozenset.updateFrom;generalize hPI:pyIter=PI
    wp_walk
    subst hPI;refine xZ hl1 ?_;refine ya (wpAny_runValue ?_);have hz:(s.heap.push (zEe w)).objs.size=s.heap.objs.size+1:=by rw[Yw]
    have hne:l≠(s.heap.push (zEe w)).objs.size:=by rw[hz];exact yw (yY hlS)
    have hSf:s.heap.objs.size∉[(s.heap.push (zEe w)).objs.size,l]:=by
     rw[hz];simp only[mem_cons,not_mem_nil,or_false,not_or];exact⟨yw (Yd _),Yg hlS⟩
    have hval:∀(i:Nat)(v:yb),its[i]?=some v->∃t,v=.int ((λi=>ns.getD i 0) i) t:=λi v hv=>IntsAre.int_at hi i v (by rw[xV];exact hv);refine zwv (Walks.list (by simp[hh]) _ l hne its) s.heap.objs.size hSf (λi=>ns.getD i 0) hval hb (its.size-0) 0 _ (by omega) (yP _) ⟨⟨_,yp _ rfl,rfl,rfl⟩,hl1.push _⟩ ?s0 ?r0
    case s0=>
     exact⟨zEe w,#[],0,_,yf _ hS,⟨rfl,rfl,rfl⟩,rfl,rfl,.fresh _,λe he=>by simp at he,by simp[uqN]⟩
    case r0=>
     intro h' tk hk hS';refine yi ?_;show yq _ _ (ret YC) _ _ _;refine yi ⟨rfl,hS',λb o e=>?_,h',tk,rfl⟩;have hlt:b<s.heap.objs.size:=ym e;refine hk b o ?_ (yf _ (yf _ e));rw[hz];simp only[mem_cons,not_mem_nil,or_false,not_or];exact⟨yw hlt,yw (yY hlt)⟩
   ·cases r2 with
    |error e=>exact hr2
    |ok fl2=>
     cases fl2 with
     |ret r=>
      obtain⟨rfl,hm⟩:=hr2
      repeat (any_goals (first|assumption|wp_step))
      exact h _ hm
     |_=>exact hr2.elim
  |_=>exact hr.elim
end
end M
namespace M
open PySem PySem.Spec PyProof.Rows L2
section
variable {X:Cx}{U:List (yg×xa)}{Y:L2.St}{H:Hp}{s s':ye}
def zpw(I:Inv X U Y H s)(ho:s'.os=s.os)(hg:s'.gens=s.gens)(k:∀b u,s.heap.get? b=some u->s'.heap.get? b=some u):Inv X U Y H s' :=
 I.call' (ch:=[]) ho (Un.kept k) (I.hok.kept k) (by rw[hg];exact I.bare) λb z=>nomatch z
def zOr{p:yg}{o:HO}(I:Inv X U Y H s)(ho:s'.os=s.os)(hg:s'.gens=s.gens)(k:∀b u,s.heap.get? b=some u->s'.heap.get? b=some u)(hp:s.heap.objs.size<=p)(new:tQ X.prog X.w (upd H p o) s'.heap p o):Inv X U Y (upd H p o) s' :=
 I.call' (ch:=[]) ho (Un.laid k hp (I.hok.fresh hp)) (I.hok.laid k hp new) (by rw[hg];exact I.bare) λb z=>nomatch z
def zzf:∀{us:List yb} {ns:List Int},Xl us ns->Vals (ns.map V.int) us
 |_,_,.nil =>.nil
 |_,_,.cons n t r =>.cons ⟨t,rfl⟩ (zzf r)
def zRv(X:Cx)(p:yg)(ks:List Int):HO:=.ext λh=>Tv X.prog X.w h p ks
def zyt(hc:X.calm=true):zrm X (.type "set") (λxs H Q=>∃(a:yg)(ns:List Int),xs=[.ref a]/\SqL X.K H a (ns.map V.int)/\ns.length+1<scanBound/\∀p,H p=none->Q (.ref p) (upd H p (zRv X p (uqN (λi=>ns.getD i 0) ns.length)))):=by
 intro U s Y H xs us Q I r ⟨a,ns,e,hq,hb,k⟩;subst e;obtain⟨u,rfl,rx⟩:=vals1 r;cases rx;obtain⟨its,rv,pl,hz⟩:=I.list hq;have hl:its.length=ns.length:=by rw[<-rv.length];simp
 refine zlq (I.ok.hd hc) pl.isList (its:=its.toArray) (ns:=ns) (by simpa using z0f rv) (by simp;omega) λs' ⟨hS,hk,h',tk,e⟩=>?_;subst e;rw[show its.toArray.size=ns.length by simp;exact hl]at hS;refine⟨.ref s.heap.objs.size,_,I.laid (t':=tk) hk (yk _) (show tQ X.prog X.w _ h' _ (zRv X _ _) from⟨hS,?_,λh1 h2 x y=>x.at' y⟩),rfl,k _ I.fresh⟩;obtain⟨o,_,_,_,ho,_⟩:=hS;exact⟨o,ho⟩
def z6r(hc:X.calm=true):zrm X (.builtin "sorted") (λxs H Q=>∃(a:yg)(ks:List Int),xs=[.ref a]/\H a=some (zRv X a ks)/\ks.length<64/\∀(p:yg)(ns:List Int),H p=none->ns.Perm ks->ns.Pairwise (·<=·)->Q (.ref p) (upd H p (.lst (ns.map V.int)))):=by
 intro U s Y H xs us Q I r ⟨a,ks,e,hq,h64,k⟩;subst e;obtain⟨u,rfl,rx⟩:=vals1 r;cases rx;obtain⟨hS,_,_⟩:=I.hok a _ hq;refine z9r (I.ok.hd hc) hS h64 λp s' ⟨out,ns,e,h1,h2,h3,h4,h5,h6,h7,h8⟩=>?_;have hl:ns.length=ks.length:=h3.length_eq;refine⟨.ref p,_,zOr I h7 h8 h6 h5 (show tQ X.prog X.w _ s'.heap _ (.lst (ns.map V.int)) from⟨by simp;rw[yZ];omega,out.toList,e,zzf h2,by simpa using h1⟩),rfl,k p ns (I.hok.fresh h5) h3 h4⟩
end
def zEB:D->Option Int
 |.int i=>some i
 |_=>none
def zWl(ds:List D):Option (List Int):=ds.mapM zEB
@[simp] theorem zhj:∀ns:List Int,zWl (ns.map D.int)=some ns
 |[]=>rfl
 |i::ns=>by
  have:=zhj ns;unfold zWl at this ⊢;rw[map_cons,mapM_cons,this];rfl
def zPf:∀{ds:List D} {ns:List Int},zWl ds=some ns->ds=ns.map D.int
 |[],ns,h=>by
  unfold zWl at h;simp at h;subst h;rfl
 |d::ds,ns,h=>by
  unfold zWl at h;rw[mapM_cons]at h;obtain⟨i,e1,h⟩:=zi h;obtain⟨r,e2,h⟩:=zi h;cases h
  cases d with
  |int j=>cases e1;rw[zPf (show zWl ds=some r from e2)];rfl
  |_=>cases e1
def zzh{K:yB}{Z:List yg}{H:Hp}:∀{ns:List Int} {vs:List V},tf K Z H (ns.map D.int) vs->vs=ns.map V.int
 |[],vs,r=>r.nil_inv
 |i::ns,vs,r=>by
  obtain⟨v,q,rfl,h1,h2⟩:=r.cons_inv;rw[h1.int_inv,zzh h2];rfl
def zug{K:yB}{Z:List yg}{H:Hp}:∀{ns:List Int},tf K Z H (ns.map D.int) (ns.map V.int)
 |[] =>.nil
 |i::ns =>.cons .int zug
def uqL(ns:List Int):List Int:=uqN (λi=>ns.getD i 0) ns.length
def zzv(ns:List Int):List Int:=(uqL ns).mergeSort λa b=>decide (a<=b)
def zKd{a b:List Int}(p:a.Perm b)(ha:a.Pairwise (·<=·))(hb:b.Pairwise (·<=·)):a=b:=p.eq_of_pairwise (λ_ _ _ _ h1 h2=>Int.le_antisymm h1 h2) ha hb
def zZj(ns:List Int):(ns.mergeSort λa b=>decide (a<=b)).Pairwise (·<=·):=by
 have:=List.pairwise_mergeSort (le:=λa b:Int=>decide (a<=b)) (λa b c h1 h2=>by simp at h1 h2 ⊢;omega) (λa b=>by simp;omega) ns;exact this.imp λh=>by simpa using h
def zNq(G:FE):FE:=λJ μ=>(G J μ).bind λp=>match p.1 with
 |.loc n=>match p.2[n]? with
  |some (.lst ds)=>(zWl ds).bind λns=>bif decide (ns.length<=4000/\(uqL ns).length<64) then some (.loc p.2.length,p.2++[.lst ((zzv ns).map .int)]) else none
  |_=>none
 |_=>none
section
variable {X:Cx}{a b c e:yG}{es:List yG}{G ψ χ:FE}{pos pos2 p1 p2:Xd}
def z0p(hm1:X.mg "sorted"=none)(hv1:yL "sorted"=some (.builtin "sorted"))(hm2:X.mg "set"=none)(hv2:yL "set"=some (.type "set"))(h:ME X e G)(hc:X.calm=true:=by rfl)(hg1:Gl X "sorted":=by rfl)(hg2:Gl X "set":=by rfl)
 (he:yu [e] X.env=(false,Yx e X.env)::yu [] X.env:=by rfl) (he2:yu [.Call (.Name "set" p2) [e] [] pos2] X.env=(false,Yx (.Call (.Name "set" p2) [e] [] pos2) X.env)::yu [] X.env:=by rfl) :
 ME X (.Call (.Name "sorted" p1) [.Call (.Name "set" p2) [e] [] pos2] [] pos) (zNq G) :=
 zwg (z6q (z6r hc) hg1 hm1 hv1 (zbi (z2i (zyt hc) hg2 hm2 hv2 (zbi h z0l he) (by decide) (by decide) he rfl) z0l he2) (by decide) (by decide) he2 rfl) λZ J μ Y H d μ' Q A e k=>by
  obtain⟨⟨x,μ1⟩,e1,e⟩:=zi e;refine⟨Z,J,μ,x,μ1,A,e1,λZ1 H1 v x1 R1 r1=>?_⟩;dsimp only at e
  split at e
  ·split at e
   ·rename_i hm
    obtain⟨ns,e2,e⟩:=zi e;obtain⟨hb,e⟩:=z5 e;have hb:=of_decide_eq_true hb;cases e;rw[zPf e2]at hm;obtain⟨p,rfl,ep⟩:=r1.tD;obtain⟨vs,e3,q⟩:=R1.at_ _ _ _ ep hm;rw[zzh q]at e3;refine⟨p,ns,rfl,SqL.of e3,by unfold scanBound;omega,λp1 hp1=>?_⟩;refine⟨p1,uqL ns,rfl,zH,hb.2,λp2 ms hp2 hpm hpw=>?_⟩;have hms:ms=zzv ns:=zKd (hpm.trans (mergeSort_perm _ _).symm) hpw (zZj _);subst hms;have R2:=R1.Ts (o:=zRv X p1 (uqL ns)) hp1;exact k _ _ _ (x1.trans ((Ext.new hp1).trans (Ext.push hp2))) (R2.push hp2 ⟨_,zH,zug⟩) (.loc (zSb R2))
   ·cases e
  ·cases e
variable {prog:yy}{w:yJ}{A:yM}{E:yb->ye->Prop}{s:ye}
def zts{l b:yg}{its its2:List yb}{n:Nat}{Q:yb->ye->Prop}(hl:s.heap.get? l=some {cls:=.type "list",data:=.seq its.toArray n })(hb:IsTup s.heap b its2.toArray)(hz:its.length+its2.length<=yI)
 (h:Q .none {s with heap:=s.heap.update l (yU (· ++ its2.toArray))}):yq (yA prog w) A (call (.builtin "list.extend") [.ref l,.ref b]) Q E s:=by
 obtain⟨o,ho,hc,m,hd⟩:=hb
 have hlong:¬(!its.toArray.isEmpty&&YV (its.toArray.size+its2.toArray.size))=true:=by
  rw[sf (by rw[size_toArray,size_toArray];exact hz),Xg];exact yv
 refine yO PySem.F.slot_list_extend ⟨_,hl,rfl⟩ PySem.F.entry_list_extend ?_ (PySem.F.args_list_extend_2 _ _);unfold YW.«list.extend»;refine ya (m:=selfAndOne "list.extend" ⟨[.ref l,.ref b],[]⟩) (yi ?_);dsimp only;unfold Yp;refine ya (xu (T:="tuple") ⟨o,ho,hc⟩ ?_);have ht:(Yo "tuple" == Yo "tuple")=true:=by rfl
 rw[if_pos (by rw[ht];simp)];refine ya (Xm ho hd ?_);refine ya (Xm hl rfl ?_);rw[if_neg hlong];refine ya (listUpdate_at hl rfl ?_ (by rw[size_toArray];omega) (by rw[Array.size_append,size_toArray,size_toArray];omega));exact yi ⟨_,rfl,h⟩
@[simp] def zSw:GM:=λx ds μ=>match x,ds with
 |.loc n,[.tup ys]=>match μ[n]? with
  |some (.lst xs)=>bif decide (xs.length+ys.length<=1000000) then some (.non,μ.set n (.lst (xs++ys))) else none
  |_=>none
 |.loc n,[.loc m]=>match μ[n]?,μ[m]? with
  |some (.lst xs),some (.lst ys)=>bif decide (xs.length+ys.length<=1000000) then some (.non,μ.set n (.lst (xs++ys))) else none
  |_,_=>none
 |_,_=>none
def zRs:MtG X "list.extend" zSw:=by
 refine MtG.of λU s Y H x xs v us Q I rx rs Z dx ds μ d μ' r1 r2 R e k=>?_;have hmi:=Th;unfold zSw at e
 split at e
 ·split at e
  ·rename_i hm
   obtain⟨h1,e⟩:=z5 e;have h1:=of_decide_eq_true h1;cases e;obtain⟨l,rfl,ea⟩:=r1.tD;obtain⟨vs,e3,q3⟩:=R.at_ _ _ _ ea hm;obtain⟨w,r,rfl,q1,q2⟩:=r2.cons_inv;rw[q2.nil_inv]at rs;obtain⟨b,ws,rfl,eb,qb⟩:=q1.tW;obtain⟨u,rfl,ru⟩:=vals1 rs;cases ru;cases rx;obtain⟨z,its,n,rv,hl,el⟩:=I.TX e3;obtain⟨its2,rv2,pt,_⟩:=I.tuple (SqT.of (K:=X.K) eb);have hl1:=q3.length;have hl2:=qb.length;have hl3:=rv2.length;have hmu:Mut (H l):=by rw[e3];trivial
   refine zts el pt (by omega) ?_;refine⟨.non,_,I.sZ (t':=s.toks) (ys:=vs++ws) (its':=its++its2) e3 el (by simp) (rv.append rv2) (by rw[length_append];omega),rfl,?_⟩;exact k Z _ _ (Ext.wr hmu) (R.wr hmu ea ⟨_,zH,tf.ext (Ext.wr hmu) (q3.append qb)⟩) .non
  ·cases e
 ·split at e
  ·rename_i hm1 hm2
   obtain⟨h1,e⟩:=z5 e;have h1:=of_decide_eq_true h1;cases e;obtain⟨l,rfl,ea⟩:=r1.tD;obtain⟨vs,e3,q3⟩:=R.at_ _ _ _ ea hm1;obtain⟨w,r,rfl,q1,q2⟩:=r2.cons_inv;rw[q2.nil_inv]at rs;obtain⟨b,rfl,eb⟩:=q1.tD;obtain⟨ws,e4,q4⟩:=R.at_ _ _ _ eb hm2;have hl1:=q3.length;have hl2:=q4.length;have hmu:Mut (H l):=by rw[e3];trivial
   refine zYu U s Y H _ _ v us Q I rx rs ⟨l,b,vs,ws,rfl,rfl,e3,e4,by omega,?_⟩;exact k Z _ _ (Ext.wr hmu) (R.wr hmu ea ⟨_,zH,tf.ext (Ext.wr hmu) (q3.append q4)⟩) .non
  ·cases e
 ·cases e
def zml{o:yG}{ψ:FA}{apos:Xd}(ho:ME X o G)(ha:MAn X (e::es) ψ)
 (hbase:YG o "extend" X.env (Yx o X.env)=Yx o X.env:=by rfl)
 (hfew:((YY pos (yu (e::es) X.env)).all (λx=>!x.1)&&(backToKw pos (Xf [] X.env)).all (λx=>x.1.isSome)
  && decide ((e::es).length+([]:List xF).length+(if([]:List xF).isEmpty then 0 else 1)<30))=true:=by rfl)
 (hline:(apos.endLine==pos.line)=true:=by rfl) (hs:yu (e::es) X.env=(false,Yx e X.env)::yu es X.env:=by rfl) (hplain:(YY pos (yu es X.env)).any (·.1)=false:=by rfl) :
 ME X (.Call (.Attribute o "extend" apos) (e::es) [] pos) (zke zSw G ψ):=z9j PySem.F.slot_list_extend PySem.F.type_list_extend zRs ho ha hbase hfew hline hs hplain
@[simp] def zSx:GL:=λds μ=>match ds with
 |[.loc n]=>match μ[n]? with
  |some (.lst xs)=>(zWl xs).bind λns=>some (.int ns.sum,μ)
  |_=>none
 |_=>none
def zwo(ns:List Int):∀i,i<=ns.length->preSum (λj=>ns.getD j 0) i=(ns.take i).sum
 |0,_=>by simp[preSum]
 |i+1,h=>by
  have ih:=zwo ns i (by omega);unfold preSum;have hi:i<ns.length:=by omega
  have e:ns.take (i+1)=ns.take i++[ns[i]]:=by simp
  rw[ih,e,List.sum_append];simp[hi]
def zcl(hc:X.calm=true):tZ X (.builtin "sum") zSx:=by
 refine tZ.of λU s Y H xs us Q I r Z ds μ d μ' r1 R e k=>?_;unfold zSx at e
 split at e
 ·split at e
  ·rename_i hm
   obtain⟨ns,e2,e⟩:=zi e;cases e;rw[zPf e2]at hm;obtain⟨v,rr,rfl,q1,q2⟩:=r1.cons_inv;obtain⟨a,rfl,ea⟩:=q1.tD;obtain⟨vs,e3,q3⟩:=R.at_ _ _ _ ea hm;rw[zzh q3]at e3;rw[q2.nil_inv]at r;obtain⟨u,rfl,ru⟩:=vals1 r;cases ru;obtain⟨its,rv,pl,hz⟩:=I.list (SqL.of (K:=X.K) e3);have hlt:a<s.heap.objs.size:=by obtain⟨_,_,e,_⟩:=pl;exact ym e
   have hI:=z0f rv;have hl:its.length=ns.length:=by rw[<-rv.length];simp
   refine call_sum_walkAnyS (xZ pl.isList ?_);refine⟨_,_,_,_,_,_,_,λj=>ns.getD j 0,rfl,(Walks.list (A:=X.A.in1) (I.ok.hd hc) s.heap.objs.size a (yw hlt) its.toArray).toS,⟨⟨_,yp _ rfl,rfl,rfl⟩,pl.isList.push _⟩,λb hb=>?_,λi v hv=>IntsAre.int_at hI i v (by simpa using hv),λs' t' hmv=>?_⟩
   ·show b<(s.heap.push _).objs.size;rw[Yw];simp at hb;rcases hb with rfl|rfl
    ·exact Yd _
    ·exact yY hlt
   ·refine⟨.int _,H,zpw I hmv.os hmv.gens λb o e=>hmv.heap b o (by simpa using yw (ym e)) (yf _ e),⟨t',rfl⟩,?_⟩;rw[size_toArray,hl,zwo ns _ (yk _),take_length];exact k Z H _ Ext.refl R .int
  ·cases e
 ·cases e
@[simp] def zZg(G:FE):FI:=λJ μ=>(G J μ).bind λp=>match p.1 with
 |.tup ds=>some (ds,yes,p.2)
 |.fz ds=>some (ds,yes,p.2)
 |.loc n=>match p.2[n]? with
  |some (.lst ds)=>some (ds,zqm n ds,p.2)
  |_=>none
 |_=>none
def zzb{tg:yG}(h:ME X a G):MI X tg a (zZg G):=by
 intro U s Y H R I hh;obtain⟨Z,J,μ,ds,ok,μ',A,e,k⟩:=hh
 cases e1:G J μ with
 |none=>unfold zZg at e;rw[e1]at e;cases e
 |some p=>
  obtain⟨x,μ1⟩:=p
  cases x with
  |tup zs=>exact zTz h U s Y H R I ⟨Z,J,μ,ds,ok,μ',A,by unfold zZg at e;unfold zOw;rw[e1]at e ⊢;exact e,k⟩
  |fz zs=>exact z4u h U s Y H R I ⟨Z,J,μ,ds,ok,μ',A,by unfold zZg at e;unfold zht;rw[e1]at e ⊢;exact e,k⟩
  |loc n=>exact z4u h U s Y H R I ⟨Z,J,μ,ds,ok,μ',A,by unfold zZg at e;unfold zht;rw[e1]at e ⊢;exact e,k⟩
  |_=>unfold zZg at e;rw[e1]at e;cases e
def zzw(p:yg)(j:Int):HO:=.ext λh=>∃t u v,IsRange h p 0 j 1 t u v
def zkq:zrm X (.type "range") (λxs H Q=>∃j:Int,xs=[.int j]/\∀p,H p=none->Q (.ref p) (upd H p (zzw p j))):=by
 intro U s Y H xs us Q I r ⟨j,e,k⟩;subst e;obtain⟨u,rfl,ru⟩:=vals1 r;obtain⟨t,rfl⟩:=ru;refine call_range_1 ?_;refine⟨.ref s.heap.objs.size,_,I.laid (t':=s.toks+1+1) (λb o e=>yf _ e) (yk _) (show tQ X.prog X.w _ _ _ (zzw _ j) from⟨⟨_,_,_,IsRange.new _ _ _ _ _ _ _⟩,⟨_,yp _ rfl⟩,λh1 h2 ⟨t,u,v,x⟩ y=>⟨t,u,v,y _ x⟩⟩),rfl,k _ I.fresh⟩
def zSs{its:Array yb}{n:Nat}(h:ItemsOf (λi v=>∃t,v=.int (0+i*1) t) its n):Vals ((yd n).map λ(k:Nat)=>V.int k) its.toList:=by
 obtain⟨h1,h2⟩:=h
 have key:∀(l:List yb)(m:Nat),(∀i (hi:i<l.length),∃t,l[i]=.int ((m+i:Nat):Int) t)->Vals ((List.range' m l.length).map λ(k:Nat)=>V.int k) l:=by
  intro l
  induction l with
  |nil=>intro m _;exact .nil
  |cons x xs ih=>
   intro m h;obtain⟨t,e⟩:=h 0 (by simp);refine .cons ⟨t,by simpa using e⟩ (ih (m+1) λi hi=>?_);obtain⟨t,e⟩:=h (i+1) (by simpa using hi);exact⟨t,by rw[show m+1+i=m+(i+1) by omega];simpa using e⟩
 have:=key its.toList 0 λi hi=>?_
 ·rw[List.range_eq_range',<-h1];simpa using this
 ·have hi':i<its.size:=by simpa using hi
  obtain⟨t,e⟩:=h2 i its[i] (by simp[hi']);exact⟨t,by simpa using e⟩
def zTn(G:FE):FE:=λJ μ=>(G J μ).bind λp=>match p.1 with
 |.int j=>bif decide (-(2^62)<=j/\j<=1000000) then some (.loc p.2.length,p.2++[.lst ((yd j.toNat).map λ(k:Nat) =>.int k)]) else none
 |_=>none
def zis(hc:X.calm=true):zrm X (.type "list") (λxs H Q=>∃p j,xs=[.ref p]/\H p=some (zzw p j)/\-(2^62)<=j/\j<=1000000/\∀l,H l=none->Q (.ref l) (upd H l (.lst ((yd j.toNat).map λ(k:Nat)=>V.int k)))):=by
 intro U s Y H xs us Q I r ⟨p,j,e,hq,h1,h2,k⟩;subst e;obtain⟨u,rfl,ru⟩:=vals1 r;cases ru;obtain⟨⟨t,u,v,hr⟩,_,_⟩:=I.hok p _ hq;have hn:Builtin.Range.rangeSize 0 j 1=(j.toNat:Nat):=by rw[rangeSize_one];split<;>omega
 refine call_list_range (n:=j.toNat) (I.ok.hd hc) hr (small_one (by decide) (by decide) h1 (by omega)) hn (by omega) λh' tk acc' c' kp e hi=>?_;have hm:=Th;have hv:=zSs hi;refine⟨.ref s.heap.objs.size,_,I.laid (t':=tk) kp (yk _) (show tQ X.prog X.w _ h' _ (.lst _) from⟨by simp;omega,acc'.toList,c',hv,by simpa using e⟩),rfl,k _ I.fresh⟩
def zju(hm1:X.mg "list"=none)(hv1:yL "list"=some (.type "list"))(hm2:X.mg "range"=none)(h:ME X e G)(hc:X.calm=true:=by rfl)(hg1:Gl X "list":=by rfl)(hg2:Gl X "range":=by rfl)
 (he:yu [e] X.env=(false,Yx e X.env)::yu [] X.env:=by rfl) (he2:yu [.Call (.Name "range" p2) [e] [] pos2] X.env=(false,Yx (.Call (.Name "range" p2) [e] [] pos2) X.env)::yu [] X.env:=by rfl) :
 ME X (.Call (.Name "list" p1) [.Call (.Name "range" p2) [e] [] pos2] [] pos) (zTn G) :=
 zwg (z2i (zis hc) hg1 hm1 hv1 (zbi (z2i zkq hg2 hm2 boot_range (zbi h z0l he) (by decide) (by decide) he rfl) z0l he2) (by decide) (by decide) he2 rfl) λZ J μ Y H d μ' Q A e k=>by
  obtain⟨⟨x,μ1⟩,e1,e⟩:=zi e;refine⟨Z,J,μ,x,μ1,A,e1,λZ1 H1 v x1 R1 r1=>?_⟩;dsimp only at e
  split at e
  ·rename_i j
   obtain⟨hb,e⟩:=z5 e;have hb:=of_decide_eq_true hb;cases e;refine⟨j,by rw[r1.int_inv],λp1 hp1=>⟨p1,j,rfl,zH,hb.1,hb.2,λl hl=>?_⟩⟩;have R2:=R1.Ts (o:=zzw p1 j) hp1;refine k _ _ _ (x1.trans ((Ext.new hp1).trans (Ext.push hl))) (R2.push hl ⟨_,zH,?_⟩) (.loc (zSb R2));have hr:=λZ H=>@zug X.K Z H ((yd j.toNat).map λ(k:Nat)=>(k:Int));simp only[map_map]at hr;exact hr _ _
  ·cases e
@[simp] def z6z:GL:=λds μ=>match ds with
 |[.loc n]=>match μ[n]? with
  |some (.lst xs)=>bif xs.all zeB then some (.bl (xs.any blB),μ) else none
  |_=>none
 |_=>none
def zHu(hc:X.calm=true):tZ X (.builtin "any") z6z:=by
 refine tZ.of λU s Y H xs us Q I r Z ds μ d μ' r1 R e k=>?_;unfold z6z at e
 split at e
 ·split at e
  ·rename_i n _ ys hm
   obtain⟨hb,e⟩:=z5 e;cases e;obtain⟨v,rr,rfl,q1,q2⟩:=r1.cons_inv;obtain⟨a,rfl,e2⟩:=q1.tD;obtain⟨vs,e3,q3⟩:=R.at_ _ _ _ e2 hm;rw[q2.nil_inv]at r;obtain⟨u,rfl,ru⟩:=vals1 r;cases ru;obtain⟨its,rv,pl,hz⟩:=I.list (SqL.of (K:=X.K) e3);have hlt:a<s.heap.objs.size:=by obtain⟨_,_,e,_⟩:=pl;exact ym e
   refine call_any_walk (xZ pl.isList ?_);refine⟨_,_,_,_,_,_,λi=>blB (ys.getD i .non),rfl,Walks.list (A:=X.A.in1) (I.ok.hd hc) s.heap.objs.size a (yw hlt) its.toArray,⟨⟨_,yp _ rfl,rfl,rfl⟩,pl.isList.push _⟩,?_,λh' tk hk=>?_⟩
   ·intro i w s' Q' E' hP hQ;have hi:its[i]?=some w:=by simpa using hP
    have hil:i<ys.length:=by
     have h1:=(List.getElem?_eq_some_iff.mp hi).1;rw[q3.length,rv.length];exact h1
    have hyi:ys[i]?=some ys[i]:=by simp[hil]
    obtain⟨vv,ev,rvv⟩:=q3.get hyi;obtain⟨ww,ew,rww⟩:=rv.get ev;rw[hi]at ew;cases ew;have hall:=List.all_eq_true.mp hb ys[i] (getElem_mem hil)
    have hQ':Q' (blB ys[i]) s':=by
     have e:ys.getD i .non=ys[i]:=by rw[getD_eq_getElem?_getD,hyi];rfl
     rw[<-e];exact hQ
    cases hyb:ys[i] with
    |bl b=>
     rw[hyb]at rvv hQ';rw[rvv.tU]at rww;cases rww;exact xb hQ'
    |_=>rw[hyb]at hall;cases hall
   ·have hsz:its.toArray.size=ys.length:=by rw[q3.length,rv.length];simp
    have eall:((yd its.toArray.size).any λi=>blB (ys.getD i .non))=ys.any blB:=by
     rw[hsz,xc,any_eq_true,any_eq_true];constructor
     ·rintro⟨i,hi,h⟩;have hi':i<ys.length:=by simpa using hi
      rw[getD_eq_getElem?_getD,show ys[i]?=some ys[i] by simp[hi']]at h;exact⟨_,getElem_mem hi',h⟩
     ·rintro⟨y,hy,h⟩;obtain⟨i,hi,rfl⟩:=List.mem_iff_getElem.mp hy;refine⟨i,by simpa using hi,?_⟩;rw[getD_eq_getElem?_getD,show ys[i]?=some ys[i] by simp[hi]];exact h
    rw[eall];refine⟨.bl _,H,I.kept (h':=h') (t':=tk) λb o e=>hk b o (by simpa using yw (ym e)) (yf _ e),rfl,k Z H _ Ext.refl R .bl⟩
  ·cases e
 ·cases e
@[simp] def z3A:GL:=λds μ=>match ds with
 |[.int i]=>some (.int i,μ)
 |[.bl b]=>some (.int (if b then 1 else 0),μ)
 |_=>none
@[simp] def zfA:GL:=λds μ=>match ds with
 |[.int i,.int j]=>some (.int (if j<i then j else i),μ)
 |_=>none
@[simp] def zTA:GL:=λds μ=>match ds with
 |[.int i,.int j]=>some (.int (if j>i then j else i),μ)
 |_=>none
@[simp] def fIf(c:FT)(G ψ:FE):FE:=λJ μ=>(c J μ).bind λp=>bif p.1 then G J p.2 else ψ J p.2
def nextT{it t:yg}{i:Nat}{items:Array yb}{x:yb}{Q:yb->ye->Prop}(hit:s.heap.IsTupleIter it t i)(ht:s.heap.IsTuple t items)(hx:items[i]?=some x)
 (hQ:∀h',h'.IsTupleIter it t (i+1)->Yr it s.heap h'->Q x {s with heap:=h' }):yq (yA prog w) A (Yz (.ref it)) Q E s:=by
 obtain⟨ob,hob,hcl,hfs⟩:=id hit;obtain⟨ot,hot,_,m,hits⟩:=ht;unfold Yz;refine ya (yX (name:=YK "__next__") hit.typeIs xn (yO xn hit.typeIs F.entry_tuple_iterator_next ?_ (F.args_tuple_iterator_next_1 _)));show yq _ _ (field (.ref it) 0 >>= _) _ _ s;refine ya (YM hob hfs (x:=.ref t) rfl ?_);show yq _ _ (if(YE t==YC)=true then _ else field (.ref it) 1 >>= _) _ _ s;rw[if_neg (show ¬(YE t==YC)=true from yv)];refine ya (YM hob hfs (x:=.int i 0) rfl ?_);show yq _ _ (seqItems? (.ref t) >>= _) _ _ s;refine ya (wpAny_seqItems hot hits ?_);simp only[yQ,hx];refine ya (xK hob hfs (by simp) (yi ⟨x,rfl,yi (hQ _ ?_ (Ys ..))⟩));refine⟨_,Yh _ hob (xo (Yv hfs _)),(Obj.cls_mapFields ..).trans hcl,?_⟩;rw[Yv hfs];simp[YD]
def zHt{it t:yg}{i:Nat}{items:Array yb}{Q:yb->ye->Prop}(hh:A.handled=none)(hit:s.heap.IsTupleIter it t i)(ht:s.heap.IsTuple t items)(hx:items[i]?=none)
 (hE:∀h' e,Heap.ExtBut it s.heap h'->(∃o,h'.get? e=some o/\o.cls=.type "StopIteration")->E (.ref e) {s with heap:=h' }):yq (yA prog w) A (Yz (.ref it)) Q E s:=by
 obtain⟨ob,hob,hcl,hfs⟩:=id hit;obtain⟨ot,hot,_,m,hits⟩:=ht;unfold Yz;refine ya (yX (name:=YK "__next__") hit.typeIs xn (yO xn hit.typeIs F.entry_tuple_iterator_next ?_ (F.args_tuple_iterator_next_1 _)));show yq _ _ (field (.ref it) 0 >>= _) _ _ s;refine ya (YM hob hfs (x:=.ref t) rfl ?_);show yq _ _ (if(YE t==YC)=true then _ else field (.ref it) 1 >>= _) _ _ s;rw[if_neg (show ¬(YE t==YC)=true from yv)];refine ya (YM hob hfs (x:=.int i 0) rfl ?_);show yq _ _ (seqItems? (.ref t) >>= _) _ _ s;refine ya (wpAny_seqItems hot hits ?_);simp only[yQ,hx];refine ya (wpAny_rule (ya (xK hob hfs (by simp) ?_)));show yq _ _ (newExc (.type "StopIteration") [] >>= _) _ _ _;refine ya ?_;simp only[newExc,newTuple];refine ya (yT ?_ (by size_fits));refine ya (m:=firstArgMember _ _) (wpAny_of_eq (a:=YC) (by first|rfl|(simp only[firstArgMember];rfl)) ?_);refine yT ?_ (by size_fits);simp only[raiseNew];refine ya (wpAny_handled ?_)
 first|rw[show A.in1.handled=none from hh]|rw[hh]
 exact ya (yi (wpAny_throw (hE _ _ (((Ys ..).extBut.push _).push _) ⟨_,yp _ rfl,rfl⟩)))
def zup{e it:yg}{i:Int}{x old:yb}{N:Ye->Prop}{Q:Option yb->ye->Prop}(he:IsEnum s.heap e it i old)(hne:e≠it)
 (nx:∀(A':yM)(Q':yb->ye->Prop)(E':yb->ye->Prop),(∀h1,N h1->Yr it s.heap h1->Q' x {s with heap:=h1 })->yq (yA prog w) A' (Yz (.ref it)) Q' E' s)
 (hN:∀h h',N h->(∀o,h.get? it=some o->h'.get? it=some o)->N h')
 (hQ:∀h',IsEnumOut h' e it (i+1) x s.heap.objs.size->N h'->h'.get? s.heap.objs.size=some {cls:=.type "tuple",data:=.seq #[.int i s.toks,x]}->h'.objs.size=s.heap.objs.size+1 ->
  (∀b o,b≠e->b≠it->s.heap.get? b=some o->h'.get? b=some o)->Q (some (.ref s.heap.objs.size)) {s with heap:=h',toks:=s.toks+1 }):yq (yA prog w) A (pyNext (.ref e)) Q E s:=by
 obtain⟨hp,g,d,tk,os⟩:=s;have hT:Shared.TypeIs ⟨hp,g,d,tk,os⟩ (.ref e) "enumerate":=⟨_,he,rfl⟩
 unfold pyNext;refine ya (wpAny_attempt (yX (name:=YK "__next__") hT xX (yO xX hT F.entry_enumerate_next ?_ (F.args_enumerate_next_1 _))));show yq _ _ (field (.ref e) 2 >>= _) _ _ _;refine ya (YM he rfl (x:=.ref it) rfl (ya (nx _ _ _ λh1 n1 sb1=>?_)));replace sb1:Yr it hp h1:=sb1;have e1:IsEnum h1 e it i old:=(sb1.2 e hne).trans he;show yq _ _ (field (.ref e) 3 >>= _) _ _ ⟨h1,g,d,tk,os⟩;refine ya (YM e1 rfl (x:=YD i) rfl ?_);show yq _ _ (field (.ref e) 4 >>= _) _ _ ⟨h1,g,d,tk,os⟩;refine ya (YM e1 rfl (x:=.none) rfl ?_);show yq _ _ (mkInt i >>= _) _ _ ⟨h1,g,d,tk,os⟩;refine ya (wpAny_mkInt ?_);show yq _ _ (setField (.ref e) 3 (YD (i+1)) >>= _) _ _ ⟨h1,g,d,tk+1,os⟩;refine ya (xR e1 (by simp) λh2 e2 sb2=>?_);replace sb2:Yr e h1 h2:=sb2;replace e2:IsEnum h2 e it (i+1) old:=e2;show yq _ _ (setField (.ref e) 4 .none >>= _) _ _ ⟨h2,g,d,tk+1,os⟩;refine ya (xR e2 (by simp) λh3 e3 sb3=>?_);replace sb3:Yr e h2 h3:=sb3;replace e3:IsEnum h3 e it (i+1) old:=e3;show yq _ _ (newTuple [.int i tk,x] >>= _) _ _ ⟨h3,g,d,tk+1,os⟩;refine ya (wpAny_newTuple ?_);have z3:h3.objs.size=hp.objs.size:=by rw[sb3.1,sb2.1,sb1.1]
 have el:e<hp.objs.size:=ym he;have ne4:hp.objs.size≠e:=Yg el;obtain⟨h4,hh4⟩:∃h4,h4=h3.push {cls:=.type "tuple",data:=.seq #[.int i tk,x]}:=⟨_,rfl⟩
 have e4:IsEnum h4 e it (i+1) old:=by rw[hh4];exact yf _ e3
 have t4:h4.get? hp.objs.size=some {cls:=.type "tuple",data:=.seq #[.int i tk,x]}:=by rw[hh4,<-z3];exact yp _ rfl
 have z4:h4.objs.size=hp.objs.size+1:=by rw[hh4,Yw,z3]
 have up:∀b o,b≠e->h1.get? b=some o->h4.get? b=some o:=λb o hb q=>by
  rw[hh4];exact yf _ ((sb3.2 b hb).trans ((sb2.2 b hb).trans q))
 show yq _ _ (Builtin.SmallTypes.ownedTupleIsFree (.ref e) >>= _) _ _ ⟨h3.push {cls:=.type "tuple",data:=.seq #[.int i tk,x]},g,d,tk+1,os⟩;rw[<-hh4,z3];refine ya ?_;unfold Builtin.SmallTypes.ownedTupleIsFree;refine ya (YM e4 rfl (x:=.none) rfl (yi ?_));simp only[if_true];refine ya (wpAny_rule (ya (YM e4 rfl (x:=old) rfl (ya (xR e4 (by simp) λh5 e5 sb5=>?_)))));replace sb5:Yr e h4 h5:=sb5;replace e5:IsEnum h5 e it (i+1) x:=e5;show yq _ _ (Builtin.SmallTypes.ownedTupleHandOut (.ref e) (.ref hp.objs.size) >>= _) _ _ ⟨h5,g,d,tk+1,os⟩;refine ya ?_;unfold Builtin.SmallTypes.ownedTupleHandOut;refine ya (xR e5 (by simp) λh6 e6 sb6=>?_);replace sb6:Yr e h5 h6:=sb6;replace e6:IsEnumOut h6 e it (i+1) x hp.objs.size:=e6;refine xR e6 (by simp) λh7 e7 sb7=>?_;replace sb7:Yr e h6 h7:=sb7;replace e7:IsEnumOut h7 e it (i+1) x hp.objs.size:=e7;have up7:∀b o,b≠e->h4.get? b=some o->h7.get? b=some o:=λb o hb q=>(sb7.2 b hb).trans ((sb6.2 b hb).trans ((sb5.2 b hb).trans q));refine ya (wpAny_letGo (yi ⟨_,rfl,yi (hQ h7 e7 (hN _ _ n1 λo q=>up7 _ _ (Yk hne) (up _ _ (Yk hne) q)) (up7 _ _ ne4 t4) ?_ λb o h1 h2 q=>up7 _ _ h1 (up _ _ h1 ((sb1.2 b h2).trans q)))⟩));show h7.objs.size=hp.objs.size+1;rw[sb7.1,sb6.1,sb5.1,z4]
def zXq{e it:yg}{i:Int}{old:yb}{Q:Option yb->ye->Prop}(he:IsEnum s.heap e it i old)
 (nx:∀(A':yM)(Q':yb->ye->Prop)(E':yb->ye->Prop),A'.handled=A.handled->(∀h' x,Heap.ExtBut it s.heap h'->(∃o,h'.get? x=some o/\o.cls=.type "StopIteration")->E' (.ref x) {s with heap:=h' })->yq (yA prog w) A' (Yz (.ref it)) Q' E' s)
 (hQ:∀h',Heap.ExtBut it s.heap h'->Q none {s with heap:=h' }):yq (yA prog w) A (pyNext (.ref e)) Q E s:=by
 have hT:s.TypeIs (.ref e) "enumerate":=⟨_,he,rfl⟩
 unfold pyNext;refine ya (wpAny_attempt (yX (name:=YK "__next__") hT xX (yO xX hT F.entry_enumerate_next ?_ (F.args_enumerate_next_1 _))));show yq _ _ (field (.ref e) 2 >>= _) _ _ _;refine ya (YM he rfl (x:=.ref it) rfl (ya (nx _ _ _ rfl λh' x eb ⟨o,ho,hc⟩=>?_)));exact ya (wpAny_isInstance (T:="StopIteration") (b:=true) ⟨o,ho,hc⟩ isSubtype_stop (yi (hQ _ eb)))
variable {U:List (yg×xa)}{Y:L2.St}{H:Hp}
def zEn{fp:List yg}(hf:∀b∈fp,zUq X U H b){b:yg}{u:HO}(e:H b=some u):b∉fp:=λz=>by rw[(hf b z).1]at e;cases e
def zRz{fp:List yg}(hf:∀b∈fp,zUq X U H b):∀b∈fp,(b∈X.ex\/X.s₀.heap.objs.size<=b)/\b≠X.env.locals/\(∀x c,X.env.cells.lookup x=some c->c≠b)/\∀p∈X.pn++U,p.1≠b:=λb hb=>by
 obtain⟨_,f1,_,f3,f4,f5⟩:=hf b hb;exact⟨f3,f1,f4,f5⟩
def z2m{fp:List yg}{h':Ye}{t':Nat}(I:Inv X U Y H s)(hf:∀b∈fp,zUq X U H b)(k:∀b o,b∉fp->s.heap.get? b=some o->h'.get? b=some o):Inv X U Y H {s with heap:=h',toks:=t' }:=by
 refine I.call (g':=s.gens) (t':=t') (d':=s.drawn) (ch:=fp) ⟨λb o e _ _ hx=>k b o hx e,λb o e _ _ hx=>⟨o.slots,k b o hx e⟩,λ_ _ _ n _=>n,λb o e hx=>⟨o,k b o hx e⟩,λ_ _ e=>e,λ_ _ _ e=>e,λ_ ps e=>⟨#[],by rw[e];simp⟩⟩ (λa o e=>?_) I.bare (zRz hf);refine(I.hok a o e).stay (λb u hb q=>k b u ?_ q) (λ_ q=>q) λ_ _ q=>q;rcases hb with rfl|hb
 ·exact zEn hf e
 ·exact zEn hf hb
def zKf{fp:List yg}{h':Ye}{t':Nat}{p:yg}{o:HO}(I:Inv X U Y H s)(hf:∀b∈fp,zUq X U H b)(k:∀b o,b∉fp->s.heap.get? b=some o->h'.get? b=some o)(hp:s.heap.objs.size<=p)
 (new:tQ X.prog X.w (upd H p o) h' p o):Inv X U Y (upd H p o) {s with heap:=h',toks:=t' }:=by
 have hn:=I.hok.fresh hp;have hlt:∀b ob,s.heap.get? b=some ob->b≠p:=λb ob e=>yw (yC (ym e) hp)
 refine I.call (g':=s.gens) (t':=t') (d':=s.drawn) (ch:=fp) ⟨λb o e _ _ hx=>k b o hx e,λb o e _ _ hx=>⟨o.slots,k b o hx e⟩,λb ob e n _=>by rw[zeb (hlt b ob e)];exact n,λb o e hx=>⟨o,k b o hx e⟩,
  λ_ _ e=>by rw[zeb (zV e hn)];exact e,λ_ _ _ e=>by rw[zeb (zV e hn)];exact e,λ_ ps e=>⟨#[],by rw[zeb (zV e hn),e];simp⟩⟩ (λa u e=>?_) I.bare (zRz hf)
 by_cases ha:a=p
 ·subst ha;rw[zH]at e;cases e;exact new
 ·rw[zeb ha]at e;refine(I.hok a u e).stay (λb u hb q=>k b u ?_ q) (λb q=>by rw[zeb (zV q hn)];exact q) λb xs q=>by rw[zeb (zV q hn)];exact q
  rcases hb with rfl|hb
  ·exact zEn hf e
  ·exact zEn hf hb
def Ien(δ:It):It:=⟨δ.go,λi H x H'=>∃p y,x=.ref p/\H p=none/\H'=upd H p (.tup [.int i,y])/\δ.yld i H y H,δ.stop⟩
def zUu{P:yy}{w:yJ}{H:Hp}{h:Ye}{p:yg}{x y:V}{u v:yb}(e:h.get? p=some {cls:=.type "tuple",data:=.seq #[u,v]})(rx:RelV x u)(ry:RelV y v):tQ P w H h p (.tup [x,y]) :=
 ⟨by rw[yZ];simp,[u,v],.cons rx (.cons ry .nil),⟨_,e,rfl,_,rfl⟩⟩
def zDs{P:yy}{w:yJ}{K:yB}{elts:List yG}{x1}{pos:Xd}(a e it:yg)(hne:e≠it):Turn P w K (.Tuple elts x1 pos) (Ien (Itl K a)) [e,it] e (λi h=>(∃old,IsEnum h e it i old)/\h.IsListIter it a i) where
 mem:=by simp
 obj:=λi h ⟨⟨old,he⟩,st⟩ b hb=>by
  have hb:b=e\/b=it:=by simpa using hb
  rcases hb with rfl|rfl
  ·exact⟨_,he,λv z=>by have z':Data.fields _=Data.cell v:=z;cases z'⟩
  ·obtain⟨o,q,c,d⟩:=st;exact⟨o,q,λv z=>by rw[d]at z;cases z⟩
 keep:=λi h h' ⟨⟨old,he⟩,st⟩ k=>⟨⟨old,k e (by simp) _ he⟩,st.at λo q=>k it (by simp) o q⟩
 item:=by
  intro X hP hw hK hc i U s Y H E I hf ⟨⟨old,he⟩,st⟩ hg;subst hP hw hK;obtain⟨xs,x,hq,hx⟩:=hg;obtain⟨its,rv,p,hz⟩:=I.list hq;obtain⟨u,hu,ru⟩:=rv.get hx;refine zup (N:=λh=>h.IsListIter it a (i+1)) he hne (λA' Q' E' hQ=>wpAny_nextOf_list_item st p.isList (x:=u) (by simpa using hu) λh' st' sb=>hQ h' st' sb) (λh h' n k=>n.at λo q=>k o q) λh' eo n' t' z' kk=>?_;refine⟨_,rfl,wpAny_letOwnedTupleGo_enum eo λh2 e2 sb2=>?_⟩;replace sb2:Yr e h' h2:=sb2;have hlt:e<s.heap.objs.size:=ym he;have t2:=(sb2.2 s.heap.objs.size (Yg hlt)).trans t';have hfr:=I.hok.fresh (yk s.heap.objs.size)
  have I2:Inv X U Y (upd H s.heap.objs.size (.tup [.int i,x])) {s with heap:=h2,toks:=s.toks+1 }:=by
   refine zKf I hf (λb o hb q=>?_) (yk _) (zUu t2 ⟨_,rfl⟩ ru);simp only[mem_cons,not_mem_nil,or_false,not_or]at hb;exact(sb2.2 b hb.1).trans (kk b o hb.1 hb.2 q)
  refine⟨.ref s.heap.objs.size,_,I2,rfl,⟨_,x,rfl,hfr,rfl,rfl,λys hy=>by rw[I.sK hy hq];exact hx⟩,⟨⟨u,by simpa using e2⟩,n'.at λo q=>(sb2.2 it (Yk hne)).trans q⟩,λb hb=>?_⟩
  ·rw[zeb]
   ·exact(hf b hb).1
   ·rintro rfl;have hb:s.heap.objs.size=e\/s.heap.objs.size=it:=by simpa using hb
    rcases hb with q|q
    ·exact absurd hlt (by rw[q];exact Yj _)
    ·obtain⟨o,qo,_⟩:=st;exact absurd (ym qo) (by rw[q];exact Yj _)
 done:=by
  intro X hP hw hK hc i U s Y H E I hf ⟨⟨old,he⟩,st⟩ hg;subst hP hw hK;obtain⟨xs,hq,hx⟩:=hg;obtain⟨its,rv,p,hz⟩:=I.list hq;have hl:=rv.length;refine zXq he (λA' Q' E' hA hE=>wpAny_nextOf_list_end (hA.trans (I.ok.hd hc)) st p.isList (by simp;omega) hE) λh' eb=>⟨rfl,z2m (t':=s.toks) I hf λb o hb q=>eb b o (λz=>hb (by simp[z])) q⟩
 self:=λ_ _ _ _ _ ⟨⟨old,he⟩,_⟩ h=>wpAny_pyIter_enum he h
def z4r{P:yy}{w:yJ}{K:yB}{elts:List yG}{x1}{pos:Xd}(a e it:yg)(hne:e≠it):Turn P w K (.Tuple elts x1 pos) (Ien (Itt K a)) [e,it] e (λi h=>(∃old,IsEnum h e it i old)/\h.IsTupleIter it a i) where
 mem:=by simp
 obj:=λi h ⟨⟨old,he⟩,st⟩ b hb=>by
  have hb:b=e\/b=it:=by simpa using hb
  rcases hb with rfl|rfl
  ·exact⟨_,he,λv z=>by have z':Data.fields _=Data.cell v:=z;cases z'⟩
  ·obtain⟨o,q,c,d⟩:=st;exact⟨o,q,λv z=>by rw[d]at z;cases z⟩
 keep:=λi h h' ⟨⟨old,he⟩,st⟩ k=>⟨⟨old,k e (by simp) _ he⟩,st.at λo q=>k it (by simp) o q⟩
 item:=by
  intro X hP hw hK hc i U s Y H E I hf ⟨⟨old,he⟩,st⟩ hg;subst hP hw hK;obtain⟨xs,x,hq,hx⟩:=hg;obtain⟨its,rv,p,hz⟩:=I.tuple hq;obtain⟨u,hu,ru⟩:=rv.get hx;refine zup (N:=λh=>h.IsTupleIter it a (i+1)) he hne (λA' Q' E' hQ=>nextT st (show s.heap.IsTuple a its.toArray from p) (x:=u) (by simpa using hu) λh' st' sb=>hQ h' st' sb) (λh h' n k=>n.at λo q=>k o q) λh' eo n' t' z' kk=>?_;refine⟨_,rfl,wpAny_letOwnedTupleGo_enum eo λh2 e2 sb2=>?_⟩;replace sb2:Yr e h' h2:=sb2;have hlt:e<s.heap.objs.size:=ym he;have t2:=(sb2.2 s.heap.objs.size (Yg hlt)).trans t';have hfr:=I.hok.fresh (yk s.heap.objs.size)
  have I2:Inv X U Y (upd H s.heap.objs.size (.tup [.int i,x])) {s with heap:=h2,toks:=s.toks+1 }:=by
   refine zKf I hf (λb o hb q=>?_) (yk _) (zUu t2 ⟨_,rfl⟩ ru);simp only[mem_cons,not_mem_nil,or_false,not_or]at hb;exact(sb2.2 b hb.1).trans (kk b o hb.1 hb.2 q)
  refine⟨.ref s.heap.objs.size,_,I2,rfl,⟨_,x,rfl,hfr,rfl,rfl,λys hy=>by rw[I.sw hy hq];exact hx⟩,⟨⟨u,by simpa using e2⟩,n'.at λo q=>(sb2.2 it (Yk hne)).trans q⟩,λb hb=>?_⟩
  ·rw[zeb]
   ·exact(hf b hb).1
   ·rintro rfl;have hb:s.heap.objs.size=e\/s.heap.objs.size=it:=by simpa using hb
    rcases hb with q|q
    ·exact absurd hlt (by rw[q];exact Yj _)
    ·obtain⟨o,qo,_⟩:=st;exact absurd (ym qo) (by rw[q];exact Yj _)
 done:=by
  intro X hP hw hK hc i U s Y H E I hf ⟨⟨old,he⟩,st⟩ hg;subst hP hw hK;obtain⟨xs,hq,hx⟩:=hg;obtain⟨its,rv,p,hz⟩:=I.tuple hq;have hl:=rv.length;refine zXq he (λA' Q' E' hA hE=>zHt (hA.trans (I.ok.hd hc)) st (show s.heap.IsTuple a its.toArray from p) (by simp;omega) hE) λh' eb=>⟨rfl,z2m (t':=s.toks) I hf λb o hb q=>eb b o (λz=>hb (by simp[z])) q⟩
 self:=λ_ _ _ _ _ ⟨⟨old,he⟩,_⟩ h=>wpAny_pyIter_enum he h
def zVt(l:yg)(items:Array yb)(n:Nat)(dct:Option yg)(sl:Array (Option yb)) :
 Meets (YW.«enumerate.__new__» ⟨[.type "enumerate",.ref l],[]⟩) (λ_ R s=>s.heap.get? l=some {cls:=.type "tuple",dict:=dct,data:=.seq items n,slots:=sl } /\
  R (.ok (.ret (.ref (s.heap.push {cls:=.type "tuple_iterator",data:=.fields #[.ref l,.int 0 0]}).objs.size)))
   {s with heap:=(s.heap.push {cls:=.type "tuple_iterator",data:=.fields #[.ref l,.int 0 0]}).push {cls:=.type "enumerate",data:=.fields #[.none,.bool false,.ref s.heap.objs.size,YD 0,.none,.none]}}) :=
 .of_wp λprog w A R s h=>by
  obtain⟨hp,g,d,tk,os⟩:=s;obtain⟨hl,h⟩:=h;have hsub:=sub_enumerate;have hL:Heap.IsTuple (Shared.heap ⟨hp,g,d,tk,os⟩) l items:=⟨_,hl,rfl,n,rfl⟩
  wp_walk using xB hl
  refine wpAny_stack_any λst=>yi ?_
  split
  ·rename_i c _ _ _ _ _
   cases (c==Yo "enumerate")
   ·wp_walk using xB hl,wpAny_pyIter_tuple hL
    exact⟨_,rfl,h⟩
   ·wp_walk using xB hl,wpAny_pyIter_tuple hL
    exact⟨_,rfl,h⟩
  ·wp_walk using xB hl,wpAny_pyIter_tuple hL
   exact⟨_,rfl,h⟩
def zHs{prog:yy}{w:yJ}{A:yM}{E:yb->ye->Prop}{l:yg}{items:Array yb}{Q:yb->ye->Prop}(hL:s.heap.IsTuple l items)
 (h:∀h',IsEnum h' (s.heap.objs.size+1) s.heap.objs.size 0 .none->h'.IsTupleIter s.heap.objs.size l 0->h'.objs.size=s.heap.objs.size+2 ->
  (∀b o,s.heap.get? b=some o->h'.get? b=some o)->Q (.ref (s.heap.objs.size+1)) {s with heap:=h' }):yq (yA prog w) A (call (.type "enumerate") [.ref l]) Q E s:=by
 obtain⟨⟨c,dct,dt,sl⟩,hl,hc,n,hd⟩:=hL;replace hc:c=.type "tuple":=hc;replace hd:dt=.seq items n:=hd;subst hc hd;refine callType_new F.called_enumerate (by decide) (F.typeCall_enumerate_1 _) (F.newCall_enumerate_1 _) (λobj=>F.args_object_init_2 obj _) F.entry_enumerate_new (zVt l items n dct sl) ⟨hl,?_⟩;have hz:(s.heap.push {cls:=.type "tuple_iterator",data:=.fields #[.ref l,.int 0 0]}).objs.size=s.heap.objs.size+1:=Yw ..
 have he:IsEnum ((s.heap.push {cls:=.type "tuple_iterator",data:=.fields #[.ref l,.int 0 0]}).push {cls:=.type "enumerate",data:=.fields #[.none,.bool false,.ref s.heap.objs.size,YD 0,.none,.none]}) (s.heap.objs.size+1) s.heap.objs.size 0 .none:=by
  have:=yp (s.heap.push {cls:=.type "tuple_iterator",data:=.fields #[.ref l,.int 0 0]}) (o:={cls:=.type "enumerate",data:=.fields #[.none,.bool false,.ref s.heap.objs.size,YD 0,.none,.none]}) rfl;rw[hz]at this;exact this
 show _/\_;rw[hz];exact⟨⟨_,he,rfl⟩,h _ he ⟨_,yf _ (yp _ rfl),rfl,rfl⟩ (by rw[Yw,hz]) λb o x=>yf _ (yf _ x)⟩
def zKB(K:yB)(tl:TE):TI:=λY H R=>tl Y H λx H1=>∃a,x=.ref a/\((∃xs,SqL K H1 a xs)/\R (Ien (Itl K a)) H1\/(∃xs,SqT K H1 a xs)/\R (Ien (Itt K a)) H1)
def zry{l:yG}{tl:TE}{elts:List yG}{x1}{tp p pos:Xd}(hg:Gl X "enumerate")(hm:X.mg "enumerate"=none)(hv:yL "enumerate"=some (.type "enumerate"))(hl:PE X l tl)(hs:yu [l] X.env=[(false,Yx l X.env)]:=by rfl) :
 PI X (.Tuple elts x1 tp) (.Call (.Name "enumerate" p) [l] [] pos) (zKB X.K tl):=by
 intro U s Y H R I h
 refine Call_ (zzm I hg hm hv (YF (thn (zbi hl z0l hs pos U s Y H (λvs H1=>match vs with
  |[x]=>∃a,x=.ref a/\((∃xs,SqL X.K H1 a xs)/\R (Ien (Itl X.K a)) H1\/(∃xs,SqT X.K H1 a xs)/\R (Ien (Itt X.K a)) H1)
  |_=>False) I h) λus s1 ⟨vs,H1,I1,r1,q1⟩=>?_) hs rfl))
 dsimp only at q1
 split at q1
 case h_2=>exact q1.elim
 obtain⟨a,e,q⟩:=q1;subst e
 cases r1 with
 |cons r rr=>
  cases rr;cases r
  have fin:∀h':Ye,(∀b o,s1.heap.get? b=some o->h'.get? b=some o)->∀b∈[s1.heap.objs.size+1,s1.heap.objs.size],zUq X U H1 b:=λh' kp b hb=>by
   have hb:b=s1.heap.objs.size+1\/b=s1.heap.objs.size:=by simpa using hb
   rcases hb with rfl|rfl
   ·exact I1.sQ (xN _) (I1.hok.fresh (xN _))
   ·exact I1.sQ (yk _) (I1.hok.fresh (yk _))
  have hne:s1.heap.objs.size+1≠s1.heap.objs.size:=Nat.succ_ne_self _;rcases q with ⟨⟨xs,hq⟩,q⟩|⟨⟨xs,hq⟩,q⟩
  ·obtain⟨its,rv,pl,hz⟩:=I1.list hq;refine call_enumerate_list pl.isList λh' e1 i1 z1 kp=>?_;refine wpAny_pyIter_enum (s:={s1 with heap:=h' }) e1 ?_;exact⟨_,[s1.heap.objs.size+1,s1.heap.objs.size],_,_,H1,rfl,I1.kept (t':=s1.toks) kp,zDs a _ _ hne,⟨⟨_,e1⟩,i1⟩,fin h' kp,q⟩
  ·obtain⟨its,rv,pl,hz⟩:=I1.tuple hq;refine zHs (show s1.heap.IsTuple a its.toArray from pl) λh' e1 i1 z1 kp=>?_;refine wpAny_pyIter_enum (s:={s1 with heap:=h' }) e1 ?_;exact⟨_,[s1.heap.objs.size+1,s1.heap.objs.size],_,_,H1,rfl,I1.kept (t':=s1.toks) kp,z4r a _ _ hne,⟨⟨_,e1⟩,i1⟩,fin h' kp,q⟩
def zci(ds:List D):List D:=ds.zipIdx.map λp =>.tup [.int (p.2:Nat),p.1]
def zac(ds:List D):(zci ds).length=ds.length:=by simp[zci]
def z7n{ds:List D}{i:Nat}{d:D}(h:(zci ds)[i]?=some d):∃y,ds[i]?=some y/\d=.tup [.int i,y]:=by
 unfold zci at h;rw[yh,List.getElem?_zipIdx]at h
 cases e:ds[i]? with
 |none=>rw[e]at h;cases h
 |some y=>
  rw[e]at h;refine⟨y,rfl,?_⟩;have:=yS h;rw[<-this];simp
@[simp] def zyj(G:FE):FI:=λJ μ=>(G J μ).bind λp=>match p.1 with
 |.tup ds=>some (zci ds,yes,p.2)
 |.fz ds=>some (zci ds,yes,p.2)
 |.loc n=>match p.2[n]? with
  |some (.lst ds)=>some (zci ds,zqm n ds,p.2)
  |_=>none
 |_=>none
def zLq{K:yB}{δ:It}{Z:List yg}{H:Hp}{ds:List D}{ok:Mem->Bool}(h:sS K δ Z H ds ok):sS K (Ien δ) Z H (zci ds) ok:=by
 refine⟨λZ' H' μ' i x R o hi=>h.go Z' H' μ' i x R o (by rw[zac]at hi;exact hi),λZ' H' μ' i x H'' d x' R o e ⟨p,y,e1,hp,e2,yl⟩=>?_,λZ' H' μ' x R o=>by rw[zac];exact h.stop Z' H' μ' x R o⟩;obtain⟨z,ez,rfl⟩:=z7n e;obtain⟨_,_,rz⟩:=h.yld Z' H' μ' i y H' z x' R o ez yl;subst e1 e2;exact⟨Ext.new hp,R.Ts hp,.tup zH (.cons .int (.cons (rz.ext (Ext.new hp)) .nil))⟩
def z8d{a:yG}{G:FE}{elts:List yG}{x1}{tp p pos:Xd}(hm:X.mg "enumerate"=none)(hv:yL "enumerate"=some (.type "enumerate"))(h:ME X a G)(hg:Gl X "enumerate":=by rfl)(hs:yu [a] X.env=[(false,Yx a X.env)]:=by rfl) :
 MI X (.Tuple elts x1 tp) (.Call (.Name "enumerate" p) [a] [] pos) (zyj G) :=
 zxt (zry hg hm hv h hs) λZ J μ Y H ds ok μ' R A e k=>by
  obtain⟨⟨x,μ1⟩,e1,e⟩:=zi e;refine⟨Z,J,μ,x,μ1,A,e1,λZ1 H1 v1 x1 R1 r1=>?_⟩;dsimp only at e
  split at e
  ·cases e;obtain⟨a,vs,rfl,e2,q2⟩:=r1.tW;exact⟨a,rfl,.inr ⟨⟨vs,SqT.of e2⟩,k Z1 H1 _ x1 R1 (zLq (zXw e2 q2))⟩⟩
  ·cases e;obtain⟨a,vs,rfl,e2,q2⟩:=r1.sg;exact⟨a,rfl,.inl ⟨⟨vs,e2.sq⟩,k Z1 H1 _ x1 R1 (zLq (zOq λZ' H' μ' x _ _=>⟨vs,(x.fz e2).sq,q2.ext x⟩))⟩⟩
  ·split at e
   ·rename_i hm
    cases e;obtain⟨a,rfl,e2⟩:=r1.tD;obtain⟨vs,e3,q3⟩:=R1.at_ _ _ _ e2 hm;refine⟨a,rfl,.inl ⟨⟨vs,SqL.of e3⟩,k Z1 H1 _ x1 R1 (zLq (zOq λZ' H' μ'' x R' o=>?_))⟩⟩;obtain⟨vs',e4,q4⟩:=R'.at_ _ _ _ (x.get e2) (Tp.mp o);exact⟨vs',SqL.of e4,q4⟩
   ·cases e
  ·cases e
@[simp] def zMr(g:GM)(G:FE):FE:=λJ μ=>(G J μ).bind λp=>match p.1 with
 |.loc n=>match p.2[n]? with
  |some (.lst _)=>g (.loc n) [] p.2
  |_=>none
 |_=>none
def zBv{o:yG}{name:yF}{id:String}{g:GM}{apos:Xd}(slot:Slot "list" name id)(hty:typeOf (.builtin id)=pure (.type "method_descriptor"))(hm:MtG X id g)(ho:ME X o G)
 (hbase:YG o name X.env (Yx o X.env)=Yx o X.env:=by rfl) (hline:(apos.endLine==pos.line)=true:=by rfl):ME X (.Call (.Attribute o name apos) [] [] pos) (zMr g G) :=
 zwg (zaz PySem.F.plainAttrs_list slot hty hm ho hbase hline) λZ J μ Y H d μ' Q A e k=>by
  obtain⟨⟨x,μ1⟩,e1,e⟩:=zi e;refine⟨Z,J,μ,x,μ1,A,e1,λZ1 H1 v x1 R1 r1=>?_⟩;dsimp only at e
  split at e
  ·split at e
   ·rename_i hm'
    obtain⟨a,rfl,ea⟩:=r1.tD;obtain⟨vs,e3,q3⟩:=R1.at_ _ _ _ ea hm';exact⟨.inl ⟨rfl,vs,SqL.of e3⟩,Z1,_,[],μ1,d,μ',r1,.nil,R1,e,λZ3 H3 v3 x3 R3 r3=>k Z3 H3 v3 (x1.trans x3) R3 r3⟩
   ·cases e
  ·cases e
@[simp] def zJy:GM:=λx ds μ=>match x,ds with
 |.loc n,[]=>match μ[n]? with
  |some (.lst xs)=>(xs[xs.length-1]?).bind λd=>some (d,μ.set n (.lst xs.dropLast))
  |_=>none
 |_,_=>none
def zIo{K:yB}{Z:List yg}{H:Hp}{ds:List D}{vs:List V}(r:tf K Z H ds vs):tf K Z H ds.dropLast vs.dropLast:=by
 rw[List.dropLast_eq_take,List.dropLast_eq_take,r.length];exact r.take _
def zwx:MtG X "list.pop" zJy:=by
 refine MtG.of λU s Y H x xs v us Q I rx rs Z dx ds μ d μ' r1 r2 R e k=>?_;unfold zJy at e
 split at e
 ·split at e
  ·rename_i hm
   obtain⟨y,e2,e⟩:=zi e;cases e;obtain⟨a,rfl,ea⟩:=r1.tD;obtain⟨vs,e3,q3⟩:=R.at_ _ _ _ ea hm;have hmu:Mut (H a):=by rw[e3];trivial
   obtain⟨w,hw,rw'⟩:=q3.get e2;rw[q3.length]at hw;exact zPz U s Y H _ _ v us Q I rx rs ⟨a,vs,w,rfl,r2.nil_inv,e3,hw,k Z _ _ (Ext.wr hmu) (R.wr hmu ea ⟨_,zH,tf.ext (Ext.wr hmu) (zIo q3)⟩) (rw'.ext (Ext.wr hmu))⟩
  ·cases e
 ·cases e
def zuz{o:yG}{apos:Xd}(ho:ME X o G)(hbase:YG o "pop" X.env (Yx o X.env)=Yx o X.env:=by rfl)(hline:(apos.endLine==pos.line)=true:=by rfl):ME X (.Call (.Attribute o "pop" apos) [] [] pos) (zMr zJy G) :=
 zBv PySem.F.slot_list_pop PySem.F.type_list_pop zwx ho hbase hline
@[simp] def zLl:GM:=λx ds μ=>match x,ds with
 |.loc n,[d]=>match μ[n]? with
  |some (.lst xs)=>bif zod d&&xs.all zod then some (.int (xs.countP λy=>eqF y d:Nat),μ) else none
  |_=>none
 |_,_=>none
def zTo{x:V}:∀{xs:List V} {us:List yb},Vals xs us->xs.all zDk=true->us.countP (eqU x)=xs.countP λy=>eqV y x
 |_,_,.nil,_=>rfl
 |y::xs,u::us,.cons r t,f=>by
  rw[all_cons,yz]at f;rw[countP_cons,countP_cons,zkr r f.1,zTo t f.2]
def zOp{K:yB}{Z:List yg}{H:Hp}{x:D}{v:V}(rx:tz K Z H x v)(fx:zod x=true):∀{ds:List D} {vs:List V},tf K Z H ds vs->ds.all zod=true->(vs.countP λy=>eqV y v)=ds.countP λd=>eqF d x
 |[],_,r,_=>by rw[r.nil_inv];rfl
 |d::ds,_,r,f=>by
  obtain⟨w,ws,rfl,r1,r2⟩:=r.cons_inv;rw[all_cons,yz]at f;rw[countP_cons,countP_cons,zOp rx fx r2 f.2,zaq r1 rx f.1 fx]
def z7u:MtG X "list.count" zLl:=by
 refine MtG.of λU s Y H x xs v us Q I rx rs Z dx ds μ d μ' r1 r2 R e k=>?_;unfold zLl at e
 split at e
 ·split at e
  ·rename_i hm
   obtain⟨h1,e⟩:=z5 e;rw[yz]at h1;cases e;obtain⟨a,rfl,ea⟩:=r1.tD;obtain⟨vs,e3,q3⟩:=R.at_ _ _ _ ea hm;obtain⟨w,r,rfl,q1,q2⟩:=r2.cons_inv;rw[q2.nil_inv]at rs;obtain⟨u,rfl,ru⟩:=vals1 rs;cases rx;obtain⟨z,its,n,rv,hl,el⟩:=I.TX e3;obtain⟨fv,_⟩:=zHo q1 h1.1 q3 h1.2;refine xy PySem.F.slot_list_count ⟨_,el,rfl⟩ PySem.F.entry_list_count (PySem.F.args_list_count_2 _ _) (SeqAt.list_countAt a its.toArray n _ _ u (eqU w)) ⟨el,λy hy=>ztg ru (zxh q1 h1.1) rv fv y (by simpa using hy),?_⟩;refine⟨.int _,H,I.tok _,⟨_,rfl⟩,?_⟩;rw[show its.toArray.toList=its by simp,zTo rv fv,zOp q1 h1.1 q3 h1.2];exact k Z H _ Ext.refl R .int
  ·cases e
 ·cases e
def zgw{o:yG}{ψ:FA}{apos:Xd}(ho:ME X o G)(ha:MAn X (e::es) ψ)
 (hbase:YG o "count" X.env (Yx o X.env)=Yx o X.env:=by rfl)
 (hfew:((YY pos (yu (e::es) X.env)).all (λx=>!x.1)&&(backToKw pos (Xf [] X.env)).all (λx=>x.1.isSome)
  && decide ((e::es).length+([]:List xF).length+(if([]:List xF).isEmpty then 0 else 1)<30))=true:=by rfl)
 (hline:(apos.endLine==pos.line)=true:=by rfl) (hs:yu (e::es) X.env=(false,Yx e X.env)::yu es X.env:=by rfl) (hplain:(YY pos (yu es X.env)).any (·.1)=false:=by rfl) :
 ME X (.Call (.Attribute o "count" apos) (e::es) [] pos) (zke zLl G ψ):=z9j PySem.F.slot_list_count PySem.F.type_list_count z7u ho ha hbase hfew hline hs hplain
@[simp] def zSj:GM:=λx ds μ=>match x,ds with
 |.loc n,[.int i]=>match μ[n]? with
  |some (.lst xs)=>(zWl xs).bind λns=>bif ns.contains i then some (.non,μ.set n (.lst ((ns.erase i).map .int))) else none
  |_=>none
 |_,_=>none
def z0q{i:Int}:∀{ns:List Int},i∈ns->∃j,∃hj:j<ns.length,ns[j]=i/\(∀m (hm:m<ns.length),m<j->ns[m]≠i)/\ns.erase i=ns.eraseIdx j
 |[],h=>by cases h
 |n::ns,h=>by
  by_cases hn:n=i
  ·exact⟨0,by simp,hn,λm _ hm=>absurd hm (Nat.not_lt_zero _),by simp[hn]⟩
  ·have h':i∈ns:=by
    rcases List.mem_cons.mp h with h|h
    ·exact absurd h.symm hn
    ·exact h
   obtain⟨j,hj,e1,e2,e3⟩:=z0q h';refine⟨j+1,by simpa using hj,by simpa using e1,λm hm hmj=>?_,?_⟩
   ·cases m with
    |zero=>simpa using hn
    |succ m=>simpa using e2 m (by simpa using hm) (by omega)
   ·rw[List.erase_cons_tail (by simpa using hn),e3,xI]
def zRp{α β:Type}(f:α->β):∀(l:List α)(j:Nat),(l.eraseIdx j).map f=(l.map f).eraseIdx j
 |[],j=>by simp
 |x::l,0=>by simp
 |x::l,j+1=>by simp[zRp f l j]
def z1m:∀{vs:List V} {us:List yb} (j:Nat),Vals vs us->Vals (vs.eraseIdx j) (us.eraseIdx j)
 |_,_,_,.nil=>by simp;exact .nil
 |_,_,0,.cons r t=>by simpa using t
 |_,_,j+1,.cons r t=>by rw[xI,xI];exact .cons r (z1m j t)
def zes:MtG X "list.remove" zSj:=by
 refine MtG.of λU s Y H x xs v us Q I rx rs Z dx ds μ d μ' r1 r2 R e k=>?_;unfold zSj at e
 split at e
 ·rename_i l i
  split at e
  ·rename_i hm
   obtain⟨ns,e2,e⟩:=zi e;obtain⟨h1,e⟩:=z5 e;cases e;rw[zPf e2]at hm;obtain⟨a,rfl,ea⟩:=r1.tD;obtain⟨vs,e3,q3⟩:=R.at_ _ _ _ ea hm;rw[zzh q3]at e3;obtain⟨w,r,rfl,q1,q2⟩:=r2.cons_inv;rw[q2.nil_inv,q1.int_inv]at rs;obtain⟨u,rfl,ru⟩:=vals1 rs;obtain⟨t,rfl⟩:=ru;cases rx;obtain⟨z,its,n,rv,hl,el⟩:=I.TX e3;obtain⟨j,hj,hit,hno,her⟩:=z0q (show i∈ns by simpa using h1);have hlen:its.length=ns.length:=by rw[<-rv.length];simp
   have at_:∀m (hm:m<its.length),∃t,its[m]=.int (ns[m]'(by omega)) t:=λm hm=>by
    have hg:(ns.map V.int)[m]?=some (.int (ns[m]'(by omega))):=by simp[show m<ns.length by omega]
    obtain⟨u,hu,t,ru⟩:=rv.get hg;exact⟨t,by rw[<-ru];exact(List.getElem?_eq_some_iff.mp hu).2⟩
   let f:yb->Bool:=λy=>match y with | .int z _=>z==i|_=>false
   have hz':its.length<=yI:=by rw[<-rv.length];exact z
   refine xy PySem.F.slot_list_remove ⟨_,el,rfl⟩ PySem.F.entry_list_remove (PySem.F.args_list_remove_2 _ _)
    (MeetsSeq.list_remove a its.toArray n (.int i t) f (λy hy=>?_) j (by simp;omega) ?_ (λm hm hmj=>?_) (by simpa using hz')) ⟨el,?_⟩
   ·obtain⟨m,hm,rfl⟩:=List.mem_iff_getElem.mp (show y∈its by simpa using hy);obtain⟨t',e'⟩:=at_ m hm;rw[e'];exact MeetsSeq.EqGives.int _ _ _ _
   ·obtain⟨t',e'⟩:=at_ j (by omega);show f its[j]=true;rw[e'];simp[f,hit]
   ·have hm':m<its.length:=by simpa using hm
    obtain⟨t',e'⟩:=at_ m hm';show f its[m]=false;rw[e'];simpa[f] using hno m (by omega) hmj
   ·have hmu:Mut (H a):=by rw[e3];trivial
    refine⟨.non,_,I.sZ (t':=s.toks) (ys:=(ns.erase i).map V.int) (its':=its.eraseIdx j) e3 el ?_ ?_ ?_,rfl,k Z _ _ (Ext.wr hmu) (R.wr hmu ea ⟨_,zH,zug⟩) .non⟩
    ·simp[Array.eraseIdxIfInBounds,show j<its.length by omega]
    ·rw[her,zRp];exact z1m j rv
    ·have:(ns.erase i).length<=ns.length:=by rw[her];exact List.length_eraseIdx_le _ _
     rw[length_map]at z ⊢;omega
  ·cases e
 ·cases e
def znt{o:yG}{ψ:FA}{apos:Xd}(ho:ME X o G)(ha:MAn X (e::es) ψ)
 (hbase:YG o "remove" X.env (Yx o X.env)=Yx o X.env:=by rfl)
 (hfew:((YY pos (yu (e::es) X.env)).all (λx=>!x.1)&&(backToKw pos (Xf [] X.env)).all (λx=>x.1.isSome)
  && decide ((e::es).length+([]:List xF).length+(if([]:List xF).isEmpty then 0 else 1)<30))=true:=by rfl)
 (hline:(apos.endLine==pos.line)=true:=by rfl) (hs:yu (e::es) X.env=(false,Yx e X.env)::yu es X.env:=by rfl) (hplain:(YY pos (yu es X.env)).any (·.1)=false:=by rfl) :
 ME X (.Call (.Attribute o "remove" apos) (e::es) [] pos) (zke zSj G ψ):=z9j PySem.F.slot_list_remove PySem.F.type_list_remove zes ho ha hbase hfew hline hs hplain
@[simp] def zpz(i:Nat)(g:φ2)(G:FE):FS:=λJ μ=>match J[i]? with
 |some (some x)=>(G J μ).bind λp=>(g x p.1 p.2).bind λq=>some (.next (J.set i (some q.1)) q.2)
 |_=>none
def zow:φ2:=λx y μ=>match x,y with
 |.int i,.int j=>some (.int (i+j),μ)
 |_,_=>none
def zmy:OpM X (inplaceOp .Add) zow:=by
 refine OpM.of λU s Y H x y v u Q I rx ry Z dx dy μ d μ' r1 r2 R e k=>?_;unfold zow at e
 split at e
 ·cases e;exact z9x U s Y H x y v u Q I rx ry ⟨_,_,r1.int_inv,r2.int_inv,k Z H _ Ext.refl R .int⟩
 ·cases e
def zzz{x:yF}{op:Operator}{g:φ2}{pos':Xd}(i:Nat)(ho:OpM X (inplaceOp op) g)(he:ME X e G)(hN:X.N.Nodup:=by assumption)(hi:X.N[i]?=some x:=by rfl)(hx:L2.Loc X.env.scope x:=by first|exact Or.inl rfl|exact Or.inr rfl)
 (hf:X.fn x=true\/X.env.scope.names.lookup x=some .local:=by first|exact .inl rfl|exact .inr rfl|assumption):MS X (.AugAssign (.Name x pos') op e pos) (zpz i g G) :=
 ztm (zPy (ti:=rM X.K g) hN hi hx he (λU s Y H x y v u Q I rx ry q=>ho U s Y H x y v u Q I rx ry q) hf) λZ J μ Y H o E A e k=>by
  unfold zpz at e
  split at e
  ·rename_i d hd
   obtain⟨v,hv,rv⟩:=A.st i _ hd;obtain⟨⟨y,μ1⟩,e1,e⟩:=zi e;obtain⟨⟨z,μ2⟩,e2,e⟩:=zi e;cases e;refine⟨v,hv,Z,J,μ,y,μ1,A,e1,λZ1 H1 w x1 R1 r1=>?_⟩;refine⟨Z1,d,y,μ1,z,μ2,rv.ext x1,r1,R1,e2,λZ2 H2 w2 x2 R2 r2=>?_⟩;exact k Z2 _ H2 (x1.trans x2) ((A.ext (x1.trans x2) R2).set r2 i)
  ·cases e
def zgc(c:FT)(body:FS):Nat->FS
 |0,_,_=>none
 |n+1,J,μ=>(c J μ).bind λp=>bif p.1 then(match body J p.2 with
  |some (.next J' μ')=>zgc c body n J' μ'
  |some (.cont J' μ')=>zgc c body n J' μ'
  |some (.brk J' μ')=>some (.next J' μ')
  |some (.ret d μ')=>some (.ret d μ')
  |some (.exc C fs μ')=>some (.exc C fs μ')
  |none=>none) else some (.next J p.2)
def zCm(n:Nat)(c:FT)(body:FS):FS:=zgc c body n
def zFk{body:List Yb}{t:FT}{p:FS}(n:Nat)(hc:MT X c t)(hb:MSs X body p)(hx:PassesOwn (yA X.prog X.w) X.A X.env X.xe:=by first|exact PassesOwn.never|exact PassesOwn.leaving):MS X (.While c body [] pos) (zCm n t p) :=
 ztm (zLv hx hc hb) λZ J μ Y H o E A e k=>by
  refine⟨λm Y' H'=>∃Z' J' μ',Ext Z H Z' H'/\At X.K Z' H' Y' J' μ'/\zgc t p m J' μ'=some o,⟨n,Z,J,μ,Ext.refl,A,e⟩,?_⟩;rintro m Y' H' ⟨Z',J',μ',x',A',ew⟩
  cases m with
  |zero=>cases ew
  |succ m=>
   unfold zgc at ew;obtain⟨⟨b,μ1⟩,e1,ew⟩:=zi ew;refine⟨Z',J',μ',b,μ1,A',e1,λZ1 H1 x1 R1=>?_⟩;have xx:=x'.trans x1
   cases b with
   |false=>
    cases ew;exact Sa (k Z1 Y' H1 xx (A'.ext x1 R1))
   |true=>
    refine Sb ⟨λY3 H3=>∃Z3 J3 μ3,Ext Z H Z3 H3/\At X.K Z3 H3 Y3 J3 μ3/\zgc t p m J3 μ3=some o,λY3 H3 q=>⟨m,Yd _,q⟩,?_⟩;dsimp only[cond_true]at ew
    cases eb:p J' μ1 with
    |none=>rw[eb]at ew;cases ew
    |some ob=>
     rw[eb]at ew;refine⟨Z1,J',μ1,ob,A'.ext x1 R1,eb,?_⟩
     cases ob with
     |next J6 μ6=>exact λZ6 Y6 H6 x6 A6=>⟨Z6,J6,μ6,xx.trans x6,A6,ew⟩
     |cont J6 μ6=>exact λZ6 Y6 H6 x6 A6=>⟨Z6,J6,μ6,xx.trans x6,A6,ew⟩
     |brk J6 μ6=>cases ew;exact k.ext xx
     |ret d μ6=>cases ew;exact k.ext xx
     |exc C fs μ6=>cases ew;exact k.ext xx
end
end M
namespace L2
open PySem PySem.Spec PyProof.Rows
section
variable {κ:Type}[DecidableEq κ]
def ztr(kvs:List (κ×V))(k:κ):Option V:=(kvs.find? λkv=>decide (kv.1=k)).map (·.2)
def zXs(kvs:List (κ×V))(k:κ)(v:V):List (κ×V) :=
 if(kvs.any λkv=>decide (kv.1=k))=true then kvs.map (λkv=>if kv.1=k then(kv.1,v) else kv) else kvs++[(k,v)]
def zEr{p:κ×V}{r:List (κ×V)}{k:κ}(e:p.1=k):ztr (p::r) k=some p.2:=by simp[ztr,List.find?_cons,e]
def z2q{p:κ×V}{r:List (κ×V)}{k:κ}(e:¬p.1=k):ztr (p::r) k=ztr r k:=by simp[ztr,List.find?_cons,e]
def zeq(kvs:List (κ×V))(k:κ)(v:V):(zXs kvs k v).length<=kvs.length+1:=by
 unfold zXs
 split
 ·rw[length_map];omega
 ·rw[length_append,length_cons,List.length_nil];omega
def sI.sA{o:Option V}{u:Option yb}(r:sI o u):o.isSome=u.isSome:=by
 cases o with
 |none=>cases u with
  |none=>rfl
  |some _=>exact(show False from r).elim
 |some _=>cases u with
  |none=>exact(show False from r).elim
  |some _=>rfl
def KV.val{kvs:List (κ×V)}{vs:List (κ×yb)}(r:KV kvs vs)(k:κ):sI (ztr kvs k) (valueAt vs k):=by
 unfold KV at r
 induction r with
 |nil=>exact True.intro
 |@cons p q ps qs h t ih=>
  obtain⟨h1,h2⟩:=h
  by_cases e:p.1=k
  ·have e':q.1=k:=h1.symm.trans e;have b:valueAt (q::qs) k=some q.2:=by simp[valueAt,List.find?_cons,e']
   rw[zEr e,b];exact h2
  ·have e':¬q.1=k:=λz=>e (h1.trans z);have b:valueAt (q::qs) k=valueAt qs k:=by simp[valueAt,List.find?_cons,e']
   rw[z2q e,b];exact ih
def KV.any{kvs:List (κ×V)}{vs:List (κ×yb)}(r:KV kvs vs)(k:κ):(kvs.any λkv=>decide (kv.1=k))=vs.any λkv=>decide (kv.1=k):=by
 unfold KV at r
 induction r with
 |nil=>rfl
 |cons h t ih=>rw[any_cons,any_cons,ih,h.1]
def KV.repl{kvs:List (κ×V)}{vs:List (κ×yb)}(r:KV kvs vs)(k:κ){y:V}{u:yb}(ry:RelV y u) :
 KV (kvs.map λkv=>if kv.1=k then(kv.1,y) else kv) (vs.map λkv=>if kv.1=k then(kv.1,u) else kv):=by
 unfold KV at r ⊢
 induction r with
 |nil=>exact .nil
 |@cons p q ps qs h t ih=>
  rw[map_cons,map_cons];refine .cons ?_ ih;obtain⟨h1,h2⟩:=h
  by_cases e:p.1=k
  ·rw[if_pos e,if_pos (h1.symm.trans e)];exact⟨h1,ry⟩
  ·rw[if_neg e,if_neg (λz=>e (h1.trans z))];exact⟨h1,h2⟩
def KV.put{kvs:List (κ×V)}{vs:List (κ×yb)}(r:KV kvs vs)(k:κ){y:V}{u:yb}(ry:RelV y u):KV (zXs kvs k y) (stored vs k u):=by
 unfold zXs stored;rw[r.any k]
 by_cases e:(vs.any λkv=>decide (kv.1=k))=true
 ·rw[if_pos e,if_pos e];exact r.repl k ry
 ·rw[if_neg e,if_neg e];exact Paired.snoc r ⟨rfl,ry⟩
def KV.keys{kvs:List (κ×V)}{vs:List (κ×yb)}(r:KV kvs vs):kvs.map (·.1)=vs.map (·.1):=by
 unfold KV at r
 induction r with
 |nil=>rfl
 |cons h t ih=>rw[map_cons,map_cons,ih,h.1]
def KV.length{kvs:List (κ×V)}{vs:List (κ×yb)}(r:KV kvs vs):kvs.length=vs.length:=Paired.length r
end
def z8s{P:yy}{w:yJ}{k:Key}{u:yb}(r:RelV (kV k) u):(z7b P w).is k u=true:=by
 cases k with
 |inl i=>obtain⟨t,e⟩:=(show ∃t,u=Value.int i t from r);subst e;exact zIq P w i t
 |inr x=>obtain⟨t,e⟩:=(show ∃t,u=Value.str x t from r);subst e;exact zXp P w x t
def z7x{P:yy}{w:yJ}{H:Hp}{h:Ye}{a:yg}{kvs:List (Key×V)}(ok:HOk P w H h)(e:H a=some (.dK kvs)):kvs.length<=yI/\(a==sysModules)=false/\∃vs,KV kvs vs/\h.DictOf (z7b P w) a vs :=
 show tQ P w H h a (.dK kvs) from ok a _ e
end L2
namespace M
open PySem PySem.Spec PyProof.Rows L2
def zqe(kvs:List (Int×D))(i:Int):Option D:=(kvs.find? λp=>decide (p.1=i)).map (·.2)
def zLs(kvs:List (Int×D))(i:Int)(d:D):List (Int×D):=if(kvs.any λp=>decide (p.1=i))=true then kvs.map (λp=>if p.1=i then(p.1,d) else p) else kvs++[(i,d)]
@[simp] def zJc(μ:Mem):D->Option (List (Int×D))
 |.loc n=>match μ[n]? with
  |some (.dct kvs)=>some kvs
  |some (.dcf kvs)=>some kvs
  |_=>none
 |_=>none
def RdK(H:Hp)(a:yg)(vs:List (Key×V)):Prop:=H a=some (.dK vs)\/∃o,H a=some (.frz o (.dK vs))
def zwk{P:yy}{w:yJ}{H:Hp}{h:Ye}{a:yg}{kvs:List (Key×V)}(ok:HOk P w H h)(e:RdK H a kvs):kvs.length<=yI/\(a==sysModules)=false/\∃vs,KV kvs vs/\h.DictOf (z7b P w) a vs:=by
 rcases e with e|⟨o,e⟩
 ·exact z7x ok e
 ·exact(show tQ P w H h a (.frz o (.dK kvs)) from ok a _ e).2
section
variable {K:yB}{Z:List yg}{H:Hp}{μ:Mem}
def zPh{d:D}{v:V}{kvs:List (Int×D)}(R:tI K Z H μ)(r:tz K Z H d v)(e:zJc μ d=some kvs):∃p vs,v=.ref p/\RdK H p vs/\vs.map (·.1)=kvs.map (λp=>yN p.1)/\tf K Z H (kvs.map (·.2)) (vs.map (·.2)):=by
 unfold zJc at e
 split at e
 ·split at e
  ·rename_i hm
   cases e;obtain⟨a,e1,e2⟩:=r.tD;obtain⟨vs,e3,q1,q2⟩:=R.at_ _ _ _ e2 hm;exact⟨a,vs,e1,.inl e3,q1,q2⟩
  ·rename_i hm
   cases e;obtain⟨a,e1,e2⟩:=r.tD;obtain⟨o,vs,e3,q1,q2⟩:=R.at_ _ _ _ e2 hm;exact⟨a,vs,e1,.inr ⟨o,e3⟩,q1,q2⟩
  ·cases e
 ·cases e
def zQn:∀{kvs:List (Int×D)} {vs:List (Key×V)} (i:Int),vs.map (·.1)=kvs.map (λp=>yN p.1)->tf K Z H (kvs.map (·.2)) (vs.map (·.2)) ->
 (∀d,zqe kvs i=some d->∃v,ztr vs (yN i)=some v/\tz K Z H d v)/\(zqe kvs i=none->ztr vs (yN i)=none)
 |[],vs,i,h1,h2=>by
  have:vs=[]:=by simpa using h1
  subst this;exact⟨λd h=>(by cases h),λ_=>rfl⟩
 |(j,d)::kvs,vs,i,h1,h2=>by
  cases vs with
  |nil=>simp at h1
  |cons q vs=>
   obtain⟨k,v⟩:=q;rw[map_cons,map_cons,List.cons.injEq]at h1;obtain⟨hk,h1⟩:=h1;have hk:k=yN j:=hk;subst hk;obtain⟨v',r,e,q1,q2⟩:=h2.cons_inv;rw[map_cons,List.cons.injEq]at e;obtain⟨e1,e2⟩:=e;subst e2;have e1:v=v':=e1;subst e1;obtain⟨ih1,ih2⟩:=zQn i h1 q2
   by_cases hj:j=i
   ·subst hj;have a1:zqe ((j,d)::kvs) j=some d:=by simp[zqe]
    have a2:ztr ((yN j,v)::vs) (yN j)=some v:=zEr rfl;rw[a1,a2];exact⟨λd' h=>(by cases h;exact⟨v,rfl,q1⟩),λh=>(by cases h)⟩
   ·have a1:zqe ((j,d)::kvs) i=zqe kvs i:=by simp[zqe,hj]
    have a2:ztr ((yN j,v)::vs) (yN i)=ztr vs (yN i):=z2q (λz=>hj (by simpa using z));rw[a1,a2];exact⟨ih1,ih2⟩
def ziv(kvs:List (Int×D))(vs:List (Key×V))(i:Int)(d:D)(v:V)(h:vs.map (·.1)=kvs.map (λp=>yN p.1)):(zXs vs (yN i) v).map (·.1)=(zLs kvs i d).map (λp=>yN p.1):=by
 have hany:(vs.any λkv=>decide (kv.1=yN i))=kvs.any λp=>decide (p.1=i):=by
  have e1:(vs.any λkv=>decide (kv.1=yN i))=(vs.map (·.1)).any λk=>decide (k=yN i):=by rw[any_map];rfl
  rw[e1,h,any_map]
  congr 1
  funext p
  simp
 unfold zXs zLs;rw[hany]
 split
 ·rw[map_map,map_map]
  have e1:(λx:Key×V=>x.1)∘(λkv=>if kv.1=yN i then(kv.1,v) else kv)=λx=>x.1:=by
   funext x;simp only[xC];split<;>rfl
  have e2:(λp:Int×D=>(yN p.1:Key))∘(λp=>if p.1=i then(p.1,d) else p)=λp=>yN p.1:=by
   funext x;simp only[xC];split<;>rfl
  rw[e1,e2];exact h
 ·simp[h]
def zmr:∀(kvs:List (Int×D)) (vs:List (Key×V)) (i:Int) {d:D} {v:V},tz K Z H d v->vs.map (·.1)=kvs.map (λp=>yN p.1)->tf K Z H (kvs.map (·.2)) (vs.map (·.2)) ->
 tf K Z H ((kvs.map λp=>if p.1=i then(p.1,d) else p).map (·.2)) ((vs.map λkv=>if kv.1=yN i then(kv.1,v) else kv).map (·.2))
 |[],vs,i,d,v,r,h1,h2=>by
  have:vs=[]:=by simpa using h1
  subst this;exact .nil
 |(j,e)::kvs,vs,i,d,v,r,h1,h2=>by
  cases vs with
  |nil=>simp at h1
  |cons q vs=>
   obtain⟨k,u⟩:=q;rw[map_cons,map_cons,List.cons.injEq]at h1;obtain⟨hk,h1⟩:=h1;have hk:k=yN j:=hk;subst hk;obtain⟨v',r',e',q1,q2⟩:=h2.cons_inv;rw[map_cons,List.cons.injEq]at e';obtain⟨e1,e2⟩:=e';subst e2;have e1:u=v':=e1;subst e1;have ih:=zmr kvs vs i r h1 q2;simp only[map_cons]
   by_cases hj:j=i
   ·subst hj;rw[if_pos rfl,if_pos rfl];exact .cons r ih
   ·rw[if_neg hj,if_neg (λz=>hj (by simpa using z))];exact .cons q1 ih
def zuy{kvs:List (Int×D)}{vs:List (Key×V)}{i:Int}{d:D}{v:V}(r:tz K Z H d v)(h1:vs.map (·.1)=kvs.map (λp=>yN p.1))(h2:tf K Z H (kvs.map (·.2)) (vs.map (·.2))) :
 tf K Z H ((zLs kvs i d).map (·.2)) ((zXs vs (yN i) v).map (·.2)):=by
 have hany:(vs.any λkv=>decide (kv.1=yN i))=kvs.any λp=>decide (p.1=i):=by
  have e1:(vs.any λkv=>decide (kv.1=yN i))=(vs.map (·.1)).any λk=>decide (k=yN i):=by rw[any_map];rfl
  rw[e1,h1,any_map]
  congr 1
  funext p
  simp
 unfold zXs zLs;rw[hany]
 split
 ·exact zmr kvs vs i r h1 h2
 ·simp only[map_append,map_cons,map_nil];exact h2.append (.cons r .nil)
variable {X:Cx}{a b c e:yG}{es:List yG}{G ψ χ:FE}{pos:Xd}
@[simp] def zix:φ2:=λx y μ=>match y with
 |.int i=>(zJc μ x).bind λkvs=>(zqe kvs i).bind λd=>some (d,μ)
 |_=>none
def zsx{U:List (yg×xa)}{s:ye}{Y:L2.St}{H:Hp}{p:yg}{vs:List (Key×V)}{k:Key}{v:V}{u:yb}{A:yM}{E:yb->ye->Prop}{Q:yb->ye->Prop}(I:Inv X U Y H s)(e:RdK H p vs)(l:ztr vs k=some v)(ry:RelV (kV k) u)
 (h:∀w' s',Inv X U Y H s'->RelV v w'->Q w' s'):yq (yA X.prog X.w) A (getItem (.ref p) u) Q E s:=by
 obtain⟨z,hd,us,rel,dd⟩:=zwk I.hok e;obtain⟨w',hw,rw'⟩:=sI.some_of (v:=v) (o:=valueAt us k) (by rw[<-l];exact rel.val k);exact wpAny_getItem_of (z8s ry) dd.mapOf hw (h w' _ (I.tok _) rw')
def ixD:IxR X (rM X.K zix):=by
 intro value slice U s Y H x y v u Q I rx ry ⟨Z,dx,dy,μ,d,μ',r1,r2,R,e,k⟩ hs;unfold zix at e
 split at e
 ·rename_i i
  obtain⟨kvs,e1,e⟩:=zi e;obtain⟨d',e2,e⟩:=zi e;cases e;obtain⟨p,vs,rfl,hq,q1,q2⟩:=zPh R r1 e1;obtain⟨w',e3,rw'⟩:=(zQn i q1 q2).1 _ e2;cases rx;rw[r2.int_inv]at ry
  have hT:s.TypeIs (.ref p) "dict":=by
   obtain⟨_,_,us,_,dd⟩:=zwk I.hok hq;exact dd.typeIs
  unfold subscriptTail;refine ya ?_;rw[getitemInPython_of_ne hT.not_modules];refine ya (xr hT PySem.F.slot_dict_getitem.lookup ?_)
  have fin:yq (yA X.prog X.w) X.A (subscripted slice false (.ref p) u) (λr s₃=>yq (yA X.prog X.w) X.A (letTemporaryGo value (.ref p) r >>= λ_=>pure r) (EP X U Y Q) X.xe s₃) X.xe s:=by
   rw[hs];exact wpAny_operating (zsx I hq e3 ry λw2 s2 I2 r2=>ya (wpAny_letTemporaryGo (yi ⟨_,H,I2,r2,k Z H _ Ext.refl R rw'⟩)))
  first
   |exact yi (ya fin)
   |exact ya (yi (ya fin))
   |exact ya fin
 ·cases e
def zUw(ha:ME X a G)(hb:ME X b ψ)(hs:zKq b:=by intro _ _;rfl):ME X (.Subscript a b pos) (zy zix G ψ) :=
 zwg (zbz ixD ha hb hs) λ_ _ _ _ _ _ _ _ A e k=>z1s A e k
@[simp] def z7A:φ2:=λx y μ=>match x with
 |.int i=>(zJc μ y).bind λkvs=>some (.bl (zqe kvs i).isSome,μ)
 |_=>none
@[simp] def zIj:φ2:=λx y μ=>match x with
 |.int i=>(zJc μ y).bind λkvs=>some (.bl (!(zqe kvs i).isSome),μ)
 |_=>none
def zNz{U:List (yg×xa)}{s:ye}{Y:L2.St}{H:Hp}{p:yg}{vs:List (Key×V)}{k:Key}{u:yb}{A:yM}{E:yb->ye->Prop}{Q:yb->ye->Prop}(I:Inv X U Y H s)(e:RdK H p vs)(ry:RelV (kV k) u)
 (h:∀s',Inv X U Y H s'->Q (.bool (ztr vs k).isSome) s'):yq (yA X.prog X.w) A (Yl .In u (.ref p)) Q E s:=by
 obtain⟨z,hd,us,rel,dd⟩:=zwk I.hok e;refine wpAny_in_of (z8s ry) hd dd.mapOf ?_;rw[<-(rel.val k).sA];exact h _ (I.tok _)
def zCr{K:yB}{Z:List yg}{H:Hp}{kvs:List (Int×D)}{vs:List (Key×V)}(i:Int)(q1:vs.map (·.1)=kvs.map (λp=>yN p.1))(q2:tf K Z H (kvs.map (·.2)) (vs.map (·.2))):(ztr vs (yN i)).isSome=(zqe kvs i).isSome:=by
 obtain⟨h1,h2⟩:=zQn i q1 q2
 cases e:zqe kvs i with
 |none=>rw[h2 e];rfl
 |some d=>
  obtain⟨v,ev,_⟩:=h1 d e;rw[ev];rfl
def zox:OpM X (Yl .In) z7A:=by
 refine OpM.of λU s Y H x y v u Q I rx ry Z dx dy μ d μ' r1 r2 R e k=>?_;unfold z7A at e
 split at e
 ·rename_i i
  obtain⟨kvs,e1,e⟩:=zi e;cases e;obtain⟨p,vs,rfl,hq,q1,q2⟩:=zPh R r2 e1;cases ry;rw[r1.int_inv]at rx;refine zNz (k:=yN i) I hq rx λs' I'=>⟨.bl _,H,I',rfl,?_⟩
  rw[zCr i q1 q2];exact k Z H _ Ext.refl R .bl
 ·cases e
def zUm:OpM X (Yl .NotIn) zIj:=by
 refine OpM.of λU s Y H x y v u Q I rx ry Z dx dy μ d μ' r1 r2 R e k=>?_;unfold zIj at e
 split at e
 ·rename_i i
  obtain⟨kvs,e1,e⟩:=zi e;cases e;obtain⟨p,vs,rfl,hq,q1,q2⟩:=zPh R r2 e1;cases ry;rw[r1.int_inv]at rx;obtain⟨z,hd,us,rel,dd⟩:=zwk I.hok hq;refine wpAny_notIn_of (z8s (k:=yN i) rx) hd dd.mapOf ⟨.bl _,H,I.tok _,rfl,?_⟩;rw[<-(rel.val (yN i)).sA,zCr i q1 q2];exact k Z H _ Ext.refl R .bl
 ·cases e
@[simp] def zGy(G ψ:FE):FG:=λd J μ=>(G J μ).bind λp=>(ψ J p.2).bind λq=>match p.1,q.1 with
 |.loc n,.int i=>match q.2[n]? with
  |some (.dct kvs)=>bif decide (kvs.length<=1000000) then some (J,q.2.set n (.dct (zLs kvs i d))) else none
  |_=>none
 |_,_=>none
def z7v:zZA X (λo i v H Q=>∃p vs k,o=.ref p/\i=kV k/\H p=some (.dK vs)/\vs.length<yI/\Q (upd H p (.dK (zXs vs k v)))):=by
 intro U s Y H o i v ov iv u Q I ro ri rv ⟨p,vs,k,e1,e2,e3,hl,q⟩;subst e1 e2;cases ro;obtain⟨z,hd,us,rel,dd⟩:=z7x I.hok e3;have hz:us.length<=yI:=by rw[<-rel.length];exact z
 have hl':(zXs vs k v).length<=yI:=by have:=zeq vs k v;omega
 refine wpAny_setItem_pairs (hsz:=hz) (z8s ri) dd λh' dd' hs=>⟨_,I.write (x:=p) (e:=p) (by rw[e3];exact True.intro) (.inl rfl) (λb q hb z=>(hs.2 b hb).trans z) ?_ (show tQ X.prog X.w _ h' p (.dK (zXs vs k v)) from⟨hl',hd,_,rel.put k rv,dd'⟩),q⟩
 obtain⟨q,_,_,hq,_⟩:=dd';exact⟨q,hq⟩
def z3s{o i:yG}(ho:ME X o G)(hi:ME X i ψ)(ha:∀v,assign (.Subscript o i pos) X.env v=(do
 let ov <-holding [v] (Yx o X.env)
 let iv <-holding [v,ov] (Yx i X.env)
 standAt pos
 holding [v,ov,iv] (setItem ov iv v)
 release [v,ov,iv] []):=by intro _;rfl):MG X (.Subscript o i pos) (zGy G ψ) :=
 mg_of (z8w ho hi z7v ha) λZ J μ d J' μ' v Y H Q A q e k=>by
  obtain⟨⟨x,μ1⟩,e1,e⟩:=zi e;obtain⟨⟨y,μ2⟩,e2,e⟩:=zi e;refine⟨Z,J,μ,x,μ1,A,e1,λZ1 H1 v1 x1 R1 r1=>?_⟩;refine⟨Z1,J,μ1,y,μ2,A.ext x1 R1,e2,λZ2 H2 v2 x2 R2 r2=>?_⟩;dsimp only at e
  split at e
  ·rename_i n j _
   split at e
   ·rename_i kvs hm
    obtain⟨h1,e⟩:=z5 e;have h1:=of_decide_eq_true h1;cases e;obtain⟨ad,rfl,hr⟩:=(r1.ext x2).tD;obtain⟨vs,hv,q1,q2⟩:=R2.at_ _ _ _ hr hm;have hmu:Mut (H2 ad):=by rw[hv];trivial
    have hlen:vs.length=kvs.length:=by
     have:=congrArg xM q1;simpa using this
    have hmi:=Th;refine⟨ad,vs,yN j,rfl,r2.int_inv,hv,by omega,?_⟩;have xx:=x1.trans x2;have R3:=R2.wr (o:=.dK (zXs vs (yN j) v)) (lo:=.dct (zLs kvs j d)) hmu hr ⟨_,zH,ziv kvs vs j d v q1,tf.ext (Ext.wr hmu) (zuy (q.ext xx) q1 q2)⟩;exact k Z2 Y _ (xx.trans (Ext.wr hmu)) (A.ext (xx.trans (Ext.wr hmu)) R3)
   ·cases e
  ·cases e
def z5l(kvs:List (Int×D)):List D:=kvs.map λp =>.int p.1
@[simp] def zQo:GL:=λds μ=>match ds with
 |[x]=>(zJc μ x).bind λkvs=>some (.loc μ.length,μ++[.lst (z5l kvs)])
 |_=>none
def z2t{P:yy}{w:yJ}{H:Hp}{h:Ye}{p:yg}{vs:List (Key×V)}(ok:HOk P w H h)(e:RdK H p vs):∃us ep,KV vs us/\h.DictAt (z7b P w) p us ep:=by
 obtain⟨_,_,us,rel,o,es,ep,h1,h2,h3,h4⟩:=zwk ok e;exact⟨us,ep,rel,o,es,h1,h2,h3,h4⟩
def z9k{P:yy}{w:yJ}:∀{vs:List (Key×V)} {us:List (Key×yb)} {its:List yb},KV vs us->its.length=us.length->(∀(j:Nat)(v:yb),its[j]?=some v->∃(k:Key)(x:yb),us[j]?=some (k,x)/\(z7b P w).is k v=true)->Vals (vs.map λp=>kV p.1) its
 |[],us,its,r,hl,h=>by
  cases r;have:its=[]:=List.length_eq_zero_iff.mp (by simpa using hl);subst this;exact .nil
 |p::vs,us,its,r,hl,h=>by
  cases r with
  |@cons _ q _ qs hq t=>
   cases its with
   |nil=>simp at hl
   |cons i its=>
    refine .cons ?_ (z9k t (by simpa using hl) λj v e=>by
     obtain⟨k,x,h1,h2⟩:=h (j+1) v (by simpa using e);exact⟨k,x,by simpa using h1,h2⟩)
    obtain⟨k,x,h1,h2⟩:=h 0 i rfl;have e:q=(k,x):=by simpa using h1
    have ek:p.1=k:=by rw[hq.1,e]
    show RelV (kV p.1) i;rw[ek]
    cases k with
    |inl n=>
     rcases zqb ((zKj P w _ _).symm.trans h2) with ⟨j,t,e1,e2⟩|⟨j,t,e1,e2⟩
     ·cases e1;exact⟨t,e2⟩
     ·cases e1
    |inr n=>
     rcases zqb ((zKj P w _ _).symm.trans h2) with ⟨j,t,e1,e2⟩|⟨j,t,e1,e2⟩
     ·cases e1
     ·cases e1;exact⟨t,e2⟩
def z4p(hc:X.calm=true):tZ X (.type "list") zQo:=by
 refine tZ.of λU s Y H xs us Q I r Z ds μ d μ' r1 R e k=>?_;unfold zQo at e
 split at e
 ·obtain⟨kvs,e1,e⟩:=zi e;cases e;obtain⟨v,rr,rfl,q1,q2⟩:=r1.cons_inv;rw[q2.nil_inv]at r;obtain⟨p,vs,rfl,hq,w1,w2⟩:=zPh R q1 e1;obtain⟨u,rfl,ru⟩:=vals1 r;cases ru;obtain⟨hz,hd,_⟩:=zwk I.hok hq;obtain⟨us',ep,rel,da⟩:=z2t I.hok hq;have hl:=rel.length;refine W.kdl_call (W.kdl_dict hd) (I.ok.hd hc) da (by omega) λh' tk acc' c' kp e2 hi=>?_;obtain⟨hi1,hi2⟩:=hi;have hv:=z9k (P:=X.prog) (w:=X.w) (its:=acc'.toList) rel (by simpa using hi1) λj v e=>hi2 j v (by simpa using e)
  have hkv:(vs.map λp=>kV p.1)=(kvs.map λp=>V.int p.1):=by
   have:(vs.map (·.1)).map kV=(kvs.map λp=>(yN p.1:Key)).map kV:=by rw[w1]
   rw[map_map,map_map]at this;exact this
  rw[hkv]at hv
  have hlk:kvs.length=vs.length:=by
   have:=congrArg xM w1;simpa using this.symm
  have hf:=I.fresh;refine⟨.ref s.heap.objs.size,_,I.laid (t':=tk) kp (yk _) (show tQ X.prog X.w _ h' _ (.lst _) from⟨by simp;omega,acc'.toList,c',hv,by simpa using e2⟩),rfl,k _ _ _ (Ext.push hf) (R.push hf ⟨_,zH,?_⟩) (.loc (zSb R))⟩;have hr:=λZ H=>@zug X.K Z H (kvs.map (·.1));simp only[map_map]at hr;exact hr _ _
 ·cases e
end
def Itd(a:yg)(o:xa)(vs:List (Key×V)):It:=⟨λi H=>H a=some (.frz o (.dK vs))/\i<vs.length,λi H x H'=>H'=H/\∃p,vs[i]?=some p/\x=kV p.1,λi H=>H a=some (.frz o (.dK vs))/\vs.length<=i⟩
def zHr{P:yy}{w:yJ}{H:Hp}{h:Ye}{a:yg}{o:xa}{vs:List (Key×V)}{es:Array DictEntry}{ep:Nat}(ok:HOk P w H h)(e:H a=some (.frz o (.dK vs)))(hd:o.data=.dict es ep):∃us,KV vs us/\h.DictAt (z7b P w) a us ep:=by
 obtain⟨h0,_,_,us,rel,o',es',ep',h1,h2,h3,h4⟩:=(show tQ P w H h a (.frz o (.dK vs)) from ok a _ e)
 rw[h0]at h1;cases h1;rw[hd]at h3;cases h3;exact⟨us,rel,o,es,h0,h2,hd,h4⟩
def zvt{P:yy}{w:yJ}{K:yB}{tg:yG}(a it:yg)(o:xa)(vs:List (Key×V))(es:Array DictEntry)(ep:Nat)(hd:o.data=.dict es ep):Turn P w K tg (Itd a o vs) [it] it (λi h=>h.IsKeyIter it a i vs.length ep) where
 mem:=by simp
 obj:=λi h st b hb=>by
  have e:b=it:=by simpa using hb
  subst e;obtain⟨o,e,c,d⟩:=st;exact⟨o,e,λv z=>by rw[d]at z;cases z⟩
 keep:=λi h h' st k=>st.at λo e=>k it (by simp) o e
 item:=by
  intro X hP hw hK hc i U s Y H E I hf st hg;subst hP hw hK;obtain⟨hq,hi⟩:=hg;obtain⟨us,rel,da⟩:=zHr I.hok hq hd;have hl:=rel.length;obtain⟨f0,f1,f2,f3,f4,f5⟩:=hf it (by simp);have hx:us[i]?=some ((us[i]'(by omega)).1,(us[i]'(by omega)).2):=by simp[show i<us.length by omega]
  rw[hl]at st ⊢;refine wpAny_pyNext_dict_item st da hx λkey h' hkey st' sb=>?_;have I1:Inv X U Y H {s with heap:=h' }:=I.turned (t':=s.toks) (λb o hb e=>(sb.2 b hb).trans e) f0 f1 f3 f4 f5;obtain⟨o',e',c',d'⟩:=id st';have hk:vs[i]?=some vs[i]:=by simp[hi]
  have hkk:(vs[i]).1=(us[i]'(by omega)).1:=by
   have h1:(vs.map (·.1))[i]?=(us.map (·.1))[i]?:=by rw[rel.keys]
   simp only[yh,hk,yc (show i<us.length by omega),YO,Xb]at h1;exact h1
  have rk:RelV (kV (vs[i]).1) key:=by
   rw[hkk];rcases zqb ((zKj X.prog X.w _ _).symm.trans hkey) with ⟨j,t,e1,e2⟩|⟨j,t,e1,e2⟩
   ·rw[e1];exact⟨t,e2⟩
   ·rw[e1];exact⟨t,e2⟩
  exact⟨key,rfl,ziw (s:={s with heap:=h' }) e' c' d' (by decide) ⟨kV (vs[i]).1,H,I1,rk,⟨rfl,_,hk,rfl⟩,st',λb hb=>(hf b hb).1⟩⟩
 done:=by
  intro X hP hw hK hc i U s Y H E I hf st hg;subst hP hw hK;obtain⟨hq,hi⟩:=hg;obtain⟨us,rel,da⟩:=zHr I.hok hq hd;have hl:=rel.length;obtain⟨f0,f1,f2,f3,f4,f5⟩:=hf it (by simp);rw[hl]at st;exact wpAny_pyNext_dict_end (I.ok.hd hc) st da (by simp;omega) λh' eb=>⟨rfl,I.turned (t':=s.toks) (λb o hb e=>eb b o hb e) f0 f1 f3 f4 f5⟩
 self:=λ_ _ _ _ _ st h=>wpAny_pyIter_keyiter st h
section
variable {X:Cx}{a b c e:yG}{es:List yG}{G ψ χ:FE}{pos:Xd}{tg:yG}
def zyB(tl:TE):TI:=λY H R=>tl Y H λx H1=>∃p vs,x=.ref p/\((H1 p=some (.dK vs)/\∀o,R (Itd p o vs) (upd H1 p (.frz o (.dK vs))))\/∃o,H1 p=some (.frz o (.dK vs))/\R (Itd p o vs) H1)
def zzx{l:yG}{tl:TE}(hl:PE X l tl):PI X tg l (zyB tl):=by
 intro U s Y H R I h;refine thn (hl U s Y H _ I h) λv s1 ⟨x,H1,I1,r1,q1⟩=>?_;obtain⟨p,vs,e,q⟩:=q1;subst e;cases r1
 have fin:∀(H2:Hp)(o:xa),Inv X U Y H2 s1->H2 p=some (.frz o (.dK vs))->R (Itd p o vs) H2->yq (yA X.prog X.w) X.A (pyIter (.ref p)) (PIE X U Y tg R) X.xe s1:=λH2 o I2 e2 q2=>by
  obtain⟨h0,hz,hd,us,rel,o',es,ep,h1,h2,h3,h4⟩:=(show tQ X.prog X.w H2 s1.heap p (.frz o (.dK vs)) from I2.hok p _ e2)
  rw[h0]at h1;cases h1;have da:s1.heap.DictAt (z7b X.prog X.w) p us ep:=⟨o,es,h0,h2,h3,h4⟩
  refine wpAny_pyIter_dict hd da ?_;refine⟨s1.heap.objs.size,[s1.heap.objs.size],_,_,H2,rfl,I2.kept (t':=s1.toks) λb o e=>yf _ e,zvt p _ o vs es ep h3,⟨_,yp _ rfl,rfl,by rw[rel.length];rfl⟩,λb hb=>?_,q2⟩;have e:b=s1.heap.objs.size:=by simpa using hb
  subst e;exact I2.sQ (yk _) (I2.hok.fresh (yk _))
 rcases q with ⟨e1,q⟩|⟨o,e1,q⟩
 ·have hok:=I1.hok p _ e1;obtain⟨hz,hd,us,rel,o,es,ep,h1,h2⟩:=(show tQ X.prog X.w H1 s1.heap p (.dK vs) from hok)
  have I2:Inv X U Y (upd H1 p (.frz o (.dK vs))) {s1 with heap:=s1.heap,toks:=s1.toks }:=by
   refine I1.write (x:=p) (e:=p) (by rw[e1];exact True.intro) (.inl rfl) (λb u _ e=>e) ⟨o,h1⟩ ?_;exact⟨h1,hz,hd,us,rel,o,es,ep,h1,h2⟩
  exact fin _ o I2 zH (q o)
 ·exact fin H1 o I1 e1 q
@[simp] def zNx(G:FE):FI:=λJ μ=>(G J μ).bind λp=>match p.1 with
 |.loc n=>match p.2[n]? with
  |some (.dct kvs)=>some (z5l kvs,yes,p.2.set n (.dcf kvs))
  |some (.dcf kvs)=>some (z5l kvs,yes,p.2)
  |_=>none
 |_=>none
def z2w{K:yB}{Z:List yg}{H:Hp}{p:yg}{o:xa}{vs:List (Key×V)}{kvs:List (Int×D)}(h:H p=some (.frz o (.dK vs)))(q1:vs.map (·.1)=kvs.map (λp=>yN p.1)):sS K (Itd p o vs) Z H (z5l kvs) yes:=by
 have hlen:vs.length=kvs.length:=by
  have:=congrArg xM q1;simpa using this
 have hkl:(z5l kvs).length=kvs.length:=by simp[z5l]
 refine⟨λZ' H' μ' i x R _ hi=>⟨x.frz _ _ _ h,by rw[hkl]at hi;omega⟩,λZ' H' μ' i x H'' d x' R _ e ⟨y1,q,y2,y3⟩=>⟨y1▸Ext.refl,y1▸R,y1▸?_⟩,λZ' H' μ' x R _=>⟨x.frz _ _ _ h,by rw[hkl];omega⟩⟩;have h1:(vs.map (·.1))[i]?=(kvs.map (λp=>(yN p.1:Key)))[i]?:=by rw[q1]
 rw[yh,yh,y2]at h1;unfold z5l at e;rw[yh]at e
 cases hk:kvs[i]? with
 |none=>rw[hk]at e;cases e
 |some z=>
  rw[hk]at e h1;cases e;have h1:q.1=yN z.1:=by simpa using h1
  rw[y3,h1];exact .int
def zzy(h:ME X a G):MI X tg a (zNx G) :=
 zxt (zzx h) λZ J μ Y H ds ok μ' R A e k=>by
  obtain⟨⟨x,μ1⟩,e1,e⟩:=zi e;refine⟨Z,J,μ,x,μ1,A,e1,λZ1 H1 v1 x1 R1 r1=>?_⟩;dsimp only at e
  split at e
  ·split at e
   ·rename_i hm
    cases e;obtain⟨p,rfl,ep⟩:=r1.tD;obtain⟨vs,e3,q1,q2⟩:=R1.at_ _ _ _ ep hm;have hmu:Mut (H1 p):=by rw[e3];trivial
    refine⟨p,vs,rfl,.inl ⟨e3,λo=>?_⟩⟩;exact k Z1 _ _ (x1.trans (Ext.wr hmu)) (R1.wr hmu ep ⟨o,vs,zH,q1,tf.ext (Ext.wr hmu) q2⟩) (z2w zH q1)
   ·rename_i hm
    cases e;obtain⟨p,rfl,ep⟩:=r1.tD;obtain⟨o,vs,e3,q1,q2⟩:=R1.at_ _ _ _ ep hm;exact⟨p,vs,rfl,.inr ⟨o,e3,k Z1 _ _ x1 R1 (z2w e3 q1)⟩⟩
   ·cases e
  ·cases e
def ztt{prog:yy}{w:yJ}{A:yM}{E:yb->ye->Prop}{s:ye}{Q:Int->ye->Prop}(h:Q 0xFCA86420 {s with toks:=s.toks+1 }):yq (yA prog w) A (pyHash .none) Q E s:=by
 unfold pyHash;have hv:[YC].any Value.onHeap=false:=rfl;refine ya ?_;rw[cRoomFor,if_neg (by rw[hv];exact yv)];refine yi ?_;refine ya (xr (typeIs_none s) PySem.F.slot_NoneType_hash.lookup ?_);show yq _ _ (if(some (Value.builtin "NoneType.__hash__")==some YC)=true then _ else _) Q E s;rw[if_neg (by rw[beq_builtin_none];exact yv)];refine ya (xr (typeIs_none s) PySem.F.slot_NoneType_hash.lookup ?_);show yq _ _ (callSpecialIfBoundUnlessNone? .none "__hash__" _ >>= _) Q E s;refine ya (wpAny_callSpecialIfBoundUnlessNone?_slot (typeIs_none s) PySem.F.slot_NoneType_hash (yO PySem.F.slot_NoneType_hash (typeIs_none s) PySem.F.entry_NoneType_hash ?_ (PySem.F.args_NoneType_hash_1 _)));show yq _ _ (do ret (<-mkInt 0xFCA86420)) _ _ s;refine wpAny_ret_mkInt ?_;show yq _ _ (if(decide (-(2:Int)^63<=0xFCA86420)&&decide ((0xFCA86420:Int)<2^63))=true then _ else _) Q E _;rw[if_pos (by decide)];exact yi h
def zTr{i:Int}(h0:0<=i)(h1:i<1000):hashInt i=i:=by
 have e:(i.natAbs%(2^61-1):Nat)=i.natAbs:=Nat.mod_eq_of_lt (by omega)
 have hr:rawHash i=i:=by
  unfold rawHash;dsimp only;rw[if_neg (by omega:¬i<0)];have:((i.natAbs%(2^61-1:Nat):Nat):Int)=i:=by rw[e];omega
  rw[show((i.natAbs:Int)%((2^61-1:Nat):Int))=i by rw[<-Int.natCast_emod];exact this];rw[if_neg (by simp;omega)]
 unfold hashInt;rw[hr,if_neg (by simp;omega)]
def zNo:Key->Bool
 |.inl i=>decide (0<=i/\i<1000)
 |.inr _=>false
def zvl{P:yy}{w:yJ}:∀{es:List DictEntry} {us:List (Key×yb)},Pairs (z7b P w) es us->(∀e∈es,∃k,(z7b P w).is k e.key=true/\e.hash=(z7b P w).hash k)->(us.all λq=>zNo q.1)=true->∀e∈es,(e.hash==0xFCA86420)=false
 |_,_,.nil,_,_=>λe he=>by cases he
 |_,_,.cons (kv:=kv) hk hv t,hh,hs=>λe he=>by
  rw[all_cons,yz]at hs;rcases List.mem_cons.mp he with rfl|he
  ·obtain⟨k',h1,h2⟩:=hh e mem_cons_self;have ek:=(z7b P w).inj _ _ _ hk h1;rw[h2,<-ek];have hsm:zNo kv.1=true:=hs.1
   cases hkv:kv.1 with
   |inl i=>
    rw[hkv]at hsm;have hi:=of_decide_eq_true (show decide (0<=i/\i<1000)=true from hsm);show(hashInt i==0xFCA86420)=false;rw[zTr hi.1 hi.2];simp;omega
   |inr x=>rw[hkv]at hsm;cases hsm
  ·exact zvl t (λe he=>hh e (mem_cons_of_mem _ he)) hs.2 e he
def zkx{prog:yy}{w:yJ}{A:yM}{E:yb->ye->Prop}{s:ye}{p:yg}{us:List (Key×yb)}{Q:yb->ye->Prop}(hd:(p==sysModules)=false)(dd:s.heap.DictOf (z7b prog w) p us)(hs:(us.all λq=>zNo q.1)=true)
 (h:Q (.bool false) {s with toks:=s.toks+1 }):yq (yA prog w) A (Yl .In .none (.ref p)) Q E s:=by
 obtain⟨o,es,ep,ho,hx,hdat,hk,hp,hn⟩:=id dd;have hno:=zvl hp (λe he=>hk e (by simpa using he)) hs
 have hpl:placesWithHash es.size (λi=>es[i]?.map (·.hash)) 0xFCA86420=[]:=by
  unfold placesWithHash;rw[List.filter_eq_nil_iff];intro i hi;have hi:i<es.size:=by simpa using hi
  dsimp only;rw[Array.getElem?_eq_getElem hi];have:=hno es[i] (by simp);simpa using this
 show yq _ _ (do return .bool (<-contains (.ref p) .none)) Q E s;refine ya ?_;unfold contains
 try with_reducible refine Yc ?_
 refine ya (xr dd.typeIs slot_dict_contains.lookup ?_);show yq _ _ (if(some (Value.builtin "dict.__contains__")==some YC)=true then _ else _) _ E s;rw[if_neg (by rw[beq_builtin_none];exact yv)];refine ya (wpAny_callSpecialUnlessNone?_slot (name:=YK "__contains__") dd.typeIs slot_dict_contains (yO slot_dict_contains dd.typeIs entry_dict_contains ?_ (args_dict_contains _ _)));show yq _ _ (dictGet p .none >>= _) _ _ s;refine ya ?_;unfold dictGet
 try with_reducible refine Yc ?_
 refine ya (ztt (ya ?_));unfold dictFind
 try with_reducible refine Yc ?_
 refine ya (wpAny_dictEntries (s:={s with toks:=s.toks+1 }) ho hdat ?_);dsimp only;rw[hpl];rw[if_pos (by rfl)];unfold dictWalkPlain;refine ya ?_;rw[List.forIn_nil];refine yi ?_;refine yi (yi ?_);show yq _ _ (Builtin.Dict.pendingKey? p .none >>= _) _ _ _;exact ya (wpAny_pendingKey_other hd (yi ⟨_,rfl,xb (yi h)⟩))
@[simp] def zJq:φ2:=λx y μ=>match x with
 |.int i=>(zJc μ y).bind λkvs=>some (.bl (zqe kvs i).isSome,μ)
 |.non=>(zJc μ y).bind λkvs=>bif kvs.all (λp=>decide (0<=p.1/\p.1<1000)) then some (.bl false,μ) else none
 |_=>none
def zrv:OpM X (Yl .In) zJq:=by
 refine OpM.of λU s Y H x y v u Q I rx ry Z dx dy μ d μ' r1 r2 R e k=>?_;unfold zJq at e
 split at e
 ·rename_i i
  exact zox U s Y H x y v u Q I rx ry ⟨Z,.int i,dy,μ,d,μ',r1,r2,R,e,k⟩
 ·obtain⟨kvs,e1,e⟩:=zi e;obtain⟨hsm,e⟩:=z5 e;cases e;obtain⟨p,vs,rfl,hq,q1,q2⟩:=zPh R r2 e1;cases ry;rw[r1.tL]at rx;cases rx;obtain⟨z,hd,us,rel,dd⟩:=zwk I.hok hq;refine zkx hd dd ?_ ⟨.bl false,H,I.tok _,rfl,k Z H _ Ext.refl R .bl⟩;have e1:(us.all λq=>zNo q.1)=(us.map (·.1)).all zNo:=by rw[all_map];rfl
  rw[e1,<-rel.keys,q1,all_map];exact hsm
 ·cases e
variable {prog:yy}{w:yJ}{A:yM}{E:yb->ye->Prop}{s:ye}
def zKs:typeLookup (.type "list_reverseiterator") "__len__"=pure none:=by rw[typeLookup_type,xW];kernel_rfl
def zVv:typeLookup (.type "list_reverseiterator") "__length_hint__"=pure (some (.builtin "list_reverseiterator.__length_hint__")):=by rw[typeLookup_type,xW];kernel_rfl
def zCv{r:yg}{Q:Bool->ye->Prop}(hT:s.TypeIs (.ref r) "list_reverseiterator")(h:Q false s):yq (yA prog w) A (xj (.ref r)) Q E s:=by
 unfold xj;refine ya (xr hT zKs ?_);show yq _ _ (specialOf (YE r) (YK "__length_hint__") >>= _) _ _ _;refine ya (xr hT zVv ?_);generalize hid:("list_reverseiterator.__length_hint__":String)=id0
 wp_delta
 rw[show splitId id0=some ("list_reverseiterator","__length_hint__") from by subst hid;decide +kernel];subst hid;refine ya (wpAny_isInstance (T:="list_reverseiterator") (b:=true) hT (by rw[isSubtype_type];kernel_rfl) ?_);refine YQ (λhab=>absurd hab (by decide)) (λ_=>?_);refine YQ (λ_=>?_) (λhab=>absurd (by decide +kernel) hab);refine YQ (λhab=>absurd hab (by decide +kernel)) (λ_=>?_);exact yi h
def zsw{I l:yg}{items:Array yb}{Q:yb->ye->Prop}(hh:A.handled=none)(hne:l≠I)(hI:s.heap.IsRevIter I l ((items.size:Int)-1))(hl:s.heap.IsList l items)(hn:items.size<=yI)
 (hQ:∀h' tk acc' c',(∀b o,b≠I->s.heap.get? b=some o->h'.get? b=some o)->h'.get? s.heap.objs.size=some {cls:=.type "list",dict:=none,data:=.seq acc' c',slots:=#[]}->ItemsOf (λi v=>items[items.size-1-i]?=some v) acc' items.size->Q (.ref s.heap.objs.size) {s with heap:=h',toks:=tk }) :
 yq (yA prog w) A (call (.type "list") [.ref I]) Q E s:=by
 have hIlt:I<s.heap.objs.size:=by obtain⟨o,ho,_⟩:=hI;exact ym ho
 have hllt:l<s.heap.objs.size:=by obtain⟨o,ho,_⟩:=hl;exact ym ho
 refine callType_codes (Q₁:=λobj s₁=>obj=.ref s.heap.objs.size/\s₁ = {s with heap:=s.heap.push {cls:=.type "list",data:=.seq #[]}}) PySem.F.called_list (PySem.F.typeCall_list_1 _) PySem.F.entry_list_init (code_list_new _ ⟨rfl,rfl⟩) λobj s₁ h₁=>?_;obtain⟨rfl,rfl⟩:=h₁;generalize hS0:s.heap.objs.size=S;have hSI:S≠I:=by rw[<-hS0];exact Yg hIlt
 have hSl:S≠l:=by rw[<-hS0];exact Yg hllt
 have hS:(s.heap.push {cls:=.type "list",data:=.seq #[]}).get? S=some {cls:=.type "list",data:=.seq #[]}:=by rw[<-hS0];exact yp _ rfl
 refine⟨⟨_,hS,rfl⟩,PySem.F.args_list_init_2 _ _,?_⟩;have oldS:∀b o,s.heap.get? b=some o->b≠S:=λb o e=>by rw[<-hS0];exact yw (ym e)
 have W:=(Walks.listRev (prog:=prog) (w:=w) (A:=A.in1.in1) hh I l hne items).toS;show yq _ _ (do let old <-xS (.ref S);Builtin.List.listUpdate (.ref S) (λ_=>#[]);letGo old.toList.reverse;Yp (.ref S) (.ref I) .none) _ _ _;refine ya ?_;unfold xS;refine ya (wpAny_seqItems hS rfl (yi ?_));show yq _ _ (updateSeq S (λ_=>#[]) >>= λ_=>letGo (#[]:Array yb).toList.reverse >>= λ_=>Yp (.ref S) (.ref I) .none) _ _ _;refine ya (wpAny_updateSeq hS rfl ?_);have hS2:=Yh (yU (λ_=>(#[]:Array yb))) hS rfl;generalize hh2:(s.heap.push {cls:=.type "list",data:=.seq #[]}).update S (yU (λ_=>(#[]:Array yb)))=h2 at hS2 ⊢
 have k2:∀b o,s.heap.get? b=some o->h2.get? b=some o:=λb o e=>by
  rw[<-hh2];exact(xh _ _ (Yk (oldS b o e))).trans (yf _ e)
 refine ya (wpAny_letGo ?_);have hI2:h2.IsRevIter I l ((items.size:Int)-1):=hI.at λo e=>k2 _ _ e;have hl2:h2.IsList l items:=hl.at λo e=>k2 _ _ e;unfold Yp;refine ya (xu (T:="list_reverseiterator") (Heap.IsRevIter.typeIs (s:={s with heap:=h2 }) hI2) ?_);have h1:xA (.ref S) (.ref I)=false:=by simp[xA,hSI]
 have h2':(Yo "list_reverseiterator" == Yo "list")=false:=by decide
 have h3':(Yo "list_reverseiterator" == Yo "tuple")=false:=by decide
 simp only[h1,h2',h3',Bool.or_false,xl,if_false];refine ya (wpAny_pyIter_revIter (s:={s with heap:=h2 }) hI2 ?_);refine ya (Yc (zCv (Heap.IsRevIter.typeIs (s:={s with heap:=h2 }) hI2) ?_));refine YQ (λhab=>absurd hab (by decide)) (λ_=>?_)
 have hSf:S∉[I,l]:=by
  simp only[mem_cons,not_mem_nil,or_false,not_or];exact⟨hSI,hSl⟩
 refine yi ⟨xz PySem.F.plain_extend_loop _,codeAny_extend_loopS W hn S hSf _ items.size 0 _ #[] _ rfl (yP _) ⟨yP _,by simpa using hI2,hl2⟩ hS2 (ItemsOf.nil _) λs' acc' c' hm hS' hacc=>?_⟩;rw[Moved.eq_with hm];refine⟨rfl,?_⟩;rw[<-hS0]at hS' ⊢;refine hQ s'.heap s'.toks acc' c' (λb o hb e=>hm.heap b o (λhmem=>?_) (k2 b o e)) hS' hacc;rcases List.mem_cons.mp hmem with e'|hmem
 ·exact oldS b o e e'
 ·exact hb (List.mem_singleton.mp hmem)
variable {pos2 p1 p2:Xd}
def zav(G:FE):FE:=λJ μ=>(G J μ).bind λp=>match p.1 with
 |.loc n=>match p.2[n]? with
  |some (.lst ds)=>some (.loc p.2.length,p.2++[.lst ds.reverse])
  |_=>none
 |_=>none
def z1v{items:List yb}{vs:List V}{its:List yb}(rv:Vals vs items)(hl:its.length=items.length)(h:∀(j:Nat)(v:yb),its[j]?=some v->items[items.length-1-j]?=some v):Vals vs.reverse its:=by
 have e:its=items.reverse:=by
  refine ext_getElem? λj=>?_
  by_cases hj:j<its.length
  ·have h1:its[j]?=some its[j]:=by simp[hj]
   rw[List.getElem?_reverse (by omega),h j _ h1,h1]
  ·rw[yx (by omega),yx (by simp;omega)]
 rw[e];exact rv.reverse
def z5u{K:yB}{Z:List yg}{H:Hp}:∀{ds:List D} {vs:List V},tf K Z H ds vs->tf K Z H ds.reverse vs.reverse
 |[],vs,r=>by rw[r.nil_inv];exact .nil
 |d::ds,vs,r=>by
  obtain⟨v,q,rfl,h1,h2⟩:=r.cons_inv;rw[List.reverse_cons,List.reverse_cons];exact(z5u h2).append (.cons h1 .nil)
def zGA(X:Cx)(tl:TE):TE:=λY H Q=>tl Y H λx H1=>∃a ys,x=.ref a/\SqL X.K H1 a ys/\∀q,H1 q=none->Q (.ref q) (upd H1 q (.lst ys.reverse))
def z2x{l:yG}{tl:TE}(hm1:X.mg "list"=none)(hv1:yL "list"=some (.type "list"))(hm2:X.mg "reversed"=none)(hv2:yL "reversed"=some (.type "reversed"))(hl:PE X l tl)(hc:X.calm=true)(hg1:Gl X "list")(hg2:Gl X "reversed")
 (he:yu [l] X.env=(false,Yx l X.env)::yu [] X.env) (he2:yu [.Call (.Name "reversed" p2) [l] [] pos2] X.env=(false,Yx (.Call (.Name "reversed" p2) [l] [] pos2) X.env)::yu [] X.env) :
 PE X (.Call (.Name "list" p1) [.Call (.Name "reversed" p2) [l] [] pos2] [] pos) (zGA X tl):=by
 intro U s Y H Q I h;refine xP (zzm I hg1 hm1 hv1 ?_ (by decide) (by decide));refine YF ?_ he2 rfl;rw[he2];show yq _ _ (spliced ((false,Yx (.Call (.Name "reversed" p2) [l] [] pos2) X.env)::YY pos (yu [] X.env))) _ _ s;refine Calls.spliced_cons ?_;refine xP (zzm I hg2 hm2 hv2 ?_ (by decide) (by decide))
 refine YF (thn (zbi hl z0l he pos2 U s Y H (λvs H1=>match vs with
  |[x]=>∃a ys,x=.ref a/\SqL X.K H1 a ys/\∀q,H1 q=none->Q (.ref q) (upd H1 q (.lst ys.reverse))
  |_=>False) I h) λus s1 ⟨vs,H1,I1,r1,q1⟩=>?_) he rfl
 dsimp only at q1
 split at q1
 case h_2=>exact q1.elim
 obtain⟨a,ys,e,hq,q⟩:=q1;subst e
 cases r1 with
 |cons r rr=>
  cases rr;cases r;obtain⟨its,rv,pl,hz⟩:=I1.list hq;have hlen:=rv.length;refine call_reversed_list pl.isList ?_;refine Calls.spliced_nil ?_;have I2:Inv X U Y H1 {s1 with heap:=s1.heap.push (revObj a ((its.toArray.size:Int)-1))}:=I1.kept (t':=s1.toks) λb o e=>yf _ e;have halt:a<s1.heap.objs.size:=by obtain⟨_,_,e,_⟩:=pl;exact ym e
  have hf:∀b∈[s1.heap.objs.size],zUq X U H1 b:=λb hb=>by
   have e:b=s1.heap.objs.size:=by simpa using hb
   subst e;exact I1.sQ (yk _) (I1.hok.fresh (yk _))
  refine zsw (s:={s1 with heap:=s1.heap.push (revObj a ((its.toArray.size:Int)-1))}) (I.ok.hd hc) (yw halt) ⟨_,yp _ rfl,rfl,rfl⟩ (pl.isList.push _) (by simp;omega) λh' tk acc' c' kp e hi=>?_;obtain⟨hi1,hi2⟩:=hi;have hv:=z1v (its:=acc'.toList) rv (by simpa using hi1) λj v e=>by simpa using hi2 j v (by simpa using e)
  refine⟨.ref _,_,zKf (t':=tk) I2 hf (λb o hb e=>kp b o (by simpa using hb) e) (yk _) (show tQ X.prog X.w _ h' _ (.lst ys.reverse) from⟨by simp;omega,acc'.toList,c',hv,by simpa using e⟩),rfl,q _ (I2.hok.fresh (yk _))⟩
def z5s(hm1:X.mg "list"=none)(hv1:yL "list"=some (.type "list"))(hm2:X.mg "reversed"=none)(hv2:yL "reversed"=some (.type "reversed"))(h:ME X e G)(hc:X.calm=true:=by rfl)(hg1:Gl X "list":=by rfl)(hg2:Gl X "reversed":=by rfl)
 (he:yu [e] X.env=(false,Yx e X.env)::yu [] X.env:=by rfl) (he2:yu [.Call (.Name "reversed" p2) [e] [] pos2] X.env=(false,Yx (.Call (.Name "reversed" p2) [e] [] pos2) X.env)::yu [] X.env:=by rfl) :
 ME X (.Call (.Name "list" p1) [.Call (.Name "reversed" p2) [e] [] pos2] [] pos) (zav G) :=
 zwg (z2x hm1 hv1 hm2 hv2 h hc hg1 hg2 he he2) λZ J μ Y H d μ' Q A e k=>by
  obtain⟨⟨x,μ1⟩,e1,e⟩:=zi e;refine⟨Z,J,μ,x,μ1,A,e1,λZ1 H1 v x1 R1 r1=>?_⟩;dsimp only at e
  split at e
  ·split at e
   ·rename_i hm
    cases e;obtain⟨p,rfl,ep⟩:=r1.tD;obtain⟨vs,e3,q⟩:=R1.at_ _ _ _ ep hm;exact⟨p,vs,rfl,SqL.of e3,λq' hq'=>k _ _ _ (x1.trans (Ext.push hq')) (R1.push hq' ⟨_,zH,(z5u q).ext (Ext.push hq')⟩) (.loc (zSb R1))⟩
   ·cases e
  ·cases e
variable {te:TE}{stp:yG}{ts:TO}
def zsm(ns:List Int):List Int:=ns.mergeSort λa b=>decide (a<=b)
def zoo:GL:=λds μ=>match ds with
 |[.loc n]=>match μ[n]? with
  |some (.lst xs)=>(zWl xs).bind λns=>bif decide (ns.length<64) then some (.loc μ.length,μ++[.lst ((zsm ns).map .int)]) else none
  |_=>none
 |_=>none
def z6p(hc:X.calm=true):tZ X (.builtin "sorted") zoo:=by
 refine tZ.of λU s Y H xs us Q I r Z ds μ d μ' r1 R e k=>?_;unfold zoo at e
 split at e
 ·split at e
  ·rename_i hm
   obtain⟨ns,e2,e⟩:=zi e;obtain⟨hp,e⟩:=z5 e;have hp:=of_decide_eq_true hp;cases e;rw[zPf e2]at hm;obtain⟨v,rr,rfl,q1,q2⟩:=r1.cons_inv;obtain⟨a,rfl,ea⟩:=q1.tD;obtain⟨vs,e3,q3⟩:=R.at_ _ _ _ ea hm;rw[zzh q3]at e3;rw[q2.nil_inv]at r;obtain⟨u,rfl,ru⟩:=vals1 r;cases ru;obtain⟨its,rv,pl,hz⟩:=I.list (SqL.of (K:=X.K) e3);have hl:its.length=ns.length:=by rw[<-rv.length];simp
   refine sorted_ints pl.isList (z0f rv) (by omega) λout ns' a1 a2 a3=>?_;have hms:ns'=zsm ns:=zKd (a2.trans (mergeSort_perm _ _).symm) a3 (zZj _);subst hms;obtain⟨e0,he⟩:=sortedAll_at s.heap its out;have hf:=I.hok.fresh (xN s.heap.objs.size);have hlen:(zsm ns).length=ns.length:=a2.length_eq;refine⟨.ref (s.heap.objs.size+1),_,I.laid (t':=s.toks) (o:=.lst ((zsm ns).map V.int)) (λ_ _=>sortedAll_old) (xN _) ?_,rfl,k _ _ _ (Ext.push hf) (R.push hf ⟨_,zH,zug⟩) (.loc (zSb R))⟩;exact⟨by simp;rw[yZ];omega,out.toList,e0,zzf a1,by simpa using he⟩
  ·cases e
 ·cases e
def zJr{α:Type}(xs:List α)(k:Nat)(x:α):List α:=xs.take k++x::xs.drop k
def zZq{α:Type}(xs:List α)(k:Nat)(x:α):(zJr xs k x).length=xs.length+1:=by
 unfold zJr;rw[length_append,length_cons,length_take,length_drop];omega
def zlx:V->List V->Hp->VK->Prop:=λx vs H Q=>∃l xs i y,x=.ref l/\vs=[.int i,y]/\H l=some (.lst xs)/\0<=i/\i<=xs.length/\xs.length+1<=yI/\Q .non (upd H l (.lst (zJr xs i.toNat y)))
def zzu:MtM X "list.insert" zlx:=by
 intro U s Y H x vs v us Q I rx rv h;obtain⟨l,xs,i,y,rfl,rfl,hH,h0,h1,hz,q⟩:=h;cases rx
 cases rv with
 |cons ri rv=>
 obtain⟨t,rfl⟩:=ri;obtain⟨u,rfl,ru⟩:=Vals.one rv;obtain⟨z,its,n,r,hl,e⟩:=I.TX hH;have hm:(2:Int)^63=9223372036854775808:=by decide
 have hfit:¬(!Builtin.List.listFitsIndex i)=true:=by
  unfold Builtin.List.listFitsIndex;rw[yZ]at hz;have h2:-(2^63:Int)<=i:=by omega
  have h3:i<2^63:=by omega
  rw[decide_eq_true h2,decide_eq_true h3];decide
 refine xy F.slot_list_insert ⟨_,e,rfl⟩ F.entry_list_insert (F.args_list_insert_3 _ _ _) (AutoSeq1.list_insert_list_int_val_1 l its.toArray n i t u hfit (by rw[size_toArray];omega)) ⟨e,?_⟩;refine⟨.non,_,I.sZ (its':=zJr its i.toNat u) hH e ?_ ?_ (by rw[zZq];omega),rfl,q⟩
 ·show(its.toArray.extract 0 (if i<0 then(i+(its.toArray.size:Int)).toNat else min i.toNat its.toArray.size)).push u++its.toArray.extract (if i<0 then(i+(its.toArray.size:Int)).toNat else min i.toNat its.toArray.size)=_;rw[if_neg (by omega),size_toArray,Nat.min_eq_left (by omega)];apply Array.toList_inj.mp;unfold zJr;simp;exact xi (by simp)
 ·exact(r.take _).append (.cons ru (r.drop _))
def zFl:GM:=λx ds μ=>match x,ds with
 |.loc n,[.int i,d]=>match μ[n]? with
  |some (.lst xs)=>bif decide (0<=i/\i<=xs.length/\xs.length<=1000000) then some (.non,μ.set n (.lst (zJr xs i.toNat d))) else none
  |_=>none
 |_,_=>none
def zgs:MtG X "list.insert" zFl:=by
 refine MtG.of λU s Y H x xs v us Q I rx rs Z dx ds μ d μ' r1 r2 R e k=>?_;unfold zFl at e
 split at e
 ·split at e
  ·rename_i hm
   obtain⟨h1,e⟩:=z5 e;have h1:=of_decide_eq_true h1;cases e;obtain⟨a,rfl,ea⟩:=r1.tD;obtain⟨vs,e3,q3⟩:=R.at_ _ _ _ ea hm;obtain⟨wi,r,rfl,q0,q2⟩:=r2.cons_inv;obtain⟨w,r',rfl,q1,q2⟩:=q2.cons_inv;have ei:=q0.int_inv;subst ei;rw[q2.nil_inv]at rs;have hl:=q3.length;have hmi:=Th;have hmu:Mut (H a):=by rw[e3];trivial
   refine zzu U s Y H _ _ v us Q I rx rs ⟨a,vs,_,w,rfl,rfl,e3,h1.1,by omega,by omega,?_⟩;exact k Z _ _ (Ext.wr hmu) (R.wr hmu ea ⟨_,zH,tf.ext (Ext.wr hmu) ((q3.take _).append (.cons q1 (q3.drop _)))⟩) .non
  ·cases e
 ·cases e
def zRu{o:yG}{ψ:FA}{apos:Xd}(ho:ME X o G)(ha:MAn X (e::es) ψ)
 (hbase:YG o "insert" X.env (Yx o X.env)=Yx o X.env:=by rfl)
 (hfew:((YY pos (yu (e::es) X.env)).all (λx=>!x.1)&&(backToKw pos (Xf [] X.env)).all (λx=>x.1.isSome)
  && decide ((e::es).length+([]:List xF).length+(if([]:List xF).isEmpty then 0 else 1)<30))=true:=by rfl)
 (hline:(apos.endLine==pos.line)=true:=by rfl) (hs:yu (e::es) X.env=(false,Yx e X.env)::yu es X.env:=by rfl) (hplain:(YY pos (yu es X.env)).any (·.1)=false:=by rfl) :
 ME X (.Call (.Attribute o "insert" apos) (e::es) [] pos) (zke zFl G ψ):=z9j PySem.F.slot_list_insert PySem.F.type_list_insert zgs ho ha hbase hfew hline hs hplain
@[simp] def zXz(G ψ:FE):FE:=λJ μ=>(G J (μ++[.dct []])).bind λp=>(ψ J p.2).bind λq=>match p.1,q.2[μ.length]? with
 |.int i,some (.dct [])=>some (.loc μ.length,q.2.set μ.length (.dct [(i,q.1)]))
 |_,_=>none
def zLz(ha:ME X a G)(hb:ME X b ψ):ME X (.Dict [some a] [b] pos) (zXz G ψ):=by
 intro U s Y H Q I hh;obtain⟨Z,J,μ,d,μ',A,e,k⟩:=hh;obtain⟨⟨x,μ1⟩,e1,e⟩:=zi e;obtain⟨⟨y,μ2⟩,e2,e⟩:=zi e;dsimp only at e e1 e2
 split at e
 case h_2=>cases e
 rename_i i hm _
 cases e;have hf:=I.hok.fresh (yk s.heap.objs.size);have I1:=I.laid (a:=s.heap.objs.size) (o:=.dK []) (h':=s.heap.push {cls:=.type "dict",data:=.dict #[]}) (t':=s.toks) (λ_ _ q=>yf _ q) (yk _) ⟨yP _,beq_eq_false_iff_ne.mpr (Yk (yw (big I))),[],.nil,Heap.DictOf.new _⟩;have R1:=A.hp.push hf (lo:=.dct []) (o:=.dK []) ⟨[],zH,rfl,.nil⟩;have A1:=A.ext (Ext.push hf) R1;have hr1:=zSb (p:=s.heap.objs.size) A.hp;refine wpAny_Dict_pairs (knd:=z7b X.prog X.w) (pairs:=[(Yx a X.env,do let x <-Yx b X.env;standAt pos;pure x)]) rfl (by simp) (by simp) ?_;refine evalPairs_cons (thn (ha U _ Y _ (λv H2=>∃Z2,Ext _ _ Z2 H2/\tI X.K Z2 H2 μ1/\tz X.K Z2 H2 (.int i) v) I1 ⟨_,J,_,_,μ1,A1,e1,λZ2 H2 v x2 R2 r2=>⟨Z2,x2,R2,r2⟩⟩) λkv s2 ⟨v,H2,I2,rk,Z2,x2,R2,r2⟩=>?_);refine ya (thn (hb U _ Y _ (λv H3=>∃Z3,Ext Z2 H2 Z3 H3/\tI X.K Z3 H3 μ2/\tz X.K Z3 H3 y v) I2 ⟨Z2,J,μ1,_,μ2,A1.ext x2 R2,e2,λZ3 H3 v x3 R3 r3=>⟨Z3,x3,R3,r3⟩⟩) λvv s3 ⟨u,H3,I3,ru,Z3,x3,R3,r3⟩=>ya (wpAny_standAt (yi (evalPairs_nil ?_))));have hr:=(x2.trans x3).get hr1;obtain⟨vs,ev,q1,q2⟩:=R3.at_ _ _ _ hr hm;have ev0:vs=[]:=by simpa using q1
 subst ev0;obtain⟨z,hd,us,rel,dd⟩:=z7x I3.hok ev
 have eu:us=[]:=by
  have:=rel.length;simpa using this.symm
 subst eu;rw[r2.int_inv]at rk;refine⟨[(yN i,vv)],⟨z8s (k:=.inl i) rk,rfl,True.intro⟩,dd,λh' dd' hs=>⟨.ref s.heap.objs.size,_,I3.write (x:=s.heap.objs.size) (e:=s.heap.objs.size) (o:=.dK [(yN i,u)]) (by rw[ev];exact True.intro) (.inl rfl) (λb q hb z=>(hs.2 b hb).trans z) ?_ ⟨by rw[yZ];simp,hd,_,Paired.cons ⟨rfl,ru⟩ .nil,dd'⟩,rfl,?_⟩⟩
 ·obtain⟨q,_,_,hq,_⟩:=dd';exact⟨q,hq⟩
 ·have hmu:Mut (H3 s.heap.objs.size):=by rw[ev];trivial
  have R4:=R3.wr (o:=.dK [(yN i,u)]) (lo:=.dct [(i,y)]) hmu hr ⟨_,zH,rfl,.cons (r3.ext (Ext.wr hmu)) .nil⟩;exact k Z3 _ _ ((Ext.push hf).trans (x2.trans (x3.trans (Ext.wr hmu)))) R4 (.loc hr)
def z7m:GM:=λx ds μ=>match x,ds with
 |.loc n,[d]=>match μ[n]? with
  |some (.lst xs)=>bif zod d&&xs.all zod then(xs.findIdx? λy=>eqF y d).bind λj=>some (.int (j:Nat),μ) else none
  |_=>none
 |_,_=>none
def zzt:MtG X "list.index" z7m:=by
 refine MtG.of λU s Y H x xs v us Q I rx rs Z dx ds μ d μ' r1 r2 R e k=>?_;unfold z7m at e
 split at e
 ·split at e
  ·rename_i d0 _ ys hm
   obtain⟨h1,e⟩:=z5 e;rw[yz]at h1;obtain⟨j,e2,e⟩:=zi e;cases e;obtain⟨a,rfl,ea⟩:=r1.tD;obtain⟨vs,e3,q3⟩:=R.at_ _ _ _ ea hm;obtain⟨w,r,rfl,q1,q2⟩:=r2.cons_inv;rw[q2.nil_inv]at rs;obtain⟨u,rfl,ru⟩:=vals1 rs;cases rx;obtain⟨z,its,n,rv,hl,el⟩:=I.TX e3;obtain⟨fv,_⟩:=zHo q1 h1.1 q3 h1.2;obtain⟨hj,hyes,hno⟩:=List.findIdx?_eq_some_iff_getElem.mp e2;have l1:=q3.length;have l2:=rv.length;have hju:j<its.length:=by omega
   have same:∀(m:Nat)(h1:m<its.length)(h2:m<ys.length),eqU w its[m]=eqF ys[m] d0:=λm h1' h2'=>by
    obtain⟨vm,em,rm⟩:=q3.get (show ys[m]?=some ys[m] from yc h2');obtain⟨um,em2,rm2⟩:=rv.get em;have e6:its[m]=um:=by rw[yc h1']at em2;exact yS em2
    have hfv:zDk vm=true:=zxh rm (List.all_eq_true.mp h1.2 _ (getElem_mem h2'));rw[e6,zkr rm2 hfv,zaq rm q1 (List.all_eq_true.mp h1.2 _ (getElem_mem h2')) h1.1]
   have hz:=yZ;refine xy PySem.F.slot_list_index ⟨_,el,rfl⟩ PySem.F.entry_list_index (PySem.F.args_list_index_2 _ _) (SeqAt.list_indexAt a its.toArray n _ _ u (eqU w) j (by simpa using hju) (by omega) (by simpa[same j hju hj] using hyes) (λm hm' hmj=>?_)) ⟨el,λy hy=>ztg ru (zxh q1 h1.1) rv fv y (by simpa using hy),?_⟩
   ·have hm2:m<its.length:=by simpa using hm'
    have:=hno m hmj;have e7:=same m hm2 (by omega);simp only[Bool.not_eq_true]at this;simpa[e7] using this
   ·exact⟨.int _,H,I.tok _,⟨_,rfl⟩,k Z H _ Ext.refl R .int⟩
  ·cases e
 ·cases e
def zdv{o:yG}{ψ:FA}{apos:Xd}(ho:ME X o G)(ha:MAn X (e::es) ψ)
 (hbase:YG o "index" X.env (Yx o X.env)=Yx o X.env:=by rfl)
 (hfew:((YY pos (yu (e::es) X.env)).all (λx=>!x.1)&&(backToKw pos (Xf [] X.env)).all (λx=>x.1.isSome)
  && decide ((e::es).length+([]:List xF).length+(if([]:List xF).isEmpty then 0 else 1)<30))=true:=by rfl)
 (hline:(apos.endLine==pos.line)=true:=by rfl) (hs:yu (e::es) X.env=(false,Yx e X.env)::yu es X.env:=by rfl) (hplain:(YY pos (yu es X.env)).any (·.1)=false:=by rfl) :
 ME X (.Call (.Attribute o "index" apos) (e::es) [] pos) (zke z7m G ψ):=z9j PySem.F.slot_list_index PySem.F.type_list_index zzt ho ha hbase hfew hline hs hplain
end
end M
namespace M
open PySem PyProof.Rows
section
variable {prog:yy}{w:yJ}{A:yM}{E:yb->ye->Prop}{s:ye}
end
end M
namespace M
open PySem PySem.Spec PyProof.Rows L2
section
variable {X:Cx}{U:List (yg×xa)}{Y:L2.St}{H:Hp}{s s':ye}
variable {a b c e:yG}{es:List yG}{G ψ χ:FE}{pos pos2 p1 p2:Xd}
variable {prog:yy}{w:yJ}{A:yM}{E:yb->ye->Prop}{T:String}{r d:yg}{n:Nat}{P:Nat->yb->Prop}{OK:Ye->Prop}
def z9A(s:ye)(P:Nat->yb->Prop)(n:Nat):Result->ye->Prop:=λrr s'=>∃h' tk acc' c',rr=.ok (.ret (.ref s.heap.objs.size))/\s' = {s with heap:=h',toks:=tk }/\(∀b o,s.heap.get? b=some o->h'.get? b=some o)/\h'.get? s.heap.objs.size=some {cls:=.type "list",dict:=none,data:=.seq acc' c',slots:=#[]}/\ItemsOf P acc' n
def z1p{Q:List yb->ye->Prop}(K:W.KdlSrc prog w T r d n P OK)(hh:A.handled=none)(hok:OK s.heap)(hn:n<=yI)
 (h:∀h' tk acc',(∀b o,s.heap.get? b=some o->h'.get? b=some o)->s.heap.objs.size<=h'.objs.size->ItemsOf P acc' n->Q acc'.toList {s with heap:=h',toks:=tk }) :
 yq (yA prog w) A (collect (.ref r)) Q E s:=by
 have hlt:=K.there _ hok;unfold collect;refine ya (wpAny_runValue (YR F.entry_proto_collect ?_));rw[Yy F.plain_proto_collect _];show yq _ A.in1 (newList [] >>= λl=>again (.builtin "list.__iadd__" ⟨[l,.ref r],[]⟩)) _ _ s;refine ya (yT ?_);have hS:(s.heap.push {cls:=.type "list",data:=.seq ([]:List yb).toArray }).get? s.heap.objs.size=some {cls:=.type "list",data:=.seq #[]}:=yp _ rfl;refine yi ⟨xz F.plain_list_iadd _,xt (YR (R:=z9A s P n) F.entry_list_iadd ?_) λrr s' ⟨h',tk,acc',c',e1,e2,hk,hS',hacc⟩=>?_⟩
 ·rw[Yy F.plain_list_iadd _];show yq _ A.in1 (Yp (.ref s.heap.objs.size) (.ref r) (.ref s.heap.objs.size)) _ _ _;exact W.kdl_extend (R:=z9A s P n) (A:=A) (s:={s with heap:=s.heap.push {cls:=.type "list",data:=.seq ([]:List yb).toArray }}) K hh (K.keep _ _ hok λb _ o e=>yf _ e) _ (Yg hlt.1) (Yg hlt.2) _ _ hS (λh' tk acc' c' hk hS' hacc=>⟨h',tk,acc',c',rfl,rfl,λb o e=>hk b o (yw (ym e)) (yf _ e),hS',hacc⟩) hn
 ·subst e1 e2;dsimp only;refine ya (wpAny_load hS' ?_);exact yi (h h' tk acc' hk (Yq (ym hS')) hacc)
def zcs{ks:List Int}{Q:yb->ye->Prop}(K:W.KdlSrc prog w T r d n P OK)(hh:A.handled=none)(hok:OK s.heap)(h64:n<64)(hint:∀acc:Array yb,ItemsOf P acc n->Xl acc.toList ks)(h:∀p s',zGw s ks p s'->Q (.ref p) s') :
 yq (yA prog w) A (call (.builtin "sorted") [.ref r]) Q E s:=by
 refine Calls.call_function_entry kind_sorted plain_sorted entry_sorted (args_sorted1 _) ?_;unfold YW.«sorted»;refine ya (m:=checkCount "sorted" 1 1 _) (yi ?_);refine ya (z1p (A:=A.in1) K hh hok (yD (Yq h64) (by rw[yZ];decide)) λh1 tk acc hk hsz hacc=>?_);have hI:=hint acc hacc
 have hl:acc.toList.length<64:=by
  have:=hacc.1;simp only[xE];omega
 refine ya (wpAny_newList ?_ (by rw[yZ];omega));have hnew:(h1.push (Yt "list" acc.toList.toArray 0)).get? h1.objs.size=some (Yt "list" acc.toList.toArray 0):=yp _ rfl;refine ya (Yc (yO slot_list_sort ⟨_,hnew,rfl⟩ entry_list_sort (list_sort_tree hnew hI (by simp at hl ⊢;omega) λout ns q1 q2 q3=>⟨_,rfl,?_⟩) (args_list_sort _)));obtain⟨e,he⟩:=sortedHeap_at (out:=out) hnew;refine yi ⟨_,rfl,h _ _ ⟨out,ns,e,he,q1,q2,q3,hsz,λb ob eb=>?_,rfl,rfl⟩⟩;have hb1:=hk _ _ eb;have hlt1:b<h1.objs.size:=ym hb1;show(sortedHeap (h1.push (Yt "list" acc.toList.toArray 0)) h1.objs.size acc.toList out).get? b=some ob;rw[sortedHeap_old (yw hlt1) (by rw[size_push'];exact yY hlt1)];exact yf _ hb1
def zJo:GL:=λds μ=>match ds with
 |[x]=>(zJc μ x).bind λkvs=>bif decide (kvs.length<64) then some (.loc μ.length,μ++[.lst ((zsm (kvs.map (·.1))).map .int)]) else none
 |_=>none
def z3p(hc:X.calm=true):tZ X (.builtin "sorted") zJo:=by
 refine tZ.of λU s Y H xs us Q I r Z ds μ d μ' r1 R e k=>?_;unfold zJo at e
 split at e
 ·obtain⟨kvs,e1,e⟩:=zi e;obtain⟨h64,e⟩:=z5 e;have h64:=of_decide_eq_true h64;cases e;obtain⟨v,rr,rfl,q1,q2⟩:=r1.cons_inv;rw[q2.nil_inv]at r;obtain⟨p,vs,rfl,hq,w1,w2⟩:=zPh R q1 e1;obtain⟨u,rfl,ru⟩:=vals1 r;cases ru;obtain⟨hz,hd,_⟩:=zwk I.hok hq;obtain⟨us',ep,rel,da⟩:=z2t I.hok hq;have hl:=rel.length
  have hkv:(vs.map λp=>kV p.1)=((kvs.map (·.1)).map V.int):=by
   have:(vs.map (·.1)).map kV=(kvs.map λp=>(yN p.1:Key)).map kV:=by rw[w1]
   rw[map_map,map_map]at this;rw[map_map];exact this
  have hlk:kvs.length=vs.length:=by
   have:=congrArg xM w1;simpa using this.symm
  refine zcs (ks:=kvs.map (·.1)) (W.kdl_dict hd) (I.ok.hd hc) da (by omega) (λacc hi=>?_) λq s' ⟨out,ns,e',h1,h2,h3,h4,h5,h6,h7,h8⟩=>?_
  ·obtain⟨hi1,hi2⟩:=hi;have hv:=z9k (P:=X.prog) (w:=X.w) (its:=acc.toList) rel (by simpa using hi1) λj v e=>hi2 j v (by simpa using e);rw[hkv]at hv;exact z0f hv
  ·have hms:ns=zsm (kvs.map (·.1)):=zKd (h3.trans (mergeSort_perm _ _).symm) h4 (zZj _);subst hms;have hlen:(zsm (kvs.map (·.1))).length=(kvs.map (·.1)).length:=h3.length_eq;rw[length_map]at hlen;have hf:=I.hok.fresh h5;refine⟨.ref q,_,zOr I h7 h8 h6 h5 (show tQ X.prog X.w _ s'.heap _ (.lst ((zsm (kvs.map (·.1))).map V.int)) from⟨by simp;rw[yZ];omega,out.toList,e',zzf h2,by simpa using h1⟩),rfl,k _ _ _ (Ext.push hf) (R.push hf ⟨_,zH,zug⟩) (.loc (zSb R))⟩
 ·cases e
end
end M
namespace M
open PySem PySem.W PyProof.Rows
def Good{α:Type}(ans:Nat->Nat->Bool)(n:Nat)(Q:α->Prop):KasT α->Prop
 |.ret a=>Q a
 |.ask i j k=>(i<n/\j<n/\i≠j)/\Good ans n Q (k (ans i j))
def Good.bind{α β:Type}{ans:Nat->Nat->Bool}{n:Nat}{f:α->KasT β}{Q:β->Prop}:∀{t:KasT α},Good ans n (λa=>Good ans n Q (f a)) t->Good ans n Q (t.bind f)
 |.ret _,h=>h
 |.ask i j k,h=>⟨h.1,Good.bind (t:=k (ans i j)) h.2⟩
def Good.mono{α:Type}{ans:Nat->Nat->Bool}{n:Nat}{Q Q':α->Prop}(hq:∀a,Q a->Q' a):∀{t:KasT α},Good ans n Q t->Good ans n Q' t
 |.ret a,h=>hq a h
 |.ask i j k,h=>⟨h.1,Good.mono hq (t:=k (ans i j)) h.2⟩
def Good.wp{α:Type}{ans:Nat->Nat->Bool}{n:Nat}{cmp:Nat->Nat->(Bool->ye->Prop)->ye->Prop}{I:ye->Prop}(hc:∀i j C s,i<n->j<n->i≠j->I s->(∀s',I s'->C (ans i j) s')->cmp i j C s){Q:α->Prop}{Q':α->ye->Prop}(hq:∀a s,Q a->I s->Q' a s) :
 ∀(t:KasT α)(s:ye),Good ans n Q t->I s->t.kasWp cmp Q' s
 |.ret a,s,h,hi=>hq a s h hi
 |.ask i j k,s,h,hi=>hc i j _ s h.1.1 h.1.2.1 h.1.2.2 hi λs' hi'=>Good.wp hc hq (k (ans i j)) s' h.2 hi'
section
variable {n:Nat}{f:Nat->Int}
abbrev zIw(f:Nat->Int):Nat->Nat->Bool:=λi j=>decide (f i<f j)
def gp(f:Nat->Int)(p:Array Nat)(i:Nat):Int:=f (p.getD i 0)
structure Pm(n:Nat)(p:Array Nat):Prop where
 sz:p.size=n
 pm:p.toList.Perm (yd n)
def Pm.lt{p:Array Nat}(h:Pm n p){i:Nat}(hi:i<n):p.getD i 0<n:=by
 have hi':i<p.size:=by rw[h.sz];exact hi
 have e:p.getD i 0=p[i]:=by simp[Xi,hi']
 rw[e];have:p[i]∈p.toList:=by simp
 exact List.mem_range.mp (h.pm.mem_iff.mp this)
def Pm.inj{p:Array Nat}(h:Pm n p){i j:Nat}(hi:i<n)(hj:j<n)(e:p.getD i 0=p.getD j 0):i=j:=by
 have hi':i<p.size:=by rw[h.sz];exact hi
 have hj':j<p.size:=by rw[h.sz];exact hj
 have e1:p.getD i 0=p[i]:=by simp[Xi,hi']
 have e2:p.getD j 0=p[j]:=by simp[Xi,hj']
 rw[e1,e2]at e;have nd:p.toList.Nodup:=h.pm.nodup_iff.mpr nodup_range;have l1:i<p.toList.length:=by simpa using hi'
 have l2:j<p.toList.length:=by simpa using hj'
 exact(List.getElem?_inj l1 nd).mp (by rw[yc l1,yc l2];simpa using e)
def Pm.of{p q:Array Nat}(h:Pm n p)(hs:q.size=p.size)(hp:q.Perm p):Pm n q:=⟨hs.trans h.sz,(Array.perm_iff_toList_perm.mp hp).trans h.pm⟩
def Up(f:Nat->Int)(p:Array Nat)(m:Nat):Prop:=∀i j,i<=j->j<m->gp f p i<=gp f p j
def Up.step{p:Array Nat}{m:Nat}(h:Up f p m)(hm:1<=m)(hl:gp f p (m-1)<=gp f p m):Up f p (m+1):=λi j hij hj=>by
 by_cases hjm:j<m
 ·exact h i j hij hjm
 ·have:j=m:=by omega
  subst this
  by_cases him:i=j
  ·rw[him];exact Int.le_refl _
  ·exact Int.le_trans (h i (j-1) (by omega) (by omega)) hl
def z0n{p:Array Nat}(P:Pm n p):∀(k m:Nat),1<=m->m+k<=n->Up f p m->Good (zIw f) n (λr=>m<=r/\r<=m+k/\Up f p r/\(r<m+k->gp f p r<gp f p (r-1))) (kas_asc p k m)
 |0,m,h1,hm,hu=>⟨yk _,yk _,hu,λh=>absurd h (by omega)⟩
 |k+1,m,h1,hm,hu=>by
  refine⟨⟨P.lt (by omega),P.lt (by omega),λe=>absurd (P.inj (by omega) (by omega) e) (by omega)⟩,?_⟩;show Good _ _ _ (if decide (f (p.getD m 0)<f (p.getD (m-1) 0))=true then _ else _)
  by_cases hc:f (p.getD m 0)<f (p.getD (m-1) 0)
  ·rw[decide_eq_true hc,if_pos rfl];exact⟨yk _,by omega,hu,λ_=>hc⟩
  ·rw[decide_eq_false hc,if_neg (by simp)];refine Good.mono (λr h=>⟨by omega,by omega,h.2.2.1,λhr=>h.2.2.2 (by omega)⟩) (z0n P k (m+1) (by omega) (by omega) (hu.step h1 (by unfold gp;omega)))
def Dn(f:Nat->Int)(p:Array Nat)(m:Nat):Prop:=∀i,i+1<m->gp f p (i+1)<gp f p i
def zWo{p:Array Nat}(hf:∀i j,i<n->j<n->f i=f j->i=j)(P:Pm n p):∀(k m:Nat),1<=m->m+k<=n->Dn f p m->Good (zIw f) n (λr=>r.1=p/\r.2.2=0/\m<=r.2.1/\r.2.1<=m+k/\Dn f p r.2.1) (kas_desc k p m 0)
 |0,m,h1,hm,hd=>⟨rfl,rfl,yk _,yk _,hd⟩
 |k+1,m,h1,hm,hd=>by
  refine⟨⟨P.lt (by omega),P.lt (by omega),λe=>absurd (P.inj (by omega) (by omega) e) (by omega)⟩,?_⟩;show Good _ _ _ (if decide (f (p.getD m 0)<f (p.getD (m-1) 0))=true then _ else _)
  by_cases hc:f (p.getD m 0)<f (p.getD (m-1) 0)
  ·rw[decide_eq_true hc,if_pos rfl,if_neg (by omega)];refine Good.mono (λr h=>⟨h.1,h.2.1,by omega,by omega,h.2.2.2.2⟩) (zWo hf P k (m+1) (by omega) (by omega) λi hi=>?_)
   by_cases him:i+1<m
   ·exact hd i him
   ·have:i+1=m:=by omega
    unfold gp;rw[this,show i=m-1 by omega];exact hc
  ·rw[decide_eq_false hc,if_neg (by simp)];refine⟨⟨P.lt (by omega),P.lt (by omega),λe=>absurd (P.inj (by omega) (by omega) e) (by omega)⟩,?_⟩
   have hne:f (p.getD (m-1) 0)<f (p.getD m 0):=by
    rcases Int.lt_or_eq_of_le (Int.not_lt.mp hc) with h|h
    ·exact h
    ·have:=P.inj (i:=m-1) (j:=m) (by omega) (by omega) (hf _ _ (P.lt (by omega)) (P.lt (by omega)) h);omega
   show Good _ _ _ (if decide (f (p.getD (m-1) 0)<f (p.getD m 0))=true then _ else _);rw[decide_eq_true hne,if_pos rfl];exact⟨rfl,rfl,yk _,by show m<=m+(k+1);omega,hd⟩
def zIv{p q:Array Nat}{i j:Nat}(h:p[i]?=q[j]?):gp f p i=gp f q j:=by
 have e:p.getD i 0=q.getD j 0:=by
  have a:∀(x:Array Nat)(k:Nat),x.getD k 0=(x[k]?).getD 0:=λx k=>by simp
  rw[a,a,h]
 unfold gp;rw[e]
def Dn.lt{p:Array Nat}{m:Nat}(h:Dn f p m):∀i j,i<j->j<m->gp f p j<gp f p i:=λi j hij hj=>by
 induction j with
 |zero=>omega
 |succ j ih=>
  have h1:=h j hj
  by_cases e:i=j
  ·rw[e];exact h1
  ·have:=ih (by omega) (by omega);omega
def z5y{p:Array Nat}{m:Nat}(P:Pm n p)(hm:m<=n)(h:Dn f p m):Pm n (kas_rev p 0 m)/\Up f (kas_rev p 0 m) m:=by
 have hj:m<=p.size:=by rw[P.sz];exact hm
 refine⟨P.of (mirror_size _ _ _ _) (mirror_perm _ _ _ _),λi j hij hjm=>?_⟩
 have g:∀i,i<m->gp f (kas_rev p 0 m) i=gp f p (m-1-i):=λi hi=>by
  refine zIv ?_;unfold kas_rev;rw[getElem?_mirror_all hj,if_pos ⟨yP _,hi⟩,Nat.zero_add]
 rw[g i (by omega),g j hjm]
 by_cases e:i=j
 ·rw[e];exact Int.le_refl _
 ·exact Int.le_of_lt (h.lt _ _ (by omega) (by omega))
abbrev Ru(f:Nat->Int)(n:Nat)(r:Nat×Array Nat):Prop:=1<=r.1/\r.1<=n/\Pm n r.2/\Up f r.2 r.1
def zBs{p:Array Nat}{m:Nat}(P:Pm n p)(h1:1<=m)(hm:m<=n)(h:Dn f p m):Good (zIw f) n (Ru f n) (kas_tail3 m n p):=by
 obtain⟨P',hu⟩:=z5y P hm h;refine Good.bind (Good.mono (λr hr=>?_) (z0n P' (n-m) m h1 (by omega) hu));exact⟨by omega,by omega,P',hr.2.2.1⟩
def zIn{p:Array Nat}(hf:∀i j,i<n->j<n->f i=f j->i=j)(P:Pm n p)(h2:2<=n)(h:gp f p 1<gp f p 0):Good (zIw f) n (Ru f n) (kas_descPart 1 n p):=by
 refine Good.bind (Good.mono (λr hr=>?_) (zWo hf P (n-(1+1)) (1+1) (by omega) (by omega) λi hi=>?_))
 ·obtain⟨e1,e2,h3,h4,h5⟩:=hr;rw[if_neg (by omega),e1];exact zBs P (by omega) (by omega) h5
 ·have:i=0:=by omega
  subst this;exact h
def zjs{p:Array Nat}(hf:∀i j,i<n->j<n->f i=f j->i=j)(P:Pm n p)(h2:2<=n):Good (zIw f) n (Ru f n) (kas_count n p):=by
 refine Good.bind (Good.mono (λr hr=>?_) (z0n P (n-1) 1 (by omega) (by omega) λi j hij hj=>?_))
 ·obtain⟨h1,h3,hu,hs⟩:=hr
  by_cases e:r=n
  ·rw[if_pos (by simpa using e)];exact⟨h1,by omega,P,hu⟩
  ·rw[if_neg (by simpa using e)]
   by_cases h1r:r>1
   ·rw[if_pos h1r];refine⟨⟨P.lt (by omega),P.lt (by omega),λe=>absurd (P.inj (by omega) (by omega) e) (by omega)⟩,?_⟩
    have hlt:f (p.getD 0 0)<f (p.getD (r-1) 0):=by
     rcases Int.lt_or_eq_of_le (hu 0 (r-1) (yP _) (by omega)) with h|h
     ·exact h
     ·have:=P.inj (i:=0) (j:=r-1) (by omega) (by omega) (hf _ _ (P.lt (by omega)) (P.lt (by omega)) h);omega
    show Good _ _ _ (if decide (f (p.getD 0 0)<f (p.getD (r-1) 0))=true then _ else _);rw[decide_eq_true hlt,if_pos rfl];exact⟨h1,by omega,P,hu⟩
   ·rw[if_neg h1r];have:r=1:=by omega
    subst this;exact zIn hf P h2 (hs (by omega))
 ·have:i=j:=by omega
  rw[this];exact Int.le_refl _
def zLj{p:Array Nat}{k:Nat}(P:Pm n p)(hk:k<n)(hu:Up f p k):∀(c l r:Nat),l<=r->r<=k->r-l<=c->(∀i,i<l->gp f p i<=gp f p k)->(∀i,r<=i->i<k->gp f p k<gp f p i) ->
 Good (zIw f) n (λl=>l<=k/\(∀i,i<l->gp f p i<=gp f p k)/\∀i,l<=i->i<k->gp f p k<gp f p i) (kas_place p k c l r)
 |0,l,r,hlr,hrk,hc,h1,h2=>by
  have:l=r:=by omega
  subst this;exact⟨hrk,h1,h2⟩
 |c+1,l,r,hlr,hrk,hc,h1,h2=>by
  unfold kas_place
  by_cases hge:l≥r
  ·have:l=r:=by omega
   subst this;rw[if_pos hge];exact⟨hrk,h1,h2⟩
  ·rw[if_neg hge];refine⟨⟨P.lt hk,P.lt (by omega),λe=>absurd (P.inj hk (by omega) e) (by omega)⟩,?_⟩;show Good _ _ _ (if decide (f (p.getD k 0)<f (p.getD ((l+r) / 2) 0))=true then _ else _)
   by_cases hcm:f (p.getD k 0)<f (p.getD ((l+r) / 2) 0)
   ·rw[decide_eq_true hcm,if_pos rfl];refine zLj P hk hu c l ((l+r) / 2) (by omega) (by omega) (by omega) h1 λi hi hik=>?_;have:=hu ((l+r) / 2) i hi hik;unfold gp at this ⊢;omega
   ·rw[decide_eq_false hcm,if_neg (by simp)];refine zLj P hk hu c ((l+r) / 2+1) r (by omega) hrk (by omega) (λi hi=>?_) h2;have:=hu i ((l+r) / 2) (by omega) (by omega);unfold gp at this ⊢;omega
def zbr:∀(c:Nat) {p:Array Nat} {k:Nat},Pm n p->1<=k->k+c=n->Up f p k->Good (zIw f) n (λq=>Pm n q/\Up f q n) (kas_bin c p k)
 |0,p,k,P,h1,hk,hu=>by
  have:k=n:=by omega
  subst this;exact⟨P,hu⟩
 |c+1,p,k,P,h1,hk,hu=>by
  have hkn:k<n:=by omega
  refine Good.bind (Good.mono (λl hl=>?_) (zLj P hkn hu k 0 k (yP _) (yk _) (by omega) (λi hi=>absurd hi (by omega)) λi h1 h2=>absurd h1 (by omega)));obtain⟨hlk,ha,hb⟩:=hl;have hks:k<p.size:=by rw[P.sz];exact hkn
  refine zbr c (P.of (bubble_size _ _ _) (bubble_perm _ _ _)) (by omega) (by omega) λi j hij hj=>?_
  have g:∀i,gp f (bubble p k (k-l)) i=if i=l then gp f p k else if l<i/\i<=k then gp f p (i-1) else gp f p i:=λi=>by
   have e:=getElem?_bubble hks (k-l) (by omega) i;rw[show k-(k-l)=l by omega]at e
   split
   ·rename_i h
    rw[if_pos h]at e;exact zIv e
   ·rename_i h
    rw[if_neg h]at e
    split
    ·rename_i h'
     rw[if_pos h']at e;exact zIv e
    ·rename_i h'
     rw[if_neg h']at e;exact zIv e
  rw[g i,g j]
  by_cases hi:i=l
  ·rw[if_pos hi]
   by_cases hj':j=l
   ·rw[if_pos hj'];exact Int.le_refl _
   ·rw[if_neg hj',if_pos (by omega)];exact Int.le_of_lt (hb (j-1) (by omega) (by omega))
  ·rw[if_neg hi]
   by_cases hi2:l<i/\i<=k
   ·rw[if_pos hi2,if_neg (by omega),if_pos (by omega)];exact hu (i-1) (j-1) (by omega) (by omega)
   ·rw[if_neg hi2]
    by_cases hj':j=l
    ·rw[if_pos hj'];exact ha i (by omega)
    ·rw[if_neg hj']
     by_cases hj2:l<j/\j<=k
     ·rw[if_pos hj2];exact hu i (j-1) (by omega) (by omega)
     ·rw[if_neg hj2];exact hu i j hij (by omega)
def zct(hf:∀i j,i<n->j<n->f i=f j->i=j)(h2:2<=n):Good (zIw f) n (λq=>Pm n q/\Up f q n) (kas_sort n):=by
 have P0:Pm n (List.toArray (yd n)):=⟨by simp,by simp⟩
 refine Good.bind (Good.mono (λr hr=>?_) (zjs hf P0 h2));obtain⟨h1,h3,P,hu⟩:=hr
 by_cases hlt:r.1<n
 ·rw[if_pos hlt];have e:max r.1 1=r.1:=by omega
  rw[e];exact zbr (n-r.1) P h1 (by omega) hu
 ·rw[if_neg hlt];have:r.1=n:=by omega
  rw[this]at hu;exact⟨P,hu⟩
end
end M
namespace M
open PySem PySem.W PyProof.Rows
open PySem.AutoSeq1 (wpAny_loadPart')
open PySem.MeetsSeq PySem.MeetsSeq3
section
variable {x y:Int}{t u:Tok}{items items2:Array yb}
def zjx(l b:yg)(n n2:Nat)(h1:items[0]?=some (.int x t))(h2:items2[0]?=some (.int y u))(hne:x≠y) :
 Meets (YW.«list.__eq__.loop» ⟨[.ref l,.ref b,YD 0,YD 0],[]⟩)
  (λ_ R s=>s.heap.get? l=some {cls:=.type "list",dict:=none,data:=.seq items n,slots:=#[]}/\s.heap.get? b=some {cls:=.type "list",dict:=none,data:=.seq items2 n2,slots:=#[]} /\
   R (.ok (.ret (.bool (decide (x<y))))) s):=by
 intro prog w A R s h;obtain⟨hp,g,d,tk,os⟩:=s;obtain⟨hl,hb,h⟩:=h
 wp_walk using xf hl,xf hb
 have hi1:items[xT 0]?=some (.int x t):=h1;have hi2:items2[xT 0]?=some (.int y u):=h2;rw[hi1,hi2];obtain⟨e,he,hi⟩:=HT.Se A.in1 ⟨hp,g,d,tk,os⟩ x t y u
 have hef:e=false:=by
  cases e with
  |false=>rfl
  |true=>exact absurd (hi.mp rfl) hne
 subst hef;refine ya (he prog w _ _ ?_)
 wp_walk using xf hl,xf hb
 rw[hi1,hi2];refine ya (HT.Sf A.in1 _ x t y u prog w _ _ ?_)
 wp_walk
 exact h
def zBx(l b:yg)(n n2:Nat)(h1:items[0]?=some (.int x t))(h2:items2[0]?=some (.int y u))(hne:x≠y) :
 Meets (YW.«list.__lt__» ⟨[.ref l,.ref b],[]⟩)
  (λ_ R s=>s.heap.get? l=some {cls:=.type "list",dict:=none,data:=.seq items n,slots:=#[]}/\s.heap.get? b=some {cls:=.type "list",dict:=none,data:=.seq items2 n2,slots:=#[]} /\
   R (.ok (.ret (.bool (decide (x<y))))) s):=by
 intro prog w A R s h;obtain⟨hp,g,d,tk,os⟩:=s;obtain⟨hl,hb,h⟩:=h;have f3:=AutoSeq1.sub_list_list
 wp_walk using xf hl,xf hb
 exact⟨xz plain_eq_loop _,YR entry_eq_loop (by
  rw[Yy plain_eq_loop _];exact zjx l b n n2 h1 h2 hne prog w A R _ ⟨hl,hb,h⟩)⟩
end
end M
namespace M
open PySem PySem.W PyProof.Rows
open PySem.AutoSeq1 (wpAny_loadPart')
def zKn(b:Bool)(x y:yb):keyLt' (tuples' b) x y=(do
 let xs <-xS x
 let ys <-xS y
 for ((p,q),i) in (xs.toList.zip ys.toList).zipIdx do
  if !(<-eqBool p q) then return <-oneLt' (b&&i==0) p q
 return xs.size<ys.size):=rfl
section
variable {prog:yy}{w:yJ}{A:yM}{E:yb->ye->Prop}{s:ye}{x y:Int}{t u:Tok}{items items2:Array yb}{l b:yg}{n n2:Nat}
def zPs{Q:Bool->ye->Prop}(hu:A.units<cLine)(hl:s.heap.get? l=some {cls:=.type "list",dict:=none,data:=.seq items n,slots:=#[]})(hb:s.heap.get? b=some {cls:=.type "list",dict:=none,data:=.seq items2 n2,slots:=#[]})(h1:items[0]?=some (.int x t))(h2:items2[0]?=some (.int y u))(hne:x≠y)(h:Q (decide (x<y)) s) :
 yq (yA prog w) A (oneLt' true (.ref l) (.ref b)) Q E s:=by
 rw[oneLt'_eq];simp only[if_true];refine ya (wpAny_cRoomFor hu ?_);have hT:s.TypeIs (.ref l) "list":=⟨_,hl,rfl⟩
 refine ya (wpAny_callSpecialIfBound?_slot hT PySem.F.slot_list_lt (call_meetsIn PySem.F.slot_list_lt hT PySem.F.entry_list_lt (PySem.F.args_list_lt_2 _ _) ((zBx l b n n2 h1 h2 hne).inModel prog w) ⟨hl,hb,?_⟩));exact xb h
def zLt{Q:Bool->ye->Prop}{tx ty:yg}{ox oy:xa}{v1 v2:yb}{m1 m2:Nat}{ns ms:List Int}(hu:A.units+65<cLine)(hx:s.heap.get? tx=some ox)(hdx:ox.data=.seq #[.ref l,v1] m1)(hy:s.heap.get? ty=some oy)(hdy:oy.data=.seq #[.ref b,v2] m2)
 (hl:s.heap.get? l=some {cls:=.type "list",dict:=none,data:=.seq items n,slots:=#[]}) (hb:s.heap.get? b=some {cls:=.type "list",dict:=none,data:=.seq items2 n2,slots:=#[]}) (hi:Xl items.toList (x::ns)) (hj:Xl items2.toList (y::ms)) (hne:x≠y) (h:Q (decide (x<y)) s) :
 yq (yA prog w) A (keyLt' (tuples' true) (.ref tx) (.ref ty)) Q E s:=by
 rw[zKn];refine ya (Xm hx hdx ?_);refine ya (Xm hy hdy ?_);have hz:((#[YE l,v1]:Array yb).toList.zip (#[YE b,v2]:Array yb).toList).zipIdx=[((YE l,YE b),0),((v1,v2),1)]:=rfl;rw[hz];have hL:s.heap.IsList l items.toList.toArray:=⟨_,hl,rfl,n,by simp⟩
 have hB:s.heap.IsList b items2.toList.toArray:=⟨_,hb,rfl,n2,by simp⟩
 have he:SeqAt.EqAt A.in1 s (.ref l) (.ref b) (decide ((x::ns)=(y::ms))):=W.keq_ints hL hi hB hj (by show A.units+1+64<cLine;omega);rw[decide_eq_false (by simp[hne])]at he;refine ya ?_;rw[List.forIn_cons];refine ya ?_;dsimp only;refine ya (he.of_in1 prog w _ _ ?_);have g1:items[0]?=items.toList[0]?:=by simp
 obtain⟨t,ht⟩:∃t,items[0]?=some (.int x t):=by
  rw[g1]
  cases hi':items.toList with
  |nil=>rw[hi']at hi;cases hi
  |cons v vs=>rw[hi']at hi;cases hi with|cons _ t _=>exact⟨t,rfl⟩
 have g2:items2[0]?=items2.toList[0]?:=by simp
 obtain⟨u,hu2⟩:∃u,items2[0]?=some (.int y u):=by
  rw[g2]
  cases hi':items2.toList with
  |nil=>rw[hi']at hj;cases hj
  |cons v vs=>rw[hi']at hj;cases hj with|cons _ t _=>exact⟨t,rfl⟩
 simp only[Bool.not_false,if_true,Bool.true_and];refine ya ?_;show yq _ _ (oneLt' true (.ref l) (.ref b)) _ _ _;refine zPs (by omega) hl hb ht hu2 hne ?_;refine yi ?_;refine yi ?_;exact yi h
end
end M
namespace M
open PySem PySem.W PyProof.Rows
def zMt(h:Ye)(v:yb)(x:Int):Prop:=∃(t a:yg)(ot:xa)(w:yb)(m:Nat)(items:Array yb)(n:Nat)(ns:List Int),v=.ref t/\h.get? t=some ot/\ot.cls=.type "tuple"/\ot.data=.seq #[.ref a,w] m/\h.get? a=some {cls:=.type "list",dict:=none,data:=.seq items n,slots:=#[]}/\Xl items.toList (x::ns)
section
variable {prog:yy}{w:yJ}{A:yM}{E:yb->ye->Prop}{s:ye}
def zqt{α β:Type}{f:α->Sem β}{R:β->Prop}:∀(l:List α) {Q:List β->ye->Prop},(∀v∈l,∃r,R r/\∀(Q':β->ye->Prop),Q' r s->yq (yA prog w) A (f v) Q' E s)->(∀rs:List β,rs.length=l.length->(∀r∈rs,R r)->Q rs s)->yq (yA prog w) A (l.mapM f) Q E s
 |[],Q,_,h=>by rw[List.mapM_nil];exact yi (h [] rfl (by simp))
 |x::l,Q,hf,h=>by
  rw[mapM_cons];obtain⟨r,hr,hx⟩:=hf x (.head _);refine ya (hx _ (ya (zqt l (λv hv=>hf v (.tail _ hv)) λrs hl hrs=>yi (h (r::rs) (by simp[hl]) λz hz=>?_))));rcases List.mem_cons.mp hz with rfl|hz
  ·exact hr
  ·exact hrs z hz
def zkv{vs:List yb}{Q:SortKind->ye->Prop}(h2:2<=vs.length)(hv:∀v∈vs,∃x,zMt s.heap v x)(h:Q (tuples' true) s):yq (yA prog w) A (keyKind' vs.toArray) Q E s:=by
 rw[keyKind'_eq,List.mapM_toArray,map_eq_pure_bind];refine ya (ya (zqt (R:=λr=>∃(a:yg)(o:xa),r=some (.ref a)/\s.heap.get? a=some o/\o.cls=.type "list") vs (λv hm=>?_) λrs hl hrs=>yi ?_))
 ·obtain⟨x,t,a,ot,w',m,items,n,ns,e,h1,h3,h4,h5,h6⟩:=hv v hm;subst e;refine⟨some (.ref a),⟨a,_,rfl,h5,rfl⟩,λQ' hq=>?_⟩;rw[kas_first_eq];refine ya (xu (T:="tuple") ⟨ot,h1,h3⟩ ?_);have hf:(Yo "tuple" != Yo "tuple")=false:=by rfl
  rw[hf,if_neg (by simp)];exact ya (Xm h1 h4 (yi hq))
 ·have hall:(rs.toArray.all λx=>x.isSome)=true:=by
   simp only[List.all_toArray,all_eq_true];intro r hr;obtain⟨a,o,rfl,_⟩:=hrs r hr;rfl
  rw[if_pos hall];refine ya (wpAny_rule ?_);rw[oneTypeOnly'_eq];have hfm:(rs.toArray.filterMap id)=(rs.filterMap id).toArray:=by simp
  rw[hfm,List.mapM_toArray,map_eq_pure_bind];refine ya (ya (ya (kas_mapM (r:=Yo "list") _ (λv hm Q' hq=>?_) (yi ?_))))
  ·obtain⟨r,hr,e⟩:=List.mem_filterMap.mp hm;obtain⟨a,o,rfl,h5,h6⟩:=hrs r hr;cases e;exact xu (T:="list") ⟨o,h5,h6⟩ hq
  ·have hlen:(rs.filterMap id).length=rs.length:=by
    clear hl hall hfm
    induction rs with
    |nil=>rfl
    |cons r rs ih=>
     obtain⟨a,o,rfl,_⟩:=hrs r (.head _);rw[filterMap_cons];simp[ih λz hz=>hrs z (.tail _ hz)]
   cases hc:rs.filterMap id with
   |nil=>rw[hc]at hlen;simp at hlen;omega
   |cons v vs'=>
    have h0:(List.map (λ_=>Yo "list") (v::vs')).toArray[0]?=some (Yo "list"):=by simp
    rw[h0]
    have ha:((List.map (λ_=>Yo "list") (v::vs')).toArray.all λx=>x==Yo "list")=true:=by
     simp only[List.all_toArray,all_map,all_eq_true];intro _ _;rfl
    simp only[ha,if_true];refine yi (yi ?_);exact h
def zhv{a:yg}{vs:List yb}{f:Nat->Int}{n:Nat}{P:Fin->ye->Prop}(hu:A.units+65<cLine)(ho:s.heap.get? a=some (Yt "list" vs.toArray n))(h2:2<=vs.length)(h64:vs.length<64)
 (hf:∀i j,i<vs.length->j<vs.length->f i=f j->i=j) (hv:∀h':Ye,(∀b o,b≠a->s.heap.get? b=some o->h'.get? b=some o)->∀i,i<vs.length->zMt h' (vs.getD i .none) (f i))
 (h:∀p:Array Nat,Pm vs.length p->Up f p vs.length->P (.done (.ret .none)) {s with heap:=sortedHeap s.heap a vs (List.toArray (p.toList.map λi=>vs.getD i .none))}) :
 yq (yA prog w) A (YW.«list.sort» ⟨[.ref a],[]⟩) P E s:=by
 obtain⟨e1,ho1⟩:∃e1,(s.heap.update a (yU λ_=>(#[]:Array yb))).get? a=some (Yt "list" #[] e1):=⟨_,get?_update_seq ho λ_=>#[]⟩
 have s1:=Ys s.heap a (yU λ_=>(#[]:Array yb));have keep:∀b o,b≠a->s.heap.get? b=some o->(((s.heap.update a (yU λ_=>(#[]:Array yb))).push (Yt "tuple" vs.toArray 0)).push (Yt "list" #[] 0)).get? b=some o:=λb o hb e=>yf _ (yf _ ((s1.2 b hb).trans e));have ho3:(((s.heap.update a (yU λ_=>(#[]:Array yb))).push (Yt "tuple" vs.toArray 0)).push (Yt "list" #[] 0)).get? a=some (Yt "list" #[] e1):=yf _ (yf _ ho1);have T:=hv _ keep;rw[list_sort_plain];refine ya (Xm ho rfl ?_);refine ya (listUpdate_at ho rfl ?_ (by rw[size_toArray,yZ];omega) (yP _));refine ya (seqEpoch_at ho1 rfl ?_);refine ya (wpAny_newTuple ?_ (by show vs.length<=_;rw[yZ];omega));refine ya (wpAny_newList ?_ (yP _));refine Yc ?_;show yq (yA prog w) A _ P E {s with heap:=((s.heap.update a (yU λ_=>(#[]:Array yb))).push (Yt "tuple" vs.toArray 0)).push (Yt "list" #[] 0)};dsimp only;have hn2:¬vs.toArray.size<2:=by rw[size_toArray];omega
 rw[if_neg hn2,if_neg hn2];refine ya (zkv h2 (λv hm=>?_) ?_)
 ·obtain⟨i,hi⟩:=List.mem_iff_getElem?.mp hm;have hlt:=(List.getElem?_eq_some_iff.mp hi).1;have:=T i hlt;rw[getD_eq_getElem?_getD,hi]at this;exact⟨_,this⟩
 have est:SortSt.mk' (tuples' true) (vs.toArray.zip vs.toArray) #[] 7 none=kas_st (tuples' true) (pairsOf vs) (List.toArray (yd vs.length)):=by
  have e:=kas_range (pairsOf vs);rw[pairsOf_size]at e;show SortSt.mk' (tuples' true) (pairsOf vs) #[] 7 none=SortSt.mk' (tuples' true) ((List.toArray (yd vs.length)).map (kas_item (pairsOf vs))) #[] 7 none;rw[e]
 have run:=kas_runs (prog:=prog) (w:=w) (A:=A) (E:=E) (κ:=tuples' true) (it:=pairsOf vs) (s:={s with heap:=((s.heap.update a (yU λ_=>(#[]:Array yb))).push (Yt "tuple" vs.toArray 0)).push (Yt "list" #[] 0)})
  (Q:=λ_ st' s'=>s' = {s with heap:=((s.heap.update a (yU λ_=>(#[]:Array yb))).push (Yt "tuple" vs.toArray 0)).push (Yt "list" #[] 0)}/\∃p:Array Nat,arrOf st'=p.map (kas_item (pairsOf vs))/\failedOf st'=none/\Pm vs.length p/\Up f p vs.length)
  (G:=λp s'=>s' = {s with heap:=((s.heap.update a (yU λ_=>(#[]:Array yb))).push (Yt "tuple" vs.toArray 0)).push (Yt "list" #[] 0)}/\Pm vs.length p/\Up f p vs.length)
  h2 h64 (λp' st' s' a1 a2 a3 a4=>⟨a4.1,p',a2,a3,a4.2⟩)
  (Good.wp (I:=λs'=>s' = {s with heap:=((s.heap.update a (yU λ_=>(#[]:Array yb))).push (Yt "tuple" vs.toArray 0)).push (Yt "list" #[] 0)}) (λi j C s' hi hj hij hs hC=>by
   subst hs;unfold kas_cmp;rw[kas_item_eq,kas_item_eq];obtain⟨t,a1,ot,w1,m1,items,n1,ns,e,b1,b2,b3,b4,b5⟩:=T i hi;obtain⟨t',a1',ot',w1',m1',items',n1',ns',e',b1',b2',b3',b4',b5'⟩:=T j hj;show yq _ _ (keyLt' (tuples' true) (vs.getD i .none) (vs.getD j .none)) _ _ _;rw[e,e'];exact zLt hu b1 b3 b1' b3' b4 b4' b5 b5' (λz=>hij (hf i j hi hj z)) (hC _ rfl)) (λp s' hp hs=>⟨hs,hp⟩) (kas_sort vs.length) _ (zct hf h2) rfl)
 rw[<-est]at run;refine ya (YT run ?_ λ_ _ e=>e);rintro⟨⟨⟩,st'⟩ s' ⟨rfl,p,har,hfl,hp,hup⟩;dsimp only
 have hout:(arrOf st').map (·.2)=List.toArray (p.toList.map λi=>vs.getD i YC):=by
  apply Array.toList_inj.mp;rw[har,Array.map_map,Array.toList_map];exact map_congr_left λi _=>by show(kas_item (pairsOf vs) i).2=_;rw[kas_item_eq]
 have hsz:(List.toArray (p.toList.map λi=>vs.getD i YC)).size=vs.length:=by rw[size_toArray,length_map,xE,hp.sz]
 rw[hout];refine ya (seqEpoch_at ho3 rfl ?_);refine ya (listUpdate_at ho3 rfl ?_ (yP _) (yD (Nat.le_of_eq hsz) (by rw[yZ];omega)));rw[hfl];simp only[bne_self_eq_false,xl,if_false];exact yi (h p hp hup)
end
end M
namespace M
open PySem PySem.W PyProof.Rows
section
variable {prog:yy}{w:yJ}{A:yM}{E:yb->ye->Prop}{s:ye}
def zns{a:yg}{vs:List yb}{n:Nat}{P:Fin->ye->Prop}(ho:s.heap.get? a=some (Yt "list" vs.toArray n))(h2:vs.length<2)
 (h:P (.done (.ret .none)) {s with heap:=sortedHeap s.heap a vs vs.toArray }):yq (yA prog w) A (YW.«list.sort» ⟨[.ref a],[]⟩) P E s:=by
 obtain⟨e1,ho1⟩:∃e1,(s.heap.update a (yU λ_=>(#[]:Array yb))).get? a=some (Yt "list" #[] e1):=⟨_,get?_update_seq ho λ_=>#[]⟩
 have ho3:(((s.heap.update a (yU λ_=>(#[]:Array yb))).push (Yt "tuple" vs.toArray 0)).push (Yt "list" #[] 0)).get? a=some (Yt "list" #[] e1):=yf _ (yf _ ho1);rw[list_sort_plain];refine ya (Xm ho rfl ?_);refine ya (listUpdate_at ho rfl ?_ (by rw[size_toArray,yZ];omega) (yP _));refine ya (seqEpoch_at ho1 rfl ?_);refine ya (wpAny_newTuple ?_ (by show vs.length<=_;rw[yZ];omega));refine ya (wpAny_newList ?_ (yP _));refine Yc ?_;show yq (yA prog w) A _ P E {s with heap:=((s.heap.update a (yU λ_=>(#[]:Array yb))).push (Yt "tuple" vs.toArray 0)).push (Yt "list" #[] 0)};dsimp only;have hn2:vs.toArray.size<2:=by rw[size_toArray];omega
 rw[if_pos hn2,if_pos hn2];refine ya (yi ?_);refine ya (yi ?_);dsimp only
 have hout:(arrOf (SortSt.mk' general' (vs.toArray.zip vs.toArray) #[] 7 none)).map (·.2)=vs.toArray:=by
  show(vs.toArray.zip vs.toArray).map (·.2)=vs.toArray;apply Array.toList_inj.mp;rw[Array.toList_map,Array.toList_zip];exact List.map_snd_zip (by simp)
 rw[hout];refine ya (seqEpoch_at ho3 rfl ?_);refine ya (listUpdate_at ho3 rfl ?_ (yP _) (by rw[size_toArray,yZ];omega));simp only[bne_self_eq_false,xl,if_false];exact yi h
structure TupS(vs out:List yb)(f:Nat->Int):Prop where
 ex:∃p:List Nat,p.Perm (yd vs.length)/\out=p.map (λi=>vs.getD i .none)/\(p.map f).Pairwise (·<=·)
def TupS.of{vs:List yb}{f:Nat->Int}{p:Array Nat}(hp:Pm vs.length p)(hu:Up f p vs.length):TupS vs (p.toList.map λi=>vs.getD i .none) f:=by
 refine⟨p.toList,hp.pm,rfl,?_⟩;rw[pairwise_map,List.pairwise_iff_getElem];intro i j hi hj hij;have hi':i<p.size:=by simpa using hi
 have hj':j<p.size:=by simpa using hj
 have:=hu i j (by omega) (by rw[<-hp.sz];exact hj');unfold gp at this;simpa[Xi,hi',hj'] using this
def zws{l:yg}{vs:List yb}{f:Nat->Int}{Q:yb->ye->Prop}(hu:A.units+67<cLine)(hl:s.heap.IsList l vs.toArray)(h64:vs.length<64)(hf:∀i j,i<vs.length->j<vs.length->f i=f j->i=j)(hv:∀i,i<vs.length->zMt s.heap (vs.getD i .none) (f i))
 (h:∀out:List yb,TupS vs out f->Q (.ref (s.heap.objs.size+1)) {s with heap:=sortedAll s.heap vs out.toArray }) :
 yq (yA prog w) A (call (.builtin "sorted") [.ref l]) Q E s:=by
 refine Calls.call_function_entry kind_sorted plain_sorted entry_sorted (args_sorted1 _) ?_;unfold YW.«sorted»;refine ya (m:=checkCount "sorted" 1 1 _) (yi ?_);refine ya (collect_list hl ?_ (by rw[yZ];omega));refine ya (wpAny_newList ?_ (by rw[yZ];omega))
 have hsz:((s.heap.push (Yt "list" #[] 0)).update s.heap.objs.size (yU (· ++ vs.toArray))).objs.size=s.heap.objs.size+1:=by
  rw[Heap.size_update,size_push']
 have hoL:(((s.heap.push (Yt "list" #[] 0)).update s.heap.objs.size (yU (· ++ vs.toArray))).push (Yt "list" vs.toArray 0)).get? (s.heap.objs.size+1)=some (Yt "list" vs.toArray 0):=by
  rw[<-hsz];exact yp _ rfl
 have keep:∀b o,s.heap.get? b=some o->(((s.heap.push (Yt "list" #[] 0)).update s.heap.objs.size (yU (· ++ vs.toArray))).push (Yt "list" vs.toArray 0)).get? b=some o:=λb o q=>by
  have hlt:b<s.heap.objs.size:=ym q;rw[Heap.get?_push_ne _ _ _ (by rw[hsz];exact yw (yY hlt)),Heap.get?_update_ne _ _ _ _ (yw hlt),Heap.get?_push_ne _ _ _ (yw hlt)];exact q
 show yq _ _ _ _ _ {s with heap:=((s.heap.push (Yt "list" #[] 0)).update s.heap.objs.size (yU (· ++ vs.toArray))).push (Yt "list" vs.toArray 0)};rw[hsz];refine ya (Yc (yO slot_list_sort ⟨_,hoL,rfl⟩ entry_list_sort ?_ (args_list_sort _)))
 by_cases h2:2<=vs.length
 ·refine zhv (s:={s with heap:=((s.heap.push (Yt "list" #[] 0)).update s.heap.objs.size (yU (· ++ vs.toArray))).push (Yt "list" vs.toArray 0)}) (by show A.units+1+1+65<cLine;omega) hoL h2 h64 hf (λh' k i hi=>?_) λp hp hup=>⟨_,rfl,?_⟩
  ·obtain⟨t,a,ot,w',m,items,n,ns,e,b1,b2,b3,b4,b5⟩:=hv i hi;have n1:t≠s.heap.objs.size+1:=by have:=ym b1;exact yw (yY this)
   have n2:a≠s.heap.objs.size+1:=by have:=ym b4;exact yw (yY this)
   exact⟨t,a,ot,w',m,items,n,ns,e,k _ _ n1 (keep _ _ b1),b2,b3,k _ _ n2 (keep _ _ b4),b5⟩
  ·exact yi ⟨_,rfl,h _ (TupS.of hp hup)⟩
 ·refine zns (s:={s with heap:=((s.heap.push (Yt "list" #[] 0)).update s.heap.objs.size (yU (· ++ vs.toArray))).push (Yt "list" vs.toArray 0)}) hoL (by omega) ⟨_,rfl,?_⟩;refine yi ⟨_,rfl,h vs ⟨yd vs.length,List.Perm.refl _,?_,?_⟩⟩
  ·refine ext_getElem? λi=>?_;rw[yh]
   by_cases hi:i<vs.length
   ·rw[yc hi,yR hi];simp[getD_eq_getElem?_getD,yc hi]
   ·rw[yx (by omega),yx (by simp;omega)];rfl
  ·rw[pairwise_map];refine xD (λ{a b} ha hb hab=>?_) List.pairwise_lt_range;have:=List.mem_range.mp ha;have:=List.mem_range.mp hb;omega
end
end M
namespace M
open PySem PySem.Spec PyProof.Rows L2
def zjp(μ:Mem):D->Option Int
 |.tup [.loc a,_]=>match μ[a]? with
  |some (.lst (.int x::r))=>(zWl r).map λ_=>x
  |_=>none
 |_=>none
def z3l(xs:List D)(hs:List Int):List D:=((xs.zip hs).mergeSort λp q=>decide (p.2<=q.2)).map (·.1)
def zOm:GL:=λds μ=>match ds with
 |[.loc n]=>match μ[n]? with
  |some (.lst xs)=>(xs.mapM (zjp μ)).bind λhs=>bif decide (xs.length<64/\hs.Nodup) then some (.loc μ.length,μ++[.lst (z3l xs hs)]) else none
  |_=>none
 |_=>none
def zGr{α β:Type}{f:α->Option β}:∀{xs:List α} {ys:List β},xs.mapM f=some ys->xs.length=ys.length/\∀(i:Nat)(x:α),xs[i]?=some x->∃y,ys[i]?=some y/\f x=some y
 |[],ys,h=>by
  cases (show some []=some ys from h);exact⟨rfl,λi x e=>by simp at e⟩
 |a::xs,ys,h=>by
  rw[mapM_cons]at h;obtain⟨b,e1,h⟩:=zi h;obtain⟨r,e2,h⟩:=zi h;cases h;obtain⟨h1,h2⟩:=zGr (show xs.mapM f=some r from e2);refine⟨by simp[h1],λi x e=>?_⟩
  cases i with
  |zero=>cases e;exact⟨b,rfl,e1⟩
  |succ i=>exact h2 i x (by simpa using e)
def zpu{xs:List D}{hs:List Int}{p:List Nat}(hl:xs.length=hs.length)(nd:hs.Nodup)(hp:p.Perm (yd xs.length))(hu:(p.map λi=>hs.getD i 0).Pairwise (·<=·)):(p.map λi=>xs.getD i .non)=z3l xs hs:=by
 have hz:(yd xs.length).map (λi=>(xs.getD i .non,hs.getD i 0))=xs.zip hs:=by
  refine ext_getElem? λi=>?_;rw[yh]
  by_cases hi:i<xs.length
  ·have hi2:i<hs.length:=by omega
   have ez:(xs.zip hs)[i]?=some (xs[i],hs[i]):=List.getElem?_zip_eq_some.mpr ⟨yc hi,yc hi2⟩;rw[yR hi,ez];simp[getD_eq_getElem?_getD,yc hi,yc (show i<hs.length by omega)]
  ·rw[yx (by simp;omega),yx (by simp;omega)];rfl
 have p1:(p.map λi=>(xs.getD i .non,hs.getD i 0)).Perm (xs.zip hs):=by rw[<-hz];exact hp.map _
 have p2:(p.map λi=>(xs.getD i .non,hs.getD i 0)).Perm ((xs.zip hs).mergeSort λp q=>decide (p.2<=q.2)):=p1.trans (mergeSort_perm _ _).symm
 have o2:((xs.zip hs).mergeSort λp q=>decide (p.2<=q.2)).Pairwise λa b=>a.2<=b.2:=by
  have:=List.pairwise_mergeSort (le:=λp q:D×Int=>decide (p.2<=q.2)) (λa b c h1 h2=>by simp at h1 h2 ⊢;omega) (λa b=>by simp;omega) (xs.zip hs);exact this.imp λh=>by simpa using h
 have o1:(p.map λi=>(xs.getD i .non,hs.getD i 0)).Pairwise λa b=>a.2<=b.2:=by
  rw[pairwise_map];rw[pairwise_map]at hu;exact hu
 have e:(p.map λi=>(xs.getD i .non,hs.getD i 0))=((xs.zip hs).mergeSort λp q=>decide (p.2<=q.2)):=by
  refine p2.eq_of_pairwise (λa b ha hb h1 h2=>?_) o1 o2;have ha:=p1.mem_iff.mp ha;have hb:=(mergeSort_perm _ _).mem_iff.mp hb;obtain⟨i,hi⟩:=List.mem_iff_getElem?.mp ha;obtain⟨j,hj⟩:=List.mem_iff_getElem?.mp hb;obtain⟨i1,i2⟩:=List.getElem?_zip_eq_some.mp hi;obtain⟨j1,j2⟩:=List.getElem?_zip_eq_some.mp hj;have hij:i=j:=(List.getElem?_inj (List.getElem?_eq_some_iff.mp i2).1 nd).mp (by rw[i2,j2,Int.le_antisymm h1 h2]);subst hij;rw[i1]at j1;rw[i2]at j2;exact Prod.ext (yS j1) (yS j2)
 unfold z3l;rw[<-e,map_map];rfl
def zLr{K:yB}{Z:List yg}{H:Hp}{xs:List D}{vs:List V}(r:tf K Z H xs vs):∀(p:List Nat),(∀i∈p,i<xs.length)->tf K Z H (p.map λi=>xs.getD i .non) (p.map λi=>vs.getD i .non)
 |[],_ =>.nil
 |i::p,h=>by
  have hi:=h i (.head _);obtain⟨v,ev,rv⟩:=r.get (yc hi);refine .cons ?_ (zLr r p λj hj=>h j (.tail _ hj));show tz K Z H (xs.getD i .non) (vs.getD i .non);rw[getD_eq_getElem?_getD,yc hi,getD_eq_getElem?_getD,ev];exact rv
def zAo{vs:List V}{us:List yb}(r:Vals vs us):∀(p:List Nat),(∀i∈p,i<vs.length)->Vals (p.map λi=>vs.getD i .non) (p.map λi=>us.getD i .none)
 |[],_ =>.nil
 |i::p,h=>by
  have hi:=h i (.head _);obtain⟨u,eu,ru⟩:=r.get (yc hi);refine .cons ?_ (zAo r p λj hj=>h j (.tail _ hj));show RelV (vs.getD i .non) (us.getD i .none);rw[getD_eq_getElem?_getD,yc hi,getD_eq_getElem?_getD,eu];exact ru
section
variable {X:Cx}
def zpq(hu:X.A.units+67<cLine):tZ X (.builtin "sorted") zOm:=by
 refine tZ.of λU s Y H xs us Q I r Z ds μ d μ' r1 R e k=>?_;unfold zOm at e
 split at e
 ·split at e
  ·rename_i n _ xs hm
   obtain⟨hs,e2,e⟩:=zi e;obtain⟨hp,e⟩:=z5 e;have hp:=of_decide_eq_true hp;cases e;obtain⟨v,rr,rfl,q1,q2⟩:=r1.cons_inv;obtain⟨a,rfl,ea⟩:=q1.tD;obtain⟨vs,e3,q3⟩:=R.at_ _ _ _ ea hm;rw[q2.nil_inv]at r;obtain⟨u,rfl,ru⟩:=vals1 r;cases ru;obtain⟨its,rv,pl,hz⟩:=I.list (SqL.of (K:=X.K) e3);have hl1:xs.length=vs.length:=q3.length;have hl2:vs.length=its.length:=rv.length;obtain⟨hl3,hget⟩:=zGr e2
   have hT:∀i,i<its.length->zMt s.heap (its.getD i .none) (hs.getD i 0):=λi hi=>by
    obtain⟨x,ex⟩:∃x,xs[i]?=some x:=⟨_,yc (by omega)⟩
    obtain⟨y,ey,hy⟩:=hget i x ex;obtain⟨v,ev,rv'⟩:=q3.get ex;obtain⟨w,ew,rw'⟩:=rv.get ev;rw[getD_eq_getElem?_getD,ew,getD_eq_getElem?_getD,ey];show zMt s.heap w y;unfold zjp at hy
    split at hy
    ·rename_i b z
     split at hy
     ·rename_i x0 r0 hb
      obtain⟨ns,en,hy⟩:=Option.map_eq_some_iff.mp hy;cases hy;obtain⟨t,ys,rfl,ht,ry⟩:=rv'.tW;obtain⟨z1,rz1,rfl,k1,ry⟩:=ry.cons_inv;obtain⟨z2,rz2,rfl,k2,ry⟩:=ry.cons_inv;rw[ry.nil_inv]at ht;obtain⟨b',rfl,eb⟩:=k1.tD;cases rw';obtain⟨_,jts,rj,hj⟩:=(show tQ X.prog X.w H s.heap t (.tup [.ref b',z2]) from I.hok t _ ht)
      cases rj with
      |cons c1 rj=>
       cases rj with
       |cons c2 rj=>
        cases rj;cases c1
        rename_i c2v
        obtain⟨ot,g1,g2,m,g3⟩:=hj;obtain⟨ws,hw,rws⟩:=R.at_ _ _ _ eb hb;have er:(D.int y::r0)=((y::ns).map D.int):=by rw[zPf en];rfl
        rw[er]at rws;rw[zzh rws]at hw;obtain⟨_,kts,kn,rk,hk⟩:=(show tQ X.prog X.w H s.heap b' (.lst ((y::ns).map V.int)) from I.hok b' _ hw)
        exact⟨t,b',ot,c2v,m,kts.toArray,kn,ns,rfl,g1,g2,g3,hk,by simpa using z0f rk⟩
     ·cases hy
    ·cases hy
   have hinj:∀i j,i<its.length->j<its.length->hs.getD i 0=hs.getD j 0->i=j:=λi j hi hj e=>by
    have h1:i<hs.length:=by omega
    have h2:j<hs.length:=by omega
    rw[getD_eq_getElem?_getD,getD_eq_getElem?_getD,yc h1,yc h2]at e;exact(List.getElem?_inj h1 hp.2).mp (by rw[yc h1,yc h2];exact congrArg some e)
   refine zws hu pl.isList (by omega) hinj hT λout ⟨p,pp,eo,pu⟩=>?_;obtain⟨e0,he⟩:=sortedAll_at s.heap its out.toArray;have hf:=I.hok.fresh (xN s.heap.objs.size);have hpi:∀i∈p,i<its.length:=λi hi=>List.mem_range.mp (pp.mem_iff.mp hi);have hpl:p.length=its.length:=by rw[pp.length_eq,length_range]
   have eb:(p.map λi=>xs.getD i .non)=z3l xs hs:=zpu hl3 hp.2 (by rw[hl1,hl2];exact pp) pu;have x2:Ext Z H (Z++[s.heap.objs.size+1]) (upd H (s.heap.objs.size+1) (.lst (p.map λi=>vs.getD i .non))):=Ext.push hf;refine⟨.ref (s.heap.objs.size+1),_,I.laid (t':=s.toks) (o:=.lst (p.map λi=>vs.getD i .non)) (λ_ _=>sortedAll_old) (xN _) ?_,rfl,k _ _ _ x2 (R.push hf ⟨_,zH,?_⟩) (.loc (zSb R))⟩
   ·refine⟨by rw[length_map,yZ];omega,out,e0,?_,by simpa using he⟩;rw[eo];exact zAo rv p λi hi=>by have:=hpi i hi;omega
   ·rw[<-eb];exact tf.ext x2 (zLr q3 p λi hi=>by have:=hpi i hi;omega)
  ·cases e
 ·cases e
end
end M
def L2.Tk.u67{k:Nat}{A:PySem.Around}(r:L2.Tk k A):A.units+67<PySem.cLine:=by have:=r.un;omega
namespace M
open PySem PySem.Spec PyProof.Rows L2
@[simp] theorem zsA{i j:Int}(h1:-18446744073709551616<j)(h2:j<18446744073709551616):zso i j=true:=by
 unfold zso;rw[decide_eq_true (p:=-(2^64)<j/\j<2^64) ⟨by omega,by omega⟩];simp
@[simp] theorem z2A{α:Type}(l:List α):(l.all λ_=>true)=true:=by simp
def zRx{μ g:Mem}{n:Nat}(h:n<μ.length):(μ++g)[n]?=μ[n]?:=yn h
def zK{μ g:Mem}{n:Nat}{o:tw}(h:μ[n]?=some o):(μ++g)[n]?=some o:=by
 rw[zRx (List.getElem?_eq_some_iff.mp h).1];exact h
def zSz{K:yB}{F:FF}{H:Hp}{a:yg}{ns:List Int}(hF:∃μ',F [.fz (ns.map D.int)] []=some (.bl true,μ'))(hO:zZz H)(hS:SqL K H a (ns.map V.int)):spM K 1 F [.ref a] H (λv _=>v=.bl true) λ_ _ _=>False:=by
 obtain⟨μ',e⟩:=hF
 have fz:FzL K H a (ns.map V.int):=by
  rcases hS with (h|⟨o,h⟩)|h
  ·rcases hO a with z|⟨o,xs,z⟩
   ·rw[h]at z;cases z
   ·rw[h]at z;cases z
  ·exact .inl ⟨o,h⟩
  ·exact .inr h
 have hints:∀ns:List Int,tf K [] H (ns.map D.int) (ns.map V.int):=λns=>by
  induction ns with
  |nil=>exact .nil
  |cons i r ih=>exact .cons .int ih
 exact⟨rfl,[],[.fz (ns.map D.int)],[],.bl true,μ',.cons (.fz fz (hints ns)) .nil,⟨List.nodup_nil,rfl,λn a o h1 _=>by simp at h1⟩,e,λZ' H' v _ _ r=>r.tU⟩
structure WE(G:FE)(J:Loc)(μ:Mem)(Q:D->Mem->Prop):Prop where
 ex:∃d μ',G J μ=some (d,μ')/\Q d μ'
structure WT(G:FT)(J:Loc)(μ:Mem)(Q:Bool->Mem->Prop):Prop where
 ex:∃d μ',G J μ=some (d,μ')/\Q d μ'
structure WA(G:FA)(J:Loc)(μ:Mem)(Q:List D->Mem->Prop):Prop where
 ex:∃d μ',G J μ=some (d,μ')/\Q d μ'
structure WO(G:FO)(J:Loc)(μ:Mem)(Q:Option Int->Mem->Prop):Prop where
 ex:∃d μ',G J μ=some (d,μ')/\Q d μ'
structure W2(g:φ2)(x y:D)(μ:Mem)(Q:D->Mem->Prop):Prop where
 ex:∃d μ',g x y μ=some (d,μ')/\Q d μ'
structure WF(F:FF)(ds:List D)(μ:Mem)(Q:D->Mem->Prop):Prop where
 ex:∃d μ',F ds μ=some (d,μ')/\Q d μ'
structure WM(g:GM)(x:D)(ds:List D)(μ:Mem)(Q:D->Mem->Prop):Prop where
 ex:∃d μ',g x ds μ=some (d,μ')/\Q d μ'
structure WI(i:FI)(J:Loc)(μ:Mem)(Q:List D->(Mem->Bool)->Mem->Prop):Prop where
 ex:∃ds ok μ',i J μ=some (ds,ok,μ')/\Q ds ok μ'
structure WG(g:FG)(d:D)(J:Loc)(μ:Mem)(Q:Loc->Mem->Prop):Prop where
 ex:∃J' μ',g d J μ=some (J',μ')/\Q J' μ'
structure WGs(g:FGs)(ds:List D)(J:Loc)(μ:Mem)(Q:Loc->Mem->Prop):Prop where
 ex:∃J' μ',g ds J μ=some (J',μ')/\Q J' μ'
structure WL(g:FG)(c:FT)(G:FE)(ok:Mem->Bool)(J:Loc)(xs ys:List D)(μ:Mem)(Q:D->Mem->Prop):Prop where
 ex:∃d μ',zcv g c G ok J xs ys μ=some (d,μ')/\Q d μ'
def Ek(nx:Loc->Mem->Prop)(rt:D->Mem->Prop)(bk ct:Loc->Mem->Prop):Out->Prop
 |.next J μ=>nx J μ
 |.ret d μ=>rt d μ
 |.brk J μ=>bk J μ
 |.cont J μ=>ct J μ
 |.exc _ _ _=>False
structure WS(ψ:FS)(J:Loc)(μ:Mem)(nx:Loc->Mem->Prop)(rt:D->Mem->Prop)(bk ct:Loc->Mem->Prop):Prop where
 ex:∃o,ψ J μ=some o/\Ek nx rt bk ct o
structure WFor(g:FG)(body:FS)(ok:Mem->Bool)(xs:List D)(J:Loc)(μ:Mem)(nx:Loc->Mem->Prop)(rt:D->Mem->Prop):Prop where
 ex:∃o,zOj g body ok xs J μ=some o/\Ek nx rt (λ_ _=>False) (λ_ _=>False) o
def tu(μ μ':Mem):Prop:=∀(n:Nat)(o:tw),μ[n]?=some o->μ'[n]?=some o
def tu.refl{μ:Mem}:tu μ μ:=λ_ _ h=>h
def tu.trans{μ μ1 μ2:Mem}(a:tu μ μ1)(b:tu μ1 μ2):tu μ μ2:=λn o h=>b n o (a n o h)
def tu.app{μ g:Mem}:tu μ (μ++g):=λ_ _ h=>zK h
def tu.to{μ μ1 g:Mem}(a:tu μ μ1):tu μ (μ1++g):=a.trans .app
def tu.len{μ μ':Mem}(a:tu μ μ'):μ.length<=μ'.length:=by
 rcases Nat.lt_or_ge μ'.length μ.length with h|h
 ·have:=a μ'.length μ[μ'.length] (by simp[h]);simp at this
 ·exact h
def zt{μ:Mem}{o:tw}:(μ++[o])[μ.length]?=some o:=by simp
def zx{μ:Mem}{n:Nat}{o:tw}(h:μ[n]?=some o):n<μ.length:=(List.getElem?_eq_some_iff.mp h).1
def zD{μ:Mem}{n m:Nat}{o o':tw}(h:μ[n]?=some o)(hne:m≠n):(μ.set m o')[n]?=some o:=by
 rw[yW hne];exact h
def zL{μ:Mem}{n:Nat}{o o':tw}(h:μ[n]?=some o):(μ.set n o')[n]?=some o':=by
 rw[Yn (zx h)]
def zk{μ:Mem}{n:Nat}{ds:List D}(h:μ[n]?=some (.lst ds)):items μ (.loc n)=some ds:=by simp[h]
section
variable {G ψ χ:FE}{g g2:φ2}{J:Loc}{μ:Mem}{Q:D->Mem->Prop}{i j:Int}{d x y:D}{ds xs:List D}
def WE.mono{Q':D->Mem->Prop}(h:WE G J μ Q)(k:∀d μ',Q d μ'->Q' d μ'):WE G J μ Q':=let ⟨d,μ',e,q⟩:=h;⟨d,μ',e,k d μ' q⟩
def zd{n:Nat}(h:J[n]?=some (some d))(q:Q d μ):WE (zg n) J μ Q:=⟨d,μ,by simp[h],q⟩
def w_c(q:Q d μ):WE (fC d) J μ Q:=⟨d,μ,rfl,q⟩
def zm(h:WE G J μ λx μ1=>WE ψ J μ1 λy μ2=>W2 g x y μ2 Q):WE (zy g G ψ) J μ Q:=by
 obtain⟨x,μ1,e1,y,μ2,e2,d,μ3,e3,q⟩:=h;exact⟨d,μ3,by simp[e1,e2,e3],q⟩
def zux(h:WE G J μ λx μ1=>∃b,x=.bl b/\(b=true->WE ψ J μ1 Q)/\(b=false->Q (.bl false) μ1)):WE (z5z G ψ) J μ Q:=by
 obtain⟨x,μ1,e1,b,rfl,h1,h2⟩:=h
 cases b with
 |true=>obtain⟨d,μ2,e2,q⟩:=h1 rfl;exact⟨d,μ2,by simp[e1,e2],q⟩
 |false=>exact⟨_,μ1,by simp[e1],h2 rfl⟩
def zIB(h:WE G J μ λx μ1=>∃b,x=.bl b/\(b=false->WE ψ J μ1 Q)/\(b=true->Q (.bl true) μ1)):WE (fOr G ψ) J μ Q:=by
 obtain⟨x,μ1,e1,b,rfl,h1,h2⟩:=h
 cases b with
 |false=>obtain⟨d,μ2,e2,q⟩:=h1 rfl;exact⟨d,μ2,by simp[e1,e2],q⟩
 |true=>exact⟨_,μ1,by simp[e1],h2 rfl⟩
def w_not(h:WE G J μ λx μ1=>∃b,x=.bl b/\Q (.bl (!b)) μ1):WE (zCB G) J μ Q:=by
 obtain⟨x,μ1,e1,b,rfl,q⟩:=h;exact⟨_,μ1,by simp[e1],q⟩
def zJA(h:WE G J μ λx μ1=>∃i,x=.int i/\Q (.int (-i)) μ1):WE (zjB G) J μ Q:=by
 obtain⟨x,μ1,e1,b,rfl,q⟩:=h;exact⟨_,μ1,by simp[e1],q⟩
def z7d{α:FA}(h:WA α J μ λds μ1=>Q (.tup ds) μ1):WE (zii α) J μ Q:=by
 obtain⟨x,μ1,e1,q⟩:=h;exact⟨_,μ1,by simp[e1],q⟩
def z5i{α:FA}(h:WA α J μ λds μ1=>Q (.loc μ1.length) (μ1++[.lst ds])):WE (zgm α) J μ Q:=by
 obtain⟨x,μ1,e1,q⟩:=h;exact⟨_,_,by simp[e1]<;>rfl,q⟩
def zIz(h:Q (.loc μ.length) (μ++[.dct []])):WE zKA J μ Q:=⟨_,_,rfl,h⟩
def z0z{lo hi:FO}(h:WE G J μ λx μ1=>WO lo J μ1 λl μ2=>WO hi J μ2 λu μ3=>∃ds,x=.tup ds/\Q (.tup (cutD ds l u)) μ3):WE (fSl G lo hi) J μ Q:=by
 obtain⟨x,μ1,e1,l,μ2,e2,u,μ3,e3,ds,rfl,q⟩:=h;exact⟨_,_,by simp[e1,e2,e3]<;>rfl,q⟩
def zyv{R:Option Int->Mem->Prop}(q:R none μ):WO pNo J μ R:=⟨_,_,rfl,q⟩
def zVq{R:Option Int->Mem->Prop}(h:WE G J μ λx μ1=>∃i,x=.int i/\R (some i) μ1):WO (zUx G) J μ R:=by
 obtain⟨x,μ1,e1,i,rfl,q⟩:=h;exact⟨_,_,by simp[e1]<;>rfl,q⟩
def zn{F:FF}{α:FA}(h:WA α J μ λds μ1=>WF F ds μ1 Q):WE (zq F α) J μ Q:=by
 obtain⟨ds,μ1,e1,d,μ2,e2,q⟩:=h;exact⟨d,μ2,by simp[e1,e2],q⟩
def zWh{m:GM}{α:FA}(h:WE G J μ λx μ1=>∃n xs,x=.loc n/\μ1[n]?=some (.lst xs)/\WA α J μ1 λds μ2=>WM m (.loc n) ds μ2 Q):WE (zke m G α) J μ Q:=by
 obtain⟨x,μ1,e1,n,xs,rfl,e2,ds,μ2,e3,d,μ3,e4,q⟩:=h;exact⟨d,μ3,by simp[e1,e2,e3,e4],q⟩
def zAj{n:Nat}{fr:List Nat}{it:FI}{tg:FG}{c:FT}(h:WI it J μ λds ok μ1=>few ds=true/\WL tg c G ok (δC n fr J) ds [] μ1 Q):WE (fLC n fr it tg c G) J μ Q:=by
 obtain⟨ds,ok,μ1,e1,hf,d,μ2,e2,q⟩:=h;exact⟨d,μ2,by unfold fLC;simp only[e1,yr,hf,cond_true];exact e2,q⟩
def zrt(h:WE G J μ λx μ1=>∃n ns,x=.loc n/\μ1[n]?=some (.lst (ns.map .int))/\ns.length<=4000/\(uqL ns).length<64/\Q (.loc μ1.length) (μ1++[.lst ((zzv ns).map .int)])):WE (zNq G) J μ Q:=by
 obtain⟨x,μ1,e1,n,ns,rfl,e2,h1,h2,q⟩:=h;exact⟨_,_,by simp[zNq,e1,e2,h1,h2]<;>rfl,q⟩
def zJ{R:Bool->Mem->Prop}(h:WE G J μ λx μ1=>∃b,x=.bl b/\R b μ1):WT (zX G) J μ R:=by
 obtain⟨x,μ1,e1,b,rfl,q⟩:=h;exact⟨_,_,by simp[e1]<;>rfl,q⟩
def zJp{c e:FT}{R:Bool->Mem->Prop}(h:WT c J μ λb μ1=>(b=true->WT e J μ1 R)/\(b=false->R false μ1)):WT (zep c e) J μ R:=by
 obtain⟨b,μ1,e1,h1,h2⟩:=h
 cases b with
 |true=>obtain⟨d,μ2,e2,q⟩:=h1 rfl;exact⟨d,μ2,by simp[e1,e2],q⟩
 |false=>exact⟨_,μ1,by simp[e1],h2 rfl⟩
def zBk{c e:FT}{R:Bool->Mem->Prop}(h:WT c J μ λb μ1=>(b=false->WT e J μ1 R)/\(b=true->R true μ1)):WT (zuu c e) J μ R:=by
 obtain⟨b,μ1,e1,h1,h2⟩:=h
 cases b with
 |false=>obtain⟨d,μ2,e2,q⟩:=h1 rfl;exact⟨d,μ2,by simp[e1,e2],q⟩
 |true=>exact⟨_,μ1,by simp[e1],h2 rfl⟩
def zQr{c:FT}{R:Bool->Mem->Prop}(h:WT c J μ λb μ1=>R (!b) μ1):WT (zPt c) J μ R:=by
 obtain⟨b,μ1,e1,q⟩:=h;exact⟨_,_,by simp[e1]<;>rfl,q⟩
def zWu{R:Bool->Mem->Prop}(q:R true μ):WT zCk J μ R:=⟨_,_,rfl,q⟩
def zo{R:List D->Mem->Prop}(q:R [] μ):WA zB J μ R:=⟨_,_,rfl,q⟩
def zb{α:FA}{R:List D->Mem->Prop}(h:WE G J μ λx μ1=>WA α J μ1 λxs μ2=>R (x::xs) μ2):WA (ze G α) J μ R:=by
 obtain⟨x,μ1,e1,xs,μ2,e2,q⟩:=h;exact⟨_,_,by simp[e1,e2]<;>rfl,q⟩
def zku(q:Q (.int (i+j)) μ):W2 znm (.int i) (.int j) μ Q:=⟨_,_,rfl,q⟩
def zZu{as bs:List D}(h:as.length+bs.length<=1000000)(q:Q (.tup (as++bs)) μ):W2 znm (.tup as) (.tup bs) μ Q:=⟨_,_,by simp[h]<;>rfl,q⟩
def zZy(q:Q (.int (i-j)) μ):W2 zKw (.int i) (.int j) μ Q:=⟨_,_,rfl,q⟩
def zaA(h:zso i j=true)(q:Q (.int (i*j)) μ):W2 zPl (.int i) (.int j) μ Q:=⟨_,_,by simp[zPl,h]<;>rfl,q⟩
def zWA(h:0<j)(q:Q (.int (i%j)) μ):W2 zas (.int i) (.int j) μ Q:=⟨_,_,by simp[h]<;>rfl,q⟩
def zrA(h:0<j)(h':j<1606938044258990275541962092341162602522202993782792835301376)(q:Q (.int (i / j)) μ):W2 zAy (.int i) (.int j) μ Q:=⟨_,_,by simp[h,h']<;>rfl,q⟩
def zkA(h:0<=j)(h1:j<=100000)(h2:i.natAbs<1606938044258990275541962092341162602522202993782792835301376)(q:Q (.int (i^j.toNat)) μ):W2 z8A (.int i) (.int j) μ Q:=⟨_,_,by simp only[z8A];rw[decide_eq_true ⟨h,h1,h2⟩];rfl,q⟩
def z4n{r:Int->Int->Bool}(q:Q (.bl (r i j)) μ):W2 (zPm r) (.int i) (.int j) μ Q:=⟨_,_,rfl,q⟩
def zBb(h:items μ x=some xs)(h2:atI xs i=some d)(q:Q d μ):W2 gIx x (.int i) μ Q:=⟨_,_,by show((items μ x).bind λds=>(atI ds i).bind λd=>some (d,μ))=_;rw[h,yr,h2,yr],q⟩
def zjo(q:Q (.bl (i==j)) μ):W2 gEq (.int i) (.int j) μ Q:=⟨_,_,by simp[gEq,toP,Yu]<;>rfl,q⟩
def zPA(q:Q (.bl (!(i==j))) μ):W2 gNe (.int i) (.int j) μ Q:=⟨_,_,by simp[gNe,toP,Yu]<;>rfl,q⟩
def z4z{p p':Xh}(h1:toP μ 8 x=some p)(h2:toP μ 8 y=some p')(q:Q (.bl (Yu p p')) μ):W2 gEq x y μ Q:=⟨_,_,by simp[gEq,h1,h2]<;>rfl,q⟩
def zgA{p p':Xh}(h1:toP μ 8 x=some p)(h2:toP μ 8 y=some p')(q:Q (.bl (!PyData.eqv p p')) μ):W2 gNe x y μ Q:=⟨_,_,by simp[gNe,h1,h2]<;>rfl,q⟩
def zpA{a b:Bool}(q:Q (.bl (a==b)) μ):W2 gIs (.bl a) (.bl b) μ Q:=⟨_,_,rfl,q⟩
def zqv{a b:Bool}(q:Q (.bl (a != b)) μ):W2 zWg (.bl a) (.bl b) μ Q:=⟨_,_,rfl,q⟩
def zzB(h:items μ y=some xs)(h1:zod x=true)(h2:xs.all zod=true)(q:Q (.bl (xs.any λd=>eqF d x)) μ):W2 gIn x y μ Q:=⟨_,_,by simp only[gIn,h,yr,h1,h2,Bool.and_self,cond_true],q⟩
def zgq(h:items μ y=some xs)(h1:zod x=true)(h2:xs.all zod=true)(q:Q (.bl (!xs.any λd=>eqF d x)) μ):W2 zoi x y μ Q:=⟨_,_,by simp only[zoi,h,yr,h1,h2,Bool.and_self,cond_true],q⟩
def zhe(h:items μ x=some xs)(q:Q (.int xs.length) μ):WF z6i [x] μ Q:=⟨_,_,by show((items μ x).bind λxs=>some (D.int xs.length,μ))=_;rw[h,yr],q⟩
def ziu(h:items μ x=some xs)(q:Q (.loc μ.length) (μ++[.lst xs])):WF zbs [x] μ Q:=⟨_,_,by show((items μ x).bind λxs=>some (D.loc μ.length,μ++[tw.lst xs]))=_;rw[h,yr],q⟩
def zpg(h:items μ x=some xs)(q:Q (.tup xs) μ):WF zGe [x] μ Q:=by
 refine⟨_,_,?_,q⟩;cases x<;>first|(cases h;rfl)|(simp only[zGe,h];rfl)
def zXA{n:Nat}{ns:List Int}(h:μ[n]?=some (.lst (ns.map .int)))(q:Q (.int ns.sum) μ):WF zSx [.loc n] μ Q:=⟨_,_,by simp[h]<;>rfl,q⟩
def zUA{n:Nat}{bs:List Bool}(h:μ[n]?=some (.lst (bs.map .bl)))(q:Q (.bl (bs.all λb=>b)) μ):WF zYz [.loc n] μ Q:=⟨_,_,by simp[h,all_map,Function.comp_def],q⟩
def zFg{n:Nat}(h:μ[n]?=some (.lst xs))(hl:xs.length<=1000000)(q:Q .non (μ.set n (.lst (xs++[d])))):WM zHd (.loc n) [d] μ Q:=⟨_,_,by simp[h,hl]<;>rfl,q⟩
def zUz{n:Nat}(h:μ[n]?=some (.lst xs))(hl:xs.length+ds.length<=1000000)(q:Q .non (μ.set n (.lst (xs++ds)))):WM zSw (.loc n) [.tup ds] μ Q:=⟨_,_,by simp[h,hl]<;>rfl,q⟩
def zsb{F:FF}{N:List yF}{p:FS}(hF:F=λds μ=>zkb (p (zM N ds) μ))(h:WS p (zM N ds) μ (λ_ μ'=>Q .non μ') Q (λ_ _=>False) λ_ _=>False):WF F ds μ Q:=by
 subst hF;obtain⟨o,e,k⟩:=h
 cases o with
 |next J' μ'=>exact⟨_,_,by rw[e];rfl,k⟩
 |ret d μ'=>exact⟨_,_,by rw[e];rfl,k⟩
 |brk _ _=>exact k.elim
 |cont _ _=>exact k.elim
 |exc _ _ _=>exact k.elim
def zVj{α:FA}{R:List D->(Mem->Bool)->Mem->Prop}(h:WA α J μ λds μ1=>∃j:Int,ds=[.int j]/\-(2^62)<=j/\j<2^62/\R ((yd j.toNat).map λ(k:Nat) =>.int k) yes μ1):WI (zTg α) J μ R:=by
 obtain⟨ds,μ1,e1,j,rfl,h1,h2,q⟩:=h;refine⟨_,_,_,?_,q⟩;unfold zTg;simp only[e1,yr];rw[decide_eq_true ⟨h1,h2⟩];rfl
def z2c{R:List D->(Mem->Bool)->Mem->Prop}(h:WE G J μ λx μ1=>(∃ds,x=.tup ds/\R ds yes μ1)\/(∃ds,x=.fz ds/\R ds yes μ1)\/∃n ds,x=.loc n/\μ1[n]?=some (.lst ds)/\R ds (zqm n ds) μ1):WI (zZg G) J μ R:=by
 obtain⟨x,μ1,e1,⟨ds,rfl,q⟩|⟨ds,rfl,q⟩|⟨n,ds,rfl,e2,q⟩⟩:=h
 ·exact⟨_,_,_,by simp[e1]<;>rfl,q⟩
 ·exact⟨_,_,_,by simp[e1]<;>rfl,q⟩
 ·exact⟨_,_,_,by simp[e1,e2]<;>rfl,q⟩
def zfd{n:Nat}{R:Loc->Mem->Prop}(q:R (J.set n (some d)) μ):WG (gN n) d J μ R:=⟨_,_,rfl,q⟩
def z4A{n:Nat}{gs:FGs}{R:Loc->Mem->Prop}(hl:ds.length=n)(h:WGs gs ds J μ R):WG (gT n gs) (.tup ds) J μ R:=by
 obtain⟨J',μ',e,q⟩:=h;exact⟨J',μ',by simp[hl,e],q⟩
def zaj{gs:FGs}{R:Loc->Mem->Prop}{a b:D}(h:WGs gs [a,b] J μ R):WG (gT 2 gs) (.tup [a,b]) J μ R:=z4A rfl h
def zEz{gs:FGs}{R:Loc->Mem->Prop}{a b c:D}(h:WGs gs [a,b,c] J μ R):WG (gT 3 gs) (.tup [a,b,c]) J μ R:=z4A rfl h
def zfi{R:Loc->Mem->Prop}(q:R J μ):WGs zFe [] J μ R:=⟨_,_,rfl,q⟩
def znd{t:FG}{gs:FGs}{R:Loc->Mem->Prop}(h:WG t d J μ λJ1 μ1=>WGs gs ds J1 μ1 R):WGs (zbb t gs) (d::ds) J μ R:=by
 obtain⟨J1,μ1,e1,J2,μ2,e2,q⟩:=h;exact⟨J2,μ2,by simp[e1,e2],q⟩
variable {nx:Loc->Mem->Prop}{rt:D->Mem->Prop}{bk ct:Loc->Mem->Prop}{p q:FS}
def zjb(h:nx J μ):WS zZb J μ nx rt bk ct:=⟨.next J μ,rfl,h⟩
def zr(h:WS p J μ (λJ' μ'=>WS q J' μ' nx rt bk ct) rt bk ct):WS (z7 p q) J μ nx rt bk ct:=by
 obtain⟨o,e,k⟩:=h
 cases o with
 |next J' μ'=>obtain⟨o2,e2,k2⟩:=k;exact⟨o2,by simp[e,e2],k2⟩
 |ret d μ'=>exact⟨.ret d μ',by simp only[z7,e],k⟩
 |brk d μ'=>exact⟨.brk d μ',by simp only[z7,e],k⟩
 |cont d μ'=>exact⟨.cont d μ',by simp only[z7,e],k⟩
 |exc _ _ _=>exact k.elim
def zhb{n:Nat}(h:WE G J μ λd μ'=>nx (J.set n (some d)) μ'):WS (zNb n G) J μ nx rt bk ct:=by
 obtain⟨d,μ',e,k⟩:=h;exact⟨.next _ _,by simp only[zNb,e,yr],k⟩
def zco{g:FG}(h:WE G J μ λd μ1=>WG g d J μ1 nx):WS (zIr G g) J μ nx rt bk ct:=by
 obtain⟨d,μ1,e,J',μ2,e2,k⟩:=h;exact⟨.next _ _,by simp only[zIr,e,yr,e2],k⟩
def zNi(h:WE G J μ λ_ μ'=>nx J μ'):WS (zeh G) J μ nx rt bk ct:=by
 obtain⟨d,μ',e,k⟩:=h;exact⟨.next _ _,by simp only[zeh,e,yr],k⟩
def zwb(h:WE G J μ rt):WS (zMb G) J μ nx rt bk ct:=by
 obtain⟨d,μ',e,k⟩:=h;exact⟨.ret _ _,by simp only[zMb,e,yr],k⟩
def z0g{c:FT}(h:WT c J μ λb μ1=>(b=true->WS p J μ1 nx rt bk ct)/\(b=false->WS q J μ1 nx rt bk ct)):WS (sIf c p q) J μ nx rt bk ct:=by
 obtain⟨b,μ1,e,h1,h2⟩:=h
 cases b with
 |true=>obtain⟨o,e2,k⟩:=h1 rfl;exact⟨o,by simp[e,e2],k⟩
 |false=>obtain⟨o,e2,k⟩:=h2 rfl;exact⟨o,by simp[e,e2],k⟩
def zah{it:FI}{g:FG}{body:FS}(h:WI it J μ λds ok μ1=>WFor g body ok ds J μ1 nx rt):WS (zxl it g body) J μ nx rt bk ct:=by
 obtain⟨ds,ok,μ1,e,o,e2,k⟩:=h;refine⟨o,by simp only[zxl,e,yr];exact e2,?_⟩
 cases o with
 |next _ _=>exact k
 |ret _ _=>exact k
 |brk _ _=>exact k.elim
 |cont _ _=>exact k.elim
 |exc _ _ _=>exact k.elim
def zEu{g:FG}{body:FS}{ok:Mem->Bool}{nx:Loc->Mem->Prop}{rt:D->Mem->Prop}(I:Nat->Loc->Mem->Prop):∀{xs:List D} {n:Nat} {J:Loc} {μ:Mem},I n J μ->(∀m J μ,I m J μ->ok μ=true) ->
 (∀(m:Nat)(x:D)(J:Loc)(μ:Mem),xs[m]?=some x->I (n+m) J μ->WG g x J μ λJ1 μ1=>WS body J1 μ1 (I (n+m+1)) rt nx (I (n+m+1)))->(∀J μ,I (n+xs.length) J μ->nx J μ)->WFor g body ok xs J μ nx rt
 |[],n,J,μ,h0,hok,_,hend=>⟨.next J μ,by simp only[zOj,hok _ _ _ h0,cond_true],hend J μ h0⟩
 |x::xs,n,J,μ,h0,hok,hs,hend=>by
  obtain⟨J1,μ1,e1,o,e2,k⟩:=hs 0 x J μ rfl h0
  cases o with
  |next J2 μ2=>
   obtain⟨o3,e3,k3⟩:=zEu I (xs:=xs) (n:=n+1) (J:=J2) (μ:=μ2) k hok (λm y J μ hy hI=>by
    have:=hs (m+1) y J μ (by simpa using hy) (by rw[show n+(m+1)=n+1+m by omega];exact hI);rw[show n+(m+1)=n+1+m by omega]at this;exact this) (λJ μ hI=>hend J μ (by rw[length_cons,show n+(xs.length+1)=n+1+xs.length by omega];exact hI))
   exact⟨o3,by simp only[zOj,hok _ _ _ h0,cond_true,e1,yr,e2];exact e3,k3⟩
  |cont J2 μ2=>
   obtain⟨o3,e3,k3⟩:=zEu I (xs:=xs) (n:=n+1) (J:=J2) (μ:=μ2) k hok (λm y J μ hy hI=>by
    have:=hs (m+1) y J μ (by simpa using hy) (by rw[show n+(m+1)=n+1+m by omega];exact hI);rw[show n+(m+1)=n+1+m by omega]at this;exact this) (λJ μ hI=>hend J μ (by rw[length_cons,show n+(xs.length+1)=n+1+xs.length by omega];exact hI))
   exact⟨o3,by simp only[zOj,hok _ _ _ h0,cond_true,e1,yr,e2];exact e3,k3⟩
  |brk J2 μ2=>exact⟨.next J2 μ2,by simp only[zOj,hok _ _ _ h0,cond_true,e1,yr,e2],k⟩
  |ret d μ2=>exact⟨.ret d μ2,by simp only[zOj,hok _ _ _ h0,cond_true,e1,yr,e2],k⟩
  |exc _ _ _=>exact k.elim
end
def zVw{g:FG}{c:FT}{G:FE}{ok:Mem->Bool}{J:Loc}{Q:D->Mem->Prop}(I:Nat->List D->Mem->Prop):∀{xs ys:List D} {n:Nat} {μ:Mem},I n ys μ->(∀m ys μ,I m ys μ->ok μ=true) ->
 (∀(m:Nat)(x:D)(ys:List D)(μ:Mem),xs[m]?=some x->I (n+m) ys μ->WG g x J μ λJ1 μ1=>WT c J1 μ1 λb μ2=>(b=true->WE G J1 μ2 λd μ3=>I (n+m+1) (ys++[d]) μ3)/\(b=false->I (n+m+1) ys μ2)) ->
 (∀ys μ,I (n+xs.length) ys μ->Q (.loc μ.length) (μ++[.lst ys]))->WL g c G ok J xs ys μ Q
 |[],ys,n,μ,h0,hok,_,hend=>⟨_,_,by simp only[zcv,hok _ _ _ h0,cond_true],hend ys μ h0⟩
 |x::xs,ys,n,μ,h0,hok,hs,hend=>by
  obtain⟨J1,μ1,e1,b,μ2,e2,ht,hf⟩:=hs 0 x ys μ rfl h0
  have step:∀ys2 μ3,I (n+1) ys2 μ3->WL g c G ok J xs ys2 μ3 Q:=λys2 μ3 h=>zVw I (n:=n+1) h hok (λm y ys μ hy hI=>by
   have:=hs (m+1) y ys μ (by simpa using hy) (by rw[show n+(m+1)=n+1+m by omega];exact hI);rw[show n+(m+1)=n+1+m by omega]at this;exact this) (λys μ hI=>hend ys μ (by rw[length_cons,show n+(xs.length+1)=n+1+xs.length by omega];exact hI))
  cases b with
  |true=>
   obtain⟨d,μ3,e3,h3⟩:=ht rfl;obtain⟨d',μ4,e4,q⟩:=step _ _ h3;exact⟨d',μ4,by simp only[zcv,hok _ _ _ h0,cond_true,e1,yr,e2,e3];exact e4,q⟩
  |false=>
   obtain⟨d',μ4,e4,q⟩:=step _ _ (hf rfl);exact⟨d',μ4,by simp only[zcv,hok _ _ _ h0,cond_true,e1,yr,e2,cond_false];exact e4,q⟩
def zWb{g:FG}{body:FS}{ok:Mem->Bool}{nx:Loc->Mem->Prop}{rt:D->Mem->Prop}{xs:List D}{J:Loc}{μ:Mem}(I:Nat->Loc->Mem->Prop)(h0:I 0 J μ)(hok:∀m J μ,I m J μ->ok μ=true)
 (hs:∀(m:Nat)(x:D)(J:Loc)(μ:Mem),xs[m]?=some x->I m J μ->WG g x J μ λJ1 μ1=>WS body J1 μ1 (I (m+1)) rt nx (I (m+1))) (hend:∀J μ,I xs.length J μ->nx J μ):WFor g body ok xs J μ nx rt :=
 zEu I (n:=0) h0 hok (λm x J μ hx h=>by
  rw[Nat.zero_add]at h ⊢;exact hs m x J μ hx h) (λJ μ h=>hend J μ (by rw[Nat.zero_add]at h;exact h))
def zgi{g:FG}{c:FT}{G:FE}{ok:Mem->Bool}{J:Loc}{Q:D->Mem->Prop}{xs:List D}{μ:Mem}(I:Nat->List D->Mem->Prop)(h0:I 0 [] μ)(hok:∀m ys μ,I m ys μ->ok μ=true)
 (hs:∀(m:Nat)(x:D)(ys:List D)(μ:Mem),xs[m]?=some x->I m ys μ->WG g x J μ λJ1 μ1=>WT c J1 μ1 λb μ2=>(b=true->WE G J1 μ2 λd μ3=>I (m+1) (ys++[d]) μ3)/\(b=false->I (m+1) ys μ2))
 (hend:∀ys μ,I xs.length ys μ->Q (.loc μ.length) (μ++[.lst ys])):WL g c G ok J xs [] μ Q :=
 zVw I (n:=0) h0 hok (λm x ys μ hx h=>by
  rw[Nat.zero_add]at h ⊢;exact hs m x ys μ hx h) (λys μ h=>hend ys μ (by rw[Nat.zero_add]at h;exact h))
def zAh{j m:Nat}{x:D}(h:((yd j).map λ(k:Nat)=>D.int k)[m]?=some x):m<j/\x=.int m:=by
 have h1:=(List.getElem?_eq_some_iff.mp h).1;simp at h1;refine⟨h1,?_⟩;simp[h1]at h;exact h.symm
def zNd{α:Type}{g:FG}{c:FT}{G:FE}{ok:Mem->Bool}{J:Loc}{Q:D->Mem->Prop}{μ:Mem}(e:α->D)(l:List α)(f:α->D)(p:α->Bool)(hok:∀μ',tu μ μ'->ok μ'=true)
 (hs:∀x∈l,∀μ',tu μ μ'->WG g (e x) J μ' λJ1 μ1=>WT c J1 μ1 λb μ2=>b=p x/\tu μ μ2/\(b=true->WE G J1 μ2 λd μ3=>d=f x/\tu μ μ3))
 (hq:∀μ',tu μ μ'->Q (.loc μ'.length) (μ'++[.lst ((l.filter p).map f)])):WL g c G ok J (l.map e) [] μ Q:=by
 refine zgi (λm ys μ'=>tu μ μ'/\ys=((l.take m).filter p).map f) ⟨.refl,by simp⟩ (λm ys μ' h=>hok μ' h.1) (λm x ys μ' hx h=>?_) (λys μ' h=>?_)
 ·rw[yh]at hx
  cases hy:l[m]? with
  |none=>rw[hy]at hx;cases hx
  |some y=>
   rw[hy]at hx;cases hx;obtain⟨J1,μ1,e1,b,μ2,e2,hb,k2,h3⟩:=hs y (mem_of_getElem? hy) μ' h.1
   have ht:l.take (m+1)=l.take m++[y]:=by
    rw[take_succ,hy];rfl
   refine⟨J1,μ1,e1,b,μ2,e2,λhb1=>?_,λhb1=>⟨k2,?_⟩⟩
   ·obtain⟨d,μ3,e3,rfl,k3⟩:=h3 hb1;refine⟨_,_,e3,k3,?_⟩;rw[ht,List.filter_append,map_append,<-h.2,List.filter_cons_of_pos (by rw[<-hb,hb1])];rfl
   ·rw[ht,List.filter_append,map_append,<-h.2,List.filter_cons_of_neg (by rw[<-hb,hb1];exact yv)];simp
 ·rw[length_map,take_length]at h;rw[h.2];exact hq μ' h.1
def zlf{α:Type}{g:FG}{G:FE}{ok:Mem->Bool}{J:Loc}{Q:D->Mem->Prop}{μ:Mem}(e:α->D)(l:List α)(f:α->D)(hok:∀μ',tu μ μ'->ok μ'=true)
 (hs:∀x∈l,∀μ',tu μ μ'->WG g (e x) J μ' λJ1 μ1=>WE G J1 μ1 λd μ3=>d=f x/\tu μ μ3/\tu μ μ1)
 (hq:∀μ',tu μ μ'->Q (.loc μ'.length) (μ'++[.lst (l.map f)])):WL g zCk G ok J (l.map e) [] μ Q :=
 zNd e l f (λ_=>true) hok (λx hx μ' k=>by
  obtain⟨J1,μ1,e1,d,μ3,e3,h1,h2,h3⟩:=hs x hx μ' k;exact⟨J1,μ1,e1,true,μ1,rfl,rfl,h3,λ_=>⟨d,μ3,e3,h1,h2⟩⟩) (λμ' k=>by rw[List.filter_eq_self.mpr (λ_ _=>rfl)];exact hq μ' k)
def zrb{ds:List D}(h:ds.length<=1000000):few ds=true:=decide_eq_true h
def z6{n:Nat}{ds:List D}{μ μ':Mem}(h:μ[n]?=some (.lst ds))(k:tu μ μ'):zqm n ds μ'=true:=Tp.mpr (k n _ h)
def zGx{ns:List Int}{k:Int}:k∈uqL ns↔k∈ns:=by
 unfold uqL;rw[zXu,List.mem_iff_getElem];constructor
 ·rintro⟨j,hj,h⟩;exact⟨j,hj,by simpa[hj] using h⟩
 ·rintro⟨j,hj,h⟩;exact⟨j,hj,by simpa[hj] using h⟩
def zHk{ns l:List Int}(h1:∀k,k∈l↔k∈ns)(h2:l.Pairwise (· < ·)):(uqL ns).Perm l:=by
 refine(perm_ext_iff_of_nodup (znp _ _) (h2.imp λh=>Int.ne_of_lt h)).mpr λk=>?_;rw[h1];exact zGx
def zWn{ns l:List Int}(h1:∀k,k∈l↔k∈ns)(h2:l.Pairwise (· < ·)):zzv ns=l :=
 zKd ((mergeSort_perm _ _).trans (zHk h1 h2)) (zZj _) (h2.imp λh=>Int.le_of_lt h)
structure KB(L:List Nat)(μ μ':Mem):Prop where
 len:μ.length<=μ'.length
 at_:∀(n:Nat)(o:tw),n∉L->μ[n]?=some o->μ'[n]?=some o
section
variable {L:List Nat}{μ μ1 μ2 μ':Mem}{n:Nat}{o:tw}
def KB.refl:KB L μ μ:=⟨yk _,λ_ _ _ h=>h⟩
def KB.trans(a:KB L μ μ1)(b:KB L μ1 μ2):KB L μ μ2:=⟨yD a.len b.len,λn o h e=>b.at_ n o h (a.at_ n o h e)⟩
def KB.app{g:Mem}(a:KB L μ μ1):KB L μ (μ1++g):=⟨by simp;have:=a.len;omega,λn o h e=>zK (a.at_ n o h e)⟩
def KB.set{m:Nat}(a:KB L μ μ1)(h:m∈L\/μ.length<=m):KB L μ (μ1.set m o):=⟨by simp;exact a.len,λn o' hn e=>by
 rw[yW]
 ·exact a.at_ n o' hn e
 ·rintro rfl;rcases h with h|h
  ·exact hn h
  ·exact absurd (zx e) (by omega)⟩
def KB.of_keep(a:tu μ μ'):KB L μ μ':=⟨a.len,λn o _ e=>a n o e⟩
def KB.sub{L':List Nat}(a:KB L μ μ')(h:∀n∈L,n∈L'\/μ.length<=n):KB L' μ μ':=⟨a.len,λn o hn e=>a.at_ n o (λq=>by
 rcases h n q with h|h
 ·exact hn h
 ·exact absurd (zx e) (by omega)) e⟩
def KB.step{L':List Nat}(a:KB L μ μ1)(b:KB L' μ1 μ2)(h:∀n∈L',n∈L\/μ.length<=n):KB L μ μ2:=⟨yD a.len b.len,λn o hn e=>b.at_ n o (λq=>by
 rcases h n q with h|h
 ·exact hn h
 ·exact absurd (zx e) (by omega)) (a.at_ n o hn e)⟩
variable {G ψ χ:FE}{g g2:φ2}{J:Loc}{Q:D->Mem->Prop}{i j:Int}{d x y:D}{ds xs:List D}
def z9q(h:WE G J μ λx μ1=>∃j:Int,x=.int j/\(-(2^62)<=j/\j<=1000000)/\Q (.loc μ1.length) (μ1++[.lst ((yd j.toNat).map λ(k:Nat) =>.int k)])):WE (zTn G) J μ Q:=by
 obtain⟨x,μ1,e1,j,rfl,h1,q⟩:=h;exact⟨_,_,by simp only[zTn,e1,yr];rw[decide_eq_true h1];rfl,q⟩
def zoA{n:Nat}{bs:List Bool}(h:μ[n]?=some (.lst (bs.map .bl)))(q:Q (.bl (bs.any λb=>b)) μ):WF z6z [.loc n] μ Q:=⟨_,_,by simp[h,any_map,Function.comp_def],q⟩
def zCz(q:Q (.int i) μ):WF z3A [.int i] μ Q:=⟨_,_,rfl,q⟩
def zsz{b:Bool}(q:Q (.int (if b then 1 else 0)) μ):WF z3A [.bl b] μ Q:=⟨_,_,rfl,q⟩
def zrz(q:Q (.int (if j<i then j else i)) μ):WF zfA [.int i,.int j] μ Q:=⟨_,_,rfl,q⟩
def zQy(q:Q (.int (if j>i then j else i)) μ):WF zTA [.int i,.int j] μ Q:=⟨_,_,rfl,q⟩
def zuA{c:FT}(h:WT c J μ λb μ1=>(b=true->WE G J μ1 Q)/\(b=false->WE ψ J μ1 Q)):WE (fIf c G ψ) J μ Q:=by
 obtain⟨b,μ1,e,h1,h2⟩:=h
 cases b with
 |true=>obtain⟨d,μ2,e2,k⟩:=h1 rfl;exact⟨d,μ2,by simp[e,e2],k⟩
 |false=>obtain⟨d,μ2,e2,k⟩:=h2 rfl;exact⟨d,μ2,by simp[e,e2],k⟩
def z2u{l:Nat}{n:Int}(h:μ[l]?=some (.lst xs))(h1:n<=1000)(h2:-(2^62)<=n)(h3:xs.length<=1000)(q:Q (.loc μ.length) (μ++[.lst (yo n.toNat xs).flatten])):W2 zPl (.loc l) (.int n) μ Q :=
 ⟨_,_,by simp only[zPl,h];rw[decide_eq_true ⟨h1,h2,h3⟩];rfl,q⟩
def zeA{lo hi:FO}(h:WE G J μ λx μ1=>WO lo J μ1 λl μ2=>WO hi J μ2 λu μ3=>∃n ds,x=.loc n/\μ3[n]?=some (.lst ds)/\Q (.loc μ3.length) (μ3++[.lst (cutD ds l u)])):WE (fSl G lo hi) J μ Q:=by
 obtain⟨x,μ1,e1,l,μ2,e2,u,μ3,e3,n,ds,rfl,e4,q⟩:=h;exact⟨_,_,by simp[e1,e2,e3,e4]<;>rfl,q⟩
def zny{R:Loc->Mem->Prop}(h:WE G J μ λx μ1=>WE ψ J μ1 λy μ2=>∃(n:Nat)(i:Int)(zs:List D),x=.loc n/\y=.int i/\μ2[n]?=some (.lst zs)/\(0<=i/\i<zs.length)/\R J (μ2.set n (.lst (zs.set i.toNat d)))):WG (gAt G ψ) d J μ R:=by
 obtain⟨x,μ1,e1,y,μ2,e2,n,i,zs,rfl,rfl,e3,hi,q⟩:=h;have e4:ixN zs.length i=some i.toNat:=by unfold ixN;rw[if_pos hi.1,if_pos hi.2]
 exact⟨_,_,by simp[e1,e2,e3,e4]<;>rfl,q⟩
end
abbrev nat(S:List Nat):List D:=S.map λ(k:Nat)=>D.int k
def zld(a b:List Nat):nat (a++b)=nat a++nat b:=map_append
def z1g{α:Type}(f:α->Nat)(l:List α):nat (l.map f)=l.map λa=>D.int (f a:Nat):=map_map
def zdy(S:List Nat)(i k:Nat):nat (S.set i k)=(nat S).set i (.int k):=List.map_set
class Enc(α:Type) where
 d:α->D
 p:α->Xh
 dep:Nat
 rd:∀(μ:Mem)(n:Nat)(a:α),toP μ (n+dep) (d a)=some (p a)
 eq:∀a b:α,Yu (p a) (p b)=true↔a=b
instance:Enc Int:=⟨.int,.int,1,λ_ _ _=>rfl,λa b=>by simp[Yu]⟩
instance:Enc Nat:=⟨λ(k:Nat) =>.int k,λ(k:Nat) =>.int k,1,λ_ _ _=>rfl,λa b=>by simp[Yu];omega⟩
instance:Enc Bool:=⟨.bl,.bool,1,λ_ _ _=>rfl,λa b=>by simp[Yu]⟩
abbrev onD:Option Nat->D
 |none =>.non
 |some k =>.int k
instance:Enc (Option Nat):=⟨onD,fun|none =>.none|some k =>.int k,1,λ_ _ a=>by cases a<;>rfl,λa b=>by cases a<;>cases b<;>simp[Yu];omega⟩
def z8f{α:Type}[Enc α]:∀xs ys:List α,YH (xs.map Enc.p) (ys.map Enc.p)=true↔xs=ys
 |[],[]=>by simp[YH]
 |[],y::ys=>by simp[YH]
 |x::xs,[]=>by simp[YH]
 |x::xs,y::ys=>by
  rw[map_cons,map_cons,YH,yz,Enc.eq,z8f xs ys,List.cons.injEq]
def sX{α:Type}[Enc α](μ:Mem)(n:Nat):∀xs:List α,(xs.map Enc.d).mapM (toP μ (n+Enc.dep α))=some (xs.map Enc.p)
 |[]=>rfl
 |x::xs=>by rw[map_cons,mapM_cons,sX μ n xs,Enc.rd];rfl
instance instEncList{α:Type}[Enc α]:Enc (List α):=⟨λxs =>.tup (xs.map Enc.d),λxs =>.tuple (xs.map Enc.p),Enc.dep α+1,λμ n xs=>by
 show((xs.map Enc.d).mapM (toP μ (n+Enc.dep α))).bind (λps=>some (PyData.tuple ps))=_;rw[sX];rfl,λa b=>by rw[Yu];exact z8f a b⟩
def zRk{μ:Mem}{α:Type}[Enc α](a:α)(h:Enc.dep α<=8):toP μ 8 (Enc.d a)=some (Enc.p a):=by
 have:=Enc.rd μ (8-Enc.dep α) a;rw[Nat.sub_add_cancel h]at this;exact this
def zle{b:Bool}{p:Prop}[Decidable p](h:b=true↔p):b=decide p:=by
 cases b<;>simp_all
section
variable {G ψ χ:FE}{g g2:φ2}{J:Loc}{μ:Mem}{Q:D->Mem->Prop}{i j:Int}{d x y:D}{ds xs:List D}{α:Type}[Enc α][DecidableEq α]
def zAv(a b:α)(q:Q (.bl (decide (a=b))) μ)(hx:x=Enc.d a:=by rfl)(hy:y=Enc.d b:=by rfl)(h:Enc.dep α<=8:=by decide):W2 gEq x y μ Q:=by
 subst hx hy;exact z4z (zRk a h) (zRk b h) (by rw[zle (Enc.eq a b)];exact q)
def ztq(a b:α)(q:Q (.bl (!decide (a=b))) μ)(hx:x=Enc.d a:=by rfl)(hy:y=Enc.d b:=by rfl)(h:Enc.dep α<=8:=by decide):W2 gNe x y μ Q:=by
 subst hx hy;exact zgA (zRk a h) (zRk b h) (by rw[zle (Enc.eq a b)];exact q)
def zVk{n:Nat}(as:List α)(e:μ[n]?=some (.lst (as.map Enc.d)))(h:Enc.dep α<=7):toP μ 8 (.loc n)=some (.list (as.map Enc.p)):=by
 show(match μ[n]? with
  |some (.lst ds)=>(ds.mapM (toP μ 7)).bind λps=>some (PyData.list ps)
  |_=>none)=_
 rw[e];show((as.map Enc.d).mapM (toP μ 7)).bind (λps=>some (PyData.list ps))=_;have:=sX μ (7-Enc.dep α) as;rw[Nat.sub_add_cancel h]at this;rw[this];rfl
def zwA(as bs:List α){m n:Nat}(e1:μ[m]?=some (.lst (as.map Enc.d)))(e2:μ[n]?=some (.lst (bs.map Enc.d)))(q:Q (.bl (decide (as=bs))) μ)(h:Enc.dep α<=7:=by decide):W2 gEq (.loc m) (.loc n) μ Q :=
 z4z (zVk as e1 h) (zVk bs e2 h) (by rw[Yu,zle (z8f as bs)];exact q)
def zhw(as bs:List α){m n:Nat}(e1:μ[m]?=some (.lst (as.map Enc.d)))(e2:μ[n]?=some (.lst (bs.map Enc.d)))(q:Q (.bl (!decide (as=bs))) μ)(h:Enc.dep α<=7:=by decide):W2 gNe (.loc m) (.loc n) μ Q :=
 zgA (zVk as e1 h) (zVk bs e2 h) (by rw[Yu,zle (z8f as bs)];exact q)
def zQk(S:List Nat):(nat S).all zod=true:=List.all_eq_true.mpr λx hx=>by
 obtain⟨k,_,rfl⟩:=List.mem_map.mp hx;rfl
def zxq(k:Nat):∀S:List Nat,((nat S).any λd=>eqF d (.int k))=decide (k∈S):=λS=>by
 refine zle ?_;rw[any_eq_true];constructor
 ·rintro⟨x,hx,e⟩;obtain⟨j,hj,rfl⟩:=List.mem_map.mp hx;have h1:(j:Int)=k:=beq_iff_eq.mp (show((j:Int)==(k:Int))=true from e);have h2:j=k:=by omega
  exact h2▸hj
 ·intro h;exact⟨.int k,List.mem_map.mpr ⟨k,h,rfl⟩,(show((k:Int)==(k:Int))=true from beq_self_eq_true _)⟩
def zAx{k:Nat}{S:List Nat}(h:items μ y=some (nat S))(q:Q (.bl (decide (k∈S))) μ):W2 gIn (.int k) y μ Q:=zzB h rfl (zQk S) (by rw[zxq];exact q)
def zho{k:Nat}{S:List Nat}(h:items μ y=some (nat S))(q:Q (.bl (!decide (k∈S))) μ):W2 zoi (.int k) y μ Q:=zgq h rfl (zQk S) (by rw[zxq];exact q)
def zEj(S:List (Option Nat)):(S.map onD).all zod=true:=List.all_eq_true.mpr λx hx=>by
 obtain⟨k,_,rfl⟩:=List.mem_map.mp hx;cases k<;>rfl
def zQu(a b:Option Nat):eqF (onD a) (onD b)=decide (a=b):=by
 cases a<;>cases b<;>try rfl
 rename_i a b
 show(((a:Nat):Int)==(b:Nat))=decide (some a=some b);rw[xc,beq_iff_eq,decide_eq_true_iff,Xb,Int.natCast_inj]
def zez(k:Option Nat):∀S:List (Option Nat),((S.map onD).any λd=>eqF d (onD k))=decide (k∈S):=λS=>by
 refine zle ?_;rw[any_eq_true];constructor
 ·rintro⟨x,hx,e⟩;obtain⟨j,hj,rfl⟩:=List.mem_map.mp hx;rw[zQu]at e;exact(of_decide_eq_true e)▸hj
 ·intro h;exact⟨onD k,List.mem_map.mpr ⟨k,h,rfl⟩,by rw[zQu];simp⟩
def zTt{n:Nat}{S:List Nat}(h:μ[n]?=some (.lst (nat S)))(q:Q (.int (S.sum:Nat)) μ):WF zSx [.loc n] μ Q:=by
 refine zXA (ns:=S.map λ(k:Nat)=>(k:Int)) (by rw[h];simp) ?_
 have:(S.map λ(k:Nat)=>(k:Int)).sum=((S.sum:Nat):Int):=by
  clear h q
  induction S with
  |nil=>rfl
  |cons a S ih=>rw[map_cons,sum_cons,sum_cons,ih];omega
 rw[this];exact q
def zTc{S:List Nat}{i:Nat}(h:i<S.length):atI (nat S) (i:Int)=some (.int (S.getD i 0:Nat)):=zVe (by simp[h])
end
section
variable {G ψ χ:FE}{g g2:φ2}{J:Loc}{μ:Mem}{Q:D->Mem->Prop}{i j:Int}{d x y:D}{ds xs:List D}
def zif{R:List D->(Mem->Bool)->Mem->Prop}(h:WE G J μ λx μ1=>(∃ds,x=.tup ds/\R (zci ds) yes μ1)\/(∃ds,x=.fz ds/\R (zci ds) yes μ1)\/∃n ds,x=.loc n/\μ1[n]?=some (.lst ds)/\R (zci ds) (zqm n ds) μ1):WI (zyj G) J μ R:=by
 obtain⟨x,μ1,e1,⟨ds,rfl,q⟩|⟨ds,rfl,q⟩|⟨n,ds,rfl,e2,q⟩⟩:=h
 ·exact⟨_,_,_,by simp[e1]<;>rfl,q⟩
 ·exact⟨_,_,_,by simp[e1]<;>rfl,q⟩
 ·exact⟨_,_,_,by simp[e1,e2]<;>rfl,q⟩
def zNs{α:Type}{f:α->D}{xs:List α}{m:Nat}{x:D}(h:(zci (xs.map f))[m]?=some x):∃y,xs[m]?=some y/\x=.tup [.int m,f y]:=by
 obtain⟨z,hz,rfl⟩:=z7n h;rw[yh]at hz
 cases e:xs[m]? with
 |none=>rw[e]at hz;cases hz
 |some y=>rw[e]at hz;cases hz;exact⟨y,rfl,rfl⟩
def zqx{m:GM}(h:WE G J μ λx μ1=>∃n xs,x=.loc n/\μ1[n]?=some (.lst xs)/\WM m (.loc n) [] μ1 Q):WE (zMr m G) J μ Q:=by
 obtain⟨x,μ1,e1,n,xs,rfl,e2,d,μ3,e4,q⟩:=h;exact⟨d,μ3,by simp[e1,e2,e4],q⟩
def zbA{n:Nat}(h:μ[n]?=some (.lst (xs++[d])))(q:Q d (μ.set n (.lst xs))):WM zJy (.loc n) [] μ Q:=⟨_,_,by simp[h]<;>rfl,q⟩
def z8u{n:Nat}(h:μ[n]?=some (.lst xs))(h1:zod d=true)(h2:xs.all zod=true)(q:Q (.int (xs.countP λy=>eqF y d:Nat)) μ):WM zLl (.loc n) [d] μ Q:=⟨_,_,by simp only[zLl,h,h1,h2,Bool.and_self,cond_true],q⟩
def zSt{n k:Nat}{S:List Nat}(h:μ[n]?=some (.lst (nat S)))(hk:k∈S)(q:Q .non (μ.set n (.lst (nat (S.erase k))))):WM zSj (.loc n) [.int k] μ Q:=by
 have e1:nat S=(S.map λ(k:Nat)=>(k:Int)).map D.int:=by simp
 have e2:∀T:List Nat,(T.map λ(k:Nat)=>(k:Int)).erase (k:Int)=(T.erase k).map λ(k:Nat)=>(k:Int):=λT=>by
  induction T with
  |nil=>rfl
  |cons t T ih=>
   rw[map_cons]
   by_cases ht:t=k
   ·subst ht;simp
   ·rw[List.erase_cons_tail (by simp;omega),List.erase_cons_tail (by simpa using ht),ih];rfl
 have e3:(S.map λ(k:Nat)=>(k:Int)).contains (k:Int)=true:=by
  rw[List.contains_iff_mem];exact List.mem_map.mpr ⟨k,hk,rfl⟩
 refine⟨.non,_,?_,q⟩;simp only[zSj,h];rw[e1,zhj];simp only[yr,e3,cond_true,e2];rw[map_map];rfl
variable {nx:Loc->Mem->Prop}{rt:D->Mem->Prop}{bk ct:Loc->Mem->Prop}{p q:FS}
def ziA{i:Nat}{g:φ2}{x:D}(hx:J[i]?=some (some x))(h:WE G J μ λy μ1=>W2 g x y μ1 λd μ2=>nx (J.set i (some d)) μ2):WS (zpz i g G) J μ nx rt bk ct:=by
 obtain⟨y,μ1,e1,d,μ2,e2,k⟩:=h;exact⟨.next _ _,by simp only[zpz,hx,e1,yr,e2],k⟩
def z9y{i j:Int}{Q:D->Mem->Prop}(q:Q (.int (i+j)) μ):W2 zow (.int i) (.int j) μ Q:=⟨_,_,rfl,q⟩
def z0k{c:FT}{body:FS}(I:Nat->Loc->Mem->Prop):∀{n m:Nat} {J:Loc} {μ:Mem},m<n->I m J μ ->
 (∀m J μ,I m J μ->WT c J μ λb μ1=>(b=true->WS body J μ1 (λJ' μ'=>∃m',m'<m/\I m' J' μ') rt nx (λJ' μ'=>∃m',m'<m/\I m' J' μ'))/\(b=false->nx J μ1))->WS (zCm n c body) J μ nx rt bk ct
 |0,m,J,μ,h,_,_=>absurd h (Nat.not_lt_zero _)
 |n+1,m,J,μ,h,h0,hs=>by
  obtain⟨b,μ1,e1,ht,hf⟩:=hs m J μ h0
  cases b with
  |false=>exact⟨.next J μ1,by show zgc c body (n+1) J μ=_;simp only[zgc,e1,yr,cond_false],hf rfl⟩
  |true=>
   obtain⟨o,e2,k⟩:=ht rfl
   have step:∀J' μ',(∃m',m'<m/\I m' J' μ')->∃o,zgc c body n J' μ'=some o/\Ek nx rt bk ct o:=λJ' μ' ⟨m',hm',hI⟩=>by
    obtain⟨o,e,k⟩:=z0k I (n:=n) (m:=m') (by omega) hI hs;exact⟨o,e,k⟩
   cases o with
   |next J' μ'=>obtain⟨o,e3,k3⟩:=step J' μ' k;exact⟨o,by show zgc c body (n+1) J μ=_;simp only[zgc,e1,yr,cond_true,e2];exact e3,k3⟩
   |cont J' μ'=>obtain⟨o,e3,k3⟩:=step J' μ' k;exact⟨o,by show zgc c body (n+1) J μ=_;simp only[zgc,e1,yr,cond_true,e2];exact e3,k3⟩
   |brk J' μ'=>exact⟨.next J' μ',by show zgc c body (n+1) J μ=_;simp only[zgc,e1,yr,cond_true,e2],k⟩
   |ret d μ'=>exact⟨.ret d μ',by show zgc c body (n+1) J μ=_;simp only[zgc,e1,yr,cond_true,e2],k⟩
   |exc _ _ _=>exact k.elim
end
def zyb{α:Type}(f:α->D)(xs:List α)(d:α):zci (xs.map f)=(yd xs.length).map λ(k:Nat) =>.tup [.int k,f (xs.getD k d)]:=by
 refine ext_getElem? λi=>?_;unfold zci;simp only[yh,List.getElem?_zipIdx]
 by_cases h:i<xs.length
 ·simp[h]
 ·simp[h]
abbrev oiD:Option Int->D
 |none =>.non
 |some k =>.int k
instance:Enc (Option Int):=⟨oiD,fun|none =>.none|some k =>.int k,1,λ_ _ a=>by cases a<;>rfl,λa b=>by cases a<;>cases b<;>simp[Yu]⟩
def zit:D->Bool
 |.non=>true
 |_=>false
def zyw{d:D}{μ:Mem}{Q:D->Mem->Prop}(h:zod d=true)(q:Q (.bl (zit d)) μ):W2 gIs d .non μ Q:=by
 cases d<;>first|exact⟨_,_,rfl,q⟩|cases h
def zgf{d:D}{μ:Mem}{Q:D->Mem->Prop}(h:zod d=true)(q:Q (.bl (!zit d)) μ):W2 zWg d .non μ Q:=by
 cases d<;>first|exact⟨_,_,rfl,q⟩|cases h
def zLh(a:Option Nat):zod (onD a)=true:=by cases a<;>rfl
def zby(ds:List D)(h:Nat):Nat:=ds.countP λy=>eqF y (.int h)
def z0t(lay:List (Option Nat))(h:Nat):zby (lay.map onD) h=lay.count (some h):=by
 unfold zby List.count;rw[List.countP_map]
 congr 1
 funext a
 have:=zQu a (some h);show eqF (onD a) (onD (some h))=_;rw[this];exact(Bool.beq_eq_decide_eq a (some h)).symm
def zyu{n:Nat}{lay:List (Option Nat)}{h:Nat}{μ:Mem}{Q:D->Mem->Prop}(e:μ[n]?=some (.lst (lay.map onD)))(q:Q (.int (lay.count (some h):Nat)) μ):WM zLl (.loc n) [.int h] μ Q :=
 z8u e rfl (zEj lay) (by rw[show(lay.map onD).countP (λy=>eqF y (.int h))=lay.count (some h) from z0t lay h];exact q)
def zIm{n m:Nat}{p:Nat->Bool}(h:p m=true)(hlt:m<n)(hb:∀j<m,p j=false):(yd n).find? p=some m:=by
 rw[List.find?_eq_some_iff_append];refine⟨h,yd m,(List.range' (m+1) (n-m-1)),?_,λa ha=>by simp[hb a (by simpa using ha)]⟩
 have:yd n=yd m++List.range' m (n-m):=by
  have e:n=m+(n-m):=by omega
  have:=List.range'_append_1 (s:=0) (m:=m) (n:=n-m);rw[<-e]at this;rw[List.range_eq_range',List.range_eq_range',<-this];simp
 rw[this,show n-m=(n-m-1)+1 by omega,List.range'_succ];simp
def zqh{n:Nat}{p:Nat->Bool}(h:∀j<n,p j=false):(yd n).find? p=none:=by
 rw[List.find?_eq_none];intro x hx;rw[h x (by simpa using hx)];exact yv
section
variable {G ψ χ:FE}{g g2:φ2}{J:Loc}{μ:Mem}{Q:D->Mem->Prop}{i j:Int}{d x y:D}{ds xs:List D}{kvs:List (Int×D)}{n:Nat}
def zbn(h:μ[n]?=some (.dct kvs)):zJc μ (.loc n)=some kvs:=by simp[h]
def zCj(h:μ[n]?=some (.dcf kvs)):zJc μ (.loc n)=some kvs:=by simp[h]
def z8y(h:zJc μ x=some kvs)(h2:zqe kvs i=some d)(q:Q d μ):W2 zix x (.int i) μ Q:=⟨_,_,by simp only[zix,h,yr,h2],q⟩
def zKz(h:zJc μ y=some kvs)(q:Q (.bl (zqe kvs i).isSome) μ):W2 zJq (.int i) y μ Q:=⟨_,_,by simp only[zJq,h,yr],q⟩
def zkz(h:zJc μ y=some kvs)(h2:kvs.all (λp=>decide (0<=p.1/\p.1<1000))=true)(q:Q (.bl false) μ):W2 zJq .non y μ Q:=⟨_,_,by simp only[zJq,h,yr,h2,cond_true],q⟩
def zar(h:zJc μ y=some kvs)(q:Q (.bl (!(zqe kvs i).isSome)) μ):W2 zIj (.int i) y μ Q:=⟨_,_,by simp only[zIj,h,yr],q⟩
def z9u{R:Loc->Mem->Prop}(h:WE G J μ λx μ1=>WE ψ J μ1 λy μ2=>∃(n:Nat)(i:Int)(kvs:List (Int×D)),x=.loc n/\y=.int i/\μ2[n]?=some (.dct kvs)/\kvs.length<=1000000/\R J (μ2.set n (.dct (zLs kvs i d)))):WG (zGy G ψ) d J μ R:=by
 obtain⟨x,μ1,e1,y,μ2,e2,n,i,kvs,rfl,rfl,e3,hi,q⟩:=h;exact⟨_,_,by simp[e1,e2,e3,hi]<;>rfl,q⟩
def zQx(h:zJc μ x=some kvs)(q:Q (.loc μ.length) (μ++[.lst (z5l kvs)])):WF zQo [x] μ Q:=⟨_,_,by simp only[zQo,h,yr],q⟩
def zDx{R:List D->(Mem->Bool)->Mem->Prop}(h:WE G J μ λx μ1=>∃n kvs,x=.loc n/\μ1[n]?=some (.dct kvs)/\R (z5l kvs) yes (μ1.set n (.dcf kvs))):WI (zNx G) J μ R:=by
 obtain⟨x,μ1,e1,n,kvs,rfl,e2,q⟩:=h;exact⟨_,_,_,by simp[e1,e2]<;>rfl,q⟩
def zEw(h:WE G J μ λx μ1=>∃n ds,x=.loc n/\μ1[n]?=some (.lst ds)/\Q (.loc μ1.length) (μ1++[.lst ds.reverse])):WE (zav G) J μ Q:=by
 obtain⟨x,μ1,e1,n,ds,rfl,e2,q⟩:=h;exact⟨_,_,by simp[zav,e1,e2]<;>rfl,q⟩
end
end M
namespace M
open PySem PySem.W PyProof.Rows L2
def zBq{h:Ye}:∀{as:List yg} {a:yg} {o:xa},(kOf as h).lookup a=some o->h.get? a=some o
 |[],a,o,e=>by cases e
 |b::as,a,o,e=>by
  unfold kOf at e;rw[filterMap_cons]at e
  cases hb:h.get? b with
  |none=>rw[hb]at e;exact zBq (as:=as) e
  |some u=>
   rw[hb]at e
   change List.lookup a ((b,u)::kOf as h)=some o at e
   rw[lookup_cons]at e
   by_cases q:a==b
   ·rw[q]at e;cases e;rw[eq_of_beq q];exact hb
   ·rw[Bool.not_eq_true]at q;rw[q]at e;exact zBq (as:=as) e
def zly{h:Ye}:(zfz h).In h:=λ_ _ e=>zBq e
def zJv(s:Yb):zxy s=z6d s:=by cases s<;>rfl
def zAw(s:Yb):z5x s=zCd s:=by cases s<;>rfl
def zgt(s:Yb):zTu s=zp s:=by cases s<;>rfl
def zNv{K:Frag}{a:yg}{nm qual:yF}{st:Yb}(e:zdr K a qual=zbt nm qual st):∃(oc:yb)(od:Option yg)(sl:Array (Option yb)) (kV dc pm:yb) (an:Option yg) (cd ct:yb),
 K.lookup a=some ⟨oc,od,.func (fnOf nm qual (z6d st) (zCd st) (zp st) .none kV dc pm an cd ct),sl⟩/\codeIn K cd qual=true/\keepIn K (.ref a)=true:=by
 rw[<-zJv,<-zAw,<-zgt];unfold zdr at e
 split at e
 ·rename_i oc od fd sl hl
  obtain⟨x1,x2,x3,x4,x5,x6,x7,x8,x9,x10,x11,x12,x13,x14,x15⟩:=fd;have e:=yS e;simp only[TQ.mk.injEq]at e;obtain⟨rfl,rfl,rfl,rfl,rfl,rfl,rfl,rfl,rfl,h1,h2⟩:=e;exact⟨_,_,_,_,_,_,_,_,_,hl,h1,h2⟩
 ·cases e
def fnl{K:Frag}{nm:yF}{st:Yb}{l l':List (Option TQ)}(e:zQ K nm::l=zS nm st::l'):(∃(f:yg)(oc:yb)(od:Option yg)(sl:Array (Option yb)) (kV dc pm:yb) (an:Option yg) (cd ct:yb),
 nsIn K yE nm=some (some (.ref f))/\K.lookup f=some ⟨oc,od,.func (fnOf nm nm (z6d st) (zCd st) (zp st) .none kV dc pm an cd ct),sl⟩/\codeIn K cd nm=true/\keepIn K (.ref f)=true)/\l=l':=by
 obtain⟨h1,h2⟩:=YB e;refine⟨?_,h2⟩;unfold zQ at h1
 split at h1
 ·rename_i a ha
  obtain⟨oc,od,sl,kV,dc,pm,an,cd,ct,q⟩:=zNv (show zdr K a nm=zbt nm nm st from h1);exact⟨a,oc,od,sl,kV,dc,pm,an,cd,ct,ha,q⟩
 ·cases h1
def fnc{K:Frag}{nm:yF}{st:Yb}{l l':List (Option TQ)}(e:zQ K nm::l=zS nm st::l'):(∃(f:yg)(fd:yj),nsIn K yE nm=some (some (.ref f))/\Fun K nm nm st f fd)/\l=l':=by
 obtain⟨⟨f,oc,od,sl,kV,dc,pm,an,cd,ct,a,l,c,k⟩,e⟩:=fnl e;exact⟨⟨f,_,a,zWw l c k⟩,e⟩
def Sj{l:OpenLaw}{q:yy}{loose:List yF}{d:DefRec}{α:Type}{obs:Frag->α}{good:α}{N:Nat}(said:l.wellSaid=true)
 (left:LeftO l.prog q loose (λ_=>true) (λs=>obs (zfz s.heap)) (λ_=>good) N) (hdef:defOf q l.name=some (d,[])) (hp:l.prog.theDef l.name=some (d.params,d.body,d.scope))
 (hk:kwWritten? d.params.kwonlyargs d.params.kw_defaults=some []) (ok:(chainsOk q&&opensWell l.prog&&(frees l.row.toRowW&&l.row.within.isEmpty))=true) (hb:l.prog.bare) (hw:l.row.toRowW.promised)
 (walk:∀K:Frag,obs K=good->WalkO q loose (λ_ _=>True) (λ_ h=>K.In h) l.row.toRowW d [] λf vs=>PySem.call f vs):l.Holds:=by
 refine holds_law said λsaid=>?_
 refine holds_open (r:=l.row) (q:=q) (loose:=loose) (Xt:=λ_=>true) (XP:=λ_ _=>True) (Yf:=λs=>obs (zfz s.heap)) (Ya:=λ_=>good) (YP:=λ_ h=>∃K:Frag,obs K=good/\K.In h) (N:=N) left
  (λw s e=>⟨_,e,zly⟩) (λw h h' ⟨K,e,k⟩ x=>⟨K,e,k.keeps x⟩) (λ_ _=>trivial) (λ_ _ _ _ _=>trivial) hdef hp hk (λs _=>?_) ?_ said ok hb hw (λw s₀ s₁ mg mb φ σ=>?_)
 ·exact(show RecFacts [] s.heap from⟨λx h=>(nomatch h),λx h=>(nomatch h),λc c' a hc=>(nomatch hc),λc fs hf=>(nomatch hf)⟩)
 ·show(!l.row.writes||true)=true;exact Bool.or_true _
 ·obtain⟨K,e,k⟩:=σ;exact walk K e w s₀ s₁ mg mb φ k
end M
namespace P
local macro_rules | `(tactic| walk_at "s") => `(tactic| exact ⟨rfl, rfl, rfl, by decide +kernel, rfl, by decide +kernel, by decide +kernel⟩)
open PySem PySem.Spec PyProof.Rows L2 M
def top(i:Nat):Yb:=PySem.Challenge.pw_keynests_k73_whole_by_other_names.main.body.getD i (.Pass ⟨0,0,0,0⟩)
def zxf:List yF:=["_law_script","_law_k","_law_number"]
def zff:FS:=(z7 (zNb 2 (fC (.int 0))) (z7 (sIf (zX (zy (zPm λi j=>decide (j<i)) (zq z6i (ze (zg 0) zB)) (fC (.int 0)))) (zNb 2 (zy zas (zy gIx (zg 0) (zy zas (zg 1) (zq z6i (ze (zg 0) zB)))) (fC (.int 2305843009213693951)))) zZb) (z7 (zNb 2 (zy zas (zy znm (zy znm (zy znm (zy zPl (zg 2) (fC (.int 48271))) (zy zPl (zy zPl (zg 1) (zg 1)) (fC (.int 40692)))) (zy zPl (fC (.int 7)) (zg 1))) (fC (.int 11))) (fC (.int 2147483647)))) (zMb (zy zas (zy zPl (zg 2) (fC (.int 1181783497276652981))) (fC (.int 2305843009213693951)))))))
def zmd:FF:=λds μ=>zkb (zff (zM zxf ds) μ)
def zQd:List yF:=["_law_script","_law_k"]
def zUd:FS:=(z7 (sIf (zX (zy (zPm λi j=>decide (i<j)) (zg 1) (zq z6i (ze (zg 0) zB)))) (zMb (zy gIx (zg 0) (zg 1))) zZb) (zMb (zq zmd (ze (zg 0) (ze (zg 1) zB)))))
def z1b:FF:=λds μ=>zkb (zUd (zM zQd ds) μ)
def zJm:List yF:=["_law_script","_law_k","_law_cell"]
def z2j:FS:=(z7 (zNb 2 (zq z1b (ze (zg 0) (ze (zg 1) zB)))) (zMb (zgm (ze (zy zas (zg 2) (fC (.int 2))) (ze (zy zAy (zg 2) (fC (.int 2))) (ze (zq z6i (ze (zg 0) zB)) (ze (zy zPl (fC (.int 101)) (zg 1)) zB)))))))
def zNh:FF:=λds μ=>zkb (z2j (zM zJm ds) μ)
def zjg:List yF:=["_law_pen_here","_law_size","_law_digit","_law_at","_law_number"]
def zEg:FS:=(z7 (sIf (zX (zy gEq (zy gIx (zg 0) (fC (.int 0))) (fC (.int 0)))) (z7 (zNb 2 (zy zas (zy gIx (zg 0) (fC (.int 1))) (zg 1))) (z7 (zIr (zy zAy (zy gIx (zg 0) (fC (.int 1))) (zg 1)) (gAt (zg 0) (fC (.int 1)))) (zMb (zg 2)))) zZb) (z7 (zIr (zy znm (zy gIx (zg 0) (fC (.int 3))) (fC (.int 1))) (gAt (zg 0) (fC (.int 3)))) (z7 (zNb 3 (zy gIx (zg 0) (fC (.int 3)))) (z7 (zNb 4 (zy zPl (zy zas (zy gIx (zg 0) (fC (.int 1))) (fC (.int 2305843009213693951))) (fC (.int 48271)))) (z7 (zNb 4 (zy zas (zy znm (zy znm (zy znm (zg 4) (zy zPl (zy zPl (zg 3) (zg 3)) (fC (.int 40692)))) (zy zPl (fC (.int 7)) (zg 3))) (fC (.int 11))) (fC (.int 2147483647)))) (zMb (zy zas (zy zAy (zy zas (zy zPl (zg 4) (fC (.int 1181783497276652981))) (fC (.int 2305843009213693951))) (fC (.int 64))) (zg 1))))))))
def zA:FF:=λds μ=>zkb (zEg (zM zjg ds) μ)
def zsf:FS:=(z7 (zNb 8 (zgm (ze (zq zA (ze (zg 0) (ze (zg 2) zB))) (ze (zq zA (ze (zg 0) (ze (zg 2) zB))) zB)))) (z7 (sIf (zX (zy gEq (zq zA (ze (zg 0) (ze (fC (.int 3)) zB))) (fC (.int 1)))) (zeh (zke zHd (zg 8) (ze (zq zA (ze (zg 0) (ze (zg 2) zB))) zB))) zZb) (zeh (zke zHd (zg 6) (ze (zq zGe (ze (zg 8) zB)) zB)))))
def zCf:FE:=(zy gIx (zgm (ze (zq zA (ze (zg 1) (ze (fC (.int 3)) zB))) (ze (fC (.int 1)) (ze (zq zA (ze (zg 1) (ze (fC (.int 10)) zB))) (ze (zq zA (ze (zg 1) (ze (fC (.int 2)) zB))) zB))))) (zg 2))
def z3m:List yF:=["_law_pen_here","_law_limit","_law_many","_law_kind","_law_rooms","_law_count","_law_keys","_law_k","_law_key"]
def zNj:FS:=(z7 (zNb 2 (zy znm (fC (.int 1)) (zq zA (ze (zg 0) (ze (fC (.int 6)) zB))))) (z7 (sIf (zX (zy gEq (zq zA (ze (zg 0) (ze (fC (.int 8)) zB))) (fC (.int 5)))) (zNb 2 (zy znm (fC (.int 7)) (zq zA (ze (zg 0) (ze (fC (.int 4)) zB))))) zZb) (z7 (zNb 3 (zq zA (ze (zg 0) (ze (fC (.int 4)) zB)))) (z7 (zNb 4 (zq zGe (ze (fLC 1 [0,3] (zTg (ze (zg 2) zB)) (gN 0) zCk zCf) zB))) (z7 (zNb 5 (zq zA (ze (zg 0) (ze (zy znm (zg 1) (fC (.int 1))) zB)))) (z7 (zNb 6 (zgm zB)) (z7 (zxl (zTg (ze (zg 5) zB)) (gN 7) zsf) (zMb (zii (ze (zg 4) (ze (zq zGe (ze (zg 6) zB)) zB)))))))))))
def zFh:FF:=λds μ=>zkb (zNj (zM z3m ds) μ)
def z0j:FS:=(zIr (zg 4) (gAt (zg 2) (zy gIx (zg 1) (zg 3))))
def z5q:List yF:=["things","order","told","place","thing"]
def zLk:FS:=(z7 (zNb 2 (zy zPl (zgm (ze (fC .non) zB)) (zq z6i (ze (zg 0) zB)))) (z7 (zxl (zyj (zg 0)) (gT 2 (zbb (gN 3) (zbb (gN 4) zFe))) z0j) (zMb (zg 2))))
def z8e:FF:=λds μ=>zkb (zLk (zM z5q ds) μ)
def zlk:List yF:=["web","order"]
def znf:FS:=(zMb (zii (ze (zy gIx (zg 0) (fC (.int 0))) (ze (zq zGe (ze (zq z8e (ze (zy gIx (zg 0) (fC (.int 1))) (ze (zg 1) zB))) zB)) zB))))
def zDf:FF:=λds μ=>zkb (znf (zM zlk ds) μ)
def zVh:FS:=(zeh (zke zFl (zg 2) (ze (zq zA (ze (zg 0) (ze (zy znm (zg 3) (fC (.int 1))) zB))) (ze (zg 3) zB))))
def zok:List yF:=["_law_pen_here","_law_many","_law_found","_law_k"]
def zBf:FS:=(z7 (zNb 2 (zgm zB)) (z7 (zxl (zTg (ze (zg 1) zB)) (gN 3) zVh) (zMb (zg 2))))
def zXd:FF:=λds μ=>zkb (zBf (zM zok ds) μ)
def zjh:FE:=(zy gIx (zg 1) (zg 0))
def z9g:FE:=(zq zGe (ze (fLC 1 [1] (zZg (zg 0)) (gN 0) zCk zjh) zB))
def zvj:List yF:=["web","order","keys"]
def zme:FS:=(z7 (zNb 2 (fLC 1 [1] (zZg (zy gIx (zg 0) (fC (.int 1)))) (gN 0) zCk z9g)) (zMb (zii (ze (zq zGe (ze (zq z8e (ze (zy gIx (zg 0) (fC (.int 0))) (ze (zg 1) zB))) zB)) (ze (zq zGe (ze (zg 2) zB)) zB)))))
def zje:FF:=λds μ=>zkb (zme (zM zvj ds) μ)
def zkl:FE:=(zg 0)
def zdm:FT:=(zX (zy (zPm λi j=>decide (j<i)) (zg 0) (fC (.int 0))))
def z7o:List yF:=["worths"]
def zri:FS:=(zMb (zav (zNq (fLC 1 [] (zZg (zg 0)) (gN 0) zdm zkl))))
def z2f:FF:=λds μ=>zkb (zri (zM z7o ds) μ)
def zzo:FE:=(zg 0)
def zYt:FT:=(zX (zy gEq (zg 1) (zg 2)))
def z9s:List yF:=["laying","nest"]
def zbo:FS:=(zMb (fLC 2 [1] (zyj (zg 0)) (gT 2 (zbb (gN 0) (zbb (gN 1) zFe))) zYt zzo))
def zNn:FF:=λds μ=>zkb (zbo (zM z9s ds) μ)
def znj:FS:=(sIf (zX (zy zIj (zg 4) (zg 3))) (z7 (zIr (zii (ze (zg 7) (ze (zy gIx (zg 5) (zg 6)) zB))) (zGy (zg 3) (zg 4))) (zeh (zke zHd (zg 5) (ze (zg 4) zB)))) zZb)
def zQg:FS:=(zxl (zZg (zy gIx (zy gIx (zg 0) (fC (.int 1))) (zg 7))) (gN 4) znj)
def ztj:FS:=(z7 (zxl (zZg (zq zNn (ze (zg 1) (ze (zy gIx (zg 5) (zg 6)) zB)))) (gN 7) zQg) (zpz 6 zow (fC (.int 1))))
def zyi:FS:=(zIr (zii (ze (zg 2) (ze (fC .non) zB))) (zGy (zg 3) (zg 4)))
def z2k:List yF:=["web","laying","key","pushes","nest","nests","at","other"]
def zPg:FS:=(z7 (zNb 3 zKA) (z7 (zxl (zZg (zy gIx (zy gIx (zg 0) (fC (.int 1))) (zg 2))) (gN 4) zyi) (z7 (zNb 5 (zq zQo (ze (zg 3) zB))) (z7 (zNb 6 (fC (.int 0))) (z7 (zCm 100000 (zX (zy (zPm λi j=>decide (i<j)) (zg 6) (zq z6i (ze (zg 5) zB)))) ztj) (zMb (zg 3)))))))
def zDg:FF:=λds μ=>zkb (zPg (zM z2k ds) μ)
def z2v:FE:=(zy zKw (zg 1) (zke zLl (zg 2) (ze (zg 0) zB)))
def zMw:List yF:=["web","laying"]
def zln:FS:=(zMb (fLC 2 [1] (zyj (zy gIx (zg 0) (fC (.int 0)))) (gT 2 (zbb (gN 0) (zbb (gN 1) zFe))) zCk z2v))
def zMl:FF:=λds μ=>zkb (zln (zM zMw ds) μ)
def zkn:FS:=(z7 (zeh (zke zHd (zg 2) (ze (zii (ze (zy gIx (zy zix (zg 0) (zg 1)) (fC (.int 0))) (ze (zg 1) zB))) zB))) (zNb 1 (zy gIx (zy zix (zg 0) (zg 1)) (fC (.int 1)))))
def zzr:List yF:=["pushes","nest","row"]
def zIk:FS:=(z7 (zNb 2 (zgm zB)) (z7 (zCm 100000 (zX (zy zWg (zg 1) (fC .non))) zkn) (zMb (zav (zg 2)))))
def zXk:FF:=λds μ=>zkb (zIk (zM zzr ds) μ)
def zjn:FE:=(zg 0)
def zvm:FT:=(zuu (zX (zy gEq (zg 0) (zg 2))) (zX (zy zJq (zg 1) (zg 3))))
def zen:FS:=(sIf (zX (zy (zPm λi j=>decide (j<i)) (zy gIx (zg 4) (zg 5)) (fC (.int 0)))) (zMb (zii (ze (fC (.str "put")) (ze (zq zXk (ze (zg 3) (ze (zg 5) zB))) zB)))) zZb)
def zfr:List yF:=["web","laying","key","pushes","room","nest"]
def zPk:FS:=(z7 (zNb 3 (zq zDg (ze (zg 0) (ze (zg 1) (ze (zg 2) zB))))) (z7 (zNb 4 (zq zMl (ze (zg 0) (ze (zg 1) zB)))) (z7 (zxl (zNx (zg 3)) (gN 5) zen) (zMb (zii (ze (fC (.str "full")) (ze (fLC 2 [2,3] (zyj (zg 1)) (gT 2 (zbb (gN 0) (zbb (gN 1) zFe))) zvm zjn) zB)))))))
def zMg:FF:=λds μ=>zkb (zPk (zM zfr ds) μ)
def zYs:FS:=(sIf (zX (zy (zPm λi j=>decide (i<j)) (zg 4) (fC (.int 0)))) (zMb (zii (ze (fC (.str "room")) (ze (zg 3) zB)))) zZb)
def zPu:FS:=(sIf (zep (zX (zy zWg (zg 3) (fC .non))) (zX (zy zoi (zg 3) (zy gIx (zy gIx (zg 0) (fC (.int 1))) (zg 2))))) (zMb (zii (ze (fC (.str "home")) (ze (zg 2) zB)))) zZb)
def zst:List yF:=["web","laying","key","nest","room"]
def z2n:FS:=(z7 (zxl (zyj (zg 1)) (gT 2 (zbb (gN 2) (zbb (gN 3) zFe))) zPu) (z7 (zxl (zyj (zq zMl (ze (zg 0) (ze (zg 1) zB)))) (gT 2 (zbb (gN 3) (zbb (gN 4) zFe))) zYs) (zMb (fC .non))))
def zMf:FF:=λds μ=>zkb (z2n (zM zst ds) μ)
def zUl:FE:=(zy gIx (zg 0) (fC (.int 0)))
def zbp:List yF:=["web","laying","row","at","key"]
def zsj:FS:=(z7 (zNb 4 (zy gIx (zy gIx (zg 2) (zg 3)) (fC (.int 0)))) (z7 (sIf (zuu (zX (zy (zPm λi j=>decide (i<j)) (zg 4) (fC (.int 0)))) (zX (zy (zPm λi j=>decide (j<=i)) (zg 4) (zq z6i (ze (zg 1) zB))))) (zMb (fC (.bl false))) zZb) (z7 (sIf (zuu (zX (zy zoi (zy gIx (zy gIx (zg 2) (zg 3)) (fC (.int 1))) (zy gIx (zy gIx (zg 0) (fC (.int 1))) (zg 4)))) (zX (zy gEq (zy gIx (zy gIx (zg 2) (zg 3)) (fC (.int 1))) (zy gIx (zg 1) (zg 4))))) (zMb (fC (.bl false))) zZb) (zMb (zy zoi (zg 4) (fLC 1 [] (zZg (fSl (zg 2) pNo (zUx (zg 3)))) (gN 0) zCk zUl))))))
def zxj:FF:=λds μ=>zkb (zsj (zM zbp ds) μ)
def z8o:List yF:=["laying","key","row","at"]
def zmi:FS:=(z7 (sIf (zX (zy gEq (zg 3) (fC (.int 0)))) (zMb (zy gEq (zy gIx (zy gIx (zg 2) (fC (.int 0))) (fC (.int 0))) (zg 1))) zZb) (zMb (zy gEq (zy gIx (zg 0) (zy gIx (zy gIx (zg 2) (zg 3)) (fC (.int 0)))) (zy gIx (zy gIx (zg 2) (zy zKw (zg 3) (fC (.int 1)))) (fC (.int 1))))))
def zSi:FF:=λds μ=>zkb (zmi (zM z8o ds) μ)
def zHm:FS:=(z7 (sIf (zPt (zep (zX (zq zxj (ze (zg 0) (ze (zg 1) (ze (zg 3) (ze (zg 5) zB)))))) (zX (zq zSi (ze (zg 1) (ze (zg 2) (ze (zg 3) (ze (zg 5) zB)))))))) zXt zZb) (zIr (zy gIx (zg 6) (fC (.int 1))) (gAt (zg 4) (zy gIx (zg 6) (fC (.int 0))))))
def znr:List yF:=["web","laying","key","row","behind","at","push"]
def zUk:FS:=(z7 (zNb 4 (zq zbs (ze (zg 1) zB))) (z7 (zxl (zyj (zg 3)) (gT 2 (zbb (gN 5) (zbb (gN 6) zFe))) zHm) (z7 (sIf (zuu (zX (zy gEq (zq z6i (ze (zg 3) zB)) (fC (.int 0)))) (zX (zy zWg (zq zMf (ze (zg 0) (ze (zg 4) zB))) (fC .non)))) zXt zZb) (zMb (zg 4)))))
def zKk:FF:=λds μ=>zkb (zUk (zM znr ds) μ)
def zZi:FS:=(z7 (zNb 5 (zq zMg (ze (zg 0) (ze (zg 1) (ze (zg 4) zB))))) (sIf (zX (zy gEq (zy gIx (zg 5) (fC (.int 0))) (fC (.str "put")))) (zNb 1 (zq zKk (ze (zg 0) (ze (zg 1) (ze (zg 4) (ze (zy gIx (zg 5) (fC (.int 1))) zB)))))) (zeh (zke zSw (zg 3) (ze (zy gIx (zg 5) (fC (.int 1))) zB)))))
def zdl:List yF:=["web","laying","keys","crowded","key","told"]
def zCg:FS:=(z7 (zNb 3 (zgm zB)) (z7 (zxl (zZg (zg 2)) (gN 4) zZi) (zMb (zii (ze (zg 1) (ze (zNq (zg 3)) zB))))))
def zMd:FF:=λds μ=>zkb (zCg (zM zdl ds) μ)
def zKr:FE:=(zg 0)
def zFv:FT:=(zX (zy zWg (zg 1) (fC .non)))
def z5w:List yF:=["laying"]
def zQq:FS:=(zMb (fLC 2 [] (zyj (zg 0)) (gT 2 (zbb (gN 0) (zbb (gN 1) zFe))) zFv zKr))
def zpn:FF:=λds μ=>zkb (zQq (zM z5w ds) μ)
def zhk:FS:=(zeh (zke zSw (zg 2) (ze (zy gIx (zy gIx (zg 0) (fC (.int 1))) (zg 3)) zB)))
def zVm:List yF:=["web","some","found","key"]
def zBh:FS:=(z7 (zNb 2 (zgm zB)) (z7 (zxl (zZg (zg 1)) (gN 3) zhk) (zMb (zNq (zg 2)))))
def zed:FF:=λds μ=>zkb (zBh (zM zVm ds) μ)
def zBr:FE:=(zg 0)
def zAr:FT:=(zX (zy gEq (zg 1) (zg 2)))
def zhr:FS:=(z7 (zNb 6 (zq zMd (ze (zg 0) (ze (zg 2) (ze (fLC 2 [5] (zyj (zg 1)) (gT 2 (zbb (gN 0) (zbb (gN 1) zFe))) zAr zBr) zB))))) (z7 (zNb 2 (zy gIx (zg 6) (fC (.int 0)))) (z7 (zeh (zke zSw (zg 3) (ze (zy gIx (zg 6) (fC (.int 1))) zB))) (zeh (zke zHd (zg 4) (ze (zii (ze (zg 5) (ze (zq zed (ze (zg 0) (ze (zg 3) zB))) zB))) zB))))))
def z0w:List yF:=["web","worths","laying","crowded","shows","worth","told"]
def zFr:FS:=(z7 (zNb 2 (zy zPl (zgm (ze (fC .non) zB)) (zq z6i (ze (zy gIx (zg 0) (fC (.int 1))) zB)))) (z7 (zNb 3 (zgm zB)) (z7 (zNb 4 (zgm zB)) (z7 (zxl (zZg (zq z2f (ze (zg 1) zB))) (gN 5) zhr) (zMb (zii (ze (zq zpn (ze (zg 2) zB)) (ze (zg 2) (ze (zg 4) zB)))))))))
def zBo:FF:=λds μ=>zkb (zFr (zM z0w ds) μ)
def zAl:FE:=(zy gIx (zy gIx (zg 1) (fC (.int 0))) (zg 0))
def zyp:List yF:=["web","nests"]
def zpi:FS:=(zMb (zq zSx (ze (fLC 1 [0] (zZg (zg 1)) (gN 0) zCk zAl) zB)))
def zRf:FF:=λds μ=>zkb (zpi (zM zyp ds) μ)
def zQe:FE:=(zy zoi (zg 0) (zg 1))
def zUf:List yF:=["homes","nests"]
def zAc:FS:=(zMb (zq z6z (ze (fLC 1 [1] (zZg (zg 0)) (gN 0) zCk zQe) zB)))
def ztc:FF:=λds μ=>zkb (zAc (zM zUf ds) μ)
def zAp:FE:=(zg 0)
def zDo:FT:=(zX (zq ztc (ze (zg 0) (ze (zg 1) zB))))
def zjt:List yF:=["web","nests"]
def ztn:FS:=(zMb (zy znm (zq zRf (ze (zg 0) (ze (zg 1) zB))) (zq z6i (ze (fLC 1 [1] (zZg (zy gIx (zg 0) (fC (.int 1)))) (gN 0) zDo zAp) zB))))
def zSg:FF:=λds μ=>zkb (ztn (zM zjt ds) μ)
def zmk:FE:=(zg 0)
def zek:FT:=(zX (zy gIn (zg 0) (zg 1)))
def zpk:FE:=(zy gIx (zy gIx (zg 1) (fC (.int 1))) (zg 0))
def zfk:FE:=(zg 0)
def zrk:FT:=(zX (zy (zPm λi j=>decide (j<=i)) (zg 1) (zy gIx (zg 2) (fC (.int 0)))))
def zDm:List yF:=["web","worths","some","show","worthy","alone"]
def zDh:FS:=(z7 (zNb 4 (fLC 2 [3] (zyj (zg 1)) (gT 2 (zbb (gN 0) (zbb (gN 1) zFe))) zrk zfk)) (z7 (zNb 5 (zii (ze (zy gIx (zg 0) (fC (.int 0))) (ze (zq zGe (ze (fLC 1 [0] (zZg (zg 4)) (gN 0) zCk zpk) zB)) zB)))) (zMb (zy gEq (zq z6i (ze (fLC 1 [4] (zZg (zg 2)) (gN 0) zek zmk) zB)) (zq zSg (ze (zg 5) (ze (zy gIx (zg 3) (fC (.int 1))) zB)))))))
def zGh:FF:=λds μ=>zkb (zDh (zM zDm ds) μ)
def zRl:FE:=(zq zGh (ze (zg 1) (ze (zg 2) (ze (zg 3) (ze (zg 0) zB)))))
def zyl:FE:=(zy gIx (zg 0) (fC (.int 0)))
def zhp:List yF:=["web","worths","told","some","shows"]
def zsi:FS:=(z7 (zNb 3 (zy gIx (zg 2) (fC (.int 0)))) (z7 (zNb 4 (zy gIx (zg 2) (fC (.int 2)))) (z7 (sIf (zuu (zX (zy zWg (zq zMf (ze (zg 0) (ze (zy gIx (zg 2) (fC (.int 1))) zB))) (fC .non))) (zX (zy gNe (zq zpn (ze (zy gIx (zg 2) (fC (.int 1))) zB)) (zg 3)))) (zMb (fC (.bl false))) zZb) (z7 (sIf (zX (zy gNe (fLC 1 [] (zZg (zg 4)) (gN 0) zCk zyl) (zq z2f (ze (zg 1) zB)))) (zMb (fC (.bl false))) zZb) (zMb (zq zYz (ze (fLC 1 [0,1,3] (zZg (zg 4)) (gN 0) zCk zRl) zB)))))))
def zfj:FF:=λds μ=>zkb (zsi (zM zhp ds) μ)
def zZh:FE:=(zy gIx (zg 1) (zg 0))
def zak:List yF:=["some","order"]
def z7e:FS:=(zMb (zq zoo (ze (fLC 1 [1] (zZg (zg 0)) (gN 0) zCk zZh) zB)))
def z8:FF:=λds μ=>zkb (z7e (zM zak ds) μ)
def zUg:List yF:=["laying","order"]
def z0c:FS:=(zMb (zq z8e (ze (zg 0) (ze (zg 1) zB))))
def zZc:FF:=λds μ=>zkb (z0c (zM zUg ds) μ)
def zsk:List yF:=["nest","order"]
def z5e:FS:=(z7 (sIf (zuu (zX (zy gIs (zg 0) (fC .non))) (zuu (zX (zy (zPm λi j=>decide (i<j)) (zg 0) (fC (.int 0)))) (zX (zy (zPm λi j=>decide (j<=i)) (zg 0) (zq z6i (ze (zg 1) zB)))))) (zMb (zg 0)) zZb) (zMb (zy gIx (zg 1) (zg 0))))
def zAf:FF:=λds μ=>zkb (z5e (zM zsk ds) μ)
def zHe:FE:=(zq zAf (ze (zg 0) (ze (zg 1) zB)))
def zfg:List yF:=["laying","order"]
def zpc:FS:=(zMb (fLC 1 [1] (zZg (zg 0)) (gN 0) zCk zHe))
def zyc:FF:=λds μ=>zkb (zpc (zM zfg ds) μ)
def zNm:List yF:=["_law_laying","_law_orders"]
def zRh:FS:=(zMb (zq zZc (ze (zq zyc (ze (zg 0) (ze (zy gIx (zg 1) (fC (.int 0))) zB))) (ze (zy gIx (zg 1) (fC (.int 1))) zB))))
def zcd:FF:=λds μ=>zkb (zRh (zM zNm ds) μ)
def zPe:FE:=(zii (ze (zg 0) (ze (zq z8 (ze (zg 1) (ze (zy gIx (zg 2) (fC (.int 0))) zB))) zB)))
def zhi:FE:=(zy gIx (zg 1) (zg 0))
def z5h:FE:=(zy gIx (zg 1) (zg 0))
def zMe:FE:=(zy gIx (zg 1) (zke z7m (zy gIx (zg 2) (fC (.int 1))) (ze (zg 0) zB)))
def z3c:FE:=(zq zA (ze (zg 1) (ze (fC (.int 10)) zB)))
def zdg:List yF:=["_law_pen_here","_law_web_here","_law_other","_law_orders","_law_worths","_law_later","_law_some_here","_law_laying","_law_shows","_law_others","_law_led_here"]
def zEc:FS:=(z7 (zNb 4 (fLC 1 [0] (zZg (zy gIx (zg 1) (fC (.int 1)))) (gN 0) zCk z3c)) (z7 (zNb 5 (fLC 1 [4,3] (zTg (ze (zq z6i (ze (zg 4) zB)) zB)) (gN 0) zCk zMe)) (z7 (zIr (zq zBo (ze (zg 1) (ze (zg 4) zB))) (gT 3 (zbb (gN 6) (zbb (gN 7) (zbb (gN 8) zFe))))) (z7 (zNb 9 (zy gIx (zq zBo (ze (zg 2) (ze (zg 5) zB))) (fC (.int 0)))) (z7 (sIf (zX (zy gNe (zq zSx (ze (fLC 1 [4] (zZg (zg 6)) (gN 0) zCk zhi) zB)) (zq zSx (ze (fLC 1 [5] (zZg (zg 9)) (gN 0) zCk z5h) zB)))) (zMb (fC (.bl false))) zZb) (z7 (zNb 10 (fLC 2 [3] (zZg (zg 8)) (gT 2 (zbb (gN 0) (zbb (gN 1) zFe))) zCk zPe)) (zMb (zq zfj (ze (zg 2) (ze (zg 5) (ze (zii (ze (zq z8 (ze (zg 6) (ze (zy gIx (zg 3) (fC (.int 1))) zB))) (ze (zq zcd (ze (zg 7) (ze (zg 3) zB))) (ze (zg 10) zB)))) zB)))))))))))
def zwc:FF:=λds μ=>zkb (zEc (zM zdg ds) μ)
def z8g:FS:=(sIf (zep (zX (zy gIs (zg 6) (fC .non))) (zep (zX (zy (zPm λi j=>decide (j<i)) (zy gIx (zg 2) (zg 7)) (fC (.int 0)))) (zX (zy (zPm λi j=>decide (j<i)) (zq zA (ze (zg 0) (ze (fC (.int 6)) zB))) (fC (.int 0)))))) (zNb 6 (zg 7)) zZb)
def z3g:FS:=(z7 (zNb 5 (zq zA (ze (zg 0) (ze (zq z6i (ze (zg 4) zB)) zB)))) (z7 (zNb 6 (fC .non)) (z7 (zxl (zZg (zy znm (fSl (zg 4) (zUx (zg 5)) pNo) (fSl (zg 4) pNo (zUx (zg 5))))) (gN 7) z8g) (z7 (sIf (zX (zy zWg (zg 6) (fC .non))) (zIr (zy zKw (zy gIx (zg 2) (zg 6)) (fC (.int 1))) (gAt (zg 2) (zg 6))) zZb) (zeh (zke zHd (zg 3) (ze (zg 6) zB)))))))
def zrj:List yF:=["_law_pen_here","_law_web_here","_law_room","_law_laying","_law_key","_law_start","_law_nest","_law_home"]
def zvg:FS:=(z7 (zNb 2 (zq zbs (ze (zy gIx (zg 1) (fC (.int 0))) zB))) (z7 (zNb 3 (zgm zB)) (z7 (zxl (zZg (zy gIx (zg 1) (fC (.int 1)))) (gN 4) z3g) (zMb (zg 3)))))
def zce:FF:=λds μ=>zkb (zvg (zM zrj ds) μ)
def zWi:List yF:=["web"]
def zie:FS:=(zMb (zq zMd (ze (zg 0) (ze (zy zPl (zgm (ze (fC .non) zB)) (zq z6i (ze (zy gIx (zg 0) (fC (.int 1))) zB))) (ze (zTn (zq z6i (ze (zy gIx (zg 0) (fC (.int 1))) zB))) zB)))))
def zqc:FF:=λds μ=>zkb (zie (zM zWi ds) μ)
def zRm:List yF:=["web","some"]
def zwh:FS:=(zMb (zy (zPm λi j=>decide (i<j)) (zq zRf (ze (zg 0) (ze (zq zed (ze (zg 0) (ze (zg 1) zB))) zB))) (zq z6i (ze (zg 1) zB))))
def zvc:FF:=λds μ=>zkb (zwh (zM zRm ds) μ)
def zHi:FE:=(zg 0)
def zCn:FT:=(zX (zy gNe (zg 0) (zg 1)))
def z8i:FS:=(sIf (zX (zq zvc (ze (zg 0) (ze (fLC 1 [2] (zZg (zg 1)) (gN 0) zCn zHi) zB)))) (zMb (zg 2)) zZb)
def z1k:List yF:=["web","some","key"]
def zLg:FS:=(z7 (zxl (zZg (zg 1)) (gN 2) z8i) (zMb (fC .non)))
def zWe:FF:=λds μ=>zkb (zLg (zM z1k ds) μ)
def zZl:FS:=(z7 (zeh (zke zSj (zg 2) (ze (zg 3) zB))) (zNb 3 (zq zWe (ze (zg 0) (ze (zg 2) zB)))))
def zGo:List yF:=["web","some","rest","spare"]
def z9i:FS:=(z7 (zNb 2 (zq zbs (ze (zg 1) zB))) (z7 (zNb 3 (zq zWe (ze (zg 0) (ze (zg 2) zB)))) (z7 (zCm 100000 (zX (zy zWg (zg 3) (fC .non))) zZl) (zMb (zg 2)))))
def zAi:FF:=λds μ=>zkb (z9i (zM zGo ds) μ)
def z1q:List yF:=["web","told"]
def zOk:FS:=(z7 (zNb 1 (zq zqc (ze (zg 0) zB))) (z7 (sIf (zX (zy gEq (zy gIx (zg 1) (fC (.int 1))) (zgm zB))) (zMb (zii (ze (fC (.str "fits")) (ze (zy gIx (zg 1) (fC (.int 0))) zB)))) zZb) (zMb (zii (ze (fC (.str "crowd")) (ze (zq zAi (ze (zg 0) (ze (zy gIx (zg 1) (fC (.int 1))) zB))) zB))))))
def zNg:FF:=λds μ=>zkb (zOk (zM z1q ds) μ)
def zZo:List yF:=["web","key","nest"]
def zbj:FS:=(zMb (zii (ze (zy gIx (zg 0) (fC (.int 0))) (ze (zy znm (zy znm (fSl (zy gIx (zg 0) (fC (.int 1))) pNo (zUx (zg 1))) (zii (ze (zii (ze (zg 2) (ze (zg 2) zB))) zB))) (fSl (zy gIx (zg 0) (fC (.int 1))) (zUx (zy znm (zg 1) (fC (.int 1)))) pNo)) zB))))
def zFi:FF:=λds μ=>zkb (zbj (zM zZo ds) μ)
def zhq:FE:=(zg 0)
def zFq:FT:=(zX (zy gNe (zg 0) (zg 1)))
def zrp:List yF:=["web","key","nest","told"]
def zUi:FS:=(z7 (sIf (zX (zy gEq (zy gIx (zy gIx (zg 0) (fC (.int 0))) (zg 2)) (fC (.int 0)))) (zMb (zii (ze (fC (.str "never")) (ze (zgm zB) zB)))) zZb) (z7 (zNb 3 (zq zNg (ze (zq zFi (ze (zg 0) (ze (zg 1) (ze (zg 2) zB)))) zB))) (z7 (sIf (zX (zy gEq (zy gIx (zg 3) (fC (.int 0))) (fC (.str "fits")))) (zMb (zii (ze (fC (.str "lies")) (ze (zy gIx (zg 3) (fC (.int 1))) zB)))) zZb) (zMb (zii (ze (fC (.str "never")) (ze (fLC 1 [1] (zZg (zy gIx (zg 3) (fC (.int 1)))) (gN 0) zFq zhq) zB)))))))
def z5f:FF:=λds μ=>zkb (zUi (zM zrp ds) μ)
def zrd:FS:=(z7 (zNb 7 (zy gIx (zy gIx (zy gIx (zg 1) (fC (.int 1))) (zg 6)) (zq zA (ze (zg 0) (ze (zq z6i (ze (zy gIx (zy gIx (zg 1) (fC (.int 1))) (zg 6)) zB)) zB))))) (z7 (zNb 8 (zy gIx (zy gIx (zg 3) (fC (.int 1))) (zg 6))) (z7 (sIf (zX (zy gNe (zy gIx (zq z5f (ze (zg 1) (ze (zg 6) (ze (zg 7) zB)))) (fC (.int 0))) (zy gIx (zq z5f (ze (zg 2) (ze (zg 8) (ze (zy gIx (zy gIx (zg 3) (fC (.int 0))) (zg 7)) zB)))) (fC (.int 0))))) (zMb (fC (.bl false))) zZb) (sIf (zX (zy gIs (zy gIx (zg 4) (zg 6)) (fC .non))) (z7 (zIr (zq zMg (ze (zg 1) (ze (zg 4) (ze (zg 6) zB)))) (gT 2 (zbb (gN 9) (zbb (gN 10) zFe)))) (z7 (zNb 11 (zq zMg (ze (zg 2) (ze (zg 5) (ze (zg 8) zB))))) (z7 (sIf (zuu (zX (zy gNe (zy gIx (zg 11) (fC (.int 0))) (zg 9))) (zX (zy gNe (zq z6i (ze (zy gIx (zg 11) (fC (.int 1))) zB)) (zq z6i (ze (zg 10) zB))))) (zMb (fC (.bl false))) zZb) (sIf (zep (zX (zy gEq (zg 9) (fC (.str "full")))) (zX (zy gNe (zy gIx (zg 11) (fC (.int 1))) (zq z8 (ze (zg 10) (ze (zy gIx (zg 3) (fC (.int 1))) zB)))))) (zMb (fC (.bl false))) zZb)))) zZb))))
def zYg:List yF:=["_law_pen_here","_law_web_here","_law_other","_law_orders","_law_laying","_law_there","_law_key","_law_nest","_law_one","_law_word","_law_thing","_law_heard"]
def zYc:FS:=(z7 (zNb 4 (zq zce (ze (zg 0) (ze (zg 1) zB)))) (z7 (zNb 5 (zq zcd (ze (zg 4) (ze (zg 3) zB)))) (z7 (sIf (zX (zy zWg (zq zMf (ze (zg 2) (ze (zg 5) zB))) (fC .non))) (zMb (fC (.bl false))) zZb) (z7 (zxl (zTg (ze (zq z6i (ze (zg 4) zB)) zB)) (gN 6) zrd) (zMb (fC (.bl true)))))))
def zXc:FF:=λds μ=>zkb (zYc (zM zYg ds) μ)
def zcg:List yF:=["_law_web_here","_law_other","_law_orders","_law_word","_law_thing","_law_heard"]
def zzc:FS:=(z7 (zIr (zq zNg (ze (zg 0) zB)) (gT 2 (zbb (gN 3) (zbb (gN 4) zFe)))) (z7 (sIf (zX (zy gNe (zy gIx (zq zNg (ze (zg 1) zB)) (fC (.int 0))) (zg 3))) (zMb (fC (.bl false))) zZb) (z7 (sIf (zX (zy gEq (zg 3) (fC (.str "crowd")))) (zMb (zq zvc (ze (zg 1) (ze (zq z8 (ze (zg 4) (ze (zy gIx (zg 2) (fC (.int 1))) zB))) zB)))) zZb) (z7 (zNb 5 (zq zcd (ze (zg 4) (ze (zg 2) zB)))) (zMb (z5z (zy gIs (zq zMf (ze (zg 1) (ze (zg 5) zB))) (fC .non)) (zy zoi (fC .non) (zg 5))))))))
def zCc:FF:=λds μ=>zkb (zzc (zM zcg ds) μ)
def zij:FE:=(zg 0)
def zdj:FT:=(zX (zy gEq (zq zA (ze (zg 1) (ze (fC (.int 2)) zB))) (fC (.int 1))))
def z4l:List yF:=["_law_pen_here","_law_many"]
def zkg:FS:=(zMb (fLC 1 [0] (zTg (ze (zg 1) zB)) (gN 0) zdj zij))
def zUe:FF:=λds μ=>zkb (zkg (zM z4l ds) μ)
def zzj:FS:=(sIf (zep (zX (zy gIn (zg 4) (zg 5))) (zX (zy zIj (zg 6) (zg 2)))) (z7 (zIr (fC (.bl true)) (zGy (zg 2) (zg 6))) (zeh (zke zHd (zg 3) (ze (zg 6) zB)))) zZb)
def zKi:FS:=(zxl (zZg (zg 5)) (gN 6) zzj)
def zxg:FS:=(z7 (zNb 4 (zMr zJy (zg 3))) (zxl (zZg (zy gIx (zg 0) (fC (.int 1)))) (gN 5) zKi))
def zYl:List yF:=["web","nest","nests","rest","here","homes","other"]
def zHg:FS:=(z7 (zNb 2 (zXz (zg 1) (fC (.bl true)))) (z7 (zNb 3 (zgm (ze (zg 1) zB))) (z7 (zCm 100000 (zX (zy gNe (zg 3) (zgm zB))) zxg) (zMb (zq zJo (ze (zg 2) zB))))))
def zog:FF:=λds μ=>zkb (zHg (zM zYl ds) μ)
def zTl:FE:=(zg 0)
def z9l:FT:=(zX (zy gIn (zy gIx (zg 1) (fC (.int 0))) (zg 2)))
def zgp:List yF:=["web","nest","nests"]
def zDi:FS:=(z7 (zNb 2 (zq zog (ze (zg 0) (ze (zg 1) zB)))) (zMb (zii (ze (zg 2) (ze (fLC 2 [2] (zyj (zy gIx (zg 0) (fC (.int 1)))) (gT 2 (zbb (gN 0) (zbb (gN 1) zFe))) z9l zTl) zB)))))
def zli:FF:=λds μ=>zkb (zDi (zM zgp ds) μ)
def zQp:FE:=(zg 1)
def zBp:FT:=(zX (zy gEq (zy gIx (zy gIx (zg 1) (fC (.int 0))) (fC (.int 0))) (zg 0)))
def zyo:FE:=(zq zli (ze (zg 1) (ze (zg 0) zB)))
def znu:List yF:=["web","found"]
def z8n:FS:=(z7 (zNb 1 (fLC 1 [0] (zTg (ze (zq z6i (ze (zy gIx (zg 0) (fC (.int 0))) zB)) zB)) (gN 0) zCk zyo)) (zMb (fLC 2 [] (zyj (zg 1)) (gT 2 (zbb (gN 0) (zbb (gN 1) zFe))) zBp zQp)))
def zol:FF:=λds μ=>zkb (z8n (zM znu ds) μ)
def z1w:List yF:=["web","told"]
def zqr:FS:=(z7 (zNb 1 (zq zqc (ze (zg 0) zB))) (zMb (zii (ze (zy gIx (zg 1) (fC (.int 0))) (ze (zq zed (ze (zg 0) (ze (zy gIx (zg 1) (fC (.int 1))) zB))) zB)))))
def zxo:FF:=λds μ=>zkb (zqr (zM z1w ds) μ)
def zZe:FE:=(zii (ze (zq z8 (ze (zg 0) (ze (zy gIx (zg 2) (fC (.int 0))) zB))) (ze (zq z8 (ze (zg 1) (ze (zy gIx (zg 2) (fC (.int 1))) zB))) zB)))
def z1f:List yF:=["_law_pen_here","_law_web_here","_law_other","_law_orders","_law_some_here","_law_nests","_law_due"]
def zGc:FS:=(z7 (zNb 4 (zq zUe (ze (zg 0) (ze (zq z6i (ze (zy gIx (zg 1) (fC (.int 1))) zB)) zB)))) (z7 (zNb 5 (zq zUe (ze (zg 0) (ze (zq z6i (ze (zy gIx (zg 1) (fC (.int 0))) zB)) zB)))) (z7 (sIf (zX (zy gNe (zq zvc (ze (zg 1) (ze (zg 4) zB))) (zq zvc (ze (zg 2) (ze (zq z8 (ze (zg 4) (ze (zy gIx (zg 3) (fC (.int 1))) zB))) zB))))) (zMb (fC (.bl false))) zZb) (z7 (sIf (zX (zy gNe (zq zSg (ze (zg 1) (ze (zg 5) zB))) (zq zSg (ze (zg 2) (ze (zq z8 (ze (zg 5) (ze (zy gIx (zg 3) (fC (.int 0))) zB))) zB))))) (zMb (fC (.bl false))) zZb) (z7 (sIf (zX (zy gNe (zq zSg (ze (zg 1) (ze (zy gIx (zq zxo (ze (zg 1) zB)) (fC (.int 1))) zB))) (zq zSg (ze (zg 2) (ze (zy gIx (zq zxo (ze (zg 2) zB)) (fC (.int 1))) zB))))) (zMb (fC (.bl false))) zZb) (z7 (zNb 6 (fLC 2 [3] (zZg (zq zol (ze (zg 1) zB))) (gT 2 (zbb (gN 0) (zbb (gN 1) zFe))) zCk zZe)) (zMb (zy gEq (zq zol (ze (zg 2) zB)) (zq zOm (ze (zg 6) zB))))))))))
def zkc:FF:=λds μ=>zkb (zGc (zM z1f ds) μ)
def zoz:List yF:=["_law_script","_law_pen_here","_law_web_here","_law_orders","_law_other"]
def zKv:FS:=(z7 (zNb 1 (zq zNh (ze (zg 0) (ze (fC (.int 0)) zB)))) (z7 (zNb 2 (zq zFh (ze (zg 1) (ze (fC (.int 12)) zB)))) (z7 (zNb 3 (zgm (ze (zq zXd (ze (zg 1) (ze (zq z6i (ze (zy gIx (zg 2) (fC (.int 0))) zB)) zB))) (ze (zq zXd (ze (zg 1) (ze (zq z6i (ze (zy gIx (zg 2) (fC (.int 1))) zB)) zB))) zB)))) (z7 (zNb 4 (zq zDf (ze (zq zje (ze (zg 2) (ze (zy gIx (zg 3) (fC (.int 0))) zB))) (ze (zy gIx (zg 3) (fC (.int 1))) zB)))) (z7 (sIf (zuu (zPt (zX (zq zCc (ze (zg 2) (ze (zg 4) (ze (zg 3) zB)))))) (zPt (zX (zq zkc (ze (zg 1) (ze (zg 2) (ze (zg 4) (ze (zg 3) zB)))))))) (zMb (fC (.bl false))) zZb) (zMb (z5z (zq zwc (ze (zg 1) (ze (zg 2) (ze (zg 4) (ze (zg 3) zB))))) (zq zXc (ze (zg 1) (ze (zg 2) (ze (zg 4) (ze (zg 3) zB))))))))))))
def zVr:FF:=λds μ=>zkb (zKv (zM zoz ds) μ)
structure Txt(K:yB)(mg:yF->Option yb):Prop where
 n_all:mg "all"=none
 n_any:mg "any"=none
 tJ:mg "enumerate"=none
 tV:mg "len"=none
 TL:mg "list"=none
 Tl:mg "range"=none
 si:mg "reversed"=none
 Sk:mg "set"=none
 Tq:mg "sorted"=none
 Sl:mg "sum"=none
 Tm:mg "tuple"=none
def z3y:yL "all"=some (.builtin "all"):=by decide +kernel
def zIy:yL "any"=some (.builtin "any"):=by decide +kernel
def zgb:yL "enumerate"=some (.type "enumerate"):=by decide +kernel
def zOb:yL "len"=some (.builtin "len"):=by decide +kernel
def z2h:yL "list"=some (.type "list"):=by decide +kernel
def zHl:yL "reversed"=some (.type "reversed"):=by decide +kernel
def zlt:yL "set"=some (.type "set"):=by decide +kernel
def z4f:yL "sorted"=some (.builtin "sorted"):=by decide +kernel
def zKu:yL "sum"=some (.builtin "sum"):=by decide +kernel
def zwf:yL "tuple"=some (.type "tuple"):=by decide +kernel
section
variable {P:yy}{w:yJ}{K:yB}{mg:yF->Option yb}{base:Ye}
set_option maxHeartbeats 4000000
abbrev zqf:Yb:=top 50
abbrev zHc:List yF:=["_law_script","_law_k"]
def Ti:tq zxf zHc (zp zqf):=by walk_at "s"
def zhm(T:Txt K mg){f:yg}{fd:yj}(B:FnAt K mg "_law_mixed" zqf zHc f fd):tm P w K mg base CX0 1 f fd zHc (spM K 2 zmd):=by
 refine fnM B.fn Ti rfl (λcdv A outer s H E hr=>⟨zff,?_,λ_ _ _ _ _ e=>e⟩);have hu:=hr.units;exact(zf (zG 2 zh (hN:=Ti.nd)) (zf (z9b (zI zLp (zN zU T.tV zOb (za (mv 0) zc)) zh) (zj (zG 2 (zAb zHf (zw (mv 0) (zAb zHf (mv 1) (zN zU T.tV zOb (za (mv 0) zc)))) zh) (hN:=Ti.nd))) zY) (zf (zG 2 (zAb zHf (zAb zKc (zAb zKc (zAb zKc (zAb zFd (mv 2) zh) (zAb zFd (zAb zFd (mv 1) (mv 1)) zh)) (zAb zFd zh (mv 1))) zh) zh) (hN:=Ti.nd)) (zj (zC (zAb zHf (zAb zFd (mv 2) zh) zh))))))
abbrev zSd:Yb:=top 51
abbrev zLb:List yF:=["_law_script","_law_k"]
def zfm:tq zQd zLb (zp zSd):=by walk_at "s"
def zAk(T:Txt K mg){znk:yg}{zEi:yj}(zkf:FnAt K mg "_law_mixed" zqf zHc znk zEi)(zAg:tm P w K mg base CX0 1 znk zEi zHc (spM K 2 zmd)){f:yg}{fd:yj}(B:FnAt K mg "_law_cell_at" zSd zLb f fd):tm P w K mg base CX0 2 f fd zLb (spM K 2 z1b):=by
 refine fnM B.fn zfm rfl (λcdv A outer s H E hr=>⟨zUd,?_,λ_ _ _ _ _ e=>e⟩);have hu:=hr.units;exact(zf (z9b (zI zXm (mv 1) (zN zU T.tV zOb (za (mv 0) zc))) (zj (zC (zw (mv 0) (mv 1)))) zY) (zj (zC (tj zkf zAg hr (za (mv 0) (za (mv 1) zc))))))
abbrev zyh:Yb:=top 53
abbrev zLd:List yF:=["_law_script","_law_k"]
def TW:tq zJm zLd (zp zyh):=by walk_at "s"
def z2o(T:Txt K mg){zXh:yg}{z2g:yj}(zTd:FnAt K mg "_law_cell_at" zSd zLb zXh z2g)(zOe:tm P w K mg base CX0 2 zXh z2g zLb (spM K 2 z1b)){f:yg}{fd:yj}(B:FnAt K mg "_law_pen" zyh zLd f fd):tm P w K mg base CX0 3 f fd zLd (spM K 2 zNh):=by
 refine fnM B.fn TW rfl (λcdv A outer s H E hr=>⟨z2j,?_,λ_ _ _ _ _ e=>e⟩);have hu:=hr.units;exact(zf (zG 2 (tj zTd zOe hr (za (mv 0) (za (mv 1) zc))) (hN:=TW.nd)) (zj (zC (zxd (za (zAb zHf (mv 2) zh) (za (zAb zDq (mv 2) zh) (za (zN zU T.tV zOb (za (mv 0) zc)) (za (zAb zFd zh (mv 1)) zc))))))))
abbrev zTb:Yb:=top 52
abbrev zW:List yF:=["_law_pen_here","_law_size"]
def Te:tq zjg zW (zp zTb):=by walk_at "s"
def z3n(T:Txt K mg){f:yg}{fd:yj}(B:FnAt K mg "_law_take" zTb zW f fd):tm P w K mg base CX0 1 f fd zW (spM K 2 zA):=by
 refine fnM B.fn Te rfl (λcdv A outer s H E hr=>⟨zEg,?_,λ_ _ _ _ _ e=>e⟩);have hu:=hr.units;exact(zf (z9b (zI (zPc hu) (zw (mv 0) zh) zh) (zf (zG 2 (zAb zHf (zw (mv 0) zh) (mv 1)) (hN:=Te.nd)) (zf (zhh (zAb zDq (zw (mv 0) zh) (mv 1)) (zOu (mv 0) zh)) (zj (zC (mv 2))))) zY) (zf (zhh (zAb zKc (zw (mv 0) zh) zh) (zOu (mv 0) zh)) (zf (zG 3 (zw (mv 0) zh) (hN:=Te.nd)) (zf (zG 4 (zAb zFd (zAb zHf (zw (mv 0) zh) zh) zh) (hN:=Te.nd)) (zf (zG 4 (zAb zHf (zAb zKc (zAb zKc (zAb zKc (mv 4) (zAb zFd (zAb zFd (mv 3) (mv 3)) zh)) (zAb zFd zh (mv 3))) zh) zh) (hN:=Te.nd)) (zj (zC (zAb zHf (zAb zDq (zAb zHf (zAb zFd (mv 4) zh) zh) zh) (mv 1)))))))))
abbrev zEh:Yb:=top 54
abbrev zOd:List yF:=["_law_pen_here","_law_limit"]
def tS:tq z3m zOd (zp zEh):=by walk_at "s"
def zOo(T:Txt K mg){zZ:yg}{zR:yj}(zz:FnAt K mg "_law_take" zTb zW zZ zR)(zu:tm P w K mg base CX0 1 zZ zR zW (spM K 2 zA)){f:yg}{fd:yj}(B:FnAt K mg "_law_web" zEh zOd f fd):tm P w K mg base CX0 2 f fd zOd (spM K 2 zFh):=by
 refine fnM B.fn tS rfl (λcdv A outer s H E hr=>⟨zNj,?_,λ_ _ _ _ _ e=>e⟩);have hu:=hr.units;exact(zf (zG 2 (zAb zKc zh (tj zz zu hr (za (mv 0) (za zh zc)))) (hN:=tS.nd)) (zf (z9b (zI (zPc hu) (tj zz zu hr (za (mv 0) (za zh zc))) zh) (zj (zG 2 (zAb zKc zh (tj zz zu hr (za (mv 0) (za zh zc)))) (hN:=tS.nd))) zY) (zf (zG 3 (tj zz zu hr (za (mv 0) (za zh zc))) (hN:=tS.nd)) (zf (zG 4 (zVc zhc T.Tm zwf (za (mlc ["_law_k"] [0,3] (zIg T.Tl (za (mv 2) zc)) (λ_ _ _ _ _=>(zE 0 (hN:=zF (by rfl)))) (λ_ _ _ _ _=>zzd) (λ_ _ _ _ _=>(zw (zxd (za (tj zz zu hr (za (mv 1) (za zh zc))) (za zh (za (tj zz zu hr (za (mv 1) (za zh zc))) (za (tj zz zu hr (za (mv 1) (za zh zc))) zc))))) (mv 2))) (z9 ⟨_,rfl,rfl⟩ (z9 ⟨_,rfl,rfl⟩ ztb))) zc)) (hN:=tS.nd)) (zf (zG 5 (tj zz zu hr (za (mv 0) (za (zAb zKc (mv 1) zh) zc))) (hN:=tS.nd)) (zf (zG 6 (zxd zc) (hN:=tS.nd)) (zf (zAd (zIg T.Tl (za (mv 5) zc)) (zdb 7 (hN:=tS.nd)) (zf (zG 8 (zxd (za (tj zz zu hr (za (mv 0) (za (mv 2) zc))) (za (tj zz zu hr (za (mv 0) (za (mv 2) zc))) zc))) (hN:=tS.nd)) (zf (z9b (zI (zPc hu) (tj zz zu hr (za (mv 0) (za zh zc))) zh) (zj (z9d (zXe (mv 8) (za (tj zz zu hr (za (mv 0) (za (mv 2) zc))) zc)))) zY) (zj (z9d (zXe (mv 6) (za (zVc zhc T.Tm zwf (za (mv 8) zc)) zc))))))) (zj (zC (zJb (za (mv 4) (za (zVc zhc T.Tm zwf (za (mv 6) zc)) zc))))))))))))
abbrev zMh:Yb:=top 1
abbrev zOc:List yF:=["things","order"]
def TF:tq z5q zOc (zp zMh):=by walk_at "s"
def zqs(T:Txt K mg){f:yg}{fd:yj}(B:FnAt K mg "placed" zMh zOc f fd):tm P w K mg base CX0 1 f fd zOc (spM K 2 z8e):=by
 refine fnM B.fn TF rfl (λcdv A outer s H E hr=>⟨zLk,?_,λ_ _ _ _ _ e=>e⟩);have hu:=hr.units;exact(zf (zG 2 (zAb zFd (zxd (za zjd zc)) (zN zU T.tV zOb (za (mv 0) zc))) (hN:=TF.nd)) (zf (zAd (z8d T.tJ zgb (mv 0)) (zEl (zUb (zdb 3 (hN:=TF.nd)) (zUb (zdb 4 (hN:=TF.nd)) zai))) (zj (zhh (mv 4) (zOu (mv 2) (zw (mv 1) (mv 3)))))) (zj (zC (mv 2)))))
abbrev z4e:Yb:=top 3
abbrev zsc:List yF:=["web","order"]
def zio:tq zlk zsc (zp z4e):=by walk_at "s"
def zmm(T:Txt K mg){zuf:yg}{zZd:yj}(zRd:FnAt K mg "placed" zMh zOc zuf zZd)(zDd:tm P w K mg base CX0 1 zuf zZd zOc (spM K 2 z8e)){f:yg}{fd:yj}(B:FnAt K mg "keys_named" z4e zsc f fd):tm P w K mg base CX0 2 f fd zsc (spM K 2 zDf):=by
 refine fnM B.fn zio rfl (λcdv A outer s H E hr=>⟨znf,?_,λ_ _ _ _ _ e=>e⟩);have hu:=hr.units;exact(zj (zC (zJb (za (zw (mv 0) zh) (za (zVc zhc T.Tm zwf (za (tj zRd zDd hr (za (zw (mv 0) zh) (za (mv 1) zc))) zc)) zc)))))
abbrev zof:Yb:=top 56
abbrev zoc:List yF:=["_law_pen_here","_law_many"]
def Tn:tq zok zoc (zp zof):=by walk_at "s"
def zjm(T:Txt K mg){zZ:yg}{zR:yj}(zz:FnAt K mg "_law_take" zTb zW zZ zR)(zu:tm P w K mg base CX0 1 zZ zR zW (spM K 2 zA)){f:yg}{fd:yj}(B:FnAt K mg "_law_order" zof zoc f fd):tm P w K mg base CX0 2 f fd zoc (spM K 2 zXd):=by
 refine fnM B.fn Tn rfl (λcdv A outer s H E hr=>⟨zBf,?_,λ_ _ _ _ _ e=>e⟩);have hu:=hr.units;exact(zf (zG 2 (zxd zc) (hN:=Tn.nd)) (zf (zAd (zIg T.Tl (za (mv 1) zc)) (zdb 3 (hN:=Tn.nd)) (zj (z9d (zRu (mv 2) (za (tj zz zu hr (za (mv 0) (za (zAb zKc (mv 3) zh) zc))) (za (mv 3) zc)))))) (zj (zC (mv 2)))))
abbrev zfe:Yb:=top 2
abbrev z3b:List yF:=["web","order"]
def Tz:tq zvj z3b (zp zfe):=by walk_at "s"
def zel(T:Txt K mg){zuf:yg}{zZd:yj}(zRd:FnAt K mg "placed" zMh zOc zuf zZd)(zDd:tm P w K mg base CX0 1 zuf zZd zOc (spM K 2 z8e)){f:yg}{fd:yj}(B:FnAt K mg "nests_named" zfe z3b f fd):tm P w K mg base CX0 2 f fd z3b (spM K 2 zje):=by
 refine fnM B.fn Tz rfl (λcdv A outer s H E hr=>⟨zme,?_,λ_ _ _ _ _ e=>e⟩);have hu:=hr.units;exact(zf (mslc 2 ["homes"] [1] (zzb (zw (mv 0) zh)) (λ_ _ _ _ _=>(zE 0 (hN:=zF (by rfl)))) (λ_ _ _ _ _=>zzd) (λ_ _ _ _ _=>(zVc zhc T.Tm zwf (za (mlc ["nest"] [1] (zzb (mv 0)) (λ_ _ _ _ _=>(zE 0 (hN:=zF (by rfl)))) (λ_ _ _ _ _=>zzd) (λ_ _ _ _ _=>(zw (mv 1) (mv 0))) (z9 ⟨_,rfl,rfl⟩ ztb)) zc))) (z9 ⟨_,rfl,rfl⟩ ztb) Tz.nd) (zj (zC (zJb (za (zVc zhc T.Tm zwf (za (tj zRd zDd hr (za (zw (mv 0) zh) (za (mv 1) zc))) zc)) (za (zVc zhc T.Tm zwf (za (mv 2) zc)) zc))))))
abbrev zph:Yb:=top 45
abbrev zid:List yF:=["worths"]
def zUr:tq z7o zid (zp zph):=by walk_at "s"
def zwq(T:Txt K mg){f:yg}{fd:yj}(B:FnAt K mg "falling" zph zid f fd):tm P w K mg base CX0 1 f fd zid (spM K 1 z2f):=by
 refine fnM B.fn zUr rfl (λcdv A outer s H E hr=>⟨zri,?_,λ_ _ _ _ _ e=>e⟩);have hu:=hr.units;exact(zj (zC (z5s T.TL z2h T.si zHl (z0p T.Tq z4f T.Sk zlt (mlc ["worth"] [] (zzb (mv 0)) (λ_ _ _ _ _=>(zE 0 (hN:=zF (by rfl)))) (λ_ _ _ _ _=>(zWf (zI zLp (mv 0) zh))) (λ_ _ _ _ _=>(mv 0)) ztb)))))
abbrev zwn:Yb:=top 15
abbrev zIh:List yF:=["laying","nest"]
def zQv:tq z9s zIh (zp zwn):=by walk_at "s"
def zSu(T:Txt K mg){f:yg}{fd:yj}(B:FnAt K mg "lying" zwn zIh f fd):tm P w K mg base CX0 1 f fd zIh (spM K 2 zNn):=by
 refine fnM B.fn zQv rfl (λcdv A outer s H E hr=>⟨zbo,?_,λ_ _ _ _ _ e=>e⟩);have hu:=hr.units;exact(zj (zC (mlc ["key","place"] [1] (z8d T.tJ zgb (mv 0)) (λ_ _ _ _ _=>(zJf (zcb (zE 0 (hN:=zF (by rfl))) (zcb (zE 1 (hN:=zF (by rfl))) zVd)))) (λ_ _ _ _ _=>(zWf (zI (zPc hu) (mv 1) (mv 2)))) (λ_ _ _ _ _=>(mv 0)) (z9 ⟨_,rfl,rfl⟩ ztb))))
abbrev zsg:Yb:=top 20
abbrev zgd:List yF:=["web","laying","key"]
def tT:tq z2k zgd (zp zsg):=by walk_at "s"
def zyn(T:Txt K mg){z8t:yg}{z8q:yj}(zGn:FnAt K mg "lying" zwn zIh z8t z8q)(zrn:tm P w K mg base CX0 1 z8t z8q zIh (spM K 2 zNn)){f:yg}{fd:yj}(B:FnAt K mg "pushes_to" zsg zgd f fd):tm P w K mg base CX0 2 f fd zgd (spM K 3 zDg):=by
 refine fnM B.fn tT rfl (λcdv A outer s H E hr=>⟨zPg,?_,λ_ _ _ _ _ e=>e⟩);have hu:=hr.units;exact(zf (zG 3 zWz (hN:=tT.nd)) (zf (zAd (zzb (zw (zw (mv 0) zh) (mv 2))) (zdb 4 (hN:=tT.nd)) (zj (zhh (zJb (za (mv 2) (za zjd zc))) (z3s (mv 3) (mv 4))))) (zf (zG 5 (zVc (z4p rfl) T.TL z2h (za (mv 3) zc)) (hN:=tT.nd)) (zf (zG 6 zh (hN:=tT.nd)) (zf (zFk 100000 (zI zXm (mv 6) (zN zU T.tV zOb (za (mv 5) zc))) (zf (zAd (zzb (tj zGn zrn hr (za (mv 1) (za (zw (mv 5) (mv 6)) zc)))) (zdb 7 (hN:=tT.nd)) (zj (zAd (zzb (zw (zw (mv 0) zh) (mv 7))) (zdb 4 (hN:=tT.nd)) (zj (z9b (zI zUm (mv 4) (mv 3)) (zf (zhh (zJb (za (mv 7) (za (zw (mv 5) (mv 6)) zc))) (z3s (mv 3) (mv 4))) (zj (z9d (zXe (mv 5) (za (mv 4) zc))))) zY))))) (zj (zzz 6 zmy zh (hN:=tT.nd))))) (zj (zC (mv 3))))))))
abbrev zlp:Yb:=top 12
abbrev z6g:List yF:=["web","laying"]
def z0x:tq zMw z6g (zp zlp):=by walk_at "s"
def z5v(T:Txt K mg){f:yg}{fd:yj}(B:FnAt K mg "left" zlp z6g f fd):tm P w K mg base CX0 1 f fd z6g (spM K 2 zMl):=by
 refine fnM B.fn z0x rfl (λcdv A outer s H E hr=>⟨zln,?_,λ_ _ _ _ _ e=>e⟩);have hu:=hr.units;exact(zj (zC (mlc ["nest","room"] [1] (z8d T.tJ zgb (zw (mv 0) zh)) (λ_ _ _ _ _=>(zJf (zcb (zE 0 (hN:=zF (by rfl))) (zcb (zE 1 (hN:=zF (by rfl))) zVd)))) (λ_ _ _ _ _=>zzd) (λ_ _ _ _ _=>(zAb zVp (mv 1) (zgw (mv 2) (za (mv 0) zc)))) (z9 ⟨_,rfl,rfl⟩ ztb))))
abbrev zSk:Yb:=top 21
abbrev zgg:List yF:=["pushes","nest"]
def TV:tq zzr zgg (zp zSk):=by walk_at "s"
def zXr(T:Txt K mg){f:yg}{fd:yj}(B:FnAt K mg "row_to" zSk zgg f fd):tm P w K mg base CX0 1 f fd zgg (spM K 2 zXk):=by
 refine fnM B.fn TV rfl (λcdv A outer s H E hr=>⟨zIk,?_,λ_ _ _ _ _ e=>e⟩);have hu:=hr.units;exact(zf (zG 2 (zxd zc) (hN:=TV.nd)) (zf (zFk 100000 (zI z2d (mv 1) zjd) (zf (z9d (zXe (mv 2) (za (zJb (za (zw (zUw (mv 0) (mv 1)) zh) (za (mv 1) zc))) zc))) (zj (zG 1 (zw (zUw (mv 0) (mv 1)) zh) (hN:=TV.nd))))) (zj (zC (z5s T.TL z2h T.si zHl (mv 2))))))
abbrev z7i:Yb:=top 22
abbrev zYd:List yF:=["web","laying","key"]
def TH:tq zfr zYd (zp z7i):=by walk_at "s"
def zIs(T:Txt K mg){zfl:yg}{zdk:yj}(zJg:FnAt K mg "pushes_to" zsg zgd zfl zdk)(zsh:tm P w K mg base CX0 2 zfl zdk zgd (spM K 3 zDg)){zqp:yg}{zam:yj}(zQl:FnAt K mg "left" zlp z6g zqp zam)(zFj:tm P w K mg base CX0 1 zqp zam z6g (spM K 2 zMl)){zgr:yg}{zGp:yj}(zTk:FnAt K mg "row_to" zSk zgg zgr zGp)(zXl:tm P w K mg base CX0 1 zgr zGp zgg (spM K 2 zXk)){f:yg}{fd:yj}(B:FnAt K mg "put_in" z7i zYd f fd):tm P w K mg base CX0 3 f fd zYd (spM K 3 zMg):=by
 refine fnM B.fn TH rfl (λcdv A outer s H E hr=>⟨zPk,?_,λ_ _ _ _ _ e=>e⟩);have hu:=hr.units;exact(zf (zG 3 (tj zJg zsh hr (za (mv 0) (za (mv 1) (za (mv 2) zc)))) (hN:=TH.nd)) (zf (zG 4 (tj zQl zFj hr (za (mv 0) (za (mv 1) zc))) (hN:=TH.nd)) (zf (zAd (zzy (mv 3)) (zdb 5 (hN:=TH.nd)) (zj (z9b (zI zLp (zw (mv 4) (mv 5)) zh) (zj (zC (zJb (za zYf (za (tj zTk zXl hr (za (mv 3) (za (mv 5) zc))) zc))))) zY))) (zj (zC (zJb (za zYf (za (mlc ["other","nest"] [2,3] (z8d T.tJ zgb (mv 1)) (λ_ _ _ _ _=>(zJf (zcb (zE 0 (hN:=zF (by rfl))) (zcb (zE 1 (hN:=zF (by rfl))) zVd)))) (λ_ _ _ _ _=>(zWf (MW.mt (zsn (zI (zPc hu) (mv 0) (mv 2)) (zkk (zI zrv (mv 1) (mv 3))))))) (λ_ _ _ _ _=>(mv 0)) (z9 ⟨_,rfl,rfl⟩ (z9 ⟨_,rfl,rfl⟩ ztb))) zc))))))))
abbrev z7h:Yb:=top 13
abbrev zQc:List yF:=["web","laying"]
def TB:tq zst zQc (zp z7h):=by walk_at "s"
def zmu(T:Txt K mg){zqp:yg}{zam:yj}(zQl:FnAt K mg "left" zlp z6g zqp zam)(zFj:tm P w K mg base CX0 1 zqp zam z6g (spM K 2 zMl)){f:yg}{fd:yj}(B:FnAt K mg "fault" z7h zQc f fd):tm P w K mg base CX0 2 f fd zQc (spM K 2 zMf):=by
 refine fnM B.fn TB rfl (λcdv A outer s H E hr=>⟨z2n,?_,λ_ _ _ _ _ e=>e⟩);have hu:=hr.units;exact(zf (zAd (z8d T.tJ zgb (mv 1)) (zEl (zUb (zdb 2 (hN:=TB.nd)) (zUb (zdb 3 (hN:=TB.nd)) zai))) (zj (z9b (MW.mt (zGm (zI z2d (mv 3) zjd) (ztl (zI zoh (mv 3) (zw (zw (mv 0) zh) (mv 2)))))) (zj (zC (zJb (za zYf (za (mv 2) zc))))) zY))) (zf (zAd (z8d T.tJ zgb (tj zQl zFj hr (za (mv 0) (za (mv 1) zc)))) (zEl (zUb (zdb 3 (hN:=TB.nd)) (zUb (zdb 4 (hN:=TB.nd)) zai))) (zj (z9b (zI zXm (mv 4) zh) (zj (zC (zJb (za zYf (za (mv 3) zc))))) zY))) (zj (zC zjd))))
abbrev zkj:Yb:=top 17
abbrev zAe:List yF:=["web","laying","row","at"]
def sj:tq zbp zAe (zp zkj):=by walk_at "s"
def zMq(T:Txt K mg){f:yg}{fd:yj}(B:FnAt K mg "is_push" zkj zAe f fd):tm P w K mg base CX0 1 f fd zAe (spM K 4 zxj):=by
 refine fnM B.fn sj rfl (λcdv A outer s H E hr=>⟨zsj,?_,λ_ _ _ _ _ e=>e⟩);have hu:=hr.units;exact(zf (zG 4 (zw (zw (mv 2) (mv 3)) zh) (hN:=sj.nd)) (zf (z9b (MW.mt (zsn (zI zXm (mv 4) zh) (zkk (zI zQt (mv 4) (zN zU T.tV zOb (za (mv 1) zc)))))) (zj (zC z7g)) zY) (zf (z9b (MW.mt (zsn (zI zoh (zw (zw (mv 2) (mv 3)) zh) (zw (zw (mv 0) zh) (mv 4))) (zkk (zI (zPc hu) (zw (zw (mv 2) (mv 3)) zh) (zw (mv 1) (mv 4)))))) (zj (zC z7g)) zY) (zj (zC (zvi zoh (mv 4) (mlc ["push"] [] (zzb (z6t (mv 2) z9t (zro (mv 3)))) (λ_ _ _ _ _=>(zE 0 (hN:=zF (by rfl)))) (λ_ _ _ _ _=>zzd) (λ_ _ _ _ _=>(zw (mv 0) zh)) ztb)))))))
abbrev zYi:Yb:=top 18
abbrev zBe:List yF:=["laying","key","row","at"]
def z3r:tq z8o zBe (zp zYi):=by walk_at "s"
def zsq(T:Txt K mg){f:yg}{fd:yj}(B:FnAt K mg "follows" zYi zBe f fd):tm P w K mg base CX0 1 f fd zBe (spM K 4 zSi):=by
 refine fnM B.fn z3r rfl (λcdv A outer s H E hr=>⟨zmi,?_,λ_ _ _ _ _ e=>e⟩);have hu:=hr.units;exact(zf (z9b (zI (zPc hu) (mv 3) zh) (zj (zC (zvi (zPc hu) (zw (zw (mv 2) zh) zh) (mv 1)))) zY) (zj (zC (zvi (zPc hu) (zw (mv 0) (zw (zw (mv 2) (mv 3)) zh)) (zw (zw (mv 2) (zAb zVp (mv 3) zh)) zh)))))
abbrev zYk:Yb:=top 19
abbrev zZf:List yF:=["web","laying","key","row"]
def TJ:tq znr zZf (zp zYk):=by walk_at "s"
def zUs(T:Txt K mg){zRe:yg}{ztd:yj}(zPd:FnAt K mg "fault" z7h zQc zRe ztd)(zUc:tm P w K mg base CX0 2 zRe ztd zQc (spM K 2 zMf)){zUo:yg}{z0m:yj}(zlj:FnAt K mg "is_push" zkj zAe zUo z0m)(zWj:tm P w K mg base CX0 1 zUo z0m zAe (spM K 4 zxj)){zno:yg}{z6m:yj}(zwi:FnAt K mg "follows" zYi zBe zno z6m)(zXj:tm P w K mg base CX0 1 zno z6m zBe (spM K 4 zSi)){f:yg}{fd:yj}(B:FnAt K mg "pushed" zYk zZf f fd):tm P w K mg base CX0 3 f fd zZf (spM K 4 zKk):=by
 refine fnM B.fn TJ rfl (λcdv A outer s H E hr=>⟨zUk,?_,λ_ _ _ _ _ e=>e⟩);have hu:=hr.units;exact(zf (zG 4 (zVc z4j T.TL z2h (za (mv 1) zc)) (hN:=TJ.nd)) (zf (zAd (z8d T.tJ zgb (mv 3)) (zEl (zUb (zdb 5 (hN:=TJ.nd)) (zUb (zdb 6 (hN:=TJ.nd)) zai))) (zf (z9b (zBt (MW.mt (zGm (zwm (tj zlj zWj hr (za (mv 0) (za (mv 1) (za (mv 3) (za (mv 5) zc)))))) (ztl (zwm (tj zwi zXj hr (za (mv 1) (za (mv 2) (za (mv 3) (za (mv 5) zc)))))))))) (zj zvr) zY) (zj (zhh (zw (mv 6) zh) (zOu (mv 4) (zw (mv 6) zh)))))) (zf (z9b (MW.mt (zsn (zI (zPc hu) (zN zU T.tV zOb (za (mv 3) zc)) zh) (zkk (zI z2d (tj zPd zUc hr (za (mv 0) (za (mv 4) zc))) zjd)))) (zj zvr) zY) (zj (zC (mv 4))))))
abbrev zYe:Yb:=top 23
abbrev zPb:List yF:=["web","laying","keys"]
def Tf:tq zdl zPb (zp zYe):=by walk_at "s"
def zVn(T:Txt K mg){zRi:yg}{zdh:yj}(zhf:FnAt K mg "put_in" z7i zYd zRi zdh)(zSe:tm P w K mg base CX0 3 zRi zdh zYd (spM K 3 zMg)){zrr:yg}{z5o:yj}(zNk:FnAt K mg "pushed" zYk zZf zrr z5o)(z4k:tm P w K mg base CX0 3 zrr z5o zZf (spM K 4 zKk)){f:yg}{fd:yj}(B:FnAt K mg "laid_more" zYe zPb f fd):tm P w K mg base CX0 4 f fd zPb (spM K 3 zMd):=by
 refine fnM B.fn Tf rfl (λcdv A outer s H E hr=>⟨zCg,?_,λ_ _ _ _ _ e=>e⟩);have hu:=hr.units;exact(zf (zG 3 (zxd zc) (hN:=Tf.nd)) (zf (zAd (zzb (mv 2)) (zdb 4 (hN:=Tf.nd)) (zf (zG 5 (tj zhf zSe hr (za (mv 0) (za (mv 1) (za (mv 4) zc)))) (hN:=Tf.nd)) (zj (z9b (zI (zPc hu) (zw (mv 5) zh) zYf) (zj (zG 1 (tj zNk z4k hr (za (mv 0) (za (mv 1) (za (mv 4) (za (zw (mv 5) zh) zc))))) (hN:=Tf.nd))) (zj (z9d (zml (mv 3) (za (zw (mv 5) zh) zc)))))))) (zj (zC (zJb (za (mv 1) (za (z0p T.Tq z4f T.Sk zlt (mv 3)) zc)))))))
abbrev zop:Yb:=top 14
abbrev zbh:List yF:=["laying"]
def ztx:tq z5w zbh (zp zop):=by walk_at "s"
def zXv(T:Txt K mg){f:yg}{fd:yj}(B:FnAt K mg "laid" zop zbh f fd):tm P w K mg base CX0 1 f fd zbh (spM K 1 zpn):=by
 refine fnM B.fn ztx rfl (λcdv A outer s H E hr=>⟨zQq,?_,λ_ _ _ _ _ e=>e⟩);have hu:=hr.units;exact(zj (zC (mlc ["key","nest"] [] (z8d T.tJ zgb (mv 0)) (λ_ _ _ _ _=>(zJf (zcb (zE 0 (hN:=zF (by rfl))) (zcb (zE 1 (hN:=zF (by rfl))) zVd)))) (λ_ _ _ _ _=>(zWf (zI z2d (mv 1) zjd))) (λ_ _ _ _ _=>(mv 0)) ztb)))
abbrev zue:Yb:=top 26
abbrev zHb:List yF:=["web","some"]
def TC:tq zVm zHb (zp zue):=by walk_at "s"
def z4o(T:Txt K mg){f:yg}{fd:yj}(B:FnAt K mg "homes_of" zue zHb f fd):tm P w K mg base CX0 1 f fd zHb (spM K 2 zed):=by
 refine fnM B.fn TC rfl (λcdv A outer s H E hr=>⟨zBh,?_,λ_ _ _ _ _ e=>e⟩);have hu:=hr.units;exact(zf (zG 2 (zxd zc) (hN:=TC.nd)) (zf (zAd (zzb (mv 1)) (zdb 3 (hN:=TC.nd)) (zj (z9d (zml (mv 2) (za (zw (zw (mv 0) zh) (mv 3)) zc))))) (zj (zC (z0p T.Tq z4f T.Sk zlt (mv 2))))))
abbrev zxr:Yb:=top 46
abbrev zPj:List yF:=["web","worths"]
def Tt:tq z0w zPj (zp zxr):=by walk_at "s"
def zlw(T:Txt K mg){zlh:yg}{zbg:yj}(z0e:FnAt K mg "falling" zph zid zlh zbg)(zye:tm P w K mg base CX0 1 zlh zbg zid (spM K 1 z2f)){zTe:yg}{z1d:yj}(z5c:FnAt K mg "laid_more" zYe zPb zTe z1d)(z8c:tm P w K mg base CX0 4 zTe z1d zPb (spM K 3 zMd)){zSp:yg}{zwl:yj}(zbl:FnAt K mg "laid" zop zbh zSp zwl)(z6j:tm P w K mg base CX0 1 zSp zwl zbh (spM K 1 zpn)){zad:yg}{zdc:yj}(z0b:FnAt K mg "homes_of" zue zHb zad zdc)(zVb:tm P w K mg base CX0 1 zad zdc zHb (spM K 2 zed)){f:yg}{fd:yj}(B:FnAt K mg "best" zxr zPj f fd):tm P w K mg base CX0 5 f fd zPj (spM K 2 zBo):=by
 refine fnM B.fn Tt rfl (λcdv A outer s H E hr=>⟨zFr,?_,λ_ _ _ _ _ e=>e⟩);have hu:=hr.units;exact(zf (zG 2 (zAb zFd (zxd (za zjd zc)) (zN zU T.tV zOb (za (zw (mv 0) zh) zc))) (hN:=Tt.nd)) (zf (zG 3 (zxd zc) (hN:=Tt.nd)) (zf (zG 4 (zxd zc) (hN:=Tt.nd)) (zf (zAd (zzb (tj z0e zye hr (za (mv 1) zc))) (zdb 5 (hN:=Tt.nd)) (zf (zG 6 (tj z5c z8c hr (za (mv 0) (za (mv 2) (za (mlc ["key","other"] [5] (z8d T.tJ zgb (mv 1)) (λ_ _ _ _ _=>(zJf (zcb (zE 0 (hN:=zF (by rfl))) (zcb (zE 1 (hN:=zF (by rfl))) zVd)))) (λ_ _ _ _ _=>(zWf (zI (zPc hu) (mv 1) (mv 2)))) (λ_ _ _ _ _=>(mv 0)) (z9 ⟨_,rfl,rfl⟩ ztb)) zc)))) (hN:=Tt.nd)) (zf (zG 2 (zw (mv 6) zh) (hN:=Tt.nd)) (zf (z9d (zml (mv 3) (za (zw (mv 6) zh) zc))) (zj (z9d (zXe (mv 4) (za (zJb (za (mv 5) (za (tj z0b zVb hr (za (mv 0) (za (mv 3) zc))) zc))) zc)))))))) (zj (zC (zJb (za (tj zbl z6j hr (za (mv 2) zc)) (za (mv 2) (za (mv 4) zc))))))))))
abbrev zkh:Yb:=top 27
abbrev zkd:List yF:=["web","nests"]
def zos:tq zyp zkd (zp zkh):=by walk_at "s"
def zzq(T:Txt K mg){f:yg}{fd:yj}(B:FnAt K mg "room_of" zkh zkd f fd):tm P w K mg base CX0 1 f fd zkd (spM K 2 zRf):=by
 refine fnM B.fn zos rfl (λcdv A outer s H E hr=>⟨zpi,?_,λ_ _ _ _ _ e=>e⟩);have hu:=hr.units;exact(zj (zC (zN (zcl rfl) T.Sl zKu (za (mlc ["nest"] [0] (zzb (mv 1)) (λ_ _ _ _ _=>(zE 0 (hN:=zF (by rfl)))) (λ_ _ _ _ _=>zzd) (λ_ _ _ _ _=>(zw (zw (mv 1) zh) (mv 0))) (z9 ⟨_,rfl,rfl⟩ ztb)) zc))))
abbrev zBc:Yb:=top 37
abbrev znb:List yF:=["homes","nests"]
def zGi:tq zUf znb (zp zBc):=by walk_at "s"
def z6h(T:Txt K mg){f:yg}{fd:yj}(B:FnAt K mg "has_home_beyond" zBc znb f fd):tm P w K mg base CX0 1 f fd znb (spM K 2 ztc):=by
 refine fnM B.fn zGi rfl (λcdv A outer s H E hr=>⟨zAc,?_,λ_ _ _ _ _ e=>e⟩);have hu:=hr.units;exact(zj (zC (zN (zHu rfl) T.n_any zIy (za (mlc ["nest"] [1] (zzb (mv 0)) (λ_ _ _ _ _=>(zE 0 (hN:=zF (by rfl)))) (λ_ _ _ _ _=>zzd) (λ_ _ _ _ _=>(zvi zoh (mv 0) (mv 1))) (z9 ⟨_,rfl,rfl⟩ ztb)) zc))))
abbrev zhl:Yb:=top 38
abbrev z3e:List yF:=["web","nests"]
def zjw:tq zjt z3e (zp zhl):=by walk_at "s"
def zhu(T:Txt K mg){zfh:yg}{z7f:yj}(zNe:FnAt K mg "room_of" zkh zkd zfh z7f)(zve:tm P w K mg base CX0 1 zfh z7f zkd (spM K 2 zRf)){zQf:yg}{z6e:yj}(zuc:FnAt K mg "has_home_beyond" zBc znb zQf z6e)(zyd:tm P w K mg base CX0 1 zQf z6e znb (spM K 2 ztc)){f:yg}{fd:yj}(B:FnAt K mg "bound" zhl z3e f fd):tm P w K mg base CX0 2 f fd z3e (spM K 2 zSg):=by
 refine fnM B.fn zjw rfl (λcdv A outer s H E hr=>⟨ztn,?_,λ_ _ _ _ _ e=>e⟩);have hu:=hr.units;exact(zj (zC (zAb zKc (tj zNe zve hr (za (mv 0) (za (mv 1) zc))) (zN zU T.tV zOb (za (mlc ["homes"] [1] (zzb (zw (mv 0) zh)) (λ_ _ _ _ _=>(zE 0 (hN:=zF (by rfl)))) (λ_ _ _ _ _=>(zWf (zwm (tj zuc zyd hr (za (mv 0) (za (mv 1) zc)))))) (λ_ _ _ _ _=>(mv 0)) (z9 ⟨_,rfl,rfl⟩ ztb)) zc)))))
abbrev zQh:Yb:=top 47
abbrev zJd:List yF:=["web","worths","some","show"]
def TD:tq zDm zJd (zp zQh):=by walk_at "s"
def zto(T:Txt K mg){zem:yg}{zgj:yj}(zNf:FnAt K mg "bound" zhl z3e zem zgj)(zpe:tm P w K mg base CX0 2 zem zgj z3e (spM K 2 zSg)){f:yg}{fd:yj}(B:FnAt K mg "is_shown" zQh zJd f fd):tm P w K mg base CX0 3 f fd zJd (spM K 4 zGh):=by
 refine fnM B.fn TD rfl (λcdv A outer s H E hr=>⟨zDh,?_,λ_ _ _ _ _ e=>e⟩);have hu:=hr.units;exact(zf (zG 4 (mlc ["key","worth"] [3] (z8d T.tJ zgb (mv 1)) (λ_ _ _ _ _=>(zJf (zcb (zE 0 (hN:=zF (by rfl))) (zcb (zE 1 (hN:=zF (by rfl))) zVd)))) (λ_ _ _ _ _=>(zWf (zI zQt (mv 1) (zw (mv 2) zh)))) (λ_ _ _ _ _=>(mv 0)) (z9 ⟨_,rfl,rfl⟩ ztb)) (hN:=TD.nd)) (zf (zG 5 (zJb (za (zw (mv 0) zh) (za (zVc zhc T.Tm zwf (za (mlc ["key"] [0] (zzb (mv 4)) (λ_ _ _ _ _=>(zE 0 (hN:=zF (by rfl)))) (λ_ _ _ _ _=>zzd) (λ_ _ _ _ _=>(zw (zw (mv 1) zh) (mv 0))) (z9 ⟨_,rfl,rfl⟩ ztb)) zc)) zc))) (hN:=TD.nd)) (zj (zC (zvi (zPc hu) (zN zU T.tV zOb (za (mlc ["key"] [4] (zzb (mv 2)) (λ_ _ _ _ _=>(zE 0 (hN:=zF (by rfl)))) (λ_ _ _ _ _=>(zWf (zI z2s (mv 0) (mv 1)))) (λ_ _ _ _ _=>(mv 0)) (z9 ⟨_,rfl,rfl⟩ ztb)) zc)) (tj zNf zpe hr (za (mv 5) (za (zw (mv 3) zh) zc))))))))
abbrev zOi:Yb:=top 48
abbrev zte:List yF:=["web","worths","told"]
def TM:tq zhp zte (zp zOi):=by walk_at "s"
def zTp(T:Txt K mg){zlh:yg}{zbg:yj}(z0e:FnAt K mg "falling" zph zid zlh zbg)(zye:tm P w K mg base CX0 1 zlh zbg zid (spM K 1 z2f)){zRe:yg}{ztd:yj}(zPd:FnAt K mg "fault" z7h zQc zRe ztd)(zUc:tm P w K mg base CX0 2 zRe ztd zQc (spM K 2 zMf)){zSp:yg}{zwl:yj}(zbl:FnAt K mg "laid" zop zbh zSp zwl)(z6j:tm P w K mg base CX0 1 zSp zwl zbh (spM K 1 zpn)){zSm:yg}{z8k:yj}(zKh:FnAt K mg "is_shown" zQh zJd zSm z8k)(z1h:tm P w K mg base CX0 3 zSm z8k zJd (spM K 4 zGh)){f:yg}{fd:yj}(B:FnAt K mg "is_best" zOi zte f fd):tm P w K mg base CX0 4 f fd zte (spM K 3 zfj):=by
 refine fnM B.fn TM rfl (λcdv A outer s H E hr=>⟨zsi,?_,λ_ _ _ _ _ e=>e⟩);have hu:=hr.units;exact(zf (zG 3 (zw (mv 2) zh) (hN:=TM.nd)) (zf (zG 4 (zw (mv 2) zh) (hN:=TM.nd)) (zf (z9b (MW.mt (zsn (zI z2d (tj zPd zUc hr (za (mv 0) (za (zw (mv 2) zh) zc))) zjd) (zkk (zI (zjf hu) (tj zbl z6j hr (za (zw (mv 2) zh) zc)) (mv 3))))) (zj (zC z7g)) zY) (zf (z9b (zI (zjf hu) (mlc ["show"] [] (zzb (mv 4)) (λ_ _ _ _ _=>(zE 0 (hN:=zF (by rfl)))) (λ_ _ _ _ _=>zzd) (λ_ _ _ _ _=>(zw (mv 0) zh)) ztb) (tj z0e zye hr (za (mv 1) zc))) (zj (zC z7g)) zY) (zj (zC (zN (zkt rfl) T.n_all z3y (za (mlc ["show"] [0,1,3] (zzb (mv 4)) (λ_ _ _ _ _=>(zE 0 (hN:=zF (by rfl)))) (λ_ _ _ _ _=>zzd) (λ_ _ _ _ _=>(tj zKh z1h hr (za (mv 1) (za (mv 2) (za (mv 3) (za (mv 0) zc)))))) (z9 ⟨_,rfl,rfl⟩ (z9 ⟨_,rfl,rfl⟩ (z9 ⟨_,rfl,rfl⟩ ztb)))) zc))))))))
abbrev zfc:Yb:=top 7
abbrev zab:List yF:=["some","order"]
def zBn:tq zak zab (zp zfc):=by walk_at "s"
def zkm(T:Txt K mg){f:yg}{fd:yj}(B:FnAt K mg "some_named" zfc zab f fd):tm P w K mg base CX0 1 f fd zab (spM K 2 z8):=by
 refine fnM B.fn zBn rfl (λcdv A outer s H E hr=>⟨z7e,?_,λ_ _ _ _ _ e=>e⟩);have hu:=hr.units;exact(zj (zC (zN (z6p rfl) T.Tq z4f (za (mlc ["one"] [1] (zzb (mv 0)) (λ_ _ _ _ _=>(zE 0 (hN:=zF (by rfl)))) (λ_ _ _ _ _=>zzd) (λ_ _ _ _ _=>(zw (mv 1) (mv 0))) (z9 ⟨_,rfl,rfl⟩ ztb)) zc))))
abbrev zRc:Yb:=top 6
abbrev zvb:List yF:=["laying","order"]
def zGj:tq zUg zvb (zp zRc):=by walk_at "s"
def zti(T:Txt K mg){zuf:yg}{zZd:yj}(zRd:FnAt K mg "placed" zMh zOc zuf zZd)(zDd:tm P w K mg base CX0 1 zuf zZd zOc (spM K 2 z8e)){f:yg}{fd:yj}(B:FnAt K mg "laying_of_keys" zRc zvb f fd):tm P w K mg base CX0 2 f fd zvb (spM K 2 zZc):=by
 refine fnM B.fn zGj rfl (λcdv A outer s H E hr=>⟨z0c,?_,λ_ _ _ _ _ e=>e⟩);have hu:=hr.units;exact(zj (zC (tj zRd zDd hr (za (mv 0) (za (mv 1) zc)))))
abbrev zcf:Yb:=top 4
abbrev zjc:List yF:=["nest","order"]
def zvn:tq zsk zjc (zp zcf):=by walk_at "s"
def zpm(T:Txt K mg){f:yg}{fd:yj}(B:FnAt K mg "nest_named" zcf zjc f fd):tm P w K mg base CX0 1 f fd zjc (spM K 2 zAf):=by
 refine fnM B.fn zvn rfl (λcdv A outer s H E hr=>⟨z5e,?_,λ_ _ _ _ _ e=>e⟩);have hu:=hr.units;exact(zf (z9b (MW.mt (zsn (zI zPq (mv 0) zjd) (zsn (zI zXm (mv 0) zh) (zkk (zI zQt (mv 0) (zN zU T.tV zOb (za (mv 1) zc))))))) (zj (zC (mv 0))) zY) (zj (zC (zw (mv 1) (mv 0)))))
abbrev zmc:Yb:=top 5
abbrev zmb:List yF:=["laying","order"]
def zPi:tq zfg zmb (zp zmc):=by walk_at "s"
def zei(T:Txt K mg){zgk:yg}{zLi:yj}(zyf:FnAt K mg "nest_named" zcf zjc zgk zLi)(zKg:tm P w K mg base CX0 1 zgk zLi zjc (spM K 2 zAf)){f:yg}{fd:yj}(B:FnAt K mg "laying_of_nests" zmc zmb f fd):tm P w K mg base CX0 2 f fd zmb (spM K 2 zyc):=by
 refine fnM B.fn zPi rfl (λcdv A outer s H E hr=>⟨zpc,?_,λ_ _ _ _ _ e=>e⟩);have hu:=hr.units;exact(zj (zC (mlc ["nest"] [1] (zzb (mv 0)) (λ_ _ _ _ _=>(zE 0 (hN:=zF (by rfl)))) (λ_ _ _ _ _=>zzd) (λ_ _ _ _ _=>(tj zyf zKg hr (za (mv 0) (za (mv 1) zc)))) (z9 ⟨_,rfl,rfl⟩ ztb))))
abbrev zse:Yb:=top 58
abbrev zFb:List yF:=["_law_laying","_law_orders"]
def zuq:tq zNm zFb (zp zse):=by walk_at "s"
def zYo(T:Txt K mg){zVg:yg}{zTf:yj}(z1c:FnAt K mg "laying_of_keys" zRc zvb zVg zTf)(zGd:tm P w K mg base CX0 2 zVg zTf zvb (spM K 2 zZc)){zVf:yg}{z2e:yj}(znc:FnAt K mg "laying_of_nests" zmc zmb zVf z2e)(zud:tm P w K mg base CX0 2 zVf z2e zmb (spM K 2 zyc)){f:yg}{fd:yj}(B:FnAt K mg "_law_led" zse zFb f fd):tm P w K mg base CX0 3 f fd zFb (spM K 2 zcd):=by
 refine fnM B.fn zuq rfl (λcdv A outer s H E hr=>⟨zRh,?_,λ_ _ _ _ _ e=>e⟩);have hu:=hr.units;exact(zj (zC (tj z1c zGd hr (za (tj znc zud hr (za (mv 0) (za (zw (mv 1) zh) zc))) (za (zw (mv 1) zh) zc)))))
abbrev zDc:Yb:=top 61
abbrev zlb:List yF:=["_law_pen_here","_law_web_here","_law_other","_law_orders"]
def tF:tq zdg zlb (zp zDc):=by walk_at "s"
def z0h(T:Txt K mg){zDw:yg}{zBu:yj}(zLo:FnAt K mg "best" zxr zPj zDw zBu)(zao:tm P w K mg base CX0 5 zDw zBu zPj (spM K 2 zBo)){zpo:yg}{zFm:yj}(z3i:FnAt K mg "is_best" zOi zte zpo zFm)(z7j:tm P w K mg base CX0 4 zpo zFm zte (spM K 3 zfj)){zZ:yg}{zR:yj}(zz:FnAt K mg "_law_take" zTb zW zZ zR)(zu:tm P w K mg base CX0 1 zZ zR zW (spM K 2 zA)){zib:yg}{zfb:yj}(zT:FnAt K mg "some_named" zfc zab zib zfb)(zP:tm P w K mg base CX0 1 zib zfb zab (spM K 2 z8)){z7c:yg}{zec:yj}(z5b:FnAt K mg "_law_led" zse zFb z7c zec)(zRb:tm P w K mg base CX0 3 z7c zec zFb (spM K 2 zcd)){f:yg}{fd:yj}(B:FnAt K mg "_law_best_alike" zDc zlb f fd):tm P w K mg base CX0 6 f fd zlb (spM K 4 zwc):=by
 refine fnM B.fn tF rfl (λcdv A outer s H E hr=>⟨zEc,?_,λ_ _ _ _ _ e=>e⟩);have hu:=hr.units;exact(zf (zG 4 (mlc ["_law_key"] [0] (zzb (zw (mv 1) zh)) (λ_ _ _ _ _=>(zE 0 (hN:=zF (by rfl)))) (λ_ _ _ _ _=>zzd) (λ_ _ _ _ _=>(tj zz zu hr (za (mv 1) (za zh zc)))) (z9 ⟨_,rfl,rfl⟩ ztb)) (hN:=tF.nd)) (zf (zG 5 (mlc ["_law_k"] [4,3] (zIg T.Tl (za (zN zU T.tV zOb (za (mv 4) zc)) zc)) (λ_ _ _ _ _=>(zE 0 (hN:=zF (by rfl)))) (λ_ _ _ _ _=>zzd) (λ_ _ _ _ _=>(zw (mv 1) (zdv (zw (mv 2) zh) (za (mv 0) zc)))) (z9 ⟨_,rfl,rfl⟩ (z9 ⟨_,rfl,rfl⟩ ztb))) (hN:=tF.nd)) (zf (zhh (tj zLo zao hr (za (mv 1) (za (mv 4) zc))) (zEl (zUb (zdb 6 (hN:=tF.nd)) (zUb (zdb 7 (hN:=tF.nd)) (zUb (zdb 8 (hN:=tF.nd)) zai))))) (zf (zG 9 (zw (tj zLo zao hr (za (mv 2) (za (mv 5) zc))) zh) (hN:=tF.nd)) (zf (z9b (zI (zjf hu) (zN (zcl rfl) T.Sl zKu (za (mlc ["_law_key"] [4] (zzb (mv 6)) (λ_ _ _ _ _=>(zE 0 (hN:=zF (by rfl)))) (λ_ _ _ _ _=>zzd) (λ_ _ _ _ _=>(zw (mv 1) (mv 0))) (z9 ⟨_,rfl,rfl⟩ ztb)) zc)) (zN (zcl rfl) T.Sl zKu (za (mlc ["_law_key"] [5] (zzb (mv 9)) (λ_ _ _ _ _=>(zE 0 (hN:=zF (by rfl)))) (λ_ _ _ _ _=>zzd) (λ_ _ _ _ _=>(zw (mv 1) (mv 0))) (z9 ⟨_,rfl,rfl⟩ ztb)) zc))) (zj (zC z7g)) zY) (zf (mslc 10 ["_law_worth","_law_nests"] [3] (zzb (mv 8)) (λ_ _ _ _ _=>(zJf (zcb (zE 0 (hN:=zF (by rfl))) (zcb (zE 1 (hN:=zF (by rfl))) zVd)))) (λ_ _ _ _ _=>zzd) (λ_ _ _ _ _=>(zJb (za (mv 0) (za (tj zT zP hr (za (mv 1) (za (zw (mv 2) zh) zc))) zc)))) (z9 ⟨_,rfl,rfl⟩ ztb) tF.nd) (zj (zC (tj z3i z7j hr (za (mv 2) (za (mv 5) (za (zJb (za (tj zT zP hr (za (mv 6) (za (zw (mv 3) zh) zc))) (za (tj z5b zRb hr (za (mv 7) (za (mv 3) zc))) (za (mv 10) zc)))) zc))))))))))))
abbrev zee:Yb:=top 55
abbrev z4b:List yF:=["_law_pen_here","_law_web_here"]
def tN:tq zrj z4b (zp zee):=by walk_at "s"
def zgl(T:Txt K mg){zZ:yg}{zR:yj}(zz:FnAt K mg "_law_take" zTb zW zZ zR)(zu:tm P w K mg base CX0 1 zZ zR zW (spM K 2 zA)){f:yg}{fd:yj}(B:FnAt K mg "_law_greedy" zee z4b f fd):tm P w K mg base CX0 2 f fd z4b (spM K 2 zce):=by
 refine fnM B.fn tN rfl (λcdv A outer s H E hr=>⟨zvg,?_,λ_ _ _ _ _ e=>e⟩);have hu:=hr.units;exact(zf (zG 2 (zVc z4j T.TL z2h (za (zw (mv 1) zh) zc)) (hN:=tN.nd)) (zf (zG 3 (zxd zc) (hN:=tN.nd)) (zf (zAd (zzb (zw (mv 1) zh)) (zdb 4 (hN:=tN.nd)) (zf (zG 5 (tj zz zu hr (za (mv 0) (za (zN zU T.tV zOb (za (mv 4) zc)) zc))) (hN:=tN.nd)) (zf (zG 6 zjd (hN:=tN.nd)) (zf (zAd (zzb (zAb zKc (z6t (mv 4) (zro (mv 5)) z9t) (z6t (mv 4) z9t (zro (mv 5))))) (zdb 7 (hN:=tN.nd)) (zj (z9b (MW.mt (zGm (zI zPq (mv 6) zjd) (zGm (zI zLp (zw (mv 2) (mv 7)) zh) (ztl (zI zLp (tj zz zu hr (za (mv 0) (za zh zc))) zh))))) (zj (zG 6 (mv 7) (hN:=tN.nd))) zY))) (zf (z9b (zI z2d (mv 6) zjd) (zj (zhh (zAb zVp (zw (mv 2) (mv 6)) zh) (zOu (mv 2) (mv 6)))) zY) (zj (z9d (zXe (mv 3) (za (mv 6) zc))))))))) (zj (zC (mv 3))))))
abbrev zwd:Yb:=top 24
abbrev zub:List yF:=["web"]
def zim:tq zWi zub (zp zwd):=by walk_at "s"
def zul(T:Txt K mg){zTe:yg}{z1d:yj}(z5c:FnAt K mg "laid_more" zYe zPb zTe z1d)(z8c:tm P w K mg base CX0 4 zTe z1d zPb (spM K 3 zMd)){f:yg}{fd:yj}(B:FnAt K mg "laid_at_all" zwd zub f fd):tm P w K mg base CX0 5 f fd zub (spM K 1 zqc):=by
 refine fnM B.fn zim rfl (λcdv A outer s H E hr=>⟨zie,?_,λ_ _ _ _ _ e=>e⟩);have hu:=hr.units;exact(zj (zC (tj z5c z8c hr (za (mv 0) (za (zAb zFd (zxd (za zjd zc)) (zN zU T.tV zOb (za (zw (mv 0) zh) zc))) (za (zju T.TL z2h T.Tl (zN zU T.tV zOb (za (zw (mv 0) zh) zc))) zc))))))
abbrev zCe:Yb:=top 29
abbrev zGb:List yF:=["web","some"]
def zHq:tq zRm zGb (zp zCe):=by walk_at "s"
def zIp(T:Txt K mg){zfh:yg}{z7f:yj}(zNe:FnAt K mg "room_of" zkh zkd zfh z7f)(zve:tm P w K mg base CX0 1 zfh z7f zkd (spM K 2 zRf)){zad:yg}{zdc:yj}(z0b:FnAt K mg "homes_of" zue zHb zad zdc)(zVb:tm P w K mg base CX0 1 zad zdc zHb (spM K 2 zed)){f:yg}{fd:yj}(B:FnAt K mg "is_crowd" zCe zGb f fd):tm P w K mg base CX0 2 f fd zGb (spM K 2 zvc):=by
 refine fnM B.fn zHq rfl (λcdv A outer s H E hr=>⟨zwh,?_,λ_ _ _ _ _ e=>e⟩);have hu:=hr.units;exact(zj (zC (zvi zXm (tj zNe zve hr (za (mv 0) (za (tj z0b zVb hr (za (mv 0) (za (mv 1) zc))) zc))) (zN zU T.tV zOb (za (mv 1) zc)))))
abbrev zlg:Yb:=top 30
abbrev zhd:List yF:=["web","some"]
def TU:tq z1k zhd (zp zlg):=by walk_at "s"
def z1n(T:Txt K mg){zdd:yg}{zcc:yj}(zKb:FnAt K mg "is_crowd" zCe zGb zdd zcc)(zEb:tm P w K mg base CX0 2 zdd zcc zGb (spM K 2 zvc)){f:yg}{fd:yj}(B:FnAt K mg "spare_key" zlg zhd f fd):tm P w K mg base CX0 3 f fd zhd (spM K 2 zWe):=by
 refine fnM B.fn TU rfl (λcdv A outer s H E hr=>⟨zLg,?_,λ_ _ _ _ _ e=>e⟩);have hu:=hr.units;exact(zf (zAd (zzb (mv 1)) (zdb 2 (hN:=TU.nd)) (zj (z9b (zwm (tj zKb zEb hr (za (mv 0) (za (mlc ["other"] [2] (zzb (mv 1)) (λ_ _ _ _ _=>(zE 0 (hN:=zF (by rfl)))) (λ_ _ _ _ _=>(zWf (zI (zjf hu) (mv 0) (mv 1)))) (λ_ _ _ _ _=>(mv 0)) (z9 ⟨_,rfl,rfl⟩ ztb)) zc)))) (zj (zC (mv 2))) zY))) (zj (zC zjd)))
abbrev zki:Yb:=top 31
abbrev zre:List yF:=["web","some"]
def Tu:tq zGo zre (zp zki):=by walk_at "s"
def z7p(T:Txt K mg){zDl:yg}{zuk:yj}(zJe:FnAt K mg "spare_key" zlg zhd zDl zuk)(ztf:tm P w K mg base CX0 3 zDl zuk zhd (spM K 2 zWe)){f:yg}{fd:yj}(B:FnAt K mg "trimmed" zki zre f fd):tm P w K mg base CX0 4 f fd zre (spM K 2 zAi):=by
 refine fnM B.fn Tu rfl (λcdv A outer s H E hr=>⟨z9i,?_,λ_ _ _ _ _ e=>e⟩);have hu:=hr.units;exact(zf (zG 2 (zVc z4j T.TL z2h (za (mv 1) zc)) (hN:=Tu.nd)) (zf (zG 3 (tj zJe ztf hr (za (mv 0) (za (mv 2) zc))) (hN:=Tu.nd)) (zf (zFk 100000 (zI z2d (mv 3) zjd) (zf (z9d (znt (mv 2) (za (mv 3) zc))) (zj (zG 3 (tj zJe ztf hr (za (mv 0) (za (mv 2) zc))) (hN:=Tu.nd))))) (zj (zC (mv 2))))))
abbrev zqi:Yb:=top 32
abbrev z0d:List yF:=["web"]
def sB:tq z1q z0d (zp zqi):=by walk_at "s"
def z2r(T:Txt K mg){zvd:yg}{zNc:yj}(zXb:FnAt K mg "laid_at_all" zwd zub zvd zNc)(z2b:tm P w K mg base CX0 5 zvd zNc zub (spM K 1 zqc)){zlo:yg}{zdn:yj}(zzi:FnAt K mg "trimmed" zki zre zlo zdn)(zHj:tm P w K mg base CX0 4 zlo zdn zre (spM K 2 zAi)){f:yg}{fd:yj}(B:FnAt K mg "fitted" zqi z0d f fd):tm P w K mg base CX0 6 f fd z0d (spM K 1 zNg):=by
 refine fnM B.fn sB rfl (λcdv A outer s H E hr=>⟨zOk,?_,λ_ _ _ _ _ e=>e⟩);have hu:=hr.units;exact(zf (zG 1 (tj zXb z2b hr (za (mv 0) zc)) (hN:=sB.nd)) (zf (z9b (zI (zPc hu) (zw (mv 1) zh) (zxd zc)) (zj (zC (zJb (za zYf (za (zw (mv 1) zh) zc))))) zY) (zj (zC (zJb (za zYf (za (tj zzi zHj hr (za (mv 0) (za (zw (mv 1) zh) zc))) zc)))))))
abbrev zIi:Yb:=top 34
abbrev zwe:List yF:=["web","key","nest"]
def zks:tq zZo zwe (zp zIi):=by walk_at "s"
def zWp(T:Txt K mg){f:yg}{fd:yj}(B:FnAt K mg "held_to" zIi zwe f fd):tm P w K mg base CX0 1 f fd zwe (spM K 3 zFi):=by
 refine fnM B.fn zks rfl (λcdv A outer s H E hr=>⟨zbj,?_,λ_ _ _ _ _ e=>e⟩);have hu:=hr.units;exact(zj (zC (zJb (za (zw (mv 0) zh) (za (zAb zKc (zAb zKc (z6t (zw (mv 0) zh) z9t (zro (mv 1))) (zJb (za (zJb (za (mv 2) (za (mv 2) zc))) zc))) (z6t (zw (mv 0) zh) (zro (zAb zKc (mv 1) zh)) z9t)) zc)))))
abbrev zcj:Yb:=top 35
abbrev zDe:List yF:=["web","key","nest"]
def sk:tq zrp zDe (zp zcj):=by walk_at "s"
def zYp(T:Txt K mg){zJi:yg}{zgh:yj}(zef:FnAt K mg "fitted" zqi z0d zJi zgh)(zKe:tm P w K mg base CX0 6 zJi zgh z0d (spM K 1 zNg)){zcp:yg}{z8m:yj}(zji:FnAt K mg "held_to" zIi zwe zcp z8m)(zJj:tm P w K mg base CX0 1 zcp z8m zwe (spM K 3 zFi)){f:yg}{fd:yj}(B:FnAt K mg "may_lie" zcj zDe f fd):tm P w K mg base CX0 7 f fd zDe (spM K 3 z5f):=by
 refine fnM B.fn sk rfl (λcdv A outer s H E hr=>⟨zUi,?_,λ_ _ _ _ _ e=>e⟩);have hu:=hr.units;exact(zf (z9b (zI (zPc hu) (zw (zw (mv 0) zh) (mv 2)) zh) (zj (zC (zJb (za zYf (za (zxd zc) zc))))) zY) (zf (zG 3 (tj zef zKe hr (za (tj zji zJj hr (za (mv 0) (za (mv 1) (za (mv 2) zc)))) zc)) (hN:=sk.nd)) (zf (z9b (zI (zPc hu) (zw (mv 3) zh) zYf) (zj (zC (zJb (za zYf (za (zw (mv 3) zh) zc))))) zY) (zj (zC (zJb (za zYf (za (mlc ["other"] [1] (zzb (zw (mv 3) zh)) (λ_ _ _ _ _=>(zE 0 (hN:=zF (by rfl)))) (λ_ _ _ _ _=>(zWf (zI (zjf hu) (mv 0) (mv 1)))) (λ_ _ _ _ _=>(mv 0)) (z9 ⟨_,rfl,rfl⟩ ztb)) zc))))))))
abbrev zSc:Yb:=top 62
abbrev zxb:List yF:=["_law_pen_here","_law_web_here","_law_other","_law_orders"]
def tE:tq zYg zxb (zp zSc):=by walk_at "s"
def zBi(T:Txt K mg){zXi:yg}{zUh:yj}(zge:FnAt K mg "_law_greedy" zee z4b zXi zUh)(zIf:tm P w K mg base CX0 2 zXi zUh z4b (spM K 2 zce)){z7c:yg}{zec:yj}(z5b:FnAt K mg "_law_led" zse zFb z7c zec)(zRb:tm P w K mg base CX0 3 z7c zec zFb (spM K 2 zcd)){zRe:yg}{ztd:yj}(zPd:FnAt K mg "fault" z7h zQc zRe ztd)(zUc:tm P w K mg base CX0 2 zRe ztd zQc (spM K 2 zMf)){zZ:yg}{zR:yj}(zz:FnAt K mg "_law_take" zTb zW zZ zR)(zu:tm P w K mg base CX0 1 zZ zR zW (spM K 2 zA)){zRi:yg}{zdh:yj}(zhf:FnAt K mg "put_in" z7i zYd zRi zdh)(zSe:tm P w K mg base CX0 3 zRi zdh zYd (spM K 3 zMg)){zap:yg}{zin:yj}(znh:FnAt K mg "may_lie" zcj zDe zap zin)(zJh:tm P w K mg base CX0 7 zap zin zDe (spM K 3 z5f)){zib:yg}{zfb:yj}(zT:FnAt K mg "some_named" zfc zab zib zfb)(zP:tm P w K mg base CX0 1 zib zfb zab (spM K 2 z8)){f:yg}{fd:yj}(B:FnAt K mg "_law_key_alike" zSc zxb f fd):tm P w K mg base CX0 8 f fd zxb (spM K 4 zXc):=by
 refine fnM B.fn tE rfl (λcdv A outer s H E hr=>⟨zYc,?_,λ_ _ _ _ _ e=>e⟩);have hu:=hr.units;exact(zf (zG 4 (tj zge zIf hr (za (mv 0) (za (mv 1) zc))) (hN:=tE.nd)) (zf (zG 5 (tj z5b zRb hr (za (mv 4) (za (mv 3) zc))) (hN:=tE.nd)) (zf (z9b (zI z2d (tj zPd zUc hr (za (mv 2) (za (mv 5) zc))) zjd) (zj (zC z7g)) zY) (zf (zAd (zIg T.Tl (za (zN zU T.tV zOb (za (mv 4) zc)) zc)) (zdb 6 (hN:=tE.nd)) (zf (zG 7 (zw (zw (zw (mv 1) zh) (mv 6)) (tj zz zu hr (za (mv 0) (za (zN zU T.tV zOb (za (zw (zw (mv 1) zh) (mv 6)) zc)) zc)))) (hN:=tE.nd)) (zf (zG 8 (zw (zw (mv 3) zh) (mv 6)) (hN:=tE.nd)) (zf (z9b (zI (zjf hu) (zw (tj znh zJh hr (za (mv 1) (za (mv 6) (za (mv 7) zc)))) zh) (zw (tj znh zJh hr (za (mv 2) (za (mv 8) (za (zw (zw (mv 3) zh) (mv 7)) zc)))) zh)) (zj (zC z7g)) zY) (zj (z9b (zI zPq (zw (mv 4) (mv 6)) zjd) (zf (zhh (tj zhf zSe hr (za (mv 1) (za (mv 4) (za (mv 6) zc)))) (zEl (zUb (zdb 9 (hN:=tE.nd)) (zUb (zdb 10 (hN:=tE.nd)) zai)))) (zf (zG 11 (tj zhf zSe hr (za (mv 2) (za (mv 5) (za (mv 8) zc)))) (hN:=tE.nd)) (zf (z9b (MW.mt (zsn (zI (zjf hu) (zw (mv 11) zh) (mv 9)) (zkk (zI (zjf hu) (zN zU T.tV zOb (za (zw (mv 11) zh) zc)) (zN zU T.tV zOb (za (mv 10) zc)))))) (zj (zC z7g)) zY) (zj (z9b (MW.mt (zGm (zI (zPc hu) (mv 9) zYf) (ztl (zI (zjf hu) (zw (mv 11) zh) (tj zT zP hr (za (mv 10) (za (zw (mv 3) zh) zc))))))) (zj (zC z7g)) zY))))) zY)))))) (zj (zC z7g))))))
abbrev zlc:Yb:=top 59
abbrev zpb:List yF:=["_law_web_here","_law_other","_law_orders"]
def tX:tq zcg zpb (zp zlc):=by walk_at "s"
def z8h(T:Txt K mg){zJi:yg}{zgh:yj}(zef:FnAt K mg "fitted" zqi z0d zJi zgh)(zKe:tm P w K mg base CX0 6 zJi zgh z0d (spM K 1 zNg)){z7c:yg}{zec:yj}(z5b:FnAt K mg "_law_led" zse zFb z7c zec)(zRb:tm P w K mg base CX0 3 z7c zec zFb (spM K 2 zcd)){zdd:yg}{zcc:yj}(zKb:FnAt K mg "is_crowd" zCe zGb zdd zcc)(zEb:tm P w K mg base CX0 2 zdd zcc zGb (spM K 2 zvc)){zib:yg}{zfb:yj}(zT:FnAt K mg "some_named" zfc zab zib zfb)(zP:tm P w K mg base CX0 1 zib zfb zab (spM K 2 z8)){zRe:yg}{ztd:yj}(zPd:FnAt K mg "fault" z7h zQc zRe ztd)(zUc:tm P w K mg base CX0 2 zRe ztd zQc (spM K 2 zMf)){f:yg}{fd:yj}(B:FnAt K mg "_law_fits_alike" zlc zpb f fd):tm P w K mg base CX0 7 f fd zpb (spM K 3 zCc):=by
 refine fnM B.fn tX rfl (λcdv A outer s H E hr=>⟨zzc,?_,λ_ _ _ _ _ e=>e⟩);have hu:=hr.units;exact(zf (zhh (tj zef zKe hr (za (mv 0) zc)) (zEl (zUb (zdb 3 (hN:=tX.nd)) (zUb (zdb 4 (hN:=tX.nd)) zai)))) (zf (z9b (zI (zjf hu) (zw (tj zef zKe hr (za (mv 1) zc)) zh) (mv 3)) (zj (zC z7g)) zY) (zf (z9b (zI (zPc hu) (mv 3) zYf) (zj (zC (tj zKb zEb hr (za (mv 1) (za (tj zT zP hr (za (mv 4) (za (zw (mv 2) zh) zc))) zc))))) zY) (zf (zG 5 (tj z5b zRb hr (za (mv 4) (za (mv 2) zc))) (hN:=tX.nd)) (zj (zC (zYw (zvi zPq (tj zPd zUc hr (za (mv 1) (za (mv 5) zc))) zjd) (zHw (zvi zoh zjd (mv 5))))))))))
abbrev zRg:Yb:=top 57
abbrev z6c:List yF:=["_law_pen_here","_law_many"]
def zpp:tq z4l z6c (zp zRg):=by walk_at "s"
def zMn(T:Txt K mg){zZ:yg}{zR:yj}(zz:FnAt K mg "_law_take" zTb zW zZ zR)(zu:tm P w K mg base CX0 1 zZ zR zW (spM K 2 zA)){f:yg}{fd:yj}(B:FnAt K mg "_law_some" zRg z6c f fd):tm P w K mg base CX0 2 f fd z6c (spM K 2 zUe):=by
 refine fnM B.fn zpp rfl (λcdv A outer s H E hr=>⟨zkg,?_,λ_ _ _ _ _ e=>e⟩);have hu:=hr.units;exact(zj (zC (mlc ["_law_k"] [0] (zIg T.Tl (za (mv 1) zc)) (λ_ _ _ _ _=>(zE 0 (hN:=zF (by rfl)))) (λ_ _ _ _ _=>(zWf (zI (zPc hu) (tj zz zu hr (za (mv 1) (za zh zc))) zh))) (λ_ _ _ _ _=>(mv 0)) (z9 ⟨_,rfl,rfl⟩ ztb))))
abbrev zyg:Yb:=top 41
abbrev zbd:List yF:=["web","nest"]
def Tb:tq zYl zbd (zp zyg):=by walk_at "s"
def zun(T:Txt K mg){f:yg}{fd:yj}(B:FnAt K mg "joined_to" zyg zbd f fd):tm P w K mg base CX0 1 f fd zbd (spM K 2 zog):=by
 refine fnM B.fn Tb rfl (λcdv A outer s H E hr=>⟨zHg,?_,λ_ _ _ _ _ e=>e⟩);have hu:=hr.units;exact(zf (zG 2 (zLz (mv 1) z7g) (hN:=Tb.nd)) (zf (zG 3 (zxd (za (mv 1) zc)) (hN:=Tb.nd)) (zf (zFk 100000 (zI (zjf hu) (mv 3) (zxd zc)) (zf (zG 4 (zuz (mv 3)) (hN:=Tb.nd)) (zj (zAd (zzb (zw (mv 0) zh)) (zdb 5 (hN:=Tb.nd)) (zj (zAd (zzb (mv 5)) (zdb 6 (hN:=Tb.nd)) (zj (z9b (MW.mt (zGm (zI z2s (mv 4) (mv 5)) (ztl (zI zUm (mv 6) (mv 2))))) (zf (zhh z7g (z3s (mv 2) (mv 6))) (zj (z9d (zXe (mv 3) (za (mv 6) zc))))) zY)))))))) (zj (zC (zN (z3p rfl) T.Tq z4f (za (mv 2) zc)))))))
abbrev zMi:Yb:=top 42
abbrev zze:List yF:=["web","nest"]
def sm:tq zgp zze (zp zMi):=by walk_at "s"
def zyq(T:Txt K mg){zpl:yg}{zyk:yj}(zrg:FnAt K mg "joined_to" zyg zbd zpl zyk)(zch:tm P w K mg base CX0 1 zpl zyk zbd (spM K 2 zog)){f:yg}{fd:yj}(B:FnAt K mg "part_of" zMi zze f fd):tm P w K mg base CX0 2 f fd zze (spM K 2 zli):=by
 refine fnM B.fn sm rfl (λcdv A outer s H E hr=>⟨zDi,?_,λ_ _ _ _ _ e=>e⟩);have hu:=hr.units;exact(zf (zG 2 (tj zrg zch hr (za (mv 0) (za (mv 1) zc))) (hN:=sm.nd)) (zj (zC (zJb (za (mv 2) (za (mlc ["key","homes"] [2] (z8d T.tJ zgb (zw (mv 0) zh)) (λ_ _ _ _ _=>(zJf (zcb (zE 0 (hN:=zF (by rfl))) (zcb (zE 1 (hN:=zF (by rfl))) zVd)))) (λ_ _ _ _ _=>(zWf (zI z2s (zw (mv 1) zh) (mv 2)))) (λ_ _ _ _ _=>(mv 0)) (z9 ⟨_,rfl,rfl⟩ ztb)) zc))))))
abbrev zOn:Yb:=top 43
abbrev zvh:List yF:=["web"]
def sO:tq znu zvh (zp zOn):=by walk_at "s"
def zut(T:Txt K mg){zmp:yg}{zTm:yj}(zQi:FnAt K mg "part_of" zMi zze zmp zTm)(z8j:tm P w K mg base CX0 2 zmp zTm zze (spM K 2 zli)){f:yg}{fd:yj}(B:FnAt K mg "parts" zOn zvh f fd):tm P w K mg base CX0 3 f fd zvh (spM K 1 zol):=by
 refine fnM B.fn sO rfl (λcdv A outer s H E hr=>⟨z8n,?_,λ_ _ _ _ _ e=>e⟩);have hu:=hr.units;exact(zf (mslc 1 ["nest"] [0] (zIg T.Tl (za (zN zU T.tV zOb (za (zw (mv 0) zh) zc)) zc)) (λ_ _ _ _ _=>(zE 0 (hN:=zF (by rfl)))) (λ_ _ _ _ _=>zzd) (λ_ _ _ _ _=>(tj zQi z8j hr (za (mv 1) (za (mv 0) zc)))) (z9 ⟨_,rfl,rfl⟩ ztb) sO.nd) (zj (zC (mlc ["nest","part"] [] (z8d T.tJ zgb (mv 1)) (λ_ _ _ _ _=>(zJf (zcb (zE 0 (hN:=zF (by rfl))) (zcb (zE 1 (hN:=zF (by rfl))) zVd)))) (λ_ _ _ _ _=>(zWf (zI (zPc hu) (zw (zw (mv 1) zh) zh) (mv 0)))) (λ_ _ _ _ _=>(mv 1)) ztb))))
abbrev zur:Yb:=top 39
abbrev z3j:List yF:=["web"]
def sY:tq z1w z3j (zp zur):=by walk_at "s"
def zew(T:Txt K mg){zvd:yg}{zNc:yj}(zXb:FnAt K mg "laid_at_all" zwd zub zvd zNc)(z2b:tm P w K mg base CX0 5 zvd zNc zub (spM K 1 zqc)){zad:yg}{zdc:yj}(z0b:FnAt K mg "homes_of" zue zHb zad zdc)(zVb:tm P w K mg base CX0 1 zad zdc zHb (spM K 2 zed)){f:yg}{fd:yj}(B:FnAt K mg "most" zur z3j f fd):tm P w K mg base CX0 6 f fd z3j (spM K 1 zxo):=by
 refine fnM B.fn sY rfl (λcdv A outer s H E hr=>⟨zqr,?_,λ_ _ _ _ _ e=>e⟩);have hu:=hr.units;exact(zf (zG 1 (tj zXb z2b hr (za (mv 0) zc)) (hN:=sY.nd)) (zj (zC (zJb (za (zw (mv 1) zh) (za (tj z0b zVb hr (za (mv 0) (za (zw (mv 1) zh) zc))) zc))))))
abbrev zFc:Yb:=top 60
abbrev zob:List yF:=["_law_pen_here","_law_web_here","_law_other","_law_orders"]
def tY:tq z1f zob (zp zFc):=by walk_at "s"
def zdi(T:Txt K mg){z7k:yg}{zvk:yj}(zIe:FnAt K mg "_law_some" zRg z6c z7k zvk)(z9e:tm P w K mg base CX0 2 z7k zvk z6c (spM K 2 zUe)){zdd:yg}{zcc:yj}(zKb:FnAt K mg "is_crowd" zCe zGb zdd zcc)(zEb:tm P w K mg base CX0 2 zdd zcc zGb (spM K 2 zvc)){zem:yg}{zgj:yj}(zNf:FnAt K mg "bound" zhl z3e zem zgj)(zpe:tm P w K mg base CX0 2 zem zgj z3e (spM K 2 zSg)){zLu:yg}{zYq:yj}(zBl:FnAt K mg "parts" zOn zvh zLu zYq)(zJk:tm P w K mg base CX0 3 zLu zYq zvh (spM K 1 zol)){zib:yg}{zfb:yj}(zT:FnAt K mg "some_named" zfc zab zib zfb)(zP:tm P w K mg base CX0 1 zib zfb zab (spM K 2 z8)){zRw:yg}{zft:yj}(zvo:FnAt K mg "most" zur z3j zRw zft)(zYn:tm P w K mg base CX0 6 zRw zft z3j (spM K 1 zxo)){f:yg}{fd:yj}(B:FnAt K mg "_law_told_alike" zFc zob f fd):tm P w K mg base CX0 7 f fd zob (spM K 4 zkc):=by
 refine fnM B.fn tY rfl (λcdv A outer s H E hr=>⟨zGc,?_,λ_ _ _ _ _ e=>e⟩);have hu:=hr.units;exact(zf (zG 4 (tj zIe z9e hr (za (mv 0) (za (zN zU T.tV zOb (za (zw (mv 1) zh) zc)) zc))) (hN:=tY.nd)) (zf (zG 5 (tj zIe z9e hr (za (mv 0) (za (zN zU T.tV zOb (za (zw (mv 1) zh) zc)) zc))) (hN:=tY.nd)) (zf (z9b (zI (zjf hu) (tj zKb zEb hr (za (mv 1) (za (mv 4) zc))) (tj zKb zEb hr (za (mv 2) (za (tj zT zP hr (za (mv 4) (za (zw (mv 3) zh) zc))) zc)))) (zj (zC z7g)) zY) (zf (z9b (zI (zjf hu) (tj zNf zpe hr (za (mv 1) (za (mv 5) zc))) (tj zNf zpe hr (za (mv 2) (za (tj zT zP hr (za (mv 5) (za (zw (mv 3) zh) zc))) zc)))) (zj (zC z7g)) zY) (zf (z9b (zI (zjf hu) (tj zNf zpe hr (za (mv 1) (za (zw (tj zvo zYn hr (za (mv 1) zc)) zh) zc))) (tj zNf zpe hr (za (mv 2) (za (zw (tj zvo zYn hr (za (mv 2) zc)) zh) zc)))) (zj (zC z7g)) zY) (zf (mslc 6 ["_law_near","_law_keys"] [3] (zzb (tj zBl zJk hr (za (mv 1) zc))) (λ_ _ _ _ _=>(zJf (zcb (zE 0 (hN:=zF (by rfl))) (zcb (zE 1 (hN:=zF (by rfl))) zVd)))) (λ_ _ _ _ _=>zzd) (λ_ _ _ _ _=>(zJb (za (tj zT zP hr (za (mv 0) (za (zw (mv 2) zh) zc))) (za (tj zT zP hr (za (mv 1) (za (zw (mv 2) zh) zc))) zc)))) (z9 ⟨_,rfl,rfl⟩ ztb) tY.nd) (zj (zC (zvi (zPc hu) (tj zBl zJk hr (za (mv 2) zc)) (zN (zpq hr.u67) T.Tq z4f (za (mv 6) zc)))))))))))
abbrev zqq:Yb:=top 63
abbrev zTq:List yF:=["_law_script"]
def sn:tq zoz zTq (zp zqq):=by walk_at "s"
def zdx(T:Txt K mg){zLm:yg}{zil:yj}(zCh:FnAt K mg "_law_pen" zyh zLd zLm zil)(z9h:tm P w K mg base CX0 3 zLm zil zLd (spM K 2 zNh)){zhn:yg}{znl:yj}(zOh:FnAt K mg "_law_web" zEh zOd zhn znl)(z3h:tm P w K mg base CX0 2 zhn znl zOd (spM K 2 zFh)){zik:yg}{zpj:yj}(zpf:FnAt K mg "keys_named" z4e zsc zik zpj)(zmg:tm P w K mg base CX0 2 zik zpj zsc (spM K 2 zDf)){zjk:yg}{z0i:yj}(z5d:FnAt K mg "_law_order" zof zoc zjk z0i)(zoe:tm P w K mg base CX0 2 zjk z0i zoc (spM K 2 zXd)){zxi:yg}{zYh:yj}(zde:FnAt K mg "nests_named" zfe z3b zxi zYh)(zLf:tm P w K mg base CX0 2 zxi zYh z3b (spM K 2 zje)){z6f:yg}{zvf:yj}(zic:FnAt K mg "_law_best_alike" zDc zlb z6f zvf)(zqd:tm P w K mg base CX0 6 z6f zvf zlb (spM K 4 zwc)){zXg:yg}{zXf:yj}(zWc:FnAt K mg "_law_key_alike" zSc zxb zXg zXf)(zId:tm P w K mg base CX0 8 zXg zXf zxb (spM K 4 zXc)){zig:yg}{zrf:yj}(zrc:FnAt K mg "_law_fits_alike" zlc zpb zig zrf)(zEd:tm P w K mg base CX0 7 zig zrf zpb (spM K 3 zCc)){zag:yg}{zbf:yj}(zxc:FnAt K mg "_law_told_alike" zFc zob zag zbf)(zpd:tm P w K mg base CX0 7 zag zbf zob (spM K 4 zkc)){f:yg}{fd:yj}(B:FnAt K mg "law" zqq zTq f fd):tm P w K mg base CX0 9 f fd zTq (spM K 1 zVr):=by
 refine fnM B.fn sn rfl (λcdv A outer s H E hr=>⟨zKv,?_,λ_ _ _ _ _ e=>e⟩);have hu:=hr.units;exact(zf (zG 1 (tj zCh z9h hr (za (mv 0) (za zh zc))) (hN:=sn.nd)) (zf (zG 2 (tj zOh z3h hr (za (mv 1) (za zh zc))) (hN:=sn.nd)) (zf (zG 3 (zxd (za (tj z5d zoe hr (za (mv 1) (za (zN zU T.tV zOb (za (zw (mv 2) zh) zc)) zc))) (za (tj z5d zoe hr (za (mv 1) (za (zN zU T.tV zOb (za (zw (mv 2) zh) zc)) zc))) zc))) (hN:=sn.nd)) (zf (zG 4 (tj zpf zmg hr (za (tj zde zLf hr (za (mv 2) (za (zw (mv 3) zh) zc))) (za (zw (mv 3) zh) zc))) (hN:=sn.nd)) (zf (z9b (MW.mt (zsn (zBt (zwm (tj zrc zEd hr (za (mv 2) (za (mv 4) (za (mv 3) zc)))))) (zkk (zBt (zwm (tj zxc zpd hr (za (mv 1) (za (mv 2) (za (mv 4) (za (mv 3) zc)))))))))) (zj (zC z7g)) zY) (zj (zC (zYw (tj zic zqd hr (za (mv 1) (za (mv 2) (za (mv 4) (za (mv 3) zc))))) (zHw (tj zWc zId hr (za (mv 1) (za (mv 2) (za (mv 4) (za (mv 3) zc))))))))))))))
end
end P
namespace P
open PySem PySem.Spec PyProof.Rows L2 M
set_option maxHeartbeats 4000000
variable {R:List Nat}{K:List (List Nat)}{μ:Mem}{Q:D->Mem->Prop}{i j k l L m n a b h nest ol t wl:Nat}{xs ds:List D}{B:Int}{μ':Mem}{C ks S N T O R' W:List Nat}{lay lay0 lay':List (Option Nat)}{row:List (Nat×Nat)}{α:Type}{K':List (List Nat)}
def zAu{i j:Int}:gEq (.int i) (.int j) μ=some (.bl (i==j),μ):=by simp[gEq,toP,Yu]
def z5p:M.cutD xs none (some (i:Int))=xs.take i:=by
 unfold M.cutD;rw[HT.sL,HT.sV,List.drop_zero,Nat.sub_zero];rcases Nat.le_total i xs.length with h|h
 ·rw[Nat.min_eq_left h]
 ·rw[Nat.min_eq_right h,take_length,xi h]
def ztw:M.cutD xs (some (i:Int)) none=xs.drop i:=by
 unfold M.cutD;rw[HT.sL,HT.sV];rcases Nat.le_total i xs.length with h|h
 ·rw[Nat.min_eq_left h,xi (by simp)]
 ·rw[Nat.min_eq_right h,Nat.sub_self,List.take_zero,List.drop_eq_nil_of_le h]
local macro_rules | `(tactic| walk_at "w") => `(tactic| first
  | refine zr ?_ | refine zhb ?_ | refine zco ?_ | refine zwb ?_ | refine zNi ?_ | refine z0g ?_ | refine zjb ?_ | refine zah ?_
  | refine zd rfl ?_ | refine w_c ?_ | refine zm ?_ | refine zn ?_ | refine zb ?_ | refine zo ?_ | refine z7d ?_ | refine z5i ?_ | refine zIz ?_ | refine zyv ?_ | refine zVq ?_ | refine zux ?_ | refine zIB ?_ | refine w_not ?_ | refine zJA ?_ | refine zWh ?_ | refine zAj ?_ | refine z9q ?_ | refine zuA ?_
  | refine zJ ?_ | refine zJp ?_ | refine zBk ?_ | refine zQr ?_ | refine zWu ?_ | refine zVj ?_ | refine zfd ?_ | refine zaj ?_ | refine zEz ?_ | refine znd ?_ | refine zfi ?_
  | refine zku ?_ | refine zZy ?_ | refine zWA (by first | decide | omega) ?_ | refine zrA (by first | decide | omega) (by first | decide | omega) ?_ | refine z4n ?_ | refine zjo ?_ | refine zPA ?_ | refine zpA ?_ | refine zqv ?_ | refine zkA (by decide) (by decide) (by decide) ?_ | refine zCz ?_ | refine zsz ?_ | refine zrz ?_ | refine zQy ?_
  | refine zhe rfl ?_ | refine ziu rfl ?_ | refine zpg rfl ?_ | with_reducible refine ⟨_,rfl,?_⟩)
local macro_rules | `(tactic| walk_at "om") => `(tactic| first | omega | (simp only [length_map, length_range, Int.toNat_natCast, length_append, length_cons, List.length_nil] at *; omega) | (simp <;> omega))
def zgy{ns:List Int}{k:Int}(h0:0<=k)(h1:k<=1000):∃v,zmd [.fz (ns.map .int),.int k] μ=some (.int v,μ):=by
 have hk1:-18446744073709551616<k:=by omega
 have hk2:k<18446744073709551616:=by omega
 by_cases hn:ns=[]
 ·subst hn;simp[zmd,zff,zxf,zPl,hk1,hk2]
 ·have hl:0<ns.length:=List.length_pos_iff.mpr hn;have hl':(0:Int)<ns.length:=by omega
  have hm0:0<=k%(ns.length:Int):=Int.emod_nonneg _ (by omega);have hm1:k%(ns.length:Int)<ns.length:=Int.emod_lt_of_pos _ hl';have hi:(k%(ns.length:Int)).toNat<ns.length:=by omega
  simp[zmd,zff,zxf,zPl,hk1,hk2,hl,hl',hm0,hm1,atI,ixN,yc hi]
def zwz{ns:List Int}{k:Int}(h0:0<=k)(h1:k<=1000):∃v,z1b [.fz (ns.map .int),.int k] μ=some (.int v,μ):=by
 by_cases h:k<ns.length
 ·have hi:k.toNat<ns.length:=by omega
  exact⟨ns[k.toNat],by simp[z1b,zUd,zQd,h,h0,atI,ixN,yc hi]⟩
 ·obtain⟨v,e⟩:=zgy (ns:=ns) (μ:=μ) h0 h1;exact⟨v,by simp[z1b,zUd,zQd,h,e]⟩
def Pen(μ:Mem)(l:Nat)(B:Int):Prop:=∃f c n a:Int,μ[l]?=some (.lst [.int f,.int c,.int n,.int a])/\0<=a/\a<=B
def Pen.mono{B':Int}(h:Pen μ l B)(hb:B<=B'):Pen μ l B':=by
 obtain⟨f,c,n,a,e,h0,h1⟩:=h;exact⟨f,c,n,a,e,h0,by omega⟩
def Pen.kb{μ:Mem}{L:List Nat}(h:Pen μ l B)(k:KB L μ μ')(hl:l∉L):Pen μ' l B:=by
 obtain⟨f,c,n,a,e,h0,h1⟩:=h;exact⟨f,c,n,a,k.at_ _ _ hl e,h0,h1⟩
def Pen.app{μ g:Mem}(h:Pen μ l B):Pen (μ++g) l B:=h.kb (L:=[]) (KB.refl.app) (by simp)
def Pen.lt(h:Pen μ l B):l<μ.length:=by
 obtain⟨f,c,n,a,e,_⟩:=h;exact zx e
def z6b{s:Int}(h:Pen μ l B)(hB:B<=1000000000)(h0:0<s)(h1:s<1606938044258990275541962092341162602522202993782792835301376)
 (q:∀v μ',0<=v->v<s->KB [l] μ μ'->μ'.length=μ.length->Pen μ' l (B+1)->Q (.int v) μ'):WF zA [.loc l,.int s] μ Q:=by
 obtain⟨f,c,n,a,e,ha,hb⟩:=h;have hlt:=zx e;have kb:∀o,KB [l] μ (μ.set l o):=λo=>KB.refl.set (.inl (by simp))
 by_cases hf:f=0
 ·subst hf;refine⟨_,_,?_,q (c%s) (μ.set l (.lst [.int 0,.int (c / s),.int n,.int a])) (Int.emod_nonneg _ (by omega)) (Int.emod_lt_of_pos _ h0) (kb _) (by simp) ⟨0,c / s,n,a,zL e,ha,by omega⟩⟩;simp[zA,zEg,zjg,e,atI,ixN,zAu,h0,h1]
 ·have hf':(f==0)=false:=by simpa using hf
  have e2:(μ.set l (.lst [.int f,.int c,.int n,.int (a+1)]))[l]?=some (.lst [.int f,.int c,.int n,.int (a+1)]):=zL e;have hm1:-18446744073709551616<a+1:=by omega
  have hm2:a+1<18446744073709551616:=by omega
  refine⟨_,_,?_,q (((c%2305843009213693951*48271+(a+1)*(a+1)*40692+7*(a+1)+11)%2147483647*1181783497276652981%2305843009213693951 / 64)%s) (μ.set l (.lst [.int f,.int c,.int n,.int (a+1)])) (Int.emod_nonneg _ (by omega)) (Int.emod_lt_of_pos _ h0) (kb _) (by simp) ⟨f,c,n,a+1,e2,by omega,by omega⟩⟩;simp[zA,zEg,zjg,e,e2,atI,ixN,zAu,hf',h0,h1,zPl,hm1,hm2,zso]
def z4y{ns:List Int}{k:Int}(h0:0<=k)(h1:k<=1000)(q:∀μ',KB [] μ μ'->Pen μ' μ.length 101000->μ'.length=μ.length+1->Q (.loc μ.length) μ'):WF zNh [.fz (ns.map .int),.int k] μ Q:=by
 obtain⟨v,e⟩:=zwz (ns:=ns) (μ:=μ) h0 h1;refine zsb rfl ?_;unfold z2j
 repeat walk_at "w"
 refine⟨_,_,e,?_⟩
 repeat walk_at "w"
 refine zaA (by unfold zso;simp) ?_
 repeat walk_at "w"
 refine q _ KB.refl.app ⟨_,_,_,_,zt,by omega,by omega⟩ (by simp)
abbrev tp(ns:List Int):D:=.tup (ns.map .int)
abbrev wb(rooms:List Int)(ks:List (List Int)):D:=.tup [tp rooms,.tup (ks.map tp)]
structure WebA(L:Int)(rooms:List Int)(ks:List (List Int)):Prop where
 rl:1<=rooms.length/\rooms.length<=10
 rn:∀r∈rooms,0<=r
 kl:ks.length<=L
 kn:∀k∈ks,(2<=k.length/\k.length<=3)/\∀i∈k,0<=i/\i<rooms.length
def zVy{i:Int}(h0:0<=i)(h1:i<ds.length):∃d,d∈ds/\ds[i.toNat]?=some d/\atI ds i=some d:=by
 have hi:i.toNat<ds.length:=by omega
 refine⟨ds[i.toNat],getElem_mem hi,by simp[hi],?_⟩;have:=zVe (xs:=ds) (j:=i.toNat) (v:=ds[i.toNat]) (by simp[hi]);rw[Int.toNat_of_nonneg h0]at this;exact this
def zyx{p:Int->Prop}:∀ds:List D,(∀d∈ds,∃i:Int,d=.int i/\p i)->∃ns:List Int,ds=ns.map .int/\∀r∈ns,p r:=λds=>by
 induction ds with
 |nil=>exact λ_=>⟨[],rfl,by simp⟩
 |cons d ds ih=>
  intro h;obtain⟨ns,rfl,q⟩:=ih λx hx=>h x (mem_cons_of_mem _ hx);obtain⟨i,rfl,hi⟩:=h d mem_cons_self;exact⟨i::ns,rfl,by simp;exact⟨hi,q⟩⟩
def zxw{k:Int}{x:D}(h:Pen μ l B)(hB:B<=1000000)(hk:0<=k/\k<4)
 (q:∀i μ',0<=i/\i<=9->KB [l] μ μ'->Pen μ' l (B+3)->Q (.int i) μ'):WE zCf [some x,some (.loc l),some (.int k)] μ Q:=by
 unfold zCf
 repeat walk_at "w"
 refine z6b h (by omega) (by omega) (by omega) λv1 μ1 a1 b1 k1 _ h1=>?_
 repeat walk_at "w"
 refine z6b h1 (by omega) (by omega) (by omega) λv2 μ2 a2 b2 k2 _ h2=>?_
 repeat walk_at "w"
 refine z6b h2 (by omega) (by omega) (by omega) λv3 μ3 a3 b3 k3 _ h3=>?_
 repeat walk_at "w"
 obtain⟨d,hm,_,ha⟩:=zVy (ds:=[.int v1,.int 1,.int v2,.int v3]) hk.1 (by simpa using hk.2);refine zBb (zk zt) ha ?_
 have fin:∀i:Int,0<=i/\i<=9->d=.int i->Q d (μ3++[tw.lst [.int v1,.int 1,.int v2,.int v3]]):=λi hi e=>by
  rw[e];exact q i _ hi ((k1.trans (k2.trans k3)).app) (h3.app.mono (by omega))
 simp only[mem_cons,not_mem_nil,or_false]at hm;rcases hm with e|e|e|e
 ·exact fin v1 (by omega) e
 ·exact fin 1 (by omega) e
 ·exact fin v2 (by omega) e
 ·exact fin v3 (by omega) e
def zky{kl:Nat}{m:Int}{J:M.Loc}{K9 z z2 R C:D}{y:Option D}{ks:List (List Int)}{nx:M.Loc->Mem->Prop}{rt:D->Mem->Prop}{bk ct:M.Loc->Mem->Prop}(h:Pen μ l B)(hB:B<=1000000)(hm:0<m/\m<=10)(hk:μ[kl]?=some (.lst (ks.map tp)))(hne:l≠kl)(hlen:ks.length<=1000)
 (hδ:J=[some (.loc l),some z,some (.int m),some K9,some R,some C,some (.loc kl),some z2,y])
 (q:∀y' μ' key,KB [l,kl] μ μ'->Pen μ' l (B+4)->μ'[kl]?=some (.lst ((ks++[key]).map tp))->(2<=key.length/\key.length<=3)->(∀i∈key,0<=i/\i<m)->nx [some (.loc l),some z,some (.int m),some K9,some R,some C,some (.loc kl),some z2,y'] μ') :
 WS zsf J μ nx rt bk ct:=by
 subst hδ;have hkl:=zx hk;have hll:=h.lt;have kp:∀{a b:Mem},KB [l] a b->KB [l,kl] a b:=λk=>k.sub (by simp);unfold zsf
 repeat walk_at "w"
 refine z6b h (by omega) (by omega) (by omega) λv1 μ1 a1 b1 k1 e1 h1=>?_
 repeat walk_at "w"
 refine z6b h1 (by omega) (by omega) (by omega) λv2 μ2 a2 b2 k2 e2 h2=>?_
 repeat walk_at "w"
 refine z6b (μ:=μ2++[tw.lst [.int v1,.int v2]]) h2.app (by omega) (by omega) (by omega) λv3 μ3 a3 b3 k3 e3 h3=>?_;have kl2:μ2.length≠l:=by omega
 have kl3:kl≠μ2.length:=by omega
 have g3:μ3[μ2.length]?=some (.lst [.int v1,.int v2]):=k3.at_ _ _ (by simp;exact kl2) zt;have gk3:μ3[kl]?=some (.lst (ks.map tp)):=k3.at_ _ _ (by simp;exact Yk hne) (zK ((k1.trans k2).at_ _ _ (by simp;exact Yk hne) hk));have kk:KB [l,kl] μ μ3:=(kp (k1.trans k2)).app.trans ((kp k3).sub (by simp)) 
 repeat walk_at "w"
 have fin:∀(key:List Int)(ν:Mem),KB [l,kl] μ ν->Pen ν l (B+4)->ν[kl]?=some (.lst (ks.map tp))->ν[μ2.length]?=some (.lst (key.map .int))->(2<=key.length/\key.length<=3)->(∀i∈key,0<=i/\i<m) ->
  WS (zeh (zke zHd (zg 6) (ze (zq zGe (ze (zg 8) zB)) zB))) [some (.loc l),some z,some (.int m),some K9,some R,some C,some (.loc kl),some z2,some (.loc μ2.length)] ν nx rt bk ct:=λkey ν kv pv g1 g2 hl hb=>by
  repeat walk_at "w"
  refine⟨_,_,rfl,g1,?_⟩
  repeat walk_at "w"
  refine zpg (zk g2) ?_
  repeat walk_at "w"
  refine zFg g1 (by simp;omega) ?_;refine q _ _ key (kv.set (.inl (by simp))) ?_ (by rw[zL g1];simp) hl hb;obtain⟨f,c,n,a,e,h1⟩:=pv;exact⟨f,c,n,a,zD e (Yk hne),h1⟩
 refine⟨λhb=>?_,λhb=>?_⟩
 ·repeat walk_at "w"
  refine⟨_,_,rfl,g3,?_⟩
  repeat walk_at "w"
  refine z6b h3 (by omega) (by omega) (by omega) λv4 μ4 a4 b4 k4 e4 h4=>?_
  repeat walk_at "w"
  have g4:=k4.at_ _ _ (by simp;exact kl2) g3;refine zFg g4 (by simp) ?_;refine fin [v1,v2,v4] _ ((kk.trans (kp k4)).set (.inr (by omega))) ?_ (zD (k4.at_ _ _ (by simp;exact Yk hne) gk3) (Yk kl3)) (by rw[zL g4];rfl) (by simp) (by simp;omega);obtain⟨f,c,n,a,e,h1⟩:=h4;exact⟨f,c,n,a,zD e kl2,h1.1,by omega⟩
 ·refine zjb ?_;exact fin [v1,v2] _ kk (h3.mono (by omega)) gk3 g3 (by simp) (by simp;omega)
def znx{lim:Int}(h:Pen μ l B)(hB:B<=200000)(hl0:0<=lim)(hl1:lim<=100)
 (q:∀rooms ks μ',WebA lim rooms ks->(∀r∈rooms,r<=9)->KB [l] μ μ'->Pen μ' l (B+1000)->Q (wb rooms ks) μ'):WF zFh [.loc l,.int lim] μ Q:=by
 have rest:∀(m:Int)(ν:Mem),1<=m->m<=10->KB [l] μ ν->Pen ν l (B+3)->WS (z7 (zNb 3 (zq zA (ze (zg 0) (ze (fC (.int 4)) zB)))) (z7 (zNb 4 (zq zGe (ze (fLC 1 [0,3] (zTg (ze (zg 2) zB)) (gN 0) zCk zCf) zB))) (z7 (zNb 5 (zq zA (ze (zg 0) (ze (zy znm (zg 1) (fC (.int 1))) zB)))) (z7 (zNb 6 (zgm zB)) (z7 (zxl (zTg (ze (zg 5) zB)) (gN 7) zsf) (zMb (zii (ze (zg 4) (ze (zq zGe (ze (zg 6) zB)) zB)))))))))
  [some (.loc l),some (.int lim),some (.int m),none,none,none,none,none,none] ν (λ_ μ'=>Q .non μ') Q (λ_ _=>False) (λ_ _=>False):=λm ν hm0 hm1 kv pv=>by
  repeat walk_at "w"
  refine z6b pv (by omega) (by omega) (by omega) λkd μ1 a1 b1 k1 e1 h1=>?_
  repeat walk_at "w"
  refine⟨by omega,by omega,zrb (by simp;omega),?_⟩;refine zgi (λi ys μ'=>KB [l] μ1 μ'/\Pen μ' l (B+4+3*i)/\ys.length=i/\∀d∈ys,∃j:Int,d=.int j/\(0<=j/\j<=9)) ⟨.refl,by simpa using h1.mono (by omega),rfl,by simp⟩ (λ_ _ _ _=>rfl) ?_ ?_
  ·rintro i x ys μ' hx ⟨k,p,hl,hy⟩;obtain⟨hi,rfl⟩:=zAh hx
   repeat walk_at "w"
   refine⟨λ_=>?_,λhf=>by cases hf⟩;refine zxw p (by omega) ⟨a1,b1⟩ λj μ'' hj k' p'=>⟨k.trans k',p'.mono (by omega),by simp[hl],λd hd=>?_⟩
   rcases List.mem_append.mp hd with hd|hd
   ·exact hy d hd
   ·exact⟨j,by simpa using hd,hj⟩
  ·rintro ys μ2 ⟨k2,p2,hl2,hy⟩;obtain⟨rooms,rfl,hr⟩:=zyx ys hy;simp only[length_map,length_range]at hl2 p2
   repeat walk_at "w"
   refine zpg (zk zt) ?_
   repeat walk_at "w"
   refine z6b (p2.app.mono (show _<=B+34 by omega)) (by omega) (by omega) (by omega) λct μ3 a3 b3 k3 e3 h3=>?_
   repeat walk_at "w"
   refine⟨by omega,by omega,?_⟩;have hne:l≠μ3.length:=yw h3.lt;have kk:KB [l] μ μ3:=kv.trans (k1.trans (k2.app.trans k3));have hlen3:=kk.len;refine zWb (λi J μ'=>∃(ks:List (List Int)) (x y:Option D),J=[some (.loc l),some (.int lim),some (.int m),some (.int kd),some (tp rooms),some (.int ct),some (.loc μ3.length),x,y]/\μ'[μ3.length]?=some (.lst (ks.map tp))/\ks.length=i/\(∀k∈ks,(2<=k.length/\k.length<=3)/\∀i∈k,0<=i/\i<m)/\Pen μ' l (B+35+4*i)/\KB [l] μ μ') ?_ (λ_ _ _ _=>rfl) ?_ ?_
   ·exact⟨[],none,none,rfl,zt,rfl,by simp,h3.app.mono (by omega),kk.app⟩
   ·rintro i x J μ' hx ⟨ks,y1,y2,rfl,g,hl,hk,p,kq⟩;obtain⟨hi,rfl⟩:=zAh hx;refine zfd ?_;refine zky (ks:=ks) (m:=m) (kl:=μ3.length) p (by omega) (by omega) g hne (by omega) rfl λy' μ'' key k' p' g' hl' hb'=>?_;refine⟨ks++[key],_,y',rfl,g',by simp[hl],λk hk'=>?_,p'.mono (by omega),kq.step k' (by simp;exact .inr hlen3)⟩
    ·rcases List.mem_append.mp hk' with hk'|hk'
     ·exact hk k hk'
     ·rw[List.mem_singleton.mp hk'];exact⟨hl',hb'⟩
   ·rintro J μ' ⟨ks,y1,y2,rfl,g,hl,hk,p,kq⟩;simp only[length_map,length_range]at hl p
    repeat walk_at "w"
    refine zpg (zk g) ?_
    repeat walk_at "w"
    refine q rooms ks μ' ⟨by omega,λr hr'=>(hr r hr').1,by omega,λk hk'=>⟨(hk k hk').1,λi hi=>?_⟩⟩ (λr hr'=>(hr r hr').2) kq (p.mono (by omega));have:=(hk k hk').2 i hi;omega
 refine zsb rfl ?_;unfold zNj
 repeat walk_at "w"
 refine z6b h (by omega) (by omega) (by omega) λv1 μ1 a1 b1 k1 e1 h1=>?_
 repeat walk_at "w"
 refine z6b h1 (by omega) (by omega) (by omega) λv2 μ2 a2 b2 k2 e2 h2=>?_
 repeat walk_at "w"
 refine⟨λhb=>?_,λhb=>?_⟩
 ·repeat walk_at "w"
  refine z6b h2 (by omega) (by omega) (by omega) λv3 μ3 a3 b3 k3 e3 h3=>?_;refine zku ?_;exact rest (7+v3) _ (by omega) (by omega) (k1.trans (k2.trans k3)) (h3.mono (by omega))
 ·refine zjb ?_;exact rest (1+v1) _ (by omega) (by omega) (k1.trans k2) (h2.mono (by omega))
abbrev tn(ns:List Nat):D:=.tup (nat ns)
abbrev wn(R:List Nat)(K:List (List Nat)):D:=.tup [tn R,.tup (K.map tn)]
structure Wb(L:Nat)(R:List Nat)(K:List (List Nat)):Prop where
 rl:1<=R.length/\R.length<=10
 kl:K.length<=L
 kn:∀k∈K,(2<=k.length/\k.length<=3)/\∀h∈k,h<R.length
def z7s :∀{ns:List Int},(∀n∈ns,0<=n)->ns.map D.int=nat (ns.map xT):=λ{ns} h=>by
 rw[z1g];refine map_congr_left λn hn=>?_;show D.int n=D.int (n.toNat:Nat);rw[Int.toNat_of_nonneg (h n hn)]
def Wb.of{L:Int}{rooms:List Int}{ks:List (List Int)}(w:WebA L rooms ks):wb rooms ks=wn (rooms.map xT) (ks.map (·.map xT))/\Wb L.toNat (rooms.map xT) (ks.map (·.map xT)):=by
 refine⟨?_,⟨by simpa using w.rl,by have:=w.kl;simp;omega,λk hk=>?_⟩⟩
 ·show D.tup [.tup (rooms.map .int),.tup (ks.map tp)]=D.tup [.tup (nat _),.tup ((ks.map _).map tn)];rw[z7s w.rn,map_map]
  congr 3
  refine congrArg D.tup (map_congr_left λk hk=>?_);show D.tup (k.map .int)=D.tup (nat (k.map xT));rw[z7s λn hn=>((w.kn k hk).2 n hn).1]
 ·obtain⟨k',hk',rfl⟩:=List.mem_map.mp hk;obtain⟨h1,h2⟩:=w.kn k' hk';refine⟨by simpa using h1,λh hh=>?_⟩;obtain⟨i,hi,rfl⟩:=List.mem_map.mp hh;have:=h2 i hi;rw[length_map];omega
def Wb.key(w:Wb L R K){k:Nat}(h:k<K.length):(2<=(K.getD k []).length/\(K.getD k []).length<=3)/\∀x∈K.getD k [],x<R.length:=by
 have:K.getD k []=K[k]:=by simp[h]
 rw[this];exact w.kn _ (getElem_mem h)
def zae(q:Q (tn R) μ):W2 gIx (wn R K) (.int 0) μ Q:=zBb rfl (show atI [tn R,.tup (K.map tn)] 0=some (tn R) from rfl) q
def zIc(q:Q (.tup (K.map tn)) μ):W2 gIx (wn R K) (.int 1) μ Q:=zBb rfl (show atI [tn R,.tup (K.map tn)] 1=some (.tup (K.map tn)) from rfl) q
def zEo(h:k<K.length)(q:Q (tn (K.getD k [])) μ):W2 gIx (.tup (K.map tn)) (.int k) μ Q :=
 zBb rfl (zVe (v:=tn (K.getD k [])) (by simp[h])) q
def z9w(h:k<R.length)(q:Q (.int (R.getD k 0:Nat)) μ):W2 gIx (tn R) (.int k) μ Q:=zBb rfl (zTc h) q
structure tG(R:List Nat)(K:List (List Nat))(lay:List (Option Nat)):Prop where
 len:lay.length=K.length
 home:∀k h,lay[k]?=some (some h)->h∈K.getD k []
 room:∀h,lay.count (some h)<=R.getD h 0
def zum(K:List (List Nat))(S:List Nat):List Nat:=S.flatMap λk=>K.getD k []
def zLc(n:Nat)(K:List (List Nat))(S:List Nat):List Nat:=(yd n).filter λh=>decide (∃k∈S,h∈K.getD k [])
def zTj(R:List Nat)(N:List Nat):Nat:=(N.map λh=>R.getD h 0).sum
def zbc(w:Wb L R K)(h:Nat):h∈zLc R.length K S↔∃k∈S,h∈K.getD k []:=by
 unfold zLc;rw[mem_filter,mem_range,decide_eq_true_iff];constructor
 ·exact λq=>q.2
 ·rintro⟨k,hk,hh⟩;refine⟨?_,k,hk,hh⟩;rw[getD_eq_getElem?_getD]at hh
  cases e:K[k]? with
  |none=>rw[e]at hh;simp at hh
  |some x=>rw[e]at hh;exact(w.kn x (mem_of_getElem? e)).2 h hh
def zov :∀h∈zLc n K S,h<n:=λh hh=>by
 have:=(List.mem_filter.mp hh).1;simpa using this
def znw(n:Nat)(K:List (List Nat))(S:List Nat):(zLc n K S).Pairwise (· < ·):=List.pairwise_lt_range.filter _
def z6o(n:Nat)(K:List (List Nat))(S:List Nat):(zLc n K S).length<=n:=by
 unfold zLc;refine yD (length_filter_le _ _) ?_;simp
def zSl{L:Nat}{R:List Nat}{K:List (List Nat)}(w:Wb L R K):∀S:List Nat,(zum K S).length<=3*S.length
 |[]=>by simp[zum]
 |k::S=>by
  have ih:=zSl w S
  have h1:(K.getD k []).length<=3:=by
   rw[getD_eq_getElem?_getD]
   cases e:K[k]? with
   |none=>simp
   |some x=>exact(w.kn x (mem_of_getElem? e)).1.2
  unfold zum at ih ⊢;rw[List.flatMap_cons,length_append,length_cons];omega
def z1e(R:List Nat)(K:List (List Nat))(S:List Nat):Bool:=decide (zTj R (zLc R.length K S)<S.length)
def zUj(w:Wb L R K)(hn:μ[n]?=some (.lst (nat S)))(hS:∀k∈S,k<K.length)(hl:S.length<=1000)
 (q:∀(l:Nat)(μ':Mem),tu μ μ'->μ.length<=l->μ'[l]?=some (.lst (nat (zLc R.length K S)))->Q (.loc l) μ'):WF zed [wn R K,.loc n] μ Q:=by
 refine zsb rfl ?_;show WS zBh [some (wn R K),some (.loc n),none,none] μ _ _ _ _;unfold zBh
 repeat walk_at "w"
 have hnl:=zx hn;refine z2c (zd rfl (.inr (.inr ⟨n,_,rfl,zK hn,?_⟩)));refine zWb (λm J μ'=>∃a:Option D,J=[some (wn R K),some (.loc n),some (.loc μ.length),a]/\tu μ μ'/\μ'[μ.length]?=some (.lst (nat (zum K (S.take m))))) ⟨none,rfl,.app,by simp[zum]⟩ (λm J μ' ⟨a,_,k,_⟩=>z6 hn k) ?_ ?_
 ·rintro m x J μ1 hx ⟨a,rfl,k,hg⟩;rw[yh]at hx
  cases hy:S[m]? with
  |none=>rw[hy]at hx;cases hx
  |some kk=>
   rw[hy]at hx;cases hx;have hkk:=hS kk (mem_of_getElem? hy)
   walk_at "w"
   unfold zhk
   repeat walk_at "w"
   refine⟨μ.length,_,rfl,hg,?_⟩
   repeat walk_at "w"
   refine zIc ?_
   repeat walk_at "w"
   refine zEo hkk ?_
   repeat walk_at "w"
   have hfl:=zSl w (S.take m);have hks:=(w.key hkk).1;have htl:(S.take m).length<=1000:=yD (by simp;omega) hl;refine zUz hg (by simp only[length_map];omega) ?_;refine⟨_,rfl,λi o e=>zD (k i o e) (Yg (zx e)),?_⟩;rw[zL hg];have ht:S.take (m+1)=S.take m++[kk]:=by rw[take_succ,hy];rfl
   have e2:zum K (S.take (m+1))=zum K (S.take m)++K.getD kk []:=by
    unfold zum;rw[ht,List.flatMap_append];simp
   rw[e2,zld]
 ·rintro J μ1 ⟨a,rfl,k,hg⟩;rw[length_map,take_length]at hg
  have hmem:∀i:Int,i∈(zLc R.length K S).map (λ(k:Nat)=>(k:Int))↔i∈(zum K S).map (λ(k:Nat)=>(k:Int)):=λi=>by
   simp only[mem_map];constructor
   ·rintro⟨h,hh,rfl⟩;obtain⟨k,hk,hh⟩:=(zbc w h).mp hh;exact⟨h,List.mem_flatMap.mpr ⟨k,hk,hh⟩,rfl⟩
   ·rintro⟨h,hh,rfl⟩;obtain⟨k,hk,hh⟩:=List.mem_flatMap.mp hh;exact⟨h,(zbc w h).mpr ⟨k,hk,hh⟩,rfl⟩
  have hpw:((zLc R.length K S).map (λ(k:Nat)=>(k:Int))).Pairwise (· < ·):=by
   rw[pairwise_map];exact(znw R.length K S).imp λh=>by omega
  have hp:=zHk hmem hpw;have hsort:=zWn hmem hpw;have hfl:=zSl w S;have hrl:=w.rl;have hnl2:=z6o R.length K S;refine zwb (zrt (zd rfl ⟨_,(zum K S).map (λ(k:Nat)=>(k:Int)),rfl,by rw[hg,map_map];rfl,by rw[length_map];omega,by rw[hp.length_eq,length_map];omega,?_⟩));rw[hsort,map_map];exact q _ _ k.to k.len zt
def zvp(hn:μ[n]?=some (.lst (nat S)))(hS:∀k∈S,k<R.length)(hl:S.length<=1000)
 (q:∀(μ':Mem),tu μ μ'->Q (.int (zTj R S:Nat)) μ'):WF zRf [wn R K,.loc n] μ Q:=by
 refine zsb rfl ?_;show WS zpi [some (wn R K),some (.loc n)] μ _ _ _ _;unfold zpi
 repeat walk_at "w"
 refine z2c (zd rfl (.inr (.inr ⟨n,_,rfl,hn,zrb (by simp;omega),?_⟩)));refine zlf (λ(k:Nat)=>D.int k) S (λk =>.int (R.getD k 0:Nat)) (λμ' k=>z6 hn k) (λk hk μ' kp=>?_) (λμ' kp=>?_)
 ·have hkk:=hS k hk
  walk_at "w"
  unfold zAl
  repeat walk_at "w"
  refine zae ?_
  repeat walk_at "w"
  exact z9w hkk ⟨rfl,kp,kp⟩
 ·repeat walk_at "w"
  refine zTt (S:=S.map λk=>R.getD k 0) (by rw[zt,z1g]) ?_;exact q _ kp.to
def zuh(w:Wb L R K)(hn:μ[n]?=some (.lst (nat S)))(hS:∀k∈S,k<K.length)(hl:S.length<=1000)
 (q:∀μ',tu μ μ'->Q (.bl (z1e R K S)) μ'):WF zvc [wn R K,.loc n] μ Q:=by
 refine zsb rfl ?_;show WS zwh [some (wn R K),some (.loc n)] μ _ _ _ _;unfold zwh
 repeat walk_at "w"
 refine zUj w hn hS hl λl μ1 k1 hl1 g1=>?_
 repeat walk_at "w"
 have hnl:=z6o R.length K S;have hrl:=w.rl;refine zvp g1 zov (by omega) λμ2 k2=>?_
 repeat walk_at "w"
 refine zhe (zk (k2 _ _ (k1 _ _ hn))) ?_
 repeat walk_at "w"
 have:=q μ2 (k1.trans k2);unfold z1e at this;simp only[length_map,Int.ofNat_lt];exact this
def zdq(lay:List (Option Nat))(a:Option Nat):lay.count a=((yd lay.length).filter λk=>decide (lay.getD k none=a)).length:=by
 have e:lay=(yd lay.length).map λk=>lay.getD k none:=by
  refine ext_getElem? λi=>?_
  by_cases h:i<lay.length
  ·simp[h]
  ·simp[h]
 conv=>lhs;rw[e]
 rw[List.count,List.countP_map,List.countP_eq_length_filter]
 congr 1
 refine filter_congr λk _=>?_;simp only[xC];exact Bool.beq_eq_decide_eq _ _
def lyN(lay:List (Option Nat))(N:List Nat):List Nat:=(yd lay.length).filter λk=>decide (∃h∈N,lay.getD k none=some h)
def sG:k∈lyN lay N↔∃h∈N,lay.getD k none=some h:=by
 unfold lyN;rw[mem_filter,mem_range,decide_eq_true_iff];constructor
 ·exact λq=>q.2
 ·rintro⟨h,hh,e⟩;refine⟨?_,h,hh,e⟩;refine xL λhle=>?_;rw[getD_eq_getElem?_getD,yx hle]at e;cases e
def zJz(lay:List (Option Nat))(N:List Nat):(lyN lay N).Nodup:=List.nodup_range.sublist filter_sublist
def zGg{α:Type}(p q:α->Bool)(h:∀x,p x=true->q x=false):∀l:List α,(l.filter λx=>p x||q x).length=(l.filter p).length+(l.filter q).length
 |[]=>rfl
 |x::l=>by
  have ih:=zGg p q h l
  cases hp:p x with
  |true=>simp[filter_cons,hp,h x hp,ih];omega
  |false=>
   cases hq:q x with
   |true=>simp[filter_cons,hp,hq,ih];omega
   |false=>simp[filter_cons,hp,hq,ih]
def z4h{lay:List (Option Nat)}:∀{N:List Nat},N.Nodup->(lyN lay N).length=(N.map λh=>lay.count (some h)).sum
 |[],_=>by simp[lyN]
 |h::N,nd=>by
  obtain⟨h1,h2⟩:=List.nodup_cons.mp nd;rw[map_cons,sum_cons,<-z4h h2,zdq]
  have:=zGg (λk=>decide (lay.getD k none=some h)) (λk=>decide (∃g∈N,lay.getD k none=some g)) (λk hk=>by
   have hk:=of_decide_eq_true hk;refine decide_eq_false ?_;rintro⟨g,hg,e⟩;rw[hk]at e;cases e;exact h1 hg) (yd lay.length)
  rw[show lyN lay N=(yd lay.length).filter λk=>decide (∃g∈N,lay.getD k none=some g) from rfl,<-this];unfold lyN
  congr 1
  refine filter_congr λk _=>?_;rw[<-Bool.decide_or];refine decide_eq_decide.mpr ?_;simp only[mem_cons];constructor
  ·rintro⟨g,rfl|hg,e⟩
   ·exact .inl e
   ·exact .inr ⟨g,hg,e⟩
  ·rintro(e|⟨g,hg,e⟩)
   ·exact⟨h,.inl rfl,e⟩
   ·exact⟨g,.inr hg,e⟩
def zgn{α:Type}{f g:α->Nat}:∀{l:List α},(∀x∈l,f x<=g x)->(l.map f).sum<=(l.map g).sum
 |[],_=>yk _
 |x::l,h=>by
  rw[map_cons,map_cons,sum_cons,sum_cons];have h1:=h x mem_cons_self;have h2:=zgn (l:=l) λy hy=>h y (mem_cons_of_mem _ hy);omega
def zxe{α:Type}[DecidableEq α]:∀{l m:List α},l.Nodup->(∀x∈l,x∈m)->l.length<=m.length
 |[],_,_,_=>yP _
 |x::l,m,nd,h=>by
  obtain⟨h1,h2⟩:=List.nodup_cons.mp nd;have hx:=h x mem_cons_self;have ih:=zxe (l:=l) (m:=m.erase x) h2 λy hy=>(List.mem_erase_of_ne (by rintro rfl;exact h1 hy)).mpr (h y (mem_cons_of_mem _ hy));rw[List.length_erase_of_mem hx]at ih;have:=List.length_pos_of_mem hx;rw[length_cons];omega
def zGu(w:Wb L R K)(r:tG R K lay)(hd:T.Nodup)(hT:∀k∈T,k<K.length)(hall:∀k∈T,(lay.getD k none).isSome=true):z1e R K T=false:=by
 refine decide_eq_false ?_;have hN:(zLc R.length K T).Nodup:=List.nodup_range.sublist filter_sublist
 have h1:T.length<=(lyN lay (zLc R.length K T)).length:=zxe hd λk hk=>by
  rw[sG];have hs:=hall k hk
  cases e:lay.getD k none with
  |none=>rw[e]at hs;cases hs
  |some h=>
   refine⟨h,?_,rfl⟩;rw[zbc w];refine⟨k,hk,r.home k h ?_⟩;have hkl:k<lay.length:=by rw[r.len];exact hT k hk
   simp[hkl]at e;simp[hkl,e]
 rw[z4h hN]at h1;have h2:((zLc R.length K T).map λh=>lay.count (some h)).sum<=zTj R (zLc R.length K T):=zgn λh _=>r.room h;omega
structure Ta(R:List Nat)(K:List (List Nat))(lay:List (Option Nat))(C:List Nat):Prop where
 keys:∀k∈C,k<K.length
 full:∀k∈C,∀h∈K.getD k [],R.getD h 0<=lay.count (some h)
 lies:∀k∈C,∀h∈K.getD k [],∀o,lay.getD o none=some h->o∈C
def Ta.nil:Ta R K lay []:=⟨by simp,by simp,by simp⟩
def Ta.app{E:List Nat}(a:Ta R K lay C)(b:Ta R K lay E):Ta R K lay (C++E):=by
 refine⟨λk hk=>?_,λk hk=>?_,λk hk h hh o e=>?_⟩
 ·rcases List.mem_append.mp hk with hk|hk
  ·exact a.keys k hk
  ·exact b.keys k hk
 ·rcases List.mem_append.mp hk with hk|hk
  ·exact a.full k hk
  ·exact b.full k hk
 ·rcases List.mem_append.mp hk with hk|hk
  ·exact mem_append_left _ (a.lies k hk h hh o e)
  ·exact mem_append_right _ (b.lies k hk h hh o e)
def Ta.congr{E:List Nat}(a:Ta R K lay C)(h:∀k,k∈E↔k∈C):Ta R K lay E :=
 ⟨λk hk=>a.keys k ((h k).mp hk),λk hk=>a.full k ((h k).mp hk),λk hk g hg o e=>(h o).mpr (a.lies k ((h k).mp hk) g hg o e)⟩
def zOs(w:Wb L R K)(s:Ta R K lay C)(hl:lay.length=K.length){k0:Nat}(hk0:k0∈C)(hn:lay.getD k0 none=none):z1e R K C=true:=by
 refine decide_eq_true ?_;have hN:(zLc R.length K C).Nodup:=List.nodup_range.sublist filter_sublist
 have h1:zTj R (zLc R.length K C)<=((zLc R.length K C).map λh=>lay.count (some h)).sum:=zgn λh hh=>by
  obtain⟨k,hk,hm⟩:=(zbc w h).mp hh;exact s.full k hk h hm
 rw[<-z4h hN]at h1
 have h2:(k0::lyN lay (zLc R.length K C)).length<=C.length:=zxe (List.nodup_cons.mpr ⟨λhm=>(by
  obtain⟨h,_,e⟩:=sG.mp hm;rw[hn]at e;cases e),zJz _ _⟩) λx hx=>by
  rcases List.mem_cons.mp hx with rfl|hx
  ·exact hk0
  ·obtain⟨h,hh,e⟩:=sG.mp hx;obtain⟨k,hk,hm⟩:=(zbc w h).mp hh;exact s.lies k hk h hm x e
 rw[length_cons]at h2;omega
structure Td(K:List (List Nat))(lay:List (Option Nat))(key:Nat)(row:List (Nat×Nat)):Prop where
 first:∃h r,row=(key,h)::r
 mem:∀p∈row,p.1<K.length/\p.2∈K.getD p.1 []/\lay.getD p.1 none≠some p.2
 link:∀i p q,row[i]?=some p->row[i+1]?=some q->lay.getD q.1 none=some p.2
 nd:(row.map (·.1)).Nodup
def zEf(lay:List (Option Nat))(row:List (Nat×Nat)):List (Option Nat):=row.foldl (λl p=>l.set p.1 (some p.2)) lay
def z1i(row:List (Nat×Nat)):∀lay:List (Option Nat),(zEf lay row).length=lay.length:=by
 induction row with
 |nil=>intro lay;rfl
 |cons p row ih=>intro lay;show(zEf (lay.set p.1 (some p.2)) row).length=_;rw[ih];simp
def zKm(lay:List (Option Nat))(row:List (Nat×Nat))(p:Nat×Nat):zEf lay (row++[p])=(zEf lay row).set p.1 (some p.2):=by
 unfold zEf;rw[List.foldl_append];rfl
def zhg :∀{lay:List (Option Nat)} {k:Nat},k∉row.map (·.1)->(zEf lay row).getD k none=lay.getD k none:=by
 induction row with
 |nil=>intro lay k _;rfl
 |cons p row ih=>
  intro lay k hk;rw[map_cons,mem_cons,not_or]at hk;show(zEf (lay.set p.1 (some p.2)) row).getD k none=_;rw[ih hk.2];simp only[getD_eq_getElem?_getD];rw[yW (Yk hk.1)]
def zqn(nd:(row.map (·.1)).Nodup):∀{lay:List (Option Nat)} {p:Nat×Nat},p∈row->p.1<lay.length->(zEf lay row).getD p.1 none=some p.2:=by
 induction row with
 |nil=>intro lay p hp;cases hp
 |cons q row ih=>
  intro lay p hp hl;rw[map_cons,nodup_cons]at nd;show(zEf (lay.set q.1 (some q.2)) row).getD p.1 none=_;rcases List.mem_cons.mp hp with rfl|hp
  ·rw[zhg nd.1];simp[hl]
  ·exact ih nd.2 hp (by simpa using hl)
def zfp{a b:Option Nat}(hk:k<lay.length)(ha:lay.getD k none=a)(x:Option Nat):(lay.set k b).count x+(if a=x then 1 else 0)=lay.count x+(if b=x then 1 else 0):=by
 have e1:lay=lay.take k++a::lay.drop (k+1):=by
  have:lay[k]=a:=by simpa[hk] using ha
  rw[<-this,List.getElem_cons_drop,take_append_drop]
 have e2:lay.set k b=lay.take k++b::lay.drop (k+1):=by rw[List.set_eq_take_append_cons_drop,if_pos hk]
 rw[e2]
 conv=>rhs;rw[e1]
 rw[count_append,count_append,count_cons,count_cons];simp only[beq_iff_eq]
 split<;>split<;>omega
def z3k{key:Nat}(r:Td K lay key row)(hl:lay.length=K.length)(hkey:lay.getD key none=none):∀i,i<row.length->∀h:Nat,(zEf lay (row.take (i+1))).count (some h)=lay.count (some h)+(if(row.getD i (0,0)).2=h then 1 else 0):=by
 intro i
 induction i with
 |zero=>
  intro hi h;obtain⟨h0,r0,e⟩:=r.first
  have hm:=r.mem (key,h0) (by rw[e];simp);subst e;have:=zfp (lay:=lay) (k:=key) (b:=some h0) (by rw[hl];exact hm.1) hkey (some h);show(lay.set key (some h0)).count (some h)=_;simpa using this
 |succ i ih=>
  intro hi h;have ih:=ih (by omega) h;have hp:row[i]?=some row[i]:=by simp[show i<row.length by omega]
  have hq:row[i+1]?=some row[i+1]:=by simp[hi]
  have hlink:=r.link i _ _ hp hq;have hm:=r.mem row[i+1] (getElem_mem hi);have et:row.take (i+1+1)=row.take (i+1)++[row[i+1]]:=by simp
  have hnot:(row[i+1]).1∉(row.take (i+1)).map (·.1):=by
   intro hmem;have nd:=r.nd;rw[<-take_append_drop (i+1) row,map_append,nodup_append]at nd;refine nd.2.2 _ hmem _ ?_ rfl;refine List.mem_map.mpr ⟨row[i+1],?_,rfl⟩;rw[drop_eq_getElem_cons hi];exact mem_cons_self
  have hcur:(zEf lay (row.take (i+1))).getD (row[i+1]).1 none=some (row[i]).2:=by rw[zhg hnot];exact hlink
  rw[et,zKm];have:=zfp (lay:=zEf lay (row.take (i+1))) (k:=(row[i+1]).1) (b:=some (row[i+1]).2) (by rw[z1i,hl];exact hm.1) hcur (some h);have e1:row.getD i (0,0)=row[i]:=by simp[show i<row.length by omega]
  have e2:row.getD (i+1) (0,0)=row[i+1]:=by simp[hi]
  rw[e1]at ih;rw[e2];simp only[Xb]at this;omega
def zJl{key:Nat}(rt:tG R K lay)(r:Td K lay key row)(hkey:lay.getD key none=none)(hroom:lay.count (some (row.getD (row.length-1) (0,0)).2)<R.getD (row.getD (row.length-1) (0,0)).2 0):tG R K (zEf lay row):=by
 have hpos:0<row.length:=by
  obtain⟨h,q,e⟩:=r.first
  rw[e];simp
 refine⟨by rw[z1i];exact rt.len,λk h e=>?_,λh=>?_⟩
 ·have e':(zEf lay row).getD k none=some h:=by rw[getD_eq_getElem?_getD,e];rfl
  by_cases hk:k∈row.map (·.1)
  ·obtain⟨p,hp,rfl⟩:=List.mem_map.mp hk;have hm:=r.mem p hp;rw[zqn r.nd hp (by rw[rt.len];exact hm.1)]at e';cases e';exact hm.2.1
  ·rw[zhg hk]at e';refine rt.home k h ?_;rw[getD_eq_getElem?_getD]at e'
   cases q:lay[k]? with
   |none=>rw[q]at e';cases e'
   |some z=>rw[q]at e';exact congrArg some e'
 ·have:=z3k r rt.len hkey (row.length-1) (by omega) h;rw[show row.length-1+1=row.length by omega,take_length]at this;rw[this];have hr:=rt.room h
  split
  ·rename_i e
   rw[e]at hroom;omega
  ·omega
def zZx{key:Nat}(s:Ta R K lay C)(r:Td K lay key row)(hroom:lay.count (some (row.getD (row.length-1) (0,0)).2)<R.getD (row.getD (row.length-1) (0,0)).2 0) :
 ∀p∈row,∀k∈C,p.2∉K.getD k []:=by
 have key1:∀(j i:Nat),i+j+1=row.length->∀k∈C,(row.getD i (0,0)).2∉K.getD k []:=by
  intro j
  induction j with
  |zero=>
   intro i hi k hk hm;have:=s.full k hk _ hm;rw[show row.length-1=i by omega]at hroom;omega
  |succ j ih=>
   intro i hi k hk hm;have hp:row[i]?=some row[i]:=by simp[show i<row.length by omega]
   have hq:row[i+1]?=some row[i+1]:=by simp[show i+1<row.length by omega]
   have e1:row.getD i (0,0)=row[i]:=by simp[show i<row.length by omega]
   have e2:row.getD (i+1) (0,0)=row[i+1]:=by simp[show i+1<row.length by omega]
   rw[e1]at hm;have hin:=s.lies k hk _ hm _ (r.link i _ _ hp hq);refine ih (i+1) (by omega) _ hin ?_;rw[e2];exact(r.mem _ (getElem_mem _)).2.1
 intro p hp k hk;obtain⟨i,hi,rfl⟩:=List.mem_iff_getElem.mp hp;have:=key1 (row.length-1-i) i (by omega) k hk
 rwa [show row.getD i (0,0)=row[i] by simp[hi]]at this
def Ta.push{key:Nat}(s:Ta R K lay C)(rt:tG R K lay)(r:Td K lay key row)(hkey:lay.getD key none=none)
 (hroom:lay.count (some (row.getD (row.length-1) (0,0)).2)<R.getD (row.getD (row.length-1) (0,0)).2 0):Ta R K (zEf lay row) C:=by
 have hpos:0<row.length:=by
  obtain⟨h,q,e⟩:=r.first
  rw[e];simp
 have hout:=zZx s r hroom;refine⟨s.keys,λk hk h hh=>?_,λk hk h hh o e=>?_⟩
 ·have:=z3k r rt.len hkey (row.length-1) (by omega) h;rw[show row.length-1+1=row.length by omega,take_length]at this;have h1:=s.full k hk h hh;omega
 ·by_cases ho:o∈row.map (·.1)
  ·obtain⟨p,hp,rfl⟩:=List.mem_map.mp ho;rw[zqn r.nd hp (by rw[rt.len];exact(r.mem p hp).1)]at e;cases e;exact absurd hh (hout p hp k hk)
  ·rw[zhg ho]at e;exact s.lies k hk h hh o e
def zBd(lay:List (Option Nat)):List Nat:=(yd lay.length).filter λk=>(lay.getD k none).isSome
def zQm(lay:List (Option Nat))(h:Nat):List Nat:=(yd lay.length).filter λk=>decide (lay.getD k none=some h)
def zPx(R:List Nat)(lay:List (Option Nat)):List Int:=(yd R.length).map λh=>(R.getD h 0:Int)-(lay.count (some h):Nat)
def zPv(a:Option Nat):(!zit (onD a))=a.isSome:=by cases a<;>rfl
def zDv(hn:μ[n]?=some (.lst (lay.map onD)))(hl:lay.length<=1000)(q:∀(l:Nat)(μ':Mem),tu μ μ'->μ.length<=l->μ'[l]?=some (.lst (nat (zQm lay h)))->Q (.loc l) μ'):WF zNn [.loc n,.int h] μ Q:=by
 refine zsb rfl ?_;show WS zbo [some (.loc n),some (.int h)] μ _ _ _ _;unfold zbo
 repeat walk_at "w"
 refine zif (zd rfl (.inr (.inr ⟨n,_,rfl,hn,zrb (by rw[zac,length_map];omega),?_⟩)));rw[zyb onD lay none];refine zNd (λ(k:Nat) =>.tup [.int k,onD (lay.getD k none)]) (yd lay.length) (λ(k:Nat)=>D.int k) (λk=>decide (lay.getD k none=some h)) (λμ' k=>z6 hn k) (λk hk μ' kp=>?_) (λμ' kp=>?_)
 ·repeat walk_at "w"
  refine zAv (α:=Option Nat) (lay.getD k none) (some h) ?_
  repeat walk_at "w"
  refine⟨rfl,kp,λ_=>?_⟩;unfold zzo;exact zd rfl ⟨rfl,kp⟩
 ·exact q _ _ kp.to kp.len zt
def zax(w:Wb L R K)(hn:μ[n]?=some (.lst (lay.map onD)))(q:∀(l:Nat)(μ':Mem),tu μ μ'->μ.length<=l->μ'[l]?=some (.lst ((zPx R lay).map .int))->Q (.loc l) μ'):WF zMl [wn R K,.loc n] μ Q:=by
 have hrl:=w.rl;refine zsb rfl ?_;show WS zln [some (wn R K),some (.loc n)] μ _ _ _ _;unfold zln
 repeat walk_at "w"
 refine zif ?_
 repeat walk_at "w"
 refine zae (.inl ⟨_,rfl,zrb (by rw[zac,length_map];omega),?_⟩);rw[zyb (λ(k:Nat)=>D.int k) R 0];refine zlf (λ(k:Nat) =>.tup [.int k,.int (R.getD k 0:Nat)]) (yd R.length) (λ(k:Nat)=>D.int ((R.getD k 0:Int)-(lay.count (some k):Nat))) (λ_ _=>rfl) (λk hk μ' kp=>?_) (λμ' kp=>?_)
 ·repeat walk_at "w"
  refine⟨_,_,rfl,kp _ _ hn,?_⟩
  repeat walk_at "w"
  refine zyu (kp _ _ hn) ?_
  repeat walk_at "w"
  exact⟨rfl,kp,kp⟩
 ·refine q _ _ kp.to kp.len ?_;rw[zt];unfold zPx;rw[map_map];rfl
def zdo(K:List (List Nat))(ds:List D)(k:Nat):Bool:=!zit (ds.getD k .non) && !((nat (K.getD k [])).any λy=>eqF y (ds.getD k .non))
def zqu(R:List Nat)(ds:List D)(h:Nat):Bool:=decide ((R.getD h 0:Nat)<(zby ds h:Int))
def z4g(R:List Nat)(K:List (List Nat))(ds:List D):D:=match(yd K.length).find? (zdo K ds) with
 |some k =>.tup [.str "home",.int k]
 |none=>match(yd R.length).find? (zqu R ds) with
  |some h =>.tup [.str "room",.int h]
  |none =>.non
def zww(w:Wb L R K)(hf:ds.all zod=true)(hn:μ[n]?=some (.lst ds))(q:∀(l:Nat)(μ':Mem),tu μ μ'->μ.length<=l->μ'[l]?=some (.lst (((yd R.length).map λh=>(R.getD h 0:Int)-(zby ds h:Nat)).map .int))->Q (.loc l) μ'):WF zMl [wn R K,.loc n] μ Q:=by
 have hrl:=w.rl;refine zsb rfl ?_;show WS zln [some (wn R K),some (.loc n)] μ _ _ _ _;unfold zln
 repeat walk_at "w"
 refine zif ?_
 repeat walk_at "w"
 refine zae (.inl ⟨_,rfl,zrb (by rw[zac,length_map];omega),?_⟩);rw[zyb (λ(k:Nat)=>D.int k) R 0];refine zlf (λ(k:Nat) =>.tup [.int k,.int (R.getD k 0:Nat)]) (yd R.length) (λ(k:Nat)=>D.int ((R.getD k 0:Int)-(zby ds k:Nat))) (λ_ _=>rfl) (λk hk μ' kp=>?_) (λμ' kp=>?_)
 ·repeat walk_at "w"
  refine⟨_,_,rfl,kp _ _ hn,?_⟩
  repeat walk_at "w"
  refine z8u (kp _ _ hn) rfl hf ?_
  repeat walk_at "w"
  exact⟨rfl,kp,kp⟩
 ·refine q _ _ kp.to kp.len ?_;rw[zt,map_map];rfl
def zuw(hf:ds.all zod=true){k:Nat}{d:D}(h:ds[k]?=some d):zod d=true:=List.all_eq_true.mp hf d (mem_of_getElem? h)
def zMk(w:Wb L R K)(hf:ds.all zod=true)(hl:ds.length=K.length)(hn:μ[n]?=some (.lst ds))(q:∀(μ':Mem),tu μ μ'->Q (z4g R K ds) μ'):WF zMf [wn R K,.loc n] μ Q:=by
 have hrl:=w.rl;refine zsb rfl ?_;show WS z2n [some (wn R K),some (.loc n),none,none,none] μ _ _ _ _;unfold z2n;refine zr (zah (zif (zd rfl (.inr (.inr ⟨n,_,rfl,hn,?_⟩)))));refine zWb (λm J μ'=>∃a b:Option D,J=[some (wn R K),some (.loc n),a,b,none]/\μ'=μ/\∀j<m,zdo K ds j=false) ⟨_,_,rfl,rfl,by simp⟩ (λm J μ' h=>by obtain⟨_,_,_,rfl,_⟩:=h;exact z6 hn .refl) ?_ ?_
 ·rintro m x J μ' hx ⟨a,b,rfl,rfl,hb⟩;obtain⟨y,hy,rfl⟩:=z7n hx;have hm:m<ds.length:=(List.getElem?_eq_some_iff.mp hy).1;have hfy:=zuw hf hy;have hgy:ds.getD m .non=y:=by rw[getD_eq_getElem?_getD,hy];rfl
  have hgo:zdo K ds m=false->∀j<m+1,zdo K ds j=false:=λh j hj=>by
   by_cases e:j=m
   ·subst e;exact h
   ·exact hb j (by omega)
  repeat walk_at "w"
  refine zgf hfy ?_
  repeat walk_at "w"
  refine⟨λh1=>?_,λh1=>⟨λhc=>(by cases hc),λ_=>?_⟩⟩
  ·repeat walk_at "w"
   refine zIc ?_
   repeat walk_at "w"
   refine zEo (by omega) ?_;refine zgq rfl hfy (zQk _) ?_
   repeat walk_at "w"
   refine⟨λh2=>?_,λh2=>?_⟩
   ·repeat walk_at "w"
    have hh:zdo K ds m=true:=by
     unfold zdo;rw[hgy,h1,h2];rfl
    have:=q μ' .refl;unfold z4g at this;rw[zIm hh (by omega) hb]at this;exact this
   ·repeat walk_at "w"
    refine⟨_,_,rfl,rfl,hgo ?_⟩;unfold zdo;rw[hgy,h2,Xg]
  ·repeat walk_at "w"
   refine⟨_,_,rfl,rfl,hgo ?_⟩;unfold zdo;rw[hgy,h1,Bool.false_and]
 ·rintro J μ' ⟨a,b,rfl,rfl,hb⟩;rw[zac,hl]at hb;refine zr (zah (zif (zn (zb (zd rfl (zb (zd rfl (zo ?_))))))));refine zww w hf hn λl μ1 k1 hl1 g1 =>.inr (.inr ⟨l,_,rfl,g1,?_⟩);rw[zyb D.int _ 0];refine zWb (λm J μ'=>∃a b c:Option D,J=[some (wn R K),some (.loc n),a,b,c]/\μ'=μ1/\∀j<m,zqu R ds j=false) ⟨_,_,_,rfl,rfl,by simp⟩ (λm J μ' h=>by obtain⟨_,_,_,_,rfl,_⟩:=h;exact z6 g1 .refl) ?_ ?_
  ·rintro m x J μ2 hx ⟨a,b,c,rfl,rfl,hr⟩
   have hm:m<R.length:=by
    have:=(List.getElem?_eq_some_iff.mp hx).1;simpa using this
   have ex:x=.tup [.int m,.int ((R.getD m 0:Int)-(zby ds m:Nat))]:=by
    rw[yh]at hx;simp[hm]at hx;rw[<-hx];simp[hm]
   subst ex
   repeat walk_at "w"
   have hdec:decide ((R.getD m 0:Int)-(zby ds m:Nat)<0)=zqu R ds m:=by
    unfold zqu;exact decide_eq_decide.mpr (by omega)
   rw[hdec];refine⟨λh1=>?_,λh1=>?_⟩
   ·repeat walk_at "w"
    have:=q μ2 k1;unfold z4g at this;rw[zqh hb,zIm h1 hm hr]at this;exact this
   ·repeat walk_at "w"
    refine⟨_,_,_,rfl,rfl,λj hj=>?_⟩
    by_cases e:j=m
    ·subst e;exact h1
    ·exact hr j (by omega)
  ·rintro J μ2 ⟨a,b,c,rfl,rfl,hr⟩;simp only[length_map,length_range]at hr
   repeat walk_at "w"
   have:=q μ2 k1;unfold z4g at this;rw[zqh hb,zqh hr]at this;exact this
def zSh(R:List Nat)(lay:List (Option Nat)):List Nat:=R.zipIdx.map λp=>p.1-lay.count (some p.2)
def zSf(hh:h<R.length):(zSh R lay)[h]?=some (R.getD h 0-lay.count (some h)):=by
 unfold zSh;rw[yh,List.getElem?_zipIdx];simp[hh]
def zih(R:List Nat)(lay:List (Option Nat)):(zSh R lay).length=R.length:=by simp[zSh]
def zWr(hh:h<R.length):(zSh R lay).set h (R.getD h 0-lay.count (some h)-1)=zSh R (lay++[some h]):=by
 refine ext_getElem? λi=>?_
 by_cases hi:i<R.length
 ·by_cases e:h=i
  ·subst e;rw[Yn (by rw[zih];exact hh),zSf hh,count_append];simp;omega
  ·rw[yW e,zSf hi,zSf hi,count_append];simp[e]
 ·rw[yx (by simp[zih];omega),yx (by simp[zih];omega)]
def zzs:zSh R (lay++[none])=zSh R lay:=by
 unfold zSh;refine map_congr_left λp _=>?_;rw[count_append];simp
def zCt{lo hi:Option Int}{x:D}(h:x∈M.cutD ds lo hi):x∈ds:=List.mem_of_mem_drop (Xk h)
def z6n{lo hi:Option Int}:(M.cutD ds lo hi).length<=ds.length:=by
 unfold M.cutD;rw[length_take,length_drop];omega
def zEs(w:Wb L R K)(hL:L<=100)(h:Pen μ l B)(hB:B<=1000000)
 (q:∀(lay:List (Option Nat)) (n:Nat) (μ':Mem),tG R K lay->KB [l] μ μ'->Pen μ' l (B+1000)->μ.length<=n->μ'[n]?=some (.lst (lay.map onD))->Q (.loc n) μ'):WF zce [.loc l,wn R K] μ Q:=by
 have hkl:=w.kl;have hrl:=w.rl;have hll:=h.lt;refine zsb rfl ?_;unfold zvg
 repeat walk_at "w"
 refine zae ?_
 repeat walk_at "w"
 refine z2c ?_
 repeat walk_at "w"
 refine zIc (.inl ⟨_,rfl,?_⟩);generalize hμ1:μ++[tw.lst (nat R)]++[tw.lst []]=μ1;have hl1:(μ++[tw.lst (nat R)]).length=μ.length+1:=by simp
 have ga:μ1[μ.length]?=some (.lst (nat (zSh R []))):=by
  rw[<-hμ1];refine zK ?_;rw[zt]
  have:zSh R []=R:=by
   refine ext_getElem? λi=>?_
   by_cases hi:i<R.length
   ·rw[zSf hi];simp[hi]
   ·rw[yx (by simp[zih];omega),yx (by omega)]
  rw[this]
 have gb:μ1[μ.length+1]?=some (.lst (([]:List (Option Nat)).map onD)):=by
  rw[<-hμ1,<-hl1];exact zt
 have k1:KB [l] μ μ1:=by rw[<-hμ1];exact(KB.refl.app).app
 have p1:Pen μ1 l B:=by rw[<-hμ1];exact h.app.app
 refine zWb (λm J μ'=>∃(lay:List (Option Nat)) (a b c d:Option D),J=[some (.loc l),some (wn R K),some (.loc μ.length),some (.loc (μ.length+1)),a,b,c,d]/\lay.length=m/\(∀k h,lay[k]?=some (some h)->h∈K.getD k [])/\(∀h,lay.count (some h)<=R.getD h 0) /\
  μ'[μ.length]?=some (.lst (nat (zSh R lay)))/\μ'[μ.length+1]?=some (.lst (lay.map onD))/\KB [l] μ μ'/\Pen μ' l (B+10*m)) ?_ (λ_ _ _ _=>rfl) ?_ ?_
 ·exact⟨[],none,none,none,none,by rw[hl1];rfl,rfl,by simp,by simp,ga,gb,k1,by simpa using p1⟩
 ·rintro m x J μ2 hx ⟨lay,a,b,c,d,rfl,hlay,hh,hr,g1,g2,k2,p2⟩;rw[yh]at hx
  cases hy:K[m]? with
  |none=>rw[hy]at hx;cases hx
  |some key=>
   rw[hy]at hx;cases hx;have hm:m<K.length:=(List.getElem?_eq_some_iff.mp hy).1;have hkey:K.getD m []=key:=by rw[getD_eq_getElem?_getD,hy];rfl
   obtain⟨hkl2,hkn⟩:=w.key hm;rw[hkey]at hkl2 hkn;refine zfd ?_;unfold z3g
   repeat walk_at "w"
   refine z6b p2 (by omega) (by walk_at "om") (by walk_at "om") λst μ3 a3 b3 k3 e3 h3=>?_;rw[length_map]at b3
   repeat walk_at "w"
   refine z2c ?_;refine zm ?_;refine z0z ?_
   repeat walk_at "w"
   refine z0z ?_
   repeat walk_at "w"
   refine zZu (by have:=z6n (ds:=nat key) (lo:=some st) (hi:=none);have:=z6n (ds:=nat key) (lo:=none) (hi:=some st);walk_at "om") (.inl ⟨_,rfl,?_⟩);have hne1:μ.length≠l:=by omega
   have hne2:μ.length+1≠l:=by omega
   have g13:=k3.at_ _ _ (by simpa using hne1) g1;have g23:=k3.at_ _ _ (by simpa using hne2) g2
   have hcm:∀y∈M.cutD (nat key) (some st) none++M.cutD (nat key) none (some st),∃h∈key,y=.int (h:Nat):=λy hy=>by
    have:y∈nat key:=by
     rcases List.mem_append.mp hy with hy|hy
     ·exact zCt hy
     ·exact zCt hy
    obtain⟨h,hh,e⟩:=List.mem_map.mp this;exact⟨h,hh,e.symm⟩
   have hcl:(M.cutD (nat key) (some st) none++M.cutD (nat key) none (some st)).length<=6:=by
    have h1:=z6n (ds:=nat key) (lo:=some st) (hi:=none);have h2:=z6n (ds:=nat key) (lo:=none) (hi:=some st);rw[length_map]at h1 h2;rw[length_append];omega
   generalize M.cutD (nat key) (some st) none++M.cutD (nat key) none (some st)=ys at hcm hcl ⊢;refine zWb (λi J μ'=>∃(o:Option Nat)(z:Option D),J=[some (.loc l),some (wn R K),some (.loc μ.length),some (.loc (μ.length+1)),some (tn key),some (.int st),some (onD o),z]/\(∀h,o=some h->h∈key/\lay.count (some h)<R.getD h 0)/\KB [l] μ3 μ'/\Pen μ' l (B+10*m+1+i)) ?_ (λ_ _ _ _=>rfl) ?_ ?_
   ·exact⟨none,d,rfl,by simp,.refl,h3.mono (by omega)⟩
   ·rintro i y J μ4 hy' ⟨o,z,rfl,ho,k4,p4⟩;obtain⟨hm',hmem,rfl⟩:=hcm y (mem_of_getElem? hy');have hi:i<ys.length:=(List.getElem?_eq_some_iff.mp hy').1;refine zfd ?_;unfold z8g
    repeat walk_at "w"
    refine zyw (zLh o) ?_
    repeat walk_at "w"
    have hmr:=hkn _ hmem;have fin:∀(o':Option Nat)(μ5:Mem),(∀h,o'=some h->h∈key/\lay.count (some h)<R.getD h 0)->KB [l] μ3 μ5->Pen μ5 l (B+10*m+1+(i+1:Nat))->∃(o'':Option Nat)(z':Option D),[some (.loc l),some (wn R K),some (.loc μ.length),some (.loc (μ.length+1)),some (tn key),some (.int st),some (onD o'),some (.int hm')]=[some (.loc l),some (wn R K),some (.loc μ.length),some (.loc (μ.length+1)),some (tn key),some (.int st),some (onD o''),z']/\(∀h,o''=some h->h∈key/\lay.count (some h)<R.getD h 0)/\KB [l] μ3 μ5/\Pen μ5 l (B+10*m+1+(i+1:Nat)):=λo' μ5 h1 h2 h3=>⟨o',_,rfl,h1,h2,h3⟩
    refine⟨λhb=>?_,λhb=>⟨λhc=>(by cases hc),λ_=>?_⟩⟩
    ·repeat walk_at "w"
     have g14:=k4.at_ _ _ (by simpa using hne1) g13;refine zBb (zk g14) (zVe (v:=.int ((R.getD hm' 0-lay.count (some hm'):Nat))) (by rw[yh,zSf hmr];rfl)) ?_
     repeat walk_at "w"
     refine⟨λhb2=>?_,λhb2=>⟨λhc=>(by cases hc),λ_=>?_⟩⟩
     ·repeat walk_at "w"
      refine z6b p4 (by omega) (by omega) (by omega) λv μ5 a5 b5 k5 e5 h5=>?_
      repeat walk_at "w"
      refine⟨λhb3=>?_,λhb3=>?_⟩
      ·repeat walk_at "w"
       refine fin (some hm') μ5 (λh e=>?_) (k4.trans k5) (h5.mono (by omega));cases e;refine⟨hmem,?_⟩;have:=of_decide_eq_true hb2;omega
      ·repeat walk_at "w"
       exact fin o μ5 ho (k4.trans k5) (h5.mono (by omega))
     ·repeat walk_at "w"
      exact fin o μ4 ho k4 (p4.mono (by omega))
    ·repeat walk_at "w"
     exact fin o μ4 ho k4 (p4.mono (by omega))
   ·rintro J μ4 ⟨o,z,rfl,ho,k4,p4⟩;have g14:=k4.at_ _ _ (by simpa using hne1) g13;have g24:=k4.at_ _ _ (by simpa using hne2) g23;have k04:KB [l] μ μ4:=k2.trans (k3.trans k4)
    repeat walk_at "w"
    refine zgf (zLh o) ?_
    repeat walk_at "w"
    have fin:∀(μ5:Mem),KB [l] μ μ5->Pen μ5 l (B+10*(m+1:Nat))->μ5[μ.length]?=some (.lst (nat (zSh R (lay++[o]))))->μ5[μ.length+1]?=some (.lst (lay.map onD)) ->
     WS (zeh (zke zHd (zg 3) (ze (zg 6) zB))) [some (.loc l),some (wn R K),some (.loc μ.length),some (.loc (μ.length+1)),some (tn key),some (.int st),some (onD o),z] μ5
      (λJ μ'=>∃(lay:List (Option Nat)) (a b c d:Option D),J=[some (.loc l),some (wn R K),some (.loc μ.length),some (.loc (μ.length+1)),a,b,c,d]/\lay.length=m+1/\(∀k h,lay[k]?=some (some h)->h∈K.getD k [])/\(∀h,lay.count (some h)<=R.getD h 0) /\
       μ'[μ.length]?=some (.lst (nat (zSh R lay)))/\μ'[μ.length+1]?=some (.lst (lay.map onD))/\KB [l] μ μ'/\Pen μ' l (B+10*(m+1:Nat))) Q (λ_ _=>False) (λ_ _=>False):=λμ5 k5 p5 ga gb=>by
     repeat walk_at "w"
     refine⟨_,_,rfl,gb,?_⟩
     repeat walk_at "w"
     refine zFg gb (by rw[length_map];omega) ?_;refine⟨lay++[o],_,_,_,_,rfl,by simp[hlay],λk h' e=>?_,λh'=>?_,zD ga (by omega),by rw[zL gb];simp,k5.set (.inr (by omega)),?_⟩
     ·by_cases hk:k<lay.length
      ·rw[yn hk]at e;exact hh k h' e
      ·rw[yH (by omega)]at e
       have hk0:k-lay.length=0:=by
        have:=(List.getElem?_eq_some_iff.mp e).1;simp at this;omega
       rw[hk0]at e;have e:o=some h':=by simpa using e
       rw[show k=m by omega,hkey];exact(ho h' e).1
     ·rw[count_append]
      by_cases e:o=some h'
      ·have:=(ho h' e).2;rw[e,List.count_singleton_self];omega
      ·have:=hr h';rw[List.count_cons_of_ne e];simpa using this
     ·obtain⟨f,c',n',a',e,h1⟩:=p5;exact⟨f,c',n',a',zD e (by omega),h1⟩
    cases o with
    |none=>
     refine⟨λhb=>(by cases hb),λ_=>?_⟩;refine zjb ?_;refine(fin μ4 k04 (p4.mono (by omega)) (by rw[zzs];exact g14) g24).ex.elim λo' ⟨e',k'⟩=>⟨o',e',?_⟩
     cases o' with
     |next _ _=>exact k'
     |ret _ _=>exact k'
     |brk _ _=>exact k'.elim
     |cont _ _=>exact k'.elim
     |exc _ _ _=>exact k'.elim
    |some h0=>
     obtain⟨hmem0,hc0⟩:=ho h0 rfl;have hr0:=hkn h0 hmem0;refine⟨λ_=>?_,λhb=>(by cases hb)⟩
     repeat walk_at "w"
     refine zBb (zk g14) (zVe (v:=.int ((R.getD h0 0-lay.count (some h0):Nat))) (by rw[yh,zSf hr0];rfl)) ?_
     repeat walk_at "w"
     refine zny ?_
     repeat walk_at "w"
     refine⟨_,_,_,rfl,rfl,g14,⟨by omega,by rw[length_map,zih];omega⟩,?_⟩
     have hset:(nat (zSh R lay)).set (xT (h0:Int)) (.int ((R.getD h0 0-lay.count (some h0):Nat)-1))=nat (zSh R (lay++[some h0])):=by
      rw[<-zWr hr0,zdy,yQ]
      congr 2
      omega
     rw[hset];refine(fin _ (k04.set (.inr (by omega))) ?_ (by rw[zL g14]) (zD g24 (by omega))).ex.elim λo' ⟨e',k'⟩=>⟨o',e',?_⟩
     ·obtain⟨f,c',n',a',e,h1⟩:=p4;exact⟨f,c',n',a',zD e (by omega),h1.1,by omega⟩
     ·cases o' with
      |next _ _=>exact k'
      |ret _ _=>exact k'
      |brk _ _=>exact k'.elim
      |cont _ _=>exact k'.elim
      |exc _ _ _=>exact k'.elim
 ·rintro J μ2 ⟨lay,a,b,c,d,rfl,hlay,hh,hr,g1,g2,k2,p2⟩;rw[length_map]at hlay p2
  repeat walk_at "w"
  exact q lay _ μ2 ⟨hlay,hh,hr⟩ k2 (p2.mono (by omega)) (by omega) g2
abbrev PT:=List (Nat×Nat×Option Nat)
def dkP(P:PT):List (Int×D):=P.map λp=>((p.1:Int),.tup [.int (p.2.1:Nat),onD p.2.2])
def zRr(P:PT):z5l (dkP P)=nat (P.map (·.1)):=by
 unfold z5l dkP;rw[map_map,z1g];rfl
def z9p(P:PT)(h:Nat):((dkP P).any λp=>decide (p.1=(h:Int)))=decide (h∈P.map (·.1)):=by
 refine zle ?_;unfold dkP;rw[any_map,any_eq_true];simp only[xC,decide_eq_true_iff,mem_map];constructor
 ·rintro⟨p,hp,e⟩;exact⟨p,hp,by omega⟩
 ·rintro⟨p,hp,e⟩;exact⟨p,hp,by omega⟩
def z8l{P:PT}:(zqe (dkP P) (h:Int)).isSome=decide (h∈P.map (·.1)):=by
 rw[<-z9p,xc];unfold zqe;rw[Option.isSome_map,List.find?_isSome,any_eq_true]
def zMx{P:PT}(nd:(P.map (·.1)).Nodup){p:Nat×Nat×Option Nat}(hp:p∈P):zqe (dkP P) (p.1:Int)=some (.tup [.int (p.2.1:Nat),onD p.2.2]):=by
 induction P with
 |nil=>cases hp
 |cons q P ih=>
  rw[map_cons,nodup_cons]at nd
  have e:zqe (dkP (q::P)) (p.1:Int)=if(q.1:Int)=p.1 then some (.tup [.int (q.2.1:Nat),onD q.2.2]) else zqe (dkP P) (p.1:Int):=by
   unfold zqe dkP;rw[map_cons,List.find?_cons]
   by_cases h:(q.1:Int)=p.1
   ·simp[h]
   ·simp[h]
  rw[e];rcases List.mem_cons.mp hp with rfl|hp
  ·rw[if_pos rfl]
  ·rw[if_neg,ih nd.2 hp];intro h;refine nd.1 (List.mem_map.mpr ⟨p,hp,by omega⟩)
def z1t{P:PT}{f:Option Nat}(hn:h∉P.map (·.1)):zLs (dkP P) (h:Int) (.tup [.int k,onD f])=dkP (P++[(h,k,f)]):=by
 unfold zLs;rw[z9p,decide_eq_false hn,if_neg yv];simp[dkP]
def z6x{P:PT}{f:Option Nat}(hn:h∈P.map (·.1))(ha:∀p∈P,p.2=(k,f)):zLs (dkP P) (h:Int) (.tup [.int k,onD f])=dkP P:=by
 unfold zLs;rw[z9p,decide_eq_true hn,if_pos rfl];unfold dkP;rw[map_map];refine map_congr_left λp hp=>?_;simp only[xC]
 split
 ·rw[ha p hp]
 ·rfl
def PR(P:PT)(f:Option Nat)(r:Nat):Prop:=(f=none/\r=0)\/∃(i:Nat)(p:Nat×Nat×Option Nat),P[i]?=some p/\f=some p.1/\r=i+1
def Rk(P:PT)(b:Nat):Prop:=∀(i:Nat) p a,P[i]?=some p->PR P p.2.2 a->a<=b
structure Tree(R:List Nat)(K:List (List Nat))(lay:List (Option Nat))(key:Nat)(P:PT):Prop where
 nd:(P.map (·.1)).Nodup
 lt:∀p∈P,p.1<R.length
 ok:∀(i:Nat) p,P[i]?=some p->p.2.1<K.length/\p.1∈K.getD p.2.1 []/\((p.2.2=none/\p.2.1=key)\/∃(j:Nat)(q:Nat×Nat×Option Nat),j<i/\P[j]?=some q/\p.2.2=some q.1/\lay.getD p.2.1 none=some q.1)
 mono:∀(i j:Nat) p q a b,i<j->P[i]?=some p->P[j]?=some q->PR P p.2.2 a->PR P q.2.2 b->a<=b
def z1r{P:PT}(nd:(P.map (·.1)).Nodup){i j:Nat}{p q:Nat×Nat×Option Nat}(e1:P[i]?=some p)(e2:P[j]?=some q)(h:p.1=q.1):i=j:=by
 have h1:(P.map (·.1))[i]?=some p.1:=by rw[yh,e1];rfl
 have h2:(P.map (·.1))[j]?=some p.1:=by rw[yh,e2,h];rfl
 obtain⟨a,h1⟩:=List.getElem?_eq_some_iff.mp h1;obtain⟨b,h2⟩:=List.getElem?_eq_some_iff.mp h2;have pw:=List.pairwise_iff_getElem.mp nd;rcases Nat.lt_trichotomy i j with h|h|h
 ·exact absurd (h1.trans h2.symm) (pw i j a b h)
 ·exact h
 ·exact absurd (h2.trans h1.symm) (pw j i b a h)
def PR.uniq{P:PT}(nd:(P.map (·.1)).Nodup){f:Option Nat}{a b:Nat}(h1:PR P f a)(h2:PR P f b):a=b:=by
 rcases h1 with ⟨e1,rfl⟩|⟨i,p,ep,e1,rfl⟩
 ·rcases h2 with ⟨_,rfl⟩|⟨j,q,eq,e2,rfl⟩
  ·rfl
  ·rw[e1]at e2;cases e2
 ·rcases h2 with ⟨e2,_⟩|⟨j,q,eq,e2,rfl⟩
  ·rw[e2]at e1;cases e1
  ·rw[e1]at e2;rw[z1r nd ep eq (by injection e2)]
def PR.app{P E:PT}{f:Option Nat}(h:PR P f a):PR (P++E) f a:=by
 rcases h with h|⟨i,p,ep,e1,rfl⟩
 ·exact .inl h
 ·exact .inr ⟨i,p,by rw[yn (List.getElem?_eq_some_iff.mp ep).1];exact ep,e1,rfl⟩
def Tree.rank{key:Nat}{P:PT}(t:Tree R K lay key P){i:Nat}{p:Nat×Nat×Option Nat}(e:P[i]?=some p):∃a,PR P p.2.2 a/\a<=i:=by
 rcases(t.ok i p e).2.2 with ⟨h,_⟩|⟨j,q,hj,eq,h,_⟩
 ·exact⟨0,.inl ⟨h,rfl⟩,yP _⟩
 ·exact⟨j+1,.inr ⟨j,q,eq,h,rfl⟩,hj⟩
def Tree.len{key:Nat}{P:PT}(t:Tree R K lay key P):P.length<=R.length:=by
 have:=zxe t.nd (m:=yd R.length) λx hx=>by
  obtain⟨p,hp,rfl⟩:=List.mem_map.mp hx;simpa using t.lt p hp
 simpa using this
def Tree.add{key:Nat}{P:PT}(t:Tree R K lay key P){h k:Nat}{f:Option Nat}(hn:h∉P.map (·.1))(hr:h<R.length)(hk:k<K.length)(hm:h∈K.getD k []){b:Nat}(hb:Rk P b)(hp:PR P f b)
 (hf:(f=none/\k=key)\/∃(j:Nat)(q:Nat×Nat×Option Nat),P[j]?=some q/\f=some q.1/\lay.getD k none=some q.1):Tree R K lay key (P++[(h,k,f)]):=by
 have nd':((P++[(h,k,f)]).map (·.1)).Nodup:=by
  rw[map_append,nodup_append];refine⟨t.nd,by simp,λa ha b hb=>?_⟩;simp at hb;subst hb;exact λe=>hn (e▸ha)
 refine⟨nd',λp hp=>?_,λi p e=>?_,λi j p q a c hij ei ej ha hc=>?_⟩
 ·rcases List.mem_append.mp hp with hp|hp
  ·exact t.lt p hp
  ·rw[List.mem_singleton.mp hp];exact hr
 ·by_cases hi:i<P.length
  ·rw[yn hi]at e;obtain⟨h1,h2,h3⟩:=t.ok i p e;refine⟨h1,h2,?_⟩;rcases h3 with h3|⟨j,q,hj,eq,h4⟩
   ·exact .inl h3
   ·exact .inr ⟨j,q,hj,by rw[yn (by omega)];exact eq,h4⟩
  ·rw[yH (by omega)]at e
   have hi0:i-P.length=0:=by
    have:=(List.getElem?_eq_some_iff.mp e).1;simp at this;omega
   rw[hi0]at e;have e:(h,k,f)=p:=by simpa using e
   subst e;refine⟨hk,hm,?_⟩;rcases hf with hf|⟨j,q,eq,h4⟩
   ·exact .inl hf
   ·have hj:=(List.getElem?_eq_some_iff.mp eq).1;exact .inr ⟨j,q,by omega,by rw[yn hj];exact eq,h4⟩
 ·have hi:i<P.length:=by
   have:=(List.getElem?_eq_some_iff.mp ej).1;simp at this;omega
  rw[yn hi]at ei;obtain⟨a',ha',_⟩:=t.rank ei;have ea:=PR.uniq nd' ha ha'.app;subst ea
  by_cases hj:j<P.length
  ·rw[yn hj]at ej;obtain⟨c',hc',_⟩:=t.rank ej;have ec:=PR.uniq nd' hc hc'.app;subst ec;exact t.mono i j p q _ _ hij ei ej ha' hc'
  ·rw[yH (by omega)]at ej
   have hj0:j-P.length=0:=by
    have:=(List.getElem?_eq_some_iff.mp ej).1;simp at this;omega
   rw[hj0]at ej;have ej:(h,k,f)=q:=by simpa using ej
   subst ej;have ec:=PR.uniq nd' hc hp.app;subst ec;exact hb i p _ ei ha'
def Rk.add{key:Nat}{P:PT}(t:Tree R K lay key P){h k:Nat}{f:Option Nat}{b:Nat}(t2:Tree R K lay key (P++[(h,k,f)]))(hb:Rk P b)(hp:PR P f b):Rk (P++[(h,k,f)]) b:=by
 intro i p a e ha
 by_cases hi:i<P.length
 ·rw[yn hi]at e;obtain⟨a',ha',_⟩:=t.rank e;have ea:=PR.uniq t2.nd ha ha'.app;subst ea;exact hb i p _ e ha'
 ·rw[yH (by omega)]at e
  have hi0:i-P.length=0:=by
   have:=(List.getElem?_eq_some_iff.mp e).1;simp at this;omega
  rw[hi0]at e;have e:(h,k,f)=p:=by simpa using e
  subst e;rw[PR.uniq t2.nd ha hp.app];exact yk _
structure Bfs(R:List Nat)(K:List (List Nat))(lay:List (Option Nat))(key:Nat)(P:PT):Prop where
 tree:Tree R K lay key P
 home:∀h∈K.getD key [],∃(i:Nat)(p:Nat×Nat×Option Nat),P[i]?=some p/\p.1=h/\p.2.2=none
 next:∀(i:Nat) p,P[i]?=some p->∀o,lay.getD o none=some p.1->∀h∈K.getD o [],∃(j:Nat)(q:Nat×Nat×Option Nat)(a:Nat),P[j]?=some q/\q.1=h/\PR P q.2.2 a/\a<=i+1
def zlu(d l:Nat)(μ ν:Mem):Prop:=∀i o,i≠d->i≠l->μ[i]?=some o->ν[i]?=some o
def zmv{key d l2 at_ o:Nat}{P0:PT}{q:Nat×Nat×Option Nat}{x4:Option D}{ν:Mem}{nx:M.Loc->Mem->Prop}{rt:D->Mem->Prop}{bk ct:M.Loc->Mem->Prop}(w:Wb L R K)(t:Tree R K lay key P0)(ho:o<K.length)(hq:P0[at_]?=some q)(hlo:lay.getD o none=some q.1)
 (hrk:Rk P0 (at_+1)) (hl2:d<l2) (gd:ν[d]?=some (.dct (dkP P0))) (gl:ν[l2]?=some (.lst (nat (P0.map (·.1)))))
 (k:∀(P:PT)(x:Option D)(ν':Mem),(∃E,P=P0++E)->Tree R K lay key P->Rk P (at_+1)->(∀h∈K.getD o [],h∈P.map (·.1))->zlu d l2 ν ν'->ν'[d]?=some (.dct (dkP P))->ν'[l2]?=some (.lst (nat (P.map (·.1))))->nx [some (wn R K),some (.loc n),some (.int key),some (.loc d),x,some (.loc l2),some (.int at_),some (.int o)] ν') :
 WS zQg [some (wn R K),some (.loc n),some (.int key),some (.loc d),x4,some (.loc l2),some (.int at_),some (.int o)] ν nx rt bk ct:=by
 unfold zQg;refine zah (z2c (zm (zm (zd rfl (w_c (zIc (zd rfl (zEo ho (.inl ⟨_,rfl,?_⟩)))))))));refine zWb (λm J ν'=>∃(P:PT)(x:Option D),J=[some (wn R K),some (.loc n),some (.int key),some (.loc d),x,some (.loc l2),some (.int at_),some (.int o)]/\(∃E,P=P0++E)/\Tree R K lay key P/\Rk P (at_+1)/\(∀h∈(K.getD o []).take m,h∈P.map (·.1))/\zlu d l2 ν ν'/\ν'[d]?=some (.dct (dkP P))/\ν'[l2]?=some (.lst (nat (P.map (·.1))))) ⟨P0,_,rfl,⟨[],by simp⟩,t,hrk,by simp,λ_ _ _ _ e=>e,gd,gl⟩ (λ_ _ _ _=>rfl) ?_ ?_
 ·rintro m x J ν1 hx ⟨P,y,rfl,⟨E,hE⟩,tP,rP,hm,k1,g1,g2⟩;rw[yh]at hx
  cases hy:(K.getD o [])[m]? with
  |none=>rw[hy]at hx;cases hx
  |some h=>
   rw[hy]at hx;cases hx;have hmem:=mem_of_getElem? hy;have htk:(K.getD o []).take (m+1)=(K.getD o []).take m++[h]:=by rw[take_succ,hy];rfl
   have hpl:=tP.len;have hrl:=w.rl
   have hat:(P.map (·.1))[at_]?=some q.1:=by
    have hlt:=(List.getElem?_eq_some_iff.mp hq).1;rw[hE,map_append,yn (by simpa using hlt),yh,hq];rfl
   refine zfd ?_;unfold znj;refine z0g (zJ (zm (zd rfl (zd rfl (zar (zbn g1) ⟨_,rfl,λhb=>?_,λhb=>zjb ?_⟩)))))
   ·have hnew:h∉P.map (·.1):=by
     rw[z8l]at hb;simpa using hb
    refine zr (zco (z7d (zb (zd rfl (zb (zm (zd rfl (zd rfl (zBb (zk g2) (zVe (v:=.int (q.1:Nat)) (by rw[yh,hat];rfl)) (zo ?_))))))))));refine z9u (zd rfl (zd rfl ⟨_,_,_,rfl,rfl,g1,by simp[dkP];omega,?_⟩));rw[show(D.tup [.int (o:Nat),.int (q.1:Nat)])=.tup [.int (o:Nat),onD (some q.1)] from rfl,z1t hnew];have g1':=zL (o':=tw.dct (dkP (P++[(h,o,some q.1)]))) g1;have g2':=zD (o':=tw.dct (dkP (P++[(h,o,some q.1)]))) g2 (by omega:d≠l2);refine zNi (zWh (zd rfl ⟨_,_,rfl,g2',?_⟩));refine zb (zd rfl (zo ?_));refine zFg g2' (by rw[length_map,length_map];omega) ?_
    have hatP:P[at_]?=some q:=by
     have hlt:=(List.getElem?_eq_some_iff.mp hq).1;rw[hE,yn hlt];exact hq
    have hpr:PR P (some q.1) (at_+1) :=.inr ⟨at_,q,hatP,rfl,rfl⟩;have tP2:=tP.add hnew ((w.key ho).2 h hmem) ho hmem rP hpr (.inr ⟨at_,q,hatP,rfl,hlo⟩);refine⟨P++[(h,o,some q.1)],_,rfl,⟨E++[(h,o,some q.1)],by rw[hE];simp⟩,tP2,Rk.add tP tP2 rP hpr,λg hg=>?_,λi o' hi1 hi2 e'=>zD (zD (k1 i o' hi1 hi2 e') (Yk hi1)) (Yk hi2),zD g1' (by omega),?_⟩
    ·rw[htk]at hg;rw[map_append,mem_append];rcases List.mem_append.mp hg with hg|hg
     ·exact .inl (hm g hg)
     ·rw[List.mem_singleton.mp hg];exact .inr (by simp)
    ·rw[zL g2',map_append,zld];rfl
   ·have hold:h∈P.map (·.1):=by
     rw[z8l]at hb;simpa using hb
    refine⟨P,_,rfl,⟨E,hE⟩,tP,rP,λg hg=>?_,k1,g1,g2⟩;rw[htk]at hg;rcases List.mem_append.mp hg with hg|hg
    ·exact hm g hg
    ·rw[List.mem_singleton.mp hg];exact hold
 ·rintro J ν1 ⟨P,y,rfl,hE,tP,rP,hm,k1,g1,g2⟩;rw[length_map,take_length]at hm;exact k P y ν1 hE tP rP hm k1 g1 g2
def zmq{key:Nat}(w:Wb L R K)(hlen:lay.length=K.length)(hL:L<=1000)(hn:μ[n]?=some (.lst (lay.map onD)))(hk:key<K.length)
 (q:∀(P:PT)(d:Nat)(μ':Mem),Bfs R K lay key P->tu μ μ'->μ.length<=d->μ'[d]?=some (.dct (dkP P))->Q (.loc d) μ'):WF zDg [wn R K,.loc n,.int key] μ Q:=by
 have hrl:=w.rl;have hkl:=w.kl;refine zsb rfl ?_;show WS zPg [some (wn R K),some (.loc n),some (.int key),none,none,none,none,none] μ _ _ _ _;unfold zPg;refine zr (zhb (zIz (zr (zah (z2c (zm (zm (zd rfl (w_c (zIc (zd rfl (zEo hk (.inl ⟨_,rfl,?_⟩))))))))))))) ;refine zWb (λm J ν=>∃(P:PT)(x:Option D),J=[some (wn R K),some (.loc n),some (.int key),some (.loc μ.length),x,none,none,none]/\Tree R K lay key P/\(∀p∈P,p.2=(key,none))/\(∀h∈(K.getD key []).take m,h∈P.map (·.1))/\tu μ ν/\ν[μ.length]?=some (.dct (dkP P))) ⟨[],_,rfl,⟨by simp,by simp,λi p e=>by simp at e,λi j p q a b _ e=>by simp at e⟩,by simp,by simp,.app,zt⟩ (λ_ _ _ _=>rfl) ?_ ?_
 ·rintro m x J ν1 hx ⟨P,y,rfl,tP,ha,hm,k1,g1⟩;rw[yh]at hx
  cases hy:(K.getD key [])[m]? with
  |none=>rw[hy]at hx;cases hx
  |some h=>
   rw[hy]at hx;cases hx;have hmem:=mem_of_getElem? hy;have htk:(K.getD key []).take (m+1)=(K.getD key []).take m++[h]:=by rw[take_succ,hy];rfl
   have hpl:=tP.len;refine zfd ?_;unfold zyi;refine zco (z7d (zb (zd rfl (zb (w_c (zo ?_))))));refine z9u (zd rfl (zd rfl ⟨_,_,_,rfl,rfl,g1,by simp[dkP];omega,?_⟩));rw[show(D.tup [.int (key:Nat),.non])=.tup [.int (key:Nat),onD none] from rfl];have kk:∀o':tw,tu μ (ν1.set μ.length o'):=λo' i o e=>zD (k1 i o e) (Yg (zx e));have ha0:∀p∈P,p.2.2=none:=λp hp=>by rw[ha p hp]
   by_cases hin:h∈P.map (·.1)
   ·rw[z6x hin ha];refine⟨P,_,rfl,tP,ha,λg hg=>?_,kk _,zL g1⟩;rw[htk]at hg;rcases List.mem_append.mp hg with hg|hg
    ·exact hm g hg
    ·rw[List.mem_singleton.mp hg];exact hin
   ·rw[z1t hin]
    have r0:Rk P 0:=λi p a e ha=>by
     rw[ha0 p (mem_of_getElem? e)]at ha;rcases ha with ⟨_,rfl⟩|⟨_,_,_,h,_⟩
     ·exact yk _
     ·cases h
    refine⟨P++[(h,key,none)],_,rfl,tP.add hin ((w.key hk).2 h hmem) hk hmem r0 (.inl ⟨rfl,rfl⟩) (.inl ⟨rfl,rfl⟩),λp hp=>?_,λg hg=>?_,kk _,zL g1⟩
    ·rcases List.mem_append.mp hp with hp|hp
     ·exact ha p hp
     ·rw[List.mem_singleton.mp hp]
    ·rw[htk]at hg;rw[map_append,mem_append];rcases List.mem_append.mp hg with hg|hg
     ·exact .inl (hm g hg)
     ·rw[List.mem_singleton.mp hg];exact .inr (by simp)
 ·rintro J ν1 ⟨P0,y,rfl,tP0,ha0,hm0,k1,g1⟩;rw[length_map,take_length]at hm0;refine zr (zhb (zn (zb (zd rfl (zo (zQx (zbn g1) ?_))))));rw[zRr];have hl2:μ.length<ν1.length:=zx g1
  have hm1:∀h∈K.getD key [],∃(i:Nat)(p:Nat×Nat×Option Nat),P0[i]?=some p/\p.1=h/\p.2.2=none:=λh hh=>by
   obtain⟨p,hp,e⟩:=List.mem_map.mp (hm0 h hh);obtain⟨i,hi,e2⟩:=List.mem_iff_getElem.mp hp;exact⟨i,p,by rw[<-e2];simp[hi],e,by rw[ha0 p hp]⟩
  have r0:Rk P0 0:=λi p a e ha=>by
   rw[show p.2.2=none by rw[ha0 p (mem_of_getElem? e)]]at ha;rcases ha with ⟨_,rfl⟩|⟨_,_,_,h,_⟩
   ·exact yk _
   ·cases h
  refine zr (zhb (w_c (zr ?_)));refine z0k (λm J ν=>∃(P:PT)(at_:Nat)(x y:Option D),m=R.length-at_/\at_<=P.length/\J=[some (wn R K),some (.loc n),some (.int key),some (.loc μ.length),x,some (.loc ν1.length),some (.int at_),y]/\Tree R K lay key P/\Rk P at_/\(∀h∈K.getD key [],∃(i:Nat)(p:Nat×Nat×Option Nat),P[i]?=some p/\p.1=h/\p.2.2=none)/\(∀(i:Nat) p,i<at_->P[i]?=some p->∀o,lay.getD o none=some p.1->∀h∈K.getD o [],∃(j:Nat)(q:Nat×Nat×Option Nat)(a:Nat),P[j]?=some q/\q.1=h/\PR P q.2.2 a/\a<=i+1)/\tu μ ν/\ν[μ.length]?=some (.dct (dkP P))/\ν[ν1.length]?=some (.lst (nat (P.map (·.1))))) (m:=R.length) (by omega) ⟨P0,0,_,_,by simp,by simp,rfl,tP0,r0,hm1,by simp,k1.to,zK g1,zt⟩ ?_;rintro m J ν2 ⟨P,at_,x,y,rfl,hat,rfl,tP,rP,hkey,hcl,k2,g2,g3⟩;have hpl:=tP.len
  repeat walk_at "w"
  refine zhe (zk g3) ?_;refine z4n ⟨_,rfl,λh1=>?_,λh1=>?_⟩
  ·have h1:at_<P.length:=by
    have:=of_decide_eq_true h1;simp only[length_map]at this;omega
   have hq:P[at_]?=some P[at_]:=by simp[h1]
   generalize P[at_]=q0 at hq;have hat':(P.map (·.1))[at_]?=some q0.1:=by rw[yh,hq];rfl
   unfold ztj;refine zr (zah (z2c (zn (zb (zd rfl (zb (zm (zd rfl (zd rfl (zBb (zk g3) (zVe (v:=.int (q0.1:Nat)) (by rw[yh,hat'];rfl)) (zo ?_)))))))))));refine zDv (h:=q0.1) (k2 _ _ hn) (by omega) λl4 ν4 k4 hl4 g4 =>.inr (.inr ⟨l4,_,rfl,g4,?_⟩);have hν2:=zx g3;refine zWb (λj J ν=>∃(P':PT)(x y:Option D),J=[some (wn R K),some (.loc n),some (.int key),some (.loc μ.length),x,some (.loc ν1.length),some (.int at_),y]/\(∃E,P'=P++E)/\Tree R K lay key P'/\Rk P' (at_+1)/\(∀o∈(zQm lay q0.1).take j,∀h∈K.getD o [],h∈P'.map (·.1))/\tu μ ν/\ν[μ.length]?=some (.dct (dkP P'))/\ν[ν1.length]?=some (.lst (nat (P'.map (·.1))))/\ν[l4]?=some (.lst (nat (zQm lay q0.1)))) ⟨P,_,_,rfl,⟨[],by simp⟩,tP,λi p a e h=>Nat.le_succ_of_le (rP i p a e h),by simp,k2.trans k4,k4 _ _ g2,k4 _ _ g3,g4⟩ (λj J ν ⟨_,_,_,_,_,_,_,_,_,_,_,h⟩=>z6 h .refl) ?_ ?_
   ·rintro j z J ν5 hz ⟨P',x',y',rfl,⟨E,hE⟩,tP',rP',hdone,k5,g5,g6,g7⟩;rw[yh]at hz
    cases ho:(zQm lay q0.1)[j]? with
    |none=>rw[ho]at hz;cases hz
    |some o=>
     rw[ho]at hz;cases hz;have hom:=mem_of_getElem? ho;have hom':=List.mem_filter.mp hom;have hol:o<K.length:=by rw[<-hlen];simpa using hom'.1
     have hlo:=of_decide_eq_true hom'.2;have htk:(zQm lay q0.1).take (j+1)=(zQm lay q0.1).take j++[o]:=by rw[take_succ,ho];rfl
     have hq':P'[at_]?=some q0:=by rw[hE,yn h1];exact hq
     refine zfd ?_;have hl5:=zx g6;refine zmv w tP' hol hq' hlo rP' hl2 g5 g6 λP'' x'' ν6 ⟨E',hE'⟩ tP'' rP'' hall k6 g8 g9=>⟨P'',_,_,rfl,⟨E++E',by rw[hE',hE,append_assoc]⟩,tP'',rP'',λo' ho' h hh=>?_,λi o' e'=>k6 i o' (yw (zx e')) (by have:=zx e';omega) (k5 i o' e'),g8,g9,k6 l4 _ (by omega) (by omega) g7⟩
     rw[htk]at ho';rcases List.mem_append.mp ho' with ho'|ho'
     ·rw[hE',map_append,mem_append];exact .inl (hdone o' ho' h hh)
     ·rw[List.mem_singleton.mp ho']at hh;exact hall h hh
   ·rintro J ν5 ⟨P',x',y',rfl,⟨E,hE⟩,tP',rP',hdone,k5,g5,g6,g7⟩;rw[nat,length_map,take_length]at hdone;have hpl':=tP'.len;refine ziA rfl (w_c (z9y ?_))
    have up:∀{j:Nat} {q:Nat×Nat×Option Nat},P[j]?=some q->P'[j]?=some q:=λ{j q} e=>by
     rw[hE,yn (List.getElem?_eq_some_iff.mp e).1];exact e
    refine⟨R.length-(at_+1),by omega,P',at_+1,_,_,rfl,by rw[hE];simp;omega,rfl,tP',rP',λh hh=>?_,λi p hi e o ho h hh=>?_,k5,g5,g6⟩
    ·obtain⟨i,p,e1,e2⟩:=hkey h hh;exact⟨i,p,up e1,e2⟩
    ·by_cases hia:i<at_
     ·rw[hE,yn (by omega)]at e;obtain⟨j,q',a,e1,e2,e3,e4⟩:=hcl i p hia e o ho h hh;exact⟨j,q',a,up e1,e2,by rw[hE];exact e3.app,e4⟩
     ·have:i=at_:=by omega
      subst this;rw[hE,yn h1,hq]at e;cases e
      have hin:=hdone o (by
       refine List.mem_filter.mpr ⟨?_,decide_eq_true ho⟩;rw[mem_range];refine xL λhle=>?_;rw[getD_eq_getElem?_getD,yx hle]at ho;cases ho) h hh
      obtain⟨q',hq1,hq2⟩:=List.mem_map.mp hin;obtain⟨j,hj,ej⟩:=List.mem_iff_getElem.mp hq1;have ej':P'[j]?=some q':=by rw[<-ej];simp[hj]
      obtain⟨a,ha,_⟩:=tP'.rank ej';exact⟨j,q',a,ej',hq2,ha,rP' j q' a ej' ha⟩
  ·refine zwb (zd rfl ?_)
   have h1:at_=P.length:=by
    have:=of_decide_eq_false h1;simp only[length_map]at this;omega
   refine q P _ ν2 ⟨tP,hkey,λi p e o ho h hh=>hcl i p ?_ e o ho h hh⟩ k2 (yk _) g2;have:=(List.getElem?_eq_some_iff.mp e).1;omega
abbrev pD(p:Nat×Nat):D:=.tup [.int (p.1:Nat),.int (p.2:Nat)]
inductive Path(P:PT)(lay:List (Option Nat)):Nat->List (Nat×Nat)->Prop
 |one {i:Nat} {p:Nat×Nat×Option Nat} (e:P[i]?=some p):Path P lay i [(p.2.1,p.1)]
 |up {i j:Nat} {p q:Nat×Nat×Option Nat} {row:List (Nat×Nat)} (h:Path P lay i row) (e:P[i]?=some p) (eq:P[j]?=some q) (hj:j<i) (hf:p.2.2=some q.1) (hl:lay.getD p.2.1 none=some q.1):Path P lay j ((q.2.1,q.1)::row)
def Path.head{P:PT}(h:Path P lay i row):∃p r,P[i]?=some p/\row=(p.2.1,p.1)::r:=by
 cases h with
 |one e=>exact⟨_,_,e,rfl⟩
 |up h e eq hj hf hl=>exact⟨_,_,eq,rfl⟩
def Path.idx{P:PT}(h:Path P lay i row):∀x∈row,∃j p,i<=j/\P[j]?=some p/\x=(p.2.1,p.1):=by
 induction h with
 |one e=>intro x hx;rw[List.mem_singleton.mp hx];exact⟨_,_,yk _,e,rfl⟩
 |up h e eq hj hf hl ih=>
  intro x hx;rcases List.mem_cons.mp hx with rfl|hx
  ·exact⟨_,_,yk _,eq,rfl⟩
  ·obtain⟨m,p,hm,e',r⟩:=ih x hx;exact⟨m,p,by omega,e',r⟩
def Path.tail{P:PT}(h:Path P lay i row):∀x∈row.tail,∃j p,i<=j/\P[j]?=some p/\lay.getD x.1 none=some p.1:=by
 induction h with
 |one e=>intro x hx;cases hx
 |up h e eq hj hf hl ih=>
  intro x hx;obtain⟨p',r,e',er⟩:=h.head;rw[e]at e';cases e';rw[List.tail_cons,er]at hx;rcases List.mem_cons.mp hx with rfl|hx
  ·exact⟨_,_,yk _,eq,hl⟩
  ·obtain⟨m,p,hm,e',r⟩:=ih x (by rw[er];exact hx);exact⟨m,p,by omega,e',r⟩
def Path.link{P:PT}(h:Path P lay i row):∀n p q,row[n]?=some p->row[n+1]?=some q->lay.getD q.1 none=some p.2:=by
 induction h with
 |one e=>intro n p q _ e2;simp at e2
 |up h e eq hj hf hl ih=>
  intro n p q e1 e2
  cases n with
  |zero=>
   obtain⟨p',r,e',er⟩:=h.head;rw[e]at e';cases e';rw[er]at e2;simp at e1 e2;subst e1 e2;exact hl
  |succ n=>exact ih n p q (by simpa using e1) (by simpa using e2)
def Path.ndk{P:PT}{key:Nat}(t:Tree R K lay key P)(hkey:lay.getD key none=none)(h:Path P lay i row):(row.map (·.1)).Nodup:=by
 induction h with
 |one e=>simp
 |@up i j p q row h e eq hj hf hl ih=>
  rw[map_cons,nodup_cons];refine⟨λhm=>?_,ih⟩;obtain⟨x,hx,ex⟩:=List.mem_map.mp hm;have ht:=(Path.up h e eq hj hf hl).tail x hx;obtain⟨m,p',hm',e',el⟩:=ht;rw[ex]at el;obtain⟨_,_,h3⟩:=t.ok j q eq;rcases h3 with ⟨_,h3⟩|⟨j',q',hj',eq',_,h4⟩
  ·simp only at el;rw[h3,hkey]at el;cases el
  ·simp only at el;rw[h4]at el;have:=z1r t.nd eq' e' (by injection el);omega
def Path.ok{P:PT}{key:Nat}{p:Nat×Nat×Option Nat}(t:Tree R K lay key P)(hkey:lay.getD key none=none)(h:Path P lay i row)(e:P[i]?=some p)(hp:p.2.2=none):Td K lay key row:=by
 refine⟨?_,λx hx=>?_,h.link,h.ndk t hkey⟩
 ·obtain⟨p',r,e',er⟩:=h.head;rw[e]at e';cases e';rcases(t.ok i p e).2.2 with ⟨_,h3⟩|⟨_,_,_,_,h3,_⟩
  ·exact⟨p.1,r,by rw[er,h3]⟩
  ·rw[hp]at h3;cases h3
 ·obtain⟨j,q,_,eq,rfl⟩:=h.idx x hx;obtain⟨h1,h2,h3⟩:=t.ok j q eq;refine⟨h1,h2,?_⟩;rcases h3 with ⟨_,h3⟩|⟨j',q',hj',eq',_,h4⟩
  ·simp only;rw[h3,hkey];exact λh=>by cases h
  ·simp only;rw[h4];intro h;have:=z1r t.nd eq' eq (by injection h);omega
inductive Dep(P:PT):Nat->Nat->Prop
 |base {i:Nat} {p:Nat×Nat×Option Nat} (e:P[i]?=some p) (h:p.2.2=none):Dep P i 1
 |step {i j d:Nat} {p q:Nat×Nat×Option Nat} (e:P[i]?=some p) (eq:P[j]?=some q) (h:p.2.2=some q.1) (hd:Dep P j d):Dep P i (d+1)
def Dep.pos{P:PT}{d:Nat}(h:Dep P i d):1<=d:=by cases h<;>omega
def Dep.ex{R:List Nat}{K:List (List Nat)}{P:PT}{lay:List (Option Nat)}{key:Nat}(t:Tree R K lay key P):∀(n i:Nat)(p:Nat×Nat×Option Nat),i<n->P[i]?=some p->∃d,Dep P i d
 |0,i,p,h,_=>absurd h (Nat.not_lt_zero _)
 |n+1,i,p,h,e=>by
  rcases(t.ok i p e).2.2 with ⟨h1,_⟩|⟨j,q,hj,eq,h1,_⟩
  ·exact⟨1,.base e h1⟩
  ·obtain⟨d,hd⟩:=Dep.ex t n j q (by omega) eq;exact⟨d+1,.step e eq h1 hd⟩
def Dep.mono{R:List Nat}{K:List (List Nat)}{P:PT}{lay:List (Option Nat)}{key:Nat}(t:Tree R K lay key P):∀(n i j a b:Nat),j<n->i<=j->Dep P i a->Dep P j b->a<=b
 |0,i,j,a,b,h,_,_,_=>absurd h (Nat.not_lt_zero _)
 |n+1,i,j,a,b,h,hij,ha,hb=>by
  cases ha with
  |base e he=>exact hb.pos
  |@step _ i' a' p p' e ep he hd=>
   have ra:PR P p.2.2 (i'+1) :=.inr ⟨i',p',ep,he,rfl⟩
   cases hb with
   |@base _ q eq hq=>
    exfalso;have rb:PR P q.2.2 0:=.inl ⟨hq,rfl⟩;rcases Nat.lt_or_eq_of_le hij with hlt|rfl
    ·have:=t.mono i j p q _ _ hlt e eq ra rb;omega
    ·rw[e]at eq;cases eq;rw[hq]at he;cases he
   |@step _ j' b' q q' eq eq' hq hd'=>
    have rb:PR P q.2.2 (j'+1) :=.inr ⟨j',q',eq',hq,rfl⟩
    have hle:i'+1<=j'+1:=by
     rcases Nat.lt_or_eq_of_le hij with hlt|rfl
     ·exact t.mono i j p q _ _ hlt e eq ra rb
     ·rw[e]at eq;cases eq;rw[PR.uniq t.nd ra rb];exact yk _
    have hj':j'<j:=by
     rcases(t.ok j q eq).2.2 with ⟨h1,_⟩|⟨j2,q2,hj2,eq2,h1,_⟩
     ·rw[hq]at h1;cases h1
     ·rw[hq]at h1;rw[z1r t.nd eq' eq2 (by injection h1)];exact hj2
    have:=Dep.mono t n i' j' a' b' (by omega) (by omega) hd hd';omega
def Path.dep{P:PT}(h:Path P lay i row):∀{d:Nat},Dep P i d->∃(il:Nat)(pl:Nat×Nat×Option Nat),P[il]?=some pl/\Dep P il (d+row.length-1)/\(row.getD (row.length-1) (0,0)).2=pl.1:=by
 induction h with
 |@one i p e=>intro d hd;exact⟨i,p,e,by simpa using hd,rfl⟩
 |@up i j p q row h e eq hj hf hl ih=>
  intro d hd;obtain⟨il,pl,el,dl,hl'⟩:=ih (.step e eq hf hd)
  have hpos:0<row.length:=by
   obtain⟨_,r,_,er⟩:=h.head;rw[er];simp
  refine⟨il,pl,el,?_,?_⟩
  ·rw[length_cons,show d+(row.length+1)-1=d+1+row.length-1 by omega];exact dl
  ·rw[<-hl',length_cons,show row.length+1-1=(row.length-1)+1 by omega,List.getD_cons_succ]
structure Walk(K:List (List Nat))(lay:List (Option Nat))(key:Nat)(row:List (Nat×Nat)):Prop where
 first:∃h r,row=(key,h)::r
 mem:∀p∈row,p.2∈K.getD p.1 []
 link:∀i p q,row[i]?=some p->row[i+1]?=some q->lay.getD q.1 none=some p.2
def Td.walk{key:Nat}(r:Td K lay key row):Walk K lay key row:=⟨r.first,λp hp=>(r.mem p hp).2.1,r.link⟩
def Bfs.walk{R:List Nat}{K:List (List Nat)}{P:PT}{lay:List (Option Nat)}{key:Nat}{row:List (Nat×Nat)}(b:Bfs R K lay key P)(w:Walk K lay key row):∀(n:Nat)(x:Nat×Nat),row[n]?=some x->∃(i:Nat)(p:Nat×Nat×Option Nat)(d:Nat),P[i]?=some p/\p.1=x.2/\Dep P i d/\d<=n+1
 |0,x,e=>by
  obtain⟨h,r,er⟩:=w.first
  have hx:x=(key,h):=by rw[er]at e;simpa using e.symm
  obtain⟨i,p,e1,e2,e3⟩:=b.home x.2 (by
   have:=w.mem x (mem_of_getElem? e);rw[hx]at this ⊢;exact this)
  exact⟨i,p,1,e1,e2,.base e1 e3,yk _⟩
 |n+1,x,e=>by
  have hn:n<row.length:=by
   have:=(List.getElem?_eq_some_iff.mp e).1;omega
  have ey:row[n]?=some row[n]:=by simp[hn]
  obtain⟨i,p,d,e1,e2,e3,e4⟩:=Bfs.walk b w n _ ey;have hl:=w.link n _ _ ey e;rw[<-e2]at hl;obtain⟨j,q,a,f1,f2,f3,f4⟩:=b.next i p e1 x.1 hl x.2 (w.mem x (mem_of_getElem? e));rcases f3 with ⟨g1,_⟩|⟨i',p',g1,g2,rfl⟩
  ·exact⟨j,q,1,f1,f2,.base f1 g1,by omega⟩
  ·obtain⟨d',hd'⟩:=Dep.ex b.tree (i'+1) i' p' (Yd _) g1;have:=Dep.mono b.tree (i+1) i' i d' d (Yd _) (by omega) hd' e3;exact⟨j,q,d'+1,f1,f2,.step f1 g1 g2 hd',by omega⟩
def z8v{key d i0:Nat}{p0:Nat×Nat×Option Nat}{P:PT}(t:Tree R K lay key P)(hR:R.length<=10)(hkey:lay.getD key none=none)(hd:zJc μ (.loc d)=some (dkP P))(hp0:P[i0]?=some p0)
 (q:∀(row:List (Nat×Nat)) (l:Nat) (μ':Mem),Td K lay key row->(row.getD (row.length-1) (0,0)).2=p0.1->Dep P i0 row.length->row.length<=P.length->tu μ μ'->μ.length<=l->μ'[l]?=some (.lst (row.map pD))->Q (.loc l) μ'):WF zXk [.loc d,.int p0.1] μ Q:=by
 have hpl:=t.len;refine zsb rfl ?_;show WS zIk [some (.loc d),some (.int p0.1),none] μ _ _ _ _;unfold zIk;refine zr (zhb (z5i (zo (zr ?_))));have hi0:=(List.getElem?_eq_some_iff.mp hp0).1
 have hdk:∀{μ':Mem},tu μ μ'->zJc μ' (.loc d)=some (dkP P):=λ{μ'} kp=>by
  cases e:μ[d]? with
  |none=>simp[e]at hd
  |some o=>
   have e':=kp _ _ e;simp only[zJc,e]at hd;simp only[zJc,e'];exact hd
 refine z0k (λm J ν=>∃(acc:List (Nat×Nat)) (f:Option Nat),J=[some (.loc d),some (onD f),some (.loc μ.length)]/\tu μ ν/\ν[μ.length]?=some (.lst (acc.map pD))/\acc.length+m<=P.length /\
  ((f=none∧(∃ k,acc[0]?=some (k,p0.1))∧∃ i p,Path P lay i acc.reverse∧P[i]?=some p∧p.2.2=none) ∨
   (∃i p,m=i+1/\P[i]?=some p/\f=some p.1/\((acc=[]/\p=p0)\/((∃k,acc[0]?=some (k,p0.1))/\∃i' p',i<i'/\Path P lay i' acc.reverse/\P[i']?=some p'/\p'.2.2=some p.1/\lay.getD p'.2.1 none=some p.1))))) (m:=i0+1) (by omega)
  ⟨[],some p0.1,rfl,.app,zt,by simp;omega,.inr ⟨i0,p0,rfl,hp0,rfl,.inl ⟨rfl,rfl⟩⟩⟩ ?_
 rintro m J ν ⟨acc,f,rfl,kp,g,hlen,h⟩;refine zJ (zm (zd rfl (w_c (zgf (zLh _) ⟨_,rfl,λh1=>?_,λh1=>?_⟩))))
 ·rcases h with ⟨rfl,_⟩|⟨i,p,rfl,ep,rfl,h⟩
  ·cases h1
  ·have hlook:=zMx t.nd (mem_of_getElem? ep)
   have hnew:Path P lay i ((p.2.1,p.1)::acc.reverse):=by
    rcases h with ⟨rfl,rfl⟩|⟨_,i',p',hi',hpa,ep',hf,hl⟩
    ·exact .one ep
    ·exact .up hpa ep' ep hi' hf hl
   have hac:∃k,(acc++[(p.2.1,p.1)])[0]?=some (k,p0.1):=by
    rcases h with ⟨rfl,rfl⟩|⟨⟨k,hk⟩,_⟩
    ·exact⟨p.2.1,rfl⟩
    ·refine⟨k,?_⟩;rw[yn (List.getElem?_eq_some_iff.mp hk).1];exact hk
   unfold zkn;refine zr (zNi (zWh (zd rfl ⟨_,_,rfl,g,?_⟩)));refine zb (z7d (zb (zm (zm (zd rfl (zd rfl (z8y (hdk kp) hlook (w_c (zBb rfl rfl (zb (zd rfl (zo (zo ?_)))))))))))));refine zFg g (by rw[length_map];omega) ?_;have kp2:tu μ (ν.set μ.length (.lst (acc.map pD++[pD (p.2.1,p.1)]))):=λa o e=>zD (kp a o e) (Yg (zx e));refine zhb (zm (zm (zd rfl (zd rfl (z8y (hdk kp2) hlook (w_c (zBb rfl rfl ?_)))))));obtain⟨_,_,h3⟩:=t.ok i p ep;rcases h3 with ⟨h3,_⟩|⟨j,q',hj,eq',h3,h4⟩
   ·refine⟨0,by omega,acc++[(p.2.1,p.1)],none,?_,kp2,?_,by rw[length_append];simp;omega,.inl ⟨rfl,hac,i,p,?_,ep,h3⟩⟩
    ·rw[h3];rfl
    ·rw[zL g,map_append];rfl
    ·rw[List.reverse_append];exact hnew
   ·refine⟨j+1,by omega,acc++[(p.2.1,p.1)],some q'.1,?_,kp2,?_,by rw[length_append];simp;omega,.inr ⟨j,q',rfl,eq',rfl,.inr ⟨hac,i,p,hj,?_,ep,h3,h4⟩⟩⟩
    ·rw[h3];rfl
    ·rw[zL g,map_append];rfl
    ·rw[List.reverse_append];exact hnew
 ·rcases h with ⟨rfl,⟨k,hk⟩,i,p,hpa,ep,hn⟩|⟨i,p,rfl,ep,rfl,h⟩
  ·refine zwb (zEw (zd rfl ⟨_,_,rfl,g,?_⟩))
   have hlast:(acc.reverse.getD (acc.reverse.length-1) (0,0)).2=p0.1:=by
    have h0:=(List.getElem?_eq_some_iff.mp hk).1
    have:acc.reverse[acc.reverse.length-1]?=some (k,p0.1):=by
     rw[length_reverse,List.getElem?_reverse (by omega),show acc.length-1-(acc.length-1)=0 by omega];exact hk
    rw[getD_eq_getElem?_getD,this];rfl
   refine q acc.reverse _ _ (hpa.ok t hkey ep hn) hlast ?_ (by rw[length_reverse];omega) kp.to kp.len ?_
   ·obtain⟨il,pl,el,dl,hl'⟩:=hpa.dep (.base ep hn);rw[hlast]at hl';have:=z1r t.nd hp0 el hl';subst this;rw[show 1+acc.reverse.length-1=acc.reverse.length by omega]at dl;exact dl
   ·rw[zt,List.map_reverse]
  ·cases h1
def Path.ndn{P:PT}{key:Nat}(t:Tree R K lay key P)(h:Path P lay i row):(row.map (·.2)).Nodup:=by
 induction h with
 |one e=>simp
 |@up i j p q row h e eq hj hf hl ih=>
  rw[map_cons,nodup_cons];refine⟨λhm=>?_,ih⟩;obtain⟨x,hx,ex⟩:=List.mem_map.mp hm;obtain⟨m,p',hm',e',rfl⟩:=h.idx x hx;have:=z1r t.nd e' eq ex;omega
def zFu{R:List Nat}{K:List (List Nat)}{P:PT}{lay:List (Option Nat)}{key:Nat}(t:Tree R K lay key P)(hkey:lay.getD key none=none):∀(n i:Nat)(row:List (Nat×Nat)),i<n->Path P lay i row->∃row',Td K lay key row'/\(row'.map (·.2)).Nodup/\(row'.getD (row'.length-1) (0,0)).2=(row.getD (row.length-1) (0,0)).2
 |0,i,row,h,_=>absurd h (Nat.not_lt_zero _)
 |n+1,i,row,h,hp=>by
  obtain⟨p,r,e,er⟩:=hp.head;rcases(t.ok i p e).2.2 with ⟨h1,_⟩|⟨j,q,hj,eq,h1,h2⟩
  ·exact⟨row,hp.ok t hkey e h1,hp.ndn t,rfl⟩
  ·obtain⟨row',ok,nn,el⟩:=zFu t hkey n j _ (by omega) (.up hp e eq hj h1 h2);refine⟨row',ok,nn,?_⟩;have hpos:0<row.length:=by rw[er];simp
   rw[el,length_cons,show row.length+1-1=(row.length-1)+1 by omega,List.getD_cons_succ]
def zfw{P:PT}{key:Nat}(t:Tree R K lay key P)(hkey:lay.getD key none=none){p:Nat×Nat×Option Nat}(hp:p∈P):∃row,Td K lay key row/\(row.map (·.2)).Nodup/\(row.getD (row.length-1) (0,0)).2=p.1:=by
 obtain⟨i,hi,e⟩:=List.mem_iff_getElem.mp hp;exact zFu t hkey (i+1) i _ (Yd _) (.one (by rw[<-e];simp[hi]))
def zMy(P:PT)(lay:List (Option Nat))(key:Nat):List Nat:=(yd lay.length).filter λo=>decide (o=key)||decide (∃p∈P,lay.getD o none=some p.1)
def zGk{key:Nat}(w:Wb L R K)(hlen:lay.length=K.length)(hL:L<=1000)(hn:μ[n]?=some (.lst (lay.map onD)))(hk:key<K.length)(hkey:lay.getD key none=none)
 (q1:∀(row:List (Nat×Nat)) (l:Nat) (μ':Mem),Td K lay key row->lay.count (some (row.getD (row.length-1) (0,0)).2)<R.getD (row.getD (row.length-1) (0,0)).2 0->(∀row',Walk K lay key row'->lay.count (some (row'.getD (row'.length-1) (0,0)).2)<R.getD (row'.getD (row'.length-1) (0,0)).2 0->row.length<=row'.length)->row.length<=10->tu μ μ'->μ.length<=l->μ'[l]?=some (.lst (row.map pD))->Q (.tup [.str "put",.loc l]) μ')
 (q2:∀(S:List Nat)(l:Nat)(μ':Mem),S.Sublist (yd K.length)->key∈S->Ta R K lay S->(∀o∈S,o=key\/∃row,Td K lay key row/\(row.map (·.2)).Nodup/\lay.getD o none=some (row.getD (row.length-1) (0,0)).2)->tu μ μ'->μ.length<=l->μ'[l]?=some (.lst (nat S))->Q (.tup [.str "full",.loc l]) μ'):WF zMg [wn R K,.loc n,.int key] μ Q:=by
 have hrl:=w.rl;have hkl:=w.kl;refine zsb rfl ?_;show WS zPk [some (wn R K),some (.loc n),some (.int key),none,none,none] μ _ _ _ _;unfold zPk;refine zr (zhb (zn (zb (zd rfl (zb (zd rfl (zb (zd rfl (zo ?_)))))))));refine zmq w hlen hL hn hk λP d μ1 b k1 hd g1=>?_;have t:=b.tree;refine zr (zhb (zn (zb (zd rfl (zb (zd rfl (zo ?_)))))));refine zax w (k1 _ _ hn) λl2 μ2 k2 hl2 g2=>?_;have g1':=k2 _ _ g1;have hpl:=t.len;refine zr (zah (zDx (zd rfl ⟨_,_,rfl,g1',?_⟩)));have hd1:d<μ1.length:=zx g1;have kf:tu μ (μ2.set d (.dcf (dkP P))):=λi o e=>zD ((k1.trans k2) i o e) (by have:=zx e;omega);have gd:=zL (o':=tw.dcf (dkP P)) g1';have gl:=zD (o':=tw.dcf (dkP P)) g2 (by omega:d≠l2);generalize μ2.set d (.dcf (dkP P))=μ3 at kf gd gl;rw[zRr];refine zWb (λm J ν=>∃x:Option D,J=[some (wn R K),some (.loc n),some (.int key),some (.loc d),some (.loc l2),x]/\ν=μ3/\∀(i:Nat) p,i<m->P[i]?=some p->R.getD p.1 0<=lay.count (some p.1)) ⟨_,rfl,rfl,by simp⟩ (λ_ _ _ _=>rfl) ?_ ?_
 ·rintro m x J ν hx ⟨y,rfl,rfl,hb⟩;rw[yh,yh]at hx
  cases ep:P[m]? with
  |none=>rw[ep]at hx;cases hx
  |some p=>
   rw[ep]at hx;cases hx;have hlt:=t.lt p (mem_of_getElem? ep);refine zfd ?_;unfold zen;refine z0g (zJ (zm (zm (zd rfl (zd rfl (zBb (zk gl) (zVe (v:=.int ((R.getD p.1 0:Int)-(lay.count (some p.1):Nat))) (by unfold zPx;simp[hlt])) (w_c (z4n ⟨_,rfl,λh1=>?_,λh1=>?_⟩))))))))
   ·have h1:=of_decide_eq_true h1;refine zwb (z7d (zb (w_c (zb (zn (zb (zd rfl (zb (zd rfl (zo ?_))))))))));refine z8v t hrl.2 hkey (zCj gd) ep λrow l μ4 hrow hlast hdep hrl4 k4 hl4 g4=>zo ?_;refine q1 row l μ4 hrow ?_ (λrow' hw hroom=>?_) (by omega) (kf.trans k4) (by have:=kf.len;omega) g4
    ·rw[hlast];omega
    ·have hpos:0<row'.length:=by
      obtain⟨h,r,e⟩:=hw.first
      rw[e];simp
     have ex:row'[row'.length-1]?=some (row'.getD (row'.length-1) (0,0)):=by
      rw[getD_eq_getElem?_getD,yc (by omega)];rfl
     obtain⟨i,p',d',f1,f2,f3,f4⟩:=b.walk hw _ _ ex;rw[<-f2]at hroom
     have him:m<=i:=Nat.le_of_not_lt λhlt=>by
      have:=hb i p' hlt f1;omega
     have:=Dep.mono t (i+1) m i _ _ (Yd _) him hdep f3;omega
   ·have h1:=of_decide_eq_false h1;refine zjb ⟨_,rfl,rfl,λi p' hi e'=>?_⟩
    by_cases hm:i=m
    ·subst hm;rw[ep]at e';cases e';omega
    ·exact hb i p' (by omega) e'
 ·rintro J ν ⟨y,rfl,rfl,hb⟩;rw[nat,length_map,length_map]at hb
  have hfull:∀p∈P,R.getD p.1 0<=lay.count (some p.1):=λp hp=>by
   obtain⟨i,hi,rfl⟩:=List.mem_iff_getElem.mp hp;exact hb i P[i] hi (by simp[hi])
  refine zwb (z7d (zb (w_c (zb (zAj ?_)))));refine zif (zd rfl (.inr (.inr ⟨n,_,rfl,kf _ _ hn,zrb (by rw[zac,length_map];omega),?_⟩)));rw[zyb onD lay none];refine zNd (λ(k:Nat) =>.tup [.int k,onD (lay.getD k none)]) (yd lay.length) (λ(k:Nat)=>D.int k) (λo=>decide (o=key)||decide (∃p∈P,lay.getD o none=some p.1)) (λμ' k'=>z6 (kf _ _ hn) k') (λk hk' μ' kp=>?_) (λμ' kp=>?_)
  ·have gd':=kp _ _ gd;refine zaj (znd (zfd (znd (zfd (zfi ?_)))));unfold zvm zjn;refine zBk (zJ (zm (zd rfl (zd rfl (zjo ⟨_,rfl,λh1=>?_,λh1=>?_⟩)))))
   ·have h1:k≠key:=by
     intro e;rw[e]at h1;simp at h1
    rw[decide_eq_false h1,Bool.false_or]
    cases e:lay.getD k none with
    |none=>
     refine zJ (zm (zd rfl (zd rfl (zkz (zCj gd') ?_ ⟨_,rfl,?_,kp,λhb=>(by cases hb)⟩))))
     ·rw[all_eq_true];intro x hx;obtain⟨p,hp,rfl⟩:=List.mem_map.mp hx;have:=t.lt p hp;exact decide_eq_true (by simp only;omega)
     ·symm
      refine decide_eq_false ?_;rintro⟨p,_,e⟩;cases e
    |some h=>
     refine zJ (zm (zd rfl (zd rfl (zKz (zCj gd') ⟨_,rfl,?_,kp,λhb=>zd rfl ⟨rfl,kp⟩⟩))));rw[z8l];refine decide_eq_decide.mpr ?_;rw[mem_map];constructor
     ·rintro⟨p,hp,rfl⟩;exact⟨p,hp,rfl⟩
     ·rintro⟨p,hp,e⟩;cases e;exact⟨p,hp,rfl⟩
   ·have h1:k=key:=by
     have:=beq_iff_eq.mp h1;omega
    rw[decide_eq_true h1,Bool.true_or];exact⟨rfl,kp,λ_=>zd rfl ⟨rfl,kp⟩⟩
  ·refine zo (q2 (zMy P lay key) _ _ ?_ ?_ ?_ ?_ (kf.trans kp.to) (kf.trans kp).len zt)
   ·rw[<-hlen];exact filter_sublist
   ·exact List.mem_filter.mpr ⟨by simpa[hlen] using hk,by simp⟩
   ·have hin:∀k∈zMy P lay key,∀h∈K.getD k [],∃p∈P,p.1=h:=λk hkm h hh=>by
     have hm:=(List.mem_filter.mp hkm).2;rw[Bool.or_eq_true,decide_eq_true_iff,decide_eq_true_iff]at hm;rcases hm with rfl|⟨p,hp,e⟩
     ·obtain⟨i,p,e1,e2,_⟩:=b.home h hh;exact⟨p,mem_of_getElem? e1,e2⟩
     ·obtain⟨i,hi,e1⟩:=List.mem_iff_getElem.mp hp;obtain⟨j,q',a,f1,f2,_⟩:=b.next i p (by rw[<-e1];simp[hi]) k e h hh;exact⟨q',mem_of_getElem? f1,f2⟩
    refine⟨λk hkm=>?_,λk hkm h hh=>?_,λk hkm h hh o e=>?_⟩
    ·have:=(List.mem_filter.mp hkm).1;rw[<-hlen];simpa using this
    ·obtain⟨p,hp,rfl⟩:=hin k hkm h hh;exact hfull p hp
    ·obtain⟨p,hp,rfl⟩:=hin k hkm h hh;refine List.mem_filter.mpr ⟨?_,?_⟩
     ·rw[mem_range];refine xL λhle=>?_;rw[getD_eq_getElem?_getD,yx hle]at e;cases e
     ·rw[Bool.or_eq_true];exact .inr (decide_eq_true ⟨p,hp,e⟩)
   ·intro o ho;have hm:=(List.mem_filter.mp ho).2;rw[Bool.or_eq_true,decide_eq_true_iff,decide_eq_true_iff]at hm;rcases hm with h|⟨p,hp,e⟩
    ·exact .inl h
    ·obtain⟨row,ok,nn,el⟩:=zfw t hkey hp;exact .inr ⟨row,ok,nn,by rw[el];exact e⟩
def zCw{ys:List D}(h:μ[n]?=some (.lst xs))(h2:μ[m]?=some (.lst ys))(hl:xs.length+ys.length<=1000000)(q:Q .non (μ.set n (.lst (xs++ys)))):WM zSw (.loc n) [.loc m] μ Q:=⟨_,_,by simp[h,h2,hl]<;>rfl,q⟩
def zRy(h:k<lay.length):atI (lay.map onD) (k:Int)=some (onD (lay.getD k none)):=zVe (by simp[h])
def zFs{p:Nat×Nat}(e:row[i]?=some p):atI (row.map pD) (i:Int)=some (pD p):=zVe (by rw[yh,e];rfl)
def zgu{key r:Nat}{p:Nat×Nat}(w:Wb L R K)(hlen:lay.length=K.length)(hn:μ[n]?=some (.lst (lay.map onD)))(hr:μ[r]?=some (.lst (row.map pD)))(hrl:row.length<=1000)(ok:Td K lay key row)(e:row[i]?=some p)
 (q:∀μ',tu μ μ'->Q (.bl true) μ'):WF zxj [wn R K,.loc n,.loc r,.int i] μ Q:=by
 have hm:=ok.mem p (mem_of_getElem? e);have hi:=(List.getElem?_eq_some_iff.mp e).1;refine zsb rfl ?_;show WS zsj [some (wn R K),some (.loc n),some (.loc r),some (.int i),none] μ _ _ _ _;unfold zsj;refine zr (zhb (zm (zm (zd rfl (zd rfl (zBb (zk hr) (zFs e) (w_c (zBb rfl rfl ?_))))))));refine zr (z0g (zBk (zJ (zm (zd rfl (w_c (z4n ⟨_,rfl,λh1=>?_,λh1=>?_⟩)))))))
 case refine_2=>have:=of_decide_eq_true h1;omega
 refine zJ (zm (zd rfl (zn (zb (zd rfl (zo (zhe (zk hn) (z4n ⟨_,rfl,λh2=>?_,λh2=>zjb ?_⟩))))))))
 ·have:=of_decide_eq_true h2;rw[length_map]at this;omega
 refine zr (z0g (zBk (zJ (zm (zm (zm (zd rfl (zd rfl (zBb (zk hr) (zFs e) (w_c (zBb rfl rfl (zm (zm (zd rfl (w_c (zIc (zd rfl (zEo hm.1 (zho rfl ⟨_,rfl,λh3=>?_,λh3=>?_⟩)))))))))))))))))))
 case refine_2=>rw[decide_eq_true hm.2.1]at h3;cases h3
 refine zJ (zm (zm (zm (zd rfl (zd rfl (zBb (zk hr) (zFs e) (w_c (zBb rfl rfl (zm (zd rfl (zd rfl (zBb (zk hn) (zRy (by omega)) (zAv (α:=Option Nat) (some p.2) (lay.getD p.1 none) ⟨_,rfl,λh4=>?_,λh4=>zjb ?_⟩)))))))))))))
 ·exact absurd (of_decide_eq_true h4).symm hm.2.2
 refine zwb (zm (zd rfl (zAj (z2c (zeA (zd rfl (zyv (zVq (zd rfl ⟨_,rfl,_,_,rfl,hr,.inr (.inr ⟨_,_,rfl,zt,?_,?_⟩)⟩)))))))))
 ·rw[z5p];exact zrb (by rw[length_take,length_map];omega)
 rw[z5p,<-List.map_take];refine zlf pD (row.take i) (λx =>.int (x.1:Nat)) (λμ' k=>z6 zt k) (λx hx μ' kp=>?_) (λμ' kp=>?_)
 ·unfold zUl;exact zfd (zm (zd rfl (w_c (zBb rfl rfl ⟨rfl,kp,kp⟩))))
 ·have e2:((row.take i).map λx=>D.int (x.1:Nat))=nat ((row.take i).map (·.1)):=(z1g _ _).symm;rw[e2];refine zho (zk zt) ?_
  have hnot:p.1∉(row.take i).map (·.1):=by
   intro hmem;have nd:=ok.nd;rw[<-take_append_drop i row,map_append,nodup_append]at nd;refine nd.2.2 _ hmem _ ?_ rfl;refine List.mem_map.mpr ⟨p,?_,rfl⟩;rw[drop_eq_getElem_cons hi,(List.getElem?_eq_some_iff.mp e).2];exact mem_cons_self
  rw[decide_eq_false hnot];exact q _ (tu.app.trans (kp.to))
def zss{key r:Nat}{p:Nat×Nat}(hlen:lay.length=K.length)(hn:μ[n]?=some (.lst (lay.map onD)))(hr:μ[r]?=some (.lst (row.map pD)))(ok:Td K lay key row)(e:row[i]?=some p)
 (q:Q (.bl true) μ):WF zSi [.loc n,.int key,.loc r,.int i] μ Q:=by
 refine zsb rfl ?_;show WS zmi [some (.loc n),some (.int key),some (.loc r),some (.int i)] μ _ _ _ _;unfold zmi;refine zr (z0g (zJ (zm (zd rfl (w_c (zjo ⟨_,rfl,λh1=>?_,λh1=>zjb ?_⟩))))))
 ·obtain⟨h,r0,e0⟩:=ok.first
  refine zwb (zm (zm (zm (zd rfl (w_c (zBb (zk hr) (zFs (i:=0) (p:=(key,h)) (by rw[e0];rfl)) (w_c (zBb rfl rfl (zd rfl (zjo ?_))))))))));rw[beq_self_eq_true];exact q
 ·cases i with
  |zero=>exact absurd h1 (by decide)
  |succ j=>
   have hj:j<row.length:=by
    have:=(List.getElem?_eq_some_iff.mp e).1;omega
   have ej:row[j]?=some row[j]:=by simp[hj]
   have hl:=ok.link j _ _ ej e;have hm:=ok.mem p (mem_of_getElem? e);refine zwb (zm (zm (zd rfl (zm (zm (zd rfl (zd rfl (zBb (zk hr) (zFs e) (w_c (zBb rfl rfl (zBb (zk hn) (zRy (by omega)) (zm (zm (zd rfl (zm (zd rfl (w_c (zZy ?_))))))))))))))))));rw[show((j+1:Nat):Int)-1=(j:Int) by omega];refine zBb (zk hr) (zFs ej) (w_c (zBb rfl rfl (zAv (α:=Option Nat) (lay.getD p.1 none) (some (row[j]).2) ?_)));rw[decide_eq_true hl];exact q
def zzg(r:tG R K lay):z4g R K (lay.map onD)=.non:=by
 unfold z4g;rw[zqh λk hk=>?_,zqh λh hh=>?_]
 ·unfold zqu;rw[z0t];have:=r.room h;exact decide_eq_false (by omega)
 ·unfold zdo
  have e:(lay.map onD).getD k .non=onD (lay.getD k none):=by
   have hk':k<lay.length:=by rw[r.len];exact hk
   simp[hk']
  rw[e]
  cases e2:lay.getD k none with
  |none=>rfl
  |some h=>
   have hm:h∈K.getD k []:=r.home k h (by
    have hk':k<lay.length:=by rw[r.len];exact hk
    simp[hk']at e2;simp[hk',e2])
   show(_ && !((nat (K.getD k [])).any λy=>eqF y (.int h)))=false;rw[zxq,decide_eq_true hm,Bool.not_true,Xg]
def ziz(lay:List (Option Nat))(k h:Nat):(lay.set k (some h)).map onD=(lay.map onD).set k (.int h):=List.map_set
def z4t{key r:Nat}(w:Wb L R K)(hL:L<=1000)(rt:tG R K lay)(hn:μ[n]?=some (.lst (lay.map onD)))(hr:μ[r]?=some (.lst (row.map pD)))(hrl:row.length<=1000)(ok:Td K lay key row)(hkey:lay.getD key none=none)(hroom:lay.count (some (row.getD (row.length-1) (0,0)).2)<R.getD (row.getD (row.length-1) (0,0)).2 0)
 (q:∀(l:Nat)(μ':Mem),tu μ μ'->μ.length<=l->μ'[l]?=some (.lst ((zEf lay row).map onD))->Q (.loc l) μ'):WF zKk [wn R K,.loc n,.int key,.loc r] μ Q:=by
 have hkl:=w.kl;have hlen:=rt.len;refine zsb rfl ?_;show WS zUk [some (wn R K),some (.loc n),some (.int key),some (.loc r),none,none,none] μ _ _ _ _;unfold zUk;refine zr (zhb (zn (zb (zd rfl (zo (ziu (zk hn) ?_))))));refine zr (zah (zif (zd rfl (.inr (.inr ⟨r,_,rfl,zK hr,?_⟩)))));refine zWb (λm J ν=>∃x y:Option D,J=[some (wn R K),some (.loc n),some (.int key),some (.loc r),some (.loc μ.length),x,y]/\tu μ ν/\ν[μ.length]?=some (.lst ((zEf lay (row.take m)).map onD))) ⟨_,_,rfl,.app,zt⟩ (λm J ν ⟨_,_,_,k,_⟩=>z6 hr k) ?_ ?_
 ·rintro m x J ν hx ⟨a,b,rfl,kp,g⟩;obtain⟨p,ep,rfl⟩:=zNs hx;have hm:=ok.mem p (mem_of_getElem? ep);have htk:row.take (m+1)=row.take m++[p]:=by rw[take_succ,ep];rfl
  refine zaj (znd (zfd (znd (zfd (zfi ?_)))));unfold zHm;refine zr (z0g (zQr (zJp (zJ (zn (zb (zd rfl (zb (zd rfl (zb (zd rfl (zb (zd rfl (zo ?_))))))))))))));refine zgu w hlen (kp _ _ hn) (kp _ _ hr) hrl ok ep λμ1 k1=>⟨_,rfl,λ_=>?_,λh=>(by cases h)⟩
  refine zJ (zn (zb (zd rfl (zb (zd rfl (zb (zd rfl (zb (zd rfl (zo ?_))))))))));refine zss hlen ((kp.trans k1) _ _ hn) ((kp.trans k1) _ _ hr) ok ep ⟨_,rfl,λh=>(by cases h),λ_=>zjb ?_⟩;refine zco (zm (zd rfl (w_c (zBb rfl rfl ?_))));have g1:=k1 _ _ g;refine zny (zd rfl (zm (zd rfl (w_c (zBb rfl rfl ⟨_,_,_,rfl,rfl,g1,?_,?_⟩)))))
  ·rw[length_map,z1i];omega
  ·refine⟨_,_,rfl,λi o e=>zD (k1 _ _ (kp i o e)) (Yg (zx e)),?_⟩;rw[zL g1,htk,zKm,ziz];rfl
 ·rintro J ν ⟨a,b,rfl,kp,g⟩;rw[zac,length_map,take_length]at g
  have hpos:0<row.length:=by
   obtain⟨h,q,e⟩:=ok.first
   rw[e];simp
  refine zr (z0g (zBk (zJ (zm (zn (zb (zd rfl (zo (zhe (zk (kp _ _ hr)) (w_c (zjo ⟨_,rfl,λh1=>?_,λh1=>?_⟩)))))))))))
  case refine_2=>
   have:=beq_iff_eq.mp h1;rw[length_map]at this;omega
  have hr2:=zJl rt ok hkey hroom;refine zJ (zm (zn (zb (zd rfl (zb (zd rfl (zo ?_)))))));refine zMk w (zEj _) (by rw[length_map,z1i];exact hlen) g λμ1 k1=>?_;rw[zzg hr2];refine w_c (zgf rfl ⟨_,rfl,λh=>(by cases h),λ_=>zjb (zwb (zd rfl ?_))⟩);exact q _ _ (kp.trans k1) (yk _) (k1 _ _ g)
def zTh(S:List Nat)(k:Nat):List Nat:=S.filter λo=>!decide (o=k)
def zsd(R:List Nat)(K:List (List Nat))(S:List Nat):Option Nat:=S.find? λk=>z1e R K (zTh S k)
def z5j(h:zsd R K S=some k):k∈S:=List.mem_of_find?_eq_some h
def zFp(h:zsd R K S=some k):z1e R K (zTh S k)=true:=List.find?_some (p:=λk=>z1e R K (zTh S k)) h
def zeg(S:List Nat)(k:Nat):(zTh S k).Sublist S:=filter_sublist
def zcm(h:S.Nodup)(k:Nat):S.erase k=zTh S k:=by
 rw[h.erase_eq_filter];unfold zTh;refine filter_congr λx _=>?_
 by_cases e:x=k<;>simp[e]
def zal(h:S.Nodup){k:Nat}(hk:k∈S):(zTh S k).length+1=S.length:=by
 rw[<-zcm h,List.length_erase_of_mem hk];have:=List.length_pos_of_mem hk;omega
def zom(R:List Nat)(K:List (List Nat)):Nat->List Nat->List Nat
 |0,S=>S
 |n+1,S=>match zsd R K S with
  |none=>S
  |some k=>zom R K n (zTh S k)
def zFo(R:List Nat)(K:List (List Nat))(S:List Nat):List Nat:=zom R K S.length S
def zYr(h:zsd R K S=none):zFo R K S=S:=by
 unfold zFo
 cases S with
 |nil=>rfl
 |cons a S=>rw[length_cons,zom,h]
def zys(hd:S.Nodup)(h:zsd R K S=some k):zFo R K S=zFo R K (zTh S k):=by
 have h1:=zal hd (z5j h);unfold zFo
 conv=>lhs;rw[<-h1,zom,h]
def zKo{R:List Nat}{K:List (List Nat)}:∀(n:Nat)(S:List Nat),(zom R K n S).Sublist S
 |0,S=>Xc _
 |n+1,S=>by
  unfold zom
  cases zsd R K S with
  |none=>exact Xc _
  |some k=>exact(zKo n _).trans (zeg S k)
def ztp{R:List Nat}{K:List (List Nat)}:∀(n:Nat)(S:List Nat),S.Nodup->S.length<=n->zsd R K (zom R K n S)=none
 |0,S,_,h=>by
  have:S=[]:=List.length_eq_zero_iff.mp (by omega);subst this;rfl
 |n+1,S,hd,h=>by
  unfold zom
  cases e:zsd R K S with
  |none=>exact e
  |some k=>
   have:=zal hd (z5j e);exact ztp n _ (hd.sublist (zeg S k)) (by omega)
def zIl{R:List Nat}{K:List (List Nat)}:∀(n:Nat)(S:List Nat),z1e R K S=true->z1e R K (zom R K n S)=true
 |0,S,h=>h
 |n+1,S,h=>by
  unfold zom
  cases e:zsd R K S with
  |none=>exact h
  |some k=>exact zIl n _ (zFp e)
def z9m{p q:α->Bool}(h:∀x,p x=true->q x=true)(l:List α):(l.filter p).Sublist (l.filter q):=by
 have e:l.filter p=(l.filter q).filter p:=by
  rw[List.filter_filter];refine filter_congr λx _=>?_
  cases hp:p x with
  |false=>rfl
  |true=>rw[h x hp];rfl
 rw[e];exact filter_sublist
def z6l(w:Wb L R K)(hn:μ[n]?=some (.lst (nat S)))(hS:∀k∈S,k<K.length)(hl:S.length<=1000)
 (q:∀μ',tu μ μ'->Q (onD (zsd R K S)) μ'):WF zWe [wn R K,.loc n] μ Q:=by
 refine zsb rfl ?_;show WS zLg [some (wn R K),some (.loc n),none] μ _ _ _ _;unfold zLg;refine zr (zah (z2c (zd rfl (.inr (.inr ⟨n,_,rfl,hn,?_⟩)))));refine zWb (λm J μ'=>∃a:Option D,J=[some (wn R K),some (.loc n),a]/\tu μ μ'/\∀k∈S.take m,z1e R K (zTh S k)=false) ⟨_,rfl,.refl,by simp⟩ (λm J μ' ⟨a,_,k,_⟩=>z6 hn k) ?_ ?_
 ·rintro m x J μ1 hx ⟨a,rfl,k1,hb⟩;rw[yh]at hx
  cases hy:S[m]? with
  |none=>rw[hy]at hx;cases hx
  |some kk=>
   rw[hy]at hx;cases hx;have ht:S.take (m+1)=S.take m++[kk]:=by rw[take_succ,hy];rfl
   refine zfd ?_;unfold z8i;refine z0g (zJ (zn (zb (zd rfl (zb (zAj ?_))))));refine z2c (zd rfl (.inr (.inr ⟨n,_,rfl,k1 _ _ hn,zrb (by rw[length_map];omega),?_⟩)));refine zNd (λ(k:Nat)=>D.int k) S (λ(k:Nat)=>D.int k) (λo=>!decide (o=kk)) (λμ' k'=>z6 (k1 _ _ hn) k') (λj hj μ' kp=>?_) (λμ2 k2=>?_)
   ·repeat walk_at "w"
    refine⟨?_,kp,λ_=>?_⟩
    ·congr 1
     by_cases e:j=kk
     ·subst e;simp
     ·simp[e];omega
    ·unfold zHi;exact zd rfl ⟨rfl,kp⟩
   ·refine zo ?_;have hls:(zTh S kk).length<=S.length:=(zeg S kk).length_le;refine zuh w (S:=zTh S kk) zt (λk hk=>hS k ((zeg S kk).subset hk)) (by omega) λμ3 k3=>⟨_,rfl,λh1=>?_,λh1=>?_⟩
    ·refine zwb (zd rfl ?_);have:=q μ3 (k1.trans (k2.to.trans k3))
     have e:zsd R K S=some kk:=by
      unfold zsd;rw[List.find?_eq_some_iff_append];refine⟨h1,S.take m,S.drop (m+1),?_,λa ha=>by rw[hb a ha];rfl⟩;have hlt:=(List.getElem?_eq_some_iff.mp hy).1
      have e1:S.drop m=kk::S.drop (m+1):=by
       rw[drop_eq_getElem_cons hlt,(List.getElem?_eq_some_iff.mp hy).2]
      rw[<-e1,take_append_drop]
     rw[e]at this;exact this
    ·refine zjb ⟨_,rfl,k1.trans (k2.to.trans k3),λk hk=>?_⟩;rw[ht]at hk;rcases List.mem_append.mp hk with hk|hk
     ·exact hb k hk
     ·rw[List.mem_singleton.mp hk];exact h1
 ·rintro J μ1 ⟨a,rfl,k1,hb⟩;rw[length_map,take_length]at hb;refine zwb (w_c ?_);have:=q μ1 k1
  have e:zsd R K S=none:=by
   unfold zsd;rw[List.find?_eq_none];intro k hk;rw[hb k hk];exact yv
  rw[e]at this;exact this
def zJs(w:Wb L R K)(hn:μ[n]?=some (.lst (nat S)))(hS:∀k∈S,k<K.length)(hl:S.length<=1000)(hd:S.Nodup)
 (q:∀(l:Nat)(μ':Mem),tu μ μ'->μ.length<=l->μ'[l]?=some (.lst (nat (zFo R K S)))->Q (.loc l) μ'):WF zAi [wn R K,.loc n] μ Q:=by
 refine zsb rfl ?_;show WS z9i [some (wn R K),some (.loc n),none,none] μ _ _ _ _;unfold z9i;refine zr (zhb (zn (zb (zd rfl (zo (ziu (zk hn) ?_))))));refine zr (zhb (zn (zb (zd rfl (zb (zd rfl (zo ?_)))))));refine z6l w zt hS hl λμ1 k1=>?_;refine zr ?_;refine z0k (λm J μ'=>∃T:List Nat,m=T.length/\J=[some (wn R K),some (.loc n),some (.loc μ.length),some (onD (zsd R K T))]/\tu μ μ'/\μ'[μ.length]?=some (.lst (nat T))/\T.Sublist S/\zFo R K S=zFo R K T) (m:=S.length) (by omega) ⟨S,rfl,rfl,tu.app.trans k1,k1 _ _ zt,Xc _,rfl⟩ ?_;rintro m J μ' ⟨T,rfl,rfl,k2,g2,hT,ht⟩;have hTd:=hd.sublist hT;have hTl:=hT.length_le
 repeat walk_at "w"
 refine zgf (zLh _) ⟨_,rfl,λh1=>?_,λh1=>?_⟩
 ·cases e:zsd R K T with
  |none=>rw[e]at h1;cases h1
  |some k=>
   have hk:=z5j e;have hle:=zal hTd hk;unfold zZl;refine zr (zNi (zWh (zd rfl ⟨_,_,rfl,g2,?_⟩)));refine zb (zd rfl (zo ?_));refine zSt g2 hk ?_;rw[zcm hTd];refine zhb (zn (zb (zd rfl (zb (zd rfl (zo ?_))))));have g3:=zL (o':=tw.lst (nat (zTh T k))) g2;refine z6l w g3 (λx hx=>hS x (hT.subset ((zeg T k).subset hx))) (by omega) λμ3 k3=>?_;exact⟨(zTh T k).length,by omega,zTh T k,rfl,rfl,λi o e'=>k3 _ _ (zD (k2 _ _ e') (Yg (zx e'))),k3 _ _ g3,(zeg T k).trans hT,by rw[ht,zys hTd e]⟩
 ·refine zwb (zd rfl ?_)
  have e:zsd R K T=none:=by
   cases e:zsd R K T with
   |none=>rfl
   |some k=>rw[e]at h1;cases h1
  refine q _ _ k2 (yk _) ?_;rw[ht,zYr e];exact g2
def zbw{key:Nat}(ok:Td K lay key row){k:Nat}(h:k∈row.map (·.1)):k=key\/(lay.getD k none).isSome=true:=by
 obtain⟨p,hp,rfl⟩:=List.mem_map.mp h;obtain⟨i,hi,rfl⟩:=List.mem_iff_getElem.mp hp
 cases i with
 |zero=>
  obtain⟨h,r,e⟩:=ok.first
  subst e;exact .inl rfl
 |succ j=>
  have:=ok.link j row[j] row[j+1] (by simp[show j<row.length by omega]) (by simp[hi]);exact .inr (by rw[this];rfl)
def zbm{key:Nat}(hlen:lay.length=K.length)(ok:Td K lay key row){k:Nat}(h:k=key\/(lay.getD k none).isSome=true):((zEf lay row).getD k none).isSome=true:=by
 by_cases hm:k∈row.map (·.1)
 ·obtain⟨p,hp,rfl⟩:=List.mem_map.mp hm;rw[zqn ok.nd hp (by rw[hlen];exact(ok.mem p hp).1)];rfl
 ·rcases h with rfl|h
  ·obtain⟨h,r,e⟩:=ok.first
   subst e;exact absurd (by simp) hm
  ·rw[zhg hm];exact h
def z2l{key:Nat}(ok:Td K lay key row){k:Nat}(h:lay.getD k none=none)(hk:k≠key):(zEf lay row).getD k none=none:=by
 rw[zhg λhm=>?_]
 ·exact h
 ·rcases zbw ok hm with e|e
  ·exact hk e
  ·rw[h]at e;cases e
def zgo{s:yF}(h:xQ s=true):toP μ 8 (.str s)=some (.str s):=by
 show(bif xQ s then some (PyData.str s) else none)=_;rw[h];rfl
def z5g{a b:yF}(q:Q (.bl (Yu (.str a) (.str b))) μ)(ha:xQ a=true:=by decide +kernel)(hb:xQ b=true:=by decide +kernel):W2 gEq (.str a) (.str b) μ Q:=z4z (zgo ha) (zgo hb) q
def zrl{a b:yF}(q:Q (.bl (!PyData.eqv (.str a) (.str b))) μ)(ha:xQ a=true:=by decide +kernel)(hb:xQ b=true:=by decide +kernel):W2 gNe (.str a) (.str b) μ Q:=zgA (zgo ha) (zgo hb) q
structure Done(R:List Nat)(K:List (List Nat))(lay0 lay:List (Option Nat))(ks C:List Nat):Prop where
 right:tG R K lay
 Tr:Ta R K lay C
 old:∀k,(lay0.getD k none).isSome=true->(lay.getD k none).isSome=true
 non:∀k,k∉ks->lay0.getD k none=none->lay.getD k none=none
 all:∀k∈ks,(lay.getD k none).isSome=true\/(k∈C/\lay.getD k none=none)
 out:C≠[]->∃k∈C,k∈ks/\lay.getD k none=none
def Done.put{key:Nat}(d:Done R K lay0 lay ks C)(hk:key∉ks)(hkey:lay.getD key none=none)(ok:Td K lay key row)
 (hroom:lay.count (some (row.getD (row.length-1) (0,0)).2)<R.getD (row.getD (row.length-1) (0,0)).2 0):Done R K lay0 (zEf lay row) (ks++[key]) C:=by
 have hlen:=d.right.len;refine⟨zJl d.right ok hkey hroom,d.Tr.push d.right ok hkey hroom,λk h=>zbm hlen ok (.inr (d.old k h)),λk h h0=>?_,λk h=>?_,λhC=>?_⟩
 ·rw[mem_append,not_or]at h;exact z2l ok (d.non k h.1 h0) (by simpa using h.2)
 ·rcases List.mem_append.mp h with h'|h
  ·rcases d.all k h' with h1|⟨h1,h2⟩
   ·exact .inl (zbm hlen ok (.inr h1))
   ·exact .inr ⟨h1,z2l ok h2 (by rintro rfl;exact hk h')⟩
  ·rw[List.mem_singleton.mp h];exact .inl (zbm hlen ok (.inl rfl))
 ·obtain⟨k,h1,h2,h3⟩:=d.out hC;exact⟨k,h1,mem_append_left _ h2,z2l ok h3 (by rintro rfl;exact hk h2)⟩
def Done.full{key:Nat}(d:Done R K lay0 lay ks C)(hkey:lay.getD key none=none)(hS:key∈S)(s:Ta R K lay S):Done R K lay0 lay (ks++[key]) (C++S):=by
 refine⟨d.right,d.Tr.app s,d.old,λk h h0=>?_,λk h=>?_,λhC=>⟨key,mem_append_right _ hS,by simp,hkey⟩⟩
 ·rw[mem_append,not_or]at h;exact d.non k h.1 h0
 ·rcases List.mem_append.mp h with h|h
  ·rcases d.all k h with h1|⟨h1,h2⟩
   ·exact .inl h1
   ·exact .inr ⟨mem_append_left _ h1,h2⟩
  ·rw[List.mem_singleton.mp h];exact .inr ⟨mem_append_right _ hS,hkey⟩
def Tg(m:Nat)(C:List Nat):List Nat:=(yd m).filter λk=>decide (k∈C)
def zmf(h:∀k∈C,k<m)(k:Nat):k∈Tg m C↔k∈C:=by
 unfold Tg;rw[mem_filter,mem_range,decide_eq_true_iff];exact⟨λq=>q.2,λq=>⟨h k q,q⟩⟩
def zqy{G:FE}{J:M.Loc}(hC:∀k∈C,k<m)(hm:m<64)(hl:C.length<=4000)(h:WE G J μ λx μ1=>x=.loc n/\μ1[n]?=some (.lst (nat C))/\Q (.loc μ1.length) (μ1++[.lst (nat (Tg m C))])):WE (zNq G) J μ Q:=by
 have hmem:∀i:Int,i∈(Tg m C).map (λ(k:Nat)=>(k:Int))↔i∈C.map (λ(k:Nat)=>(k:Int)):=λi=>by
  simp only[mem_map];constructor
  ·rintro⟨k,hk,rfl⟩;exact⟨k,(zmf hC k).mp hk,rfl⟩
  ·rintro⟨k,hk,rfl⟩;exact⟨k,(zmf hC k).mpr hk,rfl⟩
 have hpw:((Tg m C).map (λ(k:Nat)=>(k:Int))).Pairwise (· < ·):=by
  rw[pairwise_map];exact(List.pairwise_lt_range.filter _).imp λh=>by omega
 have hp:=zHk hmem hpw;have hsort:=zWn hmem hpw;have hsl:(Tg m C).length<=m:=by unfold Tg;simpa using(filter_sublist (l:=yd m) (p:=λk=>decide (k∈C))).length_le
 refine zrt (h.mono ?_);rintro x μ1 ⟨rfl,g,q⟩;refine⟨_,C.map (λ(k:Nat)=>(k:Int)),rfl,by rw[g,map_map];rfl,by rw[length_map];omega,by rw[hp.length_eq,length_map];omega,?_⟩;rw[hsort,map_map];exact q
def z1l(w:Wb L R K)(hL:L<=60)(rt:tG R K lay0)(hn:μ[n]?=some (.lst (lay0.map onD)))(hm:μ[m]?=some (.lst (nat ks)))(hks:∀k∈ks,k<K.length)(hnd:ks.Nodup)(hnon:∀k∈ks,lay0.getD k none=none)
 (q:∀(lay:List (Option Nat)) (C:List Nat) (l l2:Nat) (μ':Mem),Done R K lay0 lay ks C->(∀C0,Ta R K lay0 C0->Ta R K lay C0)->tu μ μ'->(l=n/\lay=lay0\/μ.length<=l)->μ.length<=l2->l≠l2->μ'[l]?=some (.lst (lay.map onD))->μ'[l2]?=some (.lst (nat (Tg K.length C)))->Q (.tup [.loc l,.loc l2]) μ'):WF zMd [wn R K,.loc n,.loc m] μ Q:=by
 have hkl:=w.kl
 have hkn:ks.length<=K.length:=by
  have:=zxe hnd (m:=yd K.length) λx hx=>by simpa using hks x hx
  simpa using this
 refine zsb rfl ?_;show WS zCg [some (wn R K),some (.loc n),some (.loc m),none,none,none] μ _ _ _ _;unfold zCg;refine zr (zhb (z5i (zo (zr (zah (z2c (zd rfl (.inr (.inr ⟨m,_,rfl,zK hm,?_⟩)))))))));have hnl:=zx hn
 refine zWb (λi J ν=>∃(lay:List (Option Nat)) (C:List Nat) (l:Nat) (x y:Option D),J=[some (wn R K),some (.loc l),some (.loc m),some (.loc μ.length),x,y]/\Done R K lay0 lay (ks.take i) C/\(∀C0,Ta R K lay0 C0->Ta R K lay C0)/\C.length<=i*K.length/\tu μ ν/\(l=n/\lay=lay0\/μ.length<l)/\ν[μ.length]?=some (.lst (nat C))/\ν[l]?=some (.lst (lay.map onD)))
  ⟨lay0,[],n,_,_,rfl,⟨rt,.nil,λ_ h=>h,λ_ _ h=>h,by simp,λh=>absurd rfl h⟩,λ_ h=>h,by simp,.app,.inl ⟨rfl,rfl⟩,zt,zK hn⟩ (λi J ν ⟨_,_,_,_,_,_,_,_,_,k,_⟩=>z6 hm k) ?_ ?_
 ·rintro i z J ν hz ⟨lay,C,l,x,y,rfl,d,hsh,hCl,kp,hl,gC,gl⟩;rw[yh]at hz
  cases ek:ks[i]? with
  |none=>rw[ek]at hz;cases hz
  |some key=>
   rw[ek]at hz;cases hz;have hkm:=mem_of_getElem? ek;have hil:=(List.getElem?_eq_some_iff.mp ek).1;have htk:ks.take (i+1)=ks.take i++[key]:=by rw[take_succ,ek];rfl
   have hkt:key∉ks.take i:=by
    intro hmem;have nd:=hnd;rw[<-take_append_drop i ks,nodup_append]at nd;refine nd.2.2 _ hmem _ ?_ rfl;rw[drop_eq_getElem_cons hil,(List.getElem?_eq_some_iff.mp ek).2];exact mem_cons_self
   have hkey:=d.non key hkt (hnon key hkm);have hCb:i*K.length<=60*60:=Nat.mul_le_mul (by omega) (by omega);refine zfd ?_;unfold zZi;refine zr (zhb (zn (zb (zd rfl (zb (zd rfl (zb (zd rfl (zo ?_)))))))));refine zGk w d.right.len (by omega) gl (hks key hkm) hkey (λrow r μ1 ok hroom _ hrl k1 hr gr=>?_) (λS r μ1 hS hkS s _ k1 hr gr=>?_)
   ·refine z0g (zJ (zm (zm (zd rfl (w_c (zBb rfl rfl (w_c (z5g ⟨_,rfl,λ_=>?_,λh=>absurd h (by decide +kernel)⟩))))))));refine zhb (zn (zb (zd rfl (zb (zd rfl (zb (zd rfl (zb (zm (zd rfl (w_c (zBb rfl rfl (zo ?_)))))))))))));refine z4t w (by omega) d.right (k1 _ _ gl) gr (by omega) ok hkey hroom λl' μ2 k2 hl' g2=>?_;refine⟨zEf lay row,C,l',_,_,rfl,by rw[htk];exact d.put hkt hkey ok hroom,λC0 h0=>(hsh C0 h0).push d.right ok hkey hroom,by rw[Nat.succ_mul];omega,kp.trans (k1.trans k2),.inr ?_,(k1.trans k2) _ _ gC,g2⟩;have:=(kp.trans k1).len;have:=k1.len;have:=zx gC;omega
   ·refine z0g (zJ (zm (zm (zd rfl (w_c (zBb rfl rfl (w_c (z5g ⟨_,rfl,λh=>?_,λ_=>?_⟩))))))))
    ·exact absurd h (by decide +kernel)
    have hSl:S.length<=K.length:=by simpa using hS.length_le
    refine zNi (zWh (zd rfl ⟨_,_,rfl,k1 _ _ gC,?_⟩));refine zb (zm (zd rfl (w_c (zBb rfl rfl (zo ?_)))));refine zCw (k1 _ _ gC) gr (by simp only[length_map];omega) ?_;have hlt:=zx gC;refine⟨lay,C++S,l,_,_,rfl,by rw[htk];exact d.full hkey hkS s,hsh,by rw[Nat.succ_mul,length_append];omega,λa o e=>zD (k1 _ _ (kp a o e)) (Yg (zx e)),hl,?_,zD (k1 _ _ gl) (by rcases hl with ⟨h,_⟩|h<;>omega)⟩;rw[zL (k1 _ _ gC),zld]
 ·rintro J ν ⟨lay,C,l,x,y,rfl,d,hsh,hCl,kp,hl,gC,gl⟩;rw[length_map,take_length]at d;rw[length_map]at hCl;have hCb:ks.length*K.length<=60*60:=Nat.mul_le_mul (by omega) (by omega);refine zwb (z7d (zb (zd rfl (zb ?_))));refine zqy (n:=μ.length) (m:=K.length) d.Tr.keys (by omega) (by omega) (zd rfl ⟨rfl,gC,zo ?_⟩);have:=zx gl;exact q lay C l _ _ d hsh kp.to (by rcases hl with h|h;exact .inl h;exact .inr (by omega)) kp.len (by omega) (zK gl) zt
def ztk(w:Wb L R K)(hL:L<=60)
 (q:∀(lay:List (Option Nat)) (C:List Nat) (l l2:Nat) (μ':Mem),Done R K (yo K.length none) lay (yd K.length) C->tu μ μ'->μ.length<=l->μ.length<=l2->l≠l2->μ'[l]?=some (.lst (lay.map onD))->μ'[l2]?=some (.lst (nat (Tg K.length C)))->Q (.tup [.loc l,.loc l2]) μ'):WF zqc [wn R K] μ Q:=by
 have hkl:=w.kl;refine zsb rfl ?_;show WS zie [some (wn R K)] μ _ _ _ _;unfold zie;refine zwb (zn (zb (zd rfl (zb (zm (z5i (zb (w_c (zo (zn (zb (zm (zd rfl (w_c (zIc (zo (zhe rfl ?_)))))))))))))))));refine z2u zt (by rw[length_map];omega) (by omega) (by simp) ?_;refine zb (z9q (zn (zb (zm (zd rfl (w_c (zIc (zo (zhe rfl ⟨_,rfl,?_,zo ?_⟩)))))))))
 ·rw[length_map];omega
 have e1:(yo (((K.map tn).length:Nat):Int).toNat [D.non]).flatten=(yo K.length (none:Option Nat)).map onD:=by
  rw[yQ,length_map,List.map_replicate,xv]
 rw[e1,yQ,length_map]
 have hrep:∀k,(yo K.length (none:Option Nat)).getD k none=none:=λk=>by
  rw[getD_eq_getElem?_getD,Yi]
  split<;>rfl
 refine z1l (ks:=yd K.length) w hL ⟨by simp,λk h e=>?_,λh=>?_⟩ (zK zt) zt (by simp) nodup_range (λk _=>hrep k) λlay C l l2 μ' d _ k hl hl2 hne g g2=>?_
 ·rw[Yi]at e
  split at e
  ·cases e
  ·cases e
 ·rw[List.count_replicate];simp
 ·have k':=(tu.to (tu.to (tu.app (μ:=μ) (g:=[.lst [.non]])))).trans k;refine q lay C l l2 μ' d k' ?_ ?_ hne g g2
  ·rcases hl with ⟨rfl,_⟩|hl
   ·simp
   ·simp at hl;omega
  ·simp at hl2;omega
def zuj(w:Wb L R K)(hL:L<=60)
 (q1:∀(lay:List (Option Nat)) (l:Nat) (μ':Mem),tG R K lay->(∀k<K.length,(lay.getD k none).isSome=true)->tu μ μ'->μ.length<=l->μ'[l]?=some (.lst (lay.map onD))->Q (.tup [.str "fits",.loc l]) μ')
 (q2:∀(T:List Nat)(l:Nat)(μ':Mem),T.Sublist (yd K.length)->z1e R K T=true->zsd R K T=none->tu μ μ'->μ.length<=l->μ'[l]?=some (.lst (nat T))->Q (.tup [.str "crowd",.loc l]) μ'):WF zNg [wn R K] μ Q:=by
 have hkl:=w.kl;refine zsb rfl ?_;show WS zOk [some (wn R K),none] μ _ _ _ _;unfold zOk;refine zr (zhb (zn (zb (zd rfl (zo ?_)))));refine ztk w hL λlay C l l2 μ1 d k1 hl hl2 hne g g2=>?_;refine zr (z0g (zJ (zm (zm (zd rfl (w_c (zBb rfl rfl (z5i (zo ?_)))))))));refine zwA (α:=Nat) (Tg K.length C) [] (zK g2) zt ⟨_,rfl,λh1=>?_,λh1=>zjb ?_⟩
 ·have h1:=of_decide_eq_true h1;refine zwb (z7d (zb (w_c (zb (zm (zd rfl (w_c (zBb rfl rfl (zo ?_)))))))));refine q1 lay l _ d.right (λk hk=>?_) k1.to hl (zK g);rcases d.all k (by simpa using hk) with h|⟨h,_⟩
  ·exact h
  ·have:=(zmf d.Tr.keys k).mpr h;rw[h1]at this;cases this
 ·have h1:=of_decide_eq_false h1
  have hC:C≠[]:=by
   rintro rfl;exact h1 (by unfold Tg;simp)
  obtain⟨k0,hk0,_,hn0⟩:=d.out hC;have hsub:(Tg K.length C).Sublist (yd K.length):=filter_sublist;have hcr:=zOs w (d.Tr.congr (zmf d.Tr.keys)) d.right.len ((zmf d.Tr.keys k0).mpr hk0) hn0;have hsl:(Tg K.length C).length<=K.length:=by simpa using hsub.length_le
  have hnd:=List.nodup_range.sublist hsub;refine zwb (z7d (zb (w_c (zb (zn (zb (zd rfl (zb (zm (zd rfl (w_c (zBb rfl rfl (zo ?_)))))))))))));refine zJs w (zK g2) (λk hk=>by simpa using hsub.subset hk) (by omega) hnd λl3 μ3 k3 hl3 g3=>zo ?_;exact q2 _ l3 μ3 ((zKo _ _).trans hsub) (zIl _ _ hcr) (ztp _ _ hnd (yk _)) (k1.to.trans k3) (by have:=k1.len;simp at hl3;omega) g3
def zRj(R:List Nat)(K:List (List Nat)):Prop:=∃lay,tG R K lay/\∀k<K.length,(lay.getD k none).isSome=true
def zAn(w:Wb L R K)(hT:T.Sublist (yd K.length))(hc:z1e R K T=true):¬zRj R K:=by
 rintro⟨lay,r,h⟩;have hTk:∀k∈T,k<K.length:=λk hk=>by simpa using hT.subset hk
 have:=zGu w r (List.nodup_range.sublist hT) hTk λk hk=>h k (hTk k hk);rw[hc]at this;cases this
def zpx{kk:Nat}{J:M.Loc}{c:FT}{e:FE}(hc:c=zX (zy gNe (zg 0) (zg 1)))(he:e=zg 0)(hi:J[i]?=some (some (.int kk)))(hn:μ[n]?=some (.lst (nat S)))
 (q:∀μ',tu μ μ'->Q (.loc μ'.length) (μ'++[.lst (nat (zTh S kk))])):WL (gN 0) c e (zqm n (nat S)) (δC 1 [i] J) (nat S) [] μ Q:=by
 subst hc he;refine zNd (λ(k:Nat)=>D.int k) S (λ(k:Nat)=>D.int k) (λo=>!decide (o=kk)) (λμ' k'=>z6 hn k') (λj hj μ' kp=>?_) q;refine zfd (zJ (zm (zd rfl (zd (d:=.int kk) ?_ ?_))))
 ·simp[δC,hi]
 ·refine ztq (α:=Nat) j kk ⟨_,rfl,rfl,kp,λ_=>zd rfl ⟨rfl,kp⟩⟩
def zqg(K:List (List Nat))(key nest:Nat):List (List Nat):=K.set key [nest,nest]
def zZk{key:Nat}(h:key<K.length):(zqg K key nest).getD key []=[nest,nest]:=by
 unfold zqg;rw[getD_eq_getElem?_getD,Yn h];rfl
def z9n{key:Nat}(h:k≠key):(zqg K key nest).getD k []=K.getD k []:=by
 unfold zqg;rw[getD_eq_getElem?_getD,getD_eq_getElem?_getD,yW (Yk h)]
def zsu{key:Nat}(w:Wb L R K)(hn:nest<R.length):Wb L R (zqg K key nest) :=
 ⟨w.rl,by unfold zqg;rw[length_set];exact w.kl,λk hk=>by
  rcases List.mem_or_eq_of_mem_set hk with hk|rfl
  ·exact w.kn k hk
  ·refine⟨by simp,λh hh=>?_⟩;have:h=nest:=by simpa using hh
   omega⟩
def zat{d:D}(h:i<K.length):M.cutD (K.map tn) none (some (i:Int))++[d]++M.cutD (K.map tn) (some ((i:Int)+1)) none=(K.map tn).set i d:=by
 have e1:=z5p (xs:=K.map tn) (i:=i);have e2:=ztw (xs:=K.map tn) (i:=i+1);have e3:(((i+1:Nat)):Int)=(i:Int)+1:=by omega
 rw[e3]at e2;rw[e1,e2,List.set_eq_take_append_cons_drop,if_pos (by simpa using h)];simp
def z6s{key:Nat}(w:Wb L R K)(hL:L<=1000)(hk:key<K.length)(q:Q (wn R (zqg K key nest)) μ):WF zFi [wn R K,.int key,.int nest] μ Q:=by
 have hkl:=w.kl;refine zsb rfl ?_;show WS zbj [some (wn R K),some (.int key),some (.int nest)] μ _ _ _ _;unfold zbj;refine zwb (z7d (zb (zm (zd rfl (w_c (zae (zb (zm (zm (z0z (zm (zd rfl (w_c (zIc (zyv (zVq (zd rfl ⟨_,rfl,_,rfl,?_⟩)))))))))))))))));refine z7d (zb (z7d (zb (zd rfl (zb (zd rfl (zo (zo ?_))))))))
 have hcl:∀(lo hi:Option Int),(M.cutD (K.map tn) lo hi).length<=K.length:=λlo hi=>by
  unfold M.cutD;rw[length_take,length_drop,length_map];omega
 have c1:=hcl none (some (key:Int));have c2:=hcl (some ((key:Int)+1)) none;refine zZu (by simp;omega) (z0z (zm (zd rfl (w_c (zIc (zVq (zm (zd rfl (w_c (zku ⟨_,rfl,zyv ⟨_,rfl,?_⟩⟩))))))))));refine zZu (by simp;omega) (zo ?_);have e:=zat (d:=tn [nest,nest]) hk
 have e2:(K.map tn).set key (tn [nest,nest])=(zqg K key nest).map tn:=by
  unfold zqg;rw[List.map_set]
 rw[e2]at e;rw[show M.cutD (K.map tn) none (some (key:Int))++[D.tup [D.int (nest:Nat),D.int (nest:Nat)]]++M.cutD (K.map tn) (some ((key:Int)+1)) none=(zqg K key nest).map tn from e];exact q
structure Sc(R:List Nat)(K:List (List Nat))(X:List Nat):Prop where
 len:X.length=K.length
 home:∀(i h:Nat)(k:List Nat),X[i]?=some h->K[i]?=some k->h∈k
 room:∀h,X.count h<=R.getD h 0
def zWm(X:List Nat)(h:Nat):(X.map some).count (some h)=X.count h:=by
 induction X with
 |nil=>rfl
 |cons x X ih=>
  rw[map_cons,count_cons,count_cons,ih]
  congr 1
def z4q:∀{lay:List (Option Nat)},(∀k<lay.length,(lay.getD k none).isSome=true)->∃X:List Nat,lay=X.map some
 |[],_=>⟨[],rfl⟩
 |x::lay,h=>by
  obtain⟨X,rfl⟩:=z4q (lay:=lay) λk hk=>by simpa using h (k+1) (by simp;omega)
  have h0:=h 0 (by simp)
  cases x with
  |none=>cases h0
  |some n=>exact⟨n::X,rfl⟩
def zvv(r:tG R K lay)(hall:∀k<K.length,(lay.getD k none).isSome=true):∃X:List Nat,lay.map onD=nat X/\Sc R K X:=by
 have hl:=r.len;obtain⟨X,rfl⟩:=z4q (lay:=lay) λk h=>hall k (by omega);refine⟨X,by rw[map_map];rfl,⟨by rw[length_map]at hl;exact hl,λi h k e1 e2=>?_,λh=>?_⟩⟩
 ·have h1:=r.home i h (by rw[yh,e1];rfl);rw[getD_eq_getElem?_getD,e2]at h1;exact h1
 ·have:=r.room h;rw[zWm]at this;exact this
def Sc.right{X:List Nat}(a:Sc R K X):tG R K (X.map some):=by
 have hl:=a.len;refine⟨by rw[length_map];exact hl,λk h e=>?_,λh=>by rw[zWm];exact a.room h⟩;rw[yh]at e
 cases ex:X[k]? with
 |none=>rw[ex]at e;cases e
 |some h'=>
  rw[ex]at e;cases e;have hk:=(List.getElem?_eq_some_iff.mp ex).1;have ek:K[k]?=some (K.getD k []):=by rw[getD_eq_getElem?_getD,yc (by omega)];rfl
  exact a.home k h _ ex ek
def zbq{X:List Nat}(h:k<X.length):((X.map some).getD k none).isSome=true:=by
 rw[getD_eq_getElem?_getD,yh,yc h];rfl
def Sc.fits{X:List Nat}(a:Sc R K X):zRj R K:=⟨_,a.right,λk hk=>zbq (by have:=a.len;omega)⟩
def zaf(K:List (List Nat))(key nest:Nat):(zqg K key nest).length=K.length:=by unfold zqg;rw[length_set]
def zVu{key:Nat}(hk:key<K.length)(h0:R.getD nest 0=0):¬zRj R (zqg K key nest):=by
 rintro⟨lay,r,a⟩;have hlen:=zaf K key nest;have hl:=r.len;have h1:=a key (by omega);have e:lay[key]?=some (lay.getD key none):=by rw[getD_eq_getElem?_getD,yc (by omega)];rfl
 cases hc:lay.getD key none with
 |none=>rw[hc]at h1;cases h1
 |some h=>
  rw[hc]at e;have h2:=r.home key h e;rw[zZk hk]at h2;have:h=nest:=by simpa using h2
  subst this;have h3:=r.room h;have h4:0<lay.count (some h):=List.count_pos_iff.mpr (mem_of_getElem? e);omega
def zAs{key:Nat}(w:Wb L R K)(hL:L<=60)(hk:key<K.length)(hn:nest∈K.getD key [])
 (q1:∀(l:Nat)(μ':Mem),zRj R (zqg K key nest)->tu μ μ'->Q (.tup [.str "lies",.loc l]) μ')
 (q2:∀(l:Nat)(μ':Mem),¬zRj R (zqg K key nest)->tu μ μ'->Q (.tup [.str "never",.loc l]) μ'):WF z5f [wn R K,.int key,.int nest] μ Q:=by
 have hnR:nest<R.length:=(w.key hk).2 nest hn;have hkl:=w.kl;refine zsb rfl ?_;show WS zUi [some (wn R K),some (.int key),some (.int nest),none] μ _ _ _ _;unfold zUi;refine zr (z0g (zJ (zm (zm (zm (zd rfl (w_c (zae (zd rfl (z9w hnR (w_c (zjo ⟨_,rfl,λh0=>?_,λh0=>zjb ?_⟩))))))))))))
 ·have h0:R.getD nest 0=0:=by
   have:=of_decide_eq_true h0;omega
  refine zwb (z7d (zb (w_c (zb (z5i (zo (zo ?_)))))));exact q2 μ.length _ (zVu hk h0) .app
 refine zr (zhb (zn (zb (zn (zb (zd rfl (zb (zd rfl (zb (zd rfl (zo ?_)))))))))));refine z6s w (by omega) hk (zo ?_);refine zuj (zsu w hnR) hL (λlay l μ1 r hall k1 hl g=>?_) (λT l μ1 hT hc hs k1 hl g=>?_)
 ·refine zr (z0g (zJ (zm (zm (zd rfl (w_c (zBb rfl rfl (w_c (z5g ⟨_,rfl,λ_=>?_,λh=>absurd h (by decide +kernel)⟩)))))))));refine zwb (z7d (zb (w_c (zb (zm (zd rfl (w_c (zBb rfl rfl (zo ?_)))))))));exact q1 l μ1 ⟨lay,r,hall⟩ k1
 ·have nf:=zAn (zsu w hnR) hT hc;rw[zaf]at hT;have hTl:=hT.length_le;rw[length_range]at hTl;refine zr (z0g (zJ (zm (zm (zd rfl (w_c (zBb rfl rfl (w_c (z5g ⟨_,rfl,λh=>absurd h (by decide +kernel),λ_=>zjb ?_⟩)))))))));refine zwb (z7d (zb (w_c (zb (zAj (z2c (zm (zd rfl (w_c (zBb rfl rfl (.inr (.inr ⟨l,_,rfl,g,zrb (by rw[length_map];omega),?_⟩))))))))))));exact zpx (S:=T) (i:=1) rfl rfl rfl g λμ2 k2=>zo (q2 _ _ nf (k1.trans k2.to))
def zhx(h:μ[n]?=some (.lst (nat S)))(hp:T.Perm S)(hT:T.Pairwise (· < ·))(hl:S.length<64)(q:Q (.loc μ.length) (μ++[.lst (nat T)])):WF zoo [.loc n] μ Q:=by
 have e1:nat S=(S.map λ(k:Nat)=>(k:Int)).map D.int:=by rw[map_map];rfl
 have e2:nat T=(T.map λ(k:Nat)=>(k:Int)).map D.int:=by rw[map_map];rfl
 have e3:zsm (S.map λ(k:Nat)=>(k:Int))=T.map λ(k:Nat)=>(k:Int):=by
  refine zKd ((mergeSort_perm _ _).trans (hp.symm.map _)) (zZj _) ?_;rw[pairwise_map];exact hT.imp λh=>by omega
 refine⟨_,_,?_,q⟩;simp only[zoo,h];rw[e1,zhj,yr,length_map,decide_eq_true hl,cond_true,e3,<-e2]
def zGv{xs:List α}{x y:α}:y∈zJr xs k x↔y=x\/y∈xs:=by
 unfold zJr;rw[mem_append,mem_cons];constructor
 ·rintro(h|h|h)
  ·exact .inr (Xk h)
  ·exact .inl h
  ·exact .inr (List.mem_of_mem_drop h)
 ·rintro(h|h)
  ·exact .inr (.inl h)
  ·rw[<-take_append_drop k xs]at h;rcases List.mem_append.mp h with h|h
   ·exact .inl h
   ·exact .inr (.inr h)
def zCx{xs:List α}{x:α}(nd:xs.Nodup)(h:x∉xs):(zJr xs k x).Nodup:=by
 unfold zJr;have e:=take_append_drop k xs;rw[<-e,nodup_append]at nd;rw[nodup_append];refine⟨nd.1,List.nodup_cons.mpr ⟨λhm=>h (List.mem_of_mem_drop hm),nd.2.1⟩,λa ha b hb=>?_⟩;rcases List.mem_cons.mp hb with rfl|hb
 ·rintro rfl;exact h (Xk ha)
 ·exact nd.2.2 a ha b hb
def z8x(S:List Nat)(i k:Nat):zJr (nat S) i (.int k)=nat (zJr S i k):=by
 unfold zJr nat;rw[map_append,map_cons,List.map_take,List.map_drop]
structure Ord(O:List Nat)(n:Nat):Prop where
 nd:O.Nodup
 len:O.length=n
 mem:∀k,k∈O↔k<n
def Ord.lt(o:Ord O n)(h:i<n):O.getD i 0<n:=by
 have hi:i<O.length:=by rw[o.len];exact h
 rw[getD_eq_getElem?_getD,yc hi];exact(o.mem _).mp (getElem_mem hi)
def Ord.tO(o:Ord O n)(h:j<n):O.idxOf j<n:=by
 rw[<-o.len];exact List.idxOf_lt_length_iff.mpr ((o.mem j).mpr h)
def Ord.tK(o:Ord O n)(h:j<n):O.getD (O.idxOf j) 0=j:=by
 have hi:=List.idxOf_lt_length_iff.mpr ((o.mem j).mpr h);rw[getD_eq_getElem?_getD,yc hi];exact List.getElem_idxOf hi
def Ord.tR(o:Ord O n)(h:i<n):O.idxOf (O.getD i 0)=i:=by
 have hi:i<O.length:=by rw[o.len];exact h
 rw[getD_eq_getElem?_getD,yc hi];exact o.nd.idxOf_getElem i hi
def zMj(O:List Nat):List Nat:=(yd O.length).map λj=>O.idxOf j
def zOg(o:Ord O n)(h:j<n):(zMj O).getD j 0=O.idxOf j:=by
 unfold zMj;simp[o.len,h]
def Ord.inv(o:Ord O n):Ord (zMj O) n:=by
 have hm:∀k,k∈zMj O↔k<n:=λk=>by
  unfold zMj;rw[mem_map];constructor
  ·rintro⟨j,hj,rfl⟩;exact o.tO (by rw[<-o.len];simpa using hj)
  ·intro hk;exact⟨O.getD k 0,by rw[mem_range,o.len];exact o.lt hk,o.tR hk⟩
 refine⟨?_,by unfold zMj;simp[o.len],hm⟩;unfold zMj;rw[List.Nodup,pairwise_map];refine xD ?_ nodup_range;intro a b ha hb hne he;have ha:a<n:=by rw[<-o.len];simpa using ha
 have hb:b<n:=by rw[<-o.len];simpa using hb
 have e1:=o.tK ha;have e2:=o.tK hb;rw[he,e2]at e1;exact hne e1.symm
def zoq(o:Ord O n)(h:j<n):(zMj O).idxOf j=O.getD j 0:=by
 have hl:=o.lt h;have e:=o.inv.tR hl;rw[zOg o hl,o.tR h]at e;exact e
def zOf(O:List Nat)(xs:List D):List D:=(yd xs.length).map λj=>xs.getD (O.idxOf j) .non
def zBj{xs:List α}(o:Ord O xs.length)(f:α->D)(d:α):zOf O (xs.map f)=((yd xs.length).map λj=>xs.getD (O.idxOf j) d).map f:=by
 unfold zOf;rw[length_map,map_map];refine map_congr_left λj hj=>?_;have hj:j<xs.length:=by simpa using hj
 have hi:=o.tO hj;simp[hi]
def zzl{x:D}(o:Ord O xs.length)(hl:xs.length<=1000)(hx:x=.tup xs\/∃n,x=.loc n/\μ[n]?=some (.lst xs))(ho:μ[ol]?=some (.lst (nat O)))(q:∀(l:Nat)(μ':Mem),tu μ μ'->μ.length<=l->μ'[l]?=some (.lst (zOf O xs))->Q (.loc l) μ'):WF z8e [x,.loc ol] μ Q:=by
 refine zsb rfl ?_;show WS zLk [some x,some (.loc ol),none,none,none] μ _ _ _ _;unfold zLk
 have hit:∀{ν:Mem},tu μ ν->items ν x=some xs:=λ{ν} k=>by
  rcases hx with rfl|⟨n,rfl,hn⟩
  ·rfl
  ·exact zk (k _ _ hn)
 refine zr (zhb (zm (z5i (zb (w_c (zo (zn (zb (zd rfl (zo (zhe (hit .app) ?_)))))))))));refine z2u zt (by omega) (by omega) (by simp) ?_;rw[yQ,xv];have ka:tu μ ((μ++[tw.lst [D.non]])++[tw.lst (yo xs.length D.non)]):=tu.to tu.app;have ga:((μ++[tw.lst [D.non]])++[tw.lst (yo xs.length D.non)])[(μ++[tw.lst [D.non]]).length]?=some (.lst (yo xs.length D.non)):=zt;have hc:μ.length<=(μ++[tw.lst [D.non]]).length:=by simp
 generalize (μ++[tw.lst [D.non]])++[tw.lst (yo xs.length D.non)]=μa at ka ga;generalize (μ++[tw.lst [D.non]]).length=c at ga hc
 have loop:∀(ok:Mem->Bool) {nx:M.Loc->Mem->Prop} {rt:D->Mem->Prop},(∀ν,tu μ ν->ok ν=true)->(∀(ν:Mem)(y z:Option D),tu μ ν->ν[c]?=some (.lst (zOf O xs))->nx [some x,some (.loc ol),some (.loc c),y,z] ν)->WFor (gT 2 (zbb (gN 3) (zbb (gN 4) zFe))) z0j ok (zci xs) [some x,some (.loc ol),some (.loc c),none,none] μa nx rt:=by
  intro ok nx rt hok fin;have ee:=zyb (λ(d:D)=>d) xs D.non;rw[List.map_id']at ee;rw[ee]
  have e0:yo xs.length D.non=(yd xs.length).map λj=>if O.idxOf j<0 then xs.getD (O.idxOf j) .non else .non:=by
   refine ext_getElem? λi=>?_;rw[Yi,yh]
   by_cases hi:i<xs.length
   ·rw[if_pos hi,yR hi];rfl
   ·rw[if_neg hi,yx (by simp;omega)];rfl
  refine zWb (λi J ν=>∃y z:Option D,J=[some x,some (.loc ol),some (.loc c),y,z]/\tu μ ν/\ν[c]?=some (.lst ((yd xs.length).map λj=>if O.idxOf j<i then xs.getD (O.idxOf j) .non else .non))) ⟨_,_,rfl,ka,by rw[<-e0];exact ga⟩ (λ_ _ _ ⟨_,_,_,k,_⟩=>hok _ k) ?_ ?_
  ·rintro i w0 J ν hw ⟨y,z,rfl,k,g⟩
   have hi:i<xs.length:=by
    have:=(List.getElem?_eq_some_iff.mp hw).1;simpa using this
   rw[yh,yR hi]at hw;cases hw;refine zaj (znd (zfd (znd (zfd (zfi ?_)))));unfold z0j;have hoi:i<O.length:=by rw[o.len];exact hi
   have hlt:=o.lt hi;refine zco (zd rfl (zny (zd rfl (zm (zd rfl (zd rfl (zBb (zk (k _ _ ho)) (zTc hoi) ⟨_,_,_,rfl,rfl,g,⟨by omega,by rw[length_map,length_range];omega⟩,?_⟩)))))));rw[yQ];refine⟨_,_,rfl,λa o' e=>zD (k a o' e) (by have:=zx e;omega),?_⟩;rw[zL g]
   congr 2
   refine ext_getElem? λj=>?_
   by_cases hj:j<xs.length
   ·by_cases e:O.getD i 0=j
    ·subst e;rw[Yn (by simpa using hlt),yh,yR hlt,YO,o.tR hi,if_pos (by omega)]
    ·rw[yW e,yh,yh,yR hj,YO,YO];have hne:O.idxOf j≠i:=λh=>e (by rw[<-h];exact o.tK hj)
     by_cases h1:O.idxOf j<i
     ·rw[if_pos h1,if_pos (by omega)]
     ·rw[if_neg h1,if_neg (by omega)]
   ·rw[yx (by simp;omega),yx (by simp;omega)]
  ·rintro J ν ⟨y,z,rfl,k,g⟩;rw[length_map,length_range]at g;refine fin ν y z k ?_;rw[g]
   congr 2
   unfold zOf;refine map_congr_left λj hj=>?_;rw[if_pos (o.tO (by simpa using hj))]
 have last:∀(ν:Mem)(y z:Option D),tu μ ν->ν[c]?=some (.lst (zOf O xs))->WS (zMb (zg 2)) [some x,some (.loc ol),some (.loc c),y,z] ν (λ_ μ'=>Q .non μ') Q (λ_ _=>False) (λ_ _=>False):=λν y z k g=>zwb (zd rfl (q _ _ k hc g));rcases hx with rfl|⟨n,rfl,hn⟩
 ·exact zr (zah (zif (zd rfl (.inl ⟨_,rfl,loop _ (λ_ _=>rfl) last⟩))))
 ·exact zr (zah (zif (zd rfl (.inr (.inr ⟨n,_,rfl,ka _ _ hn,loop _ (λν k=>z6 hn k) last⟩)))))
def Pen.Tg{o:tw}(h:Pen μ l B)(hne:m≠l):Pen (μ.set m o) l B:=by
 obtain⟨f,c,n,a,e,h1,h2⟩:=h;exact⟨f,c,n,a,zD e hne,h1,h2⟩
def zHp(h:Pen μ l B)(hB:B<=1000000)(hm:m<=1000)(q:∀(O:List Nat)(n:Nat)(μ':Mem),O.Nodup->O.length=m->(∀k,k∈O↔k<m)->KB [l] μ μ'->Pen μ' l (B+m)->μ.length<=n->μ'[n]?=some (.lst (nat O))->Q (.loc n) μ'):WF zXd [.loc l,.int m] μ Q:=by
 refine zsb rfl ?_;show WS zBf [some (.loc l),some (.int m),none,none] μ _ _ _ _;unfold zBf;refine zr (zhb (z5i (zo ?_)));refine zr (zah (zVj (zb (zd rfl (zo ⟨_,rfl,by omega,by omega,?_⟩)))));rw[yQ];have hlt:=h.lt;refine zWb (λi J ν=>∃(O:List Nat)(x:Option D),J=[some (.loc l),some (.int m),some (.loc μ.length),x]/\O.Nodup/\O.length=i/\(∀k,k∈O↔k<i)/\KB [l] μ ν/\Pen ν l (B+i)/\ν[μ.length]?=some (.lst (nat O))) ⟨[],_,rfl,by simp,rfl,by simp,KB.refl.app,h.app.mono (by omega),zt⟩ (λ_ _ _ _=>rfl) ?_ ?_
 ·rintro i x J ν hx ⟨O,y,rfl,nd,hl,hm',k,p,g⟩;obtain⟨hi,rfl⟩:=zAh hx;refine zfd ?_;unfold zVh;refine zNi (zWh (zd rfl ⟨_,_,rfl,g,?_⟩));refine zb (zn (zb (zd rfl (zb (zm (zd rfl (w_c (zku (zo ?_)))))))));refine z6b p (by omega) (by omega) (by omega) λv ν2 a b k2 e2 p2=>zb (zd rfl (zo ?_));have g2:=k2.at_ _ _ (by simp;omega) g;refine⟨.non,_,by simp only[zFl,g2];rw[decide_eq_true (by rw[length_map];omega),cond_true],?_⟩;rw[z8x];refine⟨zJr O v.toNat i,_,rfl,zCx nd λh=>(by have:=(hm' i).mp h;omega),by rw[zZq,hl],λk'=>?_,(k.trans k2).set (.inr (yk _)),(p2.Tg (by omega)).mono (by omega),zL g2⟩;rw[zGv,hm' k'];omega
 ·rintro J ν ⟨O,y,rfl,nd,hl,hm',k,p,g⟩;simp only[length_map,length_range]at hl hm' p;exact zwb (zd rfl (q O _ ν nd hl hm' k p (yk _) g))
def zO(O R:List Nat):List Nat:=(yd R.length).map λj=>R.getD (O.idxOf j) 0
def zLe(O:List Nat)(K:List (List Nat)):List (List Nat):=(yd K.length).map λj=>K.getD (O.idxOf j) []
def zbe(O:List Nat)(K:List (List Nat)):List (List Nat):=K.map λk=>k.map λh=>O.getD h 0
def zzn(w:Wb L R K)(hL:L<=1000)(o:Ord O R.length)(ho:μ[ol]?=some (.lst (nat O)))(q:∀μ',tu μ μ'->Q (wn (zO O R) (zbe O K)) μ'):WF zje [wn R K,.loc ol] μ Q:=by
 have hkl:=w.kl;have hrl:=w.rl;refine zsb rfl ?_;show WS zme [some (wn R K),some (.loc ol),none] μ _ _ _ _;unfold zme;refine zr (zhb (zAj (z2c (zm (zd rfl (w_c (zIc (.inl ⟨_,rfl,zrb (by rw[length_map];omega),?_⟩))))))));refine zlf tn K (λk=>tn (k.map λh=>O.getD h 0)) (λ_ _=>rfl) (λk hk μ' kp=>?_) (λμ' kp=>?_)
 ·obtain⟨hk3,hkn⟩:=w.kn k hk;refine zfd ?_;unfold z9g;refine zn (zb (zAj (z2c (zd rfl (.inl ⟨_,rfl,zrb (by rw[length_map];omega),?_⟩)))));refine zlf (λ(h:Nat)=>D.int h) k (λh =>.int (O.getD h 0:Nat)) (λ_ _=>rfl) (λh hh μ2 k2=>?_) (λμ2 k2=>?_)
  ·refine zfd ?_;unfold zjh;exact zm (zd rfl (zd rfl (zBb (zk (k2 _ _ (kp _ _ ho))) (zTc (by rw[o.len];exact hkn h hh)) ⟨rfl,k2,k2⟩)))
  ·refine zo (zpg (zk zt) ⟨?_,kp.trans k2.to,kp⟩);show D.tup _=D.tup (nat _);rw[z1g]
 have k1:tu μ (μ'++[tw.lst (K.map λk=>tn (k.map λh=>O.getD h 0))]):=kp.to
 have g1:(μ'++[tw.lst (K.map λk=>tn (k.map λh=>O.getD h 0))])[μ'.length]?=some (.lst ((zbe O K).map tn)):=by
  rw[zt];unfold zbe;rw[map_map];rfl
 generalize μ'++[tw.lst (K.map λk=>tn (k.map λh=>O.getD h 0))]=μ1 at k1 g1;generalize μ'.length=kl at g1;refine zwb (z7d (zb (zn (zb (zn (zb (zm (zd rfl (w_c (zae (zb (zd rfl (zo ?_)))))))))))));refine zzl (xs:=nat R) (by rw[length_map];exact o) (by rw[length_map];omega) (.inl rfl) (k1 _ _ ho) λl μ2 k2 hl g2=>zo (zpg (zk g2) ?_);refine zb (zn (zb (zd rfl (zo (zpg (zk (k2 _ _ g1)) (zo ?_))))));have e:zOf O (nat R)=nat (zO O R):=zBj o (λ(n:Nat)=>D.int n) 0;rw[e];exact q _ (k1.trans k2)
def zxp(w:Wb L R K)(hL:L<=1000)(o:Ord O K.length)(ho:μ[ol]?=some (.lst (nat O)))(q:∀μ',tu μ μ'->Q (wn R (zLe O K)) μ'):WF zDf [wn R K,.loc ol] μ Q:=by
 have hkl:=w.kl;refine zsb rfl ?_;show WS znf [some (wn R K),some (.loc ol)] μ _ _ _ _;unfold znf;refine zwb (z7d (zb (zm (zd rfl (w_c (zae (zb (zn (zb (zn (zb (zm (zd rfl (w_c (zIc (zb (zd rfl (zo ?_))))))))))))))))));refine zzl (xs:=K.map tn) (by rw[length_map];exact o) (by rw[length_map];omega) (.inl rfl) ho λl μ2 k2 hl g2=>zo (zpg (zk g2) (zo ?_));have e:zOf O (K.map tn)=(zLe O K).map tn:=zBj o tn [];rw[e];exact q _ k2
def zmw(h:μ[n]?=some (.lst (nat S)))(hk:k∈S)(q:Q (.int (S.idxOf k:Nat)) μ):WM z7m (.loc n) [.int (k:Nat)] μ Q:=by
 have hf:(nat S).findIdx? (λy=>eqF y (.int (k:Nat)))=some (S.idxOf k):=by
  rw[List.findIdx?_map,List.findIdx?_eq_some_iff_getElem];have hi:=List.idxOf_lt_length_iff.mpr hk;refine⟨hi,?_,λj hj=>?_⟩
  ·show eqF (.int _) (.int _)=true;rw[List.getElem_idxOf hi];show(((k:Nat):Int)==((k:Nat):Int))=true;exact beq_self_eq_true _
  ·intro he;have he:(((S[j]'(by omega):Nat):Int)==((k:Nat):Int))=true:=he;have he:=beq_iff_eq.mp he;have:=List.not_of_lt_findIdx (p:=(· == k)) (xs:=S) (i:=j) hj
   have e9:(S[j]'(by omega)==k)=true:=by
    rw[beq_iff_eq];omega
   rw[e9]at this;cases this
 exact⟨_,_,by simp only[z7m,h];rw[zQk S];show(bif true&&true then _ else _)=_;rw[Bool.and_self,cond_true,hf,yr],q⟩
def zVs(o:Ord O R.length):zO (zMj O) (zO O R)=R:=by
 have hl:(zO O R).length=R.length:=by unfold zO;simp
 refine ext_getElem? λj=>?_
 by_cases hj:j<R.length
 ·unfold zO at hl ⊢;rw[yh,yR (by rw[hl];exact hj),YO,zoq o hj];have h1:=o.lt hj;rw[getD_eq_getElem?_getD,yh,yR h1,YO,o.tR hj,yc hj];simp[hj]
 ·rw[yx (by unfold zO at hl ⊢;simp at hl ⊢;omega),yx (by omega)]
def z3f(O:List Nat)(x:Option Nat):Option Nat:=x.map λh=>O.getD h 0
def zuo{x:Option Nat}(hx:∀h,x=some h->h<O.length)(ho:μ[ol]?=some (.lst (nat O)))(q:Q (onD (z3f O x)) μ):WF zAf [onD x,.loc ol] μ Q:=by
 refine zsb rfl ?_;show WS z5e [some (onD x),some (.loc ol)] μ _ _ _ _;unfold z5e
 cases x with
 |none=>exact zr (z0g (zBk (zJ (zm (zd rfl (w_c (zyw rfl ⟨_,rfl,λh=>(by cases h),λ_=>⟨λ_=>zwb (zd rfl q),λh=>(by cases h)⟩⟩)))))))
 |some h=>
  have hh:=hx h rfl;refine zr (z0g (zBk (zJ (zm (zd rfl (w_c (zyw rfl ⟨_,rfl,λ_=>?_,λh=>(by cases h)⟩)))))));refine zBk (zJ (zm (zd rfl (w_c (z4n ⟨_,rfl,λ_=>?_,λhb=>?_⟩)))))
  case refine_2=>
   have:=of_decide_eq_true hb;omega
  refine zJ (zm (zd rfl (zn (zb (zd rfl (zo (zhe (zk ho) (z4n ⟨_,rfl,λhb=>?_,λ_=>zjb ?_⟩))))))))
  ·have:=of_decide_eq_true hb;rw[length_map]at this;omega
  exact zwb (zm (zd rfl (zd rfl (zBb (zk ho) (zTc hh) q))))
def zEk(hl:lay.length<=1000)(hx:∀h,some h∈lay->h<O.length)(hn:μ[n]?=some (.lst (lay.map onD)))(ho:μ[ol]?=some (.lst (nat O)))(q:∀(l:Nat)(μ':Mem),tu μ μ'->μ.length<=l->μ'[l]?=some (.lst ((lay.map (z3f O)).map onD))->Q (.loc l) μ'):WF zyc [.loc n,.loc ol] μ Q:=by
 refine zsb rfl ?_;show WS zpc [some (.loc n),some (.loc ol)] μ _ _ _ _;unfold zpc;refine zwb (zAj (z2c (zd rfl (.inr (.inr ⟨n,_,rfl,hn,zrb (by rw[length_map];omega),?_⟩)))));refine zlf onD lay (λx=>onD (z3f O x)) (λμ' k=>z6 hn k) (λx hxm μ' kp=>?_) (λμ' kp=>?_)
 ·refine zfd ?_;unfold zHe;refine zn (zb (zd rfl (zb (zd rfl (zo ?_)))));exact zuo (λh e=>hx h (by rw[<-e];exact hxm)) (kp _ _ ho) ⟨rfl,kp,kp⟩
 ·refine q _ _ kp.to kp.len ?_;rw[zt,map_map];rfl
def zFf(O S:List Nat):List Nat:=(yd O.length).filter λj=>decide (O.idxOf j∈S)
def zWd(o:Ord O n)(hS:S.Sublist (yd n)):(zFf O S).Perm (S.map λk=>O.getD k 0):=by
 have hlt:∀k∈S,k<n:=λk hk=>by simpa using hS.subset hk
 have nd1:(zFf O S).Nodup:=List.nodup_range.sublist filter_sublist
 have nd2:(S.map λk=>O.getD k 0).Nodup:=by
  rw[List.Nodup,pairwise_map];refine xD ?_ (List.nodup_range.sublist hS);intro a b ha hb hne he;have e1:=o.tR (hlt a ha);have e2:=o.tR (hlt b hb);rw[he,e2]at e1;exact hne e1.symm
 refine(perm_ext_iff_of_nodup nd1 nd2).mpr λj=>?_;unfold zFf;rw[mem_filter,mem_range,decide_eq_true_iff,mem_map,o.len];constructor
 ·rintro⟨h1,h2⟩;exact⟨_,h2,o.tK h1⟩
 ·rintro⟨k,hk,rfl⟩;exact⟨o.lt (hlt k hk),by rw[o.tR (hlt k hk)];exact hk⟩
def zQb{sl:Nat}(o:Ord O n)(hn:n<=60)(hS:S.Sublist (yd n))(hs:μ[sl]?=some (.lst (nat S)))(ho:μ[ol]?=some (.lst (nat O)))(q:∀(l:Nat)(μ':Mem),tu μ μ'->μ.length<=l->μ'[l]?=some (.lst (nat (zFf O S)))->Q (.loc l) μ'):WF z8 [.loc sl,.loc ol] μ Q:=by
 have hSl:S.length<=n:=by simpa using hS.length_le
 refine zsb rfl ?_;show WS z7e [some (.loc sl),some (.loc ol)] μ _ _ _ _;unfold z7e;refine zwb (zn (zb (zAj (z2c (zd rfl (.inr (.inr ⟨sl,_,rfl,hs,zrb (by rw[length_map];omega),?_⟩)))))));refine zlf (λ(k:Nat)=>D.int k) S (λk =>.int (O.getD k 0:Nat)) (λμ' k=>z6 hs k) (λk hk μ' kp=>?_) (λμ' kp=>?_)
 ·refine zfd ?_;unfold zZh;have hkn:k<n:=by simpa using hS.subset hk
  exact zm (zd rfl (zd rfl (zBb (zk (kp _ _ ho)) (zTc (by rw[o.len];exact hkn)) ⟨rfl,kp,kp⟩)))
 ·refine zo (zhx (S:=S.map λk=>O.getD k 0) (T:=zFf O S) (by rw[zt,z1g]) (zWd o hS) (List.pairwise_lt_range.filter _) (by rw[length_map];omega) ?_);exact q _ _ kp.to.to (by have:=kp.len;simp;omega) zt
structure Ren(O T:List Nat)(R:List Nat)(K:List (List Nat))(R':List Nat)(K':List (List Nat)):Prop where
 o:Ord O R.length
 t:Ord T K.length
 rl:R'.length=R.length
 kl:K'.length=K.length
 room:∀h<R.length,R'.getD (O.getD h 0) 0=R.getD h 0
 home:∀k<K.length,∀h<R.length,h∈K.getD k []↔O.getD h 0∈K'.getD (T.getD k 0) []
 lt:∀k<K.length,∀h∈K.getD k [],h<R.length
 lt':∀k<K.length,∀h∈K'.getD k [],h<R.length
def Ord.inj(o:Ord O n)(hi:i<n)(hj:j<n)(e:O.getD i 0=O.getD j 0):i=j:=by
 have:=o.tR hi;rw[e,o.tR hj]at this;exact this.symm
def Ren.inv{R:List Nat}{K:List (List Nat)}(r:Ren O T R K R' K'):Ren (zMj O) (zMj T) R' K' R K:=by
 have o:=r.o;have t:=r.t;refine⟨by rw[r.rl];exact o.inv,by rw[r.kl];exact t.inv,r.rl.symm,r.kl.symm,λh hh=>?_,λk hk h hh=>?_,λk hk h hh=>?_,λk hk h hh=>?_⟩
 ·rw[r.rl]at hh;have:=r.room _ (o.tO hh);rw[o.tK hh]at this;rw[zOg o hh];exact this.symm
 ·rw[r.rl]at hh;rw[r.kl]at hk;have:=r.home _ (t.tO hk) _ (o.tO hh);rw[o.tK hh,t.tK hk]at this;rw[zOg o hh,zOg t hk];exact this.symm
 ·rw[r.rl];exact r.lt' k (by rw[<-r.kl];exact hk) h hh
 ·rw[r.rl];exact r.lt k (by rw[<-r.kl];exact hk) h hh
def zXo{f:Nat->Nat}{h:Nat}:∀{X:List Nat},(∀x∈X,f x=f h->x=h)->(X.map f).count (f h)=X.count h
 |[],_=>rfl
 |x::X,k=>by
  rw[map_cons,count_cons,count_cons,zXo λy hy=>k y (mem_cons_of_mem _ hy)]
  congr 1
  by_cases z:x=h
  ·rw[z,if_pos (beq_self_eq_true _),if_pos (beq_self_eq_true _)]
  ·rw[if_neg (by rw[beq_iff_eq];exact λe=>z (k x mem_cons_self e)),if_neg (by rw[beq_iff_eq];exact z)]
def zWk{X:List Nat}(t:Ord T X.length):((yd X.length).map λj=>X.getD (T.idxOf j) 0).Perm X:=by
 have e1:((yd X.length).map λj=>X.getD (T.idxOf j) 0)=(zMj T).map λi=>X.getD i 0:=by
  unfold zMj;rw[map_map,t.len];rfl
 have e2:X=(yd X.length).map λi=>X.getD i 0:=by
  refine ext_getElem (by simp) λi h1 h2=>?_;simp[yc h1]
 have hp:(zMj T).Perm (yd X.length):=(perm_ext_iff_of_nodup t.inv.nd nodup_range).mpr λk=>by rw[t.inv.mem,mem_range]
 rw[e1];exact(hp.map _).trans (List.Perm.of_eq e2.symm)
def Ren.to{R:List Nat}{K:List (List Nat)}(r:Ren O T R K R' K')(f:zRj R K):zRj R' K':=by
 obtain⟨lay,rl,hall⟩:=f;obtain⟨X,_,a⟩:=zvv rl hall;have o:=r.o;have t:=r.t;have hXl:=a.len
 have hX:∀k,k<K.length->X.getD k 0∈K.getD k []:=λk hk=>by
  have e1:X[k]?=some (X.getD k 0):=by rw[getD_eq_getElem?_getD,yc (by omega)];rfl
  have e2:K[k]?=some (K.getD k []):=by rw[getD_eq_getElem?_getD,yc hk];rfl
  exact a.home k _ _ e1 e2
 have hXr:∀x∈X,x<R.length:=λx hx=>by
  obtain⟨i,hi,rfl⟩:=List.mem_iff_getElem.mp hx;have:=r.lt i (by omega) _ (hX i (by omega));rw[getD_eq_getElem?_getD,yc hi]at this;exact this
 have hp:=zWk (T:=T) (X:=X) (by rw[hXl];exact t);obtain⟨σ,hY⟩:∃σ,σ=(yd X.length).map λj=>X.getD (T.idxOf j) 0:=⟨_,rfl⟩
 rw[<-hY]at hp
 have hYg:∀j h,σ[j]?=some h->j<K.length/\h=X.getD (T.idxOf j) 0:=λj h e=>by
  rw[hY,yh]at e
  cases er:(yd X.length)[j]? with
  |none=>rw[er]at e;cases e
  |some i=>
   rw[er]at e;cases e;have hj:=(List.getElem?_eq_some_iff.mp er).1;rw[length_range]at hj;rw[yR hj]at er;cases er;exact⟨by omega,rfl⟩
 refine Sc.fits (X:=σ.map λh=>O.getD h 0) ⟨by rw[length_map,hp.length_eq,hXl,r.kl],λi h k e1 e2=>?_,λh=>?_⟩
 ·rw[yh]at e1
  cases ey:σ[i]? with
  |none=>rw[ey]at e1;cases e1
  |some y=>
   rw[ey]at e1;cases e1;obtain⟨hi,rfl⟩:=hYg i y ey;have hti:=t.tO hi;have h1:=hX _ hti;have h2:=(r.home _ hti _ (r.lt _ hti _ h1)).mp h1;rw[t.tK hi,getD_eq_getElem?_getD (l:=K'),e2]at h2;exact h2
 ·by_cases hm:h∈σ.map λh=>O.getD h 0
  ·obtain⟨y,hy,rfl⟩:=List.mem_map.mp hm;have hyr:=hXr y (hp.mem_iff.mp hy);rw[zXo (f:=λh=>O.getD h 0) λx hx e=>o.inj (hXr x (hp.mem_iff.mp hx)) hyr e,hp.count_eq,r.room y hyr];exact a.room y
  ·rw[List.count_eq_zero.mpr hm];exact yP _
def Ren.fits{R:List Nat}{K:List (List Nat)}(r:Ren O T R K R' K'):zRj R' K'↔zRj R K:=⟨r.inv.to,r.to⟩
def Ren.held{R:List Nat}{K:List (List Nat)}{key:Nat}(r:Ren O T R K R' K')(hk:key<K.length)(hn:nest<R.length):Ren O T R (zqg K key nest) R' (zqg K' (T.getD key 0) (O.getD nest 0)):=by
 have o:=r.o;have t:=r.t;have hk':T.getD key 0<K'.length:=by rw[r.kl];exact t.lt hk
 refine⟨o,by rw[zaf];exact t,r.rl,by rw[zaf,zaf];exact r.kl,r.room,λk hkk h hh=>?_,λk hkk h hh=>?_,λk hkk h hh=>?_⟩
 ·rw[zaf]at hkk
  by_cases z:k=key
  ·subst z;rw[zZk hk,zZk hk'];constructor
   ·intro h1;have:h=nest:=by simpa using h1
    subst this;exact mem_cons_self
   ·intro h1;have:O.getD h 0=O.getD nest 0:=by simpa using h1
    rw[o.inj hh hn this];exact mem_cons_self
  ·rw[z9n z,z9n λe=>z (t.inj hkk hk e)];exact r.home k hkk h hh
 ·rw[zaf]at hkk
  by_cases z:k=key
  ·subst z;rw[zZk hk]at hh;have:h=nest:=by simpa using hh
   rw[this];exact hn
  ·rw[z9n z]at hh;exact r.lt k hkk h hh
 ·rw[zaf]at hkk
  by_cases z:k=T.getD key 0
  ·rw[z,zZk hk']at hh;have:h=O.getD nest 0:=by simpa using hh
   rw[this];exact o.lt hn
  ·rw[z9n z]at hh;exact r.lt' k hkk h hh
def zer{kvs:List (Int×D)}(h:μ[n]?=some (.dct kvs)):zJc μ (.loc n)=some kvs:=by simp only[zJc,h]
def zQA{G ψ:FE}{J:M.Loc}(h:WE G J (μ++[.dct []]) λx μ1=>WE ψ J μ1 λy μ2=>∃i,x=.int i/\μ2[μ.length]?=some (.dct [])/\Q (.loc μ.length) (μ2.set μ.length (.dct [(i,y)]))):WE (zXz G ψ) J μ Q:=by
 obtain⟨x,μ1,e1,y,μ2,e2,i,rfl,e3,q⟩:=h;exact⟨_,_,by simp only[zXz,e1,e2,e3,yr],q⟩
def dkB(N:List Nat):List (Int×D):=N.map λ(h:Nat)=>((h:Int),D.bl true)
def z4w(N:List Nat)(h:Nat):List Nat:=if h∈N then N else N++[h]
def zty(nd:N.Nodup):(z4w N h).Nodup:=by
 unfold z4w
 split
 ·exact nd
 ·rename_i hn
  rw[nodup_append];refine⟨nd,by simp,λa ha b hb=>?_⟩;rw[List.mem_singleton.mp hb];rintro rfl;exact hn ha
def zay(N:List Nat)(h:Nat):zLs (dkB N) (h:Int) (.bl true)=dkB (z4w N h):=by
 have ha:((dkB N).any λp=>decide (p.1=(h:Int)))=decide (h∈N):=by
  refine zle ?_;unfold dkB;rw[any_map,any_eq_true];simp only[xC,decide_eq_true_iff];constructor
  ·rintro⟨p,hp,e⟩;have:p=h:=by omega
   subst this;exact hp
  ·intro hm;exact⟨h,hm,rfl⟩
 unfold zLs z4w;rw[ha]
 by_cases hm:h∈N
 ·rw[decide_eq_true hm,if_pos rfl,if_pos hm];unfold dkB;rw[map_map];refine map_congr_left λp _=>?_;simp only[xC]
  split<;>rfl
 ·rw[decide_eq_false hm,if_neg yv,if_neg hm];simp[dkB]
def zor:(zqe (dkB N) (h:Int)).isSome=decide (h∈N):=by
 refine zle ?_;unfold zqe dkB;rw[Option.isSome_map,List.find?_isSome];constructor
 ·rintro⟨p,hp,e⟩;obtain⟨k,hk,rfl⟩:=List.mem_map.mp hp;have e:=of_decide_eq_true e;have:k=h:=by omega
  rw[<-this];exact hk
 ·intro hm;exact⟨_,List.mem_map.mpr ⟨h,hm,rfl⟩,decide_eq_true rfl⟩
inductive Jn(K:List (List Nat))(a:Nat):Nat->Prop
 |refl:Jn K a a
 |step {b c:Nat}:Jn K a b->(∃k∈K,b∈k/\c∈k)->Jn K a c
def Jn.trans{c:Nat}(h1:Jn K a b)(h2:Jn K b c):Jn K a c:=by
 induction h2 with
 |refl=>exact h1
 |step _ e ih=>exact .step ih e
def Jn.symm(h:Jn K a b):Jn K b a:=by
 induction h with
 |refl=>exact .refl
 |step _ e ih=>
  obtain⟨k,hk,h1,h2⟩:=e;exact Jn.trans (.step .refl ⟨k,hk,h2,h1⟩) ih
def jnB(K:List (List Nat))(a b:Nat):Bool:=@decide (Jn K a b) (xJ _)
def zCl:jnB K a b=true↔Jn K a b:=@decide_eq_true_iff _ (xJ _)
def zDb(n:Nat)(K:List (List Nat))(a:Nat):List Nat:=(yd n).filter λb=>jnB K a b
def Tc:b∈zDb n K a↔b<n/\Jn K a b:=by
 unfold zDb;rw[mem_filter,mem_range,zCl]
def zWv(n:Nat)(K:List (List Nat))(a:Nat):(zDb n K a).Pairwise (· < ·):=List.pairwise_lt_range.filter _
def zex{a b:List Nat}(na:a.Nodup)(nb:b.Nodup)(h:∀x,x∈a↔x∈b):a.Perm b:=(perm_ext_iff_of_nodup na nb).mpr h
def zTv(h:μ[n]?=some (.dct (dkB S)))(hp:T.Perm S)(hT:T.Pairwise (· < ·))(hl:S.length<64)(q:Q (.loc μ.length) (μ++[.lst (nat T)])):WF zJo [.loc n] μ Q:=by
 have e0:(dkB S).map (·.1)=S.map λ(k:Nat)=>(k:Int):=by unfold dkB;rw[map_map];rfl
 have e2:nat T=(T.map λ(k:Nat)=>(k:Int)).map D.int:=by rw[map_map];rfl
 have e3:zsm (S.map λ(k:Nat)=>(k:Int))=T.map λ(k:Nat)=>(k:Int):=by
  refine zKd ((mergeSort_perm _ _).trans (hp.symm.map _)) (zZj _) ?_;rw[pairwise_map];exact hT.imp λh=>by omega
 have e4:(dkB S).length<64:=by unfold dkB;rw[length_map];exact hl
 refine⟨_,_,?_,q⟩;simp only[zJo,zer h,yr];rw[decide_eq_true e4,cond_true,e0,e3,<-e2]
structure Jw(n:Nat)(K:List (List Nat))(a:Nat)(S T:List Nat):Prop where
 nd:S.Nodup
 lt:∀s∈S,s<n
 jn:∀s∈S,Jn K a s
 one:a∈S
 sub:∀t∈T,t∈S
def Jw.len(j:Jw n K a S T):S.length<=n:=by
 simpa using zxe (m:=yd n) j.nd λs hs=>List.mem_range.mpr (j.lt s hs)
def Cl(K:List (List Nat))(S:List Nat)(s:Nat):Prop:=∀c,(∃k∈K,s∈k/\c∈k)->c∈S
def zot(w:Wb L R K)(hL:L<=60)(hn:nest<R.length)(q:∀(l:Nat)(μ':Mem),tu μ μ'->μ.length<=l->μ'[l]?=some (.lst (nat (zDb R.length K nest)))->Q (.loc l) μ'):WF zog [wn R K,.int (nest:Nat)] μ Q:=by
 have hkl:=w.kl;have hrl:=w.rl;refine zsb rfl ?_;show WS zHg [some (wn R K),some (.int (nest:Nat)),none,none,none,none,none] μ _ _ _ _;unfold zHg;refine zr (zhb (zQA (zd rfl (w_c ⟨_,rfl,zt,?_⟩))));have gA0:((μ++[tw.dct []]).set μ.length (.dct [((nest:Nat),D.bl true)]))[μ.length]?=some (.dct (dkB [nest])):=zL zt;have kA0:KB [] μ ((μ++[tw.dct []]).set μ.length (.dct [((nest:Nat),D.bl true)])):=KB.refl.app.set (.inr (yk _));generalize (μ++[tw.dct []]).set μ.length (.dct [((nest:Nat),D.bl true)])=μ1 at gA0 kA0;generalize hA:μ.length=A at gA0;have hA1:=zx gA0;refine zr (zhb (z5i (zb (zd rfl (zo ?_)))));have gA1:(μ1++[tw.lst [D.int (nest:Nat)]])[A]?=some (.dct (dkB [nest])):=zK gA0;have gB1:(μ1++[tw.lst [D.int (nest:Nat)]])[μ1.length]?=some (.lst (nat [nest])):=zt;have k1:KB [] μ (μ1++[tw.lst [D.int (nest:Nat)]]):=kA0.app;have hAB:A≠μ1.length:=by omega
 have hB:A<=μ1.length:=by omega
 generalize μ1++[tw.lst [D.int (nest:Nat)]]=μ2 at gA1 gB1 k1;generalize μ1.length=B at gB1 hAB hB;clear gA0 kA0 hA1;refine zr ?_
 refine z0k (n:=100000) (m:=2*(R.length-1)+1) (λm J ν=>∃(S T:List Nat)(x y z:Option D),J=[some (wn R K),some (.int (nest:Nat)),some (.loc A),some (.loc B),x,y,z]/\m=2*(R.length-S.length)+T.length/\m<=100/\Jw R.length K nest S T/\(∀s∈S,s∉T->Cl K S s)/\KB [] μ ν/\ν[A]?=some (.dct (dkB S))/\ν[B]?=some (.lst (nat T))) (by omega)
  ⟨[nest],[nest],_,_,_,rfl,rfl,by omega,⟨by simp,λs hs=>by rw[List.mem_singleton.mp hs];exact hn,λs hs=>by rw[List.mem_singleton.mp hs];exact .refl,by simp,λt ht=>ht⟩,λs hs hno=>absurd hs hno,k1,gA1,gB1⟩ ?_
 rintro m J ν ⟨S,T,x,y,z,rfl,rfl,h100,jw,cl,kν,gA,gB⟩;refine zJ (zm (zd rfl (z5i (zo (zhw T [] (zK gB) zt ⟨_,rfl,λhT=>?_,λhT=>?_⟩)))))
 ·have hT:T≠[]:=by simpa using hT
  obtain⟨T',h,rfl⟩:∃T' h,T=T'++[h]:=⟨T.dropLast,T.getLast hT,(List.dropLast_concat_getLast hT).symm⟩
  have gA2:(ν++[tw.lst []])[A]?=some (.dct (dkB S)):=zK gA;have gB2:(ν++[tw.lst []])[B]?=some (.lst (nat T'++[.int (h:Nat)])):=by rw[zK gB,zld];rfl
  have k2:KB [] μ (ν++[tw.lst []]):=kν.app;show WS zxg _ _ _ _ _ _;generalize ν++[tw.lst []]=ν2 at gA2 gB2 k2;unfold zxg;refine zr (zhb (zqx (zd rfl ⟨_,_,rfl,gB2,zbA gB2 ?_⟩)));have hhS:h∈S:=jw.sub h (by simp);have hlen:=jw.len;refine zah (z2c (zm (zd rfl (w_c (zIc (.inl ⟨_,rfl,?_⟩))))))
  refine zWb (λi J ν=>∃(S1 T1:List Nat)(y z:Option D),J=[some (wn R K),some (.int (nest:Nat)),some (.loc A),some (.loc B),some (.int (h:Nat)),y,z]/\2*(R.length-S1.length)+T1.length+1<=2*(R.length-S.length)+(T'++[h]).length/\Jw R.length K nest S1 T1/\h∈S1/\(∀s∈S1,s∉T1->s≠h->Cl K S1 s)/\(∀k∈K.take i,h∈k->∀c∈k,c∈S1)/\KB [] μ ν/\ν[A]?=some (.dct (dkB S1))/\ν[B]?=some (.lst (nat T1)))
   ⟨S,T',_,_,rfl,by rw[length_append];exact yk _,⟨jw.nd,jw.lt,jw.jn,jw.one,λt ht=>jw.sub t (mem_append_left _ ht)⟩,hhS,λs hs hno hne=>cl s hs λhm=>by
    rcases List.mem_append.mp hm with hm|hm
    ·exact hno hm
    ·exact hne (List.mem_singleton.mp hm),by simp,k2.set (.inr (by omega)),zD gA2 (Yk hAB),zL gB2⟩ (λ_ _ _ _=>rfl) ?_ ?_
  ·rintro i z0 J ν3 hz ⟨S1,T1,y,z,rfl,hm,j1,hh1,cl1,pr1,k3,gA3,gB3⟩;rw[yh]at hz
   cases er:K[i]? with
   |none=>rw[er]at hz;cases hz
   |some ks=>
    rw[er]at hz;cases hz;have hks:=mem_of_getElem? er;have hkn:=(w.kn ks hks).2;have htk:K.take (i+1)=K.take i++[ks]:=by rw[take_succ,er];rfl
    refine zfd ?_;unfold zKi;refine zah (z2c (zd rfl (.inl ⟨_,rfl,?_⟩)))
    refine zWb (λj J ν=>∃(S1 T1:List Nat)(z:Option D),J=[some (wn R K),some (.int (nest:Nat)),some (.loc A),some (.loc B),some (.int (h:Nat)),some (tn ks),z]/\2*(R.length-S1.length)+T1.length+1<=2*(R.length-S.length)+(T'++[h]).length/\Jw R.length K nest S1 T1/\h∈S1/\(∀s∈S1,s∉T1->s≠h->Cl K S1 s)/\(∀k∈K.take i,h∈k->∀c∈k,c∈S1)/\(h∈ks->∀c∈ks.take j,c∈S1)/\KB [] μ ν/\ν[A]?=some (.dct (dkB S1))/\ν[B]?=some (.lst (nat T1)))
     ⟨S1,T1,_,rfl,hm,j1,hh1,cl1,pr1,by simp,k3,gA3,gB3⟩ (λ_ _ _ _=>rfl) ?_ ?_
    ·rintro j z0 J ν4 hz ⟨S2,T2,z,rfl,hm,j2,hh2,cl2,pr2,ps2,k4,gA4,gB4⟩;rw[yh]at hz
     cases ej:ks[j]? with
     |none=>rw[ej]at hz;cases hz
     |some o=>
      rw[ej]at hz;cases hz;have hom:=mem_of_getElem? ej;have hoR:=hkn o hom;have htj:ks.take (j+1)=ks.take j++[o]:=by rw[take_succ,ej];rfl
      have hl2:=j2.len;refine zfd ?_;unfold zzj;refine z0g (zJp (zJ (zm (zd rfl (zd rfl (zAx (S:=ks) rfl ⟨_,rfl,λhin=>?_,λhin=>⟨λh=>(by cases h),λ_=>zjb ?_⟩⟩))))))
      ·have hin:h∈ks:=of_decide_eq_true hin;refine zJ (zm (zd rfl (zd rfl (zar (zer gA4) ⟨_,rfl,λho=>?_,λho=>zjb ?_⟩))))
       ·rw[zor]at ho;have ho:o∉S2:=by simpa using ho
        refine zr (zco (w_c (z9u (zd rfl (zd rfl ⟨_,_,_,rfl,rfl,gA4,by unfold dkB;rw[length_map];omega,?_⟩)))));rw[zay];have eS:z4w S2 o=S2++[o]:=by unfold z4w;rw[if_neg ho]
        have gB5:(ν4.set A (.dct (dkB (z4w S2 o))))[B]?=some (.lst (nat T2)):=zD gB4 hAB;have gA5:(ν4.set A (.dct (dkB (z4w S2 o))))[A]?=some (.dct (dkB (S2++[o]))):=by rw[zL gA4,eS]
        have hT2:T2.length<=1000000:=by omega
        refine zNi (zWh (zd rfl ⟨_,_,rfl,gB5,zb (zd rfl (zo (zFg gB5 (by rw[length_map];exact hT2) ?_)))⟩));have nd':(S2++[o]).Nodup:=eS▸zty j2.nd
        have j3:Jw R.length K nest (S2++[o]) (T2++[o]):=by
         refine⟨nd',λs hs=>?_,λs hs=>?_,mem_append_left _ j2.one,λt ht=>?_⟩
         ·rcases List.mem_append.mp hs with hs|hs
          ·exact j2.lt s hs
          ·rw[List.mem_singleton.mp hs];exact hoR
         ·rcases List.mem_append.mp hs with hs|hs
          ·exact j2.jn s hs
          ·rw[List.mem_singleton.mp hs];exact .step (j2.jn h hh2) ⟨ks,hks,hin,hom⟩
         ·rcases List.mem_append.mp ht with ht|ht
          ·exact mem_append_left _ (j2.sub t ht)
          ·exact mem_append_right _ ht
        have hl3:=j3.len;refine⟨S2++[o],T2++[o],_,rfl,?_,j3,mem_append_left _ hh2,λs hs hno hne=>?_,λk hk hhk c hc=>mem_append_left _ (pr2 k hk hhk c hc),λ_ c hc=>?_,(k4.set (.inr (by omega))).set (.inr (by omega)),zD gA5 (Yk hAB),by rw[zL gB5,zld];rfl⟩
        ·rw[length_append]at hl3 ⊢;rw[length_append];simp only[length_singleton]at hl3 ⊢;simp only[length_append,length_singleton]at hm ⊢;omega
        ·rcases List.mem_append.mp hs with hs|hs
         ·intro c hc;exact mem_append_left _ (cl2 s hs (λht=>hno (mem_append_left _ ht)) hne c hc)
         ·exact absurd (mem_append_right _ hs) hno
        ·rw[htj]at hc;rcases List.mem_append.mp hc with hc|hc
         ·exact mem_append_left _ (ps2 hin c hc)
         ·exact mem_append_right _ hc
       ·rw[zor]at ho;have ho:o∈S2:=by simpa using ho
        refine⟨S2,T2,_,rfl,hm,j2,hh2,cl2,pr2,λ_ c hc=>?_,k4,gA4,gB4⟩;rw[htj]at hc;rcases List.mem_append.mp hc with hc|hc
        ·exact ps2 hin c hc
        ·rw[List.mem_singleton.mp hc];exact ho
      ·have hin:h∉ks:=of_decide_eq_false hin;exact⟨S2,T2,_,rfl,hm,j2,hh2,cl2,pr2,λh'=>absurd h' hin,k4,gA4,gB4⟩
    ·rintro J ν4 ⟨S2,T2,z,rfl,hm,j2,hh2,cl2,pr2,ps2,k4,gA4,gB4⟩;rw[length_map,take_length]at ps2;refine⟨S2,T2,_,_,rfl,hm,j2,hh2,cl2,λk hk hhk c hc=>?_,k4,gA4,gB4⟩;rw[htk]at hk;rcases List.mem_append.mp hk with hk|hk
     ·exact pr2 k hk hhk c hc
     ·rw[List.mem_singleton.mp hk]at hhk hc;exact ps2 hhk c hc
  ·rintro J ν3 ⟨S1,T1,y,z,rfl,hm,j1,hh1,cl1,pr1,k3,gA3,gB3⟩;rw[length_map,take_length]at pr1;refine⟨_,by omega,S1,T1,_,_,_,rfl,rfl,by omega,j1,λs hs hno=>?_,k3,gA3,gB3⟩
   by_cases hsh:s=h
   ·subst hsh;rintro c ⟨k,hk,h1,h2⟩;exact pr1 k hk h1 c h2
   ·exact cl1 s hs hno hsh
 ·have hT:T=[]:=by simpa using hT
  subst hT
  have hin:∀{b},Jn K nest b->b∈S:=λ{b} h=>by
   induction h with
   |refl=>exact jw.one
   |step hb e ih=>exact cl _ ih (by simp) _ e
  have hall:∀b,b∈zDb R.length K nest↔b∈S:=λb=>by
   rw[Tc];constructor
   ·exact λh=>hin h.2
   ·exact λh=>⟨jw.lt b h,jw.jn b h⟩
  have hlen:=jw.len;refine zwb (zn (zb (zd rfl (zo (zTv (zK gA) (zex (List.nodup_range.filter _) jw.nd hall) (zWv _ _ _) (by omega) ?_)))));have kk:tu μ ((ν++[tw.lst []])++[tw.lst (nat (zDb R.length K nest))]):=λa o e=>zK (zK (kν.at_ _ _ (by simp) e));refine q _ _ kk ?_ zt;have:=kν.len;simp;omega
def zth(n:Nat)(K:List (List Nat))(a:Nat):List Nat:=(yd K.length).filter λk=>decide ((K.getD k []).getD 0 0∈zDb n K a)
def ziy(h:0<ks.length)(q:Q (.int (ks.getD 0 0:Nat)) μ):W2 gIx (tn ks) (.int 0) μ Q:=zBb rfl (zTc h) q
def zmt(w:Wb L R K)(hL:L<=60)(hn:nest<R.length)(q:∀(a b:Nat)(μ':Mem),tu μ μ'->μ.length<=a->a<b->μ'[a]?=some (.lst (nat (zDb R.length K nest)))->μ'[b]?=some (.lst (nat (zth R.length K nest)))->Q (.tup [.loc a,.loc b]) μ'):WF zli [wn R K,.int (nest:Nat)] μ Q:=by
 have hkl:=w.kl;refine zsb rfl ?_;show WS zDi [some (wn R K),some (.int (nest:Nat)),none] μ _ _ _ _;unfold zDi;refine zr (zhb (zn (zb (zd rfl (zb (zd rfl (zo ?_)))))));refine zot w hL hn λa μ1 k1 ha ga=>?_;refine zwb (z7d (zb (zd rfl (zb (zAj (zif (zm (zd rfl (w_c (zIc (.inl ⟨_,rfl,?_⟩)))))))))));rw[zyb tn K []];refine⟨zrb (by simp;omega),?_⟩;refine zNd (λ(k:Nat)=>D.tup [.int k,tn (K.getD k [])]) (yd K.length) (λ(k:Nat)=>D.int k) (λk=>decide ((K.getD k []).getD 0 0∈zDb R.length K nest)) (λ_ _=>rfl) (λk hk μ2 k2=>?_) (λμ2 k2=>?_)
 ·have hk:k<K.length:=List.mem_range.mp hk;refine zaj (znd (zfd (znd (zfd (zfi ?_)))));unfold z9l zTl;exact zJ (zm (zm (zd rfl (w_c (ziy (by have:=(w.key hk).1;omega) (zd rfl (zAx (zk (k2 _ _ ga)) ⟨_,rfl,rfl,k2,λ_=>zd rfl ⟨rfl,k2⟩⟩)))))))
 ·refine zo (q a μ2.length _ (k1.trans k2.to) ha ?_ (zK (k2 _ _ ga)) zt);exact zx (k2 _ _ ga)
def sH(μ:Mem)(lo:Nat)(n:Nat)(K:List (List Nat))(l:Nat)(P:List Nat):Prop:=∃xs:List (Nat×Nat),μ[l]?=some (.lst (xs.map λp=>D.tup [.loc p.1,.loc p.2]))/\xs.length=P.length/\lo<=l/\∀(i:Nat)(p:Nat×Nat)(a:Nat),xs[i]?=some p->P[i]?=some a->lo<=p.1/\lo<=p.2/\p.1≠l/\p.2≠l/\μ[p.1]?=some (.lst (nat (zDb n K a)))/\μ[p.2]?=some (.lst (nat (zth n K a)))
def zCb(n:Nat)(K:List (List Nat)):List Nat:=(yd n).filter λa=>decide ((zDb n K a).getD 0 0=a)
def zJn(h:a<n):0<(zDb n K a).length:=List.length_pos_of_mem (Tc.mpr ⟨h,.refl⟩)
def z3q(w:Wb L R K)(hL:L<=60)(q:∀(l:Nat)(μ':Mem),tu μ μ'->sH μ' μ.length R.length K l (zCb R.length K)->Q (.loc l) μ'):WF zol [wn R K] μ Q:=by
 have hkl:=w.kl;have hrl:=w.rl;refine zsb rfl ?_;show WS z8n [some (wn R K),none] μ _ _ _ _;unfold z8n;refine zr (zhb (zAj (zVj (zb (zn (zb (zm (zd rfl (w_c (zae (zo (zhe rfl (zo ⟨_,rfl,by omega,?_,zrb ?_,?_⟩)))))))))))))
 ·rw[length_map];omega
 ·simp;omega
 rw[yQ,length_map];refine zgi (λi ys μ'=>tu μ μ'/\∃xs:List (Nat×Nat),ys=xs.map (λp=>D.tup [.loc p.1,.loc p.2])/\xs.length=i/\∀(j:Nat)(p:Nat×Nat),xs[j]?=some p->μ.length<=p.1/\μ.length<=p.2/\μ'[p.1]?=some (.lst (nat (zDb R.length K j)))/\μ'[p.2]?=some (.lst (nat (zth R.length K j)))) ⟨.refl,[],rfl,rfl,by simp⟩ (λ_ _ _ _=>rfl) ?_ ?_
 ·rintro i x ys μ1 hx ⟨k1,xs,rfl,hl,hxs⟩;obtain⟨hi,rfl⟩:=zAh hx;refine zfd (zWu ⟨λ_=>?_,λhf=>(by cases hf)⟩);unfold zyo;refine zn (zb (zd rfl (zb (zd rfl (zo ?_)))));refine zmt w hL hi λa b μ2 k2 ha hab ga gb=>⟨k1.trans k2,xs++[(a,b)],by rw[map_append];rfl,by simp[hl],λj p hj=>?_⟩
  have hm1:=k1.len
  by_cases hjl:j<xs.length
  ·rw[yn hjl]at hj;obtain⟨h1,h2,h3,h4⟩:=hxs j p hj;exact⟨h1,h2,k2 _ _ h3,k2 _ _ h4⟩
  ·have hj2:=(List.getElem?_eq_some_iff.mp hj).1;rw[length_append,length_singleton]at hj2;have ej:j=xs.length:=by omega
   subst ej;rw[yH (yk _),Nat.sub_self]at hj;cases hj;rw[hl];exact⟨by show μ.length<=a;omega,by show μ.length<=b;omega,ga,gb⟩
 rintro ys μ1 ⟨k1,xs,rfl,hl,hxs⟩;simp only[length_map,length_range]at hl;have hm1:=k1.len;have g1:(μ1++[tw.lst (xs.map λp=>D.tup [.loc p.1,.loc p.2])])[μ1.length]?=some (.lst (xs.map λp=>D.tup [.loc p.1,.loc p.2])):=zt;have k2:tu μ1 (μ1++[tw.lst (xs.map λp=>D.tup [.loc p.1,.loc p.2])]) :=.app;generalize hM:μ1++[tw.lst (xs.map λp=>D.tup [.loc p.1,.loc p.2])]=M2 at g1 k2;refine zwb (zAj (zif (zd rfl (.inr (.inr ⟨μ1.length,_,rfl,g1,?_⟩)))));rw[zyb (λ(p:Nat×Nat)=>D.tup [.loc p.1,.loc p.2]) xs (0,0),hl];refine⟨zrb (by simp;omega),?_⟩;refine zNd (λ(k:Nat)=>D.tup [.int k,D.tup [.loc (xs.getD k (0,0)).1,.loc (xs.getD k (0,0)).2]]) (yd R.length) (λ(k:Nat)=>D.tup [.loc (xs.getD k (0,0)).1,.loc (xs.getD k (0,0)).2]) (λa=>decide ((zDb R.length K a).getD 0 0=a)) (λμ' k=>z6 g1 k) (λk hk μ3 k3=>?_) (λμ3 k3=>?_)
 ·have hk:k<R.length:=List.mem_range.mp hk;obtain⟨h1,h2,h3,h4⟩:=hxs k (xs.getD k (0,0)) (by rw[getD_eq_getElem?_getD,yc (by omega)];rfl);refine zaj (znd (zfd (znd (zfd (zfi ?_)))));unfold zBp zQp;exact zJ (zm (zm (zm (zd rfl (w_c (zBb rfl rfl (w_c (zBb (zk (k3 _ _ (k2 _ _ h3))) (zTc (i:=0) (zJn hk)) (zd rfl (zAv (α:=Nat) ((zDb R.length K k).getD 0 0) k ⟨_,rfl,rfl,k3,λ_=>zd rfl ⟨rfl,k3⟩⟩))))))))))
 ·refine q _ _ (k1.trans (k2.trans k3.to)) ⟨(zCb R.length K).map λk=>xs.getD k (0,0),by rw[zt,map_map];rfl,by simp,by have:=k2.len;have:=k3.len;omega,λi p a e1 e2=>?_⟩;rw[yh,e2]at e1;cases e1
  have ha:a<R.length:=by
   have:=mem_of_getElem? e2;unfold zCb at this;exact List.mem_range.mp (List.mem_filter.mp this).1
  obtain⟨h1,h2,h3,h4⟩:=hxs a (xs.getD a (0,0)) (by rw[getD_eq_getElem?_getD,yc (by omega)];rfl);have g3:=k3 _ _ (k2 _ _ h3);have g4:=k3 _ _ (k2 _ _ h4);exact⟨h1,h2,yw (zx g3),yw (zx g4),zK g3,zK g4⟩
def zko(N k:List Nat):Bool:=k.any λh=>!decide (h∈N)
def zIb(R:List Nat)(K:List (List Nat))(N:List Nat):Nat:=zTj R N+(K.filter (zko N)).length
def zWs(lay:List (Option Nat)):Nat:=(lay.filter Option.isSome).length
def z9c(l:List α)(d:α)(p:α->Bool):(l.filter p).length=((yd l.length).filter λk=>p (l.getD k d)).length:=by
 have e:l=(yd l.length).map λk=>l.getD k d:=by
  refine ext_getElem? λi=>?_
  by_cases h:i<l.length
  ·simp[h]
  ·simp[h]
 conv=>lhs;rw[e,List.filter_map,length_map]
 rfl
def zsl(lay:List (Option Nat))(N:List Nat):zWs lay=(lyN lay N).length+((yd lay.length).filter λk=>(lay.getD k none).isSome && !decide (∃h∈N,lay.getD k none=some h)).length:=by
 unfold zWs lyN;rw[z9c lay none];rw[<-zGg (λk=>decide (∃h∈N,lay.getD k none=some h)) (λk=>(lay.getD k none).isSome && !decide (∃h∈N,lay.getD k none=some h)) (λk hk=>by rw[hk];simp)]
 congr 1
 refine filter_congr λk _=>?_
 cases e:lay.getD k none with
 |none=>simp
 |some h=>cases decide (∃g∈N,some h=some g)<;>rfl
def z7q(r:tG R K lay){k:Nat}(h:((lay.getD k none).isSome && !decide (∃h∈N,lay.getD k none=some h))=true):zko N (K.getD k [])=true:=by
 rw[yz]at h
 cases e:lay.getD k none with
 |none=>rw[e]at h;cases h.1
 |some g=>
  rw[e]at h
  have hk:k<lay.length:=xL λhle=>by
   rw[getD_eq_getElem?_getD,yx hle]at e;cases e
  have hh:g∈K.getD k []:=r.home k g (by
   simp[hk]at e;simp[hk,e])
  refine List.any_eq_true.mpr ⟨g,hh,?_⟩;have h2:=h.2;rw[xw,decide_eq_false_iff_not]at h2 ⊢;exact λhm=>h2 ⟨g,hm,rfl⟩
def z7w(r:tG R K lay)(nd:N.Nodup):zWs lay<=zIb R K N:=by
 rw[zsl lay N,z4h nd];unfold zIb;have h1:(N.map λh=>lay.count (some h)).sum<=zTj R N:=zgn λh _=>r.room h
 have h2:((yd lay.length).filter λk=>(lay.getD k none).isSome && !decide (∃h∈N,lay.getD k none=some h)).length<=(K.filter (zko N)).length:=by
  rw[z9c K [],<-r.len];exact(z9m (λk hk=>z7q r hk) _).length_le
 omega
def zLw{f g:α->Nat}{l:List α}(h:∀x∈l,f x=g x):(l.map f).sum=(l.map g).sum:=by
 rw[map_congr_left h]
def zsv(w:Wb L R K)(d:Done R K lay0 lay (yd K.length) C):zWs lay=zIb R K (zLc R.length K C):=by
 have r:=d.right;have nd:(zLc R.length K C).Nodup:=List.nodup_range.sublist filter_sublist;rw[zsl lay (zLc R.length K C),z4h nd];unfold zIb zTj;rw[z9c K [],<-r.len]
 congr 1
 ·refine zLw λh hh=>?_;obtain⟨k,hk,hm⟩:=(zbc w h).mp hh;have:=d.Tr.full k hk h hm;have:=r.room h;omega
 ·congr 1
  refine filter_congr λk hk=>?_;rw[xc];refine⟨λh=>z7q r h,λh=>?_⟩;obtain⟨g,hg,hn⟩:=List.any_eq_true.mp h;rw[xw,decide_eq_false_iff_not]at hn;have hkC:k∉C:=λhC=>hn ((zbc w g).mpr ⟨k,hC,hg⟩);rcases d.all k (by rw[<-r.len];exact hk) with hs|⟨hC,_⟩
  ·rw[yz,hs];refine⟨rfl,?_⟩;rw[xw,decide_eq_false_iff_not];rintro⟨g',hg',e⟩;obtain⟨k',hk',hm'⟩:=(zbc w g').mp hg';exact hkC (d.Tr.lies k' hk' g' hm' k e)
  ·exact absurd hC hkC
def zMs(h:∀k,k∈S↔k∈T):zLc n K S=zLc n K T:=by
 unfold zLc;refine filter_congr λx _=>decide_eq_decide.mpr ?_;constructor
 ·rintro⟨k,hk,hx⟩;exact⟨k,(h k).mp hk,hx⟩
 ·rintro⟨k,hk,hx⟩;exact⟨k,(h k).mpr hk,hx⟩
def zvu{k:List Nat}(hk:k.length<=1000)(hn:μ[n]?=some (.lst (nat N)))(q:∀μ',tu μ μ'->Q (.bl (zko N k)) μ'):WF ztc [tn k,.loc n] μ Q:=by
 refine zsb rfl ?_;show WS zAc [some (tn k),some (.loc n)] μ _ _ _ _;unfold zAc;refine zwb (zn (zb (zAj (z2c (zd rfl (.inl ⟨_,rfl,zrb (by rw[length_map];omega),?_⟩))))));refine zlf (λ(h:Nat)=>D.int h) k (λh =>.bl (!decide (h∈N))) (λ_ _=>rfl) (λh hh μ' kp=>?_) (λμ' kp=>?_)
 ·refine zfd ?_;unfold zQe;exact zm (zd rfl (zd rfl (zho (zk (kp _ _ hn)) ⟨rfl,kp,kp⟩)))
 ·refine zo (zoA (bs:=k.map λh=>!decide (h∈N)) (by rw[zt,map_map];rfl) ?_);rw[any_map];exact q _ kp.to
def zoj(w:Wb L R K)(hL:L<=1000)(hN:∀h∈N,h<R.length)(hl:N.length<=1000)(hn:μ[n]?=some (.lst (nat N)))(q:∀μ',tu μ μ'->Q (.int (zIb R K N:Nat)) μ'):WF zSg [wn R K,.loc n] μ Q:=by
 have hkl:=w.kl;refine zsb rfl ?_;show WS ztn [some (wn R K),some (.loc n)] μ _ _ _ _;unfold ztn;refine zwb (zm (zn (zb (zd rfl (zb (zd rfl (zo ?_)))))));refine zvp hn hN hl λμ1 k1=>?_;refine zn (zb (zAj (z2c (zm (zd rfl (w_c (zIc (.inl ⟨_,rfl,zrb (by rw[length_map];omega),?_⟩))))))));refine zNd tn K tn (zko N) (λ_ _=>rfl) (λk hk μ' kp=>?_) (λμ' kp=>?_)
 ·refine zfd ?_;unfold zDo zAp;have hk3:=(w.kn k hk).1;refine zJ (zn (zb (zd rfl (zb (zd rfl (zo ?_))))));exact zvu (by omega) (kp _ _ (k1 _ _ hn)) λμ'' k''=>⟨_,rfl,rfl,kp.trans k'',λ_=>zd rfl ⟨rfl,kp.trans k''⟩⟩
 ·refine zo (zhe (zk zt) (zku ?_))
  have e:((zTj R N:Nat):Int)+((((K.filter (zko N)).map tn).length:Nat):Int)=((zIb R K N:Nat):Int):=by
   rw[length_map];unfold zIb;rw[Int.natCast_add]
  rw[e];exact q _ (k1.trans kp.to)
def z1u(w:Wb L R K)(hL:L<=60)
 (q:∀(lay:List (Option Nat)) (N:List Nat) (l l2:Nat) (μ':Mem),tG R K lay->N.Sublist (yd R.length)->zWs lay=zIb R K N->tu μ μ'->μ.length<=l->μ.length<=l2->l≠l2->μ'[l]?=some (.lst (lay.map onD))->μ'[l2]?=some (.lst (nat N))->Q (.tup [.loc l,.loc l2]) μ'):WF zxo [wn R K] μ Q:=by
 have hkl:=w.kl;refine zsb rfl ?_;show WS zqr [some (wn R K),none] μ _ _ _ _;unfold zqr;refine zr (zhb (zn (zb (zd rfl (zo ?_)))));refine ztk w hL λlay C l l2 μ1 d k1 hl hl2 hne g g2=>?_;have hsub:(Tg K.length C).Sublist (yd K.length):=filter_sublist;have hsl:(Tg K.length C).length<=K.length:=by simpa using hsub.length_le
 refine zwb (z7d (zb (zm (zd rfl (w_c (zBb rfl rfl (zb (zn (zb (zd rfl (zb (zm (zd rfl (w_c (zBb rfl rfl (zo ?_))))))))))))))));refine zUj w g2 (λk hk=>by simpa using hsub.subset hk) (by omega) λl3 μ3 k3 hl3 g3=>zo ?_;refine q lay (zLc R.length K (Tg K.length C)) l l3 μ3 d.right filter_sublist ?_ (k1.trans k3) hl (by have:=k1.len;omega) (by have:=zx g;omega) (k3 _ _ g) g3;rw[zMs (zmf d.Tr.keys)];exact zsv w d
def zej{α:Type}(a b:α->Bool):∀l:List α,(l.filter λx=>a x||b x).length<=(l.filter a).length+(l.filter b).length
 |[]=>by simp
 |x::l=>by
  have ih:=zej a b l;simp only[filter_cons];cases a x<;>cases b x<;>simp<;>omega
def cT(W:List Nat)(lay:List (Option Nat))(t:Nat):Nat:=((yd lay.length).filter λk=>(lay.getD k none).isSome&&decide (t<=W.getD k 0)).length
def wsum(W:List Nat)(lay:List (Option Nat)):Nat:=((yd lay.length).map λk=>if(lay.getD k none).isSome then W.getD k 0 else 0).sum
def z8b(W:List Nat)(t:Nat):List Nat:=(yd W.length).filter λk=>decide (t<=W.getD k 0)
def z4d(K:List (List Nat))(W:List Nat)(t:Nat):List (List Nat):=(z8b W t).map λk=>K.getD k []
def zVi(hW:W.length=K.length):((z4d K W t).filter (zko N)).length=((yd K.length).filter λk=>decide (t<=W.getD k 0)&&zko N (K.getD k [])).length:=by
 unfold z4d z8b;rw[List.filter_map,length_map,List.filter_filter,hW]
 congr 1
 refine filter_congr λk _=>?_;simp only[xC];rw[Bool.and_comm]
def ztA(r:tG R K lay)(hW:W.length=K.length)(nd:N.Nodup):cT W lay t<=zIb R (z4d K W t) N:=by
 unfold zIb cT;rw[zVi hW,r.len]
 have h1:(lyN lay N).length<=zTj R N:=by
  rw[z4h nd];exact zgn λh _=>r.room h
 have h2:((yd K.length).filter λk=>(lay.getD k none).isSome&&decide (t<=W.getD k 0)).length<=((yd K.length).filter λk=>decide (∃h∈N,lay.getD k none=some h)||(decide (t<=W.getD k 0)&&zko N (K.getD k []))).length:=by
  refine(z9m (λk hk=>?_) _).length_le;rw[yz]at hk
  by_cases hm:∃h∈N,lay.getD k none=some h
  ·rw[decide_eq_true hm];rfl
  ·rw[decide_eq_false hm,Bool.false_or,yz];refine⟨hk.2,z7q r ?_⟩;rw[yz,decide_eq_false hm];exact⟨hk.1,rfl⟩
 have h3:=zej (λk=>decide (∃h∈N,lay.getD k none=some h)) (λk=>decide (t<=W.getD k 0)&&zko N (K.getD k [])) (yd K.length)
 have h4:((yd K.length).filter λk=>decide (∃h∈N,lay.getD k none=some h)).length=(lyN lay N).length:=by
  unfold lyN;rw[r.len]
 omega
def zjq(h:(lay.getD k none).isSome=true):k<lay.length:=xL λhle=>by
 rw[getD_eq_getElem?_getD,yx hle]at h;cases h
def zjv(w:Wb L R K)(r:tG R K lay)(s:Ta R K lay C)(hW:W.length=K.length)(hcov:∀k,k<K.length->t<=W.getD k 0->(lay.getD k none).isSome=true\/k∈C)(hl:∀k,(lay.getD k none).isSome=true->t<=W.getD k 0):cT W lay t=zIb R (z4d K W t) (zLc R.length K C):=by
 have nd:(zLc R.length K C).Nodup:=List.nodup_range.sublist filter_sublist
 have e1:cT W lay t=zWs lay:=by
  unfold cT zWs;rw[z9c lay none]
  congr 1
  refine filter_congr λk _=>?_
  cases h:(lay.getD k none).isSome with
  |false=>rfl
  |true=>rw[decide_eq_true (hl k h)];rfl
 rw[e1,zsl lay (zLc R.length K C),z4h nd];unfold zIb zTj;rw[zVi hW,r.len]
 congr 1
 ·refine zLw λh hh=>?_;obtain⟨k,hk,hm⟩:=(zbc w h).mp hh;have:=s.full k hk h hm;have:=r.room h;omega
 ·congr 1
  refine filter_congr λk hk=>?_;have hk:k<K.length:=by simpa using hk
  rw[xc];constructor
  ·intro h;rw[yz];refine⟨decide_eq_true (hl k ?_),z7q r h⟩;rw[yz]at h;exact h.1
  ·intro h;rw[yz]at h;obtain⟨g,hg,hn⟩:=List.any_eq_true.mp h.2;rw[xw,decide_eq_false_iff_not]at hn;have hkC:k∉C:=λhC=>hn ((zbc w g).mpr ⟨k,hC,hg⟩);rcases hcov k hk (of_decide_eq_true h.1) with hs|hC
   ·rw[yz,hs];refine⟨rfl,?_⟩;rw[xw,decide_eq_false_iff_not];rintro⟨g',hg',e⟩;obtain⟨k',hk',hm'⟩:=(zbc w g').mp hg';exact hkC (s.lies k' hk' g' hm' k e)
   ·exact absurd hC hkC
def zJu{α:Type}(f g:α->Nat):∀l:List α,(l.map λx=>f x+g x).sum=(l.map f).sum+(l.map g).sum
 |[]=>rfl
 |x::l=>by
  have:=zJu f g l;simp only[map_cons,sum_cons];omega
def zcr{α β:Type}(f:α->β->Nat)(m:List β):∀l:List α,(l.map λx=>(m.map λy=>f x y).sum).sum=(m.map λy=>(l.map λx=>f x y).sum).sum
 |[]=>by
  simp only[map_nil,List.sum_nil]
  induction m with
  |nil=>rfl
  |cons y m ih=>simp only[map_cons,sum_cons];omega
 |x::l=>by
  have:=zcr f m l;simp only[map_cons,sum_cons];rw[this,<-zJu]
def zwu{α:Type}(p:α->Bool):∀l:List α,(l.filter p).length=(l.map λx=>if p x then 1 else 0).sum
 |[]=>rfl
 |x::l=>by
  have:=zwu p l;simp only[filter_cons,map_cons,sum_cons];cases p x<;>simp<;>omega
def zNt(w:Nat):∀B:Nat,w<=B->((yd B).map λt=>if t+1<=w then 1 else 0).sum=w:=by
 have gen:∀B:Nat,((yd B).map λt=>if t+1<=w then 1 else 0).sum=min w B:=by
  intro B
  induction B with
  |zero=>simp
  |succ B ih=>
   rw[List.range_succ,map_append,List.sum_append,ih];simp only[map_cons,map_nil,sum_cons,List.sum_nil]
   split<;>omega
 intro B h;rw[gen];omega
def zll:∀(W:List Nat)(k:Nat),W.getD k 0<=W.sum
 |[],k=>by simp
 |x::W,0=>by simp
 |x::W,k+1=>by
  have:=zll W k;simp at this ⊢;omega
def z5k(W:List Nat)(lay:List (Option Nat)):wsum W lay=((yd W.sum).map λt=>cT W lay (t+1)).sum:=by
 unfold wsum cT
 have e:∀k,(if(lay.getD k none).isSome then W.getD k 0 else 0)=((yd W.sum).map λt=>if((lay.getD k none).isSome&&decide (t+1<=W.getD k 0))=true then 1 else 0).sum:=λk=>by
  cases h:(lay.getD k none).isSome with
  |false=>
   simp only[Bool.false_and,xl,if_false]
   induction yd W.sum with
   |nil=>rfl
   |cons y m ih=>simp only[map_cons,sum_cons];omega
  |true=>
   rw[if_pos rfl];refine(zNt (W.getD k 0) W.sum (zll W k)).symm.trans ?_
   congr 1
   refine map_congr_left λt _=>?_
   by_cases ht:t+1<=W.getD k 0
   ·rw[if_pos ht,if_pos (by rw[decide_eq_true ht];rfl)]
   ·rw[if_neg ht,if_neg (by rw[decide_eq_false ht];exact yv)]
 rw[map_congr_left λk _=>e k,zcr]
 congr 1
 refine map_congr_left λt _=>?_;rw[zwu]
def zcx{A B:List (Option Nat)}(h:∀t,1<=t->cT W A t<=cT W B t):wsum W A<=wsum W B:=by
 rw[z5k,z5k];exact zgn λt _=>h (t+1) (by omega)
def zNr(t:Nat):List Nat->List Nat
 |[]=>[t]
 |x::l=>if t<x then t::x::l else if t=x then x::l else x::zNr t l
def so{t y:Nat}:∀{l:List Nat},y∈zNr t l↔y=t\/y∈l
 |[]=>by simp[zNr]
 |x::l=>by
  unfold zNr
  split
  ·simp
  ·split
   ·rename_i e
    subst e;simp
   ·rw[mem_cons,so (l:=l),mem_cons];constructor
    ·rintro(h|h|h)
     ·exact .inr (.inl h)
     ·exact .inl h
     ·exact .inr (.inr h)
    ·rintro(h|h|h)
     ·exact .inr (.inl h)
     ·exact .inl h
     ·exact .inr (.inr h)
def zZt{t:Nat}:∀{l:List Nat},l.Pairwise (· < ·)->(zNr t l).Pairwise (· < ·)
 |[],_=>by simp[zNr]
 |x::l,h=>by
  rw[pairwise_cons]at h;unfold zNr
  split
  ·rename_i hx
   rw[pairwise_cons];refine⟨λy hy=>?_,List.pairwise_cons.mpr h⟩;rcases List.mem_cons.mp hy with rfl|hy
   ·exact hx
   ·exact Nat.lt_trans hx (h.1 y hy)
  ·split
   ·exact List.pairwise_cons.mpr h
   ·rw[pairwise_cons];refine⟨λy hy=>?_,zZt h.2⟩;rcases so.mp hy with rfl|hy
    ·omega
    ·exact h.1 y hy
def zSq{t:Nat}:∀{l:List Nat},(zNr t l).length<=l.length+1
 |[]=>by simp[zNr]
 |x::l=>by
  have:=zSq (t:=t) (l:=l);unfold zNr
  split
  ·simp
  ·split
   ·simp
   ·simp only[length_cons];omega
def upN(W:List Nat):List Nat:=(W.filter λt=>decide (0<t)).foldr zNr []
def TN:t∈upN W↔t∈W/\0<t:=by
 have gen:∀l:List Nat,t∈l.foldr zNr []↔t∈l:=by
  intro l
  induction l with
  |nil=>simp
  |cons x l ih=>rw[List.foldr_cons,so,ih,mem_cons]
 unfold upN;rw[gen,mem_filter,decide_eq_true_iff]
def zds(W:List Nat):(upN W).Pairwise (· < ·):=by
 unfold upN
 induction W.filter λt=>decide (0<t) with
 |nil=>simp
 |cons x l ih=>exact zZt ih
def zlr(W:List Nat):(upN W).length<=W.length:=by
 have gen:∀l:List Nat,(l.foldr zNr []).length<=l.length:=by
  intro l
  induction l with
  |nil=>simp
  |cons x l ih=>
   rw[List.foldr_cons];have:=zSq (t:=x) (l:=l.foldr zNr []);simp only[length_cons];omega
 exact yD (gen _) (length_filter_le _ _)
def zMc(W:List Nat):List Nat:=(upN W).reverse
def sr:t∈zMc W↔t∈W/\0<t:=by
 unfold zMc;rw[List.mem_reverse,TN]
def zrx(W:List Nat):(zMc W).Pairwise (λa b=>b<a):=by
 unfold zMc;rw[List.pairwise_reverse];exact zds W
def zRn(h:0<W.getD k 0):W.getD k 0∈W:=by
 rw[getD_eq_getElem?_getD]at h ⊢
 cases e:W[k]? with
 |none=>rw[e]at h;cases h
 |some x=>exact mem_of_getElem? e
def zhy{A B:List (Option Nat)}(h:∀t∈zMc W,cT W A t<=cT W B t):∀t,1<=t->cT W A t<=cT W B t:=by
 intro t ht
 cases e:(upN W).find? λx=>decide (t<=x) with
 |none=>
  have h0:cT W A t=0:=by
   unfold cT;rw[List.length_eq_zero_iff,List.filter_eq_nil_iff];intro k _ hk;rw[yz]at hk;have hk2:=of_decide_eq_true hk.2;have:=List.find?_eq_none.mp e (W.getD k 0) (TN.mpr ⟨zRn (by omega),by omega⟩);exact this (decide_eq_true hk2)
  omega
 |some u=>
  have hu:t<=u:=by
   have:=List.find?_some e;exact of_decide_eq_true this
  have hum:=List.mem_of_find?_eq_some e
  have same:∀k,t<=W.getD k 0↔u<=W.getD k 0:=λk=>by
   constructor
   ·intro hk;have hm:W.getD k 0∈upN W:=TN.mpr ⟨zRn (by omega),by omega⟩;obtain⟨_,as,bs,e2,h3⟩:=List.find?_eq_some_iff_append.mp e;rw[e2]at hm;rcases List.mem_append.mp hm with hm|hm
    ·have:=h3 _ hm;rw[xw,decide_eq_false_iff_not]at this;exact absurd hk this
    ·rcases List.mem_cons.mp hm with hm|hm
     ·omega
     ·have hp:=zds W;rw[e2,pairwise_append,pairwise_cons]at hp;exact Yq (hp.2.1.1 _ hm)
   ·intro hk;omega
  have hc:∀lay,cT W lay t=cT W lay u:=λlay=>by
   unfold cT
   congr 1
   refine filter_congr λk _=>?_;rw[decide_eq_decide.mpr (same k)]
  rw[hc,hc];exact h u (by unfold zMc;rw[List.mem_reverse];exact hum)
def zbu(hn:μ[n]?=some (.lst (lay.map onD)))(hl:lay.length<=1000)(q:∀(l:Nat)(μ':Mem),tu μ μ'->μ.length<=l->μ'[l]?=some (.lst (nat (zBd lay)))->Q (.loc l) μ'):WF zpn [.loc n] μ Q:=by
 refine zsb rfl ?_;show WS zQq [some (.loc n)] μ _ _ _ _;unfold zQq
 repeat walk_at "w"
 refine zif (zd rfl (.inr (.inr ⟨n,_,rfl,hn,zrb (by rw[zac,length_map];omega),?_⟩)));rw[zyb onD lay none];refine zNd (λ(k:Nat) =>.tup [.int k,onD (lay.getD k none)]) (yd lay.length) (λ(k:Nat)=>D.int k) (λk=>(lay.getD k none).isSome) (λμ' k=>z6 hn k) (λk hk μ' kp=>?_) (λμ' kp=>?_)
 ·repeat walk_at "w"
  refine zgf (zLh _) ?_
  repeat walk_at "w"
  refine⟨zPv _,kp,λ_=>?_⟩;unfold zKr;exact zd rfl ⟨rfl,kp⟩
 ·exact q _ _ kp.to kp.len zt
def zan(hn:μ[n]?=some (.lst (nat W)))(hl:W.length<=60)(q:∀(l:Nat)(μ':Mem),tu μ μ'->μ.length<=l->μ'[l]?=some (.lst (nat (zMc W)))->Q (.loc l) μ'):WF z2f [.loc n] μ Q:=by
 refine zsb rfl ?_;show WS zri [some (.loc n)] μ _ _ _ _;unfold zri;refine zwb (zEw (zrt (zAj (z2c (zd rfl (.inr (.inr ⟨n,_,rfl,hn,zrb (by rw[length_map];omega),?_⟩)))))));refine zNd (λ(t:Nat)=>D.int t) W (λ(t:Nat)=>D.int t) (λt=>decide (0<t)) (λμ' k=>z6 hn k) (λt ht μ' kp=>?_) (λμ' kp=>?_)
 ·refine zfd ?_;unfold zdm zkl;refine zJ (zm (zd rfl (w_c (z4n ⟨_,rfl,?_,kp,λ_=>zd rfl ⟨rfl,kp⟩⟩))));exact decide_eq_decide.mpr (by omega)
 ·have hmem:∀i:Int,i∈(upN W).map (λ(k:Nat)=>(k:Int))↔i∈(W.filter λt=>decide (0<t)).map (λ(k:Nat)=>(k:Int)):=λi=>by
   simp only[mem_map];constructor
   ·rintro⟨k,hk,rfl⟩;exact⟨k,by rw[mem_filter,decide_eq_true_iff];exact TN.mp hk,rfl⟩
   ·rintro⟨k,hk,rfl⟩;rw[mem_filter,decide_eq_true_iff]at hk;exact⟨k,TN.mpr hk,rfl⟩
  have hpw:((upN W).map (λ(k:Nat)=>(k:Int))).Pairwise (· < ·):=by
   rw[pairwise_map];exact(zds W).imp λh=>by omega
  have hul:=zlr W;have hfl:=length_filter_le (λt=>decide (0<t)) W;refine⟨_,(W.filter λt=>decide (0<t)).map (λ(k:Nat)=>(k:Int)),rfl,by rw[zt,map_map];rfl,by rw[length_map];omega,by rw[(zHk hmem hpw).length_eq,length_map];omega,?_⟩;rw[zWn hmem hpw,map_map];refine⟨_,_,rfl,zt,?_⟩
  have e:(List.map (D.int∘λ(k:Nat)=>(k:Int)) (upN W)).reverse=nat (zMc W):=by
   unfold zMc;rw[<-List.map_reverse];rfl
  rw[e];refine q _ _ kp.to.to.to ?_ zt;have:=kp.len;simp;omega
structure Bst(R:List Nat)(K:List (List Nat))(W:List Nat)(ts:List Nat)(lay:List (Option Nat))(C:List Nat):Prop where
 right:tG R K lay
 Tr:Ta R K lay C
 cov:∀k,k<K.length->W.getD k 0∈ts->(lay.getD k none).isSome=true\/k∈C
 lies:∀k,(lay.getD k none).isSome=true->W.getD k 0∈ts
def Bst.next{ts:List Nat}{C':List Nat}(b:Bst R K W ts lay C)(hks:∀k,k∈ks↔k<K.length/\W.getD k 0=t)(d:Done R K lay lay' ks C')(hsh:∀C0,Ta R K lay C0->Ta R K lay' C0):Bst R K W (ts++[t]) lay' (C++Tg K.length C'):=by
 refine⟨d.right,(hsh C b.Tr).app (d.Tr.congr (zmf d.Tr.keys)),λk hk hm=>?_,λk hs=>?_⟩
 ·rcases List.mem_append.mp hm with hm|hm
  ·rcases b.cov k hk hm with h|h
   ·exact .inl (d.old k h)
   ·exact .inr (mem_append_left _ h)
  ·rcases d.all k ((hks k).mpr ⟨hk,List.mem_singleton.mp hm⟩) with h|⟨h,_⟩
   ·exact .inl h
   ·exact .inr (mem_append_right _ ((zmf d.Tr.keys k).mpr h))
 ·by_cases hk:k∈ks
  ·exact mem_append_right _ (by rw[((hks k).mp hk).2];simp)
  ·cases e:lay.getD k none with
   |none=>
    rw[d.non k hk e]at hs;cases hs
   |some h=>exact mem_append_left _ (b.lies k (by rw[e];rfl))
def zuv{C':List Nat}{u:Nat}(r:tG R K lay)(hks:∀k,k∈ks↔k<K.length/\W.getD k 0=t)(d:Done R K lay lay' ks C')(hu:t<u):cT W lay' u=cT W lay u:=by
 unfold cT;rw[d.right.len,r.len]
 congr 1
 refine filter_congr λk _=>?_
 by_cases hw:u<=W.getD k 0
 ·have hk:k∉ks:=λh=>by
   have:=((hks k).mp h).2;omega
  congr 1
  cases e:lay.getD k none with
  |none=>rw[d.non k hk e]
  |some h=>rw[d.old k (by rw[e];rfl)];rfl
 ·rw[decide_eq_false hw,Xg,Xg]
def zGl{ts:List Nat}(pw:ts.Pairwise (λa b=>b<a)){i t x:Nat}(ht:ts[i]?=some t)(hx:x∈ts):x∈ts.take (i+1)↔t<=x:=by
 have hi:=(List.getElem?_eq_some_iff.mp ht).1;have et:ts[i]=t:=(List.getElem?_eq_some_iff.mp ht).2
 have hsplit:ts=ts.take i++(t::ts.drop (i+1)):=by
  rw[<-et,<-drop_eq_getElem_cons hi,take_append_drop]
 have htk:ts.take (i+1)=ts.take i++[t]:=by rw[take_succ,ht];rfl
 rw[hsplit,pairwise_append,pairwise_cons]at pw;rw[htk];constructor
 ·intro h;rcases List.mem_append.mp h with h|h
  ·exact Yq (pw.2.2 x h t (by simp))
  ·rw[List.mem_singleton.mp h];exact yk _
 ·intro h;rw[hsplit]at hx;rcases List.mem_append.mp hx with hx|hx
  ·exact mem_append_left _ hx
  ·rcases List.mem_cons.mp hx with hx|hx
   ·exact mem_append_right _ (by simp[hx])
   ·have:=pw.2.1.1 x hx;omega
abbrev Sh:=Nat×Nat×List Nat
def shD(e:Sh):D:=.tup [.int (e.1:Nat),.loc e.2.1]
structure sT(R:List Nat)(K:List (List Nat))(W:List Nat)(lay:List (Option Nat))(sh:List Sh):Prop where
 right:tG R K lay
 pos:∀k,(lay.getD k none).isSome=true->0<W.getD k 0
 fall:sh.map (·.1)=zMc W
 Sm:∀e∈sh,e.2.2.Sublist (yd R.length)/\cT W lay e.1=zIb R (z4d K W e.1) e.2.2
def sT.opt{sh:List Sh}(b:sT R K W lay sh)(hW:W.length=K.length)(r:tG R K lay'):∀t,1<=t->cT W lay' t<=cT W lay t:=zhy λt ht=>by
 rw[<-b.fall]at ht;obtain⟨e,he,rfl⟩:=List.mem_map.mp ht;obtain⟨h1,h2⟩:=b.Sm e he;rw[h2];exact ztA r hW (List.nodup_range.sublist h1)
def sT.sum{sh:List Sh}(b:sT R K W lay sh)(hW:W.length=K.length)(r:tG R K lay'):wsum W lay'<=wsum W lay:=zcx (b.opt hW r)
def zGt(w:Wb L R K)(hL:L<=30)(hW:W.length=K.length)(hwl:μ[wl]?=some (.lst (nat W)))
 (q:∀(lay:List (Option Nat)) (sh:List Sh) (l1 l2 l3:Nat) (μ':Mem),sT R K W lay sh->tu μ μ'->μ.length<=l1->μ.length<=l2->μ.length<=l3->l1≠l2->l1≠l3->l2≠l3->(∀e∈sh,μ.length<=e.2.1/\e.2.1≠l1/\e.2.1≠l2/\e.2.1≠l3/\μ'[e.2.1]?=some (.lst (nat e.2.2)))->μ'[l1]?=some (.lst (nat (zBd lay)))->μ'[l2]?=some (.lst (lay.map onD))->μ'[l3]?=some (.lst (sh.map shD))->Q (.tup [.loc l1,.loc l2,.loc l3]) μ'):WF zBo [wn R K,.loc wl] μ Q:=by
 have hkl:=w.kl;have hrl:=w.rl;refine zsb rfl ?_;show WS zFr [some (wn R K),some (.loc wl),none,none,none,none,none] μ _ _ _ _;unfold zFr;refine zr (zhb (zm (z5i (zb (w_c (zo (zn (zb (zm (zd rfl (w_c (zIc (zo (zhe rfl ?_))))))))))))));refine z2u zt (by rw[length_map];omega) (by omega) (by simp) ?_
 have e1:(yo (((K.map tn).length:Nat):Int).toNat [D.non]).flatten=(yo K.length (none:Option Nat)).map onD:=by
  rw[yQ,length_map,List.map_replicate,xv]
 rw[e1]
 have hrep:∀k,(yo K.length (none:Option Nat)).getD k none=none:=λk=>by
  rw[getD_eq_getElem?_getD,Yi]
  split<;>rfl
 have ka:tu μ ((μ++[tw.lst [D.non]])++[tw.lst ((yo K.length (none:Option Nat)).map onD)]):=tu.to tu.app;have ga:((μ++[tw.lst [D.non]])++[tw.lst ((yo K.length (none:Option Nat)).map onD)])[(μ++[tw.lst [D.non]]).length]?=some (.lst ((yo K.length (none:Option Nat)).map onD)):=zt;have hla:μ.length<=(μ++[tw.lst [D.non]]).length:=by simp
 generalize (μ++[tw.lst [D.non]])++[tw.lst ((yo K.length (none:Option Nat)).map onD)]=μa at ka ga;generalize (μ++[tw.lst [D.non]]).length=la at ga hla;have hlaa:=zx ga;refine zr (zhb (z5i (zo (zr (zhb (z5i (zo ?_)))))));have kb:tu μa ((μa++[tw.lst []])++[tw.lst []]):=tu.to tu.app;have gc:((μa++[tw.lst []])++[tw.lst []])[μa.length]?=some (.lst []):=zK zt;have gs:((μa++[tw.lst []])++[tw.lst []])[(μa++[tw.lst []]).length]?=some (.lst []):=zt;have hcs:(μa++[tw.lst []]).length=μa.length+1:=by simp
 rw[hcs]at gs ⊢;have hlb:((μa++[tw.lst []])++[tw.lst []]).length=μa.length+2:=by simp
 generalize (μa++[tw.lst []])++[tw.lst []]=μb at kb gc gs hlb;have hma:=ka.len;generalize hC:μa.length=c at gc gs hlaa hlb hma;have kab:=ka.trans kb;refine zr (zah (z2c (zn (zb (zd rfl (zo ?_))))));refine zan (kab _ _ hwl) (by omega) λfl μ1 k1 hfl gfl =>.inr (.inr ⟨fl,_,rfl,gfl,?_⟩);have k01:=kab.trans k1;have gl1:=k1 _ _ (kb _ _ ga);have gc1:=k1 _ _ gc;have gs1:=k1 _ _ gs;have gw1:=k01 _ _ hwl;have hwlt:=zx hwl
 have hfN:(zMc W).length<=K.length:=by
  unfold zMc;rw[length_reverse,<-hW];exact zlr W
 refine zWb (λi J ν=>∃(lay:List (Option Nat)) (C:List Nat) (sh:List Sh) (l:Nat) (x y:Option D),J=[some (wn R K),some (.loc wl),some (.loc l),some (.loc c),some (.loc (c+1)),x,y]/\Bst R K W ((zMc W).take i) lay C/\C.length<=i*K.length/\sh.map (·.1)=(zMc W).take i/\(∀e∈sh,e.2.2.Sublist (yd R.length)/\cT W lay e.1=zIb R (z4d K W e.1) e.2.2)/\(∀e∈sh,μ1.length<=e.2.1/\e.2.1≠l/\ν[e.2.1]?=some (.lst (nat e.2.2)))/\KB [c,c+1] μ1 ν/\(l=la\/μ1.length<=l)/\ν[c]?=some (.lst (nat C))/\ν[c+1]?=some (.lst (sh.map shD))/\ν[l]?=some (.lst (lay.map onD)))
  ⟨yo K.length none,[],[],la,_,_,rfl,⟨⟨by simp,λk h e=>?_,λh=>?_⟩,.nil,by simp,λk h=>?_⟩,by simp,by simp,by simp,by simp,.refl,.inl rfl,gc1,gs1,gl1⟩ (λi J ν ⟨_,_,_,_,_,_,_,_,_,_,_,_,k,_⟩=>Tp.mpr (k.at_ _ _ (by simp;omega) gfl)) ?_ ?_
 ·rw[Yi]at e
  split at e<;>cases e
 ·rw[List.count_replicate];simp
 ·rw[hrep k]at h;cases h
 ·rintro i z J ν hz ⟨lay,C,sh,l,x,y,rfl,b,hCl,hshm,hshow,hloc,kν,hl,gC,gS,gL⟩;rw[yh]at hz
  cases et:(zMc W)[i]? with
  |none=>rw[et]at hz;cases hz
  |some t=>
   rw[et]at hz;cases hz;have hif:=(List.getElem?_eq_some_iff.mp et).1;have htk:(zMc W).take (i+1)=(zMc W).take i++[t]:=by rw[take_succ,et];rfl
   have hpw:=zrx W;have htpos:=(sr.mp (mem_of_getElem? et)).2;have hlt1:=kν.len
   have hll:l≠c/\l≠c+1:=by
    have:=k1.len;rcases hl with rfl|hl<;>omega
   have ht_not:t∉(zMc W).take i:=λhm=>by
    have e:=take_append_drop i (zMc W);have pw:=hpw;rw[<-e,pairwise_append]at pw;have:=pw.2.2 t hm t (by rw[drop_eq_getElem_cons hif,(List.getElem?_eq_some_iff.mp et).2];simp);omega
   refine zfd ?_;unfold zhr;refine zr (zhb (zn (zb (zd rfl (zb (zd rfl (zb (zAj (zif (zd rfl (.inr (.inr ⟨wl,_,rfl,kν.at_ _ _ (by simp;omega) gw1,zrb (by rw[zac,length_map];omega),?_⟩))))))))))));rw[zyb (λ(n:Nat)=>D.int n) W 0];refine zNd (λ(k:Nat) =>.tup [.int k,.int (W.getD k 0:Nat)]) (yd W.length) (λ(k:Nat)=>D.int k) (λk=>decide (W.getD k 0=t)) (λμ' k=>Tp.mpr (k _ _ (kν.at_ _ _ (by simp;omega) gw1))) (λk hk μ' kp=>?_) (λμ' kp=>?_)
   ·refine zaj (znd (zfd (znd (zfd (zfi ?_)))));unfold zAr zBr;refine zJ (zm (zd rfl (zd rfl (zjo ⟨_,rfl,?_,kp,λ_=>zd rfl ⟨rfl,kp⟩⟩))));rw[xc,beq_iff_eq,decide_eq_true_iff];omega
   have hks:∀k,k∈(yd W.length).filter (λk=>decide (W.getD k 0=t))↔k<K.length/\W.getD k 0=t:=λk=>by
    rw[mem_filter,mem_range,decide_eq_true_iff,hW]
   have hknd:((yd W.length).filter (λk=>decide (W.getD k 0=t))).Nodup:=List.nodup_range.sublist filter_sublist;have gK:(μ'++[tw.lst (((yd W.length).filter (λk=>decide (W.getD k 0=t))).map λ(k:Nat)=>D.int k)])[μ'.length]?=some (.lst (nat ((yd W.length).filter (λk=>decide (W.getD k 0=t))))):=zt;have k2:tu ν (μ'++[tw.lst (((yd W.length).filter (λk=>decide (W.getD k 0=t))).map λ(k:Nat)=>D.int k)]):=kp.to;generalize (yd W.length).filter (λk=>decide (W.getD k 0=t))=ks at hks hknd gK k2;generalize μ'++[tw.lst (ks.map λ(k:Nat)=>D.int k)]=ν2 at gK k2;generalize μ'.length=kl at gK;refine zo (z1l (ks:=ks) w (by omega) b.right (k2 _ _ gL) gK (λk hk=>((hks k).mp hk).1) hknd (λk hk=>?_) λlay' C' l' l2 ν3 d hsh k3 hl' hl2 hne gl' gl2=>?_)
   ·cases e:lay.getD k none with
    |none=>rfl
    |some h=>
     have:=b.lies k (by rw[e];rfl);rw[((hks k).mp hk).2]at this;exact absurd this ht_not
   have b':=b.next hks d hsh;rw[<-htk]at b';refine zr (zhb (zm (zd rfl (w_c (zBb rfl rfl ?_)))));have hk23:=k2.len;have gC3:=k3 _ _ (k2 _ _ gC);have hCb:i*K.length<=29*30:=Nat.mul_le_mul (by omega) (by omega)
   have hsl:(Tg K.length C').length<=K.length:=by
    unfold Tg;refine yD (length_filter_le _ _) ?_;simp
   refine zr (zNi (zWh (zd rfl ⟨_,_,rfl,gC3,zb (zm (zd rfl (w_c (zBb rfl rfl (zo (zCw gC3 gl2 (by simp only[length_map];omega) ?_))))))⟩)));rw[<-zld];have hlt3:=zx gC3;have hc1:=zx gC
   have hl'c:l'≠c/\l'≠c+1:=by
    rcases hl' with ⟨rfl,_⟩|hl'
    ·exact hll
    ·have:=zx (k2 _ _ gS);omega
   have hl2c:l2≠c/\l2≠c+1:=by
    have:=zx (k2 _ _ gS);omega
   have g4:∀a o,a≠c->ν3[a]?=some o->(ν3.set c (tw.lst (nat (C++Tg K.length C'))))[a]?=some o:=λa o ha e=>zD e (Yk ha);have gC4:(ν3.set c (tw.lst (nat (C++Tg K.length C'))))[c]?=some (.lst (nat (C++Tg K.length C'))):=zL gC3;have hlen4:(ν3.set c (tw.lst (nat (C++Tg K.length C')))).length=ν3.length:=by simp
   generalize ν3.set c (tw.lst (nat (C++Tg K.length C')))=ν4 at g4 gC4 hlen4;have gS4:=g4 _ _ (by omega) (k3 _ _ (k2 _ _ gS));refine zNi (zWh (zd rfl ⟨_,_,rfl,gS4,?_⟩));refine zb (z7d (zb (zd rfl (zb (zn (zb (zd rfl (zb (zd rfl (zo ?_)))))))))) ;have hCk:∀k∈C++Tg K.length C',k<K.length:=b'.Tr.keys;refine zUj w gC4 hCk (by rw[length_append];omega) λnl ν5 k5 hnl gn=>zo (zo ?_);have gS5:=k5 _ _ gS4
   have hsl':sh.length<=K.length:=by
    have:=congrArg xM hshm;rw[length_map,length_take]at this;omega
   refine zFg gS5 (by rw[length_map];omega) ?_;have hν3:=k3.len;refine⟨lay',C++Tg K.length C',sh++[(t,nl,zLc R.length K (C++Tg K.length C'))],l',_,_,rfl,b',by rw[Nat.succ_mul,length_append];omega,by rw[map_append,hshm,htk];rfl,λe he=>?_,λe he=>?_,?_,?_,zD (k5 _ _ gC4) (by omega),?_,zD (k5 _ _ (g4 _ _ hl'c.1 gl')) (by omega)⟩
   ·rcases List.mem_append.mp he with he|he
    ·obtain⟨h1,h2⟩:=hshow e he;refine⟨h1,?_⟩;rw[zuv b.right hks d,h2];have hm:e.1∈(zMc W).take i:=by rw[<-hshm];exact List.mem_map.mpr ⟨e,he,rfl⟩
     have pw:=hpw;rw[<-take_append_drop i (zMc W),pairwise_append]at pw;exact pw.2.2 _ hm t (by rw[drop_eq_getElem_cons hif,(List.getElem?_eq_some_iff.mp et).2];simp)
    ·rw[List.mem_singleton.mp he];refine⟨filter_sublist,?_⟩;have hin:∀k,t<=W.getD k 0->W.getD k 0∈(zMc W).take (i+1):=λk hk=>(zGl hpw et (sr.mpr ⟨zRn (by omega),by omega⟩)).mpr hk;refine zjv w b'.right b'.Tr hW (λk hk hw=>b'.cov k hk (hin k hw)) λk hs=>?_;have hm:=b'.lies k hs;exact(zGl hpw et (Xk hm)).mp hm
   ·rcases List.mem_append.mp he with he|he
    ·obtain⟨h1,h2,h3⟩:=hloc e he
     have hec:e.2.1≠c/\e.2.1≠c+1:=by
      have:=k1.len;omega
     refine⟨h1,?_,zD (k5 _ _ (g4 _ _ hec.1 (k3 _ _ (k2 _ _ h3)))) (by omega)⟩;rcases hl' with ⟨rfl,_⟩|hl'
     ·exact h2
     ·have:=zx h3;omega
    ·rw[List.mem_singleton.mp he];have:=zx gl';refine⟨by show μ1.length<=nl;omega,by show nl≠l';omega,zD gn (by show c+1≠nl;have:=zx gS4;omega)⟩
   ·refine⟨by rw[length_set];have:=k5.len;omega,λa o ha e=>?_⟩;simp only[mem_cons,not_mem_nil,or_false,not_or]at ha;exact zD (k5 _ _ (g4 _ _ ha.1 (k3 _ _ (k2 _ _ (kν.at_ _ _ (by simpa using ha) e))))) (Yk ha.2)
   ·rcases hl' with ⟨rfl,_⟩|hl'
    ·exact hl
    ·exact .inr (by omega)
   ·rw[zL gS5,map_append];rfl
 ·rintro J ν ⟨lay,C,sh,l,x,y,rfl,b,hCl,hshm,hshow,hloc,kν,hl,gC,gS,gL⟩;rw[length_map,take_length]at b hshm;have hlay:=b.right.len;have hlν:=kν.len;have h1l:=k1.len;refine zwb (z7d (zb (zn (zb (zd rfl (zo ?_))))));refine zbu gL (by omega) λl1 ν2 k2 hl1 g1=>zb (zd rfl (zb (zd rfl (zo ?_))));have hLl:=zx gL;have hSl:=zx gS;refine q lay sh l1 l (c+1) ν2 ⟨b.right,λk hk=>(sr.mp (b.lies k hk)).2,hshm,hshow⟩ (λa o e=>k2 _ _ (kν.at_ _ _ (by have:=zx e;simp;omega) (k01 a o e))) (by omega) (by rcases hl with rfl|hl<;>omega) (by omega) (by omega) (by omega) (by rcases hl with rfl|hl<;>omega) (λe he=>?_) g1 (k2 _ _ gL) (k2 _ _ gS);obtain⟨h1,h2,h3⟩:=hloc e he;have:=zx h3;exact⟨by omega,by omega,h2,by omega,k2 _ _ h3⟩
def zrw(w:Wb L R K)(hW:W.length=K.length):Wb L R (z4d K W t):=by
 refine⟨w.rl,?_,λk hk=>?_⟩
 ·have h1:=w.kl;unfold z4d z8b;rw[length_map];have h2:=length_filter_le (λk=>decide (t<=W.getD k 0)) (yd W.length);rw[length_range]at h2;omega
 ·unfold z4d z8b at hk;obtain⟨i,hi,rfl⟩:=List.mem_map.mp hk;have:i<W.length:=by simpa using(List.mem_filter.mp hi).1
  exact w.key (by omega)
def ztv(hl:lay.length<=W.length):((zBd lay).filter λk=>decide (k∈z8b W t)).length=cT W lay t:=by
 unfold zBd cT;rw[List.filter_filter]
 congr 1
 refine filter_congr λk hk=>?_;have hk:k<lay.length:=by simpa using hk
 rw[Bool.and_comm]
 congr 1
 refine decide_eq_decide.mpr ?_;unfold z8b;rw[mem_filter,mem_range,decide_eq_true_iff];exact⟨λh=>h.2,λh=>⟨by omega,h⟩⟩
def zhs{sl nl:Nat}(w:Wb L R K)(hL:L<=60)(hW:W.length=K.length)(hlen:lay.length=K.length)(hN:N.Sublist (yd R.length))(hwl:μ[wl]?=some (.lst (nat W)))(hsl:μ[sl]?=some (.lst (nat (zBd lay))))(hnl:μ[nl]?=some (.lst (nat N)))
 (q:∀μ',tu μ μ'->Q (.bl (decide (cT W lay t=zIb R (z4d K W t) N))) μ'):WF zGh [wn R K,.loc wl,.loc sl,.tup [.int (t:Nat),.loc nl]] μ Q:=by
 have hkl:=w.kl;have hrl:=w.rl;have hNl:N.length<=R.length:=by simpa using hN.length_le
 refine zsb rfl ?_;show WS zDh [some (wn R K),some (.loc wl),some (.loc sl),some (.tup [.int (t:Nat),.loc nl]),none,none] μ _ _ _ _;unfold zDh;refine zr (zhb (zAj (zif (zd rfl (.inr (.inr ⟨wl,_,rfl,hwl,zrb (by rw[zac,length_map];omega),?_⟩))))));rw[zyb (λ(n:Nat)=>D.int n) W 0];refine zNd (λ(k:Nat) =>.tup [.int k,.int (W.getD k 0:Nat)]) (yd W.length) (λ(k:Nat)=>D.int k) (λk=>decide (t<=W.getD k 0)) (λμ' k=>z6 hwl k) (λk hk μ' kp=>?_) (λμ' kp=>?_)
 ·refine zaj (znd (zfd (znd (zfd (zfi ?_)))));unfold zrk zfk;refine zJ (zm (zd rfl (zm (zd rfl (w_c (zBb rfl rfl (z4n ⟨_,rfl,?_,kp,λ_=>zd rfl ⟨rfl,kp⟩⟩)))))));exact decide_eq_decide.mpr (by omega)
 have g1:(μ'++[tw.lst (((yd W.length).filter λk=>decide (t<=W.getD k 0)).map λ(k:Nat)=>D.int k)])[μ'.length]?=some (.lst (nat (z8b W t))):=zt;have k1:tu μ (μ'++[tw.lst (((yd W.length).filter λk=>decide (t<=W.getD k 0)).map λ(k:Nat)=>D.int k)]):=kp.to;generalize μ'++[tw.lst (((yd W.length).filter λk=>decide (t<=W.getD k 0)).map λ(k:Nat)=>D.int k)]=μ1 at g1 k1;generalize μ'.length=fl at g1
 have hwm:∀k∈z8b W t,k<K.length:=λk hk=>by
  unfold z8b at hk;have:k<W.length:=by simpa using(List.mem_filter.mp hk).1
  omega
 have hwlen:(z8b W t).length<=K.length:=by
  unfold z8b;refine yD (length_filter_le _ _) ?_;simp[hW]
 refine zr (zhb (z7d (zb (zm (zd rfl (w_c (zae (zb (zn (zb (zAj (z2c (zd rfl (.inr (.inr ⟨fl,_,rfl,g1,zrb (by rw[length_map];omega),?_⟩)))))))))))))));refine zlf (λ(k:Nat)=>D.int k) (z8b W t) (λk=>tn (K.getD k [])) (λμ' k=>z6 g1 k) (λk hk μ' kp=>?_) (λμ' kp=>?_)
 ·refine zfd ?_;unfold zpk;exact zm (zm (zd rfl (w_c (zIc (zd rfl (zEo (hwm k hk) ⟨rfl,kp,kp⟩))))))
 refine zo (zpg (zk zt) (zo ?_))
 have ea:D.tup [tn R,.tup ((z8b W t).map λk=>tn (K.getD k []))]=wn R (z4d K W t):=by
  unfold z4d;show _=D.tup [tn R,.tup (((z8b W t).map λk=>K.getD k []).map tn)];rw[map_map];rfl
 rw[ea];have k2:=k1.trans (kp.to (g:=[tw.lst ((z8b W t).map λk=>tn (K.getD k []))]));have g2:=zK (g:=[tw.lst ((z8b W t).map λk=>tn (K.getD k []))]) (kp _ _ g1);generalize μ'++[tw.lst ((z8b W t).map λk=>tn (K.getD k []))]=μ2 at k2 g2
 have hll:(zBd lay).length<=K.length:=by
  unfold zBd;refine yD (length_filter_le _ _) ?_;simp[hlen]
 refine zwb (zm (zn (zb (zAj (z2c (zd rfl (.inr (.inr ⟨sl,_,rfl,k2 _ _ hsl,zrb (by rw[length_map];omega),?_⟩))))))));refine zNd (λ(k:Nat)=>D.int k) (zBd lay) (λ(k:Nat)=>D.int k) (λk=>decide (k∈z8b W t)) (λμ' k=>z6 (k2 _ _ hsl) k) (λk hk μ' kp=>?_) (λμ' kp=>?_)
 ·refine zfd ?_;unfold zek zmk;exact zJ (zm (zd rfl (zd rfl (zAx (zk (kp _ _ g2)) ⟨_,rfl,rfl,kp,λ_=>zd rfl ⟨rfl,kp⟩⟩))))
 refine zo (zhe (zk zt) ?_);rw[length_map,ztv (by omega)];refine zn (zb (zd rfl (zb (zm (zd rfl (w_c (zBb rfl rfl (zo ?_))))))));refine zoj (zrw w hW) (by omega) (λh hh=>by simpa using hN.subset hh) (by omega) (zK (kp _ _ (k2 _ _ hnl))) λμ3 k3=>zjo ?_
 have e:(((cT W lay t:Nat):Int)==((zIb R (z4d K W t) N:Nat):Int))=decide (cT W lay t=zIb R (z4d K W t) N):=by
  rw[xc,beq_iff_eq,decide_eq_true_iff];omega
 rw[e];exact q _ (k2.trans (kp.to.trans k3))
def shB(R:List Nat)(K:List (List Nat))(W:List Nat)(lay:List (Option Nat))(e:Sh):Bool:=decide (cT W lay e.1=zIb R (z4d K W e.1) e.2.2)
def z4s{sh:List Sh}{l1 l2 l3:Nat}(w:Wb L R K)(hL:L<=60)(hW:W.length=K.length)(r:tG R K lay)(hf:sh.map (·.1)=zMc W)(hsh:∀e∈sh,e.2.2.Sublist (yd R.length)/\μ[e.2.1]?=some (.lst (nat e.2.2)))(hwl:μ[wl]?=some (.lst (nat W)))(g1:μ[l1]?=some (.lst (nat (zBd lay))))(g2:μ[l2]?=some (.lst (lay.map onD)))(g3:μ[l3]?=some (.lst (sh.map shD)))
 (q:∀μ',tu μ μ'->Q (.bl (sh.all (shB R K W lay))) μ'):WF zfj [wn R K,.loc wl,.tup [.loc l1,.loc l2,.loc l3]] μ Q:=by
 have hkl:=w.kl;have hlen:=r.len
 have hsl:sh.length<=K.length:=by
  have h1:=congrArg xM hf;rw[length_map]at h1;have h2:=zlr W;unfold zMc at h1;rw[length_reverse]at h1;omega
 refine zsb rfl ?_;show WS zsi [some (wn R K),some (.loc wl),some (.tup [.loc l1,.loc l2,.loc l3]),none,none] μ _ _ _ _;unfold zsi;refine zr (zhb (zm (zd rfl (w_c (zBb rfl rfl ?_)))));refine zr (zhb (zm (zd rfl (w_c (zBb rfl rfl ?_)))));refine zr (z0g (zBk (zJ (zm (zn (zb (zd rfl (zb (zm (zd rfl (w_c (zBb rfl rfl (zo ?_)))))))))))));refine zMk w (zEj _) (by rw[length_map];exact hlen) g2 λμ1 k1=>?_;rw[zzg r];refine w_c (zgf rfl ⟨_,rfl,λ_=>?_,λh=>(by cases h)⟩);refine zJ (zm (zn (zb (zm (zd rfl (w_c (zBb rfl rfl (zo ?_))))))));refine zbu (k1 _ _ g2) (by omega) λl4 μ2 k2 hl4 g4=>zd rfl (zhw (zBd lay) (zBd lay) g4 (k2 _ _ (k1 _ _ g1)) ⟨_,rfl,λh=>?_,λ_=>zjb ?_⟩)
 ·simp at h
 have k12:=k1.trans k2;refine zr (z0g (zJ (zm (zAj (z2c (zd rfl (.inr (.inr ⟨l3,_,rfl,k12 _ _ g3,zrb (by rw[length_map];omega),?_⟩))))))));refine zlf shD sh (λe =>.int (e.1:Nat)) (λμ' k=>z6 (k12 _ _ g3) k) (λe he μ' kp=>?_) (λμ' kp=>?_)
 ·refine zfd ?_;unfold zyl;exact zm (zd rfl (w_c (zBb rfl rfl ⟨rfl,kp,kp⟩)))
 have e5:sh.map (λe=>D.int (e.1:Nat))=nat (zMc W):=by
  rw[<-hf];show _=(sh.map (·.1)).map _;rw[map_map];rfl
 rw[e5];refine zn (zb (zd rfl (zo ?_)));refine zan (zK (kp _ _ (k12 _ _ hwl))) (by omega) λl5 μ3 k3 hl5 g5=>zhw (zMc W) (zMc W) (k3 _ _ zt) g5 ⟨_,rfl,λh=>?_,λ_=>zjb ?_⟩
 ·simp at h
 have k13:tu μ μ3:=k12.trans (kp.to.trans k3);refine zwb (zn (zb (zAj (z2c (zd rfl (.inr (.inr ⟨l3,_,rfl,k13 _ _ g3,zrb (by rw[length_map];omega),?_⟩)))))));refine zlf shD sh (λe =>.bl (shB R K W lay e)) (λμ' k=>z6 (k13 _ _ g3) k) (λe he μ' kp=>?_) (λμ' kp=>?_)
 ·refine zfd ?_;unfold zRl;have kk:=k13.trans kp;refine zn (zb (zd rfl (zb (zd rfl (zb (zd rfl (zb (zd rfl (zo ?_)))))))));exact zhs w hL hW hlen (hsh e he).1 (kk _ _ hwl) (kk _ _ g1) (kk _ _ (hsh e he).2) λμ4 k4=>⟨rfl,kp.trans k4,kp⟩
 ·refine zo (zUA (bs:=sh.map (shB R K W lay)) (by rw[zt,map_map];rfl) ?_);rw[all_map];exact q _ (k13.trans kp.to)
section
variable {O T R R' S N:List Nat}{K K':List (List Nat)}
def z4c(o:Ord O n):j∈zFf O S↔j<n/\O.idxOf j∈S:=by
 unfold zFf;rw[mem_filter,mem_range,o.len,decide_eq_true_iff]
def Ren.near(r:Ren O T R K R' K')(hS:∀k∈S,k<K.length):zLc R'.length K' (zFf T S)=zFf O (zLc R.length K S):=by
 unfold zLc;show _=(yd O.length).filter _;rw[r.rl,r.o.len];refine filter_congr λj hj=>decide_eq_decide.mpr ?_;have hj:=List.mem_range.mp hj;have hi:=r.o.tO hj;rw[mem_filter,mem_range,decide_eq_true_iff];constructor
 ·rintro⟨k',hk',hh⟩;obtain⟨h1,h2⟩:=(z4c r.t).mp hk';refine⟨hi,T.idxOf k',h2,?_⟩;rw[r.home _ (hS _ h2) _ hi,r.t.tK h1,r.o.tK hj];exact hh
 ·rintro⟨_,k,hk,hh⟩;have hkl:=hS k hk;refine⟨T.getD k 0,(z4c r.t).mpr ⟨r.t.lt hkl,by rw[r.t.tR hkl];exact hk⟩,?_⟩;have:=(r.home k hkl _ hi).mp hh;rw[r.o.tK hj]at this;exact this
def Ren.rooms(r:Ren O T R K R' K')(hN:N.Sublist (yd R.length)):zTj R' (zFf O N)=zTj R N:=by
 have p:=zWd r.o hN;unfold zTj;rw[((p.map λh=>R'.getD h 0).sum_nat),map_map]
 congr 1
 refine map_congr_left λh hh=>?_;exact r.room h (List.mem_range.mp (hN.subset hh))
def Ren.crowd(r:Ren O T R K R' K')(hS:S.Sublist (yd K.length)):z1e R' K' (zFf T S)=z1e R K S:=by
 unfold z1e;rw[r.near λk hk=>List.mem_range.mp (hS.subset hk),r.rooms (N:=zLc R.length K S) filter_sublist,(zWd r.t hS).length_eq,length_map]
variable {lay:List (Option Nat)}
def z3d(O T:List Nat)(lay:List (Option Nat)):List (Option Nat):=(yd lay.length).map λj=>z3f O (lay.getD (T.idxOf j) none)
def zrh(t:Ord T n)(hl:lay.length=n)(hk:k<n):(z3d O T lay).getD (T.getD k 0) none=z3f O (lay.getD k none):=by
 unfold z3d;have h1:=t.lt hk;rw[getD_eq_getElem?_getD,yh,yR (by omega)];show z3f O (lay.getD (T.idxOf (T.getD k 0)) none)=_;rw[t.tR hk]
def zwj(t:Ord T n)(hl:lay.length=n):(z3d O T lay).Perm (lay.map (z3f O)):=by
 have h1:((yd n).map λj=>T.idxOf j).Perm (yd n):=by
  have:=t.inv;refine(perm_ext_iff_of_nodup ?_ nodup_range).mpr λx=>?_
  ·have e:zMj T=(yd n).map λj=>T.idxOf j:=by unfold zMj;rw[t.len]
   rw[<-e];exact this.nd
  ·have e:zMj T=(yd n).map λj=>T.idxOf j:=by unfold zMj;rw[t.len]
   rw[<-e,this.mem x,mem_range]
 have h2:(z3d O T lay)=(((yd n).map λj=>T.idxOf j).map λi=>z3f O (lay.getD i none)):=by
  unfold z3d;rw[map_map,hl];rfl
 have h3:lay.map (z3f O)=(yd n).map λi=>z3f O (lay.getD i none):=by
  refine ext_getElem? λi=>?_;rw[yh,yh]
  by_cases hi:i<n
  ·rw[yR hi,yc (by omega)];simp[getD_eq_getElem?_getD,yc (show i<lay.length by omega)]
  ·rw[yx (by omega),yx (by simp;omega)];rfl
 rw[h2,h3];exact h1.map _
def zDj(o:Ord O m)(t:Ord T n)(hl:lay.length=n)(hh:h<m)(hx:∀x,some x∈lay->x<m):(z3d O T lay).count (some (O.getD h 0))=lay.count (some h):=by
 rw[(zwj t hl).count_eq];clear hl t
 induction lay with
 |nil=>rfl
 |cons a lay ih=>
  have ih:=ih λx hx'=>hx x (.tail _ hx');rw[map_cons,count_cons,count_cons,ih]
  congr 1
  have:(z3f O a==some (O.getD h 0))=(a==some h):=by
   apply Bool.eq_iff_iff.mpr;rw[beq_iff_eq,beq_iff_eq]
   cases a with
   |none=>simp[z3f]
   |some x=>
    have hxm:=hx x (.head _);simp only[z3f,YO,Xb];exact⟨λe=>o.inj hxm hh e,λe=>by rw[e]⟩
  rw[this]
variable {L:Nat}
def zCp(hk:k<K.length):(zbe O K).getD k []=(K.getD k []).map λh=>O.getD h 0:=by
 unfold zbe;rw[getD_eq_getElem?_getD,yh,yc hk,getD_eq_getElem?_getD,yc hk];rfl
def zmn{X:List (List Nat)}(t:Ord T X.length)(hk:k<X.length):(zLe T X).getD (T.getD k 0) []=X.getD k []:=by
 unfold zLe;rw[getD_eq_getElem?_getD,yh,yR (t.lt hk)];show X.getD (T.idxOf (T.getD k 0)) []=_;rw[t.tR hk]
def zXy(w:Wb L R K)(o:Ord O R.length)(t:Ord T K.length):Ren O T R K (zO O R) (zLe T (zbe O K)):=by
 have hnl:(zbe O K).length=K.length:=by unfold zbe;simp
 have t':Ord T (zbe O K).length:=by rw[hnl];exact t
 refine⟨o,t,by unfold zO;simp,by unfold zLe;simp[hnl],λh hh=>?_,λk hk h hh=>?_,λk hk h hh=>(w.key hk).2 h hh,λk hk h hh=>?_⟩
 ·unfold zO;rw[getD_eq_getElem?_getD,yh,yR (o.lt hh)];show R.getD (O.idxOf (O.getD h 0)) 0=_;rw[o.tR hh]
 ·rw[zmn t' (by rw[hnl];exact hk),zCp hk];constructor
  ·intro hm;exact List.mem_map.mpr ⟨h,hm,rfl⟩
  ·intro hm;obtain⟨x,hx,e⟩:=List.mem_map.mp hm;have:=o.inj ((w.key hk).2 x hx) hh e;rw[<-this];exact hx
 ·have e:k=T.getD (T.idxOf k) 0:=(t.tK hk).symm;have hi:=t.tO hk;rw[e,zmn t' (by rw[hnl];exact hi),zCp hi]at hh;obtain⟨x,hx,rfl⟩:=List.mem_map.mp hh;exact o.lt ((w.key hi).2 x hx)
def zwt{k:List Nat}:zko N k=true↔∃h∈k,h∉N:=by
 unfold zko;simp
def Ren.bey(r:Ren O T R K R' K'){k:Nat}(hk:k<K.length):zko (zFf O N) (K'.getD (T.getD k 0) [])=zko N (K.getD k []):=by
 apply Bool.eq_iff_iff.mpr;rw[zwt,zwt];constructor
 ·rintro⟨h',hh,hn⟩;have hlt:h'<R.length:=r.lt' _ (r.t.lt hk) h' hh;have hi:=r.o.tO hlt;refine⟨O.idxOf h',?_,λhm=>hn ((z4c r.o).mpr ⟨hlt,hm⟩)⟩;rw[r.home k hk _ hi,r.o.tK hlt];exact hh
 ·rintro⟨h,hh,hn⟩;have hlt:=r.lt k hk h hh;refine⟨O.getD h 0,(r.home k hk h hlt).mp hh,λhm=>?_⟩;have:=((z4c r.o).mp hm).2;rw[r.o.tR hlt]at this;exact hn this
def Ren.bound(r:Ren O T R K R' K')(hN:N.Sublist (yd R.length)):zIb R' K' (zFf O N)=zIb R K N:=by
 unfold zIb;rw[r.rooms hN,z9c K' [] (zko (zFf O N)),z9c K [] (zko N)]
 congr 1
 have e:((yd K'.length).filter λk=>zko (zFf O N) (K'.getD k []))=zFf T ((yd K.length).filter λk=>zko N (K.getD k [])):=by
  show _=(yd T.length).filter _;rw[r.kl,r.t.len];refine filter_congr λj hj=>?_;have hj:=List.mem_range.mp hj;have hi:=r.t.tO hj;have:=r.bey (N:=N) hi;rw[r.t.tK hj]at this;rw[this];apply Bool.eq_iff_iff.mpr;rw[decide_eq_true_iff,mem_filter,mem_range];exact⟨λh=>⟨hi,h⟩,λh=>h.2⟩
 rw[e,(zWd r.t filter_sublist).length_eq,length_map]
def Ren.right(r:Ren O T R K R' K')(hx:∀x,some x∈lay->x<R.length)(h:tG R K lay):tG R' K' (z3d O T lay) where
 len:=by unfold z3d;rw[length_map,length_range,h.len,r.kl]
 home:=λk' h' e=>by
  have hk':k'<K.length:=by
   have:=(List.getElem?_eq_some_iff.mp e).1;unfold z3d at this;rw[length_map,length_range,h.len]at this;exact this
  have hi:=r.t.tO hk';have e2:=zrh (O:=O) r.t h.len hi;rw[r.t.tK hk',getD_eq_getElem?_getD,e]at e2
  cases hl:lay.getD (T.idxOf k') none with
  |none=>rw[hl]at e2;cases e2
  |some x=>
   rw[hl]at e2;cases e2
   have hxk:lay[T.idxOf k']?=some (some x):=by
    rw[getD_eq_getElem?_getD,yc (by rw[h.len];exact hi)]at hl;rw[yc (by rw[h.len];exact hi)];exact congrArg some hl
   have hm:=h.home _ _ hxk;have:=(r.home _ hi x (r.lt _ hi x hm)).mp hm;rw[r.t.tK hk']at this;exact this
 room:=λh'=>by
  by_cases hlt:h'<R.length
  ·have hi:=r.o.tO hlt;have:=zDj r.o r.t h.len hi hx;rw[r.o.tK hlt]at this;rw[this];have hr:=r.room _ hi;rw[r.o.tK hlt]at hr;rw[hr];exact h.room _
  ·have:(z3d O T lay).count (some h')=0:=List.count_eq_zero.mpr λhm=>by
    have hm:=(zwj r.t h.len).mem_iff.mp hm;obtain⟨a,ha,e⟩:=List.mem_map.mp hm
    cases a with
    |none=>cases e
    |some x=>
     cases e;exact hlt (r.o.lt (hx x ha))
   omega
def Ren.jn1(r:Ren O T R K R' K'){a b:Nat}(h:Jn K a b)(ha:a<R.length):b<R.length/\Jn K' (O.getD a 0) (O.getD b 0):=by
 induction h with
 |refl=>exact⟨ha,.refl⟩
 |@step b c _ e ih=>
  obtain⟨k,hk,h1,h2⟩:=e;obtain⟨i,hi⟩:=List.mem_iff_getElem?.mp hk;have hlt:=(List.getElem?_eq_some_iff.mp hi).1;have hg:K.getD i []=k:=by rw[getD_eq_getElem?_getD,hi];rfl
  rw[<-hg]at h1 h2;have hb:=r.lt i hlt b h1;have hc:=r.lt i hlt c h2;have hT:T.getD i 0<K'.length:=by rw[r.kl];exact r.t.lt hlt
  have hm:K'.getD (T.getD i 0) []∈K':=by
   rw[getD_eq_getElem?_getD,yc hT];exact getElem_mem hT
  exact⟨hc,.step ih.2 ⟨_,hm,(r.home i hlt b hb).mp h1,(r.home i hlt c hc).mp h2⟩⟩
def Ren.jn(r:Ren O T R K R' K'){a b:Nat}(ha:a<R.length)(hb:b<R.length):Jn K' (O.getD a 0) (O.getD b 0)↔Jn K a b:=by
 refine⟨λh=>?_,λh=>(r.jn1 h ha).2⟩;have:=(r.inv.jn1 h (by rw[r.rl];exact r.o.lt ha)).2;rw[zOg r.o (r.o.lt ha),zOg r.o (r.o.lt hb),r.o.tR ha,r.o.tR hb]at this;exact this
def Ren.comp(r:Ren O T R K R' K'){a:Nat}(ha:a<R.length):zDb R'.length K' (O.getD a 0)=zFf O (zDb R.length K a):=by
 unfold zDb;show _=(yd O.length).filter _;rw[r.rl,r.o.len];refine filter_congr λj hj=>?_;have hj:=List.mem_range.mp hj;have hi:=r.o.tO hj;apply Bool.eq_iff_iff.mpr;rw[zCl,decide_eq_true_iff,mem_filter,mem_range,zCl];have:=r.jn ha hi;rw[r.o.tK hj]at this;rw[this];exact⟨λh=>⟨hi,h⟩,λh=>h.2⟩
def zdw(hk:k<K.length)(h0:0<(K.getD k []).length)(hlt:∀x∈K.getD k [],x<n)(hm:h∈K.getD k []):(K.getD k []).getD 0 0∈zDb n K a↔h∈zDb n K a:=by
 have h1:(K.getD k []).getD 0 0∈K.getD k []:=by
  rw[getD_eq_getElem?_getD (l:=K.getD k []),yc h0];exact getElem_mem h0
 have hkK:K.getD k []∈K:=by
  rw[getD_eq_getElem?_getD,yc hk];exact getElem_mem hk
 rw[Tc,Tc];constructor
 ·rintro⟨_,h2⟩;exact⟨hlt h hm,.step h2 ⟨_,hkK,h1,hm⟩⟩
 ·rintro⟨_,h2⟩;exact⟨hlt _ h1,.step h2 ⟨_,hkK,hm,h1⟩⟩
def Ren.keys(r:Ren O T R K R' K')(hp:∀k<K.length,0<(K.getD k []).length)(hp':∀k<K'.length,0<(K'.getD k []).length){a:Nat}(ha:a<R.length):zth R'.length K' (O.getD a 0)=zFf T (zth R.length K a):=by
 unfold zth;show _=(yd T.length).filter _;rw[r.kl,r.t.len];refine filter_congr λj hj=>?_;have hj:=List.mem_range.mp hj;have hi:=r.t.tO hj;apply Bool.eq_iff_iff.mpr;rw[decide_eq_true_iff,decide_eq_true_iff,mem_filter,mem_range,decide_eq_true_iff];have h0:=hp _ hi
 have hm:(K.getD (T.idxOf j) []).getD 0 0∈K.getD (T.idxOf j) []:=by
  rw[getD_eq_getElem?_getD (l:=K.getD (T.idxOf j) []),yc h0];exact getElem_mem h0
 have hx:=r.lt _ hi _ hm;have hm':=(r.home _ hi _ hx).mp hm;rw[r.t.tK hj]at hm';have hjk:j<K'.length:=by rw[r.kl];exact hj
 rw[zdw (n:=R'.length) (a:=O.getD a 0) hjk (hp' j hjk) (λx hx=>by rw[r.rl];exact r.lt' j hj x hx) hm',r.comp ha,z4c r.o,r.o.tR hx];exact⟨λh=>⟨hi,h.2⟩,λh=>⟨r.o.lt hx,h.2⟩⟩
def Ren.laid(r:Ren O T R K R' K')(hl:lay.length=K.length):zBd (z3d O T lay)=zFf T (zBd lay):=by
 have hll:(z3d O T lay).length=K.length:=by unfold z3d;rw[length_map,length_range,hl]
 unfold zBd;show _=(yd T.length).filter _;rw[hll,r.t.len];refine filter_congr λj hj=>?_;have hj:=List.mem_range.mp hj;have hi:=r.t.tO hj;have e:=zrh (O:=O) r.t hl hi;rw[r.t.tK hj]at e;apply Bool.eq_iff_iff.mpr;rw[decide_eq_true_iff,mem_filter,mem_range,hl,e];cases lay.getD (T.idxOf j) none<;>simp[z3f,hi]
end
def zey{hs:List Int}(h:μ[n]?=some (.lst xs))(hh:xs.mapM (zjp μ)=some hs)(hl:xs.length<64)(nd:hs.Nodup)(q:Q (.loc μ.length) (μ++[.lst (z3l xs hs)])):WF zOm [.loc n] μ Q :=
 ⟨_,_,by simp only[zOm,h,hh,yr,decide_eq_true (show xs.length<64/\hs.Nodup from⟨hl,nd⟩),cond_true],q⟩
def zyy{x:Nat}(h:μ[a]?=some (.lst (nat (x::S)))):zjp μ (.tup [.loc a,.loc b])=some ((x:Nat):Int):=by
 have e:nat (x::S)=D.int ((x:Nat):Int)::(S.map λ(k:Nat)=>(k:Int)).map D.int:=by
  rw[map_map];rfl
 rw[e]at h;simp only[zjp,h,zhj,YO]
section
variable {n:Nat}{K:List (List Nat)}
def zXn(h:Jn K a b):zDb n K a=zDb n K b:=by
 unfold zDb;refine filter_congr λx _=>?_;apply Bool.eq_iff_iff.mpr;rw[zCl,zCl];exact⟨λz=>h.symm.trans z,λz=>h.trans z⟩
def zmj(ha:a<n):(zDb n K a).getD 0 0∈zDb n K a:=by
 have h0:=zJn (K:=K) ha;rw[getD_eq_getElem?_getD,yc h0];exact getElem_mem h0
def Tj:a∈zCb n K↔a<n/\(zDb n K a).getD 0 0=a:=by
 unfold zCb;rw[mem_filter,mem_range,decide_eq_true_iff]
def zcn(ha:a<n):(zDb n K a).getD 0 0∈zCb n K:=by
 obtain⟨h1,h2⟩:=Tc.mp (zmj (K:=K) ha);exact Tj.mpr ⟨h1,by rw[<-zXn h2]⟩
variable {O T R R':List Nat}{K':List (List Nat)}
def Ren.least(r:Ren O T R K R' K'):((zCb R.length K).map λa=>(zDb R'.length K' (O.getD a 0)).getD 0 0).Perm (zCb R'.length K'):=by
 refine(perm_ext_iff_of_nodup ?_ (List.nodup_range.filter _)).mpr λx=>⟨λhx=>?_,λhx=>?_⟩
 ·rw[List.Nodup,pairwise_map];refine xD (λ{a b} ha hb hab e=>hab ?_) (List.nodup_range.filter (λa=>decide ((zDb R.length K a).getD 0 0=a)));obtain⟨a1,a2⟩:=Tj.mp (show a∈zCb R.length K from ha);obtain⟨b1,b2⟩:=Tj.mp (show b∈zCb R.length K from hb);have ha':O.getD a 0<R'.length:=by rw[r.rl];exact r.o.lt a1
  have hb':O.getD b 0<R'.length:=by rw[r.rl];exact r.o.lt b1
  have j1:=(Tc.mp (zmj (K:=K') ha')).2;have j2:=(Tc.mp (zmj (K:=K') hb')).2;rw[e]at j1;have:=(r.jn a1 b1).mp (j1.trans j2.symm);rw[<-a2,<-b2,zXn this]
 ·obtain⟨a,ha,rfl⟩:=List.mem_map.mp hx;obtain⟨a1,_⟩:=Tj.mp ha;exact zcn (by rw[r.rl];exact r.o.lt a1)
 ·obtain⟨x1,x2⟩:=Tj.mp hx;have x1':x<R.length:=by rw[<-r.rl];exact x1
  have hb:=r.o.tO x1';have hm:=zmj (K:=K) hb;obtain⟨m1,m2⟩:=Tc.mp hm;refine List.mem_map.mpr ⟨_,zcn hb,?_⟩;have j:=(r.jn hb m1).mpr m2;rw[r.o.tK x1']at j;rw[<-zXn j];exact x2
end
def pPt(n:Nat)(K:List (List Nat))(a:Nat):Xh:=.tuple [.list ((zDb n K a).map Enc.p),.list ((zth n K a).map Enc.p)]
def eqvPt{n:Nat}{K:List (List Nat)}:∀P:List Nat,YH (P.map (pPt n K)) (P.map (pPt n K))=true
 |[]=>by simp[YH]
 |a::P=>by
  have e:∀X:List Nat,Yu (.list (X.map Enc.p)) (.list (X.map Enc.p))=true:=λX=>by rw[Yu];exact(z8f X X).mpr rfl
  rw[map_cons,YH,eqvPt P,Bool.and_true];unfold pPt;rw[Yu,YH,e,YH,e,YH];rfl
def zTw(e:μ[n]?=some (.lst (nat S))):toP μ 6 (.loc n)=some (.list (S.map Enc.p)):=by
 show(match μ[n]? with
  |some (.lst ds)=>(ds.mapM (toP μ 5)).bind λps=>some (PyData.list ps)
  |_=>none)=_
 rw[e];show((S.map Enc.d).mapM (toP μ (4+Enc.dep Nat))).bind (λps=>some (PyData.list ps))=_;rw[sX μ 4 S];rfl
def PrA(μ:Mem)(n:Nat)(K:List (List Nat))(l:Nat)(P:List Nat):Prop:=∃xs:List (Nat×Nat),μ[l]?=some (.lst (xs.map λp=>D.tup [.loc p.1,.loc p.2]))/\xs.length=P.length/\∀(i:Nat)(p:Nat×Nat)(a:Nat),xs[i]?=some p->P[i]?=some a->μ[p.1]?=some (.lst (nat (zDb n K a)))/\μ[p.2]?=some (.lst (nat (zth n K a)))
def PrA.keep{μ:Mem}{P:List Nat}(h:PrA μ n K l P)(k:tu μ μ'):PrA μ' n K l P:=by
 obtain⟨xs,e,hl,hx⟩:=h;exact⟨xs,k _ _ e,hl,λi p a e1 e2=>⟨k _ _ (hx i p a e1 e2).1,k _ _ (hx i p a e1 e2).2⟩⟩
def sH.pr{lo:Nat}{P:List Nat}(h:sH μ lo n K l P):PrA μ n K l P:=by
 obtain⟨xs,e,hl,_,hx⟩:=h;exact⟨xs,e,hl,λi p a e1 e2=>(hx i p a e1 e2).2.2.2.2⟩
def mapPt{μ:Mem}{n:Nat}{K:List (List Nat)}:∀(xs:List (Nat×Nat)) (P:List Nat),xs.length=P.length->(∀(i:Nat)(p:Nat×Nat)(a:Nat),xs[i]?=some p->P[i]?=some a->μ[p.1]?=some (.lst (nat (zDb n K a)))/\μ[p.2]?=some (.lst (nat (zth n K a))))->(xs.map λp=>D.tup [.loc p.1,.loc p.2]).mapM (toP μ 7)=some (P.map (pPt n K))
 |[],[],_,_=>rfl
 |[],_::_,h,_=>by simp at h
 |_::_,[],h,_=>by simp at h
 |p::xs,a::P,h,hx=>by
  obtain⟨h1,h2⟩:=hx 0 p a rfl rfl
  have e:toP μ 7 (.tup [.loc p.1,.loc p.2])=some (pPt n K a):=by
   show(([D.loc p.1,D.loc p.2]).mapM (toP μ 6)).bind (λps=>some (PyData.tuple ps))=_;rw[mapM_cons,mapM_cons,List.mapM_nil,zTw h1,zTw h2];rfl
  rw[map_cons,mapM_cons,e,mapPt xs P (by simpa using h) λi q b e1 e2=>hx (i+1) q b (by simpa using e1) (by simpa using e2)];rfl
def PrA.toP{P:List Nat}(h:PrA μ n K l P):M.toP μ 8 (.loc l)=some (.list (P.map (pPt n K))):=by
 obtain⟨xs,e,hl,hx⟩:=h
 show(match μ[l]? with
  |some (.lst ds)=>(ds.mapM (M.toP μ 7)).bind λps=>some (PyData.list ps)
  |_=>none)=_
 rw[e];show((xs.map λp=>D.tup [.loc p.1,.loc p.2]).mapM (M.toP μ 7)).bind (λps=>some (PyData.list ps))=_;rw[mapPt xs P hl hx];rfl
def zvz{P:List Nat}(ha:PrA μ n K a P)(hb:PrA μ n K b P)(q:Q (.bl true) μ):W2 gEq (.loc a) (.loc b) μ Q :=
 z4z ha.toP hb.toP (by rw[Yu,eqvPt P];exact q)
def ptD(z:Nat×(Nat×Nat)):D:=.tup [.loc z.2.1,.loc z.2.2]
def zjr{μ:Mem}{f:Nat×(Nat×Nat)->Int}:∀ρ:List (Nat×(Nat×Nat)),(∀z∈ρ,zjp μ (ptD z)=some (f z))->(ρ.map ptD).mapM (zjp μ)=some (ρ.map f)
 |[],_=>rfl
 |z::ρ,h=>by
  rw[map_cons,mapM_cons,h z (.head _),zjr ρ λy hy=>h y (.tail _ hy)];rfl
def zus(h:Nat->Nat)(ρ:List (Nat×(Nat×Nat))):z3l (ρ.map ptD) (ρ.map λz=>((h z.1:Nat):Int))=(ρ.mergeSort λp q=>decide (h p.1<=h q.1)).map ptD:=by
 unfold z3l;rw[List.zip_map',<-List.map_mergeSort (r:=λp q=>decide (h p.1<=h q.1)) (f:=λz=>(ptD z,((h z.1:Nat):Int))) (s:=λp q:D×Int=>decide (p.2<=q.2)),map_map]
 ·rfl
 ·intro a _ b _;exact decide_eq_decide.mpr (by show _↔((h a.1:Nat):Int)<=((h b.1:Nat):Int);omega)
def zEt(h:zDb n K a=zDb n K b):zth n K a=zth n K b:=by
 unfold zth;rw[h]
def Ren.sortPt{R:List Nat}{K:List (List Nat)}(r:Ren O T R K R' K')(hp:∀k<K.length,0<(K.getD k []).length)(hp':∀k<K'.length,0<(K'.getD k []).length)(hR:R.length<=60){l:Nat}{xs:List (Nat×Nat)}(e:μ[l]?=some (.lst (xs.map λp=>D.tup [.loc p.1,.loc p.2])))(hl:xs.length=(zCb R.length K).length)
 (hx:∀(i:Nat)(p:Nat×Nat)(a:Nat),xs[i]?=some p->(zCb R.length K)[i]?=some a->μ[p.1]?=some (.lst (nat (zFf O (zDb R.length K a))))/\μ[p.2]?=some (.lst (nat (zFf T (zth R.length K a)))))
 (q:∀(l':Nat)(μ':Mem),tu μ μ'->PrA μ' R'.length K' l' (zCb R'.length K')->Q (.loc l') μ'):WF zOm [.loc l] μ Q:=by
 have hpl:(zCb R.length K).length<=R.length:=by unfold zCb;exact yD (length_filter_le _ _) (by simp)
 have hpm:∀a∈zCb R.length K,a<R.length:=λa ha=>(Tj.mp ha).1;have hperm:=r.least;obtain⟨h,hh⟩:∃h:Nat->Nat,h=λa=>(zDb R'.length K' (O.getD a 0)).getD 0 0:=⟨_,rfl⟩
 rw[<-hh]at hperm;have hha:∀a,h a=(zDb R'.length K' (O.getD a 0)).getD 0 0:=λa=>by rw[hh]
 generalize zCb R.length K=P at hl hx hpl hpm hperm
 have ex:(P.zip xs).map ptD=xs.map λp=>D.tup [.loc p.1,.loc p.2]:=by
  have:(P.zip xs).map ptD=((P.zip xs).map Prod.snd).map λp=>D.tup [.loc p.1,.loc p.2]:=by rw[map_map];rfl
  rw[this,List.map_snd_zip (by omega)]
 have ep:∀{β:Type} (f:Nat->β),((P.zip xs).map λz=>f z.1)=P.map f:=λf=>by
  have:((P.zip xs).map λz=>f z.1)=((P.zip xs).map Prod.fst).map f:=by rw[map_map];rfl
  rw[this,List.map_fst_zip (by omega)]
 have hz:∀z∈P.zip xs,z.1<R.length/\μ[z.2.1]?=some (.lst (nat (zDb R'.length K' (O.getD z.1 0))))/\μ[z.2.2]?=some (.lst (nat (zth R'.length K' (O.getD z.1 0)))):=λz hz=>by
  obtain⟨i,hi⟩:=List.mem_iff_getElem?.mp hz;obtain⟨i1,i2⟩:=List.getElem?_zip_eq_some.mp hi;have ha:=hpm _ (mem_of_getElem? i1);obtain⟨h1,h2⟩:=hx i z.2 z.1 i2 i1;rw[r.comp ha,r.keys hp hp' ha];exact⟨ha,h1,h2⟩
 generalize P.zip xs=ρ at ex ep hz
 have hm:(xs.map λp=>D.tup [.loc p.1,.loc p.2]).mapM (zjp μ)=some (ρ.map λz=>((h z.1:Nat):Int)):=by
  rw[<-ex];refine zjr ρ λz hzm=>?_;obtain⟨h1,h2,_⟩:=hz z hzm;have h0:=zJn (K:=K') (show O.getD z.1 0<R'.length by rw[r.rl];exact r.o.lt h1);rw[hha]
  cases ec:zDb R'.length K' (O.getD z.1 0) with
  |nil=>rw[ec]at h0;cases h0
  |cons x S=>
   rw[ec]at h2;exact zyy h2
 have hnd:(ρ.map λz=>((h z.1:Nat):Int)).Nodup:=by
  rw[ep λa=>((h a:Nat):Int)];have n1:(P.map h).Nodup:=hperm.nodup_iff.mpr (by unfold zCb;exact List.nodup_range.filter _);rw[List.Nodup,pairwise_map]at n1 ⊢;exact n1.imp λhne e=>hne (by omega)
 refine zey e hm (by rw[length_map];omega) hnd ?_;rw[<-ex,zus];have pz:=mergeSort_perm ρ λp q=>decide (h p.1<=h q.1);have oz:=List.pairwise_mergeSort (le:=λp q:Nat×(Nat×Nat)=>decide (h p.1<=h q.1)) (λa b c h1 h2=>by simp at h1 h2 ⊢;omega) (λa b=>by simp;omega) ρ;generalize (ρ.mergeSort λp q=>decide (h p.1<=h q.1))=σ at pz oz
 have ey:(σ.map λz=>h z.1)=zCb R'.length K':=by
  have p1:(σ.map λz=>h z.1).Perm (zCb R'.length K'):=(pz.map λz=>h z.1).trans (by rw[ep h];exact hperm);refine p1.eq_of_pairwise (le:=(·<=·)) (λa b _ _ h3 h4=>by omega) ?_ ?_
  ·rw[pairwise_map];exact oz.imp λh=>by simpa using h
  ·unfold zCb;exact(List.pairwise_lt_range.filter _).imp λh=>Yq h
 refine q _ _ .app ⟨σ.map Prod.snd,by rw[zt,map_map];rfl,by rw[<-ey,length_map,length_map],λi p x e1 e2=>?_⟩;rw[<-ey,yh]at e2;rw[yh]at e1
 cases ez:σ[i]? with
 |none=>rw[ez]at e1;cases e1
 |some z=>
  rw[ez]at e1 e2;cases e1;cases e2;obtain⟨h1,h2,h3⟩:=hz z (pz.mem_iff.mp (mem_of_getElem? ez));have hO:O.getD z.1 0<R'.length:=by rw[r.rl];exact r.o.lt h1
  have hc:zDb R'.length K' (h z.1)=zDb R'.length K' (O.getD z.1 0):=by
   rw[hha];exact(zXn (Tc.mp (zmj (K:=K') hO)).2).symm
  rw[hc,zEt hc];exact⟨zK h2,zK h3⟩
section
variable {L:Nat}{O T R R':List Nat}{K K':List (List Nat)}{lay:List (Option Nat)}
def zVo(o:Ord O m)(t:Ord T n)(hl:lay.length=n)(hx:∀x,some x∈lay->x<m):z3d (zMj O) (zMj T) (z3d O T lay)=lay:=by
 have hll:(z3d O T lay).length=n:=by unfold z3d;rw[length_map,length_range,hl]
 have hl2:(z3d (zMj O) (zMj T) (z3d O T lay)).length=n:=by unfold z3d at hll ⊢;rw[length_map,length_range,hll]
 refine ext_getElem (by rw[hl2,hl]) λk h1 h2=>?_;have hk:k<n:=by rw[<-hl];exact h2
 have e:=zrh (O:=zMj O) t.inv hll (t.lt hk);rw[zOg t (t.lt hk),t.tR hk,zrh t hl hk,getD_eq_getElem?_getD,yc h1,getD_eq_getElem?_getD,yc h2]at e;have e:(z3d (zMj O) (zMj T) (z3d O T lay))[k]=z3f (zMj O) (z3f O lay[k]):=e;rw[e]
 cases ex:lay[k] with
 |none=>rfl
 |some x=>
  have hxm:=hx x (by rw[<-ex];exact getElem_mem h2);show some ((zMj O).getD (O.getD x 0) 0)=some x;rw[zOg o (o.lt hxm),o.tR hxm]
def zTs(t:Ord T n)(hl:lay.length=n):zOf T ((lay.map (z3f O)).map onD)=(z3d O T lay).map onD:=by
 rw[zBj (xs:=lay.map (z3f O)) (by rw[length_map,hl];exact t) onD none]
 congr 1
 unfold z3d;rw[length_map];refine map_congr_left λj _=>?_;rw[getD_eq_getElem?_getD,yh,getD_eq_getElem?_getD];cases lay[T.idxOf j]?<;>rfl
end
def zFt(R:List Nat)(K:List (List Nat))(ds:List D):z4g R K ds=.non\/∃es,z4g R K ds=.tup es:=by
 unfold z4g
 split
 ·exact .inr ⟨_,rfl⟩
 ·split
  ·exact .inr ⟨_,rfl⟩
  ·exact .inl rfl
def zOA(q:Q (.bl (zit (z4g R K ds))) μ):W2 gIs (z4g R K ds) .non μ Q:=by
 rcases zFt R K ds with e|⟨es,e⟩
 ·rw[e]at q ⊢;exact⟨_,_,rfl,q⟩
 ·rw[e]at q ⊢;exact⟨_,_,rfl,q⟩
def zOl(t:Ord T xs.length)(hl:xs.length<=1000)(hn:μ[n]?=some (.lst xs))(ho:μ[ol]?=some (.lst (nat T)))(q:∀(l:Nat)(μ':Mem),tu μ μ'->μ.length<=l->μ'[l]?=some (.lst (zOf T xs))->Q (.loc l) μ'):WF zZc [.loc n,.loc ol] μ Q:=by
 refine zsb rfl ?_;show WS z0c [some (.loc n),some (.loc ol)] μ _ _ _ _;unfold z0c;exact zwb (zn (zb (zd rfl (zb (zd rfl (zo (zzl t hl (.inr ⟨n,rfl,hn⟩) ho q)))))))
def zqj(w:Wb L R K)(r:tG R K lay):∀x,some x∈lay->x<R.length:=λx hx=>by
 obtain⟨k,hk⟩:=List.mem_iff_getElem?.mp hx;have hkl:k<K.length:=by rw[<-r.len];exact(List.getElem?_eq_some_iff.mp hk).1
 exact(w.key hkl).2 x (r.home k x hk)
def zps(t:Ord T n)(hl:lay.length=n)(hw:∀k<n,(lay.getD k none).isSome=true):(none:Option Nat)∉z3d O T lay:=λhm=>by
 obtain⟨a,ha,e⟩:=List.mem_map.mp ((zwj t hl).mem_iff.mp hm)
 cases a with
 |some x=>cases e
 |none=>
  obtain⟨k,hk⟩:=List.mem_iff_getElem?.mp ha;have:=hw k (by rw[<-hl];exact(List.getElem?_eq_some_iff.mp hk).1);rw[getD_eq_getElem?_getD,hk]at this;cases this
section
variable {L:Nat}{O T R:List Nat}{K:List (List Nat)}
def zYv(w:Wb L R K)(o:Ord O R.length):Wb L (zO O R) (zbe O K):=by
 have hpl:(zO O R).length=R.length:=by unfold zO;simp
 have hnl:(zbe O K).length=K.length:=by unfold zbe;simp
 refine⟨by rw[hpl];exact w.rl,by rw[hnl];exact w.kl,λk hk=>?_⟩;unfold zbe at hk;obtain⟨x,hx,rfl⟩:=List.mem_map.mp hk;obtain⟨h1,h2⟩:=w.kn x hx;refine⟨by rw[length_map];exact h1,λh hh=>?_⟩;obtain⟨y,hy,rfl⟩:=List.mem_map.mp hh;rw[hpl];exact o.lt (h2 y hy)
def zIt(w:Wb L R K)(t:Ord T K.length):Wb L R (zLe T K):=by
 have hpl:(zLe T K).length=K.length:=by unfold zLe;simp
 refine⟨w.rl,by rw[hpl];exact w.kl,λk hk=>?_⟩;unfold zLe at hk;obtain⟨j,hj,rfl⟩:=List.mem_map.mp hk;exact w.key (t.tO (List.mem_range.mp hj))
variable {n:Nat}
def z8r{p p':Nat->Bool}(t:Ord T n)(h:∀k<n,p' (T.getD k 0)=p k):(yd n).filter p'=zFf T ((yd n).filter p):=by
 show _=(yd T.length).filter _;rw[t.len];refine filter_congr λj hj=>?_;have hj:=List.mem_range.mp hj;have hi:=t.tO hj;have:=h _ hi;rw[t.tK hj]at this;rw[this];apply Bool.eq_iff_iff.mpr;rw[decide_eq_true_iff,mem_filter,mem_range];exact⟨λh=>⟨hi,h⟩,λh=>h.2⟩
def zau{p p':Nat->Bool}(t:Ord T n)(h:∀k<n,p' (T.getD k 0)=p k):((yd n).filter p').length=((yd n).filter p).length:=by
 rw[z8r t h,(zWd t filter_sublist).length_eq,length_map]
def zgx{f f':Nat->Nat}(t:Ord T n)(h:∀k<n,f' (T.getD k 0)=f k):((yd n).map f').sum=((yd n).map f).sum:=by
 have hp:=zWd t (S:=yd n) (Xc _)
 have e:zFf T (yd n)=yd n:=by
  unfold zFf;rw[t.len];exact List.filter_eq_self.mpr λj hj=>decide_eq_true (List.mem_range.mpr (t.tO (List.mem_range.mp hj)))
 rw[e]at hp;rw[((hp.map f').sum_nat),map_map]
 congr 1
 exact map_congr_left λk hk=>h k (List.mem_range.mp hk)
def zWt(t:Ord T W.length)(hk:k<W.length):(zO T W).getD (T.getD k 0) 0=W.getD k 0:=by
 unfold zO;rw[getD_eq_getElem?_getD,yh,yR (t.lt hk)];show W.getD (T.idxOf (T.getD k 0)) 0=_;rw[t.tR hk]
def zLn(T W:List Nat):(zO T W).length=W.length:=by unfold zO;simp
def zfv(t:Ord T W.length):zMc (zO T W)=zMc W:=by
 unfold zMc
 congr 1
 have nd:∀X:List Nat,(upN X).Nodup:=λX=>(zds X).imp λh e=>by omega
 have hm:∀x,x∈zO T W↔x∈W:=λx=>(zWk (X:=W) t).mem_iff;have hp:(upN (zO T W)).Perm (upN W):=(perm_ext_iff_of_nodup (nd _) (nd _)).mpr λx=>by rw[TN,TN,hm]
 exact hp.eq_of_pairwise (le:=(·<=·)) (λa b _ _ h1 h2=>by omega) ((zds _).imp λh=>Yq h) ((zds _).imp λh=>Yq h)
variable {R' N W:List Nat}{K':List (List Nat)}{lay:List (Option Nat)}
def zni(O T:List Nat)(lay:List (Option Nat)):(z3d O T lay).length=lay.length:=by unfold z3d;simp
def Ren.isSome(r:Ren O T R K R' K')(hl:lay.length=K.length){k:Nat}(hk:k<K.length):((z3d O T lay).getD (T.getD k 0) none).isSome=(lay.getD k none).isSome:=by
 rw[zrh r.t hl hk];unfold z3f;rw[Option.isSome_map]
def Ren.cT(r:Ren O T R K R' K')(hl:lay.length=K.length)(hW:W.length=K.length)(u:Nat):P.cT (zO T W) (z3d O T lay) u=P.cT W lay u:=by
 unfold P.cT;rw[zni,hl];refine zau r.t λk hk=>?_;rw[r.isSome hl hk,zWt (by rw[hW];exact r.t) (by rw[hW];exact hk)]
def Ren.wsum(r:Ren O T R K R' K')(hl:lay.length=K.length)(hW:W.length=K.length):P.wsum (zO T W) (z3d O T lay)=P.wsum W lay:=by
 unfold P.wsum;rw[zni,hl];refine zgx r.t λk hk=>?_;rw[r.isSome hl hk,zWt (by rw[hW];exact r.t) (by rw[hW];exact hk)]
def Ren.alone(r:Ren O T R K R' K')(hW:W.length=K.length)(hN:N.Sublist (yd R.length))(u:Nat):zIb R' (z4d K' (zO T W) u) (zFf O N)=zIb R (z4d K W u) N:=by
 unfold zIb;rw[r.rooms hN,zVi (by rw[zLn,hW,r.kl]),zVi hW,r.kl]
 congr 1
 refine zau r.t λk hk=>?_;rw[r.bey hk,zWt (by rw[hW];exact r.t) (by rw[hW];exact hk)]
def Ren.bestsum(r:Ren O T R K R' K'){ss:List (Option Nat)}{sh sh2:List Sh}(hW:W.length=K.length)(hlt:∀{lay:List (Option Nat)},tG R K lay->∀x,some x∈lay->x<R.length)(hlt':∀{lay:List (Option Nat)},tG R' K' lay->∀x,some x∈lay->x<R'.length)(b:sT R K W lay sh)(b2:sT R' K' (zO T W) ss sh2):P.wsum W lay=P.wsum (zO T W) ss:=by
 have h1:=b2.sum (by rw[zLn,hW,r.kl]) (r.right (hlt b.right) b.right);rw[r.wsum b.right.len hW]at h1;have hW':(zO T W).length=K'.length:=by rw[zLn,hW,r.kl]
 have h2:=b.sum hW (r.inv.right (hlt' b2.right) b2.right);have h3:=r.inv.wsum (W:=zO T W) b2.right.len hW';rw[zVs (by rw[hW];exact r.t)]at h3;omega
variable {S:List Nat}{key:Nat}{row:List (Nat×Nat)}
def zxv(O T:List Nat)(row:List (Nat×Nat)):List (Nat×Nat):=row.map λp=>(T.getD p.1 0,O.getD p.2 0)
def zHn:(zxv O T row).length=row.length:=by unfold zxv;simp
def z6u(h:0<row.length):(zxv O T row).getD ((zxv O T row).length-1) (0,0)=(T.getD (row.getD (row.length-1) (0,0)).1 0,O.getD (row.getD (row.length-1) (0,0)).2 0):=by
 rw[zHn];unfold zxv
 have e:row[row.length-1]?=some (row.getD (row.length-1) (0,0)):=by
  rw[getD_eq_getElem?_getD,yc (by omega)];rfl
 rw[getD_eq_getElem?_getD,yh,e];rfl
def zJw(hm:h∈K.getD k []):k<K.length:=xL λhle=>by
 rw[getD_eq_getElem?_getD,yx hle]at hm;cases hm
def Walk.pos(w:Walk K lay key row):0<row.length:=by
 obtain⟨h,r,e⟩:=w.first
 rw[e];simp
def Walk.last(w:Walk K lay key row):(row.getD (row.length-1) (0,0))∈row:=by
 have:=w.pos;rw[getD_eq_getElem?_getD,yc (by omega)];exact getElem_mem _
def Ren.walk(r:Ren O T R K R' K')(hl:lay.length=K.length)(w:Walk K lay key row):Walk K' (z3d O T lay) (T.getD key 0) (zxv O T row):=by
 refine⟨?_,λp hp=>?_,λi p q e1 e2=>?_⟩
 ·obtain⟨h,r',e⟩:=w.first
  exact⟨O.getD h 0,zxv O T r',by rw[e];rfl⟩
 ·obtain⟨x,hx,rfl⟩:=List.mem_map.mp hp;have hm:=w.mem x hx;have hk:=zJw hm;exact(r.home _ hk _ (r.lt _ hk _ hm)).mp hm
 ·unfold zxv at e1 e2;rw[yh]at e1 e2
  cases ex:row[i]? with
  |none=>rw[ex]at e1;cases e1
  |some x=>
   cases ey:row[i+1]? with
   |none=>rw[ey]at e2;cases e2
   |some y=>
    rw[ex]at e1;rw[ey]at e2;cases e1;cases e2;have hy:=w.link i x y ex ey;have hk:y.1<K.length:=by rw[<-hl];exact zjq (by rw[hy];rfl)
    show(z3d O T lay).getD (T.getD y.1 0) none=some (O.getD x.2 0);rw[zrh r.t hl hk,hy];rfl
def Ends(R:List Nat)(lay:List (Option Nat))(row:List (Nat×Nat)):Prop:=lay.count (some (row.getD (row.length-1) (0,0)).2)<R.getD (row.getD (row.length-1) (0,0)).2 0
def Ren.ends(r:Ren O T R K R' K')(hl:lay.length=K.length)(hx:∀x,some x∈lay->x<R.length)(w:Walk K lay key row)(h:Ends R lay row):Ends R' (z3d O T lay) (zxv O T row):=by
 have hm:=w.mem _ w.last;have hlt:=r.lt _ (zJw hm) _ hm;unfold Ends;rw[z6u w.pos,zDj r.o r.t hl hlt hx,r.room _ hlt];exact h
def Ta.walk(s:Ta R K lay S)(hk:key∈S)(w:Walk K lay key row):∀(i:Nat)(p:Nat×Nat),row[i]?=some p->p.1∈S
 |0,p,e=>by
  obtain⟨h,r,er⟩:=w.first
  rw[er]at e;cases e;exact hk
 |i+1,p,e=>by
  have hi:i<row.length:=by
   have:=(List.getElem?_eq_some_iff.mp e).1;omega
  have ex:row[i]?=some row[i]:=yc hi;have:=Ta.walk s hk w i _ ex;exact s.lies _ this _ (w.mem _ (getElem_mem hi)) _ (w.link i _ _ ex e)
def Ta.ends(s:Ta R K lay S)(hk:key∈S)(w:Walk K lay key row):¬Ends R lay row:=λh=>by
 have hp:=w.pos
 have e:row[row.length-1]?=some (row.getD (row.length-1) (0,0)):=by
  rw[getD_eq_getElem?_getD,yc (by omega)];rfl
 have h1:=s.full _ (s.walk hk w _ _ e) _ (w.mem _ w.last);unfold Ends at h;omega
def Ren.Tr(r:Ren O T R K R' K')(hl:lay.length=K.length)(hx:∀x,some x∈lay->x<R.length)(s:Ta R K lay S):Ta R' K' (z3d O T lay) (zFf T S):=by
 have back:∀k' h',k'∈zFf T S->h'∈K'.getD k' []->k'<K.length/\h'<R.length/\T.idxOf k'∈S/\O.idxOf h'∈K.getD (T.idxOf k') []:=λk' h' hk hh=>by
  obtain⟨h1,h2⟩:=(z4c r.t).mp hk;have h3:=r.lt' k' h1 h' hh;refine⟨h1,h3,h2,?_⟩;rw[r.home _ (r.t.tO h1) _ (r.o.tO h3),r.t.tK h1,r.o.tK h3];exact hh
 refine⟨λk' hk=>by rw[r.kl];exact((z4c r.t).mp hk).1,λk' hk h' hh=>?_,λk' hk h' hh o e=>?_⟩
 ·obtain⟨h1,h2,h3,h4⟩:=back k' h' hk hh;have hi:=r.o.tO h2;have a:=zDj r.o r.t hl hi hx;have b:=r.room _ hi;rw[r.o.tK h2]at a b;rw[a,b];exact s.full _ h3 _ h4
 ·obtain⟨h1,h2,h3,h4⟩:=back k' h' hk hh;have ho:o<K.length:=by rw[<-hl,<-zni O T lay];exact zjq (by rw[e];rfl)
  have hoi:=r.t.tO ho;have a:=zrh (O:=O) r.t hl hoi;rw[r.t.tK ho,e]at a
  cases ex:lay.getD (T.idxOf o) none with
  |none=>rw[ex]at a;cases a
  |some x=>
   rw[ex]at a
   have a:h'=O.getD x 0:=by
    have a:some h'=some (O.getD x 0):=a;injection a
   have hxm:x<R.length:=hx x (by
    have hlt:=zjq (show(lay.getD (T.idxOf o) none).isSome=true by rw[ex];rfl);rw[getD_eq_getElem?_getD,yc hlt]at ex;have ex:lay[T.idxOf o]=some x:=ex;rw[<-ex];exact getElem_mem hlt)
   have hxe:O.idxOf h'=x:=by rw[a];exact r.o.tR hxm
   rw[hxe]at h4;exact(z4c r.t).mpr ⟨ho,s.lies _ h3 _ h4 _ ex⟩
def Rch(K:List (List Nat))(lay:List (Option Nat))(key:Nat)(S:List Nat):Prop:=∀o∈S,o=key\/∃row,Td K lay key row/\(row.map (·.2)).Nodup/\lay.getD o none=some (row.getD (row.length-1) (0,0)).2
def Rch.sub(h:Rch K lay key S)(s:Ta R K lay C)(hk:key∈C):∀o∈S,o∈C:=λo ho=>by
 rcases h o ho with rfl|⟨row,ok,_,e⟩
 ·exact hk
 ·have w:=ok.walk;have hp:=w.pos
  have er:row[row.length-1]?=some (row.getD (row.length-1) (0,0)):=by
   rw[getD_eq_getElem?_getD,yc (by omega)];rfl
  exact s.lies _ (s.walk hk w _ _ er) _ (w.mem _ w.last) _ e
def Ren.full(r:Ren O T R K R' K'){S':List Nat}(hl:lay.length=K.length)(hx:∀x,some x∈lay->x<R.length)(hx':∀x,some x∈z3d O T lay->x<R'.length)(hk:key<K.length)(hS:S.Sublist (yd K.length))(hS':S'.Sublist (yd K'.length))(k1:key∈S)(k2:T.getD key 0∈S')(s:Ta R K lay S)(s':Ta R' K' (z3d O T lay) S')(c:Rch K lay key S)(c':Rch K' (z3d O T lay) (T.getD key 0) S'):S'=zFf T S:=by
 have hk2:T.getD key 0∈zFf T S:=(z4c r.t).mpr ⟨r.t.lt hk,by rw[r.t.tR hk];exact k1⟩;have h1:=c'.sub (r.Tr hl hx s) hk2;have hl':(z3d O T lay).length=K'.length:=by rw[zni,hl,r.kl]
 have s2:=r.inv.Tr hl' hx' s';rw[zVo r.o r.t hl hx]at s2;have h2:=c.sub s2 ((z4c r.t.inv).mpr ⟨hk,by rw[zoq r.t hk];exact k2⟩);have nd1:S'.Nodup:=List.nodup_range.sublist hS';have nd2:(zFf T S).Nodup:=List.nodup_range.sublist filter_sublist
 have hp:S'.Perm (zFf T S):=(perm_ext_iff_of_nodup nd1 nd2).mpr λx=>⟨h1 x,λhm=>by
  obtain⟨a,b⟩:=(z4c r.t).mp hm;have:=((z4c r.t.inv).mp (h2 _ b)).2;rw[zoq r.t (r.t.tO a),r.t.tK a]at this;exact this⟩
 exact hp.eq_of_pairwise (le:=(· < ·)) (λa b _ _ h1 h2=>by omega) (List.pairwise_lt_range.sublist hS') (List.pairwise_lt_range.filter _)
end
structure Ods(μ:Mem)(s ol tl:Nat)(O T:List Nat):Prop where
 o:μ[s]?=some (.lst [.loc ol,.loc tl])
 a:μ[ol]?=some (.lst (nat O))
 b:μ[tl]?=some (.lst (nat T))
def Ods.keep{μ:Mem}{s tl:Nat}(h:Ods μ s ol tl O T)(k:tu μ μ'):Ods μ' s ol tl O T:=⟨k _ _ h.o,k _ _ h.a,k _ _ h.b⟩
def Ods.kb{μ:Mem}{s tl:Nat}(h:Ods μ s ol tl O T)(k:KB [l] μ μ')(hne:s≠l/\ol≠l/\tl≠l):Ods μ' s ol tl O T :=
 ⟨k.at_ _ _ (by simp;exact hne.1) h.o,k.at_ _ _ (by simp;exact hne.2.1) h.a,k.at_ _ _ (by simp;exact hne.2.2) h.b⟩
section
variable {L:Nat}{O T R R':List Nat}{K K':List (List Nat)}{lay:List (Option Nat)}{s ol tl:Nat}{μ:Mem}{Q:D->Mem->Prop}
def z3t(r:Ren O T R K R' K')(hkl:K.length<=60)(hl:lay.length=K.length)(hx:∀x,some x∈lay->x<R.length)(hn:μ[n]?=some (.lst (lay.map onD)))(od:Ods μ s ol tl O T)(q:∀(l:Nat)(μ':Mem),tu μ μ'->μ.length<=l->μ'[l]?=some (.lst ((z3d O T lay).map onD))->Q (.loc l) μ'):WF zcd [.loc n,.loc s] μ Q:=by
 refine zsb rfl ?_;show WS zRh [some (.loc n),some (.loc s)] μ _ _ _ _;unfold zRh;refine zwb (zn (zb (zn (zb (zd rfl (zb (zm (zd rfl (w_c (zBb (zk od.o) rfl (zo ?_)))))))))));refine zEk (by omega) (λh hm=>by rw[r.o.len];exact hx h hm) hn od.a λa μ1 k1 _ e1=>?_;refine zb (zm (zd rfl (w_c (zBb (zk (k1 _ _ od.o)) rfl (zo ?_)))));refine zOl (xs:=(lay.map (z3f O)).map onD) (by rw[length_map,length_map,hl];exact r.t) (by rw[length_map,length_map];omega) e1 (k1 _ _ od.b) λb μ2 k2 hb e2=>?_;rw[zTs r.t hl]at e2;exact q _ _ (k1.trans k2) (yD k1.len hb) e2
def zKp(w:Wb L R K)(w':Wb L R' K')(hL:L<=60)(r:Ren O T R K R' K')(od:Ods μ s ol tl O T)(q:∀μ',tu μ μ'->Q (.bl true) μ'):WF zCc [wn R K,wn R' K',.loc s] μ Q:=by
 have hkl:=w.kl;refine zsb rfl ?_;show WS zzc [some (wn R K),some (wn R' K'),some (.loc s),none,none,none] μ _ _ _ _;unfold zzc;refine zr (zco (zn (zb (zd rfl (zo ?_)))));refine zuj w hL (λlay l μ1 rt hall k1 _ e1=>?_) (λS l μ1 hS hc _ k1 _ e1=>?_)
 ·have f:zRj R K:=⟨lay,rt,hall⟩
  have f':=r.fits.mpr f;refine zaj (znd (zfd (znd (zfd (zfi ?_)))));refine zr (z0g (zJ (zm (zm (zn (zb (zd rfl (zo ?_))))))));refine zuj w' hL (λss l2 μ2 _ _ k2 _ _=>?_) (λS2 l2 μ2 hS2 hc2 _ _ _ _=>absurd f' (zAn w' hS2 hc2));refine w_c (zBb rfl rfl (zd rfl (zrl ⟨_,rfl,λh=>absurd h (by decide +kernel),λ_=>zjb ?_⟩)));refine zr (z0g (zJ (zm (zd rfl (w_c (z5g ⟨_,rfl,λh=>absurd h (by decide +kernel),λ_=>zjb ?_⟩))))));have k02:=k1.trans k2;have hlt:=zqj w rt;have rt2:=r.right hlt rt;refine zr (zhb (zn (zb (zd rfl (zb (zd rfl (zo ?_)))))));refine z3t r (by omega) rt.len hlt (k2 _ _ e1) (od.keep k02) λg μ3 k3 _ e3=>?_;refine zwb (zux (zm (zn (zb (zd rfl (zb (zd rfl (zo (zMk w' (zEj (z3d O T lay)) (by rw[length_map,rt2.len]) e3 λμ4 k4=>w_c (zOA ?_))))))))));rw[zzg rt2];refine⟨_,rfl,λ_=>?_,λh=>(by cases h)⟩;refine zm (w_c (zd rfl (zgq (zk (k4 _ _ e3)) rfl (zEj (z3d O T lay)) ?_)));rw[show(List.any ((z3d O T lay).map onD) λd=>eqF d .non)=decide (none∈z3d O T lay) from zez none _,decide_eq_false (zps (O:=O) r.t rt.len hall)];exact q _ (k02.trans (k3.trans k4))
 ·have nf:=zAn w hS hc;have nf':¬zRj R' K':=λf=>nf (r.fits.mp f);refine zaj (znd (zfd (znd (zfd (zfi ?_)))));refine zr (z0g (zJ (zm (zm (zn (zb (zd rfl (zo ?_))))))));refine zuj w' hL (λss l2 μ2 r2 h2 _ _ _=>absurd ⟨ss,r2,h2⟩ nf') (λS2 l2 μ2 _ _ _ k2 _ _=>?_);refine w_c (zBb rfl rfl (zd rfl (zrl ⟨_,rfl,λh=>absurd h (by decide +kernel),λ_=>zjb ?_⟩)));refine zr (z0g (zJ (zm (zd rfl (w_c (z5g ⟨_,rfl,λ_=>?_,λh=>absurd h (by decide +kernel)⟩))))));have k02:=k1.trans k2;have od2:=od.keep k02;refine zwb (zn (zb (zd rfl (zb (zn (zb (zd rfl (zb (zm (zd rfl (w_c (zBb (zk od2.o) rfl (zo ?_))))))))))))) ;refine zQb (S:=S) r.t (by omega) hS (k2 _ _ e1) od2.b λg μ4 k4 _ e4=>zo ?_;have hm:∀k∈zFf T S,k<K'.length:=λk hk=>by rw[r.kl];exact((z4c r.t).mp hk).1
  refine zuh w' e4 hm (by rw[(zWd r.t hS).length_eq,length_map];have:=hS.length_le;simp at this;omega) λμ5 k5=>?_;rw[r.crowd hS,hc];exact q _ (k02.trans (k4.trans k5))
def zPr(h:Pen μ l B)(hB:B<=1000000)(hm:m<=1000)(q:∀(S:List Nat)(n:Nat)(μ':Mem),S.Sublist (yd m)->KB [l] μ μ'->Pen μ' l (B+m)->μ.length<=n->μ'[n]?=some (.lst (nat S))->Q (.loc n) μ'):WF zUe [.loc l,.int (m:Nat)] μ Q:=by
 refine zsb rfl ?_;show WS zkg [some (.loc l),some (.int (m:Nat))] μ _ _ _ _;unfold zkg;refine zwb (zAj (zVj (zb (zd rfl (zo ⟨_,rfl,by omega,by omega,zrb (by simp;omega),?_⟩)))));rw[yQ];refine zgi (λi ys μ'=>∃S:List Nat,ys=nat S/\S.Sublist (yd i)/\KB [l] μ μ'/\Pen μ' l (B+i)) ⟨[],rfl,by simp,.refl,by simpa using h⟩ (λ_ _ _ _=>rfl) ?_ ?_
 ·rintro i x ys μ' hx ⟨S,rfl,h1,k,p⟩;obtain⟨hi,rfl⟩:=zAh hx;refine zfd ?_;unfold zdj zij;refine zJ (zm (zn (zb (zd rfl (zb (w_c (zo ?_)))))));refine z6b p (by omega) (by omega) (by omega) λv μ2 a b k2 e2 p2=>w_c (zjo ⟨_,rfl,λ_=>zd rfl ?_,λ_=>?_⟩)
  ·refine⟨S++[i],by rw[zld];rfl,?_,k.trans k2,p2.mono (by omega)⟩;rw[List.range_succ];exact h1.append (Xc _)
  ·refine⟨S,rfl,?_,k.trans k2,p2.mono (by omega)⟩;rw[List.range_succ];exact h1.trans (List.sublist_append_left _ _)
 ·rintro ys μ' ⟨S,rfl,h1,k,p⟩;simp only[length_map,length_range]at h1 p;exact q S _ _ h1 k.app p.app k.len zt
variable {ss:List (Option Nat)}
def Ren.lie(r:Ren O T R K R' K')(hl:lay.length=K.length):zWs (z3d O T lay)=zWs lay:=by
 unfold zWs;rw[((zwj r.t hl).filter _).length_eq,List.filter_map,length_map]
 congr 1
 refine filter_congr λx _=>?_;cases x<;>rfl
def Ren.mosts(r:Ren O T R K R' K'){N N':List Nat}(w:Wb L R K)(w':Wb L R' K')(rt:tG R K lay)(rt2:tG R' K' ss)(hN:N.Sublist (yd R.length))(hN':N'.Sublist (yd R'.length))(e:zWs lay=zIb R K N)(e2:zWs ss=zIb R' K' N'):zIb R K N=zIb R' K' N':=by
 have h1:=z7w (r.right (zqj w rt) rt) (List.nodup_range.sublist hN');have h2:=z7w (r.inv.right (zqj w' rt2) rt2) (List.nodup_range.sublist hN);rw[r.lie rt.len]at h1;rw[r.inv.lie rt2.len]at h2;omega
def zMo(w:Wb L R K)(w':Wb L R' K')(hL:L<=60)(r:Ren O T R K R' K')(od:Ods μ s ol tl O T)(hp:Pen μ l B)(hB:B<=900000)(hne:s≠l/\ol≠l/\tl≠l)(q:∀μ',KB [l] μ μ'->Pen μ' l (B+100)->Q (.bl true) μ'):WF zkc [.loc l,wn R K,wn R' K',.loc s] μ Q:=by
 have hkl:=w.kl;have hrl:=w.rl;refine zsb rfl ?_;show WS zGc [some (.loc l),some (wn R K),some (wn R' K'),some (.loc s),none,none,none] μ _ _ _ _;unfold zGc;refine zr (zhb (zn (zb (zd rfl (zb (zn (zb (zm (zd rfl (w_c (zIc (zo (zhe rfl (zo ?_))))))))))))));rw[length_map];refine zPr hp (by omega) (by omega) λS sl μ1 hS k1 p1 hsl g1=>?_;refine zr (zhb (zn (zb (zd rfl (zb (zn (zb (zm (zd rfl (w_c (zae (zo (zhe rfl (zo ?_))))))))))))));rw[length_map];refine zPr p1 (by omega) (by omega) λN nl μ2 hN k2 p2 hnl g2=>?_;have hlt:=hp.lt;have gs:=k2.at_ _ _ (by simp;omega) g1;have od2:=(od.kb k1 hne).kb k2 hne;have k02:=k1.trans k2;have hSl:S.length<=K.length:=by simpa using hS.length_le
 have hNl:N.length<=R.length:=by simpa using hN.length_le
 have hSm:∀k∈S,k<K.length:=λk hk=>List.mem_range.mp (hS.subset hk);have hNm:∀k∈N,k<R.length:=λk hk=>List.mem_range.mp (hN.subset hk);have hDm:∀k∈zFf T S,k<K'.length:=λk hk=>by rw[r.kl];exact((z4c r.t).mp hk).1
 have hEm:∀k∈zFf O N,k<R'.length:=λk hk=>by rw[r.rl];exact((z4c r.o).mp hk).1
 have hDl:(zFf T S).length<=1000:=by rw[(zWd r.t hS).length_eq,length_map];omega
 have hEl:(zFf O N).length<=1000:=by rw[(zWd r.o hN).length_eq,length_map];omega
 refine zr (z0g (zJ (zm (zn (zb (zd rfl (zb (zd rfl (zo (zuh w gs hSm (by omega) λμ3 k3=>?_))))))))));refine zn (zb (zd rfl (zb (zn (zb (zd rfl (zb (zm (zd rfl (w_c (zBb (zk (k3 _ _ od2.o)) rfl (zo ?_))))))))))));refine zQb r.t (by omega) hS (k3 _ _ gs) (k3 _ _ od2.b) λa μ4 k4 _ e4=>zo (zuh w' e4 hDm hDl λμ5 k5=>?_);rw[r.crowd hS];refine ztq (α:=Bool) _ _ ⟨_,rfl,λhb=>?_,λ_=>zjb ?_⟩
 ·simp at hb
 have k25:=k3.trans (k4.trans k5);refine zr (z0g (zJ (zm (zn (zb (zd rfl (zb (zd rfl (zo (zoj w (by omega) hNm (by omega) (k25 _ _ g2) λμ6 k6=>?_))))))))));have od6:=(od2.keep k25).keep k6;refine zn (zb (zd rfl (zb (zn (zb (zd rfl (zb (zm (zd rfl (w_c (zBb (zk od6.o) rfl (zo ?_))))))))))));refine zQb r.o (by omega) hN (k6 _ _ (k25 _ _ g2)) od6.a λb μ7 k7 _ e7=>zo (zoj w' (by omega) hEm hEl e7 λμ8 k8=>?_);rw[r.bound hN];refine ztq (α:=Int) _ _ ⟨_,rfl,λhb=>?_,λ_=>zjb ?_⟩
 ·simp at hb
 have od8:=(od6.keep k7).keep k8;have k28:=k25.trans (k6.trans (k7.trans k8));refine zr (z0g (zJ (zm (zn (zb (zd rfl (zb (zm (zn (zb (zd rfl (zo ?_))))))))))));refine z1u w hL λlay N1 l1 l2 μ9 rt hN1 eb k9 _ _ _ _ g9=>w_c (zBb rfl rfl (zo ?_));have hN1l:N1.length<=R.length:=by simpa using hN1.length_le
 refine zoj w (by omega) (λk hk=>List.mem_range.mp (hN1.subset hk)) (by omega) g9 λμa ka=>?_;refine zn (zb (zd rfl (zb (zm (zn (zb (zd rfl (zo ?_))))))));refine z1u w' hL λss N2 l3 l4 μb rt2 hN2 eb2 kb _ _ _ _ gb=>w_c (zBb rfl rfl (zo ?_));have hN2l:N2.length<=R'.length:=by simpa using hN2.length_le
 have hrl':=w'.rl;refine zoj w' (by omega) (λk hk=>List.mem_range.mp (hN2.subset hk)) (by omega) gb λμc kc=>?_;rw[r.mosts w w' rt rt2 hN1 hN2 eb eb2];refine ztq (α:=Int) _ _ ⟨_,rfl,λhb=>?_,λ_=>zjb ?_⟩
 ·simp at hb
 have k8c:=k9.trans (ka.trans (kb.trans kc));have odc:=od8.keep k8c;refine zr (zhb (zAj (z2c (zn (zb (zd rfl (zo ?_)))))));refine z3q w (by omega) λpl μh kh hpar=>?_;obtain⟨xs,e,hl,_,hx⟩:=hpar;have odh:=odc.keep kh;have hpl:(zCb R.length K).length<=R.length:=by unfold zCb;exact yD (length_filter_le _ _) (by simp)
 refine .inr (.inr ⟨pl,_,rfl,e,zrb (by rw[length_map];omega),?_⟩);refine zgi (λi ys μ'=>tu μh μ'/\∃zs:List (Nat×Nat),ys=zs.map (λp=>D.tup [.loc p.1,.loc p.2])/\zs.length=i/\∀(j:Nat)(p:Nat×Nat)(a:Nat),zs[j]?=some p->(zCb R.length K)[j]?=some a->μ'[p.1]?=some (.lst (nat (zFf O (zDb R.length K a))))/\μ'[p.2]?=some (.lst (nat (zFf T (zth R.length K a))))) ⟨.refl,[],rfl,rfl,by simp⟩ (λ_ _ _ h=>z6 e h.1) ?_ ?_
 ·rintro i x ys ν hix ⟨kν,zs,rfl,hzl,hz⟩;rw[yh]at hix
  cases ep:xs[i]? with
  |none=>rw[ep]at hix;cases hix
  |some p=>
   rw[ep]at hix;cases hix;have hi:i<(zCb R.length K).length:=by rw[<-hl];exact(List.getElem?_eq_some_iff.mp ep).1
   have ea:(zCb R.length K)[i]?=some (zCb R.length K)[i]:=yc hi;obtain⟨_,_,_,_,q1,q2⟩:=hx i p _ ep ea;have odν:=odh.keep kν;refine zaj (znd (zfd (znd (zfd (zfi (zWu ⟨λ_=>?_,λh=>(by cases h)⟩))))));unfold zZe;refine z7d (zb (zn (zb (zd rfl (zb (zm (zd rfl (w_c (zBb (zk odν.o) rfl (zo ?_))))))))));refine zQb (S:=zDb R.length K (zCb R.length K)[i]) r.o (by omega) (by unfold zDb;exact filter_sublist) (kν _ _ q1) odν.a λa ν1 m1 _ f1=>?_;have odm:=odν.keep m1;refine zb (zn (zb (zd rfl (zb (zm (zd rfl (w_c (zBb (zk odm.o) rfl (zo ?_)))))))));refine zQb (S:=zth R.length K (zCb R.length K)[i]) r.t (by omega) (by unfold zth;exact filter_sublist) (m1 _ _ (kν _ _ q2)) odm.b λb ν2 m2 _ f2=>zo ?_;refine⟨(kν.trans m1).trans m2,zs++[(a,b)],by rw[map_append];rfl,by simp[hzl],λj p' a' ej1 ej2=>?_⟩
   by_cases hj:j<zs.length
   ·rw[yn hj]at ej1;obtain⟨z1,z2⟩:=hz j p' a' ej1 ej2;exact⟨m2 _ _ (m1 _ _ z1),m2 _ _ (m1 _ _ z2)⟩
   ·have hj2:=(List.getElem?_eq_some_iff.mp ej1).1;rw[length_append,length_singleton]at hj2;have ej:j=zs.length:=by omega
    subst ej;rw[yH (yk _),Nat.sub_self]at ej1;cases ej1;rw[hzl,ea]at ej2;cases ej2;exact⟨m2 _ _ f1,f2⟩
 rintro ys ν ⟨kν,zs,rfl,hzl,hz⟩;rw[length_map,hl]at hzl;refine zwb (zm (zn (zb (zd rfl (zo ?_)))));refine z3q w' (by omega) λl2 μk kk hpar2=>zn (zb (zd rfl (zo ?_)));refine r.sortPt (λk hk=>by have:=(w.key hk).1;omega) (λk hk=>by have:=(w'.key hk).1;omega) (by omega) (kk _ _ zt) hzl (λi p a e1 e2=>⟨kk _ _ (zK (hz i p a e1 e2).1),kk _ _ (zK (hz i p a e1 e2).2)⟩) λdl μi ki hpr=>?_;refine zvz (hpar2.pr.keep ki) hpr ?_;have kend:=(k28.trans (k8c.trans kh)).trans (kν.to.trans (kk.trans ki));exact q _ (k02.trans (.of_keep kend)) ((p2.kb (L:=[]) (.of_keep kend) (by simp)).mono (by omega))
def z0u(hk:K.length<=1000)(hp:Pen μ l B)(hB:B<=900000)(q:∀(W:List Nat)(μ':Mem),W.length=K.length->KB [l] μ μ'->Pen μ' l (B+K.length)->Q (.loc μ'.length) (μ'++[.lst (nat W)])):WL (gN 0) zCk z3c yes [none,some (.loc l)] (K.map tn) [] μ Q:=by
 refine zgi (λi ys μ'=>∃W:List Nat,ys=nat W/\W.length=i/\KB [l] μ μ'/\Pen μ' l (B+i)) ⟨[],rfl,rfl,.refl,by simpa using hp⟩ (λ_ _ _ _=>rfl) ?_ ?_
 ·rintro i x ys μ' hx ⟨W,rfl,hW,k,p⟩
  have hi:i<K.length:=by
   have:=(List.getElem?_eq_some_iff.mp hx).1;simpa using this
  refine zfd (zWu ⟨λ_=>?_,λh=>(by cases h)⟩);unfold z3c;refine zn (zb (zd rfl (zb (w_c (zo ?_)))));refine z6b p (by omega) (by omega) (by omega) λz μ2 a2 b2 k2 e2 p2=>?_;obtain⟨z,rfl⟩:=Int.eq_ofNat_of_zero_le a2;exact⟨W++[z],by rw[zld];rfl,by simp[hW],k.trans k2,p2.mono (by omega)⟩
 ·rintro ys μ' ⟨W,rfl,hW,k,p⟩;rw[length_map]at hW p;exact q W μ' hW k p
def zWq:((zBd lay).map λk=>W.getD k 0).sum=wsum W lay:=by
 unfold zBd wsum;generalize yd lay.length=l
 induction l with
 |nil=>rfl
 |cons x l ih=>
  simp only[filter_cons,map_cons,sum_cons];cases h:(lay.getD x none).isSome<;>simp<;>simpa using ih
def zxm{e:FE}(he:e=zy gIx (zg 1) (zg 0))(hl:lay.length<=W.length)(h60:lay.length<=1000)(hn:μ[n]?=some (.lst (nat (zBd lay))))(hw:μ[wl]?=some (.lst (nat W)))(q:∀(m:Nat)(μ':Mem),tu μ μ'->μ'[m]?=some (.lst (nat ((zBd lay).map λk=>W.getD k 0)))->Q (.loc m) μ'):WL (gN 0) zCk e (zqm n (nat (zBd lay))) [none,some (.loc wl)] (nat (zBd lay)) [] μ Q:=by
 subst he
 have hm:∀k∈zBd lay,k<W.length:=λk hk=>by
  unfold zBd at hk;have:=List.mem_range.mp (List.mem_filter.mp hk).1;omega
 refine zlf (λ(k:Nat)=>D.int k) (zBd lay) (λk =>.int (W.getD k 0:Nat)) (λμ' k=>z6 hn k) (λk hk μ' kp=>?_) (λμ' kp=>?_)
 ·exact zfd (zm (zd rfl (zd rfl (zBb (zk (kp _ _ hw)) (zTc (hm k hk)) ⟨rfl,kp,kp⟩))))
 ·exact q _ _ kp.to (by rw[zt,z1g])
def zwp(w:Wb L R K)(w':Wb L R' K')(hL:L<=30)(r:Ren O T R K R' K')(od:Ods μ s ol tl O T)(hp:Pen μ l B)(hB:B<=900000)(hne:s≠l/\ol≠l/\tl≠l)(q:∀μ',KB [l] μ μ'->Pen μ' l (B+100)->Q (.bl true) μ'):WF zwc [.loc l,wn R K,wn R' K',.loc s] μ Q:=by
 have hkl:=w.kl;have hrl:=w.rl;refine zsb rfl ?_;show WS zEc [some (.loc l),some (wn R K),some (wn R' K'),some (.loc s),none,none,none,none,none,none,none] μ _ _ _ _;unfold zEc;refine zr (zhb (zAj (z2c (zm (zd rfl (w_c (zIc (.inl ⟨_,rfl,zrb (by rw[length_map];omega),?_⟩))))))));refine z0u (by omega) hp (by omega) λW μ1 hW k1 p1=>?_;have od1:=(od.kb k1 hne).keep (tu.app (g:=[tw.lst (nat W)]));have g1:(μ1++[tw.lst (nat W)])[μ1.length]?=some (.lst (nat W)):=zt;have p1':=p1.app (g:=[tw.lst (nat W)]);have k1':KB [l] μ (μ1++[tw.lst (nat W)]):=k1.app;generalize μ1++[tw.lst (nat W)]=μ2 at od1 g1 p1' k1';generalize μ1.length=wl at g1;refine zr (zhb (zAj (zVj (zb (zn (zb (zd rfl (zo (zhe (zk g1) (zo ⟨_,rfl,by omega,by rw[length_map];omega,zrb (by simp;omega),?_⟩))))))))));rw[yQ,length_map];refine zlf (λ(k:Nat)=>D.int k) (yd W.length) (λi =>.int (W.getD (T.idxOf i) 0:Nat)) (λ_ _=>rfl) (λi hi μ' kp=>?_) (λμ3 k3=>?_)
 ·have hi:i<K.length:=by rw[<-hW];exact List.mem_range.mp hi
  have odp:=od1.keep kp;refine zfd ?_;unfold zMe;refine zm (zd rfl (zWh (zm (zd rfl (w_c (zBb (zk odp.o) rfl ⟨_,_,rfl,odp.b,zb (zd rfl (zo (zmw odp.b ((r.t.mem i).mpr hi) ?_)))⟩))))));exact zBb (zk (kp _ _ g1)) (zTc (by rw[hW];exact r.t.tO hi)) ⟨rfl,kp,kp⟩
 have eW:(yd W.length).map (λi=>D.int (W.getD (T.idxOf i) 0:Nat))=nat (zO T W):=by
  unfold zO;rw[z1g]
 rw[eW];have od3:=(od1.keep k3).keep (tu.app (g:=[tw.lst (nat (zO T W))]));have g3:(μ3++[tw.lst (nat (zO T W))])[μ3.length]?=some (.lst (nat (zO T W))):=zt;have g13:=zK (g:=[tw.lst (nat (zO T W))]) (k3 _ _ g1);have k23:tu μ2 (μ3++[tw.lst (nat (zO T W))]):=k3.to;generalize μ3++[tw.lst (nat (zO T W))]=μ4 at od3 g3 g13 k23;generalize μ3.length=wl2 at g3;have hW':(zO T W).length=K'.length:=by rw[zLn,hW,r.kl]
 have hkl':=w'.kl;refine zr (zco (zn (zb (zd rfl (zb (zd rfl (zo ?_)))))));refine zGt w hL hW g13 λlay sh l1 l2 l3 μ5 b k5 _ _ _ _ _ _ hsh g51 g52 g53=>?_;refine zEz (znd (zfd (znd (zfd (znd (zfd (zfi ?_)))))));refine zr (zhb (zm (zn (zb (zd rfl (zb (zd rfl (zo ?_))))))));refine zGt w' hL hW' (k5 _ _ g3) λss sh2 m1 m2 m3 μ6 b2 k6 _ _ _ _ _ _ hsh2 g61 g62 g63=>w_c (zBb rfl rfl ?_);have hll:=b.right.len;have hll2:=b2.right.len;have hlt:=zqj w b.right;have k56:=k5.trans k6
 have hla:(zBd lay).length<=K.length:=by
  unfold zBd;refine yD (length_filter_le _ _) ?_;simp[hll]
 have hla2:(zBd ss).length<=K'.length:=by
  unfold zBd;refine yD (length_filter_le _ _) ?_;simp[hll2]
 refine zr (z0g (zJ (zm (zn (zb (zAj (z2c (zd rfl (.inr (.inr ⟨l1,_,rfl,k6 _ _ g51,zrb (by rw[length_map];omega),?_⟩))))))))));refine(zxm (W:=W) rfl (by omega) (by omega) (k6 _ _ g51) (k56 _ _ g13) λn7 μ7 k7 e7=>zo (zTt e7 ?_));rw[zWq];refine zn (zb (zAj (z2c (zd rfl (.inr (.inr ⟨m1,_,rfl,k7 _ _ g61,zrb (by rw[length_map];omega),?_⟩))))));refine(zxm (W:=zO T W) rfl (by omega) (by omega) (k7 _ _ g61) (k7 _ _ (k56 _ _ g3)) λn8 μ8 k8 e8=>zo (zTt e8 ?_));rw[zWq];rw[r.bestsum hW (λh=>zqj w h) (λh=>zqj w' h) b b2];refine ztq (α:=Int) _ _ ⟨_,rfl,λhb=>?_,λ_=>zjb ?_⟩
 ·simp at hb
 have k68:=k7.trans k8;have k58:=k6.trans k68;have od8:=od3.keep (k5.trans k58)
 have hshl:sh.length<=K.length:=by
  have h1:=congrArg xM b.fall;rw[length_map]at h1;have h2:=zlr W;unfold zMc at h1;rw[length_reverse]at h1;omega
 refine zr (zhb (zAj (z2c (zd rfl (.inr (.inr ⟨l3,_,rfl,k58 _ _ g53,zrb (by rw[length_map];omega),?_⟩))))));refine zgi (λi ys μ'=>tu μ8 μ'/\∃zs:List Sh,ys=zs.map shD/\zs.length=i/\zs.map (·.1)=(sh.map (·.1)).take i/\∀z∈zs,μ'[z.2.1]?=some (.lst (nat z.2.2))/\∃e∈sh,z.1=e.1/\z.2.2=zFf O e.2.2) ⟨.refl,[],rfl,rfl,by simp,by simp⟩ (λ_ _ _ h=>z6 (k58 _ _ g53) h.1) ?_ ?_
 ·rintro i x ys ν hx ⟨kν,zs,rfl,hzl,hzf,hz⟩;rw[yh]at hx
  cases ee:sh[i]? with
  |none=>rw[ee]at hx;cases hx
  |some e=>
   rw[ee]at hx;cases hx;have hem:=mem_of_getElem? ee;have odν:=od8.keep kν;unfold shD;refine zaj (znd (zfd (znd (zfd (zfi (zWu ⟨λ_=>?_,λh=>(by cases h)⟩))))));unfold zPe;refine z7d (zb (zd rfl (zb (zn (zb (zd rfl (zb (zm (zd rfl (w_c (zBb (zk odν.o) rfl (zo ?_))))))))))));refine zQb (S:=e.2.2) r.o (by omega) (b.Sm e hem).1 (kν _ _ (k58 _ _ (hsh e hem).2.2.2.2)) odν.a λa ν1 m1 _ f1=>zo ?_;refine⟨kν.trans m1,zs++[(e.1,a,zFf O e.2.2)],by rw[map_append];rfl,by simp[hzl],?_,λz hzm=>?_⟩
   ·rw[map_append,hzf,take_succ,yh,ee];rfl
   ·rcases List.mem_append.mp hzm with hzm|hzm
    ·obtain⟨z1,z2⟩:=hz z hzm;exact⟨m1 _ _ z1,z2⟩
    ·rw[List.mem_singleton.mp hzm];exact⟨f1,e,hem,rfl,rfl⟩
 rintro ys ν ⟨kν,zs,rfl,hzl,hzf,hz⟩;rw[length_map]at hzl hzf
 have hzf:zs.map (·.1)=zMc (zO T W):=by
  rw[hzf,zfv (by rw[hW];exact r.t),<-b.fall];exact xi (by rw[length_map];omega)
 have k8ν:tu μ8 (ν++[tw.lst (zs.map shD)]):=kν.to;have gz:(ν++[tw.lst (zs.map shD)])[ν.length]?=some (.lst (zs.map shD)):=zt;have hz':∀z∈zs,(ν++[tw.lst (zs.map shD)])[z.2.1]?=some (.lst (nat z.2.2))/\∃e∈sh,z.1=e.1/\z.2.2=zFf O e.2.2:=λz hzm=>⟨zK (hz z hzm).1,(hz z hzm).2⟩
 clear hz;generalize ν++[tw.lst (zs.map shD)]=μ9 at k8ν gz hz';generalize ν.length=zl at gz;have k59:=k58.trans k8ν;have od9:=od8.keep k8ν;refine zwb (zn (zb (zd rfl (zb (zd rfl (zb (z7d (zb (zn (zb (zd rfl (zb (zm (zd rfl (w_c (zBb (zk od9.o) rfl (zo ?_)))))))))))))))));refine zQb (S:=zBd lay) r.t (by omega) (by unfold zBd;rw[hll];exact filter_sublist) (k59 _ _ g51) od9.b λa μa ka _ ea=>?_;refine zb (zn (zb (zd rfl (zb (zd rfl (zo ?_))))));refine z3t r (by omega) hll hlt (ka _ _ (k59 _ _ g52)) (od9.keep ka) λbl μb kb _ eb=>zb (zd rfl (zo (zo ?_)));rw[<-r.laid hll]at ea;have kab:=ka.trans kb;refine z4s (W:=zO T W) (lay:=z3d O T lay) (sh:=zs) w' (by omega) hW' (r.right hlt b.right) hzf (λz hzm=>?_) (kab _ _ (k59 _ _ (k5 _ _ g3))) (kb _ _ ea) eb (kab _ _ gz) λμc kc=>?_
 ·obtain⟨z1,e,_,_,ez⟩:=hz' z hzm;refine⟨?_,kab _ _ z1⟩;rw[ez,r.rl];unfold zFf;rw[r.o.len];exact filter_sublist
 have hall:zs.all (shB R' K' (zO T W) (z3d O T lay))=true:=List.all_eq_true.mpr λz hzm=>by
  obtain⟨_,e,hem,e1,e2⟩:=hz' z hzm;obtain⟨h1,h2⟩:=b.Sm e hem;unfold shB;rw[e1,e2,r.cT hll hW,r.alone hW h1];exact decide_eq_true h2
 rw[hall];have kend:=k23.trans (k5.trans (k59.trans (kab.trans kc)));exact q _ (k1'.trans (.of_keep kend)) ((p1'.kb (L:=[]) (.of_keep kend) (by simp)).mono (by omega))
variable {key:Nat}
def Ren.sP(r:Ren O T R K R' K')(hl:lay.length=K.length)(hx:∀x,some x∈lay->x<R.length)(hx':∀x,some x∈z3d O T lay->x<R'.length)(hk:key<K.length)(w:Walk K' (z3d O T lay) (T.getD key 0) row)(e:Ends R' (z3d O T lay) row):∃row',row'.length=row.length/\Walk K lay key row'/\Ends R lay row':=by
 have hl':(z3d O T lay).length=K'.length:=by rw[zni,hl,r.kl]
 have h1:=r.inv.walk hl' w;have h2:=r.inv.ends hl' hx' w e;rw[zVo r.o r.t hl hx]at h1 h2;rw[zOg r.t (r.t.lt hk),r.t.tR hk]at h1;exact⟨_,zHn,h1,h2⟩
open Classical in
def zzk(R:List Nat)(K:List (List Nat))(key nest:Nat):yF:=if zRj R (zqg K key nest) then "lies" else "never"
def z6v(R:List Nat)(K:List (List Nat))(key nest:Nat):zzk R K key nest="lies"\/zzk R K key nest="never":=by
 unfold zzk
 split
 ·exact .inl rfl
 ·exact .inr rfl
def Ren.word(r:Ren O T R K R' K'){nest:Nat}(hk:key<K.length)(hn:nest<R.length):zzk R' K' (T.getD key 0) (O.getD nest 0)=zzk R K key nest:=by
 unfold zzk;have:=(r.held hk hn).fits
 by_cases h:zRj R (zqg K key nest)
 ·rw[if_pos h,if_pos (this.mpr h)]
 ·rw[if_neg h,if_neg λh'=>h (this.mp h')]
def znn(w:Wb L R K)(hL:L<=60)(hk:key<K.length)(hn:nest∈K.getD key [])(q:∀(l:Nat)(μ':Mem),tu μ μ'->Q (.tup [.str (zzk R K key nest),.loc l]) μ'):WF z5f [wn R K,.int key,.int nest] μ Q :=
 zAs w hL hk hn (λl μ' f k=>by have:=q l μ' k;unfold zzk at this;rw[if_pos f]at this;exact this) (λl μ' f k=>by have:=q l μ' k;unfold zzk at this;rw[if_neg f]at this;exact this)
def zGq{n':Nat}{x6 x7 x8 x9 x10 x11:Option D}{nx:M.Loc->Mem->Prop}{rt_:D->Mem->Prop}{bk ct:M.Loc->Mem->Prop}(w:Wb L R K)(w':Wb L R' K')(hL:L<=60)(r:Ren O T R K R' K')(rt:tG R K lay)(hi:i<K.length)(hp:Pen μ l B)(hB:B<=900000)(od:Ods μ s ol tl O T)(hne:s≠l/\ol≠l/\tl≠l)(hnl:n≠l/\n'≠l)(hn:μ[n]?=some (.lst (lay.map onD)))(hn':μ[n']?=some (.lst ((z3d O T lay).map onD)))
 (q:∀(y7 y8 y9 y10 y11:Option D)(μ':Mem),KB [l] μ μ'->Pen μ' l (B+1)->nx [some (.loc l),some (wn R K),some (wn R' K'),some (.loc s),some (.loc n),some (.loc n'),some (.int i),y7,y8,y9,y10,y11] μ') :
 WS zrd [some (.loc l),some (wn R K),some (wn R' K'),some (.loc s),some (.loc n),some (.loc n'),some (.int i),x7,x8,x9,x10,x11] μ nx rt_ bk ct:=by
 have hkl:=w.kl;have hrl:=w.rl;have hll:=rt.len;have hlt:=zqj w rt;have rt2:=r.right hlt rt;have hlt2:=zqj w' rt2;have hti:T.getD i 0<K'.length:=by rw[r.kl];exact r.t.lt hi
 have h23:=(w.key hi).1;unfold zrd;refine zr (zhb (zm (zm (zm (zd rfl (w_c (zIc (zd rfl (zEo hi (zn (zb (zd rfl (zb (zn (zb (zm (zm (zd rfl (w_c (zIc (zd rfl (zEo hi (zo (zhe rfl (zo ?_)))))))))))))))))))))))));rw[length_map];refine z6b hp (by omega) (by omega) (by omega) λv μ1 a b k1 e1 p1=>?_;obtain⟨v,rfl⟩:=Int.eq_ofNat_of_zero_le a;have hv:v<(K.getD i []).length:=by omega
 refine zBb rfl (zTc hv) ?_
 have hnest:(K.getD i []).getD v 0∈K.getD i []:=by
  rw[getD_eq_getElem?_getD (l:=K.getD i []),yc hv];exact getElem_mem hv
 generalize (K.getD i []).getD v 0=nest at hnest;have hnR:=r.lt i hi nest hnest;have hnest':=(r.home i hi nest hnR).mp hnest;have od1:=od.kb k1 hne;have gn:=k1.at_ _ _ (by simp;exact hnl.1) hn;have gn':=k1.at_ _ _ (by simp;exact hnl.2) hn';refine zr (zhb (zm (zm (zd rfl (w_c (zBb (zk od1.o) rfl (zd rfl (zBb (zk od1.b) (zTc (by rw[r.t.len];exact hi)) ?_))))))));refine zr (z0g (zJ (zm (zm (zn (zb (zd rfl (zb (zd rfl (zb (zd rfl (zo ?_))))))))))));refine znn w hL hi hnest λa1 μ2 k2=>w_c (zBb rfl rfl ?_);have od2:=od1.keep k2;refine zm (zn (zb (zd rfl (zb (zd rfl (zb (zm (zm (zd rfl (w_c (zBb (zk od2.o) rfl (zd rfl (zBb (zk od2.a) (zTc (by rw[r.o.len];exact hnR)) (zo ?_))))))))))))));refine znn w' hL hti hnest' λa2 μ3 k3=>w_c (zBb rfl rfl ?_);rw[r.word hi hnR];have hwo:=z6v R K i nest;have ok:xQ (zzk R K i nest)=true:=by rcases hwo with e|e<;>rw[e]<;>decide +kernel
 have eqv:Yu (.str (zzk R K i nest)) (.str (zzk R K i nest))=true:=by rcases hwo with e|e<;>rw[e]<;>decide +kernel
 refine zrl ⟨_,rfl,λh=>?_,λ_=>zjb ?_⟩ ok ok
 ·rw[eqv]at h;cases h
 have k13:=k2.trans k3;have od3:=od1.keep k13;have kq:∀{μ':Mem},tu μ3 μ'->KB [l] μ μ'/\Pen μ' l (B+1):=λk=>⟨k1.trans (.of_keep (k13.trans k)),p1.kb (L:=[]) (.of_keep (k13.trans k)) (by simp)⟩
 refine z0g (zJ (zm (zm (zd rfl (zd rfl (zBb (zk (k13 _ _ gn)) (zVe (v:=onD (lay.getD i none)) (by rw[yh,yc (by omega),getD_eq_getElem?_getD,yc (by omega)];rfl)) (w_c (zyw (zLh _) ⟨_,rfl,λh=>?_,λ_=>zjb (q _ _ _ _ _ _ (kq .refl).1 (kq .refl).2)⟩))))))))
 have hkey:lay.getD i none=none:=by
  cases e:lay.getD i none with
  |none=>rfl
  |some x=>rw[e]at h;cases h
 have hkey':(z3d O T lay).getD (T.getD i 0) none=none:=by
  rw[zrh r.t hll hi,hkey];rfl
 have hll2:=rt2.len;refine zr (zco (zn (zb (zd rfl (zb (zd rfl (zb (zd rfl (zo ?_)))))))));refine zGk w hll (by omega) (k13 _ _ gn) hi hkey (λrow la μ4 ok4 hroom few hrl4 k4 _ g4=>?_) (λS la μ4 hS hkS sh c k4 _ g4=>?_)
 ·have wk:=ok4.walk;have wk2:=r.walk hll wk;have en2:=r.ends hll hlt wk hroom;refine zaj (znd (zfd (znd (zfd (zfi ?_)))));refine zr (zhb (zn (zb (zd rfl (zb (zd rfl (zb (zd rfl (zo ?_)))))))));refine zGk w' hll2 (by omega) (k4 _ _ (k13 _ _ gn')) hti hkey' (λrow2 lb μ5 ok5 hroom2 few2 hrl5 k5 _ g5=>?_) (λS2 lb μ5 hS2 hkS2 sh2 c2 k5 _ g5=>absurd en2 (sh2.ends hkS2 wk2))
  have hlen:row2.length=row.length:=by
   obtain⟨row3,e3,wk3,en3⟩:=r.sP hll hlt hlt2 hi ok5.walk hroom2;have h1:=few row3 wk3 en3;have h2:=few2 _ wk2 en2;rw[zHn]at h2;omega
  refine zr (z0g (zBk (zJ (zm (zm (zd rfl (w_c (zBb rfl rfl (zd rfl (zrl ⟨_,rfl,λ_=>?_,λh=>absurd h (by decide +kernel)⟩))))))))));refine zJ (zm (zn (zb (zm (zd rfl (w_c (zBb rfl rfl (zo (zhe (zk g5) (zn (zb (zd rfl (zo (zhe (zk (k5 _ _ g4)) (ztq (α:=Int) _ _ ⟨_,rfl,λhb=>?_,λ_=>zjb ?_⟩)))))))))))))))
  ·rw[length_map,length_map,hlen]at hb;simp at hb
  refine z0g (zJp (zJ (zm (zd rfl (w_c (z5g ⟨_,rfl,λh=>absurd h (by decide +kernel),λ_=>⟨λh=>(by cases h),λ_=>zjb (q _ _ _ _ _ _ (kq (k4.trans k5)).1 (kq (k4.trans k5)).2)⟩⟩))))))
 ·refine zaj (znd (zfd (znd (zfd (zfi ?_)))));refine zr (zhb (zn (zb (zd rfl (zb (zd rfl (zb (zd rfl (zo ?_)))))))));refine zGk w' hll2 (by omega) (k4 _ _ (k13 _ _ gn')) hti hkey' (λrow2 lb μ5 ok5 hroom2 few2 hrl5 k5 _ g5=>?_) (λS2 lb μ5 hS2 hkS2 sh2 c2 k5 _ g5=>?_)
  ·obtain⟨row3,e3,wk3,en3⟩:=r.sP hll hlt hlt2 hi ok5.walk hroom2;exact absurd en3 (sh.ends hkS wk3)
  have eS:=r.full hll hlt hlt2 hi hS hS2 hkS hkS2 sh sh2 c c2;subst eS;have g4':=k5 _ _ g4;have od5:=od3.keep (k4.trans k5);have hDl:(zFf T S).length=S.length:=by rw[(zWd r.t hS).length_eq,length_map]
  refine zr (z0g (zBk (zJ (zm (zm (zd rfl (w_c (zBb rfl rfl (zd rfl (zrl ⟨_,rfl,λ_=>?_,λh=>absurd h (by decide +kernel)⟩))))))))));refine zJ (zm (zn (zb (zm (zd rfl (w_c (zBb rfl rfl (zo (zhe (zk g5) (zn (zb (zd rfl (zo (zhe (zk g4') (ztq (α:=Int) _ _ ⟨_,rfl,λhb=>?_,λ_=>zjb ?_⟩)))))))))))))))
  ·rw[length_map,length_map,hDl]at hb;simp at hb
  refine z0g (zJp (zJ (zm (zd rfl (w_c (z5g ⟨_,rfl,λ_=>?_,λh=>absurd h (by decide +kernel)⟩))))));refine zJ (zm (zm (zd rfl (w_c (zBb rfl rfl (zn (zb (zd rfl (zb (zm (zd rfl (w_c (zBb (zk od5.o) rfl (zo ?_))))))))))))));refine zQb (S:=S) r.t (by omega) hS g4' od5.b λa3 μ6 k6 _ e6=>?_;refine zhw (α:=Nat) _ _ (k6 _ _ g5) e6 ⟨_,rfl,λhb=>?_,λ_=>zjb (q _ _ _ _ _ _ (kq (k4.trans (k5.trans k6))).1 (kq (k4.trans (k5.trans k6))).2)⟩;simp at hb
def zrq(w:Wb L R K)(w':Wb L R' K')(hL:L<=30)(r:Ren O T R K R' K')(od:Ods μ s ol tl O T)(hp:Pen μ l B)(hB:B<=500000)(hne:s≠l/\ol≠l/\tl≠l)(q:∀μ',Q (.bl true) μ'):WF zXc [.loc l,wn R K,wn R' K',.loc s] μ Q:=by
 have hkl:=w.kl;have hpl:=hp.lt;refine zsb rfl ?_;show WS zYc [some (.loc l),some (wn R K),some (wn R' K'),some (.loc s),none,none,none,none,none,none,none,none] μ _ _ _ _;unfold zYc;refine zr (zhb (zn (zb (zd rfl (zb (zd rfl (zo ?_)))))));refine zEs w (by omega) hp (by omega) λlay n μ1 rt k1 p1 hn g1=>?_;have hll:=rt.len;have hlt:=zqj w rt;have rt2:=r.right hlt rt;refine zr (zhb (zn (zb (zd rfl (zb (zd rfl (zo ?_)))))));have od1:=od.kb k1 hne;refine z3t r (by omega) hll hlt g1 od1 λn' μ2 k2 hn' g2=>?_;refine zr (z0g (zJ (zm (zn (zb (zd rfl (zb (zd rfl (zo (zMk w' (zEj (z3d O T lay)) (by rw[length_map,rt2.len]) g2 λμ3 k3=>?_))))))))));rw[zzg rt2];refine w_c (zgf rfl ⟨_,rfl,λh=>(by cases h),λ_=>zjb ?_⟩);have k13:=k2.trans k3;have g13:=k13 _ _ g1;have od3:=od1.keep k13;have p3:=p1.kb (L:=[]) (.of_keep k13) (by simp);have g23:=k3 _ _ g2;have hl1:=k1.len;refine zr (zah (zVj (zb (zn (zb (zd rfl (zo (zhe (zk g13) (zo ⟨_,rfl,by omega,by rw[length_map];omega,?_⟩))))))))) ;rw[yQ,length_map,hll];refine zWb (λi J ν=>∃x6 x7 x8 x9 x10 x11:Option D,J=[some (.loc l),some (wn R K),some (wn R' K'),some (.loc s),some (.loc n),some (.loc n'),x6,x7,x8,x9,x10,x11]/\KB [l] μ3 ν/\Pen ν l (B+1000+i)) ⟨_,_,_,_,_,_,rfl,.refl,by simpa using p3⟩ (λ_ _ _ _=>rfl) ?_ ?_
 ·rintro i x J ν hx ⟨x6,x7,x8,x9,x10,x11,rfl,k,p⟩;obtain⟨hi,rfl⟩:=zAh hx;refine zfd ?_;have hnl:n≠l/\n'≠l:=⟨by omega,by omega⟩
  refine zGq (i:=i) (x6:=none) w w' (by omega) r rt hi p (by omega) (od3.kb k hne) hne hnl (k.at_ _ _ (by simp;exact hnl.1) g13) (k.at_ _ _ (by simp;exact hnl.2) g23) λy7 y8 y9 y10 y11 ν' k' p'=>?_;exact⟨_,_,_,_,_,_,rfl,k.trans k',p'.mono (by omega)⟩
 ·rintro J ν ⟨x6,x7,x8,x9,x10,x11,rfl,k,p⟩;exact zwb (w_c (q _))
end
def z3v(ns:List Int)(_hn:ns.length<=63):∃μ',zVr [.fz (ns.map .int)] []=some (.bl true,μ'):=by
 have main:WF zVr [.fz (ns.map .int)] [] λd _=>d=.bl true:=by
  refine zsb rfl ?_;show WS zKv [some (.fz (ns.map .int)),none,none,none,none] [] _ _ _ _;unfold zKv;refine zr (zhb (zn (zb (zd rfl (zb (w_c (zo ?_)))))));refine z4y (by omega) (by omega) λμ1 k1 p1 e1=>?_;generalize xM ([]:Mem)=pn at p1;refine zr (zhb (zn (zb (zd rfl (zb (w_c (zo ?_)))))));refine znx p1 (by omega) (by omega) (by omega) λrooms ks μ2 wA hr9 k2 p2=>?_;obtain⟨e,w⟩:=Wb.of wA;rw[e];generalize rooms.map xT=R at w ⊢;generalize ks.map (·.map xT)=K at w ⊢;have hkl:K.length<=12:=by simpa using w.kl
  have hrl:=w.rl;refine zr (zhb (z5i (zb (zn (zb (zd rfl (zb (zn (zb (zm (zd rfl (w_c (zae (zo (zhe rfl (zo ?_))))))))))))))));rw[length_map];refine zHp p2 (by omega) (by omega) λO ol μ3 nd hOl hOm k3 p3 hol g3=>?_;have o:Ord O R.length:=⟨nd,hOl,hOm⟩
  refine zb (zn (zb (zd rfl (zb (zn (zb (zm (zd rfl (w_c (zIc (zo (zhe rfl (zo ?_)))))))))))));rw[length_map];refine zHp p3 (by omega) (by omega) λT tl μ4 nd2 hTl hTm k4 p4 htl g4=>zo ?_;have t:Ord T K.length:=⟨nd2,hTl,hTm⟩
  have hp2:=p2.lt;have hp3:=p3.lt;have g34:=k4.at_ _ _ (by simp;omega) g3;have od:Ods (μ4++[tw.lst [.loc ol,.loc tl]]) μ4.length ol tl O T:=⟨zt,zK g34,zK g4⟩
  have p4':=p4.app (g:=[tw.lst [.loc ol,.loc tl]]);have hp4:=p4.lt;generalize μ4++[tw.lst [.loc ol,.loc tl]]=μ5 at od p4';generalize μ4.length=s at od hp4;have hne:s≠pn/\ol≠pn/\tl≠pn:=⟨by omega,by omega,by omega⟩
  have hnl:(zbe O K).length=K.length:=by unfold zbe;simp
  have w1:=zYv w o;have w':=zIt w1 (T:=T) (by rw[hnl];exact t);have r:=zXy w o t;refine zr (zhb (zn (zb (zn (zb (zd rfl (zb (zm (zd rfl (w_c (zBb (zk od.o) rfl (zo ?_))))))))))));refine zzn w (by omega) o od.a λμ6 k6=>?_;have od6:=od.keep k6;refine zb (zm (zd rfl (w_c (zBb (zk od6.o) rfl (zo ?_)))));refine zxp w1 (by omega) (by rw[hnl];exact t) od6.b λμ7 k7=>?_;have od7:=od6.keep k7;have p7:=p4'.kb (L:=[]) (.of_keep (k6.trans k7)) (by simp);generalize zO O R=R' at r w' ⊢;generalize zLe T (zbe O K)=K' at r w' ⊢;refine zr (z0g (zBk (zQr (zJ (zn (zb (zd rfl (zb (zd rfl (zb (zd rfl (zo ?_))))))))))));refine zKp w w' (by omega) r od7 λμ8 k8=>⟨_,rfl,λ_=>?_,λh=>(by cases h)⟩
  have p8:=p7.kb (L:=[]) (.of_keep k8) (by simp);refine zQr (zJ (zn (zb (zd rfl (zb (zd rfl (zb (zd rfl (zb (zd rfl (zo ?_)))))))))));refine zMo w w' (by omega) r (od7.keep k8) p8 (by omega) hne λμ9 k9 p9=>⟨_,rfl,λh=>(by cases h),λ_=>zjb ?_⟩
  have od9:=(od7.keep k8).kb k9 hne;refine zwb (zux (zn (zb (zd rfl (zb (zd rfl (zb (zd rfl (zb (zd rfl (zo ?_)))))))))));refine zwp w w' (by omega) r od9 p9 (by omega) hne λμa ka pa=>⟨_,rfl,λ_=>?_,λh=>(by cases h)⟩
  refine zn (zb (zd rfl (zb (zd rfl (zb (zd rfl (zb (zd rfl (zo ?_)))))))));exact zrq w w' (by omega) r (od9.kb ka hne) pa (by omega) hne λμb=>rfl
 obtain⟨d,μ',e,rfl⟩:=main;exact⟨μ',e⟩
end P
namespace P
open PySem PySem.Spec PyProof.Rows L2 M
set_option maxHeartbeats 4000000
def ln1{α:Type}:∀{us:List α},us.length=1->∃a0,us=[a0]
 |[a0],_=>⟨a0,rfl⟩
def fa1{K:yB}{mg:yF->Option yb}{h:Ye}{x p0:yF}{st:Yb}{f:yg}{fd:yj}(X:K.In h)(φ:h.Ns yE mg)(a:Xe K yE x=some (some (.ref f)))(u:Fun K x x st f fd)
 (b:∀(kV doc pm:yb)(an:Option yg)(cdv ct a0:yb),bindArgs (W.fnOf x x (z6d st) (zCd st) (zp st) .none kV doc pm an cdv ct) ⟨[a0],[]⟩=pure [(p0,a0)]):FnAt K mg x st [p0] f fd :=
 ⟨u,W.mg_of X φ a,u.binds λkV doc pm an cdv ct us hl=>by obtain⟨a0,rfl⟩:=ln1 hl;exact b kV doc pm an cdv ct a0⟩
def ln2{α:Type}:∀{us:List α},us.length=2->∃a0 a1,us=[a0,a1]
 |[a0,a1],_=>⟨a0,a1,rfl⟩
def fa2{K:yB}{mg:yF->Option yb}{h:Ye}{x p0 p1:yF}{st:Yb}{f:yg}{fd:yj}(X:K.In h)(φ:h.Ns yE mg)(a:Xe K yE x=some (some (.ref f)))(u:Fun K x x st f fd)
 (b:∀(kV doc pm:yb)(an:Option yg)(cdv ct a0 a1:yb),bindArgs (W.fnOf x x (z6d st) (zCd st) (zp st) .none kV doc pm an cdv ct) ⟨[a0,a1],[]⟩=pure [(p0,a0),(p1,a1)]):FnAt K mg x st [p0,p1] f fd :=
 ⟨u,W.mg_of X φ a,u.binds λkV doc pm an cdv ct us hl=>by obtain⟨a0,a1,rfl⟩:=ln2 hl;exact b kV doc pm an cdv ct a0 a1⟩
def ln3{α:Type}:∀{us:List α},us.length=3->∃a0 a1 a2,us=[a0,a1,a2]
 |[a0,a1,a2],_=>⟨a0,a1,a2,rfl⟩
def fa3{K:yB}{mg:yF->Option yb}{h:Ye}{x p0 p1 p2:yF}{st:Yb}{f:yg}{fd:yj}(X:K.In h)(φ:h.Ns yE mg)(a:Xe K yE x=some (some (.ref f)))(u:Fun K x x st f fd)
 (b:∀(kV doc pm:yb)(an:Option yg)(cdv ct a0 a1 a2:yb),bindArgs (W.fnOf x x (z6d st) (zCd st) (zp st) .none kV doc pm an cdv ct) ⟨[a0,a1,a2],[]⟩=pure [(p0,a0),(p1,a1),(p2,a2)]):FnAt K mg x st [p0,p1,p2] f fd :=
 ⟨u,W.mg_of X φ a,u.binds λkV doc pm an cdv ct us hl=>by obtain⟨a0,a1,a2,rfl⟩:=ln3 hl;exact b kV doc pm an cdv ct a0 a1 a2⟩
def ln4{α:Type}:∀{us:List α},us.length=4->∃a0 a1 a2 a3,us=[a0,a1,a2,a3]
 |[a0,a1,a2,a3],_=>⟨a0,a1,a2,a3,rfl⟩
def fa4{K:yB}{mg:yF->Option yb}{h:Ye}{x p0 p1 p2 p3:yF}{st:Yb}{f:yg}{fd:yj}(X:K.In h)(φ:h.Ns yE mg)(a:Xe K yE x=some (some (.ref f)))(u:Fun K x x st f fd)
 (b:∀(kV doc pm:yb)(an:Option yg)(cdv ct a0 a1 a2 a3:yb),bindArgs (W.fnOf x x (z6d st) (zCd st) (zp st) .none kV doc pm an cdv ct) ⟨[a0,a1,a2,a3],[]⟩=pure [(p0,a0),(p1,a1),(p2,a2),(p3,a3)]):FnAt K mg x st [p0,p1,p2,p3] f fd :=
 ⟨u,W.mg_of X φ a,u.binds λkV doc pm an cdv ct us hl=>by obtain⟨a0,a1,a2,a3,rfl⟩:=ln4 hl;exact b kV doc pm an cdv ct a0 a1 a2 a3⟩
def all_of{l:W.OpenLaw}{w:yJ}{K:yB}{h:Ye}{mg:yF->Option yb}{fa:yg}(X:K.In h)(φ:h.Ns yE mg)(hfa:mg "law"=some (.ref fa))(e:Hd.obs K=Hd.good)
 : ∃fd:yj,(∀(s:ye)(v:yb),BindsTo s fd ⟨[v],[]⟩ [("_law_script",v)])/\∀base:Ye,K.In base->base.Ns yE mg->tm l.prog w K mg base CX0 9 fa fd ["_law_script"] (spM K 1 zVr):=by
 have e_fn:=congrArg (·.1) e;have e_vv:=congrArg (·.2) e;obtain⟨⟨_,_,a0,u0⟩,e_fn⟩:=fnc e_fn;have zkf:FnAt K mg "_law_mixed" zqf zHc _ _:=fa2 X φ a0 u0 λ_ _ _ _ _ _ _ _=>rfl;obtain⟨⟨_,_,a1,u1⟩,e_fn⟩:=fnc e_fn;have zTd:FnAt K mg "_law_cell_at" zSd zLb _ _:=fa2 X φ a1 u1 λ_ _ _ _ _ _ _ _=>rfl;obtain⟨⟨_,_,a2,u2⟩,e_fn⟩:=fnc e_fn;have zCh:FnAt K mg "_law_pen" zyh zLd _ _:=fa2 X φ a2 u2 λ_ _ _ _ _ _ _ _=>rfl;obtain⟨⟨_,_,a3,u3⟩,e_fn⟩:=fnc e_fn;have zz:FnAt K mg "_law_take" zTb zW _ _:=fa2 X φ a3 u3 λ_ _ _ _ _ _ _ _=>rfl;obtain⟨⟨_,_,a4,u4⟩,e_fn⟩:=fnc e_fn;have zOh:FnAt K mg "_law_web" zEh zOd _ _:=fa2 X φ a4 u4 λ_ _ _ _ _ _ _ _=>rfl;obtain⟨⟨_,_,a5,u5⟩,e_fn⟩:=fnc e_fn;have zRd:FnAt K mg "placed" zMh zOc _ _:=fa2 X φ a5 u5 λ_ _ _ _ _ _ _ _=>rfl;obtain⟨⟨_,_,a6,u6⟩,e_fn⟩:=fnc e_fn;have zpf:FnAt K mg "keys_named" z4e zsc _ _:=fa2 X φ a6 u6 λ_ _ _ _ _ _ _ _=>rfl;obtain⟨⟨_,_,a7,u7⟩,e_fn⟩:=fnc e_fn;have z5d:FnAt K mg "_law_order" zof zoc _ _:=fa2 X φ a7 u7 λ_ _ _ _ _ _ _ _=>rfl;obtain⟨⟨_,_,a8,u8⟩,e_fn⟩:=fnc e_fn;have zde:FnAt K mg "nests_named" zfe z3b _ _:=fa2 X φ a8 u8 λ_ _ _ _ _ _ _ _=>rfl;obtain⟨⟨_,_,a9,u9⟩,e_fn⟩:=fnc e_fn;have z0e:FnAt K mg "falling" zph zid _ _:=fa1 X φ a9 u9 λ_ _ _ _ _ _ _=>rfl;obtain⟨⟨_,_,a10,u10⟩,e_fn⟩:=fnc e_fn;have zGn:FnAt K mg "lying" zwn zIh _ _:=fa2 X φ a10 u10 λ_ _ _ _ _ _ _ _=>rfl;obtain⟨⟨_,_,a11,u11⟩,e_fn⟩:=fnc e_fn;have zJg:FnAt K mg "pushes_to" zsg zgd _ _:=fa3 X φ a11 u11 λ_ _ _ _ _ _ _ _ _=>rfl;obtain⟨⟨_,_,a12,u12⟩,e_fn⟩:=fnc e_fn;have zQl:FnAt K mg "left" zlp z6g _ _:=fa2 X φ a12 u12 λ_ _ _ _ _ _ _ _=>rfl;obtain⟨⟨_,_,a13,u13⟩,e_fn⟩:=fnc e_fn;have zTk:FnAt K mg "row_to" zSk zgg _ _:=fa2 X φ a13 u13 λ_ _ _ _ _ _ _ _=>rfl;obtain⟨⟨_,_,a14,u14⟩,e_fn⟩:=fnc e_fn;have zhf:FnAt K mg "put_in" z7i zYd _ _:=fa3 X φ a14 u14 λ_ _ _ _ _ _ _ _ _=>rfl;obtain⟨⟨_,_,a15,u15⟩,e_fn⟩:=fnc e_fn;have zPd:FnAt K mg "fault" z7h zQc _ _:=fa2 X φ a15 u15 λ_ _ _ _ _ _ _ _=>rfl;obtain⟨⟨_,_,a16,u16⟩,e_fn⟩:=fnc e_fn;have zlj:FnAt K mg "is_push" zkj zAe _ _:=fa4 X φ a16 u16 λ_ _ _ _ _ _ _ _ _ _=>rfl;obtain⟨⟨_,_,a17,u17⟩,e_fn⟩:=fnc e_fn;have zwi:FnAt K mg "follows" zYi zBe _ _:=fa4 X φ a17 u17 λ_ _ _ _ _ _ _ _ _ _=>rfl;obtain⟨⟨_,_,a18,u18⟩,e_fn⟩:=fnc e_fn;have zNk:FnAt K mg "pushed" zYk zZf _ _:=fa4 X φ a18 u18 λ_ _ _ _ _ _ _ _ _ _=>rfl;obtain⟨⟨_,_,a19,u19⟩,e_fn⟩:=fnc e_fn;have z5c:FnAt K mg "laid_more" zYe zPb _ _:=fa3 X φ a19 u19 λ_ _ _ _ _ _ _ _ _=>rfl;obtain⟨⟨_,_,a20,u20⟩,e_fn⟩:=fnc e_fn;have zbl:FnAt K mg "laid" zop zbh _ _:=fa1 X φ a20 u20 λ_ _ _ _ _ _ _=>rfl;obtain⟨⟨_,_,a21,u21⟩,e_fn⟩:=fnc e_fn;have z0b:FnAt K mg "homes_of" zue zHb _ _:=fa2 X φ a21 u21 λ_ _ _ _ _ _ _ _=>rfl;obtain⟨⟨_,_,a22,u22⟩,e_fn⟩:=fnc e_fn;have zLo:FnAt K mg "best" zxr zPj _ _:=fa2 X φ a22 u22 λ_ _ _ _ _ _ _ _=>rfl;obtain⟨⟨_,_,a23,u23⟩,e_fn⟩:=fnc e_fn;have zNe:FnAt K mg "room_of" zkh zkd _ _:=fa2 X φ a23 u23 λ_ _ _ _ _ _ _ _=>rfl;obtain⟨⟨_,_,a24,u24⟩,e_fn⟩:=fnc e_fn;have zuc:FnAt K mg "has_home_beyond" zBc znb _ _:=fa2 X φ a24 u24 λ_ _ _ _ _ _ _ _=>rfl;obtain⟨⟨_,_,a25,u25⟩,e_fn⟩:=fnc e_fn;have zNf:FnAt K mg "bound" zhl z3e _ _:=fa2 X φ a25 u25 λ_ _ _ _ _ _ _ _=>rfl;obtain⟨⟨_,_,a26,u26⟩,e_fn⟩:=fnc e_fn;have zKh:FnAt K mg "is_shown" zQh zJd _ _:=fa4 X φ a26 u26 λ_ _ _ _ _ _ _ _ _ _=>rfl;obtain⟨⟨_,_,a27,u27⟩,e_fn⟩:=fnc e_fn;have z3i:FnAt K mg "is_best" zOi zte _ _:=fa3 X φ a27 u27 λ_ _ _ _ _ _ _ _ _=>rfl;obtain⟨⟨_,_,a28,u28⟩,e_fn⟩:=fnc e_fn;have zT:FnAt K mg "some_named" zfc zab _ _:=fa2 X φ a28 u28 λ_ _ _ _ _ _ _ _=>rfl;obtain⟨⟨_,_,a29,u29⟩,e_fn⟩:=fnc e_fn;have z1c:FnAt K mg "laying_of_keys" zRc zvb _ _:=fa2 X φ a29 u29 λ_ _ _ _ _ _ _ _=>rfl;obtain⟨⟨_,_,a30,u30⟩,e_fn⟩:=fnc e_fn;have zyf:FnAt K mg "nest_named" zcf zjc _ _:=fa2 X φ a30 u30 λ_ _ _ _ _ _ _ _=>rfl;obtain⟨⟨_,_,a31,u31⟩,e_fn⟩:=fnc e_fn;have znc:FnAt K mg "laying_of_nests" zmc zmb _ _:=fa2 X φ a31 u31 λ_ _ _ _ _ _ _ _=>rfl;obtain⟨⟨_,_,a32,u32⟩,e_fn⟩:=fnc e_fn;have z5b:FnAt K mg "_law_led" zse zFb _ _:=fa2 X φ a32 u32 λ_ _ _ _ _ _ _ _=>rfl;obtain⟨⟨_,_,a33,u33⟩,e_fn⟩:=fnc e_fn;have zic:FnAt K mg "_law_best_alike" zDc zlb _ _:=fa4 X φ a33 u33 λ_ _ _ _ _ _ _ _ _ _=>rfl;obtain⟨⟨_,_,a34,u34⟩,e_fn⟩:=fnc e_fn;have zge:FnAt K mg "_law_greedy" zee z4b _ _:=fa2 X φ a34 u34 λ_ _ _ _ _ _ _ _=>rfl;obtain⟨⟨_,_,a35,u35⟩,e_fn⟩:=fnc e_fn;have zXb:FnAt K mg "laid_at_all" zwd zub _ _:=fa1 X φ a35 u35 λ_ _ _ _ _ _ _=>rfl;obtain⟨⟨_,_,a36,u36⟩,e_fn⟩:=fnc e_fn;have zKb:FnAt K mg "is_crowd" zCe zGb _ _:=fa2 X φ a36 u36 λ_ _ _ _ _ _ _ _=>rfl;obtain⟨⟨_,_,a37,u37⟩,e_fn⟩:=fnc e_fn;have zJe:FnAt K mg "spare_key" zlg zhd _ _:=fa2 X φ a37 u37 λ_ _ _ _ _ _ _ _=>rfl;obtain⟨⟨_,_,a38,u38⟩,e_fn⟩:=fnc e_fn;have zzi:FnAt K mg "trimmed" zki zre _ _:=fa2 X φ a38 u38 λ_ _ _ _ _ _ _ _=>rfl;obtain⟨⟨_,_,a39,u39⟩,e_fn⟩:=fnc e_fn;have zef:FnAt K mg "fitted" zqi z0d _ _:=fa1 X φ a39 u39 λ_ _ _ _ _ _ _=>rfl;obtain⟨⟨_,_,a40,u40⟩,e_fn⟩:=fnc e_fn;have zji:FnAt K mg "held_to" zIi zwe _ _:=fa3 X φ a40 u40 λ_ _ _ _ _ _ _ _ _=>rfl;obtain⟨⟨_,_,a41,u41⟩,e_fn⟩:=fnc e_fn;have znh:FnAt K mg "may_lie" zcj zDe _ _:=fa3 X φ a41 u41 λ_ _ _ _ _ _ _ _ _=>rfl;obtain⟨⟨_,_,a42,u42⟩,e_fn⟩:=fnc e_fn;have zWc:FnAt K mg "_law_key_alike" zSc zxb _ _:=fa4 X φ a42 u42 λ_ _ _ _ _ _ _ _ _ _=>rfl;obtain⟨⟨_,_,a43,u43⟩,e_fn⟩:=fnc e_fn;have zrc:FnAt K mg "_law_fits_alike" zlc zpb _ _:=fa3 X φ a43 u43 λ_ _ _ _ _ _ _ _ _=>rfl;obtain⟨⟨_,_,a44,u44⟩,e_fn⟩:=fnc e_fn;have zIe:FnAt K mg "_law_some" zRg z6c _ _:=fa2 X φ a44 u44 λ_ _ _ _ _ _ _ _=>rfl;obtain⟨⟨_,_,a45,u45⟩,e_fn⟩:=fnc e_fn;have zrg:FnAt K mg "joined_to" zyg zbd _ _:=fa2 X φ a45 u45 λ_ _ _ _ _ _ _ _=>rfl;obtain⟨⟨_,_,a46,u46⟩,e_fn⟩:=fnc e_fn;have zQi:FnAt K mg "part_of" zMi zze _ _:=fa2 X φ a46 u46 λ_ _ _ _ _ _ _ _=>rfl;obtain⟨⟨_,_,a47,u47⟩,e_fn⟩:=fnc e_fn;have zBl:FnAt K mg "parts" zOn zvh _ _:=fa1 X φ a47 u47 λ_ _ _ _ _ _ _=>rfl;obtain⟨⟨_,_,a48,u48⟩,e_fn⟩:=fnc e_fn;have zvo:FnAt K mg "most" zur z3j _ _:=fa1 X φ a48 u48 λ_ _ _ _ _ _ _=>rfl;obtain⟨⟨_,_,a49,u49⟩,e_fn⟩:=fnc e_fn;have zxc:FnAt K mg "_law_told_alike" zFc zob _ _:=fa4 X φ a49 u49 λ_ _ _ _ _ _ _ _ _ _=>rfl;obtain⟨⟨f50,oc50,od50,sl50,kV50,dc50,pm50,an50,cd50,ct50,a50,l50,c50,k50⟩,e_fn⟩:=fnl e_fn;have u50:=zWw (st:=zqq) l50 c50 k50;have z9z:FnAt K mg "law" zqq zTq _ _:=fa1 X φ a50 u50 λ_ _ _ _ _ _ _=>rfl;have e:=hfa.symm.trans (W.mg_of X φ a50);cases e;obtain⟨zvA,e_vv⟩:=YB e_vv;obtain⟨zAA,e_vv⟩:=YB e_vv;obtain⟨ziq,e_vv⟩:=YB e_vv;obtain⟨z0A,e_vv⟩:=YB e_vv;obtain⟨zyz,e_vv⟩:=YB e_vv;obtain⟨zvy,e_vv⟩:=YB e_vv;obtain⟨zCs,e_vv⟩:=YB e_vv;obtain⟨zEA,e_vv⟩:=YB e_vv;obtain⟨z4v,e_vv⟩:=YB e_vv;obtain⟨zdA,e_vv⟩:=YB e_vv;obtain⟨zVx,e_vv⟩:=YB e_vv;have T:Txt K mg:=⟨YX X φ zvA,YX X φ zAA,YX X φ ziq,YX X φ z0A,YX X φ zyz,YX X φ zvy,YX X φ zCs,YX X φ zEA,YX X φ z4v,YX X φ zdA,YX X φ zVx⟩
 refine⟨W.fnOf "law" "law" (z6d zqq) (zCd zqq) (zp zqq) .none kV50 dc50 pm50 an50 cd50 ct50,λs v =>.of_eq rfl,λbase _ _=>?_⟩;have zAg:=zhm (P:=l.prog) (w:=w) (base:=base) T zkf;have zOe:=zAk T zkf zAg zTd;have z9h:=z2o T zTd zOe zCh;have zu:=z3n (P:=l.prog) (w:=w) (base:=base) T zz;have z3h:=zOo T zz zu zOh;have zDd:=zqs (P:=l.prog) (w:=w) (base:=base) T zRd;have zmg:=zmm T zRd zDd zpf;have zoe:=zjm T zz zu z5d;have zLf:=zel T zRd zDd zde;have zye:=zwq (P:=l.prog) (w:=w) (base:=base) T z0e;have zrn:=zSu (P:=l.prog) (w:=w) (base:=base) T zGn;have zsh:=zyn T zGn zrn zJg;have zFj:=z5v (P:=l.prog) (w:=w) (base:=base) T zQl;have zXl:=zXr (P:=l.prog) (w:=w) (base:=base) T zTk;have zSe:=zIs T zJg zsh zQl zFj zTk zXl zhf;have zUc:=zmu T zQl zFj zPd;have zWj:=zMq (P:=l.prog) (w:=w) (base:=base) T zlj;have zXj:=zsq (P:=l.prog) (w:=w) (base:=base) T zwi;have z4k:=zUs T zPd zUc zlj zWj zwi zXj zNk;have z8c:=zVn T zhf zSe zNk z4k z5c;have z6j:=zXv (P:=l.prog) (w:=w) (base:=base) T zbl;have zVb:=z4o (P:=l.prog) (w:=w) (base:=base) T z0b;have zao:=zlw T z0e zye z5c z8c zbl z6j z0b zVb zLo;have zve:=zzq (P:=l.prog) (w:=w) (base:=base) T zNe;have zyd:=z6h (P:=l.prog) (w:=w) (base:=base) T zuc;have zpe:=zhu T zNe zve zuc zyd zNf;have z1h:=zto T zNf zpe zKh;have z7j:=zTp T z0e zye zPd zUc zbl z6j zKh z1h z3i;have zP:=zkm (P:=l.prog) (w:=w) (base:=base) T zT;have zGd:=zti T zRd zDd z1c;have zKg:=zpm (P:=l.prog) (w:=w) (base:=base) T zyf;have zud:=zei T zyf zKg znc;have zRb:=zYo T z1c zGd znc zud z5b;have zqd:=z0h T zLo zao z3i z7j zz zu zT zP z5b zRb zic;have zIf:=zgl T zz zu zge;have z2b:=zul T z5c z8c zXb;have zEb:=zIp T zNe zve z0b zVb zKb;have ztf:=z1n T zKb zEb zJe;have zHj:=z7p T zJe ztf zzi;have zKe:=z2r T zXb z2b zzi zHj zef;have zJj:=zWp (P:=l.prog) (w:=w) (base:=base) T zji;have zJh:=zYp T zef zKe zji zJj znh;have zId:=zBi T zge zIf z5b zRb zPd zUc zz zu zhf zSe znh zJh zT zP zWc;have zEd:=z8h T zef zKe z5b zRb zKb zEb zT zP zPd zUc zrc;have z9e:=zMn T zz zu zIe;have zch:=zun (P:=l.prog) (w:=w) (base:=base) T zrg;have z8j:=zyq T zrg zch zQi;have zJk:=zut T zQi z8j zBl;have zYn:=zew T zXb z2b z0b zVb zvo;have zpd:=zdi T zIe z9e zKb zEb zNf zpe zBl zJk zT zP zvo zYn zxc;exact zdx T zCh z9h zOh z3h zpf zmg z5d zoe zde zLf zic zqd zWc zId zrc zEd zxc zpd z9z
def walk{l:W.OpenLaw}{q:yy}{loose:List yF}{XP:(yF->Option yb)->Ye->Prop}{YP:yJ->Ye->Prop}{d:DefRec}{K:Params->yB}(hn:l.most=some 63)(hdf:d.params.defaults=[])
 (hY:∀(w:yJ)(h:Ye),YP w h->(K w.params).In h)
 (F:∀(w:yJ)(mg:yF->Option yb)(fa:yg)(h:Ye),(K w.params).In h->h.Ns yE mg->mg d.name=some (.ref fa) ->
  ∃fd:yj,(∀(s:ye)(u:yb),BindsTo s fd ⟨[u],[]⟩ [("_law_script",u)])/\∀base:Ye,(K w.params).In base->base.Ns yE mg->tm l.prog w (K w.params) mg base CX0 9 fa fd ["_law_script"] (spM (K w.params) 1 zVr)) :
 W.WalkO q loose XP YP l.row.toRowW d [] (λf vs=>PySem.call f vs) :=
 L2.walk_of (n:=63) (k:=9) (x:="_law_script") (CX:=λ_=>CX0) (sp:=λw=>spM (K w.params) 1 zVr) hn (by decide) hdf (by first|exact⟨rfl,by decide,by decide,rfl⟩|exact⟨rfl,by decide,by decide⟩) hY F (λ_ _ a ns hl hO hS=>zSz (z3v ns hl) hO hS) λ_ _ _ _ _ z=>z
end P
open PySem PySem.W PyProof.Rows
set_option maxRecDepth 100000 in
set_option maxHeartbeats 0 in
theorem PySem.Challenge.cw_keynests_k73_whole_by_other_names_holds : PySem.Challenge.rw_keynests_k73_whole_by_other_names.Holds := by
 refine M.Sj (l:=xk) (q:=Hd.qv) (loose:=Hd.lse) (d:=Hd.dl) (obs:=Hd.obs) (good:=Hd.good) (N:=60000) Hd.hd1 Hd.hd2 Hd.hd3 Hd.hd4 Hd.hd5 Hd.hd6 Hd.hd7 ?hw λK e=>?_
 case hw=>w_witness2
 exact P.walk (l:=xk) (K:=λ_=>K) (by rfl) (by rfl) (λw h σ=>σ) λw mg fa h KX φ hmg=>P.all_of KX φ hmg e
