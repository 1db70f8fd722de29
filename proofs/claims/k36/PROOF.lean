import PyProof.Rows.All
import Wide.All
import OpenK.AllK
import Wide.FinOn
import Lean
import PyProof.EqAt
import PyProof.EqKinds
import PyProof.TupleCall
import OpenK.KRaise
import PySem.SetOps
import PyProof.SetKind
import PyProof.DictStraight
import PyProof.CollectWalk
import PyProof.Seq
import PyProof.Walks
import PyProof.FactsAll.set
import PyProof.Rows.SortShell
import PyProof.Rows.SortWalk
import PyProof.Rows.SetFrom
import PyProof.SumAny
import PyProof.ListRange
import PyProof.EnumMake
import KE.KDictList
import KE.KRevIter
import KE.BitLaws
import PyProof.Rows.MinMaxN
import PyProof.ZipIter
import PyProof.DictDisplay
import KE.KRevSl
import PyProof.PureInt
import PySem.Challenge.RW_keynests_k36_whole_pairs
set_option autoImplicit false
open List (all_cons any_cons any_eq_true any_map append_assoc append_nil countP_congr countP_cons countP_map count_append count_cons drop_eq_getElem_cons ext_getElem? filter_congr filter_sublist flatten_cons forIn_nil getD_eq_getElem?_getD getElem_mem length_append length_cons length_filter_le length_map length_range length_replicate length_singleton length_take lookup_cons mapM_cons map_append map_congr_left map_cons map_map map_nil mem_append mem_append_left mem_append_right mem_cons mem_cons_of_mem mem_cons_self mem_filter mem_flatMap mem_map mem_of_getElem? mem_range mergeSort_perm nodup_append nodup_cons nodup_nil nodup_range not_mem_nil pairwise_map replicate_succ size_toArray sum_cons take_add_one take_append_drop take_length take_succ)
set_option maxRecDepth 100000
set_option linter.all false
set_option Elab.async false
open PySem renaming wpAny_bind→ya,Value→yb,Shared→yd,wpAny_pure→ye,Addr→yf,FuncData→yn,wpAny→yp,starEach→yw,Program→yy,model→yz,Expr→yC,mainGlobals→yD,sizeLine→yF,Str→yG,bootBuiltins→yH,World→yL,wpAny_call_entry→yM,wpAny_callSpecial?_slot→yQ,Around→yR,wpAny_newObj_type→yS,mem_of_lookup→yT,wpAny_holding→yU,Heap→yW,wpAny_field→Yd,cellsFrom→Yg,assignEach→Yh,wpAny_setField_rec→Yi,compareOp→Yj,Stmt→Yp,eval→Yq,rawInt→YD,wpAny_seqItems→YF,foldedSetIterable→YL,wpAny_setState_of→YM,sizeLine_eq→YN,wpAny_ite_split→YQ,wpAny_specialOf→YR,NameKind→YX,Obj→YY,wpAny_mono→YZ,codeAny_builtin→xa,attributeBase→xh,SetTable→xk,backTo→xn,pyNext→xo,wpAny_passesOwn→xq,wpAny_truthy_bool→xt,wpAny_pyIter_list→xu,codeAny_mono→xv,Builtin→xw,wpAny_standAt→xy,wpAny_attempt→xz,wpAny_setEntries_of→xC,binaryOp→xD,wpAny_setField→xF,wpAny_isInstance→xG,wpAny_pyIter_tuple→xJ,wpAny_Call_Name_kw→xK,Pos→xU,plainId_quiet→xV,builtinLookup_eq_fast→xY,Scope→Xa,call_meets→Xd,wpAny_typeOf→Xf
open PySem.Heap renaming get?_push_of_some→yc,get?_push_size→yk,lt_size→ym,SameBut→yI,size_push→yZ,get?_update_self→Yc,get?_update_other→xc,ExtBut→xi
open List renaming replicate→yg,range→yh,getElem?_map→yj,getElem?_eq_getElem→yo,getElem?_append_left→yu,getElem?_append_right→yJ,getElem?_eq_none→Ym,getElem?_replicate→Yn,getElem?_set_ne→Yr,getElem?_set_self→YK,take_of_length_le→xf,eraseIdx_cons_succ→xE,pairwise_lt_range→xP,countP_eq_length_filter→xT
open Nat renaming le_refl→yi,ne_of_lt→yq,lt_of_lt_of_le→yA,le_trans→yB,ne_of_gt→yV,lt_irrefl→Ye,zero_le→Yl,lt_succ_of_lt→Yo,le_of_lt→Ys,lt_succ_self→YB,lt_add_right→YU,add_zero→xO
open Option renaming bind_some→yr
open PySem.NameKind renaming free→yt,cell→yO
open Bool renaming false_ne_true→yv,and_eq_true→yN,false_eq_true→xM,or_eq_true→xR,eq_iff_iff→xS
open PySem.W renaming Frag→yx,mg_none_of→YH,nsIn→xW
open Ne renaming symm→yE
open PySem.Builtin.SmallTypes renaming nextOf→yK,ownedTupleIsFree→Yb,ownedTupleHandOut→YC
open Sum renaming inl→yP,inr→Yu
open Int renaming toNat_natCast→yX,emod_lt_of_pos→xQ
open Option.some renaming inj→yY
open PySem.Builtin.List renaming listExtendWith→Yk,listTooLong→YW,listLengthHint→xg,listSameRef→xA
open PySem.Obj renaming data_mapFields→Yt,isFreed_of_fields→xm,mapSeq→xL
open List.cons renaming inj→Yv,injEq→xr
open PySem.Heap.SameBut renaming update→Yw
open PySem.PyData renaming eqv→Yx,strOk→xN
open PyProof.Rows renaming callWith_type1→Yy,slot_tuple_getitem→YS
open Classical renaming propDecidable→Yz
open PySem.Str renaming ofString→YA
open PySem.SetTable renaming below→YE,grown→Xe
open Function renaming comp→YG
open PySem.Around renaming under_plainId→YI
open PySem.Value renaming type→YJ,none→YT,ref→xj
open ForInStep renaming yield→YO
open PySem.Builtin.Tuple renaming tupleExact→YV
open PyProof.Rows.F renaming plain_set_update_loop→xb
open PySem.F renaming slot_tuple_iterator_next→xl,slot_enumerate_next→xZ
open PySem.Builtin.Slice renaming slicePlaces→xp
open PySem.AutoSeq1 renaming wpAny_loadPart'→xB
open PySem.Challenge renaming rw_keynests_k36_whole_pairs→xH
open False renaming elim→xI
open Array renaming getElem?_toList→xX
open PySem.SetTable.below renaming go→Xb
open List.Sublist renaming refl→Xc
noncomputable section
namespace M
open PySem PySem.W PyProof.Rows
def kOf(as:List yf)(h:yW):Frag:=as.filterMap λa=>(h.get? a).map λo=>(a,o)
def zYu(h:yW):Frag:=kOf (yh h.objs.size) h
def zJu(s:Yp):Arguments:=match s with
 |.FunctionDef _ a _ _ _ _ _ _ _ _=>a
 |_=>{posonlyargs:=[],args:=[],vararg:=none,kwonlyargs:=[],kw_defaults:=[],kwarg:=none,defaults:=[]}
def zZt(s:Yp):List Yp:=match s with
 |.FunctionDef _ _ b _ _ _ _ _ _ _=>b
 |_=>[]
def zYp(s:Yp):Xa:=match s with
 |.FunctionDef _ _ _ _ _ _ sc _ _ _=>sc
 |_=>{kind:=.function,names:=[],isGenerator:=false,isCoroutine:=false }
def zUx(s:Yp):xU:=match s with
 |.FunctionDef _ _ _ _ _ _ _ _ _ p=>p
 |_=>⟨0,0,0,0⟩
structure TB where
 name:yG
 qual:yG
 params:Arguments
 body:FuncBody
 scope:Xa
 globals:yf
 closure:List (yG×yf)
 defaults:yb
 builtins:yf
 code:Bool
 keep:Bool
def zvn(K:Frag)(a:yf)(qual:yG):Option TB:=match K.lookup a with
 |some ⟨_,_,.func fd,_⟩=>some ⟨fd.name,fd.qualname,fd.params,fd.body,fd.scope,fd.globals,fd.closure,fd.defaults,fd.builtins,codeIn K fd.code qual,keepIn K (.ref a)⟩
 |_=>none
def z5(K:Frag)(nm:yG):Option TB:=match nsIn K yD nm with
 |some (some (.ref a))=>zvn K a nm
 |_=>none
def z2p(nm qual:yG)(st:Yp):Option TB:=some ⟨nm,qual,zJu st,.stmts (zZt st),zYp st,yD,[],.none,builtinsNs,true,true⟩
def z6(nm:yG)(st:Yp):Option TB:=z2p nm nm st
def zrs{p q:yy}{loose:List yG}{α:Type}{Yf:yd->α}{y:α}{N:Nat}(h1:LeftO p q loose (λ_=>true) (λ_=>()) (λ_=>()) N)(h2:∀w,(openEnds treeTable p w N).map Yf=some y):LeftO p q loose (λ_=>true) Yf (λ_=>y) N:=λw=>by
 obtain⟨s,e,a⟩:=Option.map_eq_some_iff.mp (h1 w);obtain⟨s',e',b⟩:=Option.map_eq_some_iff.mp (h2 w);rw[e]at e';cases e';rw[e];show some (_,Yf s)=some (_,y);rw[b];exact congrArg (λz=>some (z.1,y)) a
end M
namespace Hd
open PySem PySem.Spec PyProof.Rows M
def top(i:Nat):Yp:=PySem.Challenge.pw_keynests_k36_whole_pairs.main.body.getD i (.Pass ⟨0,0,0,0⟩)
def qv:yy:={PySem.Challenge.pw_keynests_k36_whole_pairs with main:={PySem.Challenge.pw_keynests_k36_whole_pairs.main with body:=[top 43]}}
def lse:List yG:=(PySem.Challenge.pw_keynests_k36_whole_pairs.main.scope.names.map (·.1)).filter λx=>!(x == "law")
def dl:DefRec:={name:="law",params:=zJu (top 43),body:=zZt (top 43),scope:=zYp (top 43),pos:=zUx (top 43)}
def obs(K:yx):List (Option TB)×List (Option (Option yb)):=([z5 K "_law_pen",z5 K "_law_mixed",z5 K "_law_take",z5 K "_law_pairs",z5 K "joined_to",z5 K "part_of",z5 K "parts",z5 K "check_pairs",z5 K "word_of",z5 K "words",z5 K "_law_more",z5 K "is_on_ring",z5 K "on_rings",z5 K "ways_of",z5 K "ways",z5 K "room_of",z5 K "homes_of",z5 K "is_crowd",z5 K "lying",z5 K "pushes_to",z5 K "left",z5 K "row_to",z5 K "put_in",z5 K "fault",z5 K "is_push",z5 K "follows",z5 K "pushed",z5 K "laid_more",z5 K "laid_at_all",z5 K "spare_key",z5 K "trimmed",z5 K "fitted",z5 K "_law_whole",z5 K "law"],[xW K yD "any",xW K yD "enumerate",xW K yD "int",xW K yD "len",xW K yD "list",xW K yD "min",xW K yD "range",xW K yD "reversed",xW K yD "set",xW K yD "sorted",xW K yD "sum",xW K yD "tuple",xW K yD "zip"])
def good:List (Option TB)×List (Option (Option yb)):=([z6 "_law_pen" (top 37),z6 "_law_mixed" (top 38),z6 "_law_take" (top 39),z6 "_law_pairs" (top 40),z6 "joined_to" (top 5),z6 "part_of" (top 6),z6 "parts" (top 7),z6 "check_pairs" (top 8),z6 "word_of" (top 9),z6 "words" (top 10),z6 "_law_more" (top 42),z6 "is_on_ring" (top 11),z6 "on_rings" (top 12),z6 "ways_of" (top 13),z6 "ways" (top 14),z6 "room_of" (top 30),z6 "homes_of" (top 29),z6 "is_crowd" (top 32),z6 "lying" (top 18),z6 "pushes_to" (top 23),z6 "left" (top 16),z6 "row_to" (top 24),z6 "put_in" (top 25),z6 "fault" (top 17),z6 "is_push" (top 20),z6 "follows" (top 21),z6 "pushed" (top 22),z6 "laid_more" (top 26),z6 "laid_at_all" (top 27),z6 "spare_key" (top 33),z6 "trimmed" (top 34),z6 "fitted" (top 35),z6 "_law_whole" (top 41),z6 "law" (top 43)],[some none,some none,some none,some none,some none,some none,some none,some none,some none,some none,some none,some none,some none])
set_option maxHeartbeats 0
def hd21:W.LeftO PySem.Challenge.rw_keynests_k36_whole_pairs.prog qv lse (λ_=>true) (λ_=>()) (λ_=>()) 60000:=λw=>by kernel_rfl
def hd22:∀w,(W.openEnds treeTable PySem.Challenge.rw_keynests_k36_whole_pairs.prog w 60000).map (λs=>obs (zYu s.heap))=some good:=λw=>by kernel_rfl
def hd2:W.LeftO PySem.Challenge.rw_keynests_k36_whole_pairs.prog qv lse (λ_=>true) (λs=>obs (zYu s.heap)) (λ_=>good) 60000:=zrs hd21 hd22
def hd1:PySem.Challenge.rw_keynests_k36_whole_pairs.wellSaid=true:=by kernel_rfl
def hd3:W.defOf qv PySem.Challenge.rw_keynests_k36_whole_pairs.name=some (dl,[]):=by kernel_rfl
def hd4:PySem.Challenge.rw_keynests_k36_whole_pairs.prog.theDef PySem.Challenge.rw_keynests_k36_whole_pairs.name=some (dl.params,dl.body,dl.scope):=by kernel_rfl
def hd5:W.kwWritten? dl.params.kwonlyargs dl.params.kw_defaults=some []:=by kernel_rfl
def hd6:(W.chainsOk qv&&W.opensWell PySem.Challenge.rw_keynests_k36_whole_pairs.prog&&(W.frees PySem.Challenge.rw_keynests_k36_whole_pairs.row.toRowW&&PySem.Challenge.rw_keynests_k36_whole_pairs.row.within.isEmpty))=true:=by kernel_rfl
def hd7:PySem.Challenge.rw_keynests_k36_whole_pairs.prog.bare:=⟨rfl,rfl,rfl,rfl,rfl,by decide +kernel⟩
end Hd
namespace L2
open PySem PySem.Spec PyProof.Rows
abbrev Key:=Sum Int yG
def zan:Key->yb->Bool
 |.inl k,v=>Value.isInt k v
 |.inr x,v=>Value.isStrOf x v
def zXx(w:yL):Key->Int
 |.inl k=>hashInt k
 |.inr x=>hashStr w x
def z9:∀{k:Key} {v:yb},zan k v=true->(∃i t,k=yP i/\v=Value.int i t)\/(∃x t,k=Yu x/\v=Value.str x t)
 |.inl i,v,h=>by
  obtain⟨t,e⟩:=Value.isInt_shape (k:=i) (v:=v) h;exact .inl ⟨i,t,rfl,e⟩
 |.inr x,v,h=>by
  obtain⟨t,e⟩:=Value.isStrOf_shape (x:=x) (v:=v) h;exact .inr ⟨x,t,rfl,e⟩
def zWp(i:Int)(t:Tok):zan (.inl i) (.int i t)=true:=by simp[zan,Value.isInt]
def zlp(x:yG)(t:Tok):zan (.inr x) (.str x t)=true:=by simp[zan,Value.isStrOf]
def zNv(a b:Int):decide ((yP a:Key)=yP b)=(a==b):=by
 by_cases e:a=b
 ·subst e;simp
 ·have h:¬(yP a:Key)=yP b:=λq=>e (Sum.inl.inj q);rw[decide_eq_false h];exact(beq_eq_false_iff_ne.mpr e).symm
def zOv(a b:yG):decide ((Yu a:Key)=Yu b)=decide (a=b):=by
 by_cases e:a=b
 ·subst e;simp
 ·have h:¬(Yu a:Key)=Yu b:=λq=>e (Sum.inr.inj q);rw[decide_eq_false h,decide_eq_false e]
def zRv(a:Int)(b:yG):decide ((yP a:Key)=Yu b)=false:=decide_eq_false (λq=>nomatch q)
def zQv(a:yG)(b:Int):decide ((Yu a:Key)=yP b)=false:=decide_eq_false (λq=>nomatch q)
def ztb(prog:yy)(w:yL):PySem.KeyKind prog w Key where
 is:=zan
 hash:=zXx w
 inj:=λv a b ha hb=>by
  rcases z9 ha with ⟨i,t,rfl,rfl⟩|⟨x,t,rfl,rfl⟩
  ·rcases z9 hb with ⟨j,u,rfl,e⟩|⟨y,u,rfl,e⟩
   ·injection e with e1 _;rw[e1]
   ·exact nomatch e
  ·rcases z9 hb with ⟨j,u,rfl,e⟩|⟨y,u,rfl,e⟩
   ·exact nomatch e
   ·injection e with e1 _;rw[e1]
 byValue:=λk v h=>by
  rcases z9 h with ⟨i,t,rfl,rfl⟩|⟨x,t,rfl,rfl⟩<;>rfl
 pyHash:=λhv h=>by
  rcases z9 hv with ⟨i,t,rfl,rfl⟩|⟨x,t,rfl,rfl⟩
  ·exact wpAny_pyHash_int h
  ·exact wpAny_pyHash_str h
 eqBool:=λhu hv h=>by
  rcases z9 hu with ⟨i,t,rfl,rfl⟩|⟨x,t,rfl,rfl⟩
  ·rcases z9 hv with ⟨j,u,rfl,rfl⟩|⟨y,u,rfl,rfl⟩
   ·rw[zNv]at h;exact wpAny_eqBool_int h
   ·rw[zRv]at h;exact SeqAt.EqAt.int_str i t y u _ _ _ _ h
  ·rcases z9 hv with ⟨j,u,rfl,rfl⟩|⟨y,u,rfl,rfl⟩
   ·rw[zQv]at h;exact SeqAt.EqAt.str_int x t j u _ _ _ _ h
   ·rw[zOv]at h;exact wpAny_eqBool_str h
 «strs»:=λk x t v h=>by
  rcases z9 h with ⟨i,u,rfl,e⟩|⟨y,u,rfl,e⟩
  ·exact nomatch e
  ·injection e with e1 _;subst e1;cases v<;>rfl
def zAg(prog:yy)(w:yL)(k:Key)(v:yb):(ztb prog w).is k v=zan k v:=rfl
def z7m(prog:yy)(w:yL)(i:Int)(t:Tok):(ztb prog w).is (.inl i) (.int i t)=true:=zWp i t
def zsm(prog:yy)(w:yL)(x:yG)(t:Tok):(ztb prog w).is (.inr x) (.str x t)=true:=zlp x t
inductive V where
 |non|bl (b:Bool)|int (i:Int)|str (x:yG)|byt (b:Array UInt8)|flt (b:UInt64)|ref (a:yf)|ty (n:String)
 deriving DecidableEq
def RelV:V->yb->Prop
 |.non,u=>u=YT
 |.bl b,u=>u=Value.bool b
 |.int i,u=>∃t,u=Value.int i t
 |.str x,u=>∃t,u=Value.str x t
 |.byt b,u=>∃t,u=Value.bytes b t
 |.flt b,u=>∃t,u=Value.float b t
 |.ref a,u=>u=xj a
 |.ty n,u=>u=YJ n
abbrev Vals:List V->List yb->Prop:=Paired RelV
def Vals.length{xs:List V}{us:List yb}(r:Vals xs us):xs.length=us.length:=Paired.length r
def Vals.get:∀{xs:List V} {us:List yb} {i:Nat} {x:V},Vals xs us->xs[i]?=some x->∃u,us[i]?=some u/\RelV x u
 |_,_,_,_,.nil,e=>by simp at e
 |_,_,0,_,.cons r _,e=>by simp at e;subst e;exact⟨_,rfl,r⟩
 |_,_,i+1,x,.cons _ t,e=>by
  obtain⟨u,h1,h2⟩:=Vals.get (i:=i) (x:=x) t (by simpa using e);exact⟨u,by simpa using h1,h2⟩
def Vals.set{x:V}{u:yb}(r:RelV x u):∀{xs:List V} {us:List yb} (i:Nat),Vals xs us->Vals (xs.set i x) (us.set i u)
 |_,_,_,.nil =>.nil
 |_,_,0,.cons _ t =>.cons r t
 |_,_,i+1,.cons q t =>.cons q (Vals.set r i t)
def Vals.append:∀{xs ys:List V} {us ws:List yb},Vals xs us->Vals ys ws->Vals (xs++ys) (us++ws)
 |_,_,_,_,.nil,s=>s
 |_,_,_,_,.cons r t,s =>.cons r (Vals.append t s)
def Vals.take:∀{xs:List V} {us:List yb} (n:Nat),Vals xs us->Vals (xs.take n) (us.take n)
 |_,_,0,_ =>.nil
 |_,_,_+1,.nil =>.nil
 |_,_,n+1,.cons r t =>.cons r (Vals.take n t)
def Vals.drop:∀{xs:List V} {us:List yb} (n:Nat),Vals xs us->Vals (xs.drop n) (us.drop n)
 |_,_,0,r=>r
 |_,_,_+1,.nil =>.nil
 |_,_,n+1,.cons _ t=>Vals.drop n t
def sC:Option V->Option yb->Prop
 |some v,some u=>RelV v u
 |none,none=>True
 |_,_=>False
def KV{κ:Type}:List (κ×V)->List (κ×yb)->Prop:=Paired λ(p:κ×V) (q:κ×yb)=>p.1=q.1/\RelV p.2 q.2
def kV:Key->V
 |.inl i =>.int i
 |.inr x =>.str x
inductive HO where
 |lst (xs:List V)
 |tup (xs:List V)
 |dK (kvs:List (Key×V))|dT (kvs:List (List Key×V))
 |set (S:Int->Bool) (n:Nat)
 |ins (C dx:yf) (fs:List (yG×V))
 |own (x:yf)
 |xd (fs:List (yG×V))
 |met (f x:yf)
 |rng (lo hi:Int)
 |frz (o:YY) (u:HO)
 |tbl (ps:Array yb)
 |ext (G:yW->Prop)
abbrev Hp:=yf->Option HO
def upd(H:Hp)(a:yf)(o:HO):Hp:=λb=>if b=a then some o else H b
def zC{H:Hp}{a:yf}{o:HO}:upd H a o a=some o:=by unfold upd;rw[if_pos rfl]
def zU{H:Hp}{a b:yf}{o:HO}(h:b≠a):upd H a o b=H b:=by unfold upd;rw[if_neg h]
def zM{H:Hp}{a b:yf}{o:HO}(h:H a=some o)(h':H b=none):a≠b:=by
 intro e;subst e;rw[h]at h';cases h'
section
variable (P:yy)(w:yL)
def tJ(H:Hp)(h:yW)(a:yf):HO->Prop
 |.lst xs=>xs.length<=yF/\∃(its:List yb)(n:Nat),Vals xs its/\h.get? a=some {cls:=.type "list",data:=.seq its.toArray n }
 |.tup xs=>xs.length<=yF/\∃its:List yb,Vals xs its/\IsTup h a its.toArray
 |.dK kvs=>kvs.length<=yF/\(a==sysModules)=false/\∃vs,KV kvs vs/\h.DictOf (ztb P w) a vs
 |.dT kvs=>kvs.length<=yF/\(a==sysModules)=false/\∃xs:List (List Key×yf×yb),
  Paired (λ(p:List Key×V) (q:List Key×yf×yb)=>p.1=q.1/\H q.2.1=some (.tup (p.1.map kV))/\RelV p.2 q.2.2) kvs xs /\
  ∃o es ep,h.get? a=some o/\o.ExactDict/\o.data=.dict es ep/\es.toList=xs.map (entryOfKey (tupleKind (ztb P w)))/\(xs.map (·.1)).Nodup
 |.set S n=>h.SetOf (intKind P w) a S n
 |.ins C dx fs=>H dx=some (.own a)/\fs.length<=1000/\dx≠a/\h.get? a=some (W.instObj C dx) /\
  ∃mA,h.Ns1 dx mA/\(∀f,sC (fs.lookup f) (mA f))/\PySem.Within mA (fs.map (·.1))
 |.own _=>∃o,h.get? a=some o
 |.xd fs=>∃mA,h.Ns1 a mA/\∀f,sC (fs.lookup f) (mA f)
 |.rng lo hi=>∃t u v,h.get? a=some {cls:=.type "range",data:=.fields #[.int lo t,.int hi u,.int 1 v]}
 |.frz o u=>h.get? a=some o/\tJ H h a u
 |.tbl ps=>h.get? a=some {cls:=.none,data:=.fields ps }
 |.met f x=>h.get? a=some (W.methodObj (.ref f) (.ref x))
 |.ext G=>G h/\(∃o,h.get? a=some o)/\∀h1 h2:yW,G h1->(∀o,h1.get? a=some o->h2.get? a=some o)->G h2
def HOk(H:Hp)(h:yW):Prop:=∀a o,H a=some o->tJ P w H h a o
variable {P:yy}{w:yL}{H H':Hp}{h h':yW}{a:yf}{o:HO}
def tJ.lt(x:tJ P w H h a o):a<h.objs.size:=by
 cases o with
 |lst xs=>obtain⟨_,_,_,_,e⟩:=x;exact ym e
 |tup xs=>obtain⟨_,_,_,p⟩:=x;exact p.lt
 |dK kvs=>obtain⟨_,_,_,_,o,_,_,e,_⟩:=x;exact ym e
 |dT kvs=>obtain⟨_,_,_,_,o,_,_,e,_⟩:=x;exact ym e
 |set S n=>obtain⟨o,_,_,_,e,_⟩:=x;exact ym e
 |ins C dx fs=>obtain⟨_,_,_,e,_⟩:=x;exact ym e
 |own y=>obtain⟨_,e⟩:=x;exact ym e
 |xd fs=>obtain⟨_,⟨_,_,_,e,_⟩,_⟩:=x;exact ym e
 |rng lo hi=>obtain⟨_,_,_,e⟩:=x;exact ym e
 |frz ob u=>obtain⟨e,_⟩:=x;exact ym e
 |tbl ps=>exact ym (show h.get? a=some _ from x)
 |met f y=>exact ym (show h.get? a=some _ from x)
 |ext G=>obtain⟨_,⟨_,e⟩,_⟩:=x;exact ym e
def Paired.mapP{α β:Type}{F φ:α->β->Prop}:∀{l₁:List α} {l₂:List β},Paired F l₁ l₂->(∀a b,F a b->φ a b)->Paired φ l₁ l₂
 |_,_,.nil,_ =>.nil
 |_,_,.cons r t,f =>.cons (f _ _ r) (Paired.mapP t f)
def tJ.stay(x:tJ P w H h a o)(k:∀b u,(b=a\/H b=some (.own a))->h.get? b=some u->h'.get? b=some u)
 (ho:∀b,H b=some (.own a)->H' b=some (.own a)) (ht:∀b xs,H b=some (.tup xs)->H' b=some (.tup xs)):tJ P w H' h' a o:=by
 induction o with
 |lst xs=>obtain⟨z,its,n,r,e⟩:=x;exact⟨z,its,n,r,k _ _ (.inl rfl) e⟩
 |tup xs=>obtain⟨z,its,r,ob,e,c⟩:=x;exact⟨z,its,r,ob,k _ _ (.inl rfl) e,c⟩
 |dK kvs=>obtain⟨z,y,vs,r,ob,es,ep,e,c⟩:=x;exact⟨z,y,vs,r,ob,es,ep,k _ _ (.inl rfl) e,c⟩
 |dT kvs=>
  obtain⟨z,y,xs,r,ob,es,ep,e,c⟩:=x;exact⟨z,y,xs,Paired.mapP r λp q z=>⟨z.1,ht _ _ z.2.1,z.2.2⟩,ob,es,ep,k _ _ (.inl rfl) e,c⟩
 |set S n=>obtain⟨ob,es,ep,t,e,c⟩:=x;exact⟨ob,es,ep,t,k _ _ (.inl rfl) e,c⟩
 |ins C dx fs=>
  obtain⟨d,z,ne,e,mA,⟨od,es,ep,e2,c⟩,r⟩:=x;exact⟨ho _ d,z,ne,k _ _ (.inl rfl) e,mA,⟨od,es,ep,k _ _ (.inr d) e2,c⟩,r⟩
 |own y=>obtain⟨ob,e⟩:=x;exact⟨ob,k _ _ (.inl rfl) e⟩
 |xd fs=>obtain⟨mA,⟨od,es,ep,e,c⟩,r⟩:=x;exact⟨mA,⟨od,es,ep,k _ _ (.inl rfl) e,c⟩,r⟩
 |rng lo hi=>obtain⟨t,u,v,e⟩:=x;exact⟨t,u,v,k _ _ (.inl rfl) e⟩
 |frz ob u ih=>obtain⟨e,q⟩:=x;exact⟨k _ _ (.inl rfl) e,ih q⟩
 |tbl ps=>
  have e:h.get? a=some {cls:=.none,data:=.fields ps }:=x;show h'.get? a=some {cls:=.none,data:=.fields ps };exact k a _ (.inl rfl) e
 |met f y=>
  have e:h.get? a=some (W.methodObj (.ref f) (.ref y)):=x;show h'.get? a=some (W.methodObj (.ref f) (.ref y));exact k a _ (.inl rfl) e
 |ext G=>obtain⟨p,⟨o,e⟩,st⟩:=x;exact⟨st _ _ p λo q=>k _ _ (.inl rfl) q,⟨o,k _ _ (.inl rfl) e⟩,st⟩
def HOk.lt(x:HOk P w H h)(e:H a=some o):a<h.objs.size:=(x a o e).lt
def HOk.fresh(x:HOk P w H h)(e:h.objs.size<=a):H a=none:=by
 cases q:H a with
 |none=>rfl
 |some u=>exact absurd (yA (x.lt q) e) (Ye _)
def HOk.kept(x:HOk P w H h)(k:∀b u,h.get? b=some u->h'.get? b=some u):HOk P w H h':=λa o e=>
 (x a o e).stay (λb u _ q=>k b u q) (λ_ q=>q) λ_ _ q=>q
def HOk.laid(x:HOk P w H h)(k:∀b u,h.get? b=some u->h'.get? b=some u)(hp:h.objs.size<=a)(new:tJ P w (upd H a o) h' a o):HOk P w (upd H a o) h':=λb u e=>by
 have hn:=x.fresh hp
 by_cases hb:b=a
 ·subst hb;rw[zC]at e;cases e;exact new
 ·rw[zU hb]at e;exact(x b u e).stay (λc v _ q=>k c v q) (λc q=>by rw[zU (zM q hn)];exact q) λc xs q=>by rw[zU (zM q hn)];exact q
end
def Rd(H:Hp)(a:yf)(u:HO):Prop:=H a=some u\/∃o,H a=some (.frz o u)
def Rd.ok{P:yy}{w:yL}{H:Hp}{h:yW}{a:yf}{u:HO}(r:Rd H a u)(x:HOk P w H h):tJ P w H h a u:=by
 rcases r with r|⟨o,r⟩
 ·exact x a u r
 ·obtain⟨_,q⟩:=x a _ r;exact q
def Mut:Option HO->Prop
 |some (.lst _)=>True
 |some (.dK _)=>True
 |some (.dT _)=>True
 |some (.set _ _)=>True
 |some (.ins _ _ _)=>True
 |some (.ext _)=>True
 |_=>False
section
variable {P:yy}{w:yL}{H:Hp}{h h':yW}{x e:yf}{o':HO}
def HOk.write(ok:HOk P w H h)(mu:Mut (H x))(he:e=x\/H e=some (.own x))(k:∀b u,b≠e->h.get? b=some u->h'.get? b=some u)(heo:∃u,h'.get? e=some u)
 (new:tJ P w (upd H x o') h' x o'):HOk P w (upd H x o') h':=λb u q=>by
 have nown:∀c y,H c=some (.own y)->c≠x:=λc y r z=>by subst z;rw[r]at mu;exact mu
 have ntup:∀c xs,H c=some (.tup xs)->c≠x:=λc xs r z=>by subst z;rw[r]at mu;exact mu
 by_cases hb:b=x
 ·subst hb;rw[zC]at q;cases q;exact new
 ·rw[zU hb]at q
  by_cases hbe:b=e
  ·have q':H b=some (.own x):=by
    rcases he with z|z
    ·exact absurd (hbe.trans z) hb
    ·rw[hbe];exact z
   rw[q]at q';cases q';obtain⟨v,hv⟩:=heo;exact⟨v,by rw[hbe];exact hv⟩
  ·refine(ok b u q).stay (λc v hc r=>k c v ?_ r) (λc r=>by rw[zU (nown c b r)];exact r) λc xs r=>by rw[zU (ntup c xs r)];exact r
   rcases hc with rfl|hc
   ·exact hbe
   ·rintro rfl;rcases he with z|z
    ·exact nown c b hc z
    ·rw[hc]at z;cases z;exact hb rfl
end
structure Un(fs ex:List yf)(H H':Hp)(h h':yW):Prop where
 keep:∀b o,h.get? b=some o->H b=none->b∉fs->b∉ex->h'.get? b=some o
 slot:∀b o,h.get? b=some o->H b=none->b∈fs->b∉ex->∃sl,h'.get? b=some {o with slots:=sl }
 free:∀b o,h.get? b=some o->H b=none->b∉ex->H' b=none
 there:∀b o,h.get? b=some o->b∉ex->∃o',h'.get? b=some o'
 tups:∀b xs,H b=some (.tup xs)->H' b=some (.tup xs)
 sf:∀b o u,H b=some (.frz o u)->H' b=some (.frz o u)
 su:∀b ps,H b=some (.tbl ps)->∃more,H' b=some (.tbl (ps++more))
section
variable {fs fs' ex ex':List yf}{H H1 H2:Hp}{h h1 h2 h':yW}{a x e:yf}{o:HO}
def Un.any(u:Un fs ex H H1 h h1){b:yf}{ob:YY}(q:h.get? b=some ob)(n:H b=none)(hx:b∉ex):∃sl,h1.get? b=some {ob with slots:=sl }:=by
 by_cases hb:b∈fs
 ·exact u.slot b ob q n hb hx
 ·exact⟨ob.slots,u.keep b ob q n hb hx⟩
def Un.kept(k:∀b u,h.get? b=some u->h'.get? b=some u):Un fs ex H H h h' :=
 ⟨λb ob q _ _ _=>k b ob q,λb ob q _ _ _=>⟨ob.slots,k b ob q⟩,λ_ _ _ n _=>n,λb ob q _=>⟨ob,k b ob q⟩,λ_ _ q=>q,λ_ _ _ q=>q,λ_ ps q=>⟨#[],by rw[q];simp⟩⟩
def Un.refl:Un fs ex H H h h:=Un.kept λ_ _ q=>q
def Un.laid(k:∀b u,h.get? b=some u->h'.get? b=some u)(hp:h.objs.size<=a)(hn:H a=none):Un fs ex H (upd H a o) h h' where
 keep:=λb u q _ _ _=>k b u q
 slot:=λb u q _ _ _=>⟨u.slots,k b u q⟩
 free:=λb u q n _=>by rw[zU (yq (yA (ym q) hp))];exact n
 there:=λb u q _=>⟨u,k b u q⟩
 tups:=λb xs q=>by rw[zU (zM q hn)];exact q
 sf:=λb u xs q=>by rw[zU (zM q hn)];exact q
 su:=λb ps q=>⟨#[],by rw[zU (zM q hn),q];simp⟩
def Un.write(mu:Mut (H x))(he:e=x\/H e=some (.own x))(k:∀b u,b≠e->h.get? b=some u->h'.get? b=some u)(heo:∃u,h'.get? e=some u):Un fs ex H (upd H x o) h h':=by
 have hx:∀b,H b=none->b≠x:=λb n z=>by subst z;rw[n]at mu;exact mu
 have hb:∀b,H b=none->b≠e:=λb n z=>by
  subst z;rcases he with r|r
  ·exact hx b n r
  ·rw[n]at r;cases r
 have hm:∀b u,H b=some u->¬Mut (some u)->b≠x:=λb u q nm z=>by subst z;rw[q]at mu;exact nm mu
 refine⟨λb u q n _ _=>k b u (hb b n) q,λb u q n _ _=>⟨u.slots,k b u (hb b n) q⟩,λb u q n _=>by rw[zU (hx b n)];exact n,λb u q _=>?_,
  λb xs q=>by rw[zU (hm b _ q λz=>z)];exact q,λb u xs q=>by rw[zU (hm b _ q λz=>z)];exact q,λb ps q=>⟨#[],by rw[zU (hm b _ q λz=>z),q];simp⟩⟩
 by_cases hbe:b=e
 ·subst hbe;exact heo
 ·exact⟨u,k b u hbe q⟩
end
def trk(h:yW)(H:Hp):List yf:=(yh h.objs.size).filter λa=>(H a).isSome
def zjs(h:yW)(H:Hp):yW:=W.hideAll h (trk h H)
def z6q(h:yW)(H:Hp):(zjs h H).objs.size=h.objs.size:=W.hideAll_size _ _
def zLr{h:yW}{H:Hp}{b:yf}{o:YY}(e:h.get? b=some o)(n:H b=none):(zjs h H).get? b=some o :=
 W.hideAll_get _ e λhm=>by
  have q:(H b).isSome=true:=(List.mem_filter.mp hm).2;rw[n]at q;simp at q
def zut{h:yW}{H:Hp}{b:yf}{o:YY}(e:(zjs h H).get? b=some o):h.get? b=some o/\H b=none:=by
 have e':h.get? b=some o:=W.of_hideAll (trk h H) e;refine⟨e',?_⟩
 cases q:H b with
 |none=>rfl
 |some x=>
  have hm:b∈trk h H:=List.mem_filter.mpr ⟨List.mem_range.mpr (ym e'),by simp[q]⟩;have z:(zjs h H).get? b=none:=W.hideAll_none (trk h H) hm;rw[z]at e;cases e
def zdu(g h:yW)(L:yf):List (yf×YY):=(yh h.objs.size).filterMap λa=>if a=L\/(g.get? a).isSome=true then none else(h.get? a).map λo=>(a,o)
def rest(g h:yW)(L d:yf):List (yf×YY):=(zdu g h L).filter λp=>decide (p.1≠d)
structure Mod(K:yx)(mg:yG->Option yb)(base:yW):Prop where
 kin:K.In base
 glob:base.Ns yD mg
 blt:∃mb,base.Ns builtinsNs mb/\∀x:yG,x≠"__name__"->mb x=yH x
 nolimit:base.NoLimit
structure Cx where
 prog:yy
 w:yL
 K:yx
 mg:yG->Option yb
 base:yW
 A:yR
 N:List yG
 s₀:yd
 H₀:Hp
 env:Env
 outer:List Env
 stack:List Env
 ex:List yf
 fn:yG->Bool
 calm:Bool
 pn:List (yf×YY)
 xe:yb->yd->Prop
def frs(l:List Env):List yf:=l.filterMap (·.frame)
abbrev Cx.fs(X:Cx):List yf:=frs X.outer
def Vis(sc:Xa)(x:yG):Prop:=sc.names.lookup x=some .local\/sc.names.lookup x=some .cell\/sc.names.lookup x=some .free
def Loc(sc:Xa)(x:yG):Prop:=sc.names.lookup x=some .local\/sc.names.lookup x=some .cell
def zNx(env:Env)(h:yW)(m:yG->Option yb)(x:yG)(u:yb):Prop :=
 (env.kindOf x=some .local/\m x=some u)\/((env.kindOf x=some .cell\/env.kindOf x=some .free)/\∃c,env.cells.lookup x=some c/\h.IsCell c (some u))
structure Cx.Ok(X:Cx):Prop where
 mod:Mod X.K X.mg X.base
 kind:X.env.scope.kind=.function
 glob:X.env.globals=yD
 blt:X.env.builtins=builtinsNs
 above:X.s₀.heap.objs.size<=X.env.locals
 inj:∀x y c,X.env.cells.lookup x=some c->X.env.cells.lookup y=some c->x=y
 has:∀x,(X.env.kindOf x=some .cell\/X.env.kindOf x=some .free)->∃c,X.env.cells.lookup x=some c
 cab:∀x c,X.fn x=true->X.env.cells.lookup x=some c->X.s₀.heap.objs.size<=c
 hd:X.calm=true->X.A.handled=none
 frames:X.A.frames=some X.stack
 stk:X.stack=X.outer\/(X.stack=X.env::X.outer/\X.env.frame=some X.env.locals)
 exf:∀b∈X.ex,b≠X.env.locals/\∀x c,X.env.cells.lookup x=some c->c≠b
 bs:∀b o,X.base.get? b=some o->X.s₀.heap.get? b=some o/\X.H₀ b=none
 bsz:X.base.objs.size<=X.s₀.heap.objs.size
 sU:∀b o,X.base.get? b=some o->b∉X.ex
 exfs:∀b∈X.ex,b∉X.fs
 TM:X.s₀.heap.FunFrames X.base X.outer
 frf:∀b∈X.fs,X.H₀ b=none
structure Inv(X:Cx)(pins:List (yf×YY))(Y:List (Option V))(H:Hp)(s:yd):Prop where
 ok:X.Ok
 os:s.os=X.s₀.os
 bare:AllBare s.gens
 base:Un X.fs X.ex X.H₀ H X.s₀.heap s.heap
 loc:∃m,s.heap.Ns X.env.locals m/\∀(i:Nat)(x:yG)(v:V),X.N[i]?=some x->Y[i]?=some (some v)->Vis X.env.scope x->∃u,RelV v u/\zNx X.env s.heap m x u
 cell:∀x c,X.env.cells.lookup x=some c->∃v,s.heap.IsCell c v
 free:H X.env.locals=none
 freeC:∀x c,X.env.cells.lookup x=some c->H c=none
 pin:∀p∈X.pn++pins,s.heap.get? p.1=some p.2/\H p.1=none/\p.1≠X.env.locals/\p.1∉X.fs/\∀v,p.2.data≠.cell v
 hok:HOk X.prog X.w H s.heap
 len:Y.length=X.N.length
section
variable {X:Cx}{pins:List (yf×YY)}{Y:List (Option V)}{H H':Hp}{s:yd}{h':yW}
def Cx.Ok.nofr(ok:X.Ok){b:yf}{o:YY}(e:X.base.get? b=some o):b∉X.fs:=λhb=>by
 have:=(ok.TM.mem hb).1;rw[e]at this;cases this
def Inv.bs(I:Inv X pins Y H s):∀b o,X.base.get? b=some o->s.heap.get? b=some o/\H b=none:=λb o e=>
 ⟨I.base.keep b o (I.ok.bs b o e).1 (I.ok.bs b o e).2 (I.ok.nofr e) (I.ok.sU b o e),I.base.free b o (I.ok.bs b o e).1 (I.ok.bs b o e).2 (I.ok.sU b o e)⟩
def Inv.bk(I:Inv X pins Y H s):∀b o,X.base.get? b=some o->s.heap.get? b=some o:=λb o e=>(I.bs b o e).1
def Inv.mod(I:Inv X pins Y H s):Mod X.K X.mg X.base:=I.ok.mod
def Inv.kIn(I:Inv X pins Y H s):X.K.In s.heap:=I.ok.mod.kin.keeps I.bk
def Inv.fr(I:Inv X pins Y H s):∃m,Fr X.base X.env.locals s.heap m :=
 let ⟨m,hn,_⟩:=I.loc
 ⟨m,hn,I.bk,yB I.ok.bsz I.ok.above⟩
def Inv.lt(I:Inv X pins Y H s):X.env.locals<s.heap.objs.size:=let ⟨_,hn,_⟩:=I.loc;hn.lt
def Inv.sz(I:Inv X pins Y H s):X.s₀.heap.objs.size<=s.heap.objs.size:=yB I.ok.above (Ys I.lt)
def Inv.nofs(I:Inv X pins Y H s){a:yf}(h:s.heap.objs.size<=a):a∉X.fs:=λhb=>by
 obtain⟨_,o,ho,_⟩:=I.ok.TM.mem hb;exact absurd (yA (ym ho) (yB I.sz h)) (Ye _)
def Inv.cne(I:Inv X pins Y H s):∀x c,X.env.cells.lookup x=some c->c≠X.env.locals:=λx c e z=>by
 obtain⟨v,o,ho,hd⟩:=I.cell x c e;obtain⟨m,⟨o',es,ep,ho',hd',_⟩,_⟩:=I.loc;rw[z,ho']at ho;cases ho;rw[hd']at hd;cases hd
def Inv.TM(I:Inv X pins Y H s):s.heap.FunFrames X.base X.outer:=by
 have all:∀(l:List Env),(∀b∈frs l,b∈X.fs)->X.s₀.heap.FunFrames X.base l->s.heap.FunFrames X.base l:=by
  intro l
  induction l with
  |nil=>intro _ _;trivial
  |cons env r ih=>
   intro hs hl;obtain⟨hk,⟨L,o,hf,hn,ho,hd⟩,hr⟩:=hl;have hL:L∈X.fs:=hs L (by unfold frs;rw[List.filterMap_cons,hf];exact mem_cons_self);obtain⟨sl,e⟩:=I.base.slot L o ho (I.ok.frf L hL) hL λz=>I.ok.exfs L z hL;exact⟨hk,⟨L,_,hf,hn,e,hd⟩,ih (λb hb=>hs b (by unfold frs;rw[List.filterMap_cons,hf];exact mem_cons_of_mem _ hb)) hr⟩
 exact all X.outer (λ_ hb=>hb) I.ok.TM
def Inv.stack(I:Inv X pins Y H s):s.heap.FunFrames X.base X.stack:=by
 rcases I.ok.stk with e|⟨e,hf⟩
 ·rw[e];exact I.TM
 ·rw[e];obtain⟨m,hn,_⟩:=I.loc;refine .cons (by rw[I.ok.kind];decide) hf hn ?_ I.TM;exact Heap.get?_none_of_le (yB I.ok.bsz I.ok.above)
def Inv.sv(I:Inv X pins Y H s):∀b∈frs X.stack,b∈X.env.locals::X.fs:=λb hb=>by
 rcases I.ok.stk with e|⟨e,hf⟩
 ·rw[e]at hb;exact mem_cons_of_mem _ hb
 ·rw[e]at hb;unfold frs at hb;rw[List.filterMap_cons,hf]at hb;exact hb
def Inv.sP(I:Inv X pins Y H s):∀b∈frs X.stack,H b=none:=λb hb=>by
 rcases List.mem_cons.mp (I.sv b hb) with e|hb
 ·rw[e];exact I.free
 ·obtain⟨_,o,ho,_⟩:=I.ok.TM.mem hb;exact I.base.free b o ho (I.ok.frf b hb) λz=>I.ok.exfs b z hb
def Inv.step{g':Array GenState}{t':Nat}{d':Drawn}{ch:List yf}(I:Inv X pins Y H s)
 (hch:∀b∈ch,(b∈X.ex\/X.s₀.heap.objs.size<=b)/\b≠X.env.locals/\(∀x c,X.env.cells.lookup x=some c->c≠b)/\∀p∈X.pn++pins,p.1≠b)
 (keep:∀b o,b≠X.env.locals->b∉X.fs->b∉ch->s.heap.get? b=some o->H b=none->h'.get? b=some o)
 (slot:∀b o,b≠X.env.locals->b∈X.fs->b∉ch->s.heap.get? b=some o->H b=none->∃sl,h'.get? b=some {o with slots:=sl }) (free:∀b o,b∉ch->s.heap.get? b=some o->H b=none->H' b=none)
 (there:∀b o,b∉ch->s.heap.get? b=some o->∃o',h'.get? b=some o')
 (tups:∀b xs,H b=some (.tup xs)->H' b=some (.tup xs)) (sf:∀b o u,H b=some (.frz o u)->H' b=some (.frz o u)) (su:∀b ps,H b=some (.tbl ps)->∃more,H' b=some (.tbl (ps++more)))
 (ns:∀m,s.heap.Ns X.env.locals m->h'.Ns X.env.locals m) (hok:HOk X.prog X.w H' h') (hg:AllBare g') :
 Inv X pins Y H' {s with heap:=h',gens:=g',drawn:=d',toks:=t' }:=by
 have neL:∀b o,X.s₀.heap.get? b=some o->b≠X.env.locals:=λb o e=>yq (yA (ym e) I.ok.above)
 have neC:∀b o,X.s₀.heap.get? b=some o->b∉X.ex->b∉ch:=λb o e hx hb=>by
  rcases(hch b hb).1 with z|z
  ·exact hx z
  ·exact absurd (yA (ym e) z) (Ye _)
 have cellK:∀x c,X.env.cells.lookup x=some c->∀v,s.heap.IsCell c v->h'.IsCell c v:=λx c e v ⟨o,ho,hd⟩=>by
  have nch:c∉ch:=λz=>(hch c z).2.2.1 x c e rfl
  by_cases hc:c∈X.fs
  ·obtain⟨sl,q⟩:=slot c o (I.cne x c e) hc nch ho (I.freeC x c e);exact⟨_,q,hd⟩
  ·exact⟨o,keep c o (I.cne x c e) hc nch ho (I.freeC x c e),hd⟩
 refine⟨I.ok,I.os,hg,⟨λb o e n hb hx=>?_,λb o e n hb hx=>?_,λb o e n hx=>?_,λb o e hx=>?_,λb xs e=>tups b xs (I.base.tups b xs e),λb o xs e=>sf b o xs (I.base.sf b o xs e),λb ps e=>?_⟩,?_,λx c e=>?_,?_,λx c e=>?_,λp hp=>?_,hok,I.len⟩
 ·exact keep b o (neL b o e) hb (neC b o e hx) (I.base.keep b o e n hb hx) (I.base.free b o e n hx)
 ·obtain⟨sl,e1⟩:=I.base.slot b o e n hb hx;obtain⟨sl',e2⟩:=slot b _ (neL b o e) hb (neC b o e hx) e1 (I.base.free b o e n hx);exact⟨sl',e2⟩
 ·obtain⟨o',e1⟩:=I.base.there b o e hx;exact free b o' (neC b o e hx) e1 (I.base.free b o e n hx)
 ·obtain⟨o',e1⟩:=I.base.there b o e hx;exact there b o' (neC b o e hx) e1
 ·obtain⟨m1,e1⟩:=I.base.su b ps e;obtain⟨m2,e2⟩:=su b _ e1;exact⟨m1++m2,by rw[e2,Array.append_assoc]⟩
 ·obtain⟨m,hn,hl⟩:=I.loc;refine⟨m,ns m hn,λi x v e1 e2 e3=>?_⟩;obtain⟨u,r,l⟩:=hl i x v e1 e2 e3;refine⟨u,r,?_⟩;rcases l with l|⟨k,c,e,z⟩
  ·exact .inl l
  ·exact .inr ⟨k,c,e,cellK x c e _ z⟩
 ·obtain⟨v,z⟩:=I.cell x c e;exact⟨v,cellK x c e v z⟩
 ·obtain⟨m,⟨o,_,_,ho,_⟩,_⟩:=I.loc;exact free _ o (λz=>(hch _ z).2.1 rfl) ho I.free
 ·obtain⟨v,o,ho,hd⟩:=I.cell x c e;exact free c o (λz=>(hch c z).2.2.1 x c e rfl) ho (I.freeC x c e)
 ·obtain⟨e,n,ne,nf,d⟩:=I.pin p hp;have nch:p.1∉ch:=λz=>(hch p.1 z).2.2.2 p hp rfl;exact⟨keep p.1 p.2 ne nf nch e n,free p.1 p.2 nch e n,ne,nf,d⟩
def Inv.un{t':Nat}(I:Inv X pins Y H s)(u:Un X.fs [] H H' s.heap h')(hok:HOk X.prog X.w H' h'):Inv X pins Y H' {s with heap:=h',toks:=t' }:=by
 obtain⟨m,⟨o,es,ep,ho,r⟩,_⟩:=id I.loc;obtain⟨sl,hL⟩:=u.any ho I.free (by simp)
 exact I.step (g':=s.gens) (d':=s.drawn) (ch:=[]) (λ_ z=>nomatch z) (λb o _ hb _ e n=>u.keep b o e n hb (by simp)) (λb o _ hb _ e n=>u.slot b o e n hb (by simp)) (λb o _ e n=>u.free b o e n (by simp)) (λb o _ e=>u.there b o e (by simp)) u.tups u.sf u.su (λm' hm=>by
  obtain⟨o',es',ep',ho',r'⟩:=hm;rw[ho]at ho';cases ho';exact⟨_,es',ep',hL,r'⟩) hok I.bare
def Inv.call{g':Array GenState}{t':Nat}{d':Drawn}{ch:List yf}(I:Inv X pins Y H s)(u:Un (frs X.stack) ch H H' s.heap h')(hok:HOk X.prog X.w H' h')(hg:AllBare g')
 (hch:∀b∈ch,(b∈X.ex\/X.s₀.heap.objs.size<=b)/\b≠X.env.locals/\(∀x c,X.env.cells.lookup x=some c->c≠b)/\∀p∈X.pn++pins,p.1≠b) :
 Inv X pins Y H' {s with heap:=h',gens:=g',drawn:=d',toks:=t' }:=by
 obtain⟨m,⟨o,es,ep,ho,r⟩,_⟩:=id I.loc;obtain⟨sl,hL⟩:=u.any ho I.free λz=>(hch _ z).2.1 rfl
 exact I.step (ch:=ch) hch (λb o hL hb hc e n=>u.keep b o e n (λz=>(List.mem_cons.mp (I.sv b z)).elim hL hb) hc) (λb o _ _ hc e n=>u.any e n hc) (λb o hc e n=>u.free b o e n hc) (λb o hc e=>u.there b o e hc) u.tups u.sf u.su (λm' hm=>by
  obtain⟨o',es',ep',ho',r'⟩:=hm;rw[ho]at ho';cases ho';exact⟨_,es',ep',hL,r'⟩) hok hg
def Inv.turned{t':Nat}{it:yf}(I:Inv X pins Y H s)(k:∀b o,b≠it->s.heap.get? b=some o->h'.get? b=some o)(hn:H it=none)(hL:it≠X.env.locals)
 (h1:it∈X.ex\/X.s₀.heap.objs.size<=it) (h2:∀x c,X.env.cells.lookup x=some c->c≠it) (h3:∀p∈X.pn++pins,p.1≠it):Inv X pins Y H {s with heap:=h',toks:=t' }:=by
 have nit:∀b u,H b=some u->b≠it:=λb u e z=>by rw[z,hn]at e;cases e
 refine I.step (g':=s.gens) (d':=s.drawn) (ch:=[it]) (λb hb=>?_) (λb o _ _ hc e _=>k b o (λz=>hc (by simp[z])) e) (λb o _ _ hc e _=>⟨o.slots,k b o (λz=>hc (by simp[z])) e⟩) (λ_ _ _ _ n=>n)
  (λb o hc e=>⟨o,k b o (λz=>hc (by simp[z])) e⟩) (λ_ _ e=>e) (λ_ _ _ e=>e) (λb ps e=>⟨#[],by rw[e];simp⟩) (λm hm=>?_) (λb u e=>?_) I.bare
 ·have e:b=it:=by simpa using hb
  subst e;exact⟨h1,hL,h2,h3⟩
 ·obtain⟨o,es,ep,ho,r⟩:=hm;exact⟨o,es,ep,k _ o (yE hL) ho,r⟩
 ·refine(I.hok b u e).stay (λc v hc q=>k c v ?_ q) (λ_ q=>q) λ_ _ q=>q;rcases hc with z|z
  ·rw[z];exact nit b u e
  ·exact nit c _ z
def Inv.tok(I:Inv X pins Y H s)(t:Nat):Inv X pins Y H {s with toks:=t }:=I.un (h':=s.heap) (t':=t) Un.refl I.hok
def Inv.kept{t':Nat}(I:Inv X pins Y H s)(k:∀b u,s.heap.get? b=some u->h'.get? b=some u):Inv X pins Y H {s with heap:=h',toks:=t' }:=I.un (Un.kept k) (I.hok.kept k)
def Inv.laid{a:yf}{o:HO}{t':Nat}(I:Inv X pins Y H s)(k:∀b u,s.heap.get? b=some u->h'.get? b=some u)(hp:s.heap.objs.size<=a)(new:tJ X.prog X.w (upd H a o) h' a o) :
 Inv X pins Y (upd H a o) {s with heap:=h',toks:=t' }:=I.un (Un.laid k hp (I.hok.fresh hp)) (I.hok.laid k hp new)
def Inv.write{x e:yf}{o:HO}{t':Nat}(I:Inv X pins Y H s)(mu:Mut (H x))(he:e=x\/H e=some (.own x))(k:∀b u,b≠e->s.heap.get? b=some u->h'.get? b=some u)(heo:∃u,h'.get? e=some u)
 (new:tJ X.prog X.w (upd H x o) h' x o):Inv X pins Y (upd H x o) {s with heap:=h',toks:=t' }:=I.un (Un.write mu he k heo) (I.hok.write mu he k heo new)
def Inv.weak{Y':List (Option V)}(I:Inv X pins Y H s)(hl:Y'.length=Y.length)(w:∀(i:Nat) v,Y'[i]?=some (some v)->Y[i]?=some (some v)):Inv X pins Y' H s :=
 ⟨I.ok,I.os,I.bare,I.base,let ⟨m,hn,hl'⟩:=I.loc;⟨m,hn,λi x v e1 e2 e3=>hl' i x v e1 (w i v e2) e3⟩,I.cell,I.free,I.freeC,I.pin,I.hok,hl.trans I.len⟩
def Inv.sw{pins':List (yf×YY)}(I:Inv X pins Y H s)(h:∀p∈pins',s.heap.get? p.1=some p.2/\H p.1=none/\p.1≠X.env.locals/\p.1∉X.fs/\∀v,p.2.data≠.cell v):Inv X pins' Y H s :=
 ⟨I.ok,I.os,I.bare,I.base,I.loc,I.cell,I.free,I.freeC,λp hp=>(List.mem_append.mp hp).elim (λz=>I.pin p (mem_append_left _ z)) (h p),I.hok,I.len⟩
def z4n{N:List yG}(hN:N.Nodup){i j:Nat}{x:yG}(a:N[i]?=some x)(b:N[j]?=some x):i=j:=by
 obtain⟨h1,e1⟩:=List.getElem?_eq_some_iff.mp a;obtain⟨h2,e2⟩:=List.getElem?_eq_some_iff.mp b;exact(List.getElem_inj hN).mp (e1.trans e2.symm)
def zmm{M:Model}{A:yR}{E:yb->yd->Prop}{i:Nat}{x:yG}{v:V}{u:yb}{Q:Unit->yd->Prop}(I:Inv X pins Y H s)(hN:X.N.Nodup)(hi:X.N[i]?=some x)(hx:Loc X.env.scope x)(r:RelV v u)
 (h:∀s',Inv X pins (Y.set i (some v)) H s'->(∃a,yI a s.heap s'.heap/\(a=X.env.locals\/X.env.cells.lookup x=some a))->Q () s') (hf:X.fn x=true\/X.env.scope.names.lookup x=some .local:=by first|exact .inl rfl|exact .inr rfl|assumption):yp M A (storeName X.env x u) Q E s:=by
 obtain⟨m,hn,hl⟩:=id I.loc;have hcls:(X.env.scope.kind == .class||(X.env.scope.kind == .module&&X.env.locals != X.env.globals))=false:=by rw[I.ok.kind];rfl
 have hiσ:i<Y.length:=by rw[I.len];exact(List.getElem?_eq_some_iff.mp hi).1
 have cne:=I.cne
 have tracked:∀{a:yf} {h':yW},(∃o,s.heap.get? a=some o/\H a=none)->yI a s.heap h'->HOk X.prog X.w H h':=λ{a h'} ha hs b ob e=>by
  obtain⟨_,_,hfree⟩:=ha;refine(I.hok b ob e).stay (λc w' hc q=>(hs.2 c ?_).trans q) (λ_ q=>q) λ_ _ q=>q;rintro rfl;rcases hc with rfl|hc
  ·rw[hfree]at e;cases e
  ·rw[hfree]at hc;cases hc
 rcases hx with hk|hk
 ·refine wpAny_storeName_local hk hn (λh' hn' hs=>?_) hcls;obtain⟨oL,_,_,hoL,_⟩:=id hn;refine h _ ⟨I.ok,I.os,I.bare,⟨λb o e n hb hx=>?_,λb o e n hb hx=>?_,I.base.free,λb o e hx=>?_,I.base.tups,I.base.sf,I.base.su⟩,⟨_,hn',λj y v' e1 e2 e3=>?_⟩,λy c e=>?_,I.free,I.freeC,λp hp=>?_,tracked ⟨oL,hoL,I.free⟩ hs,by simpa using I.len⟩ ⟨_,hs,.inl rfl⟩
  ·exact(hs.2 b (yq (yA (ym e) I.ok.above))).trans (I.base.keep b o e n hb hx)
  ·obtain⟨sl,e1⟩:=I.base.slot b o e n hb hx;exact⟨sl,(hs.2 b (yq (yA (ym e) I.ok.above))).trans e1⟩
  ·obtain⟨o',e1⟩:=I.base.there b o e hx;exact⟨o',(hs.2 b (yq (yA (ym e) I.ok.above))).trans e1⟩
  ·by_cases hj:j=i
   ·subst hj;rw[hi]at e1;cases e1;rw[YK hiσ]at e2;cases e2;exact⟨u,r,.inl ⟨hk,by simp⟩⟩
   ·rw[Yr (yE hj)]at e2;obtain⟨u',r',q⟩:=hl j y v' e1 e2 e3;refine⟨u',r',?_⟩;rcases q with ⟨k,e⟩|⟨k,c,e,z⟩
    ·refine .inl ⟨k,?_⟩;have:y≠x:=λe=>hj (z4n hN e1 (e▸hi));simp[this,e]
    ·exact .inr ⟨k,c,e,z.sameBut hs (cne y c e)⟩
  ·obtain⟨w',z⟩:=I.cell y c e;exact⟨w',z.sameBut hs (cne y c e)⟩
  ·obtain⟨e,n,ne,nf,d⟩:=I.pin p hp;exact⟨(hs.2 p.1 ne).trans e,n,ne,nf,d⟩
 ·have hfn:X.fn x=true:=by
   rcases hf with z|z
   ·exact z
   ·rw[z]at hk;cases hk
  obtain⟨c,hc⟩:=I.ok.has x (.inl hk);obtain⟨w',z⟩:=I.cell x c hc;refine wpAny_storeName_cell I.ok.kind hk hc z (λh' hc' hs=>?_);obtain⟨oc,hoc,hocd⟩:=id z;refine h {s with heap:=h' } ⟨I.ok,I.os,I.bare,⟨λb o e n hb hx=>?_,λb o e n hb hx=>?_,I.base.free,λb o e hx=>?_,I.base.tups,I.base.sf,I.base.su⟩,⟨m,hn.sameBut hs (yE (cne x c hc)),λj y v' e1 e2 e3=>?_⟩,λy c' e=>?_,I.free,I.freeC,λp hp=>?_,tracked ⟨oc,hoc,I.freeC x c hc⟩ hs,by simpa using I.len⟩ ⟨c,hs,.inr hc⟩
  ·exact(hs.2 b (yq (yA (ym e) (I.ok.cab x c hfn hc)))).trans (I.base.keep b o e n hb hx)
  ·obtain⟨sl,e1⟩:=I.base.slot b o e n hb hx;exact⟨sl,(hs.2 b (yq (yA (ym e) (I.ok.cab x c hfn hc)))).trans e1⟩
  ·obtain⟨o',e1⟩:=I.base.there b o e hx;exact⟨o',(hs.2 b (yq (yA (ym e) (I.ok.cab x c hfn hc)))).trans e1⟩
  ·by_cases hj:j=i
   ·subst hj;rw[hi]at e1;cases e1;rw[YK hiσ]at e2;cases e2;exact⟨u,r,.inr ⟨.inl hk,c,hc,hc'⟩⟩
   ·rw[Yr (yE hj)]at e2;obtain⟨u',r',q⟩:=hl j y v' e1 e2 e3;refine⟨u',r',?_⟩;rcases q with q|⟨k,c',e,z'⟩
    ·exact .inl q
    ·refine .inr ⟨k,c',e,z'.sameBut hs ?_⟩;rintro rfl;exact hj (z4n hN e1 (I.ok.inj _ _ _ e hc▸hi))
  ·by_cases hcc:c'=c
   ·subst hcc;exact⟨_,hc'⟩
   ·obtain⟨w2,z2⟩:=I.cell y c' e;exact⟨w2,z2.sameBut hs hcc⟩
  ·obtain⟨e,n,ne,nf,d⟩:=I.pin p hp;refine⟨(hs.2 p.1 ?_).trans e,n,ne,nf,d⟩;intro q;rw[q,hoc]at e;have q':oc=p.2:=yY e;exact d w' (by rw[<-q'];exact hocd)
def zYk{M:Model}{A:yR}{E:yb->yd->Prop}{i:Nat}{x:yG}{v:V}{u:yb}{Q:Unit->yd->Prop}(I:Inv X pins Y H s)(hN:X.N.Nodup)(hi:X.N[i]?=some x)(hx:Loc X.env.scope x)(r:RelV v u)
 (h:∀s',Inv X pins (Y.set i (some v)) H s'->Q () s') (hf:X.fn x=true\/X.env.scope.names.lookup x=some .local:=by first|exact .inl rfl|exact .inr rfl|assumption):yp M A (storeName X.env x u) Q E s :=
 zmm I hN hi hx r (λs' I' _=>h s' I') hf
def Inv.call'{s':yd}{ch:List yf}(I:Inv X pins Y H s)(ho:s'.os=s.os)(u:Un (frs X.stack) ch H H' s.heap s'.heap)(hok:HOk X.prog X.w H' s'.heap)(hg:AllBare s'.gens)
 (hch:∀b∈ch,(b∈X.ex\/X.s₀.heap.objs.size<=b)/\b≠X.env.locals/\(∀x c,X.env.cells.lookup x=some c->c≠b)/\∀p∈X.pn++pins,p.1≠b):Inv X pins Y H' s':=by
 obtain⟨h',g',d',t',o'⟩:=s';have e:o'=s.os:=ho;subst e;exact I.call (g':=g') (t':=t') (d':=d') u hok hg hch
end
abbrev XK:=yb->Option yf->Hp->Prop
abbrev St:=List (Option V)
abbrev VK:=V->Hp->Prop
abbrev TE:=St->Hp->VK->Prop
abbrev TT:=St->Hp->(Bool->Hp->Prop)->Prop
abbrev TA:=St->Hp->(List V->Hp->Prop)->Prop
structure Ends where
 nx:St->Hp->Prop
 rt:VK
 bk:St->Hp->Prop:=λ_ _=>False
 ct:St->Hp->Prop:=λ_ _=>False
abbrev TS:=Ends->St->Hp->Prop
def EP(X:Cx)(pins:List (yf×YY))(Y:St)(Q:VK)(u:yb)(s':yd):Prop:=∃v H',Inv X pins Y H' s'/\RelV v u/\Q v H'
def TP(X:Cx)(pins:List (yf×YY))(Y:St)(Q:Bool->Hp->Prop)(b:Bool)(s':yd):Prop:=∃H',Inv X pins Y H' s'/\Q b H'
def AP(X:Cx)(pins:List (yf×YY))(Y:St)(Q:List V->Hp->Prop)(us:List yb)(s':yd):Prop:=∃vs H',Inv X pins Y H' s'/\Vals vs us/\Q vs H'
def SP(X:Cx)(pins:List (yf×YY))(D:Ends)(f:Flow)(s':yd):Prop :=
 match f with
 |.next=>∃Y' H',Inv X pins Y' H' s'/\D.nx Y' H'
 |.brk=>∃Y' H',Inv X pins Y' H' s'/\D.bk Y' H'
 |.cont=>∃Y' H',Inv X pins Y' H' s'/\D.ct Y' H'
 |.ret u=>∃v Y' H',Inv X pins Y' H' s'/\RelV v u/\D.rt v H'
def PE(X:Cx)(e:yC)(t:TE):Prop :=
 ∀(pins:List (yf×YY)) (s:yd) (Y:St) (H:Hp) (Q:VK),Inv X pins Y H s->t Y H Q->yp (yz X.prog X.w) X.A (Yq e X.env) (EP X pins Y Q) X.xe s
def PT(X:Cx)(e:yC)(t:TT):Prop :=
 ∀(pins:List (yf×YY)) (s:yd) (Y:St) (H:Hp) (Q:Bool->Hp->Prop),Inv X pins Y H s->t Y H Q->yp (yz X.prog X.w) X.A (isTrue e X.env (Yq e X.env)) (TP X pins Y Q) X.xe s
def PW(X:Cx)(e:yC)(t:TT):Prop :=
 ∀(whole:Sem yb)(pins:List (yf×YY)) (s:yd) (Y:St) (H:Hp) (Q:Bool->Hp->Prop),Inv X pins Y H s->t Y H Q->yp (yz X.prog X.w) X.A (isTrue e X.env whole) (TP X pins Y Q) X.xe s
def PA(X:Cx)(es:List yC)(t:TA):Prop :=
 ∀(pos:xU)(pins:List (yf×YY)) (s:yd) (Y:St) (H:Hp) (Q:List V->Hp->Prop),Inv X pins Y H s->t Y H Q->yp (yz X.prog X.w) X.A (spliced (xn pos (yw es X.env))) (AP X pins Y Q) X.xe s
def PS(X:Cx)(st:Yp)(t:TS):Prop :=
 ∀(pins:List (yf×YY)) (s:yd) (Y:St) (H:Hp) (D:Ends),Inv X pins Y H s->t D Y H->yp (yz X.prog X.w) X.A (exec st X.env) (SP X pins D) X.xe s
def PSs(X:Cx)(st:List Yp)(t:TS):Prop :=
 ∀(pins:List (yf×YY)) (s:yd) (Y:St) (H:Hp) (D:Ends),Inv X pins Y H s->t D Y H->yp (yz X.prog X.w) X.A (execs st X.env) (SP X pins D) X.xe s
def thn{α:Type}{t:Sem α}{Q Q':α->yd->Prop}{M:Model}{A:yR}{E:yb->yd->Prop}{s:yd}(h:yp M A t Q E s)(hQ:∀a s,Q a s->Q' a s):yp M A t Q' E s:=YZ h hQ λ_ _ x=>x
section
variable {X:Cx}
def zDx(i:Nat):TE:=λY H Q=>∃v,Y[i]?=some (some v)/\Q v H
def tC(v:V):TE:=λ_ H Q=>Q v H
def z0v{i:Nat}{x:yG}{pos:xU}(hN:X.N[i]?=some x)(hv:Vis X.env.scope x)(hd:(x==("__debug__":yG))=false:=by decide)(hcd:(x==("__classdict__":yG))=false:=by decide):PE X (.Name x pos) (zDx i):=by
 intro pins s Y H Q I h;obtain⟨v,e,h⟩:=h;obtain⟨m,hn,hl⟩:=I.loc;obtain⟨u,r,l⟩:=hl i x v hN e hv;have fin:EP X pins Y Q u s:=⟨v,H,I,r,h⟩
 rcases l with ⟨hk,hm⟩|⟨hk,c,hc,hcell⟩
 ·exact wpAny_Name (wpAny_loadName_local I.ok.kind hk hn hm fin) hd
 ·rcases hk with hk|hk
  ·exact wpAny_Name (wpAny_loadName_cell I.ok.kind hk hc hcell fin) hd
  ·exact wpAny_Name (wpAny_loadName_free I.ok.kind hk hc hcell fin hcd) hd
def zdv{i j pos}:PE X (.Constant (.int i) j pos) (tC (.int i)):=λ_ _ _ H _ I h=>wpAny_Constant_int ⟨.int i,H,I.tok _,⟨_,rfl⟩,h⟩
def zex{b j pos}:PE X (.Constant (.bool b) j pos) (tC (.bl b)):=λ_ _ _ H _ I h=>Constant_bool ⟨.bl b,H,I,rfl,h⟩
def z2u{j pos}:PE X (.Constant .none j pos) (tC .non):=λ_ _ _ H _ I h=>Constant_none ⟨.non,H,I,rfl,h⟩
def zyv{x j pos}:PE X (.Constant (.str x) j pos) (tC (.str x)):=λ_ _ _ H _ I h=>Calls.Constant_str ⟨.str x,H,I.tok _,⟨_,rfl⟩,h⟩
def Gl(X:Cx)(x:yG):Prop:=X.env.kindOf x=some .globalImplicit
def zku{E:yb->yd->Prop}{pins:List (yf×YY)}{s:yd}{Y:St}{H:Hp}{x:yG}{u:yb}{pos:xU}{Q:yb->yd->Prop}(I:Inv X pins Y H s)(hg:Gl X x)(hm:X.mg x=some u)(h:Q u s)
 (hd:(x==("__debug__":yG))=false:=by decide):yp (yz X.prog X.w) X.A (Yq (.Name x pos) X.env) Q E s :=
 Calls.Name_function_global I.ok.kind hg (Calls.loadGlobal_global (by rw[I.ok.glob];exact I.mod.glob.keeps I.bk) hm h) hd
def zvi{E:yb->yd->Prop}{pins:List (yf×YY)}{s:yd}{Y:St}{H:Hp}{x:yG}{u:yb}{pos:xU}{Q:yb->yd->Prop}(I:Inv X pins Y H s)(hg:Gl X x)(hm:X.mg x=none)(hv:yH x=some u)(h:Q u s)
 (hn:x≠"__name__":=by decide) (hd:(x==("__debug__":yG))=false:=by decide):yp (yz X.prog X.w) X.A (Yq (.Name x pos) X.env) Q E s:=by
 obtain⟨mb,h1,h2⟩:=I.mod.blt;exact Calls.Name_function_global I.ok.kind hg (Calls.loadGlobal_builtin (by rw[I.ok.glob];exact I.mod.glob.keeps I.bk) hm (by rw[I.ok.blt];exact h1.keeps I.bk) ((h2 x hn).trans hv) h) hd
variable {a b:yC}{ta tb:TE}{pos:xU}
def sD(b:yC){op:CmpOp}(h:op≠.In)(h2:op≠.NotIn):behindInMarks op b=false:=by
 have e1:(op==CmpOp.In)=false:=by cases op<;>first|rfl|exact absurd rfl h
 have e2:(op==CmpOp.NotIn)=false:=by cases op<;>first|rfl|exact absurd rfl h2
 cases b<;>simp[behindInMarks,e1,e2]
def tB(t:TE):TT:=λY H Q=>t Y H λx H1=>∃c,x=.bl c/\Q c H1
def zTv{e:yC}{t:TE}(h:PE X e t)(he:∀whole,isTrue e X.env whole=(do let v <-whole;standAt e.pos;holding [v] (truthy v)):=by intro _;rfl):PT X e (tB t):=by
 intro pins s Y H Q I hw;refine isTrue_plain (thn (h pins s Y H _ I hw) λv s1 ⟨x,H1,I1,r1,q1⟩=>?_) (he _);obtain⟨d,rfl,q⟩:=q1;cases r1;exact xt ⟨H1,I1,q⟩
variable {tA tB':TT}{rest:List yC}
def zYx(t u:TT):TT:=λY H Q=>t Y H λc H1=>if c=true then u Y H1 Q else Q false H1
def tOr(t u:TT):TT:=λY H Q=>t Y H λc H1=>if c=true then Q true H1 else u Y H1 Q
def zEx(t:TT):TT:=λY H Q=>t Y H λc H1=>Q (!c) H1
def zIu(ha:PT X a tA):PW X (.BoolOp .And [a] pos) tA:=by
 intro wh pins s Y H Q I h;refine isTrue_and (thn (ha pins s Y H Q I h) λc s1 e=>?_)
 cases c with
 |true=>exact isTrue_and_nil e
 |false=>exact e
def zZv(ha:PT X a tA):PW X (.BoolOp .Or [a] pos) tA:=by
 intro wh pins s Y H Q I h;refine isTrue_or (thn (ha pins s Y H Q I h) λc s1 e=>?_)
 cases c with
 |false=>exact isTrue_or_nil e
 |true=>exact e
def zkw(ha:PT X a tA)(hb:PW X (.BoolOp .And (b::rest) pos) tB'):PW X (.BoolOp .And (a::b::rest) pos) (zYx tA tB'):=by
 intro wh pins s Y H Q I h;refine isTrue_and (thn (ha pins s Y H _ I h) λc s1 ⟨H1,I1,q1⟩=>?_)
 cases c with
 |true=>exact hb wh pins s1 Y H1 Q I1 q1
 |false=>exact⟨H1,I1,q1⟩
def zDw(ha:PT X a tA)(hb:PW X (.BoolOp .Or (b::rest) pos) tB'):PW X (.BoolOp .Or (a::b::rest) pos) (tOr tA tB'):=by
 intro wh pins s Y H Q I h;refine isTrue_or (thn (ha pins s Y H _ I h) λc s1 ⟨H1,I1,q1⟩=>?_)
 cases c with
 |true=>exact⟨H1,I1,q1⟩
 |false=>exact hb wh pins s1 Y H1 Q I1 q1
def zVu(ha:PT X a tA):PT X (.UnaryOp .Not a pos) (zEx tA):=by
 intro pins s Y H Q I h;exact isTrue_not (ha pins s Y H (λc H1=>Q (!c) H1) I h)
def zMw(ta tb:TE):TE:=λY H Q=>ta Y H λx H1=>∃c,x=.bl c/\if c=true then tb Y H1 Q else Q (.bl false) H1
def zIx(ta tb:TE):TE:=λY H Q=>ta Y H λx H1=>∃c,x=.bl c/\if c=true then Q (.bl true) H1 else tb Y H1 Q
def zkv{op}{t:TE}(h:PE X a t):PE X (.BoolOp op [a] pos) t:=λpins s Y H Q I hw=>BoolOp_one (h pins s Y H Q I hw)
def zqw(ha:PE X a ta)(hb:PE X (.BoolOp .And (b::rest) pos) tb):PE X (.BoolOp .And (a::b::rest) pos) (zMw ta tb):=by
 intro pins s Y H Q I h;refine BoolOp_and (thn (ha pins s Y H _ I h) λv s1 ⟨x,H1,I1,r1,q1⟩=>?_);obtain⟨c,rfl,q1⟩:=q1;cases r1;refine xt ?_
 cases c with
 |true=>exact hb pins s1 Y H1 Q I1 q1
 |false=>exact⟨.bl false,H1,I1,rfl,q1⟩
def zCw(ha:PE X a ta)(hb:PE X (.BoolOp .Or (b::rest) pos) tb):PE X (.BoolOp .Or (a::b::rest) pos) (zIx ta tb):=by
 intro pins s Y H Q I h;refine BoolOp_or (thn (ha pins s Y H _ I h) λv s1 ⟨x,H1,I1,r1,q1⟩=>?_);obtain⟨c,rfl,q1⟩:=q1;cases r1;refine xt ?_
 cases c with
 |false=>exact hb pins s1 Y H1 Q I1 q1
 |true=>exact⟨.bl true,H1,I1,rfl,q1⟩
end
def SqL(K:yx)(H:Hp)(a:yf)(xs:List V):Prop :=
 Rd H a (.lst xs) \/
  ∃(o:YY)(its:Array yb)(n:Nat),K.lookup a=some o/\o.cls=.type "list"/\o.dict=none/\o.data=.seq its n/\its.size<=yF/\Vals xs its.toList
def SqT(K:yx)(H:Hp)(a:yf)(xs:List V):Prop :=
 Rd H a (.tup xs) \/
  ∃(o:YY)(its:Array yb)(n:Nat),K.lookup a=some o/\o.cls=.type "tuple"/\o.data=.seq its n/\its.size<=yF/\Vals xs its.toList
def z7x:yb->Option V
 |.none=>some .non
 |.bool b=>some (.bl b)
 |.int i _=>some (.int i)
 |.str x _=>some (.str x)
 |.bytes b _=>some (.byt b)
 |.float b _=>some (.flt b)
 |.ref a=>some (.ref a)
 |.type n=>some (.ty n)
 |_=>none
def RelV.abs{x:V}{u:yb}(r:RelV x u):z7x u=some x:=by
 cases x with
 |non=>cases r;rfl
 |bl _=>cases r;rfl
 |int _=>obtain⟨t,rfl⟩:=r;rfl
 |str _=>obtain⟨t,rfl⟩:=r;rfl
 |byt _=>obtain⟨t,rfl⟩:=r;rfl
 |flt _=>obtain⟨t,rfl⟩:=r;rfl
 |ref _=>cases r;rfl
 |ty _=>cases r;rfl
def RelV.inj{x y:V}{u:yb}(r:RelV x u)(q:RelV y u):x=y:=yY (r.abs.symm.trans q.abs)
def Vals.inj{xs ys:List V}{us:List yb}(h:Vals xs us):Vals ys us->xs=ys:=by
 induction h generalizing ys with
 |nil=>intro h;cases h;rfl
 |cons r _ ih=>
  intro h
  cases h with
  |cons r' t'=>rw[r.inj r',ih t']
section
variable {X:Cx}{pins:List (yf×YY)}{Y:St}{H:Hp}{s:yd}{a:yf}{xs ys:List V}
def SqL.of{K:yx}(h:H a=some (.lst xs)):SqL K H a xs:=.inl (.inl h)
def SqT.of{K:yx}(h:H a=some (.tup xs)):SqT K H a xs:=.inl (.inl h)
def Inv.list(I:Inv X pins Y H s)(h:SqL X.K H a xs):∃its:List yb,Vals xs its/\PlainL s.heap a its.toArray/\xs.length<=yF:=by
 rcases h with h|⟨o,its,n,hk,hc,hd,hs,hz,r⟩
 ·obtain⟨z,its,n,r,e⟩:=h.ok I.hok;exact⟨its,r,⟨_,n,e,rfl,rfl,rfl⟩,z⟩
 ·refine⟨its.toList,r,⟨o,n,I.kIn a o hk,hc,hd,by simpa using hs⟩,?_⟩;have e:=r.length;simp only[Array.length_toList]at e;omega
def Inv.tuple(I:Inv X pins Y H s)(h:SqT X.K H a xs):∃its:List yb,Vals xs its/\IsTup s.heap a its.toArray/\xs.length<=yF:=by
 rcases h with h|⟨o,its,n,hk,hc,hs,hz,r⟩
 ·obtain⟨z,its,r,p⟩:=h.ok I.hok;exact⟨its,r,p,z⟩
 ·refine⟨its.toList,r,⟨o,I.kIn a o hk,hc,n,by simpa using hs⟩,?_⟩;have e:=r.length;simp only[Array.length_toList]at e;omega
def Inv.TN(I:Inv X pins Y H s)(h:SqL X.K H a xs)(h':SqL X.K H a ys):xs=ys:=by
 obtain⟨its,r,⟨o,n,e,_,_,d⟩,_⟩:=I.list h;obtain⟨its',r',⟨o',n',e',_,_,d'⟩,_⟩:=I.list h';rw[e]at e';cases e';rw[d]at d';injection d' with d1 _;have:its=its':=by simpa using congrArg Array.toList d1
 subst this;exact r.inj r'
def Inv.TH(I:Inv X pins Y H s)(h:SqT X.K H a xs)(h':SqT X.K H a ys):xs=ys:=by
 obtain⟨its,r,⟨o,e,_,n,d⟩,_⟩:=I.tuple h;obtain⟨its',r',⟨o',e',_,n',d'⟩,_⟩:=I.tuple h';rw[e]at e';cases e';rw[d]at d';injection d' with d1 _;have:its=its':=by simpa using congrArg Array.toList d1
 subst this;exact r.inj r'
end
abbrev Cx.sh(X:Cx)(E:yb->yd->Prop):Cx:={X with xe:=E }
abbrev Cx.nox(X:Cx):Cx:=X.sh λ_ _=>False
def Cx.Ok.sh{X:Cx}(ok:X.Ok)(E:yb->yd->Prop):(X.sh E).Ok :=
 ⟨ok.mod,ok.kind,ok.glob,ok.blt,ok.above,ok.inj,ok.has,ok.cab,ok.hd,ok.frames,ok.stk,ok.exf,ok.bs,ok.bsz,ok.sU,ok.exfs,ok.TM,ok.frf⟩
def Cx.Ok.To{X:Cx}{E:yb->yd->Prop}(ok:(X.sh E).Ok):X.Ok :=
 ⟨ok.mod,ok.kind,ok.glob,ok.blt,ok.above,ok.inj,ok.has,ok.cab,ok.hd,ok.frames,ok.stk,ok.exf,ok.bs,ok.bsz,ok.sU,ok.exfs,ok.TM,ok.frf⟩
section
variable {X:Cx}{pins:List (yf×YY)}{Y:St}{H:Hp}{s:yd}{E:yb->yd->Prop}
def Inv.sh(I:Inv X pins Y H s)(E:yb->yd->Prop):Inv (X.sh E) pins Y H s:=⟨I.ok.sh E,I.os,I.bare,I.base,I.loc,I.cell,I.free,I.freeC,I.pin,I.hok,I.len⟩
def Inv.To(I:Inv (X.sh E) pins Y H s):Inv X pins Y H s:=⟨I.ok.To,I.os,I.bare,I.base,I.loc,I.cell,I.free,I.freeC,I.pin,I.hok,I.len⟩
def SP.To{D:Ends}{f:Flow}{s':yd}(h:SP (X.sh E) pins D f s'):SP X pins D f s':=by
 cases f with
 |next=>obtain⟨Y',H',I,q⟩:=h;exact⟨Y',H',I.To,q⟩
 |brk=>obtain⟨Y',H',I,q⟩:=h;exact⟨Y',H',I.To,q⟩
 |cont=>obtain⟨Y',H',I,q⟩:=h;exact⟨Y',H',I.To,q⟩
 |ret u=>obtain⟨v,Y',H',I,r,q⟩:=h;exact⟨v,Y',H',I.To,r,q⟩
def PSs.nox{st:List Yp}{t:TS}(h:PSs X.nox st t):PSs X st t:=λpins s Y H D I hw=>
 YZ (h pins s Y H D (I.sh _) hw) (λ_ _ q=>q.To) λ_ _ z=>xI z
variable {st:Yp}{rest:List Yp}{t u:TS}{e:yC}{te:TE}{pos:xU}
def zSw:TS:=λD Y H=>D.nx Y H
def zWx(t u:TS):TS:=λD Y H=>t {D with nx:=u D } Y H
def z1t:PSs X [] zSw:=λ_ _ Y H _ I h=>wpAny_execs_nil ⟨Y,H,I,h⟩
def z0r(h1:PS X st t)(h2:PSs X rest u):PSs X (st::rest) (zWx t u):=by
 intro pins s Y H D I h;refine wpAny_execs_cons (thn (h1 pins s Y H {D with nx:=u D } I h) λf s1 q=>?_)
 cases f with
 |next=>
  obtain⟨Y',H',I',q⟩:=q;exact h2 pins s1 Y' H' D I' q
 |ret v=>exact q
 |brk=>exact q
 |cont=>exact q
def z5t(h1:PS X st t):PSs X [st] t:=by
 intro pins s Y H D I h;refine wpAny_execs_cons (thn (h1 pins s Y H D I h) λf s1 q=>?_)
 cases f with
 |next=>exact wpAny_execs_nil q
 |ret v=>exact q
 |brk=>exact q
 |cont=>exact q
def Inv.quiet{pins:List (yf×YY)}{Y:St}{H:Hp}{s:yd}(I:Inv X pins Y H s):interactive X.env=false:=by simp[interactive,I.ok.kind]
def z3w(te:TE):TS:=λD Y H=>te Y H λ_ H1=>D.nx Y H1
def ztu(he:PE X e te)(hs:swapsWith e none pos.line X.env=pure false:=by rfl):PS X (.Expr e pos) (z3w te):=by
 intro pins s Y H D I h;exact wpAny_Expr_any (thn (he pins s Y H _ I h) λv s1 ⟨x,H1,I1,r1,q1⟩=>⟨Y,H1,I1,q1⟩) I.quiet hs
def zPx(te:TE):TS:=λD Y H=>te Y H D.rt
def z8u(he:PE X e te):PS X (.Return (some e) pos) (zPx te):=by
 intro pins s Y H D I h;exact wpAny_Return_some (thn (he pins s Y H _ I h) λv s1 ⟨x,H1,I1,r1,q1⟩=>⟨x,Y,H1,I1,r1,q1⟩)
def zHx(c:TT)(t u:TS):TS:=λD Y H=>c Y H λb H1=>if b=true then t D Y H1 else u D Y H1
def zmx{c:yC}{a b:List Yp}{tc:TT}(hc:PT X c tc)(ha:PSs X a t)(hb:PSs X b u):PS X (.If c a b pos) (zHx tc t u):=by
 intro pins s Y H D I h;refine wpAny_If (thn (hc pins s Y H _ I h) λd s1 ⟨H1,I1,q1⟩=>?_)
 cases d with
 |true=>exact ha pins s1 Y H1 D I1 q1
 |false=>exact hb pins s1 Y H1 D I1 q1
def zWu:TS:=λ_ _ _=>False
def z4r:PS X st zWu:=λ_ _ _ _ _ _ h=>h.elim
end
abbrev TG:=V->St->Hp->(St->Hp->Prop)->Prop
abbrev TGs:=List V->St->Hp->(St->Hp->Prop)->Prop
def PG(X:Cx)(target:yC)(t:TG):Prop :=
 ∀(pins:List (yf×YY)) (s:yd) (Y:St) (H:Hp) (v:V) (u:yb) (Q:St->Hp->Prop),Inv X pins Y H s->RelV v u->t v Y H Q ->
  yp (yz X.prog X.w) X.A (assign target X.env u) (λ_ s'=>∃Y' H',Inv X pins Y' H' s'/\Q Y' H') X.xe s
def PGs(X:Cx)(ts:List yC)(t:TGs):Prop :=
 ∀(pins:List (yf×YY)) (s:yd) (Y:St) (H:Hp) (vs:List V) (us:List yb) (Q:St->Hp->Prop),Inv X pins Y H s->Vals vs us->t vs Y H Q ->
  yp (yz X.prog X.w) X.A (assignInOrder ((Yh ts X.env).map (·.2)) us) (λ_ s'=>∃Y' H',Inv X pins Y' H' s'/\Q Y' H') X.xe s
abbrev zXw:=V->V->V->Hp->(Hp->Prop)->Prop
def z9w(X:Cx)(t:zXw):Prop :=
 ∀(pins:List (yf×YY)) (s:yd) (Y:St) (H:Hp) (o i v:V) (ov iv u:yb) (Q:Hp->Prop),Inv X pins Y H s->RelV o ov->RelV i iv->RelV v u->t o i v H Q ->
  yp (yz X.prog X.w) X.A (setItem ov iv u) (λ_ s'=>∃H',Inv X pins Y H' s'/\Q H') X.xe s
abbrev TIp:=V->V->Hp->VK->Prop
def PIp(X:Cx)(op:Operator)(t:TIp):Prop :=
 ∀(pins:List (yf×YY)) (s:yd) (Y:St) (H:Hp) (x y:V) (v u:yb) (Q:VK),Inv X pins Y H s->RelV x v->RelV y u->t x y H Q ->
  yp (yz X.prog X.w) X.A (inplaceOp op v u) (EP X pins Y Q) X.xe s
section
variable {X:Cx}{pos:xU}
def zNt(i:Nat):TG:=λv Y H Q=>Q (Y.set i (some v)) H
def zHq{i:Nat}{x:yG}(hN:X.N.Nodup)(hi:X.N[i]?=some x)(hx:Loc X.env.scope x)(hf:X.fn x=true\/X.env.scope.names.lookup x=some .local:=by first|exact .inl rfl|exact .inr rfl|assumption):PG X (.Name x pos) (zNt i):=by
 intro pins s Y H v u Q I r h;exact wpAny_assign_Name (zYk I hN hi hx r (λs' I'=>⟨_,H,I',h⟩) hf)
def z2x:TGs:=λvs Y H Q=>vs=[]/\Q Y H
def zbx(t:TG)(u:TGs):TGs:=λvs Y H Q=>∃v r,vs=v::r/\t v Y H λY' H'=>u r Y' H' Q
def zZp:PGs X [] z2x:=by
 intro pins s Y H vs us Q I r h;obtain⟨e,h⟩:=h;subst e;cases r;exact assignInOrder_nil ⟨Y,H,I,h⟩
def z2n{e:yC}{es:List yC}{t:TG}{u:TGs}(h1:PG X e t)(h2:PGs X es u)
 (hs:(Yh (e::es) X.env).map (·.2)=assign e X.env::(Yh es X.env).map (·.2):=by rfl):PGs X (e::es) (zbx t u):=by
 intro pins s Y H vs us Q I r h;obtain⟨v,vr,e1,h⟩:=h;subst e1
 cases r with
 |cons r rr=>
  rw[hs];refine assignInOrder_cons (thn (h1 pins s Y H _ _ _ I r h) λ_ s1 ⟨Y1,H1,I1,q1⟩=>?_);exact h2 pins s1 Y1 H1 _ _ Q I1 rr q1
def zZx(K:yx)(n:Nat)(t:TGs):TG:=λv Y H Q=>∃a xs,v=.ref a/\SqT K H a xs/\xs.length=n/\t xs Y H Q
def zEs{es:List yC}{k:Nat}{t:TGs}{n:Nat}(hc:X.calm=true)(h:PGs X es t)
 (hn:(Yh es X.env).length=n:=by rfl) (hst:(Yh es X.env).findIdx? (·.1)=none:=by rfl):PG X (.Tuple es k pos) (zZx X.K n t):=by
 intro pins s Y H v u Q I r hw;obtain⟨a,xs,e1,hq,hl,hw⟩:=hw;subst e1;cases r;obtain⟨its,rv,ht,hz⟩:=I.tuple hq;refine assign_Tuple_tuple (I.ok.hd hc) ht (by simp[hn,<-hl,rv.length]) hst λh' hx=>?_;have I1:Inv X pins Y H {s with heap:=h' }:=I.kept (t':=s.toks) λb o e=>hx b o (yq (ym e)) e;exact h pins _ Y H xs _ Q I1 (by simpa using rv) hw
def z0s(to ti:TE)(t:zXw):TG:=λv Y H Q=>to Y H λo H1=>ti Y H1 λi H2=>t o i v H2 λH3=>Q Y H3
def zCs{o i:yC}{to ti:TE}{t:zXw}(ho:PE X o to)(hi:PE X i ti)(hs:z9w X t)
 (ha:∀v,assign (.Subscript o i pos) X.env v=(do
  let ov <-holding [v] (Yq o X.env)
  let iv <-holding [v,ov] (Yq i X.env)
  standAt pos
  holding [v,ov,iv] (setItem ov iv v)
  release [v,ov,iv] []):=by intro _;rfl):PG X (.Subscript o i pos) (z0s to ti t):=by
 intro pins s Y H v u Q I r h;rw[ha];refine ya (yU (thn (ho pins s Y H _ I h) λov s1 ⟨x,H1,I1,r1,q1⟩=>?_));refine ya (yU (thn (hi pins s1 Y H1 _ I1 q1) λiv s2 ⟨y,H2,I2,r2,q2⟩=>?_));refine ya (xy (ya (yU (thn (hs pins s2 Y H2 x y v ov iv u _ I2 r1 r2 r q2) λ_ s3 ⟨H3,I3,q3⟩=>?_))));exact wpAny_release ⟨Y,H3,I3,q3⟩
def z0w(te:TE)(g:TG):TS:=λD Y H=>te Y H λx H1=>g x Y H1 D.nx
def z1v{tg e:yC}{te:TE}{g:TG}(he:PE X e te)(hg:PG X tg g)(hs:swapsWithSole [tg] e pos.line X.env=pure false:=by rfl)(hw:swappedStores [tg] e X.env=pure none:=by rfl)
 (h1:(Yh [tg] X.env).map (·.2)=[assign tg X.env]:=by rfl):PS X (.Assign [tg] e pos) (z0w te g):=by
 intro pins s Y H D I h;refine wpAny_Assign_stores (thn (he pins s Y H _ I h) λv s1 ⟨x,H1,I1,r1,q1⟩=>?_) hs hw;rw[h1];exact thn (hg pins s1 Y H1 x v _ I1 r1 q1) λ_ s2 q=>q
def zBv{i:Nat}{x:yG}{e:yC}{te:TE}{pos':xU}(hN:X.N.Nodup)(hi:X.N[i]?=some x)(hx:Loc X.env.scope x)(he:PE X e te)(hs:swapsWith e (some (.Name x pos')) pos.line X.env=pure false:=by rfl)(hf:X.fn x=true\/X.env.scope.names.lookup x=some .local:=by first|exact .inl rfl|exact .inr rfl|assumption) :
 PS X (.Assign [.Name x pos'] e pos) (z0w te (zNt i)):=by
 intro pins s Y H D I h;refine wpAny_Assign_Name (thn (he pins s Y H _ I h) λv s1 ⟨y,H1,I1,r1,q1⟩=>?_) hs;exact zYk I1 hN hi hx r1 (λs2 I2=>⟨_,H1,I2,q1⟩) hf
def zQx(i:Nat)(te:TE)(ti:TIp):TS:=λD Y H=>∃x,Y[i]?=some (some x)/\te Y H λy H1=>ti x y H1 λz H2=>D.nx (Y.set i (some z)) H2
def z4u{i:Nat}{x:yG}{e:yC}{te:TE}{op:Operator}{ti:TIp}{pos':xU}(hN:X.N.Nodup)(hi:X.N[i]?=some x)(hx:Loc X.env.scope x)(he:PE X e te)(ho:PIp X op ti)(hf:X.fn x=true\/X.env.scope.names.lookup x=some .local:=by first|exact .inl rfl|exact .inr rfl|assumption) :
 PS X (.AugAssign (.Name x pos') op e pos) (zQx i te ti):=by
 intro pins s Y H D I h;obtain⟨v,e1,h⟩:=h;obtain⟨m,hn,hl⟩:=I.loc;have vis:Vis X.env.scope x:=by rcases hx with k|k;exact .inl k;exact .inr (.inl k)
 obtain⟨u,r,l⟩:=hl i x v hi e1 vis;refine wpAny_AugAssign_Name ?_
 have go:yp (yz X.prog X.w) X.A (Yq e X.env) (λw s₂=>yp (yz X.prog X.w) X.A (inplaceOp op u w) (λr s₃=>yp (yz X.prog X.w) X.A (storeName X.env x r) (λ_=>SP X pins D .next) X.xe s₃) X.xe s₂) X.xe s:=by
  refine thn (he pins s Y H _ I h) λw s1 ⟨y,H1,I1,r1,q1⟩=>?_;refine thn (ho pins s1 Y H1 v y u w _ I1 r r1 q1) λz s2 ⟨zv,H2,I2,r2,q2⟩=>?_;exact zYk I2 hN hi hx r2 (λs3 I3=>⟨_,H2,I3,q2⟩) hf
 rcases l with ⟨hk,hm⟩|⟨hk,c,hc,hcell⟩
 ·exact wpAny_loadName_local I.ok.kind hk hn hm go
 ·rcases hk with hk|hk
  ·exact wpAny_loadName_cell I.ok.kind hk hc hcell go
  ·rcases hx with k|k
   ·have:X.env.scope.names.lookup x=some .free:=hk;rw[k]at this;cases this
   ·have:X.env.scope.names.lookup x=some .free:=hk;rw[k]at this;cases this
def zLv(c:TT)(tb:TS):TS:=λD Y H=>∃W:Nat->St->Hp->Prop,(∃m,W m Y H)/\∀m Y H,W m Y H ->
 c Y H λb H1=>if b=true then ∃N:St->Hp->Prop,(∀Y' H',N Y' H'->∃m',m'<m/\W m' Y' H')/\tb {D with nx:=N,ct:=N,bk:=D.nx } Y H1 else D.nx Y H1
def zbs{c:yC}{body:List Yp}{tc:TT}{tb:TS}(hp:PassesOwn (yz X.prog X.w) X.A X.env X.xe)(hc:PT X c tc)(hb:PSs X body tb):PS X (.While c body [] pos) (zLv tc tb):=by
 intro pins s Y H D I h;obtain⟨W,⟨m0,w0⟩,turn⟩:=h;refine wpAny_While (codeAny_whileLoop (λn s'=>∃Y' H',Inv X pins Y' H' s'/\W n Y' H') ?_ m0 ⟨Y,H,I,w0⟩);rintro n s1 ⟨Y1,H1,I1,w1⟩;refine xq hp (thn (hc pins s1 Y1 H1 _ I1 (turn n Y1 H1 w1)) λb s2 ⟨H2,I2,q2⟩=>?_)
 cases b with
 |true=>
  obtain⟨N,hN,q2⟩:=q2;rw[if_pos rfl];refine xq hp (thn (hb pins s2 Y1 H2 _ I2 q2) λf s3 q3=>?_)
  cases f with
  |next=>
   obtain⟨Y3,H3,I3,n3⟩:=q3;obtain⟨m',hm,w3⟩:=hN Y3 H3 n3;exact⟨m',hm,Y3,H3,I3,w3⟩
  |cont=>
   obtain⟨Y3,H3,I3,n3⟩:=q3;obtain⟨m',hm,w3⟩:=hN Y3 H3 n3;exact⟨m',hm,Y3,H3,I3,w3⟩
  |brk=>exact q3
  |ret v=>exact q3
 |false=>
  rw[if_neg yv];exact wpAny_execs_nil ⟨Y1,H2,I2,q2⟩
end
structure It where
 go:Nat->Hp->Prop
 yld:Nat->Hp->V->Hp->Prop
 stop:Nat->Hp->Prop
def zum(X:Cx)(pins:List (yf×YY))(H:Hp)(b:yf):Prop :=
 H b=none/\b≠X.env.locals/\b∉X.fs/\(b∈X.ex\/X.s₀.heap.objs.size<=b)/\(∀x c,X.env.cells.lookup x=some c->c≠b)/\∀p∈X.pn++pins,p.1≠b
def Inv.sE{X:Cx}{pins:List (yf×YY)}{Y:St}{H H':Hp}{s:yd}{b:yf}(I:Inv X pins Y H s)(hb:s.heap.objs.size<=b)(hn:H' b=none):zum X pins H' b:=by
 refine⟨hn,yV (yA I.lt hb),I.nofs hb,.inr (yB I.sz hb),λx c e z=>?_,λp hp z=>?_⟩
 ·obtain⟨v,q⟩:=I.cell x c e;exact absurd (yA q.lt (by rw[z];exact hb)) (Ye _)
 ·exact absurd (yA (ym (I.pin p hp).1) (by rw[z];exact hb)) (Ye _)
structure Turn(P:yy)(w:yL)(K:yx)(tg:yC)(δ:It)(fp:List yf)(it:yf)(tn:Nat->yW->Prop):Prop where
 mem:it∈fp
 obj:∀i h,tn i h->∀b∈fp,∃o,h.get? b=some o/\∀v,o.data≠.cell v
 keep:∀i h h',tn i h->(∀b∈fp,∀o,h.get? b=some o->h'.get? b=some o)->tn i h'
 item:∀(X:Cx),X.prog=P->X.w=w->X.K=K->X.calm=true->∀(i:Nat)(pins:List (yf×YY)) (s:yd) (Y:St) (H:Hp) (E:yb->yd->Prop),Inv X pins Y H s->(∀b∈fp,zum X pins H b)->tn i s.heap->δ.go i H ->
  yp (yz P w) X.A (xo (.ref it)) (λr s1=>∃u,r=some u /\
   yp (yz P w) X.A (letOwnedTupleGo tg (.ref it) u) (λ_ s2=>∃x H',Inv X pins Y H' s2/\RelV x u/\δ.yld i H x H'/\tn (i+1) s2.heap/\∀b∈fp,H' b=none) E s1) E s
 done:∀(X:Cx),X.prog=P->X.w=w->X.K=K->X.calm=true->∀(i:Nat)(pins:List (yf×YY)) (s:yd) (Y:St) (H:Hp) (E:yb->yd->Prop),Inv X pins Y H s->(∀b∈fp,zum X pins H b)->tn i s.heap->δ.stop i H ->
  yp (yz P w) X.A (xo (.ref it)) (λr s1=>r=none/\Inv X pins Y H s1) E s
 self:∀(A:yR)(i:Nat)(s:yd)(Q:yb->yd->Prop)(E:yb->yd->Prop),tn i s.heap->Q (.ref it) s->yp (yz P w) A (pyIter (.ref it)) Q E s
abbrev TI:=St->Hp->(It->Hp->Prop)->Prop
def PIE(X:Cx)(pins:List (yf×YY))(Y:St)(tg:yC)(R:It->Hp->Prop)(itv:yb)(s2:yd):Prop :=
 ∃(it:yf)(fp:List yf)(tn:Nat->yW->Prop)(δ:It)(H':Hp),itv=.ref it/\Inv X pins Y H' s2/\Turn X.prog X.w X.K tg δ fp it tn/\tn 0 s2.heap/\(∀b∈fp,zum X pins H' b)/\R δ H'
def PI(X:Cx)(tg iter:yC)(wi:TI):Prop :=
 ∀(pins:List (yf×YY)) (s:yd) (Y:St) (H:Hp) (R:It->Hp->Prop),Inv X pins Y H s->wi Y H R ->
  yp (yz X.prog X.w) X.A (Yq iter X.env) (λv s1=>yp (yz X.prog X.w) X.A (pyIter v) (PIE X pins Y tg R) X.xe s1) X.xe s
def z6r{M:Model}{A:yR}{E:yb->yd->Prop}{s:yd}{tg:yC}{it:yf}{u:yb}{o:YY}{n:String}{vs:Array yb}{Q:Unit->yd->Prop}(ho:s.heap.get? it=some o)(hc:o.cls=.type n)(hd:o.data=.fields vs)
 (hn:["enumerate","zip","dict_itemiterator","dict_reverseitemiterator","odict_iterator","itertools.zip_longest","itertools.pairwise"].contains n=false) (hQ:Q () s):yp M A (letOwnedTupleGo tg (.ref it) u) Q E s:=by
 unfold letOwnedTupleGo
 cases tg<;>first
  |exact ye hQ
  |(cases u<;>first
   |exact ye hQ
   | (refine ya (wpAny_load ho ?_)
      rw[hc,hd];show yp M A (if(["enumerate","zip","dict_itemiterator","dict_reverseitemiterator","odict_iterator","itertools.zip_longest","itertools.pairwise"].contains n&&vs[0]?==some (YD _))=true then _ else _) Q E s;rw[if_neg (by intro h;rw[hn,Bool.false_and]at h;cases h)];exact ye hQ))
def Itl(K:yx)(a:yf):It :=
 ⟨λi H=>∃xs x,SqL K H a xs/\xs[i]?=some x,λi H x H'=>H'=H/\∀xs,SqL K H a xs->xs[i]?=some x,λi H=>∃xs,SqL K H a xs/\xs.length<=i⟩
def Itt(K:yx)(a:yf):It :=
 ⟨λi H=>∃xs x,SqT K H a xs/\xs[i]?=some x,λi H x H'=>H'=H/\∀xs,SqT K H a xs->xs[i]?=some x,λi H=>∃xs,SqT K H a xs/\xs.length<=i⟩
def Itr(lo:Int)(n:Nat):It:=⟨λi _=>i<n,λi H x H'=>H'=H/\x=.int (lo+i),λi _=>n<=i⟩
def zXq{P:yy}{w:yL}{K:yx}{tg:yC}(a it:yf):Turn P w K tg (Itl K a) [it] it (λi h=>h.IsListIter it a i) where
 mem:=by simp
 obj:=λi h st b hb=>by
  have e:b=it:=by simpa using hb
  subst e;obtain⟨o,e,c,d⟩:=st;exact⟨o,e,λv z=>by rw[d]at z;cases z⟩
 keep:=λi h h' st k=>st.at λo e=>k it (by simp) o e
 item:=by
  intro X hP hw hK hc i pins s Y H E I hf st hg;subst hP hw hK;obtain⟨xs,x,hq,hx⟩:=hg;obtain⟨its,rv,p,hz⟩:=I.list hq;obtain⟨u,hu,ru⟩:=rv.get hx;obtain⟨f0,f1,f2,f3,f4,f5⟩:=hf it (by simp);refine wpAny_pyNext_list_item st p.isList (x:=u) (by simpa using hu) λh' st' sb=>?_;have I1:Inv X pins Y H {s with heap:=h' }:=I.turned (t':=s.toks) (λb o hb e=>(sb.2 b hb).trans e) f0 f1 f3 f4 f5;obtain⟨o,e,c,d⟩:=id st';exact⟨u,rfl,z6r (s:={s with heap:=h' }) e c d (by decide) ⟨x,H,I1,ru,⟨rfl,λys hy=>by rw[I.TN hy hq];exact hx⟩,st',λb hb=>(hf b hb).1⟩⟩
 done:=by
  intro X hP hw hK hc i pins s Y H E I hf st hg;subst hP hw hK;obtain⟨xs,hq,hx⟩:=hg;obtain⟨its,rv,p,hz⟩:=I.list hq;obtain⟨f0,f1,f2,f3,f4,f5⟩:=hf it (by simp);have hl:=rv.length;exact wpAny_pyNext_list_end (I.ok.hd hc) st p.isList (by simp;omega) λh' eb=>⟨rfl,I.turned (t':=s.toks) (λb o hb e=>eb b o hb e) f0 f1 f3 f4 f5⟩
 self:=λ_ _ _ _ _ st h=>wpAny_pyIter_listiter st h
def zoo{P:yy}{w:yL}{K:yx}{tg:yC}(a it:yf):Turn P w K tg (Itt K a) [it] it (λi h=>h.IsTupleIter it a i) where
 mem:=by simp
 obj:=λi h st b hb=>by
  have e:b=it:=by simpa using hb
  subst e;obtain⟨o,e,c,d⟩:=st;exact⟨o,e,λv z=>by rw[d]at z;cases z⟩
 keep:=λi h h' st k=>st.at λo e=>k it (by simp) o e
 item:=by
  intro X hP hw hK hc i pins s Y H E I hf st hg;subst hP hw hK;obtain⟨xs,x,hq,hx⟩:=hg;obtain⟨its,rv,p,hz⟩:=I.tuple hq;obtain⟨u,hu,ru⟩:=rv.get hx;obtain⟨f0,f1,f2,f3,f4,f5⟩:=hf it (by simp);refine wpAny_pyNext_tuple_item st (show s.heap.IsTuple a its.toArray from p) (x:=u) (by simpa using hu) λh' st' sb=>?_;have I1:Inv X pins Y H {s with heap:=h' }:=I.turned (t':=s.toks) (λb o hb e=>(sb.2 b hb).trans e) f0 f1 f3 f4 f5;obtain⟨o,e,c,d⟩:=id st';exact⟨u,rfl,z6r (s:={s with heap:=h' }) e c d (by decide) ⟨x,H,I1,ru,⟨rfl,λys hy=>by rw[I.TH hy hq];exact hx⟩,st',λb hb=>(hf b hb).1⟩⟩
 done:=by
  intro X hP hw hK hc i pins s Y H E I hf st hg;subst hP hw hK;obtain⟨xs,hq,hx⟩:=hg;obtain⟨its,rv,p,hz⟩:=I.tuple hq;obtain⟨f0,f1,f2,f3,f4,f5⟩:=hf it (by simp);have hl:=rv.length;exact wpAny_pyNext_tuple_end (I.ok.hd hc) st (show s.heap.IsTuple a its.toArray from p) (by simp;omega) λh' eb=>⟨rfl,I.turned (t':=s.toks) (λb o hb e=>eb b o hb e) f0 f1 f3 f4 f5⟩
 self:=λ_ _ _ _ _ st h=>wpAny_pyIter_tupleiter st h
def zto{P:yy}{w:yL}{K:PySem.W.Frag}{tg:yC}(it:yf)(lo:Int)(n:Nat):Turn P w K tg (Itr lo n) [it] it (λi h=>IsRangeIter h it (lo+(i:Nat)*1) ((n:Int)-(i:Nat)) 1) where
 mem:=by simp
 obj:=λi h st b hb=>by
  have e:b=it:=by simpa using hb
  subst e
  exact⟨_,st,λv z=>by
   have z':Data.fields _=Data.cell v:=z;cases z'⟩
 keep:=λi h h' st k=>k it (by simp) _ st
 item:=by
  intro X hP hw hK hc i pins s Y H E I hf st hg;subst hP hw hK;obtain⟨f0,f1,f2,f3,f4,f5⟩:=hf it (by simp);have W:=Walks.range (prog:=X.prog) (w:=X.w) (I.ok.hd hc) it lo 1 n;refine W.item i s _ _ hg st λv h' tk hv st' kk=>?_;obtain⟨t,rfl⟩:=hv;have I1:Inv X pins Y H {s with heap:=h',toks:=tk }:=I.turned (λb o hb e=>kk b o (by simpa using hb) e) f0 f1 f3 f4 f5;refine⟨_,rfl,z6r (s:={s with heap:=h',toks:=tk }) (n:="range_iterator") st' rfl rfl (by decide) ⟨.int (lo+i),H,I1,⟨t,?_⟩,⟨rfl,rfl⟩,st',λb hb=>(hf b hb).1⟩⟩;rw[Int.mul_one]
 done:=by
  intro X hP hw hK hc i pins s Y H E I hf st hg;subst hP hw hK;obtain⟨f0,f1,f2,f3,f4,f5⟩:=hf it (by simp);exact wpAny_pyNext_range_end (I.ok.hd hc) st (by have:n<=i:=hg;omega) λh' eb=>⟨rfl,I.turned (t':=s.toks) (λb o hb e=>eb b o hb e) f0 f1 f3 f4 f5⟩
 self:=λ_ _ _ _ _ st h=>wpAny_pyIter_rangeiter st h
section
variable {X:Cx}{tg:yC}
def z8q(K:yx)(tl:TE):TI:=λY H R=>tl Y H λx H1=>∃a,x=.ref a/\(∃xs,SqL K H1 a xs)/\R (Itl K a) H1
def z3x(K:yx)(tl:TE):TI:=λY H R=>tl Y H λx H1=>∃a,x=.ref a/\(∃xs,SqT K H1 a xs)/\R (Itt K a) H1
def zsu{l:yC}{tl:TE}(hl:PE X l tl):PI X tg l (z8q X.K tl):=by
 intro pins s Y H R I h;refine thn (hl pins s Y H _ I h) λv s1 ⟨x,H1,I1,r1,q1⟩=>?_;obtain⟨a,e,⟨xs,hq⟩,q⟩:=q1;subst e;cases r1;obtain⟨its,rv,p,hz⟩:=I1.list hq;refine xu p.isList ?_;refine⟨s1.heap.objs.size,[s1.heap.objs.size],_,_,H1,rfl,I1.kept (t':=s1.toks) λb o e=>yc _ e,zXq a _,⟨_,yk _ rfl,rfl,rfl⟩,λb hb=>?_,q⟩;have e:b=s1.heap.objs.size:=by simpa using hb
 subst e;exact I1.sE (yi _) (I1.hok.fresh (yi _))
def z3u{l:yC}{tl:TE}(hl:PE X l tl):PI X tg l (z3x X.K tl):=by
 intro pins s Y H R I h;refine thn (hl pins s Y H _ I h) λv s1 ⟨x,H1,I1,r1,q1⟩=>?_;obtain⟨a,e,⟨xs,hq⟩,q⟩:=q1;subst e;cases r1;obtain⟨its,rv,p,hz⟩:=I1.tuple hq;refine xJ (show s1.heap.IsTuple a its.toArray from p) ?_;refine⟨s1.heap.objs.size,[s1.heap.objs.size],_,_,H1,rfl,I1.kept (t':=s1.toks) λb o e=>yc _ e,zoo a _,⟨_,yk _ rfl,rfl,rfl⟩,λb hb=>?_,q⟩;have e:b=s1.heap.objs.size:=by simpa using hb
 subst e;exact I1.sE (yi _) (I1.hok.fresh (yi _))
def zvr{pins:List (yf×YY)}{Y:St}{H:Hp}{s:yd}{R:It->Hp->Prop}{E:yb->yd->Prop}{lo hi:Int}{t u v:Tok}{tk:Nat}(I:Inv X pins Y H s)(h1:-(2^62)<=lo)(h2:lo<2^62)(h3:-(2^62)<=hi)(h4:hi<2^62)
 (q:R (Itr lo (hi-lo).toNat) H):yp (yz X.prog X.w) X.A (pyIter (.ref s.heap.objs.size)) (PIE X pins Y tg R) E {s with heap:=s.heap.push {cls:=.type "range",data:=.fields #[.int lo t,.int hi u,.int 1 v]},toks:=tk }:=by
 refine wpAny_pyIter_range (IsRange.new ..) (small_one h1 h2 h3 h4) ?_;have I1:Inv X pins Y H {s with heap:=s.heap.push {cls:=.type "range",data:=.fields #[.int lo t,.int hi u,.int 1 v]},toks:=tk }:=I.kept λb o e=>yc _ e
 refine⟨(s.heap.push {cls:=.type "range",data:=.fields #[.int lo t,.int hi u,.int 1 v]}).objs.size,[(s.heap.push {cls:=.type "range",data:=.fields #[.int lo t,.int hi u,.int 1 v]}).objs.size],_,_,H,rfl,
  I1.kept (t':=tk) λb o e=>yc _ e,zto _ lo (hi-lo).toNat,?_,λb hb=>?_,q⟩
 ·have e1:lo+((0:Nat):Int)*1=lo:=by simp
  have e2:(((hi-lo).toNat:Nat):Int)-((0:Nat):Int)=Builtin.Range.rangeSize lo hi 1:=by rw[rangeSize_one];split<;>omega
  show IsRangeIter _ _ (lo+((0:Nat):Int)*1) ((((hi-lo).toNat:Nat):Int)-((0:Nat):Int)) 1;rw[e1,e2];exact yk _ rfl
 ·have e:b=(s.heap.push {cls:=.type "range",data:=.fields #[.int lo t,.int hi u,.int 1 v]}).objs.size:=by simpa using hb
  subst e;exact I1.sE (yi _) (I1.hok.fresh (yi _))
def zLw(ta:TA):TI:=λY H R=>ta Y H λvs H1=>∃j:Int,vs=[.int j]/\-(2^62)<=j/\j<2^62/\R (Itr 0 j.toNat) H1
def zmp{a:yC}{ta:TA}{p pos:xU}(hg:Gl X "range")(hm:X.mg "range"=none)(ha:PA X [a] ta)(hs:yw [a] X.env=[(false,Yq a X.env)]:=by rfl):PI X tg (.Call (.Name "range" p) [a] [] pos) (zLw ta):=by
 intro pins s Y H R I h;refine Call_ (zvi I hg hm boot_range (Yy (thn (ha pos pins s Y H _ I h) λus s1 ⟨vs,H1,I1,r1,q1⟩=>?_) hs rfl));obtain⟨j,e,q1,q2,q⟩:=q1;subst e
 cases r1 with
 |cons r rr=>
  cases rr;obtain⟨t,rfl⟩:=r;exact call_range_1 (zvr I1 (by omega) (by omega) q1 q2 (by simpa using q))
def zLx(wi:TI)(g:TG)(tb:TS):TS:=λD Y H=>wi Y H λδ H1=>∃W:Nat->Nat->St->Hp->Prop,(∃m,W 0 m Y H1)/\∀i m Y H,W i m Y H ->
 (δ.stop i H/\D.nx Y H)\/(δ.go i H/\∃N:St->Hp->Prop,(∀Y' H',N Y' H'->∃m',m'<m/\W (i+1) m' Y' H')/\∀x H',δ.yld i H x H'->g x Y H' λY2 H2=>tb {D with nx:=N,ct:=N,bk:=D.nx } Y2 H2)
def z9k(fp:List yf)(h:yW):List (yf×YY):=fp.filterMap λb=>(h.get? b).map λo=>(b,o)
def zGe{fp:List yf}{h:yW}{b:yf}{o:YY}(hb:b∈fp)(e:h.get? b=some o):(b,o)∈z9k fp h:=List.mem_filterMap.mpr ⟨b,hb,by rw[e];rfl⟩
def z7p{fp:List yf}{h:yW}{p:yf×YY}(hp:p∈z9k fp h):p.1∈fp/\h.get? p.1=some p.2:=by
 obtain⟨b,hb,e⟩:=List.mem_filterMap.mp hp
 cases q:h.get? b with
 |none=>rw[q]at e;cases e
 |some o=>
  rw[q]at e;have e':(b,o)=p:=yY e;subst e';exact⟨hb,q⟩
def Inv.pinned{pins:List (yf×YY)}{Y:St}{H:Hp}{s:yd}{fp:List yf}(I:Inv X pins Y H s)(hf:∀b∈fp,zum X pins H b)(ho:∀b∈fp,∃o,s.heap.get? b=some o/\∀v,o.data≠.cell v):Inv X (pins++z9k fp s.heap) Y H s :=
 I.sw λp hp=>(List.mem_append.mp hp).elim (λz=>I.pin p (mem_append_right _ z)) λz=>by
  obtain⟨hb,e⟩:=z7p z;obtain⟨f0,f1,f2,_⟩:=hf p.1 hb;obtain⟨o,e',d⟩:=ho p.1 hb;rw[e]at e';cases e';exact⟨e,f0,f1,f2,d⟩
def Inv.Tp{pins pl:List (yf×YY)}{Y:St}{H:Hp}{s:yd}(I:Inv X (pins++pl) Y H s):Inv X pins Y H s:=I.sw λp hp=>I.pin p (mem_append_right _ (mem_append_left _ hp))
def z6v{iter:yC}{body:List Yp}{wi:TI}{g:TG}{tb:TS}{pos:xU}(hp:PassesOwn (yz X.prog X.w) X.A X.env X.xe)(hc:X.calm=true)(hi:PI X tg iter wi)(hg:PG X tg g)(hb:PSs X body tb)
 (hs:∀x,YL iter X.env x=pure x:=by intro _;rfl):PS X (.For tg iter body [] pos) (zLx wi g tb):=by
 intro pins s Y H D I h;refine wpAny_For (thn (hi pins s Y H _ I h) λv s1 h1=>thn h1 λitv s2 h2=>?_) hs;obtain⟨it,fp,tn,δ,H2,e,I2,T,st2,f2,W,⟨m0,w0⟩,turn⟩:=h2;subst e;have stat:∀{H':Hp},(∀b∈fp,H' b=none)->∀b∈fp,zum X pins H' b:=λhn b hb=>⟨hn b hb,(f2 b hb).2⟩
 refine codeAny_forLoop_any (λn s'=>∃i Y' H',Inv X pins Y' H' s'/\tn i s'.heap/\(∀b∈fp,H' b=none)/\W i n Y' H') ?_ m0 ⟨0,Y,H2,I2,st2,λb hb=>(f2 b hb).1,w0⟩;rintro n s3 ⟨i,Y3,H3,I3,st3,fr3,w3⟩;rcases turn i n Y3 H3 w3 with ⟨stop,qn⟩|⟨go,N,hN,step⟩
 ·refine xq hp (thn (T.done X rfl rfl rfl hc i pins s3 Y3 H3 X.xe I3 (stat fr3) st3 stop) λr s4 ⟨hr,I4⟩=>?_);subst hr;exact wpAny_execs_nil ⟨Y3,H3,I4,qn⟩
 ·refine xq hp (thn (T.item X rfl rfl rfl hc i pins s3 Y3 H3 X.xe I3 (stat fr3) st3 go) λr s4 ⟨u,hr,h4⟩=>?_);subst hr;refine xq hp (thn h4 λ_ s5 ⟨x,H5,I5,r5,y5,st5,fr5⟩=>?_);have I5':=I5.pinned (stat fr5) (T.obj _ _ st5);refine xq hp (thn (hg _ s5 Y3 H5 x u _ I5' r5 (step x H5 y5)) λ_ s6 ⟨Y6,H6,I6,q6⟩=>?_);refine xq hp (thn (hb _ s6 Y6 H6 _ I6 q6) λf s7 q7=>?_)
  have again:∀{Y7:St} {H7:Hp},Inv X (pins++z9k fp s5.heap) Y7 H7 s7->N Y7 H7->∃m,m<n/\∃i Y' H',Inv X pins Y' H' s7/\tn i s7.heap/\(∀b∈fp,H' b=none)/\W i m Y' H':=λ{Y7 H7} I7 n7=>by
   obtain⟨m',hm,w7⟩:=hN Y7 H7 n7;refine⟨m',hm,i+1,Y7,H7,I7.Tp,T.keep _ _ _ st5 λb hb o e=>(I7.pin (b,o) (mem_append_right _ (mem_append_right _ (zGe hb e)))).1,λb hb=>?_,w7⟩;obtain⟨o,e,d⟩:=T.obj _ _ st5 b hb;exact(I7.pin (b,o) (mem_append_right _ (mem_append_right _ (zGe hb e)))).2.1
  cases f with
  |next=>obtain⟨Y7,H7,I7,n7⟩:=q7;exact again I7 n7
  |cont=>obtain⟨Y7,H7,I7,n7⟩:=q7;exact again I7 n7
  |brk=>obtain⟨Y7,H7,I7,q7⟩:=q7;exact⟨Y7,H7,I7.Tp,q7⟩
  |ret v=>obtain⟨x7,Y7,H7,I7,r7,q7⟩:=q7;exact⟨x7,Y7,H7,I7.Tp,r7,q7⟩
end
abbrev R2:=V->V->Hp->VK->Prop
def OpR(X:Cx)(f:yb->yb->Sem yb)(r:R2):Prop :=
 ∀(pins:List (yf×YY)) (s:yd) (Y:St) (H:Hp) (x y:V) (v u:yb) (Q:VK),Inv X pins Y H s->RelV x v->RelV y u->r x y H Q ->
  yp (yz X.prog X.w) X.A (f v u) (EP X pins Y Q) X.xe s
def zmh(X:Cx)(f:yb)(r:List V->Hp->VK->Prop):Prop :=
 ∀(pins:List (yf×YY)) (s:yd) (Y:St) (H:Hp) (xs:List V) (us:List yb) (Q:VK),Inv X pins Y H s->Vals xs us->r xs H Q ->
  yp (yz X.prog X.w) X.A (call f us) (EP X pins Y Q) X.xe s
def tOp(r:R2)(ta tb:TE):TE:=λY H Q=>ta Y H λx H1=>tb Y H1 λy H2=>r x y H2 Q
def rI(C:Int->Int->Prop)(g:Int->Int->V):R2:=λx y H Q=>∃i j,x=.int i/\y=.int j/\C i j/\Q (g i j) H
def rI0(g:Int->Int->V):R2:=λx y H Q=>∃i j,x=.int i/\y=.int j/\Q (g i j) H
section
variable {X:Cx}{a b c:yC}{ta tb tc:TE}{pos:xU}
def binT(ha:PE X a ta)(hb:PE X b tb){pins:List (yf×YY)}{s:yd}{Y:St}{H:Hp}{R:V->V->Hp->Prop}(I:Inv X pins Y H s)
 (h:ta Y H λx H1=>tb Y H1 λy H2=>R x y H2) {Q:yb->yd->Prop} {f:yb->yb->Sem yb}
 (hf:∀v u s2 x y H2,Inv X pins Y H2 s2->RelV x v->RelV y u->R x y H2->yp (yz X.prog X.w) X.A (f v u) Q X.xe s2) :
 yp (yz X.prog X.w) X.A (Yq a X.env) (λv s₁=>yp (yz X.prog X.w) X.A (Yq b X.env) (λu s₂=>yp (yz X.prog X.w) X.A (f v u) Q X.xe s₂) X.xe s₁) X.xe s:=by
 refine thn (ha pins s Y H _ I h) λv s1 ⟨x,H1,I1,r1,q1⟩=>?_;refine thn (hb pins s1 Y H1 _ I1 q1) λu s2 ⟨y,H2,I2,r2,q2⟩=>?_;exact hf v u s2 x y H2 I2 r1 r2 q2
def zBw{op:Operator}{r:R2}(ho:OpR X (xD op) r)(ha:PE X a ta)(hb:PE X b tb):PE X (.BinOp a op b pos) (tOp r ta tb):=by
 intro pins s Y H Q I h;exact wpAny_BinOp (binT ha hb I h λv u s2 x y H2 I2 rx ry q=>ho pins s2 Y H2 x y v u Q I2 rx ry q)
def opI{f:yb->yb->Sem yb}{C:Int->Int->Prop}{g:Int->Int->Int}
 (rule:∀(i j:Int)(t u:Tok)(s:yd)(Q:yb->yd->Prop)(E:yb->yd->Prop),C i j->Q (.int (g i j) s.toks) {s with toks:=s.toks+1 }->yp (yz X.prog X.w) X.A (f (.int i t) (.int j u)) Q E s) :
 OpR X f (rI C λi j =>.int (g i j)):=by
 intro pins s Y H x y v u Q I rx ry h;obtain⟨i,j,rfl,rfl,hc,q⟩:=h;obtain⟨t,rfl⟩:=rx;obtain⟨t',rfl⟩:=ry;exact rule i j t t' s _ _ hc ⟨.int (g i j),H,I.tok _,⟨_,rfl⟩,q⟩
def opI0{f:yb->yb->Sem yb}{g:Int->Int->Int}
 (rule:∀(i j:Int)(t u:Tok)(s:yd)(Q:yb->yd->Prop)(E:yb->yd->Prop),Q (.int (g i j) s.toks) {s with toks:=s.toks+1 }->yp (yz X.prog X.w) X.A (f (.int i t) (.int j u)) Q E s) :
 OpR X f (rI0 λi j =>.int (g i j)):=by
 intro pins s Y H x y v u Q I rx ry h;obtain⟨i,j,rfl,rfl,q⟩:=h;obtain⟨t,rfl⟩:=rx;obtain⟨t',rfl⟩:=ry;exact rule i j t t' s _ _ ⟨.int (g i j),H,I.tok _,⟨_,rfl⟩,q⟩
def opB0{f:yb->yb->Sem yb}{g:Int->Int->Bool}
 (rule:∀(i j:Int)(t u:Tok)(s:yd)(Q:yb->yd->Prop)(E:yb->yd->Prop),Q (.bool (g i j)) s->yp (yz X.prog X.w) X.A (f (.int i t) (.int j u)) Q E s) :
 OpR X f (rI0 λi j =>.bl (g i j)):=by
 intro pins s Y H x y v u Q I rx ry h;obtain⟨i,j,rfl,rfl,q⟩:=h;obtain⟨t,rfl⟩:=rx;obtain⟨t',rfl⟩:=ry;exact rule i j t t' s _ _ ⟨.bl (g i j),H,I,rfl,q⟩
def CMul(i j:Int):Prop:=(-(2^64)<i/\i<2^64)\/(-(2^64)<j/\j<2^64)
def CMul.ok{i j:Int}(h:CMul i j):IntMulOk i j:=by
 rcases h with ⟨h1,h2⟩|⟨h1,h2⟩
 ·exact .of_left (intBits_le_64 h1 h2)
 ·exact .of_right (intBits_le_64 h1 h2)
def zWv:OpR X (xD .Mod) (rI (λ_ j=>0<j) λi j =>.int (i%j)):=opI λi j _ _ _ _ _ hc q=>by
 have h1:(0:Int)<j:=hc;exact mod_int' (by omega) (by rw[Int.fmod_eq_emod_of_nonneg i (by omega)];exact q)
def zRt:OpR X (inplaceOp .Add) (rI0 λi j =>.int (i+j)):=opI0 λ_ _ _ _ _ _ _ q=>iadd_int q
def zDu:OpR X (inplaceOp .Mult) (rI CMul λi j =>.int (i*j)):=opI λ_ _ _ _ _ _ _ hc q=>imul_int q hc.ok
def zCv{pins:List (yf×YY)}{Y:St}{H:Hp}{s:yd}{Q:VK}{k k':Bool}(I:Inv X pins Y H s)(q:Q (.bl k) H)(e:k=k'):EP X pins Y Q (.bool k') s:=by
 subst e;exact⟨.bl k,H,I,rfl,q⟩
def zxw:OpR X (Yj .Lt) (rI0 λi j =>.bl (decide (i<j))):=opB0 λ_ _ _ _ _ _ _ q=>lt_int q
def zgx:OpR X (Yj .LtE) (rI0 λi j =>.bl (decide (i<=j))):=opB0 λ_ _ _ _ _ _ _ q=>le_int q
def z5w:OpR X (Yj .Gt) (rI0 λi j =>.bl (decide (j<i))):=opB0 λ_ _ _ _ _ _ _ q=>gt_int q
def zHw:OpR X (Yj .GtE) (rI0 λi j =>.bl (decide (j<=i))):=opB0 λ_ _ _ _ _ _ _ q=>ge_int q
def zLg:OpR X (Yj .IsNot) (λx y H Q=>y=.non/\Q (.bl (!decide (x=.non))) H):=by
 intro pins s Y H x y v u Q I rx ry h;obtain⟨rfl,q⟩:=h;cases ry;refine isnot_none_gen (zCv I q ?_)
 cases x<;>first
  |(cases rx;rfl)
  |(obtain⟨t,rfl⟩:=rx;rfl)
def zlt{op:CmpOp}{r:R2}(ho:OpR X (Yj op) r)(ha:PE X a ta)(hb:PE X b tb)(hm:behindInMarks op b=false):PE X (.Compare a [op] [b] pos) (tOp r ta tb):=by
 intro pins s Y H Q I h;exact wpAny_Compare1 (binT ha hb I h λv u s2 x y H2 I2 rx ry q=>ho pins s2 Y H2 x y v u Q I2 rx ry q) hm
def zJw(t:TE):TT:=λY H Q=>t Y H λx H'=>∃k,x=.bl k/\Q k H'
def z7t{op:CmpOp}{r:R2}(ho:OpR X (Yj op) r)(ha:PE X a ta)(hb:PE X b tb)(hm:behindInMarks op b=false):PT X (.Compare a [op] [b] pos) (zJw (tOp r ta tb)):=by
 intro pins s Y H Q I h
 refine wpAny_isTrue_Compare1 (thn (ha pins s Y H _ I h) λv s1 ⟨x,H1,I1,r1,q1⟩=>thn (hb pins s1 Y H1 _ I1 q1) λu s2 ⟨y,H2,I2,r2,q2⟩=>
  thn (ho pins s2 Y H2 x y v u _ I2 r1 r2 q2) λc s3 ⟨z,H3,I3,r3,k,e,q3⟩=>?_) hm
 subst e;cases r3;exact xt ⟨H3,I3,q3⟩
def TQ:(yF:Nat)<2^63:=by rw[YN];decide
def vals1{x:V}{us:List yb}(r:Vals [x] us):∃u,us=[u]/\RelV x u:=by
 cases r with
 |cons r1 r2=>cases r2;exact⟨_,rfl,r1⟩
def vals2{x y:V}{us:List yb}(r:Vals [x,y] us):∃u w',us=[u,w']/\RelV x u/\RelV y w':=by
 cases r with
 |cons r1 r2=>
  cases r2 with
  |cons r3 r4=>cases r4;exact⟨_,_,rfl,r1,r3⟩
def zOq(hc:X.calm=true):zmh X (.builtin "min") (λxs H Q=>∃i j,xs=[.int i,.int j]/\Q (.int (if j<i then j else i)) H):=by
 intro pins s Y H xs us Q I r h;obtain⟨i,j,rfl,q⟩:=h;obtain⟨u,w',rfl,⟨t,rfl⟩,⟨t',rfl⟩⟩:=vals2 r;refine min_two_ints (I.ok.hd hc) λh' tk k=>⟨_,H,I.kept k,?_,q⟩
 by_cases hj:j<i
 ·rw[if_pos hj,if_pos hj];exact⟨_,rfl⟩
 ·rw[if_neg hj,if_neg hj];exact⟨_,rfl⟩
def zjm:zmh X (.type "int") (λxs H Q=>(∃i,xs=[.int i]/\Q (.int i) H)\/∃k,xs=[.bl k]/\Q (.int (if k then 1 else 0)) H):=by
 intro pins s Y H xs us Q I r h;rcases h with ⟨i,rfl,q⟩|⟨k,rfl,q⟩
 ·obtain⟨u,rfl,t,rfl⟩:=vals1 r;exact call_int_int ⟨.int i,H,I,⟨_,rfl⟩,q⟩
 ·obtain⟨u,rfl,r1⟩:=vals1 r;cases r1;exact call_int_bool ⟨.int (if k then 1 else 0),H,I.tok _,⟨_,rfl⟩,q⟩
end
structure ObjM(h:yW)(x dx C:yf)(mA:yG->Option yb):Prop where
 obj:h.get? x=some (W.instObj C dx)
 ns:h.Ns1 dx mA
 ne:dx≠x
section
variable {prog:yy}{w:yL}{A:yR}{E:yb->yd->Prop}{s:yd}{K:yx}{x dx C f:yf}{mA:yG->Option yb}{name:yG}{v:yb}
end
def sC.some_of{v:V}{o:Option yb}(r:sC (some v) o):∃u,o=some u/\RelV v u:=by
 cases o with
 |none=>exact(show False from r).elim
 |some u=>exact⟨u,rfl,r⟩
section
variable {P:yy}{w:yL}{H H':Hp}{h h':yW}{a C dx:yf}{fs fs':List (yG×V)}
end
structure Cls(K:yx)(C:yf):Prop where
 pg:W.plainGet K C Str.empty=true
 hd:W.hasDictIn K C=true
 po:W.plainOver K C=true
 sa:W.findIn K (.ref C) "__setattr__"=some (some (.builtin "object.__setattr__"))
structure Con(K:yx)(C:yf)(f:yG)(v:V)(u:yb):Prop where
 at_:W.findIn K (.ref C) f=some (some u)
 rel:RelV v u
 get:W.specialIn K u "__get__"=some none
 cp:W.copiedNames.contains f=false
structure Meth(K:yx)(C:yf)(m:yG)(f:yf):Prop where
 at_:W.findIn K (.ref C) m=some (some (.ref f))
 fn:W.isFn K (.ref f)=true
 kp:W.keepIn K (.ref f)=true
section
variable {X:Cx}{pins:List (yf×YY)}{Y:St}{H:Hp}{s:yd}{a C dx:yf}{fs:List (yG×V)}{f:yG}{v:V}{A:yR}{E:yb->yd->Prop}
variable {o e value:yC}{pos pos' tpos:xU}{ta tv:TE}
variable {Q:yb->yd->Prop}{c:yb}{b:Bool}
inductive TR(K:yx)(H:Hp):V->yb->Prop where
 |non:TR K H .non (.type "NoneType")
 |bl (x:Bool):TR K H (.bl x) (.type "bool")
 |int (i:Int):TR K H (.int i) (.type "int")
 |str (x:yG):TR K H (.str x) (.type "str")
 |flt (x:UInt64):TR K H (.flt x) (.type "float")
 |lst {a:yf} {xs:List V} (e:H a=some (.lst xs)):TR K H (.ref a) (.type "list")
 |frz {a:yf} {o:YY} {xs:List V} (e:H a=some (.frz o (.lst xs))):TR K H (.ref a) (.type "list")
 |tup {a:yf} {xs:List V} (e:H a=some (.tup xs)):TR K H (.ref a) (.type "tuple")
 |dK {a:yf} {kvs:List (Key×V)} (e:H a=some (.dK kvs)):TR K H (.ref a) (.type "dict")
 |dT {a:yf} {kvs:List (List Key×V)} (e:H a=some (.dT kvs)):TR K H (.ref a) (.type "dict")
 |ins {a C dx:yf} {fs:List (yG×V)} (e:H a=some (.ins C dx fs)) (cl:Cls K C) (ha:W.findIn K (.ref C) "__class__"=some (some (.builtin "object.__class__")))
  (hn:W.specialIn K (.builtin "object.__class__") "__get__"=some (some (.builtin "getset_descriptor.__get__"))) (htk:W.takesIn K (.builtin "object.__class__")=some true)
  (hm:W.mroIn K C (.type "object")=some true):TR K H (.ref a) (.ref C)
end
structure Ti(k:Nat)(A:yR):Prop where
 hd:A.handled=none
 dp:A.depth+3*k+5<recursionLimit
 un:A.units+16*k+200<cLine
 gd:A.guards=some []
def Ti.mono{j k:Nat}{A:yR}(r:Ti k A)(h:j<=k):Ti j A:=⟨r.hd,by have:=r.dp;omega,by have:=r.un;omega,r.gd⟩
def Ti.deeper{k:Nat}{A:yR}(r:Ti (k+1) A)(env:Env):Ti k (A.deeper env) :=
 ⟨r.hd,by have:=r.dp;show A.depth+1+3*k+5<_;omega,by have:=r.un;show A.units+3+16*k+200<_;omega,r.gd⟩
def Ti.depth{k:Nat}{A:yR}(r:Ti k A):A.depth<recursionLimit:=by have:=r.dp;omega
def Ti.units{k:Nat}{A:yR}(r:Ti k A):A.units+64<cLine:=by have:=r.un;omega
def zSx:TA:=λ_ H Q=>Q [] H
def zEw(ta:TE)(tr:TA):TA:=λY H Q=>ta Y H λx H1=>tr Y H1 λxs H2=>Q (x::xs) H2
section
variable {X:Cx}{e:yC}{es:List yC}{te:TE}{t:TA}{pos:xU}
def zii:PA X [] zSx:=λ_ _ _ _ H Q I h=>Calls.spliced_nil ⟨[],H,I,.nil,h⟩
def zbf(ha:PE X e te)(hr:PA X es t)(hs:yw (e::es) X.env=(false,Yq e X.env)::yw es X.env:=by rfl):PA X (e::es) (zEw te t):=by
 intro pos pins s Y H Q I h;rw[hs];show yp _ _ (spliced ((false,Yq e X.env)::xn pos (yw es X.env))) _ _ s;refine Calls.spliced_cons (thn (ha pins s Y H _ I h) λu s1 ⟨x,H1,I1,r1,q1⟩=>?_);exact thn (hr pos pins s1 Y H1 _ I1 q1) λus s2 ⟨xs,H2,I2,r2,q2⟩=>⟨x::xs,H2,I2,.cons r1 r2,q2⟩
def zGx(t:TA):TE:=λY H Q=>t Y H λxs H1=>xs.length<=yF/\∀p,H1 p=none->Q (.ref p) (upd H1 p (.tup xs))
def z0x(t:TA):TE:=λY H Q=>t Y H λxs H1=>xs.length<=yF/\∀p,H1 p=none->Q (.ref p) (upd H1 p (.lst xs))
def zcv{x1}(h:PA X es t):PE X (.Tuple es x1 pos) (zGx t):=by
 intro pins s Y H Q I hq;refine wpAny_Tuple_spliced (thn (h pos pins s Y H _ I hq) λus s1 ⟨xs,H1,I1,r,z,q⟩=>⟨by rw[<-r.length];exact z,?_⟩);have hf:H1 s1.heap.objs.size=none:=I1.hok.fresh (yi _);refine⟨.ref s1.heap.objs.size,upd H1 s1.heap.objs.size (.tup xs),I1.laid (t':=s1.toks) (λb u e=>yc _ e) (yi _) ?_,rfl,q _ hf⟩;exact⟨z,us,r,⟨_,yk _ rfl,rfl,_,rfl⟩⟩
def zSu(h:PA X es t):PE X (.List es pos) (z0x t):=by
 intro pins s Y H Q I hq;refine wpAny_List_spliced (thn (h pos pins s Y H _ I hq) λus s1 ⟨xs,H1,I1,r,z,q⟩=>⟨by rw[<-r.length];exact z,?_⟩);have hf:H1 s1.heap.objs.size=none:=I1.hok.fresh (yi _);refine⟨.ref s1.heap.objs.size,upd H1 s1.heap.objs.size (.lst xs),I1.laid (t':=s1.toks) (λb u e=>yc _ e) (yi _) ?_,rfl,q _ hf⟩;exact⟨z,us,0,r,yk _ rfl⟩
end
abbrev Sp:=List V->Hp->VK->XK->Prop
abbrev CXT:=List Env->Hp->yd->XK->yb->yd->Prop
structure Env0(P:yy)(w:yL)(K:yx)(mg:yG->Option yb)(base:yW)(A:yR)(outer:List Env)(s:yd)(H:Hp):Prop where
 frames:A.frames=some outer
 mod:Mod K mg base
 bs:∀b o,base.get? b=some o->s.heap.get? b=some o/\H b=none
 bsz:base.objs.size<=s.heap.objs.size
 TM:s.heap.FunFrames base outer
 frf:∀b∈frs outer,H b=none
 hok:HOk P w H s.heap
 bare:AllBare s.gens
def CE(outer:List Env)(P:yy)(w:yL)(H:Hp)(s:yd)(Q:VK)(u:yb)(s':yd):Prop :=
 ∃v H',s'.os=s.os/\AllBare s'.gens/\Un (frs outer) [] H H' s.heap s'.heap/\HOk P w H' s'.heap/\RelV v u/\Q v H'
def CR(CX:CXT)(outer:List Env)(P:yy)(w:yL)(H:Hp)(s:yd)(Q:VK)(E:XK)(r:Result)(s':yd):Prop :=
 match r with
 |.ok (.ret u)=>CE outer P w H s Q u s'
 |.ok _=>False
 |.error e=>CX outer H s E e s'
structure tw(P:yy)(w:yL)(K:yx)(mg:yG->Option yb)(base:yW)(CX:CXT)(k:Nat)(f:yf)(fd:yn)(ps:List yG)(sp:Sp):Prop where
 len:∀vs H Q E,sp vs H Q E->vs.length=ps.length
 run:∀(A:yR)(outer:List Env)(s:yd)(H:Hp)(args:Args)(us:List yb)(vs:List V)(Q:VK)(E:XK),Ti k A->Env0 P w K mg base A outer s H->BindsTo s fd args (ps.zip us)->Vals vs us->sp vs H Q E ->
  codeAny (yz P w) A (.call (.ref f) args) (CR CX outer P w H s Q E) s
section
variable {X:Cx}{pins:List (yf×YY)}{Y:St}{H:Hp}{s s':yd}
def Inv.env0(I:Inv X pins Y H s):Env0 X.prog X.w X.K X.mg X.base X.A X.stack s H :=
 ⟨I.ok.frames,I.ok.mod,I.bs,yB I.ok.bsz I.sz,I.stack,I.sP,I.hok,I.bare⟩
def Inv.after{Q:VK}{u:yb}(I:Inv X pins Y H s)(h:CE X.stack X.prog X.w H s Q u s'):EP X pins Y Q u s':=by
 obtain⟨v,H',os,bare,un,hok,r,q⟩:=h;obtain⟨hh,g,d,t,os'⟩:=s';obtain rfl:os'=s.os:=os;exact⟨v,H',I.call (h':=hh) (g':=g) (d':=d) (t':=t) (ch:=[]) un hok bare (λb z=>absurd z (by simp)),r,q⟩
end
def zjx(sp:Sp)(dvs:List V)(E:XK)(t:TA):TE:=λY H Q=>t Y H λvs H1=>sp (vs++dvs) H1 Q E
def Binds(K:yx)(fd:yn)(ps:List yG)(ds:List yb):Prop :=
 ∀(s:yd)(us:List yb),K.In s.heap->(us++ds).length=ps.length->BindsTo s fd ⟨us,[]⟩ (ps.zip (us++ds))
def Binds.all{K:yx}{fd:yn}{ps:List yG}(h:∀us:List yb,us.length=ps.length->bindArgs fd ⟨us,[]⟩=pure (ps.zip us)):Binds K fd ps []:=λs us _ hl=>by
 rw[append_nil]at hl ⊢;exact .of_eq (h us hl)
def zEp(CX:CXT)(X:Cx)(E:XK):Prop:=∀(pins:List (yf×YY)) (Y:St) (H:Hp) (s:yd) (e:yb) (s':yd),Inv X pins Y H s->CX X.stack H s E e s'->X.xe e s'
section
variable {X:Cx}{CX:CXT}{k:Nat}{f C:yf}{fd:yn}{ps:List yG}{sp:Sp}{dvs:List V}{ds:List yb}{E:XK}{x m:yG}{p pos apos:xU}{e o:yC}{es:List yC}{ta:TE}{t:TA}
def zow{pins:List (yf×YY)}{Y:St}{H:Hp}{s:yd}{Q:VK}{us:List yb}{vs:List V}(F:tw X.prog X.w X.K X.mg X.base CX k f fd ps sp)(hr:Ti k X.A)(hb:Binds X.K fd ps ds)(hd:Vals dvs ds)(hx:zEp CX X E)
 (I:Inv X pins Y H s) (r:Vals vs us) (h:sp (vs++dvs) H Q E):yp (yz X.prog X.w) X.A (call (.ref f) us) (EP X pins Y Q) X.xe s:=by
 have r2:Vals (vs++dvs) (us++ds):=r.append hd;have hl:(us++ds).length=ps.length:=by rw[<-r2.length];exact F.len _ _ _ _ h
 refine wpAny_call (xv (F.run X.A X.stack s H ⟨us,[]⟩ (us++ds) (vs++dvs) Q E hr I.env0 (hb s us I.kIn hl) r2 h) λr s' hq=>?_)
 cases r with
 |error e=>exact hx pins Y H s e s' I hq
 |ok fl=>
  cases fl with
  |ret u=>exact I.after hq
  |next=>exact xI hq
  |brk=>exact xI hq
  |cont=>exact xI hq
def zBt(F:tw X.prog X.w X.K X.mg X.base CX k f fd ps sp)(hr:Ti k X.A)(hg:Gl X x)(hm:X.mg x=some (.ref f))(hk:W.keepIn X.K (.ref f)=true)(hb:Binds X.K fd ps ds)(hd:Vals dvs ds)(hx:zEp CX X E)
 (ha:PA X (e::es) t) (hdb:(x==("__debug__":yG))=false:=by decide) (he:yw (e::es) X.env=(false,Yq e X.env)::yw es X.env:=by rfl) (hpl:(xn pos (yw es X.env)).any (·.1)=false:=by rfl) :
 PE X (.Call (.Name x p) (e::es) [] pos) (zjx sp dvs E t):=by
 intro pins s Y H Q I h;refine xK (zku I hg hm ?_ hdb);refine W.callWith_K (h₀:=X.base) I.ok.mod.kin hk (thn (ha pos pins s Y H _ I h) λus s1 ⟨vs,H1,I1,r,q⟩=>⟨I1.kIn,?_⟩) he hpl;exact zow F hr hb hd hx I1 r q
structure Mk(K:yx)(C f:yf):Prop where
 makes:W.makesIn K C=true
 init:W.findIn K (.ref C) "__init__"=some (some (.ref f))
 fn:W.isFn K (.ref f)=true
 kp:W.keepIn K (.ref C)=true
variable {ks:List yG}{kpos:xU}{kws:List Keyword}{te:TE}{tk:TA}{nm:Option yG}
structure KBinds(K:yx)(fd:yn)(ps ks:List yG)(g:List yb->List yb->List yb)(gV:List V->List V->List V):Prop where
 to:∀(s:yd)(us ws:List yb),K.In s.heap->(g us ws).length=ps.length->BindsTo s fd ⟨us,ks.zip ws⟩ (ps.zip (g us ws))
 rel:∀{vs:List V} {us:List yb} {zs:List V} {ws:List yb},Vals vs us->Vals zs ws->Vals (gV vs zs) (g us ws)
variable {g:List yb->List yb->List yb}{gV:List V->List V->List V}
end
structure tu(N P:List yG)(sc:Xa):Prop where
 kind:sc.kind=.function
 co:sc.isCoroutine=false
 gen:sc.isGenerator=false
 nd:N.Nodup
 pre:N.take P.length=P
 par:∀x∈P,sc.names.lookup x=some .local\/sc.names.lookup x=some .cell
 nofree:∀y∈sc.names,y.2≠.free
def znl{kindOf:yG->Option YX}{x:yG}:∀{binds:List (yG×yb)} {m:yG->Option yb},(∀v,(x,v)∉binds)->bindL kindOf binds m x=m x
 |[],_,_=>rfl
 |(n,v)::r,m,h=>by
  unfold bindL;rw[znl λw hw=>h w (mem_cons_of_mem _ hw)]
  split
  ·have:x≠n:=by rintro rfl;exact h v mem_cons_self
   simp[this]
  ·rfl
def zOl{kindOf:yG->Option YX}{x:yG}:∀{binds:List (yG×yb)} {m:yG->Option yb},(∀v,(x,v)∉binds)->bindC kindOf binds m x=m x
 |[],_,_=>rfl
 |(n,v)::r,m,h=>by
  unfold bindC;rw[zOl λw hw=>h w (mem_cons_of_mem _ hw)]
  split
  ·rfl
  ·have:x≠n:=by rintro rfl;exact h v mem_cons_self
   simp[this]
def zwl{kindOf:yG->Option YX}{x:yG}{v:yb}:∀{P:List yG} {vs:List yb} {i:Nat} {m:yG->Option yb},P.Nodup->P[i]?=some x->vs[i]?=some v->kindOf x=some .local ->
 bindL kindOf (P.zip vs) m x=some v
 |[],_,_,_,_,h,_,_=>by simp at h
 |_::_,[],_,_,_,_,h,_=>by simp at h
 |p::P,w::vs,0,m,nd,h1,h2,hk=>by
  simp at h1 h2;subst h1;subst h2;show bindL kindOf ((p,w)::P.zip vs) m p=_;unfold bindL;rw[znl λv hv=>(List.nodup_cons.mp nd).1 (List.of_mem_zip hv).1,if_pos hk];simp
 |p::P,w::vs,i+1,m,nd,h1,h2,hk=>by
  show bindL kindOf ((p,w)::P.zip vs) m x=_;unfold bindL;exact zwl (i:=i) (List.nodup_cons.mp nd).2 (by simpa using h1) (by simpa using h2) hk
def zgm{kindOf:yG->Option YX}{x:yG}{v:yb}:∀{P:List yG} {vs:List yb} {i:Nat} {m:yG->Option yb},P.Nodup->P[i]?=some x->vs[i]?=some v->kindOf x≠some .local ->
 bindC kindOf (P.zip vs) m x=some v
 |[],_,_,_,_,h,_,_=>by simp at h
 |_::_,[],_,_,_,_,h,_=>by simp at h
 |p::P,w::vs,0,m,nd,h1,h2,hk=>by
  simp at h1 h2;subst h1;subst h2;show bindC kindOf ((p,w)::P.zip vs) m p=_;unfold bindC;rw[zOl λv hv=>(List.nodup_cons.mp nd).1 (List.of_mem_zip hv).1,if_neg hk];simp
 |p::P,w::vs,i+1,m,nd,h1,h2,hk=>by
  show bindC kindOf ((p,w)::P.zip vs) m x=_;unfold bindC;exact zgm (i:=i) (List.nodup_cons.mp nd).2 (by simpa using h1) (by simpa using h2) hk
def start(N:List yG)(vs:List V):St:=vs.map some++yg (N.length-vs.length) none
def zxt(CX:CXT)(P:yy)(w:yL)(K:yx)(mg:yG->Option yb)(base:yW)(N:List yG)(qual:yG)(scope:Xa)(f:yf)(cd:yb)(A:yR)(outer:List Env)(s:yd)(H:Hp)(E:XK):Cx where
 prog:=P
 w:=w
 K:=K
 mg:=mg
 base:=base
 A:=A.deeper (envOfC qual scope s.heap.objs.size f cd)
 N:=N
 s₀:=s
 H₀:=H
 env:=envOfC qual scope s.heap.objs.size f cd
 outer:=outer
 stack:=envOfC qual scope s.heap.objs.size f cd::outer
 ex:=[]
 calm:=true
 fn:=λ_=>true
 pn:=[]
 xe:=λe s'=>yp (yz P w) (A.deeper (envOfC qual scope s.heap.objs.size f cd)) (leaving (envOfC qual scope s.heap.objs.size f cd) e) (λ_ s''=>CX outer H s E e s'') (λe' s''=>CX outer H s E e' s'') s'
def zpn{sc:Xa}{n:Nat}{x:yG}(h:sc.names.lookup x=some .cell):∃c,(Yg n sc.names []).lookup x=some c:=by
 have q:=W.cellsFrom_some sc.names n [] (.inl h);exact Option.isSome_iff_exists.mp q
def zMq{CX:CXT}{P:yy}{w:yL}{K:yx}{mg:yG->Option yb}{base:yW}{N ps:List yG}{qual:yG}{scope:Xa}{f:yf}{cd:yb}{A:yR}{outer:List Env}{s s1:yd}{H:Hp}{E:XK}{us:List yb}{vs:List V}
 (S:tu N ps scope) (hd:A.handled=none) (e0:Env0 P w K mg base A outer s H) (hl:vs.length=ps.length) (r:Vals vs us)
 (x:InCallC s s.heap.objs.size (bindL (envOfC qual scope s.heap.objs.size f cd).kindOf (ps.zip us) λ_=>none) (Yg (s.heap.objs.size+1) scope.names []) (bindC (envOfC qual scope s.heap.objs.size f cd).kindOf (ps.zip us) λ_=>none) s1) :
 Inv (zxt CX P w K mg base N qual scope f cd A outer s H E) [] (start N vs) H s1:=by
 have hpl:ps.length<=N.length:=by have:=congrArg List.length S.pre;rw[length_take]at this;omega
 obtain⟨h1,tk,rfl,hk⟩:=x.done;have noA:∀b:yf,b∉(zxt CX P w K mg base N qual scope f cd A outer s H E).ex:=λb z=>absurd (show b∈([]:List yf) from z) (by simp)
 refine⟨⟨e0.mod,S.kind,rfl,rfl,yi _,λy z c h1 h2=>?_,λy hy=>?_,λy c _ h=>?_,λ_=>hd,Around.frames_deeper e0.frames,.inr ⟨rfl,rfl⟩,λb z=>absurd z (noA b),e0.bs,e0.bsz,λb _ _=>noA b,λb z=>absurd z (noA b),e0.TM,e0.frf⟩,
  rfl,e0.bare,Un.kept hk,⟨_,x.toInCall.ns,λi y v h1 h2 h3=>?_⟩,λy c h=>⟨_,x.cell y c h⟩,e0.hok.fresh (yi _),λy c h=>?_,λp hp=>absurd (show p∈([]:List (yf×YY)) from hp) (by simp),e0.hok.kept hk,?_⟩
 ·exact name_of_addr x.apart (yT h1) (yT h2)
 ·have hy:scope.names.lookup y=some .cell\/scope.names.lookup y=some .free:=hy;rcases hy with hy|hy
  ·exact zpn hy
  ·exact absurd rfl (S.nofree _ (yT hy))
 ·exact Ys (x.above y c (yT h))
 ·have hi:i<vs.length:=by
   unfold start at h2
   by_cases hi:i<vs.length
   ·exact hi
   ·rw[yJ (by simpa using hi)]at h2;rw[Yn]at h2
    split at h2<;>cases h2
  have ha:vs[i]?=some v:=by
   unfold start at h2;rw[yu (by simpa using hi),yj]at h2
   cases e:vs[i]? with
   |none=>rw[e]at h2;cases h2
   |some a=>rw[e]at h2;cases h2;rfl
  obtain⟨u,hu,rv⟩:=r.get ha
  have hp:ps[i]?=some y:=by
   rw[<-S.pre,List.getElem?_take_of_lt (by omega)];exact h1
  have ndP:ps.Nodup:=by rw[<-S.pre];exact S.nd.sublist (List.take_sublist _ _)
  refine⟨u,rv,?_⟩;rcases S.par y (mem_of_getElem? hp) with k|k
  ·exact .inl ⟨k,zwl ndP hp hu k⟩
  ·obtain⟨c,e⟩:=zpn (n:=s.heap.objs.size+1) k;refine .inr ⟨.inl k,c,e,?_⟩;have q:=x.cell y c e;rw[zgm ndP hp hu (by show scope.names.lookup y≠_;rw[k];decide)]at q;exact q
 ·exact e0.hok.fresh (Ys (x.above y c (yT h)))
 ·unfold start;show _=N.length;rw[length_append,length_map,length_replicate];omega
def zkx{CX:CXT}{P:yy}{w:yL}{K:yx}{mg:yG->Option yb}{base:yW}{k:Nat}{f:yf}{name qual:yG}{params:Arguments}{body:List Yp}{scope:Xa}{dV kV doc pm cdv ct oc:yb}{an od:Option yf}
 {osl:Array (Option yb)} {N ps:List yG} {sp:Sp} (lk:K.lookup f=some ⟨oc,od,.func (W.fnOf name qual params body scope dV kV doc pm an cdv ct),osl⟩) (hcd:W.codeIn K cdv qual=true) (S:tu N ps scope)
 (len:∀vs H Q E,sp vs H Q E->vs.length=ps.length)
 (hbody:∀(A:yR)(outer:List Env)(s:yd)(H:Hp)(vs:List V)(Q:VK)(E:XK),Ti k (A.deeper (envOfC qual scope s.heap.objs.size f cdv))->sp vs H Q E ->
  ∃t,PSs (zxt CX P w K mg base N qual scope f cdv A outer s H E) body t/\t {nx:=λ_ H'=>Q .non H',rt:=Q } (start N vs) H) :
 tw P w K mg base CX (k+1) f (W.fnOf name qual params body scope dV kV doc pm an cdv ct) ps sp:=by
 refine⟨len,λA outer s H args us vs Q E hr e0 hb r hsp=>?_⟩;have hl:=len _ _ _ _ hsp;have KX:K.In s.heap:=e0.mod.kin.keeps λb o e=>(e0.bs b o e).1;have lim:s.heap.NoLimit:=e0.mod.nolimit.keeps λb o e=>(e0.bs b o e).1
 have hkind:∀y∈ps.zip us,scope.names.lookup y.1=some .local\/(scope.names.lookup y.1=some .cell/\((Yg (s.heap.objs.size+1) scope.names []).lookup y.1).isSome=true):=λ⟨n,v⟩ hy=>by
  rcases S.par n (List.of_mem_zip hy).1 with q|q
  ·exact .inl q
  ·exact .inr ⟨q,W.cellsFrom_some _ _ _ (.inl q)⟩
 refine codeAny_call_function hr.depth (KX _ _ lk) rfl S.co S.gen rfl (W.codeRec_of KX hcd) (hb _ _ _ _ ?_);refine wpAny_newFunctionEnv_cells S.kind hkind λenv he s1 x=>?_;subst he;refine⟨lim.keeps x.toInCall.keep,codeAny_func ?_⟩;obtain⟨t,ht,hq⟩:=hbody A outer s H vs Q E (hr.deeper _) hsp;have I:Inv (zxt CX P w K mg base N qual scope f cdv A outer s H E) [] (start N vs) H s1:=zMq S hr.hd e0 hl r x;refine YZ (ht [] s1 (start N vs) H _ I hq) (λfl s' hs=>?_) λe s' hs=>hs
 have fin:∀{Y':St} {H':Hp} {v:V} {u:yb},Inv (zxt CX P w K mg base N qual scope f cdv A outer s H E) [] Y' H' s'->RelV v u->Q v H'->CE outer P w H s Q u s' :=
  λ{Y' H' v u} δ rv q=>⟨v,H',δ.os,δ.bare,δ.base,δ.hok,rv,q⟩
 cases fl with
 |ret u=>
  obtain⟨v,Y',H',δ,rv,q⟩:=hs;exact fin δ rv q
 |next=>
  obtain⟨Y',H',δ,q⟩:=hs;exact fin (v:=V.non) (u:=YT) δ rfl q
 |brk=>
  obtain⟨_,_,_,q⟩:=hs;exact xI q
 |cont=>
  obtain⟨_,_,_,q⟩:=hs;exact xI q
section
variable {X:Cx}{x:yG}{p pos:xU}{e:yC}{es:List yC}{t:TA}{id T:String}{r:List V->Hp->VK->Prop}
def tCB(r:List V->Hp->VK->Prop)(t:TA):TE:=λY H Q=>t Y H λvs H1=>r vs H1 Q
def zEn(hc:zmh X (.builtin id) r)(hg:Gl X x)(hm:X.mg x=none)(hv:yH x=some (.builtin id))(ha:PA X (e::es) t)(hn:x≠"__name__":=by decide)(hdb:(x==("__debug__":yG))=false:=by decide)
 (he:yw (e::es) X.env=(false,Yq e X.env)::yw es X.env:=by rfl) (hpl:(xn pos (yw es X.env)).any (·.1)=false:=by rfl):PE X (.Call (.Name x p) (e::es) [] pos) (tCB r t):=by
 intro pins s Y H Q I h;refine xK (zvi I hg hm hv ?_ hn hdb);exact PyProof.Rows.callWith_builtin1 (thn (ha pos pins s Y H _ I h) λus s1 ⟨vs,H1,I1,r1,q1⟩=>hc pins s1 Y H1 vs us Q I1 r1 q1) he hpl
def zxf(hc:zmh X (.type T) r)(hg:Gl X x)(hm:X.mg x=none)(hv:yH x=some (.type T))(ha:PA X (e::es) t)(hn:x≠"__name__":=by decide)(hdb:(x==("__debug__":yG))=false:=by decide)
 (he:yw (e::es) X.env=(false,Yq e X.env)::yw es X.env:=by rfl) (hpl:(xn pos (yw es X.env)).any (·.1)=false:=by rfl):PE X (.Call (.Name x p) (e::es) [] pos) (tCB r t):=by
 intro pins s Y H Q I h;refine xK (zvi I hg hm hv ?_ hn hdb);exact Yy (thn (ha pos pins s Y H _ I h) λus s1 ⟨vs,H1,I1,r1,q1⟩=>hc pins s1 Y H1 vs us Q I1 r1 q1) he hpl
end
end L2
namespace HT
open PySem PyProof.Rows
section
open PySem.SeqAt
open PySem.AutoSeq1 (wpAny_loadPart')
open PySem.MeetsSeq PySem.MeetsSeq2 PySem.MeetsSeq3
end
section
variable {prog:yy}{w:yL}{A:yR}{E:yb->yd->Prop}{s:yd}
def cat_tup{t b:yf}{vs ws:List yb}{Q:yb->yd->Prop}(ht:IsTup s.heap t vs.toArray)(hb:IsTup s.heap b ws.toArray)(hv:vs≠[])
 (h1:ws=[]->Q (.ref t) s) (h2:ws≠[]->Q (.ref s.heap.objs.size) {s with heap:=s.heap.push {cls:=.type "tuple",data:=.seq (vs++ws).toArray }})
 (hsz:vs.length+ws.length<=yF):yp (yz prog w) A (xD .Add (.ref t) (.ref b)) Q E s:=by
 obtain⟨⟨cls,dd,data,sl⟩,ho,hc,n,hd⟩:=id ht;obtain⟨⟨cls2,dd2,data2,sl2⟩,ho2,hc2,n2,hd2⟩:=id hb;simp only at hc hd hc2 hd2;subst hc hd hc2 hd2;have e:vs.toArray++ws.toArray=(vs++ws).toArray:=by simp
 by_cases hw:ws=[]
 ·exact concat_meets ⟨_,ho,rfl⟩ ⟨_,ho2,rfl⟩ noFill_tuple_add seq_tuple_add PySem.F.slot_tuple_add PySem.F.entry_tuple_add (PySem.F.args_tuple_add_2 _ _)
   (tuple_addW1 t b vs.toArray ws.toArray n n2 dd dd2 sl sl2 (by simpa using hv) (by simp[hw])) ⟨ho,ho2,h1 hw⟩
 ·refine concat_meets ⟨_,ho,rfl⟩ ⟨_,ho2,rfl⟩ noFill_tuple_add seq_tuple_add PySem.F.slot_tuple_add PySem.F.entry_tuple_add (PySem.F.args_tuple_add_2 _ _)
   (tuple_addW2 t b vs.toArray ws.toArray n n2 dd dd2 sl sl2 (by simpa using hv) (by simpa using hw) (by rw[size_toArray,size_toArray];exact hsz)) ⟨ho,ho2,?_⟩
  rw[e];exact h2 hw
def sIx(n d:Nat):Option Int->Nat
 |none=>d
 |some v=>if v<0 then(v+(n:Int)).toNat else min v.toNat n
def sF(n d:Nat):sIx n d none=d:=rfl
def sQ(n d k:Nat):sIx n d (some (k:Int))=min k n:=by
 show(if(k:Int)<0 then((k:Int)+(n:Int)).toNat else min (k:Int).toNat n)=min k n;rw[if_neg (by omega),yX]
def zmv(n d:Nat)(hd:d<=n)(o:Option Int):sIx n d o<=n:=by
 cases o with
 |none=>exact hd
 |some v=>
  show(if v<0 then(v+(n:Int)).toNat else min v.toNat n)<=n
  by_cases hv:v<0
  ·rw[if_pos hv];omega
  ·rw[if_neg hv];exact Nat.min_le_right _ _
def zup(v:Int)(n d:Nat):(if v<0 then max (v+(n:Int)) 0 else min v (n:Int))=((sIx n d (some v):Nat):Int):=by
 show(if v<0 then max (v+(n:Int)) 0 else min v (n:Int))=(((if v<0 then(v+(n:Int)).toNat else min v.toNat n):Nat):Int)
 by_cases hv:v<0
 ·simp only[if_pos hv];omega
 ·simp only[if_neg hv];omega
def zMo(lo hi:Option Int)(n:Nat):Builtin.Slice.sliceAdjust lo hi 1 (n:Int)=(((sIx n 0 lo:Nat):Int),((sIx n n hi:Nat):Int)):=by
 have h1:¬((1:Int)<0):=by omega
 unfold Builtin.Slice.sliceAdjust;simp only[h1,if_false];refine Prod.ext ?_ ?_
 ·cases lo with
  |none=>rfl
  |some v=>exact zup v n 0
 ·cases hi with
  |none=>rfl
  |some v=>exact zup v n n
def zPo(i j:Nat):xp (i:Int) (j:Int) 1=j-i:=by
 unfold xp;have h1:(1:Int)>0:=by omega
 simp only[h1,if_true,Int.ediv_one]
 split<;>omega
def zRj{v:yb}{o:Option Int}{Q:Option Int->yd->Prop}(p:IsPart v o)(h:Q o s):yp (yz prog w) A (Builtin.Slice.slicePartIndex v) Q E s:=by
 cases p with
 |none=>exact slicePart_none h
 |int i t=>exact slicePart_int h
def Tj{sl:yf}{vl vu:yb}{lo hi:Option Int}{n:Nat}{Q:Int×Int×Nat->yd->Prop}(hs:s.heap.IsSliceOf sl vl vu .none)(pl:IsPart vl lo)(pu:IsPart vu hi)
 (h:Q (((sIx n 0 lo:Nat):Int),1,sIx n n hi-sIx n 0 lo) s):yp (yz prog w) A (Builtin.Slice.sliceApplied (.ref sl) (pure (n:Int))) Q E s:=by
 obtain⟨os,hos,hcs,hds⟩:=id hs;unfold Builtin.Slice.sliceApplied Builtin.Slice.sliceFields;refine ya (ya (Yd hos hds (x:=vl) rfl (ya (Yd hos hds (x:=vu) rfl (ya (Yd hos hds (x:=.none) rfl (ye ?_)))))));refine ya (slicePart_none ?_);show yp _ _ (if((1:Int)==0)=true then _ else _) _ _ s;rw[if_neg (by decide)];refine ya (zRj pl (ya (zRj pu (ya (ye ?_)))));show yp _ _ (match Builtin.Slice.sliceAdjust lo hi 1 (n:Int) with|(lo,hi)=>pure (lo,(1:Int),xp lo hi 1)) _ _ s;rw[zMo lo hi n];show yp _ _ (pure (((sIx n 0 lo:Nat):Int),(1:Int),xp ((sIx n 0 lo:Nat):Int) ((sIx n n hi:Nat):Int) 1)) _ _ s;rw[zPo];exact ye h
def zrr(xs:Array yb)(i k:Nat):((yh k).filterMap λ(m:Nat)=>xs[((i:Int)+(m:Int)*1).toNat]?).toArray=((xs.toList.drop i).take k).toArray:=by
 have e:(λ(m:Nat)=>xs[((i:Int)+(m:Int)*1).toNat]?)=λm=>xs[i+m]?:=by
  funext m
  have:((i:Int)+(m:Int)*1).toNat=i+m:=by omega
  rw[this]
 rw[e];have:=pick_run xs i k;rw[List.filterMap_map]at this;have e2:((λx=>xs[x]?)∘λx=>i+x)=λm=>xs[i+m]?:=rfl;rw[e2]at this;rw[this]
def TC{t sl:yf}{items:Array yb}{vl vu:yb}{lo hi:Option Int}{Q:yb->yd->Prop}(ht:IsTup s.heap t items)(hs:s.heap.IsSliceOf sl vl vu .none)(pl:IsPart vl lo)(pu:IsPart vu hi)
 (hw:¬(sIx items.size 0 lo=0/\sIx items.size items.size hi=items.size))
 (h:Q (.ref s.heap.objs.size) {s with heap:=s.heap.push {cls:=.type "tuple",data:=.seq ((items.toList.drop (sIx items.size 0 lo)).take (sIx items.size items.size hi-sIx items.size 0 lo)).toArray }})
 (hsz:items.size<=yF):yp (yz prog w) A (getItem (.ref t) (.ref sl)) Q E s:=by
 have htake:sizeOk (.seq ((items.toList.drop (sIx items.size 0 lo)).take (sIx items.size items.size hi-sIx items.size 0 lo)).toArray):=by
  show((items.toList.drop (sIx items.size 0 lo)).take (sIx items.size items.size hi-sIx items.size 0 lo)).toArray.size<=yF;rw[size_toArray,length_take,List.length_drop,Array.length_toList];omega
 have hj:sIx items.size items.size hi<=items.size:=zmv _ _ (yi _) hi;obtain⟨os,hos,hcs,hds⟩:=id hs;have hTs:s.TypeIs (.ref sl) "slice":=⟨os,hos,hcs⟩
 unfold getItem
 try with_reducible refine yU ?_
 first|refine ya (ye ?_)|skip
 refine ya (wpAny_sequenceKey ht.typeIs (by decide) ?_)
 refine ya (yQ (name:=YA "__getitem__") ht.typeIs YS
  (yM YS ht.typeIs entry_tuple_getitem ?_ (args_tuple_getitem _ _)))
 show yp _ _ (Builtin.Tuple.tupleItemsOf (.ref t) >>= _) _ _ s;refine ya (tupleItemsOf_ ht ?_);refine ya (Xf hTs ?_);rw[if_pos (by decide)];refine ya (Tj hs pl pu ?_)
 have hno:¬((((sIx items.size 0 lo:Nat):Int)==0&&(1:Int)==1&&(sIx items.size items.size hi-sIx items.size 0 lo)==items.size)=true):=by
  intro q;rw[yN,yN]at q;have q1:((sIx items.size 0 lo:Nat):Int)=0:=eq_of_beq q.1.1;have q2:sIx items.size items.size hi-sIx items.size 0 lo=items.size:=eq_of_beq q.2;exact hw ⟨by omega,by omega⟩
 show yp _ _ (if(((sIx items.size 0 lo:Nat):Int)==0&&(1:Int)==1&&(sIx items.size items.size hi-sIx items.size 0 lo)==items.size)=true then _ else _) _ _ s;rw[if_neg hno,zrr]
 first
  |exact ya (m:=YV _) (yS (ye ⟨_,rfl,ye h⟩) htake)
  |exact ya (m:=YV _) (yS (ya (ye (ye ⟨_,rfl,ye h⟩))) htake)
  |exact ya (ya (m:=YV _) (yS (ye (ye ⟨_,rfl,ye h⟩)) htake))
  |exact ya (ya (m:=YV _) (yS (ye ⟨_,rfl,ye h⟩) htake))
end
end HT
namespace L2
open PySem PySem.Spec PyProof.Rows
abbrev TO:=St->Hp->(Option Int->Hp->Prop)->Prop
def PO(X:Cx)(e:Option yC)(t:TO):Prop :=
 ∀(pins:List (yf×YY)) (s:yd) (Y:St) (H:Hp) (Q:Option Int->Hp->Prop),Inv X pins Y H s->t Y H Q ->
  yp (yz X.prog X.w) X.A (evalPart e X.env) (λu s'=>∃o H',Inv X pins Y H' s'/\IsPart u o/\Q o H') X.xe s
def zau:TO:=λ_ H Q=>Q none H
def zPw(t:TE):TO:=λY H Q=>t Y H λx H1=>∃i,x=.int i/\Q (some i) H1
def zWe{ns:List Int}:∀{us:List yb},Vals (ns.map V.int) us->IntsAre us ns:=by
 induction ns with
 |nil=>intro us r;rw[map_nil]at r;cases r;exact .nil
 |cons n ns ih=>
  intro us r;rw[map_cons]at r
  cases r with
  |cons r1 r2=>
   obtain⟨t,e⟩:=r1;subst e;exact .cons n t (ih r2)
section
variable {X:Cx}{e:yC}{te:TE}{lo hi:Option yC}{tl th:TO}{pos p2:xU}
def zju:PO X none zau:=by
 intro pins s Y H Q I h;rw[evalPart_none];exact ye ⟨none,H,I,.none,h⟩
def zyt(h:PE X e te):PO X (some e) (zPw te):=by
 intro pins s Y H Q I hw;rw[evalPart_some];refine thn (h pins s Y H _ I hw) λu s1 ⟨x,H1,I1,r1,q1⟩=>?_;obtain⟨i,rfl,q⟩:=q1;obtain⟨t,rfl⟩:=r1;exact⟨some i,H1,I1,.int i t,q⟩
def SlR(X:Cx)(r:V->Option Int->Option Int->Hp->VK->Prop):Prop :=
 ∀(pins:List (yf×YY)) (s:yd) (Y:St) (H:Hp) (x:V) (v vl vu:yb) (lo hi:Option Int) (sl:yf) (Q:VK),Inv X pins Y H s->RelV x v->s.heap.IsSliceOf sl vl vu .none->IsPart vl lo->IsPart vu hi->r x lo hi H Q ->
  ∃T id,typeLookup (.type T) "__getitem__"=pure (some (.builtin id))/\s.TypeIs v T/\yp (yz X.prog X.w) X.A (getItem v (.ref sl)) (EP X pins Y Q) X.xe s
def SlR.or{r r':V->Option Int->Option Int->Hp->VK->Prop}(h:SlR X r)(h':SlR X r'):SlR X (λx lo hi H Q=>r x lo hi H Q\/r' x lo hi H Q):=by
 intro pins s Y H x v vl vu lo hi sl Q I rx hs pl pu q;rcases q with q|q
 ·exact h pins s Y H x v vl vu lo hi sl Q I rx hs pl pu q
 ·exact h' pins s Y H x v vl vu lo hi sl Q I rx hs pl pu q
def tSl(r:V->Option Int->Option Int->Hp->VK->Prop)(te:TE)(tl th:TO):TE:=λY H Q=>te Y H λx H1=>tl Y H1 λl H2=>th Y H2 λu H3=>r x l u H3 Q
def zBr{r:V->Option Int->Option Int->Hp->VK->Prop}(hr:SlR X r)(he:PE X e te)(hl:PO X lo tl)(hu:PO X hi th):PE X (.Subscript e (.Slice lo hi none p2) pos) (tSl r te tl th):=by
 intro pins s Y H Q I h;refine Subscript_ (thn (he pins s Y H _ I h) λv s1 ⟨x,H1,I1,r1,q1⟩=>?_);refine wpAny_Slice (thn (hl pins s1 Y H1 _ I1 q1) λvl s2 ⟨l,H2,I2,pl,q2⟩=>thn (hu pins s2 Y H2 _ I2 q2) λvu s3 ⟨u,H3,I3,pu,q3⟩=>?_);rw[evalPart_none];refine ye ?_;have I4:Inv X pins Y H3 {s3 with heap:=s3.heap.push {cls:=.type "slice",data:=.fields #[vl,vu,.none]}}:=I3.kept (t':=s3.toks) λb ob q=>yc _ q;obtain⟨T,id,hT,ht,hg⟩:=hr pins {s3 with heap:=s3.heap.push {cls:=.type "slice",data:=.fields #[vl,vu,.none]}} Y H3 x v vl vu l u s3.heap.objs.size Q I4 r1 (Heap.IsSliceOf.new ..) pl pu q3;show yp (yz X.prog X.w) X.A (subscriptTail e (.Slice lo hi none p2) v (.ref s3.heap.objs.size)) (EP X pins Y Q) X.xe {s3 with heap:=s3.heap.push {cls:=.type "slice",data:=.fields #[vl,vu,.none]}};exact tail_any (ops:=[.ref s3.heap.objs.size,v]) ht hT hg (by with_unfolding_all rfl)
def zlq(xs:List V)(lo hi:Option Int):List V:=(xs.drop (HT.sIx xs.length 0 lo)).take (HT.sIx xs.length xs.length hi-HT.sIx xs.length 0 lo)
def zfi(xs:List V)(lo hi:Option Int):(zlq xs lo hi).length<=xs.length:=by
 unfold zlq;rw[length_take,List.length_drop];omega
def zRx(K:yx):V->Option Int->Option Int->Hp->VK->Prop:=λx lo hi H Q=>∃a xs,x=.ref a/\SqT K H a xs /\
 ¬(HT.sIx xs.length 0 lo=0/\HT.sIx xs.length xs.length hi=xs.length)/\∀p,H p=none->Q (.ref p) (upd H p (.tup (zlq xs lo hi)))
def z3v:SlR X (zRx X.K):=by
 intro pins s Y H x v vl vu lo hi sl Q I rx hs pl pu h;obtain⟨a,xs,rfl,hx,hw,q⟩:=h;cases rx;obtain⟨its,r,ht,hz⟩:=I.tuple hx;have hlen:its.toArray.size=xs.length:=by rw[size_toArray];exact r.length.symm
 refine⟨"tuple",_,PyProof.Rows.slot_tuple_getitem.lookup,ht.typeIs,?_⟩;refine HT.TC ht hs pl pu (by rw[hlen];exact hw) ?_ (by rw[hlen];exact hz);rw[hlen];refine⟨.ref s.heap.objs.size,_,I.laid (t':=s.toks) (o:=.tup (zlq xs lo hi)) (λb ob q=>yc _ q) (yi _) ?_,rfl,q _ (I.hok.fresh (yi _))⟩;exact⟨yB (zfi xs lo hi) hz,_,(r.drop (HT.sIx xs.length 0 lo)).take (HT.sIx xs.length xs.length hi-HT.sIx xs.length 0 lo),IsTup.new _ _⟩
def z7w(K:yx):R2:=λx y H Q=>∃a b xs ys,x=.ref a/\y=.ref b/\SqT K H a xs/\SqT K H b ys/\xs≠[]/\xs.length+ys.length<=yF /\
 (ys=[]->Q (.ref a) H)/\(ys≠[]->∀p,H p=none->Q (.ref p) (upd H p (.tup (xs++ys))))
def Vals.TL{xs:List V}{us:List yb}(r:Vals xs us):us=[]↔xs=[]:=by
 cases r with
 |nil=>simp
 |cons _ _=>simp
def zuu:OpR X (xD .Add) (z7w X.K):=by
 intro pins s Y H x y v u Q I rx ry h;obtain⟨a,b,xs,ys,rfl,rfl,ha,hb,hx,hz,q1,q2⟩:=h;cases rx;cases ry;obtain⟨its,r1,p1,_⟩:=I.tuple ha;obtain⟨its2,r2,p2,_⟩:=I.tuple hb;refine HT.cat_tup p1 p2 (λz=>hx (r1.TL.mp z)) (λz=>⟨.ref a,H,I,rfl,q1 (r2.TL.mp z)⟩) (λz=>?_) (by rw[<-r1.length,<-r2.length];exact hz);refine⟨.ref s.heap.objs.size,_,I.laid (t':=s.toks) (o:=.tup (xs++ys)) (λb ob q=>yc _ q) (yi _) ?_,rfl,q2 (λw=>z (r2.TL.mpr w)) _ (I.hok.fresh (yi _))⟩;exact⟨by rw[length_append];exact hz,_,r1.append r2,IsTup.new _ _⟩
end
def ixN(n:Nat)(i:Int):Option Nat:=if 0<=i then(if i<n then some i.toNat else none) else if -(n:Int)<=i then some (i+n).toNat else none
def atI{α:Type}(xs:List α)(i:Int):Option α:=(ixN xs.length i).bind λj=>xs[j]?
def zgq{n:Nat}{i:Int}{j:Nat}(h:ixN n i=some j):seqIndex? i n=some j/\j<n/\-(n:Int)<=i/\i<n:=by
 unfold ixN at h
 by_cases h0:0<=i
 ·rw[if_pos h0]at h
  by_cases h1:i<n
  ·rw[if_pos h1]at h;have e:i.toNat=j:=yY h;exact⟨by rw[seqIndex_of h0 h1,e],by omega,by omega,h1⟩
  ·rw[if_neg h1]at h;cases h
 ·rw[if_neg h0]at h
  by_cases h1:-(n:Int)<=i
  ·rw[if_pos h1]at h;have e:(i+n).toNat=j:=yY h;exact⟨by rw[seqIndex_neg (by omega) h1,e],by omega,h1,by omega⟩
  ·rw[if_neg h1]at h;cases h
def zOm{α:Type}{xs:List α}{i:Int}{v:α}(h:atI xs i=some v):∃j,seqIndex? i xs.length=some j/\xs[j]?=some v/\j<xs.length/\-(xs.length:Int)<=i/\i<xs.length:=by
 unfold atI at h
 cases e:ixN xs.length i with
 |none=>rw[e]at h;cases h
 |some j=>
  rw[e]at h;obtain⟨h1,h2,h3,h4⟩:=zgq e;exact⟨j,h1,h,h2,h3,h4⟩
def zyc{α:Type}{xs:List α}{j:Nat}{v:α}(h:xs[j]?=some v):atI xs (j:Int)=some v:=by
 have hj:j<xs.length:=(List.getElem?_eq_some_iff.mp h).1
 have e:ixN xs.length (j:Int)=some j:=by
  unfold ixN;rw[if_pos (by omega),if_pos (by omega)];simp
 unfold atI;rw[e];exact h
def zBk(b:yC):Prop:=∀o i,subscripted b false o i=operate [o,i] (getItem o i)
def IxR(X:Cx)(r:R2):Prop :=
 ∀(value slice:yC)(pins:List (yf×YY)) (s:yd) (Y:St) (H:Hp) (x y:V) (v u:yb) (Q:VK),Inv X pins Y H s->RelV x v->RelV y u->r x y H Q ->
  subscripted slice false v u=operate [v,u] (getItem v u)->yp (yz X.prog X.w) X.A (subscriptTail value slice v u) (EP X pins Y Q) X.xe s
def MtR(X:Cx)(id:String)(r:V->List V->Hp->VK->Prop):Prop :=
 ∀(pins:List (yf×YY)) (s:yd) (Y:St) (H:Hp) (x:V) (xs:List V) (v:yb) (us:List yb) (Q:VK),Inv X pins Y H s->RelV x v->Vals xs us->r x xs H Q ->
  yp (yz X.prog X.w) X.A (call (.builtin id) (v::us)) (EP X pins Y Q) X.xe s
section
variable {X:Cx}{a b:yC}{ta tb:TE}{pos:xU}
def IxR.or{r r':R2}(h:IxR X r)(h':IxR X r'):IxR X (λx y H Q=>r x y H Q\/r' x y H Q):=by
 intro value slice pins s Y H x y v u Q I rx ry q hs;rcases q with q|q
 ·exact h value slice pins s Y H x y v u Q I rx ry q hs
 ·exact h' value slice pins s Y H x y v u Q I rx ry q hs
def zzt{r:R2}(hr:IxR X r)(ha:PE X a ta)(hb:PE X b tb)(hs:zBk b):PE X (.Subscript a b pos) (tOp r ta tb):=by
 intro pins s Y H Q I h;exact Subscript_ (binT ha hb I h λv u s2 x y H2 I2 rx ry q=>hr a b pins s2 Y H2 x y v u Q I2 rx ry q (hs _ _))
def zyx(K:yx):R2:=λx y H Q=>∃p xs i v,x=.ref p/\y=.int i/\SqL K H p xs/\atI xs i=some v/\Q v H
def zwx(K:yx):R2:=λx y H Q=>∃p xs i v,x=.ref p/\y=.int i/\SqT K H p xs/\atI xs i=some v/\Q v H
def zBx:R2:=λx y H Q=>∃z i c,x=.str z/\y=.int i/\z.length<=yF/\atI z.cps.toList i=some c/\Q (.str ⟨#[c]⟩) H
def ix_list:IxR X (zyx X.K):=by
 intro value slice pins s Y H x y v u Q I rx ry h hs;obtain⟨p,xs,i,z,rfl,rfl,hq,he,q⟩:=h;cases rx;obtain⟨t,rfl⟩:=ry;obtain⟨its,r,pl,hz⟩:=I.list hq;obtain⟨j,h1,h2,h3,h4,h5⟩:=zOm he;obtain⟨w,ew,rw'⟩:=r.get h2;have hl:=r.length;have hn:=TQ;have fin:EP X pins Y Q w s:=⟨z,H,I,rw',q⟩
 by_cases h0:0<=i
 ·have hj:i.toNat=j:=by
   rw[seqIndex_of h0 h5]at h1;exact yY h1
  exact item_listR pl.isList h0 (by omega) (by rw[hj];simpa using ew) fin hs
 ·have hj:(i+(its.toArray.size:Int)).toNat=j:=by
   rw[seqIndex_neg (by omega) h4]at h1;rw[size_toArray,<-hl];exact yY h1
  exact subscriptTail_builtinR (x:=w) pl.isList.typeIs slot_list_getitem.lookup
   (wpAny_getItem_list_neg (Q:=λr s'=>r=w/\EP X pins Y Q r s') pl.isList (by omega) (by rw[size_toArray]<;>omega) (by omega) (by rw[hj];simpa using ew) ⟨rfl,fin⟩) hs
def ix_tup:IxR X (zwx X.K):=by
 intro value slice pins s Y H x y v u Q I rx ry h hs;obtain⟨p,xs,i,z,rfl,rfl,hq,he,q⟩:=h;cases rx;obtain⟨t,rfl⟩:=ry;obtain⟨its,r,pl,hz⟩:=I.tuple hq;obtain⟨j,h1,h2,h3,h4,h5⟩:=zOm he;obtain⟨w,ew,rw'⟩:=r.get h2;have hl:=r.length;have hn:=TQ;have fin:EP X pins Y Q w s:=⟨z,H,I,rw',q⟩
 exact subscriptTail_builtinR (x:=w) pl.typeIs slot_tuple_getitem.lookup
  (getItem_tuple (j:=j) (Q:=λr s'=>r=w/\EP X pins Y Q r s') pl (by omega) (by omega) (by rw[size_toArray,<-hl];exact h1) (by simpa using ew) ⟨rfl,fin⟩) hs
def z4v:IxR X zBx:=by
 intro value slice pins s Y H x y v u Q I rx ry h hs;obtain⟨z,i,c,rfl,rfl,hz,he,q⟩:=h;obtain⟨t,rfl⟩:=rx;obtain⟨t',rfl⟩:=ry;obtain⟨j,h1,h2,h3,h4,h5⟩:=zOm he;have hl:z.cps.toList.length=z.length:=by simp[Str.length]
 rw[hl]at h1 h4 h5;have hn:=TQ
 exact tail_any (typeIs_str s z t) slot_str_getitem.lookup (getItem_str (c:=c) (by
  have e1:decide (i < -(2^63:Int))=false:=decide_eq_false (by omega);have e2:decide (i≥2^63)=false:=decide_eq_false (by omega);rw[e1,e2,Bool.or_false]) (by rw[h1];simpa using h2) ⟨.str ⟨#[c]⟩,H,I.tok _,⟨_,rfl⟩,q⟩) hs
def rIx(K:yx):R2:=λx y H Q=>zyx K x y H Q\/zwx K x y H Q\/zBx x y H Q
def zLs:IxR X (rIx X.K):=ix_list.or (ix_tup.or z4v)
def zDo(its:List yb)(n j:Nat)(u:yb):xL (·.setIfInBounds j u) {cls:=.type "list",data:=.seq its.toArray n } = {cls:=.type "list",data:=.seq (its.set j u).toArray n }:=by
 simp[xL]
def Inv.lst{pins:List (yf×YY)}{Y:St}{H:Hp}{s:yd}{p:yf}{xs:List V}(I:Inv X pins Y H s)(h:H p=some (.lst xs)) :
 ∃(its:List yb)(n:Nat),Vals xs its/\s.heap.get? p=some {cls:=.type "list",data:=.seq its.toArray n }/\xs.length<=yF:=by
 obtain⟨z,its,n,r,e⟩:=I.hok p _ h;exact⟨its,n,r,e,z⟩
def Inv.lstUpd{pins:List (yf×YY)}{Y:St}{H:Hp}{s:yd}{p:yf}{xs ys:List V}{its its':List yb}{n n':Nat}{f:YY->YY}(I:Inv X pins Y H s)(h:H p=some (.lst xs))
 (ho:s.heap.get? p=some {cls:=.type "list",data:=.seq its.toArray n }) (hf:f {cls:=.type "list",data:=.seq its.toArray n } = {cls:=.type "list",data:=.seq its'.toArray n' }) (r:Vals ys its') (hz:ys.length<=yF) (t:Nat) :
 Inv X pins Y (upd H p (.lst ys)) {s with heap:=s.heap.update p f,toks:=t }:=by
 have e:(s.heap.update p f).get? p=some {cls:=.type "list",data:=.seq its'.toArray n' }:=by
  rw[Yc f ho (by rw[hf]<;>rfl),hf]
 refine I.write (x:=p) (e:=p) (by rw[h];trivial) (.inl rfl) (λb u hb q=>(xc _ _ (yE hb)).trans q) ⟨_,e⟩ ?_;exact⟨hz,its',n',r,e⟩
def zYw:V->V->V->Hp->(Hp->Prop)->Prop:=λo i v H Q=>∃p xs k j,o=.ref p/\i=.int k/\H p=some (.lst xs)/\ixN xs.length k=some j/\Q (upd H p (.lst (xs.set j v)))
def zqs:z9w X zYw:=by
 intro pins s Y H o i v ov iv u Q I ro ri rv h;obtain⟨p,xs,k,j,rfl,rfl,hp,hj,q⟩:=h;cases ro;obtain⟨t,rfl⟩:=ri;obtain⟨its,n,r,ho,hz⟩:=I.lst hp;obtain⟨h1,h2,h3,h4⟩:=zgq hj;have hl:=r.length;have hn:=TQ
 have I':Inv X pins Y (upd H p (.lst (xs.set j v))) {s with heap:=s.heap.update p (xL (·.setIfInBounds j u))} :=
  I.lstUpd hp ho (zDo its n j u) (r.set rv j) (by rw[List.length_set];exact hz) s.toks
 by_cases h0:0<=k
 ·have hk:k.toNat=j:=by
   rw[seqIndex_of h0 h4]at h1;exact yY h1
  exact W.ki_setAt ho h0 (by omega) (by rw[size_toArray,<-hl];exact h4) (by rw[hk];exact⟨_,I',q⟩)
 ·have hk:(k+(its.toArray.size:Int)).toNat=j:=by
   rw[seqIndex_neg (by omega) h3]at h1;rw[size_toArray,<-hl];exact yY h1
  exact W.ki_setBack ho (by omega) (by rw[size_toArray,<-hl];exact h3) (by omega) (by rw[hk];exact⟨_,I',q⟩)
def zKl(lo hi:Option Int)(n:Nat):(sliceBounds lo hi none n).1=((HT.sIx n 0 lo:Nat):Int)/\(sliceBounds lo hi none n).2.1=((HT.sIx n n hi:Nat):Int)/\(sliceBounds lo hi none n).2.2=1:=by
 refine⟨?_,?_,rfl⟩
 ·cases lo with
  |none=>simp[sliceBounds,HT.sIx]
  |some i=>
   simp only[sliceBounds,HT.sIx,Option.getD_none,show(1:Int)>0 by decide,if_true]
   by_cases h:i<0
   ·simp only[h,if_true]<;>omega
   ·simp only[h,if_false]<;>omega
 ·cases hi with
  |none=>simp[sliceBounds,HT.sIx]
  |some i=>
   simp only[sliceBounds,HT.sIx,Option.getD_none,show(1:Int)>0 by decide,if_true]
   by_cases h:i<0
   ·simp only[h,if_true]<;>omega
   ·simp only[h,if_false]<;>omega
def zIk(its:List yb)(lo hi:Option Int):slicePick its.toArray lo hi none=((its.drop (HT.sIx its.length 0 lo)).take (HT.sIx its.length its.length hi-HT.sIx its.length 0 lo)).toArray:=by
 obtain⟨h1,h2,h3⟩:=zKl lo hi its.toArray.size;unfold slicePick;rw[h1,h2,h3];simp only[sliceRange_one,pick_run,size_toArray]<;>rfl
def zOx(K:yx):V->Option Int->Option Int->Hp->VK->Prop:=λx lo hi H Q=>∃a xs,x=.ref a/\SqL K H a xs/\∀p,H p=none->Q (.ref p) (upd H p (.lst (zlq xs lo hi)))
def zKt:SlR X (zOx X.K):=by
 intro pins s Y H x v vl vu lo hi sl Q I rx hs pl pu h;obtain⟨a,xs,rfl,hx,q⟩:=h;cases rx;obtain⟨its,r,ht,hz⟩:=I.list hx;have hlen:=r.length;refine⟨"list",_,slot_list_getitem.lookup,ht.isList.typeIs,?_⟩;refine wpAny_getItem_list_slice ht.isList hs pl pu .none (by simp) ?_ (by rw[size_toArray]<;>omega);rw[zIk,<-hlen];refine⟨.ref s.heap.objs.size,_,I.laid (t':=s.toks) (o:=.lst (zlq xs lo hi)) (λb ob q=>yc _ q) (yi _) ?_,rfl,q _ (I.hok.fresh (yi _))⟩;exact⟨yB (zfi xs lo hi) hz,_,0,(r.drop (HT.sIx xs.length 0 lo)).take (HT.sIx xs.length xs.length hi-HT.sIx xs.length 0 lo),yk _ rfl⟩
def zWi:V->Bool
 |.non=>true
 |.bl _=>true
 |.int _=>true
 |.str _=>true
 |_=>false
def eqV:V->V->Bool
 |.non,.non=>true
 |.bl a,.bl b=>a==b
 |.bl a,.int b=>(if a then 1 else 0)==b
 |.int a,.bl b=>a==(if b then 1 else 0)
 |.int a,.int b=>a==b
 |.str a,.str b=>a==b
 |_,_=>false
def zvv{A:yR}{s:yd}{y x:V}{u v:yb}(ry:RelV y u)(rx:RelV x v)(fy:zWi y=true)(fx:zWi x=true):SeqAt.EqAt A s u v (eqV y x):=by
 cases y with
 |non=>
  cases ry
  cases x with
  |non=>cases rx;exact SeqAt.EqAt.same _
  |bl b=>cases rx;exact SeqAt.EqAt.none_bool b
  |int b=>obtain⟨t,rfl⟩:=rx;exact SeqAt.EqAt.none_int b t
  |str b=>obtain⟨t,rfl⟩:=rx;exact SeqAt.EqAt.none_str b t
  |_=>exact absurd (show false=true from fx) yv
 |bl a=>
  cases ry
  cases x with
  |non=>cases rx;exact SeqAt.EqAt.bool_none a
  |bl b=>cases rx;exact SeqAt.EqAt.bool_bool a b
  |int b=>obtain⟨t,rfl⟩:=rx;exact SeqAt.EqAt.bool_int a b t
  |str b=>obtain⟨t,rfl⟩:=rx;exact SeqAt.EqAt.bool_str a b t
  |_=>exact absurd (show false=true from fx) yv
 |int a=>
  obtain⟨t',rfl⟩:=ry
  cases x with
  |non=>cases rx;exact SeqAt.EqAt.int_none a t'
  |bl b=>cases rx;exact SeqAt.EqAt.int_bool a t' b
  |int b=>obtain⟨t,rfl⟩:=rx;exact SeqAt.EqAt.int_int a t' b t
  |str b=>obtain⟨t,rfl⟩:=rx;exact SeqAt.EqAt.int_str a t' b t
  |_=>exact absurd (show false=true from fx) yv
 |str a=>
  obtain⟨t',rfl⟩:=ry
  cases x with
  |non=>cases rx;exact SeqAt.EqAt.str_none a t'
  |bl b=>cases rx;exact SeqAt.EqAt.str_bool a t' b
  |int b=>obtain⟨t,rfl⟩:=rx;exact SeqAt.EqAt.str_int a t' b t
  |str b=>obtain⟨t,rfl⟩:=rx;exact SeqAt.EqAt.str_str a t' b t
  |_=>exact absurd (show false=true from fx) yv
 |_=>exact absurd (show false=true from fy) yv
def eqU(x:V)(u:yb):Bool:=match u with
 |.none=>eqV .non x
 |.bool b=>eqV (.bl b) x
 |.int i _=>eqV (.int i) x
 |.str z _=>eqV (.str z) x
 |_=>false
def zhp{x y:V}{u:yb}(r:RelV y u)(f:zWi y=true):eqU x u=eqV y x:=by
 cases y with
 |non=>cases r;rfl
 |bl b=>cases r;rfl
 |int i=>obtain⟨t,rfl⟩:=r;rfl
 |str z=>obtain⟨t,rfl⟩:=r;rfl
 |_=>exact absurd (show false=true from f) yv
def zUh{x:V}:∀{xs:List V} {us:List yb},Vals xs us->xs.all zWi=true->us.any (eqU x)=xs.any λy=>eqV y x
 |_,_,.nil,_=>rfl
 |y::xs,u::us,.cons r t,f=>by
  rw[all_cons,yN]at f;rw[any_cons,any_cons,zhp r f.1,zUh t f.2]
def zSe{A:yR}{s:yd}{x:V}{v:yb}(rx:RelV x v)(fx:zWi x=true):∀{xs:List V} {us:List yb},Vals xs us->xs.all zWi=true->∀u∈us,SeqAt.EqAt A s u v (eqU x u)
 |_,_,.nil,_=>λu hu=>by cases hu
 |y::xs,u::us,.cons r t,f=>λu' hu=>by
  rw[all_cons,yN]at f;rcases List.mem_cons.mp hu with rfl|hu
  ·rw[zhp r f.1];exact zvv r rx f.1 fx
  ·exact zSe rx fx t f.2 u' hu
def inV(x:V)(xs:List V):Bool:=xs.any λy=>eqV y x
def rIn(K:yx)(neg:Bool):R2:=λx y H Q=>∃p xs,y=.ref p/\(SqL K H p xs\/SqT K H p xs)/\zWi x=true/\xs.all zWi=true/\Q (.bl (if neg then !inV x xs else inV x xs)) H
def z2q:OpR X (Yj .In) (rIn X.K false):=by
 intro pins s Y H x y v u Q I rx ry h;obtain⟨p,xs,rfl,hq,fx,fs,q⟩:=h;cases ry;rcases hq with hq|hq
 ·obtain⟨its,r,pl,hz⟩:=I.list hq;refine SeqAt.in_listAt (eqU x) pl.isList (λw hw=>zSe rx fx r fs w (by simpa using hw)) ⟨.bl _,H,I,rfl,?_⟩;rw[show its.toArray.any (eqU x)=its.any (eqU x) by simp,zUh r fs];exact q
 ·obtain⟨its,r,pl,hz⟩:=I.tuple hq;refine SeqAt.in_tupleAt (eqU x) pl (λw hw=>zSe rx fx r fs w (by simpa using hw)) ⟨.bl _,H,I,rfl,?_⟩;rw[show its.toArray.any (eqU x)=its.any (eqU x) by simp,zUh r fs];exact q
def zTl:OpR X (Yj .NotIn) (rIn X.K true):=by
 intro pins s Y H x y v u Q I rx ry h;obtain⟨p,xs,rfl,hq,fx,fs,q⟩:=h;cases ry;rcases hq with hq|hq
 ·obtain⟨its,r,pl,hz⟩:=I.list hq;refine SeqAt.notIn_listAt (eqU x) pl.isList (λw hw=>zSe rx fx r fs w (by simpa using hw)) ⟨.bl _,H,I,rfl,?_⟩;rw[show its.toArray.any (eqU x)=its.any (eqU x) by simp,zUh r fs];exact q
 ·obtain⟨its,r,pl,hz⟩:=I.tuple hq;refine SeqAt.notIn_tupleAt (eqU x) pl (λw hw=>zSe rx fx r fs w (by simpa using hw)) ⟨.bl _,H,I,rfl,?_⟩;rw[show its.toArray.any (eqU x)=its.any (eqU x) by simp,zUh r fs];exact q
def zFl:zmh X (.builtin "len") (λxs H Q=>∃p ys,xs=[.ref p]/\(SqL X.K H p ys\/SqT X.K H p ys)/\Q (.int ys.length) H):=by
 intro pins s Y H xs us Q I r h;obtain⟨p,ys,rfl,hq,q⟩:=h;obtain⟨u,rfl,rx⟩:=vals1 r;cases rx;have hn:=TQ;rcases hq with hq|hq
 ·obtain⟨its,r',pl,hz⟩:=I.list hq;have hlen:=r'.length;exact Calls.call_len_list pl.isList (by simp only[size_toArray]<;>omega) ⟨.int ys.length,H,I.tok _,⟨s.toks+1,by rw[size_toArray,hlen]⟩,q⟩
 ·obtain⟨its,r',pl,hz⟩:=I.tuple hq;have hlen:=r'.length;exact len_tuple pl (by simp only[size_toArray]<;>omega) ⟨.int ys.length,H,I.tok _,⟨s.toks+1,by rw[size_toArray,hlen]⟩,q⟩
def zml:zmh X (.type "list") (λxs H Q=>∃p ys,xs=[.ref p]/\(SqL X.K H p ys\/SqT X.K H p ys)/\∀l,H l=none->Q (.ref l) (upd H l (.lst ys))):=by
 intro pins s Y H xs us Q I r h;obtain⟨p,ys,rfl,hq,q⟩:=h;obtain⟨u,rfl,rx⟩:=vals1 r;cases rx
 have fin:∀(its:List yb),Vals ys its->ys.length<=yF->∀(h':yW)(c':Nat),(∀b o',s.heap.get? b=some o'->h'.get? b=some o') ->
  h'.get? s.heap.objs.size=some {cls:=.type "list",dict:=none,data:=.seq its.toArray c',slots:=#[]}->EP X pins Y Q (.ref s.heap.objs.size) {s with heap:=h' }:=λits r' hz h' c' kp e=>
  ⟨.ref s.heap.objs.size,_,I.laid (t':=s.toks) kp (yi _) (show tJ X.prog X.w _ h' _ (.lst ys) from⟨hz,its,c',r',e⟩),rfl,q _ (I.hok.fresh (yi _))⟩
 rcases hq with hq|hq
 ·obtain⟨its,r',pl,hz⟩:=I.list hq;have hlen:=r'.length;obtain⟨o,ho,hc,n,hd⟩:=pl.isList;exact call_list_seq p (.inl rfl) ho hc hd (λh' c' kp e=>fin its r' hz h' c' kp e) (by simp only[size_toArray]<;>omega)
 ·obtain⟨its,r',pl,hz⟩:=I.tuple hq;have hlen:=r'.length;obtain⟨o,ho,hc,n,hd⟩:=pl;exact call_list_seq p (.inr rfl) ho hc hd (λh' c' kp e=>fin its r' hz h' c' kp e) (by simp only[size_toArray]<;>omega)
def zVd:zmh X (.type "tuple") (λxs H Q=>∃p ys,xs=[.ref p]/\((SqL X.K H p ys/\∀l,H l=none->Q (.ref l) (upd H l (.tup ys)))\/(SqT X.K H p ys/\Q (.ref p) H))):=by
 intro pins s Y H xs us Q I r h;obtain⟨p,ys,rfl,h⟩:=h;obtain⟨u,rfl,rx⟩:=vals1 r;cases rx;rcases h with ⟨hq,q⟩|⟨hq,q⟩
 ·obtain⟨its,r',pl,hz⟩:=I.list hq;have hlen:=r'.length;refine call_tuple_list pl.isList (λh' kp=>?_) (by simp only[size_toArray]<;>omega);have I1:Inv X pins Y H {s with heap:=h' }:=I.kept (t':=s.toks) kp
  have I2:Inv X pins Y (upd H h'.objs.size (.tup ys)) {s with heap:=h'.push {cls:=.type "tuple",data:=.seq its.toArray }} :=
   I1.laid (t':=s.toks) (λb o e=>yc _ e) (yi _) (show tJ X.prog X.w _ _ _ (.tup ys) from⟨hz,its,r',IsTup.new _ _⟩)
  exact⟨.ref h'.objs.size,_,I2,rfl,q _ (I1.hok.fresh (yi _))⟩
 ·obtain⟨its,r',pl,hz⟩:=I.tuple hq;exact call_tuple_same pl ⟨.ref p,H,I,rfl,q⟩
def tyV(K:yx)(T:String)(x:V)(H:Hp):Prop:=match x with
 |.str _=>T="str"
 |.int _=>T="int"
 |.ref p=>(T="list"/\∃xs,SqL K H p xs)\/(T="tuple"/\∃o,K.lookup p=some o/\o.cls=.type "tuple"/\o.dict=none) \/
  (T="dict"/\((∃kvs,H p=some (.dK kvs))\/∃kvs,H p=some (.dT kvs)))\/(T="set"/\∃S n,H p=some (.set S n))
 |_=>False
def zSs{pins:List (yf×YY)}{Y:St}{H:Hp}{s:yd}{T:String}{x:V}{v:yb}(I:Inv X pins Y H s)(r:RelV x v)(ty:tyV X.K T x H) :
 s.TypeIs v T/\∀a,v=.ref a->∃ob,s.heap.get? a=some ob/\ob.dict=none:=by
 cases x with
 |str z=>
  obtain⟨t,rfl⟩:=r;cases (show T="str" from ty);exact⟨typeIs_str s z t,λ_ e=>nomatch e⟩
 |int i=>
  obtain⟨t,rfl⟩:=r;cases (show T="int" from ty);exact⟨typeIs_int s i t,λ_ e=>nomatch e⟩
 |ref p=>
  cases r;rcases ty with ⟨rfl,xs,hq⟩|⟨rfl,o,hk,hc,hd⟩|⟨rfl,hk⟩|⟨rfl,S,n,hk⟩
  ·obtain⟨its,_,pl,_⟩:=I.list hq;refine⟨pl.isList.typeIs,λa e=>?_⟩;cases e;obtain⟨o,n,e,c,hd,_⟩:=pl;exact⟨o,e,hd⟩
  ·refine⟨⟨o,I.kIn p o hk,hc⟩,λa e=>?_⟩;cases e;exact⟨o,I.kIn _ o hk,hd⟩
  ·have z:∃o,s.heap.get? p=some o/\o.ExactDict:=by
    rcases hk with ⟨kvs,hk⟩|⟨kvs,hk⟩
    ·obtain⟨_,_,_,_,o,_,_,e,ex,_⟩:=I.hok p _ hk;exact⟨o,e,ex⟩
    ·obtain⟨_,_,_,_,o,_,_,e,ex,_⟩:=I.hok p _ hk;exact⟨o,e,ex⟩
   obtain⟨o,e,ex⟩:=z;refine⟨⟨o,e,ex.1⟩,λa e2=>?_⟩;cases e2;exact⟨o,e,ex.2.1⟩
  ·obtain⟨o,_,_,_,e,ex,_⟩:=I.hok p _ hk;refine⟨⟨o,e,ex.1⟩,λa e2=>?_⟩;cases e2;exact⟨o,e,ex.2.1⟩
 |_=>exact xI ty
def zFx(K:yx)(T:String)(r:V->List V->Hp->VK->Prop)(to:TE):TE:=λY H Q=>to Y H λx H1=>tyV K T x H1/\r x [] H1 Q
def tBM(K:yx)(T:String)(r:V->List V->Hp->VK->Prop)(to:TE)(t:TA):TE:=λY H Q=>to Y H λx H1=>tyV K T x H1/\t Y H1 λxs H2=>r x xs H2 Q
variable {o e:yC}{es:List yC}{to:TE}{t:TA}{name:yG}{apos cpos:xU}{T id:String}{r:V->List V->Hp->VK->Prop}
def zYv(pa:PlainAttrs T)(slot:Slot T name id)(hty:typeOf (.builtin id)=pure (.type "method_descriptor"))(hm:MtR X id r)(ho:PE X o to)
 (hbase:xh o name X.env (Yq o X.env)=Yq o X.env:=by rfl) (hline:(apos.endLine==cpos.line)=true:=by rfl):PE X (.Call (.Attribute o name apos) [] [] cpos) (zFx X.K T r to):=by
 intro pins s Y H Q I h;refine wpAny_Call_method0_late hbase hline (thn (ho pins s Y H _ I h) λv s1 ⟨x,H1,I1,r1,ty,q1⟩=>?_);obtain⟨h1,h2⟩:=zSs I1 r1 ty;exact⟨T,id,pa,slot,hty,h1,h2,Calls.callWith_builtin rfl (PySem.evalArgs_none (hm pins s1 Y H1 x [] v [] Q I1 r1 .nil q1))⟩
def zUw(pa:PlainAttrs T)(slot:Slot T name id)(hty:typeOf (.builtin id)=pure (.type "method_descriptor"))(hm:MtR X id r)(ho:PE X o to)(ha:PA X (e::es) t)
 (hbase:xh o name X.env (Yq o X.env)=Yq o X.env:=by rfl)
 (hfew:((xn cpos (yw (e::es) X.env)).all (λx=>!x.1)&&(backToKw cpos (keywordEach [] X.env)).all (λx=>x.1.isSome)
  && decide ((e::es).length+([]:List Keyword).length+(if([]:List Keyword).isEmpty then 0 else 1)<30))=true:=by rfl)
 (hline:(apos.endLine==cpos.line)=true:=by rfl) (hs:yw (e::es) X.env=(false,Yq e X.env)::yw es X.env:=by rfl) (hplain:(xn cpos (yw es X.env)).any (·.1)=false:=by rfl) :
 PE X (.Call (.Attribute o name apos) (e::es) [] cpos) (tBM X.K T r to t):=by
 intro pins s Y H Q I h;refine wpAny_Call_method_late hbase hfew hline rfl (thn (ho pins s Y H _ I h) λv s1 ⟨x,H1,I1,r1,ty,q1⟩=>?_);obtain⟨h1,h2⟩:=zSs I1 r1 ty;refine⟨T,id,pa,slot,hty,h1,h2,?_⟩;have hA:=ha cpos pins s1 Y H1 _ I1 q1;rw[hs]at hA ⊢;refine Calls.callWith_builtin (by show(false||(xn cpos (yw es X.env)).any (·.1))=false;rw[hplain]<;>rfl) (Calls.evalArgs_plain ?_);exact thn hA λus s2 ⟨vs,H2,I2,r2,q2⟩=>hm pins s2 Y H2 x vs v us Q I2 r1 r2 q2
end
def MtM(X:Cx)(id:String)(r:V->List V->Hp->VK->Prop):Prop :=
 ∀(pins:List (yf×YY)) (s:yd) (Y:St) (H:Hp) (x:V) (xs:List V) (v:yb) (us:List yb) (Q:VK),Inv X pins Y H s->RelV x v->Vals xs us->r x xs H Q ->
  yp (yz X.prog X.w) X.A (call (.builtin id) (v::us)) (EP X pins Y Q) X.xe s
def Vals.uncons{x:V}{xs:List V}{us:List yb}(h:Vals (x::xs) us):∃u ws,us=u::ws/\RelV x u/\Vals xs ws:=by
 cases h with
 |cons r t=>exact⟨_,_,rfl,r,t⟩
def Vals.unnil{us:List yb}(h:Vals [] us):us=[]:=by
 cases h;rfl
def Vals.one{x:V}{us:List yb}(h:Vals [x] us):∃u,us=[u]/\RelV x u:=by
 obtain⟨u,ws,e,r,t⟩:=h.uncons;exact⟨u,by rw[e,t.unnil],r⟩
def Vals.zero:∀{us:List yb},Vals [] us->us=[]
 |_,.nil=>rfl
def Vals.dropLast{xs:List V}{us:List yb}(h:Vals xs us):Vals xs.dropLast us.dropLast:=by
 induction h with
 |nil=>exact .nil
 |cons r t ih=>
  cases t with
  |nil=>exact .nil
  |cons q t'=>exact .cons r ih
def Vals.reverse{xs:List V}{us:List yb}(h:Vals xs us):Vals xs.reverse us.reverse:=by
 induction h with
 |nil=>exact .nil
 |cons r t ih=>rw[List.reverse_cons,List.reverse_cons];exact Vals.append ih (.cons r .nil)
def Vals.rep{xs:List V}{us:List yb}(h:Vals xs us):∀k:Nat,Vals (yg k xs).flatten (yg k us).flatten
 |0 =>.nil
 |k+1=>by
  rw[replicate_succ,replicate_succ,flatten_cons,flatten_cons];exact Vals.append h (Vals.rep h k)
def zOo{α:Type}(l:List α):l.eraseIdx (l.length-1)=l.dropLast:=by
 induction l with
 |nil=>rfl
 |cons a r ih=>
  cases r with
  |nil=>rfl
  |cons b r=>
   have e:(a::b::r).length-1=((b::r).length-1)+1:=by
    have h1:(a::b::r).length=r.length+2:=rfl;have h2:(b::r).length=r.length+1:=rfl;omega
   rw[e,xE,ih]
   all_goals rfl
def z4k(its:List yb):∀(k:Nat)(acc:List yb),
 List.foldl (λx1 x2=>x1++x2) acc.toArray (yg k its.toArray)=(acc++(yg k its).flatten).toArray
 |0,acc=>by simp
 |k+1,acc=>by
  have e:acc.toArray++its.toArray=(acc++its).toArray:=by simp
  have e2:(acc++its)++(yg k its).flatten=acc++(yg (k+1) its).flatten:=by
   rw[replicate_succ,flatten_cons,append_assoc]
  rw[<-e2,<-z4k its k (acc++its),<-e,replicate_succ,List.foldl_cons]
section
variable {X:Cx}{pins:List (yf×YY)}{Y:St}{H:Hp}{s:yd}{l b:yf}{xs ys zs:List V}
def Inv.sV{its its':List yb}{n:Nat}{f:Array yb->Array yb}{t':Nat}(I:Inv X pins Y H s)(hH:H l=some (.lst xs))
 (e:s.heap.get? l=some {cls:=.type "list",data:=.seq its.toArray n }) (hf:f its.toArray=its'.toArray) (hv:Vals ys its') (hz:ys.length<=yF) :
 Inv X pins Y (upd H l (.lst ys)) {s with heap:=s.heap.update l (xL f),toks:=t' }:=by
 have q:=PySem.IsL.update e f;rw[hf]at q;refine I.write (x:=l) (e:=l) (by rw[hH];exact trivial) (.inl rfl) (λb' u hb hu=>(xc s.heap (xL f) (yE hb)).trans hu) ⟨_,q⟩ ?_;exact⟨hz,its',_,hv,q⟩
def Inv.lnew{its:List yb}{t':Nat}(I:Inv X pins Y H s)(hv:Vals ys its)(hz:ys.length<=yF) :
 Inv X pins Y (upd H s.heap.objs.size (.lst ys)) {s with heap:=s.heap.push {cls:=.type "list",data:=.seq its.toArray },toks:=t' } :=
 I.laid (λ_ _ q=>yc _ q) (yi _) ⟨hz,its,0,hv,yk _ rfl⟩
def Inv.fresh(I:Inv X pins Y H s):H s.heap.objs.size=none:=I.hok.fresh (yi _)
def Inv.sj(I:Inv X pins Y H s)(hH:H l=some (.lst xs)):xs.length<=yF/\∃(its:List yb)(n:Nat),Vals xs its/\xs.length=its.length/\s.heap.get? l=some {cls:=.type "list",data:=.seq its.toArray n }:=by
 obtain⟨z,its,n,r,e⟩:=I.hok l _ hH;exact⟨z,its,n,r,r.length,e⟩
def TU{n:Nat}(h:n<=yF):YW n=false:=by
 unfold YW;exact decide_eq_false (by omega)
def zvt:V->List V->Hp->VK->Prop:=λx vs H Q=>∃l xs y,x=.ref l/\vs=[y]/\H l=some (.lst xs)/\xs.length<yF/\Q .non (upd H l (.lst (xs++[y])))
def z1q:MtM X "list.append" zvt:=by
 intro pins s Y H x vs v us Q I rx rv h;obtain⟨l,xs,y,rfl,rfl,hH,hz,q⟩:=h;cases rx;obtain⟨u,rfl,ru⟩:=rv.one;obtain⟨z,its,n,r,hl,e⟩:=I.sj hH;refine Xd F.slot_list_append ⟨_,e,rfl⟩ F.entry_list_append (F.args_list_append_2 _ _) (PySem.list_append l its.toArray n u (by rw[size_toArray];omega)) ⟨e,?_⟩;refine⟨.non,_,I.sV (its':=its++[u]) hH e (by simp) (r.append (.cons ru .nil)) ?_,rfl,q⟩;rw[length_append,length_singleton];omega
def zht:V->List V->Hp->VK->Prop:=λx vs H Q=>∃l b xs zs,x=.ref l/\vs=[.ref b]/\H l=some (.lst xs)/\H b=some (.lst zs)/\xs.length+zs.length<=yF/\Q .non (upd H l (.lst (xs++zs)))
def zxp:MtM X "list.extend" zht:=by
 intro pins s Y H x vs v us Q I rx rv h;obtain⟨l,b,xs,zs,rfl,rfl,hH,hB,hz,q⟩:=h;cases rx;obtain⟨u,rfl,ru⟩:=rv.one;cases ru;obtain⟨z,its,n,r,hl,e⟩:=I.sj hH;obtain⟨z2,its2,n2,r2,hl2,e2⟩:=I.sj hB;have hsz:its.toArray.size+its2.toArray.size<=yF:=by rw[size_toArray,size_toArray];omega
 have hlong:¬(!its.toArray.isEmpty&&YW (its.toArray.size+its2.toArray.size))=true:=by
  rw[TU hsz,Bool.and_false];exact yv
 refine Xd F.slot_list_extend ⟨_,e,rfl⟩ F.entry_list_extend (F.args_list_extend_2 _ _)
  (AutoSeq1.list_extend_list_list_0 l its.toArray n b its2.toArray n2 hlong (by rw[size_toArray];omega) (by omega)) ⟨e,e2,?_⟩
 refine⟨.non,_,I.sV (its':=its++its2) hH e (by simp) (r.append r2) ?_,rfl,q⟩;rw[length_append];omega
def z9x:V->List V->Hp->VK->Prop:=λx vs H Q=>∃l xs y,x=.ref l/\vs=[]/\H l=some (.lst xs)/\xs[xs.length-1]?=some y/\Q y (upd H l (.lst xs.dropLast))
def zGv:MtM X "list.pop" z9x:=by
 intro pins s Y H x vs v us Q I rx rv h;obtain⟨l,xs,y,rfl,rfl,hH,hy,q⟩:=h;cases rx;have hus:=rv.zero;subst hus;obtain⟨z,its,n,r,hl,e⟩:=I.sj hH;obtain⟨u,hu,ru⟩:=r.get hy
 have hy':its.toArray[its.toArray.size-1]?=some u:=by
  show its.toArray[its.length-1]?=some u;rw[<-xX,<-hl];exact hu
 refine Xd F.slot_list_pop ⟨_,e,rfl⟩ F.entry_list_pop (F.args_list_pop_1 _) (MeetsSeq.list_pop_last l its.toArray n u hy' (by rw[size_toArray];omega)) ⟨e,?_⟩;refine⟨y,_,I.sV (its':=its.dropLast) hH e ?_ r.dropLast ?_,ru,q⟩
 ·show its.toArray.eraseIdxIfInBounds (its.toArray.size-1)=its.dropLast.toArray;rw[size_toArray,List.eraseIdxIfInBounds_toArray,zOo]
 ·rw[List.length_dropLast];omega
def z1x:R2:=λx y H Q=>∃l b xs zs,x=.ref l/\y=.ref b/\H l=some (.lst xs)/\H b=some (.lst zs)/\xs.length+zs.length<=yF/\∀p,H p=none->Q (.ref p) (upd H p (.lst (xs++zs)))
def zPv:OpR X (xD .Add) z1x:=by
 intro pins s Y H x y v u Q I rx ry h;obtain⟨l,b,xs,zs,rfl,rfl,hH,hB,hz,q⟩:=h;cases rx;cases ry;obtain⟨z,its,n,r,hl,e⟩:=I.sj hH;obtain⟨z2,its2,n2,r2,hl2,e2⟩:=I.sj hB;refine PySem.P.add_list e e2 ?_ (by rw[size_toArray,size_toArray];omega);have ea:its.toArray++its2.toArray=(its++its2).toArray:=by simp
 rw[ea];exact⟨.ref _,_,I.lnew (t':=s.toks) (r.append r2) (by rw[length_append];omega),rfl,q _ I.fresh⟩
def zJx:R2:=λx y H Q=>∃l k xs,x=.ref l/\y=.int k/\H l=some (.lst xs)/\-(2^63)<=k/\k<2^63/\xs.length*k.toNat<=yF /\
 ∀p,H p=none->Q (.ref p) (upd H p (.lst (yg k.toNat xs).flatten))
def zUq{α:Type}(xs:List α)(k:Nat):(yg k xs).flatten.length=k*xs.length:=by
 induction k with
 |zero=>simp
 |succ k ih=>rw[replicate_succ,flatten_cons,length_append,ih,Nat.succ_mul,Nat.add_comm]
def zfw:OpR X (xD .Mult) zJx:=by
 intro pins s Y H x y v u Q I rx ry h;obtain⟨l,k,xs,rfl,rfl,hH,h1,h2,hz,q⟩:=h;cases rx;obtain⟨t,rfl⟩:=ry;obtain⟨z,its,n,r,hl,e⟩:=I.sj hH;have hlen:its.toArray.size*k.toNat<=yF:=by rw[size_toArray,<-hl];exact hz
 have hcap:¬its.toArray.size*k.toNat>(2^63-1) / 8:=by
  have:(yF:Nat)<=(2^63-1) / 8:=by decide
  omega
 have hfit:¬(!Builtin.List.listFitsIndex k)=true:=by
  rw[fitsIndex_both h1 h2];exact yv
 have hlong:¬YW (its.toArray.size*k.toNat)=true:=by
  rw[TU hlen];exact yv
 have hnew:List.foldl (λx1 x2=>x1++x2) #[] (yg (if its.toArray.isEmpty=true then 0 else k.toNat) its.toArray)=(yg k.toNat its).flatten.toArray:=by
  have f0:∀m:Nat,List.foldl (λx1 x2=>x1++x2) #[] (yg m its.toArray)=(yg m its).flatten.toArray:=λm=>by
   have:=z4k its m [];rw[List.nil_append]at this;exact this
  rw[f0]
  cases its with
  |nil=>simp
  |cons a r'=>rw[if_neg (by simp)]
 refine wpAny_binaryOp_repeat_ref (T:="list") (U:="int") (by decide) ⟨_,e,rfl⟩ (λs'=>typeIs_int s' k t) noFill_list_mul F.fills_int_mul F.slot_int_rmul repeat_list F.slot_int_index.lookup
  (Xd F.slot_int_rmul (typeIs_int s k t) F.entry_int_rmul (F.args_int_rmul_2 _ _) (int___rmul___int_list k t l its.toArray n)
   ⟨e,rfl,⟨_,e,rfl⟩,Xd F.slot_list_mul ⟨_,e,rfl⟩ F.entry_list_mul (F.args_list_mul_2 _ _) (AutoListH.list___mul___list_int_3 l its.toArray n k t hfit hcap hlong) ⟨e,?_⟩⟩)
 rw[hnew];exact⟨.ref _,_,I.lnew (t':=s.toks) (r.rep k.toNat) (by rw[zUq,Nat.mul_comm];exact hz),rfl,q _ I.fresh⟩
variable {prog:yy}{w:yL}{A:yR}{E:yb->yd->Prop}
end
end L2
namespace Att
open PySem PySem.W PySem.Calls PyProof.Rows
def zWh{P:Params}{h:yW}:∀(ns:List Int)(vs:List yb),WellAll P h vs (ns.map WData.int)->IntsAre vs ns:=by
 intro ns
 induction ns with
 |nil=>
  intro vs w;rw[map_nil]at w;cases w;exact .nil
 |cons n ns ih=>
  intro vs w;rw[map_cons]at w
  cases w with
  |cons a b=>
   cases a;exact .cons _ _ (ih _ b)
def zvp{l:OpenLaw}{n:Nat}(hn:l.most=some n){P:Params}{h:yW}{args:List WData}{vals:List yb}
 (hpre:l.row.toRowW.claim.pre args=true) (hwl:WellAll P h vals args) :
 ∃a vs ns,vals=[xj a]/\args=[WData.list (ns.map WData.int)]/\h.get? a=some {cls:=.type "list",data:=.seq vs.toArray }/\IntsAre vs ns/\ns.length<=n:=by
 have hsh:WShape.hasAll [] args [.list .int]=true:=(pre_splitW hpre).1;have hc:l.pre.holds [] {args:=args } = true:=(pre_splitW hpre).2;obtain⟨d,r,rfl,h1,h2⟩:=hasAllW_cons hsh;obtain rfl:=hasAllW_nil h2;obtain⟨xs,rfl,h3⟩:=hasW_list h1;obtain⟨ns,rfl⟩:=items_int h3
 have hlen:ns.length<=n:=by
  unfold OpenLaw.pre at hc
  have h4:(WTm.not (.lt (.lit (.int (n:Int))) (.len (.arg 0)))).holds [] {args:=[.list (ns.map .int)]} = true:=by
   have h4:=(holds_andW hc).1;rw[hn]at h4;exact h4
  have h5:=condW_of h4 (w_not (w_lt w_lit (w_len_list (w_arg rfl))));rw[length_map]at h5;refine Nat.le_of_not_lt λq=>?_;have q':(n:Int)<((ns.length:Nat):Int):=by omega
  first
   |(rw[decide_eq_true q']at h5;exact absurd h5 (by decide))
   |(simp at h5;omega)
 cases hwl with
 |cons w1 w2=>
  cases w2
  cases w1 with
  |list ho hall=>exact⟨_,_,ns,rfl,rfl,ho,zWh ns _ hall,hlen⟩
def zIp(l:OpenLaw)(args:List WData):l.row.toRowW.claim.post args (.bool true) args=true :=
 postW_of (r:=l.row.toRowW) (X:=(true==true))
  (show WShape.has [] (.bool true) .bool=true by first|rfl|decide|simp[WShape.has,WShape.arms,WShape.armsAll])
  (show(WTm.eq .res (.lit (.bool true))).value [] {args:=args,res:=some (.bool true),after:=args } = some (.bool (true==true)) from w_eq_bool (w_res rfl) w_lit) rfl
def sG{l:OpenLaw}{n:Nat}{q:yy}{loose:List yG}{XP:(yG->Option yb)->yW->Prop}{YP:yL->yW->Prop}{d:DefRec}
 (hn:l.most=some n) (hdf:d.params.defaults=[])
 (call:∀(w:yL)(s₀ s₁:yd)(mg mb:yG->Option yb)(fa:yf)(o:YY)(pm cd doc:yb)(a:yf)(vs:List yb)(ns:List Int),
  Ground q loose [] XP w s₀ mg mb s₁.heap->YP w s₁.heap ->
  s₁.heap.get? fa=some o->o.data=.func (docDef d.name d.params d.body d.scope pm cd doc)->s₁.heap.CodeRec cd d.name->mg d.name=some (.ref fa) ->
  s₁.heap.get? a=some {cls:=.type "list",data:=.seq vs.toArray }->IntsAre vs ns->ns.length<=n->s₁.gens = #[] ->
  codeAny (yz l.prog w) callerA (.call (.ref fa) ⟨[.ref a],[]⟩) (λr s'=>r=.ok (.ret (.bool true))/\OldK s₁.heap s'.heap/\s'.os=s₁.os/\AllBare s'.gens) s₁) :
 WalkO q loose XP YP l.row.toRowW d [] (λf vs=>PySem.call f vs):=by
 intro w s₀ s₁ mg mb φ σ fa o pm cd doc dV kV ho hd hcd hD hmg hg args vals as hpre hlay hrd hwl hlo;obtain rfl:dV=.none:=Dflts.none hD hdf;obtain rfl:kV=.none:=Dflts.noKw hD;obtain⟨a,vs,ns,rfl,rfl,hobj,hints,hlen⟩:=zvp hn hpre hwl;refine enter_call (xv (call w s₀ s₁ mg mb fa o pm cd doc a vs ns φ σ ho (fd_plain hd) hcd hmg hobj hints hlen hg) λr s' hq=>?_);obtain⟨rfl,h2,h3,h4⟩:=hq;exact⟨.inl ⟨.bool true,.bool true,[],rfl,λ_=>rfl,.bool true,zIp l _,λ_=>⟨List.Pairwise.nil,λ_ hm=>(nomatch hm)⟩⟩,h2,h3,h4⟩
section
variable {prog:yy}{w:yL}{A:yR}{E:yb->yd->Prop}{s:yd}{K:Frag}
end
end Att
namespace L2
open PySem PySem.Spec PyProof.Rows
def zQl:∀{vs:List yb} {ns:List Int},IntsAre vs ns->Vals (ns.map V.int) vs
 |_,_,.nil =>.nil
 |_,_,.cons n t h =>.cons ⟨t,rfl⟩ (zQl h)
def zww(H:Hp):Prop:=∀b,H b=none\/∃o xs,H b=some (.frz o (.lst xs))
def zmr{P:yy}{w:yL}{K:yx}{mg mb:yG->Option yb}{CX:CXT}{k:Nat}{fa a:yf}{fd:yn}{x:yG}{sp:Sp}{s₁:yd}{vs:List yb}{ns:List Int}
 (KX:K.In s₁.heap) (hns:s₁.heap.Ns yD mg) (hb:s₁.heap.Ns builtinsNs mb) (hbb:∀x:yG,x≠"__name__"->mb x=yH x) (hlim:s₁.heap.NoLimit) (hg:s₁.gens = #[])
 (ha:s₁.heap.get? a=some {cls:=.type "list",data:=.seq vs.toArray }) (hi:IntsAre vs ns) (hl:ns.length<=yF) (hr:Ti k callerA)
 (F:∀base:yW,K.In base->base.Ns yD mg->tw P w K mg base CX k fa fd [x] sp) (hbind:∀(s:yd)(u:yb),BindsTo s fd ⟨[u],[]⟩ [(x,u)])
 (hsp:∀H:Hp,zww H->SqL K H a (ns.map V.int)->sp [.ref a] H (λv _=>v=.bl true) λ_ _ _=>False)
 (hCX:∀H e s',CX [] H s₁ (λ_ _ _=>False) e s'->False) :
 codeAny (yz P w) callerA (.call (.ref fa) ⟨[.ref a],[]⟩) (λr s'=>r=.ok (.ret (.bool true))/\OldK s₁.heap s'.heap/\s'.os=s₁.os/\AllBare s'.gens) s₁:=by
 have rv:=zQl hi;have lenV:=hi.length
 have core:∀H:Hp,zww H->SqL K H a (ns.map V.int)->HOk P w H s₁.heap->(∀b,H b≠none->b=a)->(H a≠none->K.lookup a=none) ->
  codeAny (yz P w) callerA (.call (.ref fa) ⟨[.ref a],[]⟩) (λr s'=>r=.ok (.ret (.bool true))/\OldK s₁.heap s'.heap/\s'.os=s₁.os/\AllBare s'.gens) s₁:=by
  intro H hO hS hok hA hK;have base_of:∀{b:yf} {o:YY},s₁.heap.get? b=some o->H b=none->(zjs s₁.heap H).get? b=some o:=λe n=>zLr e n
  have noA:∀{b:yf} {o:YY} {es:Array DictEntry} {ep:Nat},s₁.heap.get? b=some o->o.data=.dict es ep->H b=none:=λ{b o es ep} e d=>by
   cases q:H b with
   |none=>rfl
   |some u=>
    have e':b=a:=hA b (by rw[q];simp);subst e';rw[ha]at e;cases e;have d':Data.seq vs.toArray _=Data.dict es ep:=d;cases d'
  have nsK:∀{b:yf} {m:yG->Option yb},s₁.heap.Ns b m->(zjs s₁.heap H).Ns b m:=λ{b m} ⟨o,es,ep,e,d,r⟩=>⟨o,es,ep,base_of e (noA e d),d,r⟩
  have hKb:K.In (zjs s₁.heap H):=λb o e=>base_of (KX b o e) (by
   cases q:H b with
   |none=>rfl
   |some u=>
    have e':b=a:=hA b (by rw[q];simp);subst e';rw[hK (by rw[q];simp)]at e;cases e)
  have hM:Mod K mg (zjs s₁.heap H):=⟨hKb,nsK hns,⟨mb,nsK hb,hbb⟩,let ⟨mc,h1,h2⟩:=hlim;⟨mc,nsK h1,h2⟩⟩
  have e0:Env0 P w K mg (zjs s₁.heap H) callerA [] s₁ H:=⟨rfl,hM,λb o e=>zut e,Nat.le_of_eq (z6q _ _),trivial,λb hb=>absurd (show b∈([]:List yf) from hb) (by simp),hok,.of_eq hg⟩
  refine xv ((F _ hKb (nsK hns)).run callerA [] s₁ H ⟨[.ref a],[]⟩ [.ref a] [.ref a] _ _ hr e0 (hbind s₁ (.ref a)) (.cons rfl .nil) (hsp H hO hS)) λr s' h=>?_
  cases r with
  |error e=>exact(hCX H e s' h).elim
  |ok fl=>
   cases fl with
   |next=>exact xI h
   |brk=>exact xI h
   |cont=>exact xI h
   |ret u=>
    obtain⟨v,H',os,bare,un,hok',r',q⟩:=h;have q':v=.bl true:=q;subst q';obtain rfl:u=Value.bool true:=r';refine⟨rfl,OldK.of_keep λb o e=>?_,os,bare⟩
    cases q:H b with
    |none=>exact un.keep b o e q (by intro z;exact absurd (show b∈([]:List yf) from z) (by simp)) (by simp)
    |some u=>
     rcases hO b with z|⟨ob,xs,z⟩
     ·rw[q]at z;cases z
     ·have z2:=un.sf b ob _ z;obtain⟨e1,_⟩:=hok b _ z;obtain⟨e2,_⟩:=hok' b _ z2;rw[e]at e1;cases e1;exact e2
 cases hk:K.lookup a with
 |some o=>
  have e:=KX a o hk;rw[ha]at e;cases e;refine core (λ_=>none) (λ_ =>.inl rfl) (.inr ⟨_,vs.toArray,_,hk,rfl,rfl,rfl,by rw[size_toArray,lenV];exact hl,by simpa using rv⟩) (λb u z=>by have z':(none:Option HO)=some u:=z;cases z') (λb z=>absurd rfl z) λz=>absurd rfl z
 |none=>
  refine core (λb=>if b=a then some (.frz {cls:=.type "list",data:=.seq vs.toArray } (.lst (ns.map V.int))) else none) (λb=>?_) (.inl (.inr ⟨{cls:=.type "list",data:=.seq vs.toArray },if_pos rfl⟩)) (λb u z=>?_) (λb z=>?_) λ_=>hk
  ·by_cases hb:b=a
   ·exact .inr ⟨_,_,if_pos hb⟩
   ·exact .inl (if_neg hb)
  ·by_cases hb:b=a
   ·have z':=(if_pos hb).symm.trans z;cases z';subst hb;exact⟨ha,by rw[length_map];exact hl,vs,_,rv,ha⟩
   ·have z':=(if_neg hb).symm.trans z;cases z'
  ·by_cases hb:b=a
   ·exact hb
   ·exact absurd (if_neg hb) z
def walk_of{l:W.OpenLaw}{n k:Nat}{q:yy}{loose:List yG}{XP:(yG->Option yb)->yW->Prop}{YP:yL->yW->Prop}{d:DefRec}{K:Params->yx}{CX:yL->CXT}{sp:yL->Sp}{x:yG}
 (hn:l.most=some n) (hn2:n<=yF) (hdf:d.params.defaults=[]) (hr:Ti k callerA)
 (hY:∀(w:yL)(h:yW),YP w h->(K w.params).In h)
 (F:∀(w:yL)(mg:yG->Option yb)(fa:yf)(h:yW),(K w.params).In h->h.Ns yD mg->mg d.name=some (.ref fa) ->
  ∃fd:yn,(∀(s:yd)(u:yb),BindsTo s fd ⟨[u],[]⟩ [(x,u)]) /\
   ∀base:yW,(K w.params).In base->base.Ns yD mg->tw l.prog w (K w.params) mg base (CX w) k fa fd [x] (sp w))
 (hsp:∀(w:yL)(H:Hp)(a:yf)(ns:List Int),ns.length<=n->zww H->SqL (K w.params) H a (ns.map V.int)->sp w [.ref a] H (λv _=>v=.bl true) λ_ _ _=>False)
 (hCX:∀(w:yL)(H:Hp)(s:yd)(e:yb)(s':yd),CX w [] H s (λ_ _ _=>False) e s'->False) :
 W.WalkO q loose XP YP l.row.toRowW d [] (λf vs=>PySem.call f vs):=by
 refine Att.sG hn hdf λw s₀ s₁ mg mb fa o pm cd doc a vs ns φ σ ho hd hcd hmg hobj hints hlen hg=>?_;have KX:=hY w _ σ;obtain⟨fd,hb,hF⟩:=F w mg fa _ KX φ.T.g hmg;exact zmr KX φ.T.g φ.T.b φ.T.builtins φ.T.nolimit hg hobj hints (yB hlen hn2) hr hF hb (λH hO hS=>hsp w H a ns hlen hO hS) λH e s'=>hCX w H s₁ e s'
def zzc(s:Yp):Arguments:=match s with
 |.FunctionDef _ a _ _ _ _ _ _ _ _=>a
 |_=>{posonlyargs:=[],args:=[],vararg:=none,kwonlyargs:=[],kw_defaults:=[],kwarg:=none,defaults:=[]}
def z8b(s:Yp):List Yp:=match s with
 |.FunctionDef _ _ b _ _ _ _ _ _ _=>b
 |_=>[]
def zx(s:Yp):Xa:=match s with
 |.FunctionDef _ _ _ _ _ _ sc _ _ _=>sc
 |_=>{kind:=.function,names:=[],isGenerator:=false,isCoroutine:=false }
abbrev CX0:CXT:=λ_ _ _ _ _ _=>False
abbrev E0:XK:=λ_ _ _=>False
def pass0{X:Cx}:zEp CX0 X E0:=λ_ _ _ _ _ _ _ h=>h.elim
structure Fun(K:yx)(x qual:yG)(st:Yp)(f:yf)(fd:yn):Prop where
 ex:∃(oc:yb)(od:Option yf)(kV doc pm:yb)(an:Option yf)(cdv ct:yb)(osl:Array (Option yb)),
  fd=W.fnOf x qual (zzc st) (z8b st) (zx st) .none kV doc pm an cdv ct/\K.lookup f=some ⟨oc,od,.func fd,osl⟩/\W.codeIn K cdv qual=true
 kp:W.keepIn K (.ref f)=true
section
variable {P:yy}{w:yL}{K:yx}{mg:yG->Option yb}{base:yW}
def Fun.ok{x qual:yG}{st:Yp}{f:yf}{fd:yn}{N ps:List yG}{k:Nat}{sp:Sp}(F:Fun K x qual st f fd)(S:tu N ps (zx st))(len:∀vs H Q E,sp vs H Q E->vs.length=ps.length)
 (hbody:∀(cdv:yb)(A:yR)(outer:List Env)(s:yd)(H:Hp)(vs:List V)(Q:VK)(E:XK),Ti k (A.deeper (envOfC qual (zx st) s.heap.objs.size f cdv))->sp vs H Q E ->
  ∃t,PSs (zxt CX0 P w K mg base N qual (zx st) f cdv A outer s H E).nox (z8b st) t/\t {nx:=λ_ H'=>Q .non H',rt:=Q } (start N vs) H):tw P w K mg base CX0 (k+1) f fd ps sp:=by
 obtain⟨oc,od,kV,doc,pm,an,cdv,ct,osl,rfl,lk,hcd⟩:=F.ex;refine zkx lk hcd S len λA outer s H vs Q E hr hsp=>?_;obtain⟨t,h,q⟩:=hbody cdv A outer s H vs Q E hr hsp;exact⟨t,h.nox,q⟩
def Fun.binds{x qual:yG}{st:Yp}{f:yf}{fd:yn}{ps:List yG}(F:Fun K x qual st f fd)
 (h:∀(kV doc pm:yb)(an:Option yf)(cdv ct:yb)(us:List yb),us.length=ps.length->bindArgs (W.fnOf x qual (zzc st) (z8b st) (zx st) .none kV doc pm an cdv ct) ⟨us,[]⟩=pure (ps.zip us)):Binds K fd ps []:=by
 obtain⟨oc,od,kV,doc,pm,an,cdv,ct,osl,rfl,lk,hcd⟩:=F.ex;exact .all (h kV doc pm an cdv ct)
def zXs{x qual:yG}{st:Yp}{f:yf}{oc:yb}{od an:Option yf}{osl:Array (Option yb)}{kV doc pm cdv ct:yb}(l:K.lookup f=some ⟨oc,od,.func (W.fnOf x qual (zzc st) (z8b st) (zx st) .none kV doc pm an cdv ct),osl⟩)
 (c:W.codeIn K cdv qual=true) (k:W.keepIn K (.ref f)=true):Fun K x qual st f (W.fnOf x qual (zzc st) (z8b st) (zx st) .none kV doc pm an cdv ct):=⟨⟨oc,od,kV,doc,pm,an,cdv,ct,osl,rfl,l,c⟩,k⟩
end
def sm{n:Nat}(h:n<=1000):n<yF:=Nat.lt_of_le_of_lt h (by decide)
section
variable {X:Cx}
end
def sJ{A B:Prop}(h:B):if false=true then A else B:=by
 rw[if_neg yv];exact h
def sK{A B:Prop}(h:A):if true=true then A else B:=by
 rw[if_pos rfl];exact h
def Trc(B h:yW)(e:yf)(x:yb):Prop:=x=.none\/∃T oT ts y,x=.ref T/\B.get? T=none/\T≠e/\h.get? T=some oT/\oT.data=.fields ts/\ts[3]?=some y
structure Fly(B:yW)(l:List Env)(e:yf)(cls:yb)(dx:Option yf)(h:yW):Prop where
 st:B.StaysIn h
 new:B.get? e=none
 ff:h.FunFrames B l
 ob:∃oe vs x,h.get? e=some oe/\oe.cls=cls/\oe.dict=dx/\oe.data=.fields vs/\vs[1]?=some x/\Trc B h e x
section
variable {M:Model}{A:yR}{E:yb->yd->Prop}{s:yd}{B:yW}{l outer:List Env}{env:Env}{e L:yf}{cls:yb}{dx:Option yf}{Q:Unit->yd->Prop}
end
structure Cov(outer:List Env)(H':Hp)(h B:yW):Prop where
 tr:∀b o,H' b=some o->∃u,B.get? b=some u
 old:∀b o,h.get? b=some o->b∉frs outer->∃u,B.get? b=some u
structure FlyX(P:yy)(w:yL)(outer:List Env)(H:Hp)(s:yd)(C:yb)(dx:Option yf)(H':Hp)(e:yb)(s':yd):Prop where
 os:s'.os=s.os
 bare:AllBare s'.gens
 un:Un (frs outer) [] H H' s.heap s'.heap
 hok:HOk P w H' s'.heap
 fly:∃a B,e=.ref a/\Fly B outer a C dx s'.heap/\Cov outer H' s.heap B
section
variable {P:yy}{w:yL}{outer:List Env}{H H':Hp}{h0 h h' B base:yW}
variable {X:Cx}{pins:List (yf×YY)}{Y:St}{s s':yd}{C:yb}{a:yf}{dx:Option yf}
end
def zro(X:Cx)(C:yb)(dx:Option yf)(H':Hp):Prop:=∀pins Y H s e s',Inv X pins Y H s->FlyX X.prog X.w X.stack H s C dx H' e s'->X.xe e s'
section
variable {P:yy}{w:yL}{K:yx}{mg:yG->Option yb}{base:yW}{N:List yG}{qual:yG}{scope:Xa}{f:yf}{cd:yb}{A:yR}{outer:List Env}{s:yd}{H H':Hp}{E:XK}{C:yb}{dx:Option yf}
end
end L2
namespace M
open PySem PySem.Spec PyProof.Rows L2
inductive D where
 |non|bl (b:Bool)|int (i:Int)|str (x:yG)|ty (n:String)
  |tup (ds:List D)
  |fz (ds:List D)
  |loc (n:Nat)
  |own (c:yG)
inductive tE where
 |lst (ds:List D)
  |dct (kvs:List (Int×D))
  |dcf (kvs:List (Int×D))
  |exc (c:yG) (fs:List (yG×D))
  |dts (kvs:List (yG×D))
abbrev Mem:=List tE
def zyw(a C:yf)(dx:Option yf):yW->Prop:=λh=>∃o vs,h.get? a=some o/\o.cls=.ref C/\o.dict=dx/\o.data=.fields vs
abbrev Loc:=List (Option D)
section
variable (K:yx)
def FzL(H:Hp)(a:yf)(vs:List V):Prop :=
 (∃o,H a=some (.frz o (.lst vs)))\/∃(o:YY)(its:Array yb)(n:Nat),K.lookup a=some o/\o.cls=.type "list"/\o.dict=none/\o.data=.seq its n/\its.size<=yF/\Vals vs its.toList
mutual
def tm(Z:List yf)(H:Hp):D->V->Prop
 |.non,v=>v=.non
 |.bl b,v=>v=.bl b
 |.int i,v=>v=.int i
 |.str x,v=>v=.str x
 |.ty n,v=>v=.ty n
 |.tup ds,v=>∃a vs,v=.ref a/\H a=some (.tup vs)/\tj Z H ds vs
 |.fz ds,v=>∃a vs,v=.ref a/\FzL K H a vs/\tj Z H ds vs
 |.loc n,v=>∃a,v=.ref a/\Z[n]?=some a
 |.own c,v=>∃a,v=.ref a/\xW K yD c=some (some (.ref a))
def tj(Z:List yf)(H:Hp):List D->List V->Prop
 |[],vs=>vs=[]
 |d::ds,vs=>∃v r,vs=v::r/\tm Z H d v/\tj Z H ds r
end
def sW(Z:List yf)(H:Hp)(fs:List (yG×D))(dx:Option yf):Prop:=(fs=[]/\dx=none)\/∃p vs,dx=some p/\H p=some (.xd vs)/\vs.map (·.1)=fs.map (·.1)/\tj K Z H (fs.map (·.2)) (vs.map (·.2))
def sH(Z:List yf)(H:Hp)(a:yf):tE->Prop
 |.lst ds=>∃vs,H a=some (.lst vs)/\tj K Z H ds vs
 |.dct kvs=>∃vs,H a=some (.dK vs)/\vs.map (·.1)=kvs.map (λp=>yP p.1)/\tj K Z H (kvs.map (·.2)) (vs.map (·.2))
 |.dcf kvs=>∃o vs,H a=some (.frz o (.dK vs))/\vs.map (·.1)=kvs.map (λp=>yP p.1)/\tj K Z H (kvs.map (·.2)) (vs.map (·.2))
 |.dts kvs=>∃vs,H a=some (.dK vs)/\vs.map (·.1)=kvs.map (λp=>Yu p.1)/\tj K Z H (kvs.map (·.2)) (vs.map (·.2))
 |.exc c fs=>∃C dx,xW K yD c=some (some (.ref C))/\H a=some (.ext (zyw a C dx))/\sW K Z H fs dx
structure tF(Z:List yf)(H:Hp)(μ:Mem):Prop where
 nd:Z.Nodup
 len:Z.length=μ.length
 at_:∀(n:Nat) a o,Z[n]?=some a->μ[n]?=some o->sH K Z H a o
structure Ext(Z:List yf)(H:Hp)(Z':List yf)(H':Hp):Prop where
 pre:∃more,Z'=Z++more
 tup:∀a vs,H a=some (.tup vs)->H' a=some (.tup vs)
 frz:∀a o u,H a=some (.frz o u)->H' a=some (.frz o u)
 xd:∀a fs,H a=some (.xd fs)->H' a=some (.xd fs)
def sR(Z:List yf)(H:Hp)(Y:L2.St)(J:Loc):Prop:=∀(i:Nat) d,J[i]?=some (some d)->∃v,Y[i]?=some (some v)/\tm K Z H d v
end
section
variable {K:yx}{Z Z' Z'':List yf}{H H' H'':Hp}{μ:Mem}{Y:L2.St}{J:Loc}
def Ext.refl:Ext Z H Z H:=⟨⟨[],by simp⟩,λ_ _ h=>h,λ_ _ _ h=>h,λ_ _ h=>h⟩
def Ext.trans(a:Ext Z H Z' H')(b:Ext Z' H' Z'' H''):Ext Z H Z'' H'':=by
 obtain⟨m,e⟩:=a.pre;obtain⟨m',e'⟩:=b.pre;exact⟨⟨m++m',by rw[e',e,append_assoc]⟩,λ_ _ h=>b.tup _ _ (a.tup _ _ h),λ_ _ _ h=>b.frz _ _ _ (a.frz _ _ _ h),λ_ _ h=>b.xd _ _ (a.xd _ _ h)⟩
def Ext.get(e:Ext Z H Z' H'){n:Nat}{a:yf}(h:Z[n]?=some a):Z'[n]?=some a:=by
 obtain⟨m,e⟩:=e.pre;rw[e,yu (List.getElem?_eq_some_iff.mp h).1];exact h
def Ext.fz(e:Ext Z H Z' H'){a:yf}{vs:List V}(h:FzL K H a vs):FzL K H' a vs:=by
 rcases h with ⟨o,h⟩|h
 ·exact .inl ⟨o,e.frz _ _ _ h⟩
 ·exact .inr h
mutual
def tm.ext(e:Ext Z H Z' H'):∀{d:D} {v:V},tm K Z H d v->tm K Z' H' d v
 |.non,_,h=>by unfold tm at h ⊢;exact h
 |.bl _,_,h=>by unfold tm at h ⊢;exact h
 |.int _,_,h=>by unfold tm at h ⊢;exact h
 |.str _,_,h=>by unfold tm at h ⊢;exact h
 |.ty _,_,h=>by unfold tm at h ⊢;exact h
 |.tup ds,_,h=>by
  unfold tm at h ⊢;obtain⟨a,vs,e1,e2,r⟩:=h;exact⟨a,vs,e1,e.tup _ _ e2,tj.ext e r⟩
 |.fz ds,_,h=>by
  unfold tm at h ⊢;obtain⟨a,vs,e1,e2,r⟩:=h;exact⟨a,vs,e1,e.fz e2,tj.ext e r⟩
 |.loc n,_,h=>by
  unfold tm at h ⊢;obtain⟨a,e1,e2⟩:=h;exact⟨a,e1,e.get e2⟩
 |.own c,_,h=>by unfold tm at h ⊢;exact h
def tj.ext(e:Ext Z H Z' H'):∀{ds:List D} {vs:List V},tj K Z H ds vs->tj K Z' H' ds vs
 |[],_,h=>by unfold tj at h ⊢;exact h
 |d::ds,_,h=>by
  unfold tj at h ⊢;obtain⟨v,r,e1,h1,h2⟩:=h;exact⟨v,r,e1,tm.ext e h1,tj.ext e h2⟩
end
def sR.ext(e:Ext Z H Z' H')(h:sR K Z H Y J):sR K Z' H' Y J:=λi d q=>
 let ⟨v,e1,r⟩:=h i d q
 ⟨v,e1,r.ext e⟩
def tj.length:∀{ds:List D} {vs:List V},tj K Z H ds vs->ds.length=vs.length
 |[],_,h=>by unfold tj at h;subst h;rfl
 |d::ds,_,h=>by
  unfold tj at h;obtain⟨v,r,e1,_,h2⟩:=h;subst e1;have:=tj.length h2;simp[this]
def tj.get:∀{ds:List D} {vs:List V} {i:Nat} {d:D},tj K Z H ds vs->ds[i]?=some d->∃v,vs[i]?=some v/\tm K Z H d v
 |[],_,_,_,_,q=>by simp at q
 |d::ds,_,0,d',h,q=>by
  unfold tj at h;obtain⟨v,r,e1,h1,_⟩:=h;subst e1;simp at q;subst q;exact⟨v,by simp,h1⟩
 |d::ds,_,i+1,d',h,q=>by
  unfold tj at h;obtain⟨v,r,e1,_,h2⟩:=h;subst e1;obtain⟨w,e2,h3⟩:=tj.get (i:=i) h2 (by simpa using q);exact⟨w,by simpa using e2,h3⟩
def tj.cons{d:D}{v:V}{ds:List D}{vs:List V}(h1:tm K Z H d v)(h2:tj K Z H ds vs):tj K Z H (d::ds) (v::vs):=by
 unfold tj;exact⟨v,vs,rfl,h1,h2⟩
def tj.nil:tj K Z H [] []:=by unfold tj;rfl
def tj.cons_inv{d:D}{ds:List D}{vs:List V}(h:tj K Z H (d::ds) vs):∃v r,vs=v::r/\tm K Z H d v/\tj K Z H ds r:=by
 unfold tj at h;exact h
def tj.nil_inv{vs:List V}(h:tj K Z H [] vs):vs=[]:=by unfold tj at h;exact h
def tj.append:∀{ds es:List D} {vs us:List V},tj K Z H ds vs->tj K Z H es us->tj K Z H (ds++es) (vs++us)
 |[],_,_,_,h,q=>by rw[h.nil_inv];exact q
 |d::ds,_,_,_,h,q=>by
  obtain⟨v,r,rfl,h1,h2⟩:=h.cons_inv;exact .cons h1 (tj.append h2 q)
def tj.take:∀{ds:List D} {vs:List V} (n:Nat),tj K Z H ds vs->tj K Z H (ds.take n) (vs.take n)
 |[],_,n,h=>by rw[h.nil_inv];simp[tj.nil]
 |d::ds,_,0,h=>by simp[tj.nil]
 |d::ds,_,n+1,h=>by
  obtain⟨v,r,rfl,h1,h2⟩:=h.cons_inv;simpa using tj.cons h1 (tj.take n h2)
def tj.drop:∀{ds:List D} {vs:List V} (n:Nat),tj K Z H ds vs->tj K Z H (ds.drop n) (vs.drop n)
 |[],_,n,h=>by rw[h.nil_inv];simp[tj.nil]
 |d::ds,_,0,h=>by simpa using h
 |d::ds,_,n+1,h=>by
  obtain⟨v,r,rfl,h1,h2⟩:=h.cons_inv;simpa using tj.drop n h2
def tj.set:∀{ds:List D} {vs:List V} {d:D} {v:V} (n:Nat),tm K Z H d v->tj K Z H ds vs->tj K Z H (ds.set n d) (vs.set n v)
 |[],_,_,_,n,_,h=>by rw[h.nil_inv];simp[tj.nil]
 |d::ds,_,_,_,0,q,h=>by
  obtain⟨v,r,rfl,h1,h2⟩:=h.cons_inv;simpa using tj.cons q h2
 |d::ds,_,_,_,n+1,q,h=>by
  obtain⟨v,r,rfl,h1,h2⟩:=h.cons_inv;simpa using tj.cons h1 (tj.set n q h2)
def tm.int_inv{i:Int}{v:V}(h:tm K Z H (.int i) v):v=.int i:=by unfold tm at h;exact h
def tm.tO{i:Bool}{v:V}(h:tm K Z H (.bl i) v):v=.bl i:=by unfold tm at h;exact h
def tm.tQ{v:V}(h:tm K Z H .non v):v=.non:=by unfold tm at h;exact h
def tm.str_inv{x:yG}{v:V}(h:tm K Z H (.str x) v):v=.str x:=by unfold tm at h;exact h
def tm.tT{ds:List D}{v:V}(h:tm K Z H (.tup ds) v):∃a vs,v=.ref a/\H a=some (.tup vs)/\tj K Z H ds vs:=by unfold tm at h;exact h
def tm.TJ{ds:List D}{v:V}(h:tm K Z H (.fz ds) v):∃a vs,v=.ref a/\FzL K H a vs/\tj K Z H ds vs:=by unfold tm at h;exact h
def tm.tx{n:Nat}{v:V}(h:tm K Z H (.loc n) v):∃a,v=.ref a/\Z[n]?=some a:=by unfold tm at h;exact h
def tm.int{i:Int}:tm K Z H (.int i) (.int i):=by unfold tm;rfl
def tm.bl{i:Bool}:tm K Z H (.bl i) (.bl i):=by unfold tm;rfl
def tm.non:tm K Z H .non .non:=by unfold tm;rfl
def tm.str{x:yG}:tm K Z H (.str x) (.str x):=by unfold tm;rfl
def tm.tup{ds:List D}{a:yf}{vs:List V}(e:H a=some (.tup vs))(h:tj K Z H ds vs):tm K Z H (.tup ds) (.ref a):=by unfold tm;exact⟨a,vs,rfl,e,h⟩
def tm.fz{ds:List D}{a:yf}{vs:List V}(e:FzL K H a vs)(h:tj K Z H ds vs):tm K Z H (.fz ds) (.ref a):=by unfold tm;exact⟨a,vs,rfl,e,h⟩
def tm.loc{n:Nat}{a:yf}(e:Z[n]?=some a):tm K Z H (.loc n) (.ref a):=by unfold tm;exact⟨a,rfl,e⟩
def FzL.sq{a:yf}{vs:List V}(h:FzL K H a vs):SqL K H a vs:=by
 rcases h with h|h
 ·exact .inl (.inr h)
 ·exact .inr h
def sH.some{a:yf}{o:tE}(h:sH K Z H a o):∃u,H a=some u:=by
 cases o with
 |lst ds=>obtain⟨vs,e,_⟩:=h;exact⟨_,e⟩
 |dct kvs=>obtain⟨vs,e,_⟩:=h;exact⟨_,e⟩
 |dcf kvs=>obtain⟨o,vs,e,_⟩:=h;exact⟨_,e⟩
 |exc c fs=>obtain⟨C,dx,_,e,_⟩:=h;exact⟨_,e⟩
 |dts kvs=>obtain⟨vs,e,_⟩:=h;exact⟨_,e⟩
def tF.mem_some(R:tF K Z H μ){a:yf}(h:a∈Z):∃u,H a=some u:=by
 obtain⟨n,h1,e⟩:=List.mem_iff_getElem.mp h;have h2:n<μ.length:=by rw[<-R.len];exact h1
 exact(R.at_ n a μ[n] (by rw[yo h1,e]) (by simp[h2])).some
def sW.ext{fs:List (yG×D)}{dx:Option yf}(e:Ext Z H Z' H')(h:sW K Z H fs dx):sW K Z' H' fs dx:=by
 rcases h with h|⟨p,vs,e1,e2,e3,r⟩
 ·exact .inl h
 ·exact .inr ⟨p,vs,e1,e.xd _ _ e2,e3,r.ext e⟩
def sH.ext{a:yf}{o:tE}(e:Ext Z H Z' H')(h:sH K Z H a o)(s:H' a=H a):sH K Z' H' a o:=by
 cases o with
 |lst ds=>obtain⟨vs,q,r⟩:=h;exact⟨vs,s.trans q,r.ext e⟩
 |dct kvs=>obtain⟨vs,q,q2,r⟩:=h;exact⟨vs,s.trans q,q2,r.ext e⟩
 |dcf kvs=>obtain⟨o,vs,q,q2,r⟩:=h;exact⟨o,vs,s.trans q,q2,r.ext e⟩
 |exc c fs=>obtain⟨C,dx,n,q,r⟩:=h;exact⟨C,dx,n,s.trans q,r.ext e⟩
 |dts kvs=>obtain⟨vs,q,q2,r⟩:=h;exact⟨vs,s.trans q,q2,r.ext e⟩
def Ext.new{p:yf}{o:HO}(hp:H p=none):Ext Z H Z (upd H p o) :=
 ⟨⟨[],by simp⟩,λa vs e=>by rw[zU (zM e hp)];exact e,λa o u e=>by rw[zU (zM e hp)];exact e,λa fs e=>by rw[zU (zM e hp)];exact e⟩
def tF.other(R:tF K Z H μ)(e:Ext Z H Z H')(s:∀a∈Z,H' a=H a):tF K Z H' μ :=
 ⟨R.nd,R.len,λn a o h1 h2=>(R.at_ n a o h1 h2).ext e (s a (mem_of_getElem? h1))⟩
def tF.Tg(R:tF K Z H μ){p:yf}{o:HO}(hp:H p=none):tF K Z (upd H p o) μ :=
 R.other (Ext.new hp) λa ha=>by
  obtain⟨u,e⟩:=R.mem_some ha;exact zU (zM e hp)
def Ext.push{p:yf}{o:HO}(hp:H p=none):Ext Z H (Z++[p]) (upd H p o) :=
 ⟨⟨[p],rfl⟩,(Ext.new (Z:=Z) hp).tup,(Ext.new (Z:=Z) hp).frz,(Ext.new (Z:=Z) hp).xd⟩
def tF.push(R:tF K Z H μ){p:yf}{o:HO}{lo:tE}(hp:H p=none)(h:sH K (Z++[p]) (upd H p o) p lo):tF K (Z++[p]) (upd H p o) (μ++[lo]):=by
 refine⟨?_,by simp[R.len],λn a u h1 h2=>?_⟩
 ·rw[nodup_append];refine⟨R.nd,by simp,λa ha b hb=>?_⟩;simp at hb;subst hb;obtain⟨u,e⟩:=R.mem_some ha;exact zM e hp
 ·by_cases hn:n<Z.length
  ·rw[yu hn]at h1;rw[yu (by rw[<-R.len];exact hn)]at h2;have q:=R.at_ n a u h1 h2;obtain⟨z,e⟩:=q.some;exact q.ext (Ext.push hp) (zU (zM e hp))
  ·have hl:n<(Z++[p]).length:=(List.getElem?_eq_some_iff.mp h1).1;have e:n=Z.length:=by simp at hl;omega
   subst e;rw[yJ (yi _)]at h1;rw[R.len,yJ (yi _)]at h2;simp at h1 h2;subst h1 h2;exact h
def zrb{p:yf}(R:tF K Z H μ):(Z++[p])[μ.length]?=some p:=by
 rw[<-R.len];simp
def Ext.wr{p:yf}{o:HO}(hm:Mut (H p)):Ext Z H Z (upd H p o) :=
 ⟨⟨[],by simp⟩,λa vs e=>by rw[zU (by rintro rfl;rw[e]at hm;exact hm)];exact e,λa o u e=>by rw[zU (by rintro rfl;rw[e]at hm;exact hm)];exact e,λa fs e=>by rw[zU (by rintro rfl;rw[e]at hm;exact hm)];exact e⟩
def tF.wr(R:tF K Z H μ){n:Nat}{p:yf}{o:HO}{lo:tE}(hm:Mut (H p))(hn:Z[n]?=some p)(h:sH K Z (upd H p o) p lo):tF K Z (upd H p o) (μ.set n lo):=by
 have hlt:=(List.getElem?_eq_some_iff.mp hn).1;refine⟨R.nd,by simp[R.len],λm a u h1 h2=>?_⟩
 by_cases hmn:m=n
 ·subst hmn;rw[hn]at h1;cases h1;rw[YK (by rw[<-R.len];exact hlt)]at h2;cases h2;exact h
 ·rw[Yr (yE hmn)]at h2
  have hap:a≠p:=by
   rintro rfl;obtain⟨x1,y1⟩:=List.getElem?_eq_some_iff.mp h1;obtain⟨x2,y2⟩:=List.getElem?_eq_some_iff.mp hn;exact hmn ((List.getElem_inj R.nd).mp (y1.trans y2.symm))
  exact(R.at_ m a u h1 h2).ext (Ext.wr hm) (zU hap)
end
abbrev FE:=Loc->Mem->Option (D×Mem)
abbrev FT:=Loc->Mem->Option (Bool×Mem)
abbrev FA:=Loc->Mem->Option (List D×Mem)
inductive Out where
 |next (J:Loc) (μ:Mem)|ret (d:D) (μ:Mem)|brk (J:Loc) (μ:Mem)|cont (J:Loc) (μ:Mem)
  |exc (c:yG) (fs:List (yG×D)) (μ:Mem)
abbrev FS:=Loc->Mem->Option Out
section
variable (K:yx)
structure At(Z:List yf)(H:Hp)(Y:L2.St)(J:Loc)(μ:Mem):Prop where
 st:sR K Z H Y J
 hp:tF K Z H μ
 len:Y.length=J.length
def tM(G:FE):TE:=λY H Q=>∃Z J μ d μ',At K Z H Y J μ/\G J μ=some (d,μ')/\∀Z' H' v,Ext Z H Z' H'->tF K Z' H' μ'->tm K Z' H' d v->Q v H'
def tMT(G:FT):TT:=λY H Q=>∃Z J μ b μ',At K Z H Y J μ/\G J μ=some (b,μ')/\∀Z' H',Ext Z H Z' H'->tF K Z' H' μ'->Q b H'
def tMA(G:FA):TA:=λY H Q=>∃Z J μ ds μ',At K Z H Y J μ/\G J μ=some (ds,μ')/\∀Z' H' vs,Ext Z H Z' H'->tF K Z' H' μ'->tj K Z' H' ds vs->Q vs H'
def sn(W:XK)(Z:List yf)(H:Hp)(E:Ends):Out->Prop
 |.next J' μ'=>∀Z' Y' H',Ext Z H Z' H'->At K Z' H' Y' J' μ'->E.nx Y' H'
 |.brk J' μ'=>∀Z' Y' H',Ext Z H Z' H'->At K Z' H' Y' J' μ'->E.bk Y' H'
 |.cont J' μ'=>∀Z' Y' H',Ext Z H Z' H'->At K Z' H' Y' J' μ'->E.ct Y' H'
 |.ret d μ'=>∀Z' v H',Ext Z H Z' H'->tF K Z' H' μ'->tm K Z' H' d v->E.rt v H'
 |.exc c fs μ'=>∀Z' H' C dx,PySem.W.nsIn K yD c=some (some (.ref C))->Ext Z H Z' H'->tF K Z' H' μ'->sW K Z' H' fs dx->W (.ref C) dx H'
def tMS(W:XK)(ψ:FS):TS:=λE Y H=>∃Z J μ o,At K Z H Y J μ/\ψ J μ=some o/\sn K W Z H E o
end
def ME(X:Cx)(e:yC)(G:FE):Prop:=PE X e (tM X.K G)
def MT(X:Cx)(e:yC)(G:FT):Prop:=PT X e (tMT X.K G)
def MW(X:Cx)(e:yC)(G:FT):Prop:=PW X e (tMT X.K G)
def MA(X:Cx)(es:List yC)(G:FA):Prop:=PA X es (tMA X.K G)
def MS(X:Cx)(st:Yp)(ψ:FS):Prop:=PS X st (tMS X.K (zro X) ψ)
def MSs(X:Cx)(st:List Yp)(ψ:FS):Prop:=PSs X st (tMS X.K (zro X) ψ)
abbrev FF:=List D->Mem->Option (D×Mem)
def spM(K:yx)(n:Nat)(F:FF):Sp:=λvs H Q _=>vs.length=n/\∃Z ds μ d μ',tj K Z H ds vs/\tF K Z H μ/\F ds μ=some (d,μ')/\∀Z' H' v,Ext Z H Z' H'->tF K Z' H' μ'->tm K Z' H' d v->Q v H'
def At.ext{K:yx}{Z Z':List yf}{H H':Hp}{Y:L2.St}{J:Loc}{μ μ':Mem}(a:At K Z H Y J μ)(e:Ext Z H Z' H')(R:tF K Z' H' μ'):At K Z' H' Y J μ':=⟨a.st.ext e,R,a.len⟩
def zsd{X:Cx}{e:yC}{t:TE}{G:FE}(h:PE X e t)(w:∀Z J μ Y H d μ' Q,At X.K Z H Y J μ->G J μ=some (d,μ')->(∀Z' H' v,Ext Z H Z' H'->tF X.K Z' H' μ'->tm X.K Z' H' d v->Q v H')->t Y H Q):ME X e G :=
 by intro pins s Y H Q I hh;obtain⟨Z,J,μ,d,μ',a,e,k⟩:=hh;exact h pins s Y H Q I (w Z J μ Y H d μ' Q a e k)
def zAu{X:Cx}{e:yC}{t:TT}{G:FT}(h:PT X e t)(w:∀Z J μ Y H b μ' Q,At X.K Z H Y J μ->G J μ=some (b,μ')->(∀Z' H',Ext Z H Z' H'->tF X.K Z' H' μ'->Q b H')->t Y H Q):MT X e G :=
 by intro pins s Y H Q I hh;obtain⟨Z,J,μ,d,μ',a,e,k⟩:=hh;exact h pins s Y H Q I (w Z J μ Y H d μ' Q a e k)
def zev{X:Cx}{e:yC}{t:TT}{G:FT}(h:PW X e t)(w:∀Z J μ Y H b μ' Q,At X.K Z H Y J μ->G J μ=some (b,μ')->(∀Z' H',Ext Z H Z' H'->tF X.K Z' H' μ'->Q b H')->t Y H Q):MW X e G :=
 λwh pins s Y H Q I ⟨Z,J,μ,d,μ',a,e,k⟩=>h wh pins s Y H Q I (w Z J μ Y H d μ' Q a e k)
def zjv{X:Cx}{e:List yC}{t:TA}{G:FA}(h:PA X e t)(w:∀Z J μ Y H ds μ' Q,At X.K Z H Y J μ->G J μ=some (ds,μ')->(∀Z' H' vs,Ext Z H Z' H'->tF X.K Z' H' μ'->tj X.K Z' H' ds vs->Q vs H')->t Y H Q):MA X e G :=
 λpos pins s Y H Q I ⟨Z,J,μ,d,μ',a,e,k⟩=>h pos pins s Y H Q I (w Z J μ Y H d μ' Q a e k)
def z5i{X:Cx}{e:Yp}{t:TS}{ψ:FS}(h:PS X e t)(w:∀Z J μ Y H o E,At X.K Z H Y J μ->ψ J μ=some o->sn X.K (zro X) Z H E o->t E Y H):MS X e ψ :=
 by intro pins s Y H E I hh;obtain⟨Z,J,μ,o,a,e,k⟩:=hh;exact h pins s Y H E I (w Z J μ Y H o E a e k)
def zTs{X:Cx}{e:List Yp}{t:TS}{ψ:FS}(h:PSs X e t)(w:∀Z J μ Y H o E,At X.K Z H Y J μ->ψ J μ=some o->sn X.K (zro X) Z H E o->t E Y H):MSs X e ψ :=
 by intro pins s Y H E I hh;obtain⟨Z,J,μ,o,a,e,k⟩:=hh;exact h pins s Y H E I (w Z J μ Y H o E a e k)
end M
namespace M
open PySem PySem.Spec PyProof.Rows L2
def zl{α β:Type}{o:Option α}{f:α->Option β}{b:β}(h:o.bind f=some b):∃a,o=some a/\f a=some b:=by
 cases o with
 |none=>cases h
 |some a=>exact⟨a,rfl,h⟩
section
variable {X:Cx}{a b c e:yC}{es:List yC}{G ψ χ:FE}{pos:xU}
@[simp] def zp(i:Nat):FE:=λJ μ=>match J[i]? with
 |some (some d)=>some (d,μ)
 |_=>none
@[simp] def fC(d:D):FE:=λ_ μ=>some (d,μ)
def znv{i:Nat}{x:yG}(h:PE X (.Name x pos) (zDx i)):ME X (.Name x pos) (zp i) :=
 zsd h λZ J μ Y H d μ' Q A e k=>by
  unfold zp at e
  split at e
  ·rename_i d' hd
   cases e;obtain⟨v,hv,r⟩:=A.st i _ hd;exact⟨v,hv,k Z H v Ext.refl A.hp r⟩
  ·cases e
def zrw{v:V}{d:D}(h:PE X e (tC v))(r:∀Z H,tm X.K Z H d v):ME X e (fC d) :=
 zsd h λZ J μ Y H d' μ' Q A e k=>by
  cases e;exact k Z H v Ext.refl A.hp (r Z H)
def zq{i j}:ME X (.Constant (.int i) j pos) (fC (.int i)):=zrw zdv λ_ _ =>.int
def zUl{i j}:ME X (.Constant (.bool i) j pos) (fC (.bl i)):=zrw zex λ_ _ =>.bl
def z8g{j}:ME X (.Constant .none j pos) (fC .non):=zrw z2u λ_ _ =>.non
def zKb{x j}:ME X (.Constant (.str x) j pos) (fC (.str x)):=zrw zyv λ_ _ =>.str
def mv(i:Nat){x:yG}(hN:X.N[i]?=some x:=by rfl)(hv:Vis X.env.scope x:=by first|exact Or.inl rfl|exact Or.inr (Or.inl rfl)|exact Or.inr (Or.inr rfl))(hd:(x==("__debug__":yG))=false:=by decide)
 (hcd:(x==("__classdict__":yG))=false:=by decide):ME X (.Name x pos) (zp i):=znv (z0v hN hv hd hcd)
abbrev φ2:=D->D->Mem->Option (D×Mem)
def rM(K:yx)(g:φ2):R2:=λx y H Q=>∃Z dx dy μ d μ',tm K Z H dx x/\tm K Z H dy y/\tF K Z H μ/\g dx dy μ=some (d,μ')/\∀Z' H' v,Ext Z H Z' H'->tF K Z' H' μ'->tm K Z' H' d v->Q v H'
def OpM(X:Cx)(f:yb->yb->Sem yb)(g:φ2):Prop:=OpR X f (rM X.K g)
def OpM.of{X:Cx}{f:yb->yb->Sem yb}{g:φ2}(h:∀(pins:List (yf×YY)) (s:yd) (Y:L2.St) (H:Hp) (x y:V) (v u:yb) (Q:VK),Inv X pins Y H s->RelV x v->RelV y u->∀(Z:List yf)(dx dy:D)(μ:Mem)(d:D)(μ':Mem),tm X.K Z H dx x->tm X.K Z H dy y->tF X.K Z H μ->g dx dy μ=some (d,μ')->(∀Z' H' v,Ext Z H Z' H'->tF X.K Z' H' μ'->tm X.K Z' H' d v->Q v H')->yp (yz X.prog X.w) X.A (f v u) (EP X pins Y Q) X.xe s):OpM X f g:=by
 intro pins s Y H x y v u Q I rx ry hh;obtain⟨Z,dx,dy,μ,d,μ',r1,r2,R,e,k⟩:=hh;exact h pins s Y H x y v u Q I rx ry Z dx dy μ d μ' r1 r2 R e k
@[simp] def zz(g:φ2)(G ψ:FE):FE:=λJ μ=>(G J μ).bind λp=>(ψ J p.2).bind λq=>g p.1 q.1 q.2
def zap{g:φ2}{Z:List yf}{J:Loc}{μ:Mem}{Y:L2.St}{H:Hp}{d:D}{μ':Mem}{Q:VK}(A:At X.K Z H Y J μ)(e:zz g G ψ J μ=some (d,μ'))
 (k:∀Z' H' v,Ext Z H Z' H'->tF X.K Z' H' μ'->tm X.K Z' H' d v->Q v H'):tOp (rM X.K g) (tM X.K G) (tM X.K ψ) Y H Q:=by
 obtain⟨⟨x,μ1⟩,e1,e⟩:=zl e;obtain⟨⟨y,μ2⟩,e2,e⟩:=zl e;refine⟨Z,J,μ,x,μ1,A,e1,λZ1 H1 v x1 R1 r1=>?_⟩;refine⟨Z1,J,μ1,y,μ2,A.ext x1 R1,e2,λZ2 H2 u x2 R2 r2=>?_⟩;exact⟨Z2,x,y,μ2,d,μ',r1.ext x2,r2,R2,e,λZ3 H3 w x3 R3 r3=>k Z3 H3 w (x1.trans (x2.trans x3)) R3 r3⟩
def zkb{op:Operator}{g:φ2}(ho:OpM X (xD op) g)(ha:ME X a G)(hb:ME X b ψ):ME X (.BinOp a op b pos) (zz g G ψ) :=
 zsd (zBw ho ha hb) λ_ _ _ _ _ _ _ _ A e k=>zap A e k
def zXb{op:CmpOp}{g:φ2}(ho:OpM X (Yj op) g)(ha:ME X a G)(hb:ME X b ψ)(hm:behindInMarks op b=false:=by first|exact sD _ (by decide) (by decide)|rfl|with_unfolding_all rfl):ME X (.Compare a [op] [b] pos) (zz g G ψ) :=
 zsd (zlt ho ha hb hm) λ_ _ _ _ _ _ _ _ A e k=>zap A e k
@[simp] def zX(G:FE):FT:=λJ μ=>(G J μ).bind λp=>match p.1 with
 |.bl b=>some (b,p.2)
 |_=>none
def zbo{J:Loc}{μ μ':Mem}{b:Bool}(h:zX G J μ=some (b,μ')):G J μ=some (.bl b,μ'):=by
 obtain⟨⟨x,μ1⟩,e1,e⟩:=zl h;dsimp only at e
 split at e
 ·cases e;exact e1
 ·cases e
def zQ{op:CmpOp}{g:φ2}(ho:OpM X (Yj op) g)(ha:ME X a G)(hb:ME X b ψ)(hm:behindInMarks op b=false:=by first|exact sD _ (by decide) (by decide)|rfl|with_unfolding_all rfl):MT X (.Compare a [op] [b] pos) (zX (zz g G ψ)) :=
 zAu (z7t ho ha hb hm) λZ J μ Y H b μ' Q A e k=>zap (Q:=λx H'=>∃k,x=.bl k/\Q k H') A (zbo e) λZ' H' v x R r=>⟨b,r.tO,k Z' H' x R⟩
@[simp] def zif:φ2:=λx y μ=>match x,y with
 |.int i,.int j=>some (.int (i+j),μ)
 |.tup as,.tup bs=>bif decide (as.length+bs.length<=1000000) then some (.tup (as++bs),μ) else none
 |.loc l,.loc m=>match μ[l]?,μ[m]? with
  |some (.lst as),some (.lst bs)=>bif decide (as.length+bs.length<=1000000) then some (.loc μ.length,μ++[.lst (as++bs)]) else none
  |_,_=>none
 |_,_=>none
@[simp] def z0s:φ2:=λx y μ=>match x,y with
 |.int i,.int j=>some (.int (i-j),μ)
 |_,_=>none
def zkh(i j:Int):Bool:=decide (-(2^64)<i/\i<2^64)||decide (-(2^64)<j/\j<2^64)||(decide (i.natAbs<2^1000)&&decide (j.natAbs<2^1000))
def znr{i j:Int}(h:zkh i j=true):IntMulOk i j:=by
 unfold zkh at h;rw[xR,xR,yN]at h;rcases h with (h|h)|⟨h1,h2⟩
 ·have h:=of_decide_eq_true h;exact .of_left (intBits_le_64 h.1 h.2)
 ·have h:=of_decide_eq_true h;exact .of_right (intBits_le_64 h.1 h.2)
 ·exact .of_le (m:=1000) (n:=1000) (intBits_le (of_decide_eq_true h1)) (intBits_le (of_decide_eq_true h2)) (by decide)
def zAh:φ2:=λx y μ=>match x,y with
 |.int i,.int j=>bif zkh i j then some (.int (i*j),μ) else none
 |.tup ds,.int n=>bif decide (2<=n/\n<=1000/\0<ds.length/\ds.length<=1000) then some (.tup (yg n.toNat ds).flatten,μ) else none
 |.loc l,.int n=>match μ[l]? with
  |some (.lst ds)=>bif decide (n<=1000/\-(2^62)<=n/\ds.length<=1000) then some (.loc μ.length,μ++[.lst (yg n.toNat ds).flatten]) else none
  |_=>none
 |_,_=>none
@[simp] def zKm:φ2:=λx y μ=>match x,y with
 |.int i,.int j=>bif decide (0<j) then some (.int (i%j),μ) else none
 |_,_=>none
@[simp] def zYt:φ2:=λx y μ=>match x,y with
 |.int i,.int j=>bif decide (0<j/\j<1606938044258990275541962092341162602522202993782792835301376) then some (.int (i / j),μ) else none
 |_,_=>none
def zrx:φ2:=λx y μ=>match x,y with
 |.int i,.int j=>bif decide (0<=j/\j<=100000/\i.natAbs<1606938044258990275541962092341162602522202993782792835301376) then some (.int (i^j.toNat),μ) else none
 |_,_=>none
def zP{α:Type}{c:Bool}{o:Option α}{x:α}(h:(bif c then o else none)=some x):c=true/\o=some x:=by
 cases c with
 |true=>exact⟨rfl,h⟩
 |false=>cases h
def z4m{f:yb->yb->Sem yb}{g:φ2}{C:Int->Int->Prop}{h:Int->Int->Int}(o:OpR X f (rI C λi j =>.int (h i j)))
 (w:∀x y μ d μ',g x y μ=some (d,μ')->∃i j,x=.int i/\y=.int j/\C i j/\d=.int (h i j)/\μ'=μ):OpM X f g:=by
 refine OpM.of λpins s Y H x y v u Q I rx ry Z dx dy μ d μ' r1 r2 R e k=>?_;obtain⟨i,j,rfl,rfl,hc,rfl,rfl⟩:=w _ _ _ _ _ e;refine o pins s Y H x y v u Q I rx ry ⟨i,j,r1.int_inv,r2.int_inv,hc,?_⟩;exact k Z H _ Ext.refl R .int
def zJm:OpM X (xD .Sub) z0s:=z4m (C:=λ_ _=>True) (h:=λi j=>i-j) (opI λ_ _ _ _ _ _ _ _ q=>sub_int q) λx y μ d μ' e=>by
 unfold z0s at e
 split at e
 ·cases e;exact⟨_,_,rfl,rfl,trivial,rfl,rfl⟩
 ·cases e
def zje:OpM X (xD .Mod) zKm:=z4m (h:=λi j=>i%j) zWv λx y μ d μ' e=>by
 unfold zKm at e
 split at e
 ·obtain⟨h1,e⟩:=zP e;cases e;have h2:=of_decide_eq_true h1;exact⟨_,_,rfl,rfl,h2,rfl,rfl⟩
 ·cases e
def zQu(i j:Int):Prop:=0<j/\j<1606938044258990275541962092341162602522202993782792835301376
def zjr:OpR X (xD .FloorDiv) (rI zQu λi j =>.int (i / j)):=opI λi j _ _ _ _ _ hc q=>by
 have h1:(0:Int)<j:=hc.1;have h2:j<1606938044258990275541962092341162602522202993782792835301376:=hc.2;refine floordiv_int (by omega) (by rw[Int.fdiv_eq_ediv_of_nonneg i (by omega)];exact q) (.inl (PyProof.noPylong_of_log2 ?_));have:j.natAbs.log2<200:=(Nat.log2_lt (by omega)).mpr (by rw[show 2^200=1606938044258990275541962092341162602522202993782792835301376 from rfl];omega);omega
def ztm:OpM X (xD .FloorDiv) zYt:=z4m (C:=zQu) (h:=λi j=>i / j) zjr λx y μ d μ' e=>by
 unfold zYt at e
 split at e
 ·obtain⟨h1,e⟩:=zP e;cases e;have h2:=of_decide_eq_true h1;exact⟨_,_,rfl,rfl,h2,rfl,rfl⟩
 ·cases e
@[simp] def z3j(p:Int->Int->Bool):φ2:=λx y μ=>match x,y with
 |.int i,.int j=>some (.bl (p i j),μ)
 |_,_=>none
def zKk{f:yb->yb->Sem yb}{p:Int->Int->Bool}(o:OpR X f (rI0 λi j =>.bl (p i j))):OpM X f (z3j p):=by
 refine OpM.of λpins s Y H x y v u Q I rx ry Z dx dy μ d μ' r1 r2 R e k=>?_;unfold z3j at e
 split at e
 ·cases e;exact o pins s Y H x y v u Q I rx ry ⟨_,_,r1.int_inv,r2.int_inv,k Z H _ Ext.refl R .bl⟩
 ·cases e
def zzl:OpM X (Yj .Lt) (z3j λi j=>decide (i<j)):=zKk zxw
def znw:OpM X (Yj .LtE) (z3j λi j=>decide (i<=j)):=zKk zgx
def zPq:OpM X (Yj .Gt) (z3j λi j=>decide (j<i)):=zKk z5w
def z0u:OpM X (Yj .GtE) (z3j λi j=>decide (j<=i)):=zKk zHw
@[simp] def ztw(G ψ:FE):FE:=λJ μ=>(G J μ).bind λp=>match p.1 with
 |.bl true=>ψ J p.2
 |.bl false=>some (.bl false,p.2)
 |_=>none
@[simp] def fOr(G ψ:FE):FE:=λJ μ=>(G J μ).bind λp=>match p.1 with
 |.bl false=>ψ J p.2
 |.bl true=>some (.bl true,p.2)
 |_=>none
@[simp] def z6x(G:FE):FE:=λJ μ=>(G J μ).bind λp=>match p.1 with
 |.bl b=>some (.bl (!b),p.2)
 |_=>none
def zAs{op}(h:ME X a G):ME X (.BoolOp op [a] pos) G:=zkv h
def zjw{rest:List yC}(ha:ME X a G)(hb:ME X (.BoolOp .And (b::rest) pos) ψ):ME X (.BoolOp .And (a::b::rest) pos) (ztw G ψ) :=
 zsd (zqw ha hb) λZ J μ Y H d μ' Q A e k=>by
  obtain⟨⟨x,μ1⟩,e1,e⟩:=zl e;refine⟨Z,J,μ,x,μ1,A,e1,λZ1 H1 v x1 R1 r1=>?_⟩;dsimp only at e
  split at e
  ·exact⟨true,r1.tO,sK ⟨Z1,J,μ1,d,μ',A.ext x1 R1,e,λZ2 H2 w x2 R2 r2=>k Z2 H2 w (x1.trans x2) R2 r2⟩⟩
  ·cases e;exact⟨false,r1.tO,sJ (k Z1 H1 _ x1 R1 .bl)⟩
  ·cases e
def zTw{rest:List yC}(ha:ME X a G)(hb:ME X (.BoolOp .Or (b::rest) pos) ψ):ME X (.BoolOp .Or (a::b::rest) pos) (fOr G ψ) :=
 zsd (zCw ha hb) λZ J μ Y H d μ' Q A e k=>by
  obtain⟨⟨x,μ1⟩,e1,e⟩:=zl e;refine⟨Z,J,μ,x,μ1,A,e1,λZ1 H1 v x1 R1 r1=>?_⟩;dsimp only at e
  split at e
  ·exact⟨false,r1.tO,sJ ⟨Z1,J,μ1,d,μ',A.ext x1 R1,e,λZ2 H2 w x2 R2 r2=>k Z2 H2 w (x1.trans x2) R2 r2⟩⟩
  ·cases e;exact⟨true,r1.tO,sK (k Z1 H1 _ x1 R1 .bl)⟩
  ·cases e
@[simp] def z8o(G ψ:FT):FT:=λJ μ=>(G J μ).bind λp=>bif p.1 then ψ J p.2 else some (false,p.2)
@[simp] def z0q(G ψ:FT):FT:=λJ μ=>(G J μ).bind λp=>bif p.1 then some (true,p.2) else ψ J p.2
@[simp] def z1r(G:FT):FT:=λJ μ=>(G J μ).bind λp=>some (!p.1,p.2)
def zfh{G:FE}(h:ME X a G)(he:∀whole,isTrue a X.env whole=(do let v <-whole;standAt a.pos;holding [v] (truthy v)):=by intro _;rfl):MT X a (zX G) :=
 zAu (zTv h he) λZ J μ Y H b μ' Q A e k=>⟨Z,J,μ,.bl b,μ',A,zbo e,λZ' H' v x R r=>⟨b,r.tO,k Z' H' x R⟩⟩
def MW.mt{G:FT}(h:MW X a G):MT X a G:=h _
def zQk{G:FT}(h:MT X a G):MW X (.BoolOp .And [a] pos) G:=zIu h
def zOf{G:FT}(h:MT X a G):MW X (.BoolOp .Or [a] pos) G:=zZv h
def z6n{G ψ:FT}{rest:List yC}(ha:MT X a G)(hb:MW X (.BoolOp .And (b::rest) pos) ψ):MW X (.BoolOp .And (a::b::rest) pos) (z8o G ψ) :=
 zev (zkw ha hb) λZ J μ Y H b μ' Q A e k=>by
  obtain⟨⟨x,μ1⟩,e1,e⟩:=zl e;refine⟨Z,J,μ,x,μ1,A,e1,λZ1 H1 x1 R1=>?_⟩
  cases x with
  |true=>exact sK ⟨Z1,J,μ1,b,μ',A.ext x1 R1,e,λZ2 H2 x2 R2=>k Z2 H2 (x1.trans x2) R2⟩
  |false=>
   cases e;exact sJ (k Z1 H1 x1 R1)
def z2j{G ψ:FT}{rest:List yC}(ha:MT X a G)(hb:MW X (.BoolOp .Or (b::rest) pos) ψ):MW X (.BoolOp .Or (a::b::rest) pos) (z0q G ψ) :=
 zev (zDw ha hb) λZ J μ Y H b μ' Q A e k=>by
  obtain⟨⟨x,μ1⟩,e1,e⟩:=zl e;refine⟨Z,J,μ,x,μ1,A,e1,λZ1 H1 x1 R1=>?_⟩
  cases x with
  |false=>exact sJ ⟨Z1,J,μ1,b,μ',A.ext x1 R1,e,λZ2 H2 x2 R2=>k Z2 H2 (x1.trans x2) R2⟩
  |true=>
   cases e;exact sK (k Z1 H1 x1 R1)
def zQs{G:FT}(ha:MT X a G):MT X (.UnaryOp .Not a pos) (z1r G) :=
 zAu (zVu ha) λZ J μ Y H b μ' Q A e k=>by
  obtain⟨⟨x,μ1⟩,e1,e⟩:=zl e;cases e;exact⟨Z,J,μ,x,μ1,A,e1,λZ1 H1 x1 R1=>k Z1 H1 x1 R1⟩
structure MAn(X:Cx)(es:List yC)(G:FA):Prop where
 ma:MA X es G
 len:∀J μ ds μ',G J μ=some (ds,μ')->ds.length=es.length
@[simp] def zO:FA:=λ_ μ=>some ([],μ)
@[simp] def zn(G:FE)(ψ:FA):FA:=λJ μ=>(G J μ).bind λp=>(ψ J p.2).bind λq=>some (p.1::q.1,q.2)
def zk:MAn X [] zO:=⟨zjv zii λZ J μ Y H ds μ' Q A e k=>by
 cases e;exact k Z H [] Ext.refl A.hp .nil,λ_ _ _ _ e=>by cases e;rfl⟩
def zIv:yC->Bool
 |.Starred ..=>false
 |_=>true
def zbi{e:yC}{es:List yC}{env:Env}(h:zIv e=true):yw (e::es) env=(false,Yq e env)::yw es env:=by
 cases e<;>first|rfl|cases h
def zf{G:FE}{ψ:FA}(ha:ME X e G)(hr:MAn X es ψ)(hs:yw (e::es) X.env=(false,Yq e X.env)::yw es X.env:=by exact zbi rfl):MAn X (e::es) (zn G ψ) :=
 ⟨zjv (zbf ha hr.ma hs) λZ J μ Y H ds μ' Q A e k=>by
  obtain⟨⟨x,μ1⟩,e1,e⟩:=zl e;obtain⟨⟨y,μ2⟩,e2,e⟩:=zl e;cases e;refine⟨Z,J,μ,x,μ1,A,e1,λZ1 H1 v x1 R1 r1=>?_⟩;refine⟨Z1,J,μ1,y,μ2,A.ext x1 R1,e2,λZ2 H2 u x2 R2 r2=>?_⟩;exact k Z2 H2 _ (x1.trans x2) R2 (.cons (r1.ext x2) r2),λJ μ ds μ' e=>by
  obtain⟨⟨x,μ1⟩,e1,e⟩:=zl e;obtain⟨⟨y,μ2⟩,e2,e⟩:=zl e;cases e;have:=hr.len _ _ _ _ e2;simp[this]⟩
@[simp] def zjj(G:FA):FE:=λJ μ=>(G J μ).bind λp=>some (.tup p.1,p.2)
@[simp] def zLm(G:FA):FE:=λJ μ=>(G J μ).bind λp=>some (.loc p.2.length,p.2++[.lst p.1])
def zhc{x1}{G:FA}(h:MAn X es G)(hn:es.length<=1000:=by decide):ME X (.Tuple es x1 pos) (zjj G) :=
 zsd (zcv h.ma) λZ J μ Y H d μ' Q A e k=>by
  obtain⟨⟨x,μ1⟩,e1,e⟩:=zl e;cases e;refine⟨Z,J,μ,x,μ1,A,e1,λZ1 H1 vs x1 R1 r1=>⟨?_,λp hp=>?_⟩⟩
  ·rw[<-r1.length,h.len _ _ _ _ e1];exact Ys (sm hn)
  ·exact k Z1 _ _ (x1.trans (Ext.new hp)) (R1.Tg hp) (.tup zC (r1.ext (Ext.new hp)))
def zGd{G:FA}(h:MAn X es G)(hn:es.length<=1000:=by decide):ME X (.List es pos) (zLm G) :=
 zsd (zSu h.ma) λZ J μ Y H d μ' Q A e k=>by
  obtain⟨⟨x,μ1⟩,e1,e⟩:=zl e;cases e;refine⟨Z,J,μ,x,μ1,A,e1,λZ1 H1 vs x1 R1 r1=>⟨?_,λp hp=>?_⟩⟩
  ·rw[<-r1.length,h.len _ _ _ _ e1];exact Ys (sm hn)
  ·exact k _ _ _ (x1.trans (Ext.push hp)) (R1.push hp ⟨vs,zC,r1.ext (Ext.push hp)⟩) (.loc (zrb R1))
@[simp] def zD(F:FF)(G:FA):FE:=λJ μ=>(G J μ).bind λp=>F p.1 p.2
def zCt{k n:Nat}{f:yf}{fd:yn}{ps:List yG}{F:FF}{x:yG}{p:xU}{G:FA}(φ:tw X.prog X.w X.K X.mg X.base CX0 k f fd ps (spM X.K n F))(hr:Ti k X.A)(hm:X.mg x=some (.ref f))(hk:W.keepIn X.K (.ref f)=true)(hb:Binds X.K fd ps [])
 (ha:MAn X (e::es) G) (hn:(e::es).length=n:=by rfl) (hg:Gl X x:=by rfl) (hdb:(x==("__debug__":yG))=false:=by decide) (he:yw (e::es) X.env=(false,Yq e X.env)::yw es X.env:=by exact zbi rfl) (hpl:(xn pos (yw es X.env)).any (·.1)=false:=by rfl) :
 ME X (.Call (.Name x p) (e::es) [] pos) (zD F G) :=
 zsd (zBt φ hr hg hm hk hb .nil pass0 ha.ma hdb he hpl) λZ J μ Y H d μ' Q A e k=>by
  obtain⟨⟨x,μ1⟩,e1,e⟩:=zl e;refine⟨Z,J,μ,x,μ1,A,e1,λZ1 H1 vs x1 R1 r1=>?_⟩;show spM X.K n F (vs++[]) H1 Q E0;rw[append_nil];exact⟨by rw[<-r1.length,ha.len _ _ _ _ e1];exact hn,Z1,x,μ1,d,μ',r1,R1,e,λZ2 H2 v x2 R2 r2=>k Z2 H2 v (x1.trans x2) R2 r2⟩
abbrev GL:=List D->Mem->Option (D×Mem)
def rCM(K:yx)(g:GL):List V->Hp->VK->Prop:=λvs H Q=>∃Z ds μ d μ',tj K Z H ds vs/\tF K Z H μ/\g ds μ=some (d,μ')/\∀Z' H' v,Ext Z H Z' H'->tF K Z' H' μ'->tm K Z' H' d v->Q v H'
def tU(X:Cx)(f:yb)(g:GL):Prop:=zmh X f (rCM X.K g)
def tU.of{X:Cx}{f:yb}{g:GL}(h:∀(pins:List (yf×YY)) (s:yd) (Y:L2.St) (H:Hp) (xs:List V) (us:List yb) (Q:VK),Inv X pins Y H s->Vals xs us->∀(Z:List yf)(ds:List D)(μ:Mem)(d:D)(μ':Mem),tj X.K Z H ds xs->tF X.K Z H μ->g ds μ=some (d,μ')->(∀Z' H' v,Ext Z H Z' H'->tF X.K Z' H' μ'->tm X.K Z' H' d v->Q v H')->yp (yz X.prog X.w) X.A (call f us) (EP X pins Y Q) X.xe s):tU X f g:=by
 intro pins s Y H xs us Q I r hh;obtain⟨Z,ds,μ,d,μ',r1,R,e,k⟩:=hh;exact h pins s Y H xs us Q I r Z ds μ d μ' r1 R e k
def zvx{g:GL}{G:FA}{Z:List yf}{J:Loc}{μ:Mem}{Y:L2.St}{H:Hp}{d:D}{μ':Mem}{Q:VK}(A:At X.K Z H Y J μ)(e:zD g G J μ=some (d,μ'))
 (k:∀Z' H' v,Ext Z H Z' H'->tF X.K Z' H' μ'->tm X.K Z' H' d v->Q v H'):tCB (rCM X.K g) (tMA X.K G) Y H Q:=by
 obtain⟨⟨x,μ1⟩,e1,e⟩:=zl e;exact⟨Z,J,μ,x,μ1,A,e1,λZ1 H1 vs x1 R1 r1=>⟨Z1,x,μ1,d,μ',r1,R1,e,λZ2 H2 v x2 R2 r2=>k Z2 H2 v (x1.trans x2) R2 r2⟩⟩
def zF{g:GL}{id:String}{x:yG}{p:xU}{G:FA}(hc:tU X (.builtin id) g)(hm:X.mg x=none)(hv:yH x=some (.builtin id))(ha:MAn X (e::es) G)(hg:Gl X x:=by rfl)(hn:x≠"__name__":=by decide)(hdb:(x==("__debug__":yG))=false:=by decide)
 (he:yw (e::es) X.env=(false,Yq e X.env)::yw es X.env:=by exact zbi rfl) (hpl:(xn pos (yw es X.env)).any (·.1)=false:=by rfl):ME X (.Call (.Name x p) (e::es) [] pos) (zD g G) :=
 zsd (zEn hc hg hm hv ha.ma hn hdb he hpl) λ_ _ _ _ _ _ _ _ A e k=>zvx A e k
def zRe{g:GL}{T:String}{x:yG}{p:xU}{G:FA}(hc:tU X (.type T) g)(hm:X.mg x=none)(hv:yH x=some (.type T))(ha:MAn X (e::es) G)(hg:Gl X x:=by rfl)(hn:x≠"__name__":=by decide)(hdb:(x==("__debug__":yG))=false:=by decide)
 (he:yw (e::es) X.env=(false,Yq e X.env)::yw es X.env:=by exact zbi rfl) (hpl:(xn pos (yw es X.env)).any (·.1)=false:=by rfl):ME X (.Call (.Name x p) (e::es) [] pos) (zD g G) :=
 zsd (zxf hc hg hm hv ha.ma hn hdb he hpl) λ_ _ _ _ _ _ _ _ A e k=>zvx A e k
variable {K:yx}{Z:List yf}{H:Hp}{μ:Mem}
@[simp] def items(μ:Mem):D->Option (List D)
 |.tup ds=>some ds
 |.fz ds=>some ds
 |.loc n=>match μ[n]? with
  |some (.lst ds)=>some ds
  |_=>none
 |_=>none
def zne{d:D}{v:V}{ds:List D}(R:tF K Z H μ)(r:tm K Z H d v)(e:items μ d=some ds):∃p vs,v=.ref p/\(SqL K H p vs\/SqT K H p vs)/\tj K Z H ds vs:=by
 unfold items at e
 split at e
 ·cases e;obtain⟨a,vs,e1,e2,q⟩:=r.tT;exact⟨a,vs,e1,.inr (SqT.of e2),q⟩
 ·cases e;obtain⟨a,vs,e1,e2,q⟩:=r.TJ;exact⟨a,vs,e1,.inl e2.sq,q⟩
 ·split at e
  ·rename_i h
   cases e;obtain⟨a,e1,e2⟩:=r.tx;obtain⟨vs,e3,q⟩:=R.at_ _ _ _ e2 h;exact⟨a,vs,e1,.inl (SqL.of e3),q⟩
  ·cases e
 ·cases e
@[simp] def gIx:φ2:=λx y μ=>match y with
 |.int i=>(items μ x).bind λds=>(atI ds i).bind λd=>some (d,μ)
 |_=>none
def z3t{K:yx}{Z:List yf}{H:Hp}{ds:List D}{vs:List V}{i:Int}{d:D}(r:tj K Z H ds vs)(e:atI ds i=some d):∃v,atI vs i=some v/\tm K Z H d v:=by
 unfold atI at e ⊢;rw[r.length]at e;obtain⟨j,e1,e2⟩:=zl e;obtain⟨v,e3,q⟩:=r.get e2;exact⟨v,by rw[e1];exact e3,q⟩
def ixM:IxR X (rM X.K gIx):=by
 intro value slice pins s Y H x y v u Q I rx ry ⟨Z,dx,dy,μ,d,μ',r1,r2,R,e,k⟩ hs;unfold gIx at e
 split at e
 ·obtain⟨ds,e1,e⟩:=zl e;obtain⟨d',e2,e⟩:=zl e;cases e;obtain⟨p,vs,rfl,hq,rr⟩:=zne R r1 e1;obtain⟨w,e3,q⟩:=z3t rr e2;rcases hq with hq|hq
  ·exact zLs value slice pins s Y H _ y v u Q I rx ry (.inl ⟨p,vs,_,w,rfl,r2.int_inv,hq,e3,k Z H w Ext.refl R q⟩) hs
  ·exact zLs value slice pins s Y H _ y v u Q I rx ry (.inr (.inl ⟨p,vs,_,w,rfl,r2.int_inv,hq,e3,k Z H w Ext.refl R q⟩)) hs
 ·cases e
def zE(ha:ME X a G)(hb:ME X b ψ)(hs:zBk b:=by exact λ_ _=>rfl):ME X (.Subscript a b pos) (zz gIx G ψ) :=
 zsd (zzt ixM ha hb hs) λ_ _ _ _ _ _ _ _ A e k=>zap A e k
@[simp] def zjf:GL:=λds μ=>match ds with
 |[d]=>(items μ d).bind λxs=>some (.int xs.length,μ)
 |_=>none
def zH:tU X (.builtin "len") zjf:=by
 refine tU.of λpins s Y H xs us Q I r Z ds μ d μ' r1 R e k=>?_;unfold zjf at e
 split at e
 ·obtain⟨ds,e1,e⟩:=zl e;cases e;obtain⟨v,rr,rfl,q1,q2⟩:=r1.cons_inv;have q2:=q2.nil_inv;subst q2;obtain⟨p,vs,rfl,hq,rr⟩:=zne R q1 e1;exact zFl pins s Y H _ us Q I r ⟨p,vs,rfl,hq,k Z H _ Ext.refl R (by rw[rr.length];exact .int)⟩
 ·cases e
@[simp] def zdq:GL:=λds μ=>match ds with
 |[d]=>(items μ d).bind λxs=>some (.loc μ.length,μ++[.lst xs])
 |_=>none
def zXj:tU X (.type "list") zdq:=by
 refine tU.of λpins s Y H xs us Q I r Z ds μ d μ' r1 R e k=>?_;unfold zdq at e
 split at e
 ·obtain⟨ds,e1,e⟩:=zl e;cases e;obtain⟨v,rr,rfl,q1,q2⟩:=r1.cons_inv;have q2:=q2.nil_inv;subst q2;obtain⟨p,vs,rfl,hq,rr⟩:=zne R q1 e1;exact zml pins s Y H _ us Q I r ⟨p,vs,rfl,hq,λl hl=>k _ _ _ (Ext.push hl) (R.push hl ⟨vs,zC,rr.ext (Ext.push hl)⟩) (.loc (zrb R))⟩
 ·cases e
@[simp] def zfj:GL:=λds μ=>match ds with
 |[.tup xs]=>some (.tup xs,μ)
 |[d]=>(items μ d).bind λxs=>some (.tup xs,μ)
 |_=>none
def zpi:tU X (.type "tuple") zfj:=by
 refine tU.of λpins s Y H xs us Q I r Z ds μ d μ' r1 R e k=>?_
 have key:∃x ys,ds=[x]/\items μ x=some ys/\d=.tup ys/\μ'=μ:=by
  unfold zfj at e
  split at e
  ·cases e;exact⟨_,_,rfl,rfl,rfl,rfl⟩
  ·obtain⟨ds,e1,e⟩:=zl e;cases e;exact⟨_,_,rfl,e1,rfl,rfl⟩
  ·cases e
 obtain⟨x,ys,rfl,e1,rfl,rfl⟩:=key;obtain⟨v,rr,rfl,q1,q2⟩:=r1.cons_inv;have q2:=q2.nil_inv;subst q2
 cases x with
 |tup zs=>
  cases e1;obtain⟨a,vs,rfl,e2,q⟩:=q1.tT;exact zVd pins s Y H _ us Q I r ⟨a,vs,rfl,.inr ⟨SqT.of e2,k Z H _ Ext.refl R q1⟩⟩
 |fz zs=>
  cases e1;obtain⟨a,vs,rfl,e2,q⟩:=q1.TJ;exact zVd pins s Y H _ us Q I r ⟨a,vs,rfl,.inl ⟨e2.sq,λl hl=>k Z _ _ (Ext.new hl) (R.Tg hl) (.tup zC (q.ext (Ext.new hl)))⟩⟩
 |loc n=>
  unfold items at e1;dsimp only at e1
  split at e1
  ·rename_i h
   cases e1;obtain⟨a,rfl,e2⟩:=q1.tx;obtain⟨vs,e3,q⟩:=R.at_ _ _ _ e2 h;exact zVd pins s Y H _ us Q I r ⟨a,vs,rfl,.inl ⟨SqL.of e3,λl hl=>k Z _ _ (Ext.new hl) (R.Tg hl) (.tup zC (q.ext (Ext.new hl)))⟩⟩
  ·cases e1
 |_=>cases e1
end
def z3l{prog:yy}{w:yL}{A:yR}{R:Result->yd->Prop}{s:yd}{elt target iter:yC}{ifs:List yC}{scope:Xa}{pos:xU}{it acc:yb}{env:Env}(I:Nat->yd->Prop)
 (turn:∀n s,I n s->yp (yz prog w) A (xo it) (λr s₁=>match r with
  |none=>R (.ok .next) s₁
  |some v=>yp (yz prog w) A (letOwnedTupleGo target it v) (λ_ s₁'=>yp (yz prog w) A (assign target env v) (λ_ s₂=>
   yp (yz prog w) A (forIn ifs true λc r=>if r=true then do let ok <-isTrue c env (Yq c env);pure (YO ok) else pure (YO r)) (λok s₃=>
    if ok=true then yp (yz prog w) A (Yq elt env) (λx s₄=>
     yp (yz prog w) A (call (.builtin "list.append") [acc,x]) (λ_ s₅=>∃m,m<n/\I m s₅) (λ_ _=>False) s₄) (λ_ _=>False) s₃
    else ∃m,m<n/\I m s₃) (λ_ _=>False) s₂) (λ_ _=>False) s₁') (λ_ _=>False) s₁) (λ_ _=>False) s)
 (n:Nat) (h:I n s) :
 codeAny (yz prog w) A (.compLoop (.ListComp elt [⟨target,iter,ifs,0⟩] scope pos) 0 it acc env) R s:=by
 refine codeAny_loop rfl I (λn s hI=>?_) n h;show yp _ A ((compTurn (.ListComp elt [⟨target,iter,ifs,0⟩] scope pos) 0 it acc env).onRaise (λx=>do noteFrame x env;theTreesLotGoes x)) _ _ s;refine wpAny_noted ?_;rw[compTurn_list];refine ya (xy (ya (YZ (turn n s hI) (λr s₁ h₁=>?_) λ_ _ h'=>h'.elim)))
 cases r with
 |none=>exact ye h₁
 |some v=>
  refine ya (YZ h₁ (λ_ s₁' h₁=>?_) λ_ _ h'=>h'.elim);refine ya (YZ h₁ (λ_ s₂ h₂=>ya (YZ h₂ (λok s₃ h₃=>?_) λ_ _ h'=>h'.elim)) λ_ _ h'=>h'.elim)
  cases ok with
  |false=>exact ye ⟨rfl,h₃⟩
  |true=>
   exact ya (ya (YZ h₃ (λx s₄ h₄=>ya (YZ h₄ (λ_ s₅ h₅=>ye (ye ⟨rfl,h₅⟩)) λ_ _ h'=>h'.elim)) λ_ _ h'=>h'.elim))
def zvb(cells:List (yG×yf)):List (yG×YX)->List (yG×yf)->List (yG×yf)
 |[],acc=>acc
 |(n,k)::r,acc=>zvb cells r (if k == .free then(match cells.lookup n with|some c=>(n,c)::acc|none=>acc) else acc)
def zWg{env:Env}:∀(names:List (yG×YX)) (acc:List (yG×yf)),(∀x∈names,x.2=.free->∃c,env.cells.lookup x.1=some c) ->
 (forIn names acc λ(x:yG×YX) (cs:List (yG×yf))=>(match x with|(name,kind)=>if kind == .free then do let c <-cellOf env name;pure (YO ((name,c)::cs)) else pure (YO cs):Sem (ForInStep (List (yG×yf)))))=(pure (zvb env.cells names acc):Sem (List (yG×yf)))
 |[],acc,_=>rfl
 |(n,k)::r,acc,h=>by
  have ih:=λacc'=>zWg r acc' λx hx=>h x (mem_cons_of_mem _ hx);rw[List.forIn_cons]
  by_cases hk:k=.free
  ·subst hk;obtain⟨c,hc⟩:=h (n,.free) mem_cons_self rfl;have e:cellOf env n=pure c:=by unfold cellOf;rw[hc]
   have:zvb env.cells ((n,yt)::r) acc=zvb env.cells r ((n,c)::acc):=by
    show zvb env.cells r (if(yt==yt)=true then(match env.cells.lookup n with|some c=>(n,c)::acc|none=>acc) else acc)=_;rw[hc];rfl
   rw[this,<-ih];show((do let c <-cellOf env n;pure (YO ((n,c)::acc))) >>= _:Sem _)=_;rw[e];rfl
  ·have hb:(k==yt)=false:=by simpa using hk
   have:zvb env.cells ((n,k)::r) acc=zvb env.cells r acc:=by
    show zvb env.cells r (if(k==yt)=true then _ else acc)=_;rw[hb];rfl
   rw[this,<-ih];simp only[hb,xM,if_false];rfl
def zAj{scope:Xa}{env:Env}(h:∀x∈scope.names,x.2=.free->∃c,env.cells.lookup x.1=some c):closureFor scope env=pure (zvb env.cells scope.names []):=by
 have e:=zWg (env:=env) scope.names [] h;unfold closureFor;show(forIn scope.names [] _ >>= λr=>pure r:Sem _)=_;rw[show(forIn scope.names ([]:List (yG×yf)) λ(x:yG×YX) (r:List (yG×yf))=>(match x with|(name,kind)=>if kind == .free then do let c <-cellOf env name;pure (YO ((name,c)::r)) else pure (YO r):Sem (ForInStep (List (yG×yf)))))=pure (zvb env.cells scope.names []) from e];rfl
def zRk{cells:List (yG×yf)}{x:yG}{c:yf}:∀(names:List (yG×YX)) (acc:List (yG×yf)),(zvb cells names acc).lookup x=some c->acc.lookup x=some c\/cells.lookup x=some c
 |[],_,h =>.inl h
 |(n,k)::r,acc,h=>by
  rcases zRk r _ h with q|q
  ·by_cases hk:(k==yt)=true
   ·rw[if_pos hk]at q
    cases e:cells.lookup n with
    |none=>rw[e]at q;exact .inl q
    |some a=>
     rw[e]at q;simp only[lookup_cons]at q
     by_cases hx:(x==n)=true
     ·rw[hx]at q;have hx':x=n:=by simpa using hx
      subst hx';cases q;exact .inr e
     ·have hx':(x==n)=false:=by simpa using hx
      rw[hx']at q;exact .inl q
   ·rw[if_neg hk]at q;exact .inl q
  ·exact .inr q
def zqp{cells:List (yG×yf)}{x:yG}:∀(names:List (yG×YX)) (acc:List (yG×yf)),(acc.lookup x).isSome=true->((zvb cells names acc).lookup x).isSome=true
 |[],_,h=>h
 |(n,k)::r,acc,h=>by
  refine zqp r _ ?_
  by_cases hk:(k==yt)=true
  ·rw[if_pos hk]
   cases e:cells.lookup n with
   |none=>exact h
   |some a=>
    simp only[lookup_cons]
    by_cases hx:(x==n)=true
    ·rw[hx];rfl
    ·have hx':(x==n)=false:=by simpa using hx
     rw[hx'];exact h
  ·rw[if_neg hk];exact h
def z1s{cells:List (yG×yf)}{x:yG}{c:yf}(hc:cells.lookup x=some c):∀(names:List (yG×YX)) (acc:List (yG×yf)),(x,yt)∈names->((zvb cells names acc).lookup x).isSome=true
 |[],_,h=>by cases h
 |(n,k)::r,acc,h=>by
  rcases List.mem_cons.mp h with h|h
  ·cases h;refine zqp r _ ?_;rw[if_pos (by rfl),hc];simp[lookup_cons]
  ·exact z1s hc r _ h
def cxC(X:Cx)(own:List yG)(fr:List Nat)(scope:Xa)(cl:List (yG×yf))(C:yf)(s₀:yd)(H₀:Hp)(fp:List yf):Cx :=
 {X with N:=own++fr.map λi=>X.N.getD i Str.empty,s₀:=s₀,H₀:=H₀,env:=compEnvC scope cl C X.env,outer:=X.stack,ex:=fp,fn:=λx=>scope.names.lookup x==some .cell,xe:=λ_ _=>False }
def σC(n:Nat)(fr:List Nat)(Y:L2.St):L2.St:=yg n none++fr.map λi=>(Y[i]?).getD none
def zgu(Y Y':L2.St):Prop:=Y'.length=Y.length/\∀(i:Nat) v,Y[i]?=some (some v)->Y'[i]?=some (some v)
def PF(X:Cx)(ifs:List yC)(t:TT):Prop:=∀(pins:List (yf×YY)) (s:yd) (Y:L2.St) (H:Hp) (Q:Bool->Hp->Prop),Inv X pins Y H s->t Y H Q ->
 yp (yz X.prog X.w) X.A (forIn ifs true λc r=>if r=true then do let ok <-isTrue c X.env (Yq c X.env);pure (YO ok) else pure (YO r)) (TP X pins Y Q) X.xe s
def z9u{X:Cx}:PF X [] (λY H Q=>Q true H):=λpins s Y H Q I h=>wpAny_tests_nil ⟨H,I,h⟩
def zbv{X:Cx}{c:yC}{t:TT}(h:PT X c t):PF X [c] t:=λpins s Y H Q I hw=>wpAny_tests_one (h pins s Y H Q I hw)
def tLC(n:Nat)(fr:List Nat)(wi:TI)(g:TG)(tc:TT)(te:TE):TE:=λY H Q=>wi Y H λδ H1=>∃W:Nat->Nat->List V->Hp->Prop,(∃m,W 0 m [] H1)/\∀i m ys H,W i m ys H ->
 (δ.stop i H/\∀p,H p=none->Q (.ref p) (upd H p (.lst ys))) \/
 (δ.go i H/\ys.length<yF/\∀x H',δ.yld i H x H'->g x (σC n fr Y) H' λY2 H2=>zgu (σC n fr Y) Y2/\tc Y2 H2 λb H3=>
  if b=true then te Y2 H3 λy H4=>∃m',m'<m/\W (i+1) m' (ys++[y]) H4 else ∃m',m'<m/\W (i+1) m' ys H3)
section
variable {X:Cx}{own:List yG}{fr:List Nat}{scope:Xa}{pins:List (yf×YY)}{Y:L2.St}{H:Hp}{s:yd}
def zud{env:Env}{x:yG}{k:YX}:∀{names:List (yG×YX)},(names.map λ(n,k)=>if(k==yt&&env.scope.kind == .function&&env.kindOf n==some .cell) then(n,yO) else(n,k)).lookup x=some k ->
 (k=.cell\/k=.free)->(x,yt)∈names\/(x,yO)∈names
 |[],h,_=>by simp at h
 |(n,k')::r,h,hk=>by
  rw[map_cons]at h
  by_cases hx:x=n
  ·subst hx
   by_cases hb:(k'==yt&&env.scope.kind == .function&&env.kindOf x==some .cell)=true
   ·have:k'=.free:=by
     simp only[yN,beq_iff_eq]at hb;exact hb.1.1
    subst this;exact .inl mem_cons_self
   ·have h2:((x,k')::r.map λ(n,k)=>if(k==yt&&env.scope.kind == .function&&env.kindOf n==some .cell) then(n,yO) else(n,k)).lookup x=some k:=by
     have e:(if(k'==yt&&env.scope.kind == .function&&env.kindOf x==some .cell)=true then(x,yO) else(x,k'))=(x,k'):=if_neg hb;rw[<-e];exact h
    simp only[lookup_cons,beq_self_eq_true]at h2;cases h2;rcases hk with rfl|rfl
    ·exact .inr mem_cons_self
    ·exact .inl mem_cons_self
  ·have hx':(x==n)=false:=by simpa using hx
   have h2:(r.map λ(n,k)=>if(k==yt&&env.scope.kind == .function&&env.kindOf n==some .cell) then(n,yO) else(n,k)).lookup x=some k:=by
    by_cases hb:(k'==yt&&env.scope.kind == .function&&env.kindOf n==some .cell)=true
    ·have e:(if(k'==yt&&env.scope.kind == .function&&env.kindOf n==some .cell)=true then(n,yO) else(n,k'))=(n,yO):=if_pos hb;have h3:((n,yO)::r.map λ(n,k)=>if(k==yt&&env.scope.kind == .function&&env.kindOf n==some .cell) then(n,yO) else(n,k)).lookup x=some k:=by rw[<-e];exact h
     simpa only[lookup_cons,hx'] using h3
    ·have e:(if(k'==yt&&env.scope.kind == .function&&env.kindOf n==some .cell)=true then(n,yO) else(n,k'))=(n,k'):=if_neg hb;have h3:((n,k')::r.map λ(n,k)=>if(k==yt&&env.scope.kind == .function&&env.kindOf n==some .cell) then(n,yO) else(n,k)).lookup x=some k:=by rw[<-e];exact h
     simpa only[lookup_cons,hx'] using h3
   rcases zud h2 hk with q|q
   ·exact .inl (mem_cons_of_mem _ q)
   ·exact .inr (mem_cons_of_mem _ q)
def z5g{env:Env}{x:yG}:∀{names:List (yG×YX)},names.lookup x=some .free ->
 (names.map λ(n,k)=>if(k==yt&&env.scope.kind == .function&&env.kindOf n==some .cell) then(n,yO) else(n,k)).lookup x=some .cell \/
 (names.map λ(n,k)=>if(k==yt&&env.scope.kind == .function&&env.kindOf n==some .cell) then(n,yO) else(n,k)).lookup x=some .free
 |[],h=>by simp at h
 |(n,k')::r,h=>by
  rw[map_cons]
  by_cases hx:x=n
  ·subst hx;simp only[lookup_cons,beq_self_eq_true]at h;cases h
   by_cases hb:(yt==yt&&env.scope.kind == .function&&env.kindOf x==some .cell)=true
   ·have e:(if(yt==yt&&env.scope.kind == .function&&env.kindOf x==some .cell)=true then(x,yO) else(x,yt))=(x,yO):=if_pos hb
    left
    show List.lookup x ((if(yt==yt&&env.scope.kind == .function&&env.kindOf x==some .cell)=true then(x,yO) else(x,yt))::_)=_;rw[e];simp[lookup_cons]
   ·have e:(if(yt==yt&&env.scope.kind == .function&&env.kindOf x==some .cell)=true then(x,yO) else(x,yt))=(x,yt):=if_neg hb
    right
    show List.lookup x ((if(yt==yt&&env.scope.kind == .function&&env.kindOf x==some .cell)=true then(x,yO) else(x,yt))::_)=_;rw[e];simp[lookup_cons]
  ·have hx':(x==n)=false:=by simpa using hx
   simp only[lookup_cons,hx']at h;have ih:=z5g (env:=env) h
   have step:∀k,(r.map λ(n,k)=>if(k==yt&&env.scope.kind == .function&&env.kindOf n==some .cell) then(n,yO) else(n,k)).lookup x=some k ->
    List.lookup x ((if(k'==yt&&env.scope.kind == .function&&env.kindOf n==some .cell)=true then(n,yO) else(n,k'))::(r.map λ(n,k)=>if(k==yt&&env.scope.kind == .function&&env.kindOf n==some .cell) then(n,yO) else(n,k)))=some k:=λk hk=>by
     by_cases hb:(k'==yt&&env.scope.kind == .function&&env.kindOf n==some .cell)=true
     ·rw[if_pos hb];simpa only[lookup_cons,hx'] using hk
     ·rw[if_neg hb];simpa only[lookup_cons,hx'] using hk
   rcases ih with ih|ih
   ·exact .inl (step _ ih)
   ·exact .inr (step _ ih)
def zPm{b:yf}(I:Inv X pins Y H s)(h1:b≠X.env.locals)(h2:b∉X.fs):b∉frs X.stack:=λz=>
 (List.mem_cons.mp (I.sv b z)).elim h1 h2
def σC_get{n:Nat}{i:Nat}{v:V}(h:(σC n fr Y)[i]?=some (some v)):n<=i/\∃j,fr[i-n]?=some j/\Y[j]?=some (some v):=by
 unfold σC at h
 by_cases hi:i<n
 ·rw[yu (by simpa using hi),Yn]at h
  split at h<;>cases h
 ·have hi:n<=i:=Nat.le_of_not_lt hi;rw[yJ (by simpa using hi),length_replicate,yj]at h
  cases e:fr[i-n]? with
  |none=>rw[e]at h;cases h
  |some j=>
   rw[e]at h;refine⟨hi,j,rfl,?_⟩;have h':(Y[j]?).getD none=some v:=yY h
   cases e2:Y[j]? with
   |none=>rw[e2]at h';cases h'
   |some o=>rw[e2]at h';exact congrArg some h'
def zIj:∀(names:List (yG×YX)) (n:Nat) (acc:List (yG×yf)),Yg n names acc=Yg n names []++acc
 |[],n,acc=>rfl
 |(x,k)::r,n,acc=>by
  unfold Yg
  split
  ·rw[zIj r (n+1) ((x,n)::acc),zIj r (n+1) [(x,n)]];simp
  ·exact zIj r n acc
def zrj:∀(names:List (yG×YX)) (n:Nat) (x:yG) (c:yf),(x,c)∈Yg n names []->n<=c/\(x,yO)∈names
 |[],n,x,c,h=>by cases h
 |(y,k)::r,n,x,c,h=>by
  unfold Yg at h
  split at h
  ·rename_i hk
   rw[zIj]at h;rcases List.mem_append.mp h with h|h
   ·obtain⟨h1,h2⟩:=zrj r (n+1) x c h;exact⟨Nat.le_of_succ_le h1,mem_cons_of_mem _ h2⟩
   ·have e:(x,c)=(y,n):=by simpa using h
    cases e;rw[beq_iff_eq.mp hk];exact⟨yi _,mem_cons_self⟩
  ·obtain⟨h1,h2⟩:=zrj r n x c h;exact⟨h1,mem_cons_of_mem _ h2⟩
def zcn{names:List (yG×YX)}{n:Nat}{acc:List (yG×yf)}{x:yG}{c:yf}(h:(Yg n names acc).lookup x=some c):(Yg n names []).lookup x=some c\/((Yg n names []).lookup x=none/\acc.lookup x=some c):=by
 rw[zIj,List.lookup_append]at h
 cases e:(Yg n names []).lookup x with
 |none=>rw[e]at h;exact .inr ⟨rfl,h⟩
 |some d=>rw[e]at h;exact .inl h
def zmu{names:List (yG×YX)}{n:Nat}{x:yG}(hn:∀y∈names,names.lookup y.1=some y.2)(h:(x,yt)∈names):(Yg n names []).lookup x=none:=by
 cases e:(Yg n names []).lookup x with
 |none=>rfl
 |some c=>
  have h1:=hn _ (zrj _ _ _ _ (yT e)).2;have h2:=hn _ h;rw[h1]at h2;cases h2
def zfs{fp:List yf}{D C:yf}{lo:Nat}{h1:yW}{t:Nat}{mC:yG->Option yb}{oD:YY}(I:Inv X pins Y H s)(hf:∀b∈fp,zum X pins H b)(hfl:∀b∈fp,b<s.heap.objs.size)
 (hk:scope.kind=.function) (hnm:∀y∈scope.names,scope.names.lookup y.1=some y.2) (hfree:∀x∈scope.names,x.2=.free->(X.env.kindOf x.1=some .cell\/X.env.kindOf x.1=some .free))
 (hfr:∀i∈fr,∃x,X.N[i]?=some x/\scope.names.lookup x=some .free) (hlo:C<lo) (hOC:CellsOk h1 lo (Yg lo scope.names []))
 (old:∀b o,s.heap.get? b=some o->h1.get? b=some o) (hD:s.heap.objs.size<=D) (hC:s.heap.objs.size<=C) (hDC:D≠C) (hDlo:D<lo) (eD:h1.get? D=some oD) (dD:∀v,oD.data≠.cell v) (nC:h1.Ns C mC) :
 Inv (cxC X own fr scope (Yg lo scope.names (zvb X.env.cells scope.names [])) C s H fp) (pins++[(D,oD)]) (σC own.length fr Y) H {s with heap:=h1,toks:=t }:=by
 have cl1:∀x c,(zvb X.env.cells scope.names []).lookup x=some c->X.env.cells.lookup x=some c:=λx c e=>by
  rcases zRk _ _ e with q|q
  ·cases q
  ·exact q
 have clH:∀x,(x,yt)∈scope.names->∃c,(Yg lo scope.names (zvb X.env.cells scope.names [])).lookup x=some c/\X.env.cells.lookup x=some c:=λx hx=>by
  obtain⟨c,hc⟩:=I.ok.has x (hfree _ hx rfl);obtain⟨c',hc'⟩:=Option.isSome_iff_exists.mp (z1s hc scope.names [] hx);exact⟨c',by rw[zIj,List.lookup_append,zmu hnm hx];exact hc',cl1 _ _ hc'⟩
 have two:∀x c,(Yg lo scope.names (zvb X.env.cells scope.names [])).lookup x=some c->((Yg lo scope.names []).lookup x=some c/\lo<=c)\/X.env.cells.lookup x=some c:=λx c e=>by
  rcases zcn e with q|⟨_,q⟩
  ·exact .inl ⟨q,(zrj _ _ _ _ (yT q)).1⟩
  ·exact .inr (cl1 _ _ q)
 have oldc:∀x c,X.env.cells.lookup x=some c->c<s.heap.objs.size:=λx c e=>by
  obtain⟨v,o,ho,_⟩:=I.cell x c e;exact ym ho
 have hslo:s.heap.objs.size<=lo:=yB hC (Ys hlo)
 refine⟨⟨I.ok.mod,hk,I.ok.glob,I.ok.blt,hC,λx y c e1 e2=>?inj,λx hx=>?_,λx c hx e=>?cab,I.ok.hd,I.ok.frames,.inl rfl,λb hb=>⟨?_,λx c e=>?exf⟩,I.bs,yB I.ok.bsz I.sz,λb o e hb=>?_,λb hb=>?_,I.stack,I.sP⟩,
  rfl,I.bare,Un.kept old,⟨mC,nC,λi x v h1 h2 h3=>?_⟩,λx c e=>?cell,I.hok.fresh hC,λx c e=>?freeC,λp hp=>?_,I.hok.kept old,?_⟩
 case inj=>
  rcases two x c e1 with ⟨q1,l1⟩|q1
  ·rcases two y c e2 with ⟨q2,_⟩|q2
   ·exact name_of_addr hOC.apart (yT q1) (yT q2)
   ·exact absurd (yA (oldc y c q2) (yB hslo l1)) (Ye _)
  ·rcases two y c e2 with ⟨_,l2⟩|q2
   ·exact absurd (yA (oldc x c q1) (yB hslo l2)) (Ye _)
   ·exact I.ok.inj x y c q1 q2
 case cab=>
  have hx:(scope.names.lookup x==some .cell)=true:=hx;obtain⟨d,hd⟩:=Option.isSome_iff_exists.mp (W.cellsFrom_some scope.names lo [] (.inl (beq_iff_eq.mp hx)));rcases zcn (show(Yg lo scope.names (zvb X.env.cells scope.names [])).lookup x=some c from e) with q|⟨q,_⟩
  ·exact yB hslo (zrj _ _ _ _ (yT q)).1
  ·rw[q]at hd;cases hd
 case exf=>
  rcases two x c e with ⟨_,l⟩|q
  ·exact yV (yA (hfl b hb) (yB hslo l))
  ·exact(hf b hb).2.2.2.2.1 x c q
 case cell=>
  rcases two x c e with ⟨q,_⟩|q
  ·exact⟨none,(hOC.empty x c (yT q)).1⟩
  ·obtain⟨v,o,ho,hd⟩:=I.cell x c q;exact⟨v,o,old _ _ ho,hd⟩
 case freeC=>
  rcases two x c e with ⟨_,l⟩|q
  ·exact I.hok.fresh (yB hslo l)
  ·exact I.freeC x c q
 ·have hx':(relabel scope X.env).names.lookup x=some .cell\/(relabel scope X.env).names.lookup x=some .free:=hx
  have hm:(x,yt)∈scope.names\/(x,yO)∈scope.names:=by
   rcases hx' with h|h
   ·exact zud (env:=X.env) h (.inl rfl)
   ·exact zud (env:=X.env) h (.inr rfl)
  rcases hm with hm|hm
  ·obtain⟨c,e,_⟩:=clH x hm;exact⟨c,e⟩
  ·exact Option.isSome_iff_exists.mp (W.cellsFrom_some scope.names lo _ (.inl (hnm _ hm)))
 ·exact yq (yA (hfl b hb) hC)
 ·rcases(hf b hb).2.2.2.1 with z|z
  ·exact I.ok.sU b o e z
  ·exact absurd (yA (ym e) (yB I.ok.bsz z)) (Ye _)
 ·exact zPm I (hf b hb).2.1 (hf b hb).2.2.1
 ·obtain⟨hi,j,e1,e2⟩:=σC_get h2;have hjm:j∈fr:=mem_of_getElem? e1;obtain⟨y,ey,ly⟩:=hfr j hjm
  have hxy:x=y:=by
   have h1':(own++fr.map λi=>X.N.getD i Str.empty)[i]?=some x:=h1;rw[yJ hi,yj,e1]at h1';have h1'':X.N.getD j Str.empty=x:=yY h1';rw[getD_eq_getElem?_getD,ey]at h1'';exact h1''.symm
  subst hxy;have hm:(x,yt)∈scope.names:=yT ly
  have hv:Vis X.env.scope x:=by
   rcases hfree _ hm rfl with q|q
   ·exact .inr (.inl q)
   ·exact .inr (.inr q)
  obtain⟨m,hn,hl⟩:=id I.loc;obtain⟨u,ru,q⟩:=hl j x v ey e2 hv;obtain⟨c,c1,c2⟩:=clH x hm;refine⟨u,ru,.inr ⟨z5g (env:=X.env) ly,c,c1,?_⟩⟩;rcases q with ⟨k,_⟩|⟨k,c',e',z⟩
  ·rcases hfree _ hm rfl with q|q
   ·rw[show X.env.kindOf (x,yt).1=X.env.kindOf x from rfl,k]at q;cases q
   ·rw[show X.env.kindOf (x,yt).1=X.env.kindOf x from rfl,k]at q;cases q
  ·rw[c2]at e';cases e';obtain⟨o,ho,hd⟩:=z;exact⟨o,old _ _ ho,hd⟩
 ·have hp':p∈X.pn++(pins++[(D,oD)]):=hp;rw[<-append_assoc]at hp';rcases List.mem_append.mp hp' with hp'|hp'
  ·obtain⟨a1,a2,a3,a4,a5⟩:=I.pin p hp';exact⟨old _ _ a1,a2,yq (yA (ym a1) hC),zPm I a3 a4,a5⟩
  ·have:p=(D,oD):=by simpa using hp'
   subst this;refine⟨eD,I.hok.fresh hD,hDC,λz=>?_,dD⟩;rcases List.mem_cons.mp (I.sv _ z) with z|z
   ·exact absurd (yA I.lt (z▸hD)) (Ye _)
   ·exact I.nofs hD z
 ·show(σC own.length fr Y).length=(own++fr.map λi=>X.N.getD i Str.empty).length;unfold σC;simp
end
def HOk.track{P:yy}{w:yL}{H:Hp}{h:yW}{a:yf}{o:HO}(x:HOk P w H h)(hn:H a=none)(new:tJ P w (upd H a o) h a o):HOk P w (upd H a o) h:=λb u e=>by
 by_cases hb:b=a
 ·subst hb;rw[zC]at e;cases e;exact new
 ·rw[zU hb]at e;exact(x b u e).stay (λc v _ q=>q) (λc q=>by rw[zU (zM q hn)];exact q) λc xs q=>by rw[zU (zM q hn)];exact q
def newEnvC{M:Model}{A:yR}{E:yb->yd->Prop}{s:yd}{scope:Xa}{globals:yf}{cl:List (yG×yf)}{qual:yG}{env:Env}{Q:Env->yd->Prop}
 (hQ:Q (newEnv scope s.heap.objs.size globals (Yg (s.heap.objs.size+1) scope.names cl) qual none .none (some env) builtinsNs) {s with heap:=pushCells (s.heap.push {cls:=.type "dict",data:=.dict #[]}) scope.names }) :
 yp M A (newFunctionEnv scope globals cl [] qual none .none (some env)) Q E s:=by
 simp only[newFunctionEnv,Option.isSome_some,if_true];refine ya (wpAny_alloc ?_);refine ya (wpAny_layCells _ (λname kind cells=>by cases hkc:kind==yO<;>simp[hkc]) _ _ _ _ ?_);rw[show({s with heap:=s.heap.push {cls:=.type "dict",data:=.dict #[]}}:yd).heap.objs.size=s.heap.objs.size+1 from yZ ..];refine ya ?_;rw[forIn_nil];exact ye (ye hQ)
section
variable {X:Cx}{own:List yG}{fr:List Nat}{scope:Xa}
structure sM(X:Cx)(pins:List (yf×YY))(Y:L2.St)(H:Hp)(ys:List V)(D C:yf)(s:yd):Prop where
 inv:Inv X pins Y (upd H D (.lst ys)) s
 free:H D=none
 freeC:upd H D (.lst ys) C=none
 own:∃m,s.heap.Ns C m
 notL:C≠X.env.locals
 young:X.s₀.heap.objs.size<=C
 sx:∀x c,X.env.cells.lookup x=some c->c≠C
 sX:∀p∈X.pn++pins,p.1≠C
def zwp{elt tg iter:yC}{ifs:List yC}{pos:xU}{g:TG}{tc:TT}{te:TE}{pins:List (yf×YY)}{Y:L2.St}{s2:yd}{Qn:List V->Hp->Prop}{itv:yb}{RR:yb->yf->Result->yd->Prop}(own:List yG)(fr:List Nat)(hc:X.calm=true)
 (hg:∀cl C s₀ H₀ fp,PG (cxC X own fr scope cl C s₀ H₀ fp) tg g) (hq:∀cl C s₀ H₀ fp,PF (cxC X own fr scope cl C s₀ H₀ fp) ifs tc) (he:∀cl C s₀ H₀ fp,PE (cxC X own fr scope cl C s₀ H₀ fp) elt te)
 (hk:scope.kind=.function) (hnm:∀y∈scope.names,scope.names.lookup y.1=some y.2)
 (hfree:∀x∈scope.names,x.2=.free->(X.env.kindOf x.1=some .cell\/X.env.kindOf x.1=some .free)) (hfr:∀i∈fr,∃x,X.N[i]?=some x/\scope.names.lookup x=some .free)
 (h2:PIE X pins Y tg (λδ H1=>∃W:Nat->Nat->List V->Hp->Prop,(∃m,W 0 m [] H1)/\∀i m ys H,W i m ys H ->
  (δ.stop i H/\Qn ys H)\/(δ.go i H/\ys.length<yF/\∀x H',δ.yld i H x H'->g x (σC own.length fr Y) H' λY2 H2=>zgu (σC own.length fr Y) Y2/\tc Y2 H2 λb H3=>
   if b=true then te Y2 H3 λy H4=>∃m',m'<m/\W (i+1) m' (ys++[y]) H4 else ∃m',m'<m/\W (i+1) m' ys H3)) itv s2)
 (fin:∀ys H D C s4,Qn ys H->sM X pins Y H ys D C s4->RR (.ref D) C (.ok .next) s4) :
 yp (yz X.prog X.w) X.A (newList []) (λacc s₃=>yp (yz X.prog X.w) X.A (newFunctionEnv scope X.env.globals (zvb X.env.cells scope.names []) [] X.env.qual none .none (some X.env)) (λcenv s₄=>
  codeAny (yz X.prog X.w) X.A (.compStart (.ListComp elt [⟨tg,iter,ifs,0⟩] scope pos) 0 itv acc {cenv with scope:=relabel scope X.env }) (RR acc cenv.locals) s₄) X.xe s₃) X.xe s2:=by
 obtain⟨it,fp,tn,δ,H2,e,I2,T,st2,f2,W,⟨m0,w0⟩,turn⟩:=h2;subst e
 have hfl:∀b∈fp,b<s2.heap.objs.size:=λb hb=>by
  obtain⟨o,e,_⟩:=T.obj _ _ st2 b hb;exact ym e
 refine yS (newEnvC ?_);dsimp only;generalize hH2:s2.heap.push {cls:=.type "list",dict:=none,data:=.seq ([]:List yb).toArray } = φ2;have hC:φ2.objs.size=s2.heap.objs.size+1:=by rw[<-hH2,yZ]
 have hDC:s2.heap.objs.size≠φ2.objs.size:=by rw[hC];exact yq (YB _)
 have hCle:s2.heap.objs.size<=φ2.objs.size:=by rw[hC];exact Nat.le_succ _
 have below:∀b,b<s2.heap.objs.size->b≠φ2.objs.size/\b≠s2.heap.objs.size:=λb hb=>⟨by rw[hC];exact yq (Yo hb),yq hb⟩
 have hns₁:(pushCells (φ2.push {cls:=.type "dict",data:=.dict #[]}) scope.names).Ns φ2.objs.size (λ_=>none):=(Heap.Ns.new φ2 (.type "dict")).keeps λb o e=>pushCells_keeps _ _ _ _ e
 have hok₁:CellsOk (pushCells (φ2.push {cls:=.type "dict",data:=.dict #[]}) scope.names) (φ2.objs.size+1) (Yg (φ2.objs.size+1) scope.names []):=by
  have:=cellsFrom_ok scope.names (φ2.push {cls:=.type "dict",data:=.dict #[]}) (φ2.objs.size+1) [] ⟨λ_ _ hm=>(nomatch hm),List.Pairwise.nil⟩ (by rw[yZ];exact yi _);rw[yZ]at this;exact this
 have hk₁:∀b o,φ2.get? b=some o->(pushCells (φ2.push {cls:=.type "dict",data:=.dict #[]}) scope.names).get? b=some o:=λb o e=>pushCells_keeps _ _ _ _ (yc _ e);generalize pushCells (φ2.push {cls:=.type "dict",data:=.dict #[]}) scope.names=h₁ at hns₁ hok₁ hk₁ ⊢;have old:∀b o,s2.heap.get? b=some o->h₁.get? b=some o:=λb o e=>hk₁ b o (hH2▸yc _ e);have hacc:h₁.get? s2.heap.objs.size=some {cls:=.type "list",data:=.seq ([]:List yb).toArray 0 }:=hk₁ _ _ (hH2▸yk _ rfl);generalize hXC:cxC X own fr scope (Yg (φ2.objs.size+1) scope.names (zvb X.env.cells scope.names [])) φ2.objs.size s2 H2 fp=XC;have eenv:compEnvC scope (Yg (φ2.objs.size+1) scope.names (zvb X.env.cells scope.names [])) φ2.objs.size X.env=XC.env:=by rw[<-hXC];rfl
 have eprog:XC.prog=X.prog:=by rw[<-hXC];rfl
 have ew:XC.w=X.w:=by rw[<-hXC];rfl
 have eA:XC.A=X.A:=by rw[<-hXC];rfl
 have eK:XC.K=X.K:=by rw[<-hXC];rfl
 have ecalm:XC.calm=true:=by rw[<-hXC];exact hc
 have exe:XC.xe=λ_ _=>False:=by rw[<-hXC];rfl
 have eloc:XC.env.locals=φ2.objs.size:=by rw[<-hXC];rfl
 have eex:XC.ex=fp:=by rw[<-hXC];rfl
 have efs:XC.fs=frs X.stack:=by rw[<-hXC];rfl
 have es0:XC.s₀=s2:=by rw[<-hXC];rfl
 have eH0:XC.H₀=H2:=by rw[<-hXC];rfl
 have epn:XC.pn=X.pn:=by rw[<-hXC];rfl
 have ecells:∀x c,XC.env.cells.lookup x=some c->X.env.cells.lookup x=some c\/φ2.objs.size<c:=λx c e=>by
  rw[<-hXC]at e;rcases zcn (show(Yg (φ2.objs.size+1) scope.names (zvb X.env.cells scope.names [])).lookup x=some c from e) with q|⟨_,q⟩
  ·exact .inr (zrj _ _ _ _ (yT q)).1
  ·rcases zRk _ _ q with q|q
   ·cases q
   ·exact .inl q
 have hg':PG XC tg g:=hXC▸hg _ _ _ _ _;have hq':PF XC ifs tc:=hXC▸hq _ _ _ _ _;have he':PE XC elt te:=hXC▸he _ _ _ _ _
 have fpok:∀{H':Hp} {pl:List (yf×YY)},(∀b∈fp,H' b=none)->(∀p∈pl,p.1=s2.heap.objs.size)->∀b∈fp,zum XC (pins++pl) H' b:=λ{H' pl} hn hpl b hb=>by
  obtain⟨_,f2,f3,f4,f5,f6⟩:=f2 b hb;refine⟨hn b hb,by rw[eloc];exact(below b (hfl b hb)).1,by rw[efs];exact zPm I2 f2 f3,.inl (by rw[eex];exact hb),λx c e=>?c5,λp hp=>?_⟩
  case c5=>
   rcases ecells x c e with q|q
   ·exact f5 x c q
   ·exact yV (yA (hfl b hb) (yB hCle (Ys q)))
  rw[epn,<-append_assoc]at hp;rcases List.mem_append.mp hp with hp|hp
  ·exact f6 p hp
  ·rw[hpl p hp];exact yE (below b (hfl b hb)).2
 have loop:∀s₃:yd,s₃ = {s2 with heap:=h₁ } ->
  codeAny (yz X.prog X.w) X.A (.compLoop (.ListComp elt [⟨tg,iter,ifs,0⟩] scope pos) 0 (.ref it) (.ref s2.heap.objs.size) (compEnvC scope (Yg (φ2.objs.size+1) scope.names (zvb X.env.cells scope.names [])) φ2.objs.size X.env))
   (RR (.ref s2.heap.objs.size) φ2.objs.size) s₃:=by
  rintro s₃ rfl;have I0:=zfs (own:=own) (fr:=fr) (t:=s2.toks) (lo:=φ2.objs.size+1) I2 f2 hfl hk hnm hfree hfr (YB _) hok₁ old (yi _) hCle hDC (Nat.lt_succ_of_le hCle) hacc (by intro v z;cases z) hns₁;rw[hXC]at I0
  refine z3l (λn s'=>∃(i:Nat)(ys:List V)(its:Array yb)(k:Nat)(H':Hp),Inv XC (pins++[(s2.heap.objs.size,({cls:=.type "list",data:=.seq its k }:YY))]) (σC own.length fr Y) H' s'/\Vals ys its.toList/\ys.length<=yF/\tn i s'.heap/\(∀b∈fp,H' b=none)/\W i n ys H') ?_ m0
   ⟨0,[],#[],0,H2,I0,.nil,Yl _,T.keep _ _ _ st2 (λb hb o e=>old b o e),λb hb=>(f2 b hb).1,w0⟩
  rintro n s3 ⟨i,ys,its,kk,H3,I3,rv,hz,st3,fr3,w3⟩
  have pl1:∀p∈[(s2.heap.objs.size,({cls:=.type "list",data:=.seq its kk }:YY))],p.1=s2.heap.objs.size:=λp hp=>by
   rw[List.mem_singleton.mp hp]
  rcases turn i n ys H3 w3 with ⟨stop,qn⟩|⟨go,hlt,step⟩
  ·have td:=T.done XC eprog ew eK ecalm i _ s3 _ H3 (λ_ _=>False) I3 (fpok fr3 pl1) st3 stop;rw[eA]at td;refine thn td λr s4 ⟨hr,I4⟩=>?_;subst hr;obtain⟨m,hn,_⟩:=id I4.loc;rw[eloc]at hn;obtain⟨p1,p2,p3,p4,p5⟩:=I4.pin (s2.heap.objs.size,_) (mem_append_right _ (mem_append_right _ mem_cons_self));have hnC:H3 φ2.objs.size=none:=by have:=I4.free;rw[eloc]at this;exact this
   have hokf:HOk X.prog X.w (upd H3 s2.heap.objs.size (.lst ys)) s4.heap:=by
    refine HOk.track (by have:=I4.hok;rw[eprog,ew]at this;exact this) p2 ⟨hz,its.toList,kk,rv,by simpa using p1⟩
   have u0:Un (frs X.stack) fp H2 H3 s2.heap s4.heap:=by
    have:=I4.base;rw[efs,eex,es0,eH0]at this;exact this
   have u1:Un (frs X.stack) fp H2 (upd H3 s2.heap.objs.size (.lst ys)) s2.heap s4.heap:=by
    have bd:∀b o,s2.heap.get? b=some o->b≠s2.heap.objs.size:=λb o e=>(below b (ym e)).2;refine⟨u0.keep,u0.slot,λb o e n hx=>by rw[zU (bd b o e)];exact u0.free b o e n hx,u0.there,λb xs e=>?_,λb o u e=>?_,λb ps e=>?_⟩
    ·have q:=u0.tups b xs e;rw[zU (zM q p2)];exact q
    ·have q:=u0.sf b o u e;rw[zU (zM q p2)];exact q
    ·obtain⟨more,q⟩:=u0.su b ps e;exact⟨more,by rw[zU (zM q p2)];exact q⟩
   have os4:s4.os=s2.os:=by have:=I4.os;rw[es0]at this;exact this
   have IF:Inv X pins Y (upd H3 s2.heap.objs.size (.lst ys)) {s2 with heap:=s4.heap,gens:=s4.gens,drawn:=s4.drawn,toks:=s4.toks } :=
    I2.call (h':=s4.heap) (ch:=fp) u1 hokf I4.bare λb hb=>by
     obtain⟨_,f2,f3,f4,f5,f6⟩:=f2 b hb;exact⟨f4,f2,f5,f6⟩
   have es:s4 = {s2 with heap:=s4.heap,gens:=s4.gens,drawn:=s4.drawn,toks:=s4.toks }:=by
    obtain⟨a1,a2,a3,a4,a5⟩:=s4;have:a5=s2.os:=os4;subst this;rfl
   rw[<-es]at IF;refine fin ys H3 _ _ s4 qn ⟨IF,p2,by rw[zU (yE hDC)];exact hnC,⟨m,hn⟩,yE (below _ I2.lt).1,yB I2.sz hCle,λx c e=>?_,λp hp=>?_⟩
   ·obtain⟨v,o,ho,_⟩:=I2.cell x c e;exact(below c (ym ho)).1
   ·exact(below p.1 (ym (I2.pin p hp).1)).1
  ·have td:=T.item XC eprog ew eK ecalm i _ s3 _ H3 (λ_ _=>False) I3 (fpok fr3 pl1) st3 go;rw[eA]at td;refine thn td λr s4 ⟨u,hr,h4⟩=>?_;subst hr;refine thn h4 λ_ s5 ⟨x,H5,I5,r5,y5,st5,fr5⟩=>?_;have I5':=I5.pinned (fpok fr5 pl1) (T.obj _ _ st5);have hgw:=hg' _ s5 _ H5 x u _ I5' r5 (step x H5 y5);rw[exe,eprog,ew,eA]at hgw;rw[eenv];refine thn hgw λ_ s6 ⟨Y6,H6,I6,⟨hsl,hsub⟩,q6⟩=>?_;have hqw:=hq' _ s6 Y6 H6 _ I6 q6;rw[exe,eprog,ew,eA]at hqw;refine thn hqw λok s7 ⟨H7,I7,q7⟩=>?_
   have back:∀{H8:Hp} {s8:yd},Inv XC (pins++[(s2.heap.objs.size,({cls:=.type "list",data:=.seq its kk }:YY))]++z9k fp s5.heap) Y6 H8 s8 ->
    Inv XC (pins++[(s2.heap.objs.size,({cls:=.type "list",data:=.seq its kk }:YY))]) (σC own.length fr Y) H8 s8/\tn (i+1) s8.heap/\∀b∈fp,H8 b=none:=λ{H8 s8} I8=>by
    refine⟨I8.Tp.weak hsl.symm hsub,T.keep _ _ _ st5 λb hb o e=>(I8.pin (b,o) (mem_append_right _ (mem_append_right _ (zGe hb e)))).1,λb hb=>?_⟩;obtain⟨o,e,d⟩:=T.obj _ _ st5 b hb;exact(I8.pin (b,o) (mem_append_right _ (mem_append_right _ (zGe hb e)))).2.1
   cases ok with
   |false=>
    have q7':∃m',m'<n/\W (i+1) m' ys H7:=by simpa using q7
    rw[if_neg yv];obtain⟨m',hm,w7⟩:=q7';obtain⟨δ1,δ2,δ3⟩:=back I7;exact⟨m',hm,i+1,ys,its,kk,H7,δ1,rv,hz,δ2,δ3,w7⟩
   |true=>
    rw[if_pos rfl]at q7 ⊢;have hew:=he' _ s7 Y6 H7 _ I7 q7;rw[exe,eprog,ew,eA]at hew;refine thn hew λy s8 ⟨vy,H8,I8,r8,m',hm,w8⟩=>?_;obtain⟨δ1,δ2,δ3⟩:=back I8;obtain⟨p1,p2,p3,p4,p5⟩:=δ1.pin (s2.heap.objs.size,_) (mem_append_right _ (mem_append_right _ mem_cons_self));have hil:its.size=ys.length:=by rw[rv.length];simp
    refine append_at (hsz:=by rw[hil];exact hz) p1 λh9 sb9 e9=>?_;have Df:s2.heap.objs.size∉fp:=λz=>absurd (hfl _ z) (Ye _);have δ0:Inv XC pins (σC own.length fr Y) H8 s8:=δ1.Tp
    have δ9:Inv XC pins (σC own.length fr Y) H8 {s8 with heap:=h9 }:=by
     refine δ0.turned (t':=s8.toks) (it:=s2.heap.objs.size) (λb o hb e=>(sb9.2 b hb).trans e) p2 p3 (.inr (by rw[es0];exact yi _)) (λx c e z=>?_) (λp hp z=>?_)
     ·rcases ecells x c e with q|q
      ·obtain⟨v,o,ho,_⟩:=I2.cell x c q;exact(below c (ym ho)).2 z
      ·exact yV (Nat.lt_of_le_of_lt hCle q) z
     ·rw[epn]at hp;exact(below p.1 (ym (I2.pin p hp).1)).2 z
    refine⟨m',hm,i+1,ys++[vy],its.push y,kk+1,H8,δ9.sw λp hp=>?_,?_,by simp;exact hlt,T.keep _ _ _ δ2 (λb hb o e=>(sb9.2 b (λz=>Df (z▸hb))).trans e),δ3,w8⟩
    ·rcases List.mem_append.mp hp with hp|hp
     ·exact δ9.pin p (mem_append_right _ hp)
     ·have e:=List.mem_singleton.mp hp;subst e;exact⟨e9,p2,p3,p4,by intro v z;cases z⟩
    ·rw[Array.toList_push];exact rv.append (.cons r8 .nil)
 exact codeAny_compStart_list (loop _ rfl) (T.self X.A 0 _ _ _ (T.keep _ _ _ st2 λb hb o e=>old b o e) (loop _ rfl))
def sM.gone{pins:List (yf×YY)}{Y:L2.St}{H:Hp}{ys:List V}{D C:yf}{s:yd}(w:sM X pins Y H ys D C s){h':yW}(sb:yI C s.heap h'):Inv X pins Y (upd H D (.lst ys)) {s with heap:=h' } :=
 w.inv.turned (t':=s.toks) (λb o hb e=>(sb.2 b hb).trans e) w.freeC (yE (yE w.notL)) (.inr w.young) w.sx w.sX
def zZw{elt tg iter:yC}{ifs:List yC}{pos:xU}{wi:TI}{g:TG}{tc:TT}{te:TE}(own:List yG)(fr:List Nat)(hc:X.calm=true)(hi:PI X tg iter wi)
 (hg:∀cl C s₀ H₀ fp,PG (cxC X own fr scope cl C s₀ H₀ fp) tg g) (hq:∀cl C s₀ H₀ fp,PF (cxC X own fr scope cl C s₀ H₀ fp) ifs tc) (he:∀cl C s₀ H₀ fp,PE (cxC X own fr scope cl C s₀ H₀ fp) elt te)
 (hk:scope.kind=.function) (hnm:∀y∈scope.names,scope.names.lookup y.1=some y.2)
 (hfree:∀x∈scope.names,x.2=.free->(X.env.kindOf x.1=some .cell\/X.env.kindOf x.1=some .free)) (hfr:∀i∈fr,∃x,X.N[i]?=some x/\scope.names.lookup x=some .free)
 (hs:∀x,YL iter X.env x=pure x:=by intro _;rfl):PE X (.ListComp elt [⟨tg,iter,ifs,0⟩] scope pos) (tLC own.length fr wi g tc te):=by
 intro pins s Y H Q I h;rw[eval_ListComp];have hclos:closureFor scope X.env=pure (zvb X.env.cells scope.names []):=zAj λx hx e=>I.ok.has x.1 (hfree x hx e);refine wpAny_comprehension_free (use:=none) rfl hs hclos hk (λx hx e=>by rw[hnm x hx,e]) ?_;show yp _ _ (Yq iter X.env) _ _ s;refine thn (hi pins s Y H _ I h) λv s1 h1=>thn h1 λitv s2 h2=>?_;refine zwp (RR:=λacc C=>compPost (yz X.prog X.w) X.A X.xe none (EP X pins Y Q) acc C) own fr hc hg hq he hk hnm hfree hfr h2 λys H3 D C s4 q w=>?_;obtain⟨m,hn⟩:=w.own;exact⟨m,hn,λh' sb=>⟨.ref D,_,w.gone sb,rfl,q D w.free⟩⟩
def zWr{elt tg iter:yC}{ifs:List yC}{pos spos py:xU}{wi:TI}{g:TG}{tc:TT}{te:TE}{y:yG}{i:Nat}(own:List yG)(fr:List Nat)(hN:X.N.Nodup)(hiN:X.N[i]?=some y)(hy:X.env.scope.names.lookup y=some .local)(hc:X.calm=true)(hi:PI X tg iter wi)
 (hsw:swapsWith (.ListComp elt [⟨tg,iter,ifs,0⟩] scope pos) (some (.Name y py)) spos.line X.env=pure true)
 (hg:∀cl C s₀ H₀ fp,PG (cxC X own fr scope cl C s₀ H₀ fp) tg g) (hq:∀cl C s₀ H₀ fp,PF (cxC X own fr scope cl C s₀ H₀ fp) ifs tc) (he:∀cl C s₀ H₀ fp,PE (cxC X own fr scope cl C s₀ H₀ fp) elt te)
 (hk:scope.kind=.function) (hnm:∀y∈scope.names,scope.names.lookup y.1=some y.2)
 (hfree:∀x∈scope.names,x.2=.free->(X.env.kindOf x.1=some .cell\/X.env.kindOf x.1=some .free)) (hfr:∀i∈fr,∃x,X.N[i]?=some x/\scope.names.lookup x=some .free)
 (hs:∀x,YL iter X.env x=pure x:=by intro _;rfl):PS X (.Assign [.Name y py] (.ListComp elt [⟨tg,iter,ifs,0⟩] scope pos) spos) (z0w (tLC own.length fr wi g tc te) (zNt i)):=by
 intro pins s Y H E I h;rw[exec_Assign_Name_used _ _ _ _ hsw];refine ya (xy (ya ?_));have hclos:closureFor scope X.env=pure (zvb X.env.cells scope.names []):=zAj λx hx e=>I.ok.has x.1 (hfree x hx e);show yp _ X.A (do let _ <-comprehension (.ListComp elt [⟨tg,iter,ifs,0⟩] scope pos) scope X.env _ (newList []) false (Yq iter X.env) (some (assign (.Name y py) X.env))) _ _ s;refine ya (YZ (wpAny_comprehension_free (use:=some (assign (.Name y py) X.env)) (Q:=λ_ s'=>SP X pins E .next s') rfl hs hclos hk (λx hx e=>by rw[hnm x hx,e]) ?_) (λ_ s' hq=>ye (ye hq)) λ_ _ e=>e);show yp _ _ (Yq iter X.env) _ _ s;refine thn (hi pins s Y H _ I h) λv s1 h1=>thn h1 λitv s2 h2=>?_;refine zwp (RR:=λacc C=>compPost (yz X.prog X.w) X.A X.xe (some (assign (.Name y py) X.env)) (λ_ s'=>SP X pins E .next s') acc C) own fr hc hg hq he hk hnm hfree hfr h2 λys H3 D C s4 q w=>?_;show yp _ X.A (assign (.Name y py) X.env (.ref D)) _ _ s4;obtain⟨m,hn⟩:=w.own;refine wpAny_assign_Name (zmm (v:=V.ref D) w.inv hN hiN (.inl hy) rfl (λs5 I5 ⟨a,sb,ha⟩=>?_) (.inr hy))
 have haC:C≠a:=by
  rcases ha with e|e
  ·rw[e];exact w.notL
  ·exact yE (w.sx y a e)
 refine⟨m,hn.sameBut sb haC,λh' sb'=>?_⟩;refine⟨_,_,I5.turned (t':=s5.toks) (λb o hb e=>(sb'.2 b hb).trans e) w.freeC w.notL (.inr w.young) w.sx w.sX,q D w.free⟩
variable {K:yx}{Z Z1:List yf}{H H1:Hp}
def sn.ext{W:XK}{E:Ends}{o:Out}(h:sn K W Z H E o)(x:Ext Z H Z1 H1):sn K W Z1 H1 E o:=by
 cases o with
 |next J μ=>exact λZ' Y' H' x' A=>h Z' Y' H' (x.trans x') A
 |brk J μ=>exact λZ' Y' H' x' A=>h Z' Y' H' (x.trans x') A
 |cont J μ=>exact λZ' Y' H' x' A=>h Z' Y' H' (x.trans x') A
 |ret d μ=>exact λZ' v H' x' R r=>h Z' v H' (x.trans x') R r
 |exc c fs μ=>exact λZ' H' C dx hc x' R r=>h Z' H' C dx hc (x.trans x') R r
def At.set{Y:L2.St}{J:Loc}{μ:Mem}{d:D}{v:V}(A:At K Z H Y J μ)(r:tm K Z H d v)(i:Nat):At K Z H (Y.set i (some v)) (J.set i (some d)) μ:=by
 refine⟨λj d' e=>?_,A.hp,by simp[A.len]⟩
 by_cases hj:j=i
 ·subst hj
  have hl:j<J.length:=by
   have:=(List.getElem?_eq_some_iff.mp e).1;simpa using this
  rw[YK hl]at e;cases e;exact⟨v,by rw[YK (by rw[A.len];exact hl)],r⟩
 ·rw[Yr (yE hj)]at e;obtain⟨u,e1,q⟩:=A.st j d' e;exact⟨u,by rw[Yr (yE hj)];exact e1,q⟩
variable {a b c e:yC}{es:List yC}{G ψ χ:FE}{pos:xU}{st:Yp}{rest:List Yp}
@[simp] def zac:FS:=λJ μ=>some (.next J μ)
@[simp] def zeb(p q:FS):FS:=λJ μ=>match p J μ with
 |some (.next J' μ')=>q J' μ'
 |o=>o
def z8:MSs X [] zac:=zTs z1t λZ J μ Y H o E A e k=>by
 cases e;exact k Z Y H Ext.refl A
def zr{p:FS}(h:MS X st p):MSs X [st] p:=z5t h
def zm{p q:FS}(h1:MS X st p)(h2:MSs X rest q):MSs X (st::rest) (zeb p q) :=
 zTs (z0r h1 h2) λZ J μ Y H o E A e k=>by
  unfold zeb at e;show tMS X.K (zro X) p {E with nx:=tMS X.K (zro X) q E } Y H
  cases ep:p J μ with
  |none=>rw[ep]at e;cases e
  |some op=>
   rw[ep]at e;refine⟨Z,J,μ,op,A,ep,?_⟩
   cases op with
   |next J' μ'=>exact λZ' Y' H' x' A'=>⟨Z',J',μ',o,A',e,k.ext x'⟩
   |brk J' μ'=>cases e;exact k
   |cont J' μ'=>cases e;exact k
   |ret d μ'=>cases e;exact k
   |exc C fs μ'=>cases e;exact k
@[simp] def zdc(G:FE):FS:=λJ μ=>(G J μ).bind λp=>some (.ret p.1 p.2)
def zK(h:ME X e G):MS X (.Return (some e) pos) (zdc G):=z5i (z8u h) λZ J μ Y H o E A e k=>by
 obtain⟨⟨x,μ1⟩,e1,e⟩:=zl e;cases e;exact⟨Z,J,μ,x,μ1,A,e1,λZ' H' v x' R r=>k Z' v H' x' R r⟩
@[simp] def zlh(G:FE):FS:=λJ μ=>(G J μ).bind λp=>some (.next J p.2)
def zTd(h:ME X e G)(hs:swapsWith e none pos.line X.env=pure false:=by rfl):MS X (.Expr e pos) (zlh G):=z5i (ztu h hs) λZ J μ Y H o E A e k=>by
 obtain⟨⟨x,μ1⟩,e1,e⟩:=zl e;cases e;exact⟨Z,J,μ,x,μ1,A,e1,λZ' H' v x' R r=>k Z' Y H' x' (A.ext x' R)⟩
@[simp] def zcc(i:Nat)(G:FE):FS:=λJ μ=>(G J μ).bind λp=>some (.next (J.set i (some p.1)) p.2)
def zN{x:yG}{pos':xU}(i:Nat)(he:ME X e G)(hN:X.N.Nodup:=by first|assumption|decide)(hi:X.N[i]?=some x:=by rfl)(hx:L2.Loc X.env.scope x:=by first|exact Or.inl rfl|exact Or.inr rfl)(hs:swapsWith e (some (.Name x pos')) pos.line X.env=pure false:=by rfl)
 (hf:X.fn x=true\/X.env.scope.names.lookup x=some .local:=by first|exact .inl rfl|exact .inr rfl|assumption):MS X (.Assign [.Name x pos'] e pos) (zcc i G):=z5i (zBv hN hi hx he hs hf) λZ J μ Y H o E A e k=>by
 obtain⟨⟨x,μ1⟩,e1,e⟩:=zl e;cases e;exact⟨Z,J,μ,x,μ1,A,e1,λZ' H' v x' R r=>k Z' _ H' x' ((A.ext x' R).set r i)⟩
@[simp] def sIf(c:FT)(p q:FS):FS:=λJ μ=>(c J μ).bind λt=>bif t.1 then p J t.2 else q J t.2
def zpc{s1 s2:List Yp}{t:FT}{p q:FS}(hc:MT X c t)(h1:MSs X s1 p)(h2:MSs X s2 q):MS X (.If c s1 s2 pos) (sIf t p q):=z5i (zmx hc h1 h2) λZ J μ Y H o E A e k=>by
 obtain⟨⟨x,μ1⟩,e1,e⟩:=zl e;refine⟨Z,J,μ,x,μ1,A,e1,λZ' H' x' R=>?_⟩
 cases x with
 |true=>exact sK ⟨Z',J,μ1,o,A.ext x' R,e,k.ext x'⟩
 |false=>exact sJ ⟨Z',J,μ1,o,A.ext x' R,e,k.ext x'⟩
def zKn:FS:=λ_ _=>none
def zCk:MS X st zKn:=z5i z4r λ_ _ _ _ _ _ _ _ e _=>by cases e
abbrev FG:=D->Loc->Mem->Option (Loc×Mem)
abbrev FGs:=List D->Loc->Mem->Option (Loc×Mem)
def tMG(K:yx)(g:FG):TG:=λv Y H Q=>∃Z J μ d J' μ',At K Z H Y J μ/\tm K Z H d v/\g d J μ=some (J',μ')/\∀Z' Y' H',Ext Z H Z' H'->At K Z' H' Y' J' μ'->Q Y' H'
def zKx(K:yx)(g:FGs):TGs:=λvs Y H Q=>∃Z J μ ds J' μ',At K Z H Y J μ/\tj K Z H ds vs/\g ds J μ=some (J',μ')/\∀Z' Y' H',Ext Z H Z' H'->At K Z' H' Y' J' μ'->Q Y' H'
def MG(X:Cx)(t:yC)(g:FG):Prop:=PG X t (tMG X.K g)
def MGs(X:Cx)(t:List yC)(g:FGs):Prop:=PGs X t (zKx X.K g)
def mg_of{t:yC}{tt:TG}{g:FG}(h:PG X t tt)(w:∀Z J μ d J' μ' v Y H Q,At X.K Z H Y J μ->tm X.K Z H d v->g d J μ=some (J',μ')->(∀Z' Y' H',Ext Z H Z' H'->At X.K Z' H' Y' J' μ'->Q Y' H')->tt v Y H Q):MG X t g :=
 by intro pins s Y H v u Q I r hh;obtain⟨Z,J,μ,d,J',μ',A,q,e,k⟩:=hh;exact h pins s Y H v u Q I r (w Z J μ d J' μ' v Y H Q A q e k)
def zDs{t:List yC}{tt:TGs}{g:FGs}(h:PGs X t tt)(w:∀Z J μ d J' μ' v Y H Q,At X.K Z H Y J μ->tj X.K Z H d v->g d J μ=some (J',μ')->(∀Z' Y' H',Ext Z H Z' H'->At X.K Z' H' Y' J' μ'->Q Y' H')->tt v Y H Q):MGs X t g :=
 by intro pins s Y H v u Q I r hh;obtain⟨Z,J,μ,d,J',μ',A,q,e,k⟩:=hh;exact h pins s Y H v u Q I r (w Z J μ d J' μ' v Y H Q A q e k)
@[simp] def gN(i:Nat):FG:=λd J μ=>some (J.set i (some d),μ)
def zV{x:yG}(i:Nat)(hN:X.N.Nodup:=by first|assumption|decide)(hi:X.N[i]?=some x:=by rfl)(hx:L2.Loc X.env.scope x:=by first|exact Or.inl rfl|exact Or.inr rfl)(hf:X.fn x=true\/X.env.scope.names.lookup x=some .local:=by first|exact .inl rfl|exact .inr rfl|assumption):MG X (.Name x pos) (gN i) :=
 mg_of (zHq hN hi hx hf) λZ J μ d J' μ' v Y H Q A q e k=>by
  cases e;exact k Z _ H Ext.refl (A.set q i)
@[simp] def zse:FGs:=λds J μ=>match ds with
 |[]=>some (J,μ)
 |_=>none
@[simp] def zgb(g:FG)(gs:FGs):FGs:=λds J μ=>match ds with
 |d::r=>(g d J μ).bind λp=>gs r p.1 p.2
 |_=>none
def zff:MGs X [] zse:=zDs zZp λZ J μ ds J' μ' vs Y H Q A q e k=>by
 unfold zse at e
 split at e
 ·cases e;exact⟨q.nil_inv,k Z Y H Ext.refl A⟩
 ·cases e
def zlb{g:FG}{gs:FGs}(h1:MG X e g)(h2:MGs X es gs)(hs:(Yh (e::es) X.env).map (·.2)=assign e X.env::(Yh es X.env).map (·.2):=by rfl):MGs X (e::es) (zgb g gs) :=
 zDs (z2n h1 h2 hs) λZ J μ ds J' μ' vs Y H Q A q e k=>by
  unfold zgb at e
  split at e
  ·obtain⟨⟨J1,μ1⟩,e1,e⟩:=zl e;obtain⟨v,r,rfl,q1,q2⟩:=q.cons_inv;refine⟨v,r,rfl,Z,J,μ,_,J1,μ1,A,q1,e1,λZ1 Y1 H1 x1 A1=>?_⟩;exact⟨Z1,J1,μ1,_,J',μ',A1,q2.ext x1,e,λZ2 Y2 H2 x2 A2=>k Z2 Y2 H2 (x1.trans x2) A2⟩
  ·cases e
@[simp] def gT(n:Nat)(gs:FGs):FG:=λd J μ=>match d with
 |.tup ds=>bif ds.length==n then gs ds J μ else none
 |_=>none
def ztj{k n:Nat}{gs:FGs}(h:MGs X es gs)(hc:X.calm=true:=by rfl)(hn:(Yh es X.env).length=n:=by rfl)(hst:(Yh es X.env).findIdx? (·.1)=none:=by rfl):MG X (.Tuple es k pos) (gT n gs) :=
 mg_of (zEs hc h hn hst) λZ J μ d J' μ' v Y H Q A q e k=>by
  unfold gT at e
  split at e
  ·obtain⟨h1,e⟩:=zP e;obtain⟨a,vs,rfl,e2,q2⟩:=q.tT;exact⟨a,vs,rfl,SqT.of e2,by rw[<-q2.length];exact beq_iff_eq.mp h1,Z,J,μ,_,J',μ',A,q2,e,k⟩
  ·cases e
@[simp] def gAt(G ψ:FE):FG:=λd J μ=>(G J μ).bind λp=>(ψ J p.2).bind λq=>match p.1,q.1 with
 |.loc n,.int i=>match q.2[n]? with
  |some (.lst ds)=>(ixN ds.length i).bind λj=>some (J,q.2.set n (.lst (ds.set j d)))
  |_=>none
 |_,_=>none
def z6t{o i:yC}(ho:ME X o G)(hi:ME X i ψ)(ha:∀v,assign (.Subscript o i pos) X.env v=(do
 let ov <-holding [v] (Yq o X.env)
 let iv <-holding [v,ov] (Yq i X.env)
 standAt pos
 holding [v,ov,iv] (setItem ov iv v)
 release [v,ov,iv] []):=by intro _;rfl):MG X (.Subscript o i pos) (gAt G ψ) :=
 mg_of (zCs ho hi zqs ha) λZ J μ d J' μ' v Y H Q A q e k=>by
  obtain⟨⟨x,μ1⟩,e1,e⟩:=zl e;obtain⟨⟨y,μ2⟩,e2,e⟩:=zl e;refine⟨Z,J,μ,x,μ1,A,e1,λZ1 H1 v1 x1 R1 r1=>?_⟩;refine⟨Z1,J,μ1,y,μ2,A.ext x1 R1,e2,λZ2 H2 v2 x2 R2 r2=>?_⟩;dsimp only at e
  split at e
  ·split at e
   ·rename_i hm
    obtain⟨j,e3,e⟩:=zl e;cases e;obtain⟨ad,rfl,hr⟩:=(r1.ext x2).tx;obtain⟨vs,hv,q3⟩:=R2.at_ _ _ _ hr hm;have hmu:Mut (H2 ad):=by rw[hv];trivial
    refine⟨ad,vs,_,j,rfl,r2.int_inv,hv,by rw[<-q3.length];exact e3,?_⟩;have xx:=x1.trans x2;have R3:=R2.wr (o:=.lst (vs.set j v)) (lo:=.lst _) hmu hr ⟨_,zC,tj.ext (Ext.wr hmu) (q3.set j (q.ext xx))⟩;exact k Z2 Y _ (xx.trans (Ext.wr hmu)) (A.ext (xx.trans (Ext.wr hmu)) R3)
   ·cases e
  ·cases e
@[simp] def zep(G:FE)(g:FG):FS:=λJ μ=>(G J μ).bind λp=>(g p.1 J p.2).bind λq=>some (.next q.1 q.2)
def zjh{tg:yC}{g:FG}(he:ME X e G)(hg:MG X tg g)(hs:swapsWithSole [tg] e pos.line X.env=pure false:=by rfl)(hw:swappedStores [tg] e X.env=pure none:=by rfl)
 (h1:(Yh [tg] X.env).map (·.2)=[assign tg X.env]:=by rfl):MS X (.Assign [tg] e pos) (zep G g):=z5i (z1v he hg hs hw h1) λZ J μ Y H o E A e k=>by
 obtain⟨⟨x,μ1⟩,e1,e⟩:=zl e;obtain⟨⟨J1,μ2⟩,e2,e⟩:=zl e;cases e;refine⟨Z,J,μ,x,μ1,A,e1,λZ1 H1 v1 x1 R1 r1=>?_⟩;exact⟨Z1,J,μ1,x,J1,μ2,A.ext x1 R1,r1,e2,λZ2 Y2 H2 x2 A2=>k Z2 Y2 H2 (x1.trans x2) A2⟩
abbrev FI:=Loc->Mem->Option (List D×(Mem->Bool)×Mem)
structure TV(K:yx)(δ:It)(Z:List yf)(H:Hp)(ds:List D)(ok:Mem->Bool):Prop where
 go:∀Z' H' μ' (i:Nat),Ext Z H Z' H'->tF K Z' H' μ'->ok μ'=true->i<ds.length->δ.go i H'
 yld:∀Z' H' μ' (i:Nat) x H'' d,Ext Z H Z' H'->tF K Z' H' μ'->ok μ'=true->ds[i]?=some d->δ.yld i H' x H''->Ext Z' H' Z' H''/\tF K Z' H'' μ'/\tm K Z' H'' d x
 stop:∀Z' H' μ',Ext Z H Z' H'->tF K Z' H' μ'->ok μ'=true->δ.stop ds.length H'
def tMI(K:yx)(G:FI):TI:=λY H R=>∃Z J μ ds ok μ',At K Z H Y J μ/\G J μ=some (ds,ok,μ')/\∀Z' H' δ,Ext Z H Z' H'->tF K Z' H' μ'->TV K δ Z' H' ds ok->R δ H'
def MI(X:Cx)(tg iter:yC)(G:FI):Prop:=PI X tg iter (tMI X.K G)
def zFo{tg it:yC}{t:TI}{G:FI}(h:PI X tg it t)(w:∀Z J μ Y H ds ok μ' R,At X.K Z H Y J μ->G J μ=some (ds,ok,μ')->(∀Z' H' δ,Ext Z H Z' H'->tF X.K Z' H' μ'->TV X.K δ Z' H' ds ok->R δ H')->t Y H R):MI X tg it G :=
 by intro pins s Y H R I hh;obtain⟨Z,J,μ,ds,ok,μ',A,e,k⟩:=hh;exact h pins s Y H R I (w Z J μ Y H ds ok μ' R A e k)
@[simp] def yes:Mem->Bool:=λ_=>true
@[simp] def zYg(G:FA):FI:=λJ μ=>(G J μ).bind λp=>match p.1 with
 |[.int j]=>bif decide (-(2^62)<=j/\j<2^62) then some ((yh j.toNat).map λ(k:Nat) =>.int k,yes,p.2) else none
 |_=>none
def znf{tg:yC}{p:xU}{G:FA}(hm:X.mg "range"=none)(ha:MAn X [a] G)(hg:Gl X "range":=by rfl)(hs:yw [a] X.env=[(false,Yq a X.env)]:=by rfl):MI X tg (.Call (.Name "range" p) [a] [] pos) (zYg G) :=
 zFo (zmp hg hm ha.ma hs) λZ J μ Y H ds ok μ' R A e k=>by
  obtain⟨⟨x,μ1⟩,e1,e⟩:=zl e;refine⟨Z,J,μ,x,μ1,A,e1,λZ1 H1 v1 x1 R1 r1=>?_⟩;dsimp only at e
  split at e
  ·rename_i j
   obtain⟨h1,e⟩:=zP e;have h2:=of_decide_eq_true h1;cases e;obtain⟨w,r,rfl,q1,q2⟩:=r1.cons_inv;refine⟨j,by rw[q1.int_inv,q2.nil_inv],h2.1,h2.2,k Z1 H1 _ x1 R1 ⟨λZ' H' μ' i _ _ _ h=>by rw[length_map,length_range]at h;exact h,λZ' H' μ' i x H'' d _ RR _ e ⟨y1,y2⟩=>⟨y1▸Ext.refl,y1▸RR,?_⟩,λZ' H' μ' _ _ _=>by show j.toNat<=_;simp⟩⟩;rw[yj]at e
   cases e3:(yh j.toNat)[i]? with
   |none=>rw[e3]at e;cases e
   |some m=>
    rw[e3]at e
    have hmi:m=i:=by
     obtain⟨w1,w2⟩:=List.getElem?_eq_some_iff.mp e3;simpa using w2.symm
    subst hmi;have e':D.int (m:Nat)=d:=yY e;subst e';rw[y2,show(0:Int)+(m:Nat)=(m:Int) by omega];exact .int
  ·cases e
def zsp{K:yx}{Z:List yf}{H:Hp}{a:yf}{vs:List V}{ds:List D}(h:H a=some (.tup vs))(r:tj K Z H ds vs):TV K (Itt K a) Z H ds yes:=by
 refine⟨λZ' H' μ' i x R _ hi=>?_,λZ' H' μ' i x H'' d x' R _ e ⟨y1,y2⟩=>⟨y1▸Ext.refl,y1▸R,y1▸?_⟩,λZ' H' μ' x R _=>⟨vs,SqT.of (x.tup _ _ h),by rw[r.length];exact yi _⟩⟩
 ·have hi':i<vs.length:=by rw[<-r.length];exact hi
  exact⟨vs,vs[i],SqT.of (x.tup _ _ h),by simp[hi']⟩
 ·have q:=y2 vs (SqT.of (x'.tup _ _ h));obtain⟨w,e1,rr⟩:=(r.ext x').get e;rw[q]at e1;cases e1;exact rr
@[simp] def zct(G:FE):FI:=λJ μ=>(G J μ).bind λp=>match p.1 with
 |.tup ds=>some (ds,yes,p.2)
 |_=>none
def zUv{tg:yC}(h:ME X a G):MI X tg a (zct G) :=
 zFo (z3u h) λZ J μ Y H ds ok μ' R A e k=>by
  obtain⟨⟨x,μ1⟩,e1,e⟩:=zl e;refine⟨Z,J,μ,x,μ1,A,e1,λZ1 H1 v1 x1 R1 r1=>?_⟩;dsimp only at e
  split at e
  ·cases e;obtain⟨a,vs,rfl,e2,q2⟩:=r1.tT;exact⟨a,rfl,⟨vs,SqT.of e2⟩,k Z1 H1 _ x1 R1 (zsp e2 q2)⟩
  ·cases e
def z1i(n:Nat)(ds:List D):Mem->Bool:=λμ=>@decide (μ[n]?=some (.lst ds)) (Yz _)
def Tt{n:Nat}{ds:List D}{μ:Mem}:z1i n ds μ=true↔μ[n]?=some (.lst ds):=by
 unfold z1i;exact @decide_eq_true_iff _ (Yz _)
def z8q(G:FE):FI:=λJ μ=>(G J μ).bind λp=>match p.1 with
 |.fz ds=>some (ds,yes,p.2)
 |.loc n=>match p.2[n]? with
  |some (.lst ds)=>some (ds,z1i n ds,p.2)
  |_=>none
 |_=>none
def zUj{K:yx}{Z:List yf}{H:Hp}{a:yf}{ds:List D}{ok:Mem->Bool}(h:∀Z' H' μ',Ext Z H Z' H'->tF K Z' H' μ'->ok μ'=true->∃vs,SqL K H' a vs/\tj K Z' H' ds vs):TV K (Itl K a) Z H ds ok:=by
 refine⟨λZ' H' μ' i x R o hi=>?_,λZ' H' μ' i x H'' d x' R o e ⟨y1,y2⟩=>⟨y1▸Ext.refl,y1▸R,y1▸?_⟩,λZ' H' μ' x R o=>?_⟩
 ·obtain⟨vs,s,r⟩:=h Z' H' μ' x R o;have hi':i<vs.length:=by rw[<-r.length];exact hi
  exact⟨vs,vs[i],s,by simp[hi']⟩
 ·obtain⟨vs,s,r⟩:=h Z' H' μ' x' R o;have q:=y2 vs s;obtain⟨w,e1,rr⟩:=r.get e;rw[q]at e1;cases e1;exact rr
 ·obtain⟨vs,s,r⟩:=h Z' H' μ' x R o;exact⟨vs,s,by rw[r.length];exact yi _⟩
def zJq{tg:yC}(h:ME X a G):MI X tg a (z8q G) :=
 zFo (zsu h) λZ J μ Y H ds ok μ' R A e k=>by
  obtain⟨⟨x,μ1⟩,e1,e⟩:=zl e;refine⟨Z,J,μ,x,μ1,A,e1,λZ1 H1 v1 x1 R1 r1=>?_⟩;dsimp only at e
  split at e
  ·cases e;obtain⟨a,vs,rfl,e2,q2⟩:=r1.TJ;exact⟨a,rfl,⟨vs,e2.sq⟩,k Z1 H1 _ x1 R1 (zUj λZ' H' μ' x _ _=>⟨vs,(x.fz e2).sq,q2.ext x⟩)⟩
  ·split at e
   ·rename_i hm
    cases e;obtain⟨a,rfl,e2⟩:=r1.tx;obtain⟨vs,e3,q3⟩:=R1.at_ _ _ _ e2 hm;refine⟨a,rfl,⟨vs,SqL.of e3⟩,k Z1 H1 _ x1 R1 (zUj λZ' H' μ'' x R' o=>?_)⟩;obtain⟨vs',e4,q4⟩:=R'.at_ _ _ _ (x.get e2) (Tt.mp o);exact⟨vs',SqL.of e4,q4⟩
   ·cases e
  ·cases e
def zCg(g:FG)(body:FS)(ok:Mem->Bool):List D->FS
 |[],J,μ=>bif ok μ then some (.next J μ) else none
 |x::xs,J,μ=>bif ok μ then(g x J μ).bind λp=>match body p.1 p.2 with
  |some (.next J' μ')=>zCg g body ok xs J' μ'
  |some (.cont J' μ')=>zCg g body ok xs J' μ'
  |some (.brk J' μ')=>some (.next J' μ')
  |some (.ret d μ')=>some (.ret d μ')
  |some (.exc C fs μ')=>some (.exc C fs μ')
  |none=>none
  else none
@[simp] def z3i(i:FI)(g:FG)(body:FS):FS:=λJ μ=>(i J μ).bind λp=>zCg g body p.2.1 p.1 J p.2.2
def zgc{tg iter:yC}{body:List Yp}{i:FI}{g:FG}{p:FS}(hi:MI X tg iter i)(hg:MG X tg g)(hb:MSs X body p)(hx:PassesOwn (yz X.prog X.w) X.A X.env X.xe:=by first|exact PassesOwn.never|exact PassesOwn.leaving)(hc:X.calm=true:=by rfl)
 (hs:∀x,YL iter X.env x=pure x:=by intro _;rfl):MS X (.For tg iter body [] pos) (z3i i g p) :=
 z5i (z6v hx hc hi hg hb hs) λZ J μ Y H o E A e k=>by
  obtain⟨⟨ds,ok,μ1⟩,e1,e⟩:=zl e;refine⟨Z,J,μ,ds,ok,μ1,A,e1,λZ1 H1 δ x1 R1 II=>?_⟩;refine⟨λi m Y' H'=>∃Z' J' μ',Ext Z1 H1 Z' H'/\At X.K Z' H' Y' J' μ'/\i<=ds.length/\m=ds.length-i/\zCg g p ok (ds.drop i) J' μ'=some o,⟨_,Z1,J,μ1,Ext.refl,A.ext x1 R1,Yl _,rfl,e⟩,?_⟩;rintro i m Y' H' ⟨Z',J',μ',x',A',hi,rfl,ef⟩
  by_cases hlt:i<ds.length
  ·right
   have hd:ds.drop i=ds[i]::ds.drop (i+1):=drop_eq_getElem_cons hlt;rw[hd]at ef;unfold zCg at ef;obtain⟨hok,ef⟩:=zP ef;obtain⟨⟨J2,μ2⟩,e2,ef⟩:=zl ef;refine⟨II.go Z' H' μ' i x' A'.hp hok hlt,λY3 H3=>∃Z3 J3 μ3,Ext Z1 H1 Z3 H3/\At X.K Z3 H3 Y3 J3 μ3/\zCg g p ok (ds.drop (i+1)) J3 μ3=some o,λY3 H3 ⟨Z3,J3,μ3,x3,A3,e3⟩=>⟨ds.length-(i+1),by omega,Z3,J3,μ3,x3,A3,hlt,rfl,e3⟩,λx H'' y=>?_⟩;obtain⟨xe,Re,rx⟩:=II.yld Z' H' μ' i x H'' ds[i] x' A'.hp hok (by simp[hlt]) y;have x':=x'.trans xe;refine⟨Z',J',μ',ds[i],J2,μ2,A'.ext xe Re,rx,e2,λZ4 Y4 H4 x4 A4=>?_⟩
   cases eb:p J2 μ2 with
   |none=>rw[eb]at ef;cases ef
   |some ob=>
    rw[eb]at ef;refine⟨Z4,J2,μ2,ob,A4,eb,?_⟩;have x5:=x'.trans x4
    cases ob with
    |next J6 μ6=>exact λZ6 Y6 H6 x6 A6=>⟨Z6,J6,μ6,x5.trans x6,A6,ef⟩
    |cont J6 μ6=>exact λZ6 Y6 H6 x6 A6=>⟨Z6,J6,μ6,x5.trans x6,A6,ef⟩
    |brk J6 μ6=>cases ef;exact(k.ext x1).ext x5
    |ret d μ6=>cases ef;exact(k.ext x1).ext x5
    |exc C fs μ6=>cases ef;exact(k.ext x1).ext x5
  ·left
   have e0:i=ds.length:=by omega
   subst e0;rw[List.drop_length]at ef;unfold zCg at ef;obtain⟨hok,ef⟩:=zP ef;cases ef;exact⟨II.stop Z' H' μ' x' A'.hp hok,k Z' Y' H' (x1.trans x') A'⟩
end
def zcr(g:FG)(c:FT)(G:FE)(ok:Mem->Bool)(J:Loc):List D->List D->Mem->Option (D×Mem)
 |[],ys,μ=>bif ok μ then some (.loc μ.length,μ++[.lst ys]) else none
 |x::xs,ys,μ=>bif ok μ then(g x J μ).bind λp=>(c p.1 p.2).bind λt=>bif t.1 then(G p.1 t.2).bind λq=>zcr g c G ok J xs (ys++[q.1]) q.2 else zcr g c G ok J xs ys t.2 else none
@[simp] def δC(n:Nat)(fr:List Nat)(J:Loc):Loc:=yg n none++fr.map λi=>(J[i]?).getD none
@[simp] def few(ds:List D):Bool:=decide (ds.length<=1000000)
@[simp] def fLC(n:Nat)(fr:List Nat)(i:FI)(g:FG)(c:FT)(G:FE):FE:=λJ μ=>(i J μ).bind λp=>bif few p.1 then zcr g c G p.2.1 (δC n fr J) p.1 [] p.2.2 else none
def MF(X:Cx)(ifs:List yC)(c:FT):Prop:=PF X ifs (tMT X.K c)
@[simp] def zgp:FT:=λ_ μ=>some (true,μ)
def zAf{X:Cx}:MF X [] zgp:=by intro pins s Y H Q I hh;obtain⟨Z,J,μ,b,μ',A,e,k⟩:=hh;exact z9u pins s Y H Q I (by cases e;exact k Z H Ext.refl A.hp)
def z2g{X:Cx}{e:yC}{c:FT}(h:MT X e c):MF X [e] c:=zbv h
def At.δC{K:yx}{Z:List yf}{H:Hp}{Y:L2.St}{J:Loc}{μ:Mem}(A:At K Z H Y J μ)(n:Nat)(fr:List Nat):At K Z H (σC n fr Y) (M.δC n fr J) μ:=by
 refine⟨λi d e=>?_,A.hp,by unfold σC M.δC;simp⟩;unfold M.δC at e;unfold σC
 by_cases hi:i<n
 ·rw[yu (by simpa using hi),Yn]at e
  split at e<;>cases e
 ·have hi:n<=i:=Nat.le_of_not_lt hi;rw[yJ (by simpa using hi),length_replicate,yj]at e;rw[yJ (by simpa using hi),length_replicate,yj]
  cases e1:fr[i-n]? with
  |none=>rw[e1]at e;cases e
  |some j=>
   rw[e1]at e;have e2:(J[j]?).getD none=some d:=yY e
   have e3:J[j]?=some (some d):=by
    cases q:J[j]? with
    |none=>rw[q]at e2;cases e2
    |some z=>rw[q]at e2;exact congrArg some e2
   obtain⟨v,hv,r⟩:=A.st j d e3;exact⟨v,by rw[Option.map_some,hv];rfl,r⟩
def Tx(n:Nat)(Y Y':L2.St):Prop:=Y'.length=Y.length/\∀(i:Nat),n<=i->Y'[i]?=Y[i]?
def Tx.refl{n:Nat}{Y:L2.St}:Tx n Y Y:=⟨rfl,λ_ _=>rfl⟩
def Tx.trans{n:Nat}{Y Y1 Y2:L2.St}(a:Tx n Y Y1)(b:Tx n Y1 Y2):Tx n Y Y2:=⟨b.1.trans a.1,λi h=>(b.2 i h).trans (a.2 i h)⟩
def tGc(K:yx)(n:Nat)(g:FG):TG:=λv Y H Q=>∃Z J μ d J' μ',At K Z H Y J μ/\tm K Z H d v/\g d J μ=some (J',μ')/\∀Z' Y' H',Ext Z H Z' H'->At K Z' H' Y' J' μ'->Tx n Y Y'->Q Y' H'
def zVx(K:yx)(n:Nat)(g:FGs):TGs:=λvs Y H Q=>∃Z J μ ds J' μ',At K Z H Y J μ/\tj K Z H ds vs/\g ds J μ=some (J',μ')/\∀Z' Y' H',Ext Z H Z' H'->At K Z' H' Y' J' μ'->Tx n Y Y'->Q Y' H'
def MGc(X:Cx)(n:Nat)(t:yC)(g:FG):Prop:=PG X t (tGc X.K n g)
def zsw(X:Cx)(n:Nat)(t:List yC)(g:FGs):Prop:=PGs X t (zVx X.K n g)
section
variable {X:Cx}{e:yC}{es:List yC}{pos:xU}{n:Nat}
def zZ{x:yG}(i:Nat)(hin:i<n:=by decide)(hN:X.N.Nodup:=by first|assumption|decide)(hi:X.N[i]?=some x:=by rfl)(hx:L2.Loc X.env.scope x:=by first|exact Or.inl rfl|exact Or.inr rfl)(hf:X.fn x=true\/X.env.scope.names.lookup x=some .local:=by first|exact .inl rfl|exact .inr rfl|assumption):MGc X n (.Name x pos) (gN i) :=
 by intro pins s Y H v u Q I r hh;obtain⟨Z,J,μ,d,J',μ',A,q,e,k⟩:=hh;exact zHq hN hi hx hf pins s Y H v u Q I r (by
  cases e;exact k Z _ H Ext.refl (A.set q i) ⟨by simp,λj hj=>Yr (by omega)⟩)
def zMf:zsw X n [] zse:=by intro pins s Y H v u Q I r hh;obtain⟨Z,J,μ,d,J',μ',A,q,e,k⟩:=hh;exact zZp pins s Y H v u Q I r (by
 unfold zse at e
 split at e
 ·cases e;exact⟨q.nil_inv,k Z Y H Ext.refl A Tx.refl⟩
 ·cases e)
def zOb{g:FG}{gs:FGs}(h1:MGc X n e g)(h2:zsw X n es gs)(hs:(Yh (e::es) X.env).map (·.2)=assign e X.env::(Yh es X.env).map (·.2):=by rfl):zsw X n (e::es) (zgb g gs) :=
 by intro pins s Y H vs us Q I r hh;obtain⟨Z,J,μ,ds,J',μ',A,q,e,k⟩:=hh;exact z2n h1 h2 hs pins s Y H vs us Q I r (by
  unfold zgb at e
  split at e
  ·obtain⟨⟨J1,μ1⟩,e1,e⟩:=zl e;obtain⟨v,vr,rfl,q1,q2⟩:=q.cons_inv;refine⟨v,vr,rfl,Z,J,μ,_,J1,μ1,A,q1,e1,λZ1 Y1 H1 x1 A1 f1=>?_⟩;exact⟨Z1,J1,μ1,_,J',μ',A1,q2.ext x1,e,λZ2 Y2 H2 x2 A2 f2=>k Z2 Y2 H2 (x1.trans x2) A2 (f1.trans f2)⟩
  ·cases e)
def z8h{k m:Nat}{gs:FGs}(h:zsw X n es gs)(hc:X.calm=true:=by rfl)(hn:(Yh es X.env).length=m:=by rfl)(hst:(Yh es X.env).findIdx? (·.1)=none:=by rfl):MGc X n (.Tuple es k pos) (gT m gs) :=
 by intro pins s Y H v u Q I r hh;obtain⟨Z,J,μ,d,J',μ',A,q,e,k⟩:=hh;exact zEs hc h hn hst pins s Y H v u Q I r (by
  unfold gT at e
  split at e
  ·obtain⟨h1,e⟩:=zP e;obtain⟨a,vs,rfl,e2,q2⟩:=q.tT;exact⟨a,vs,rfl,SqT.of e2,by rw[<-q2.length];exact beq_iff_eq.mp h1,Z,J,μ,_,J',μ',A,q2,e,k⟩
  ·cases e)
end
def z4q{n:Nat}{fr:List Nat}{Y Y':L2.St}(f:Tx n (σC n fr Y) Y'):zgu (σC n fr Y) Y':=by
 refine⟨f.1,λi v e=>?_⟩;obtain⟨hi,_⟩:=σC_get e;rw[f.2 i hi];exact e
def Tb:1000000<yF:=by rw[YN];decide
def zxx{K:yx}{n:Nat}{fr:List Nat}{i:FI}{g:FG}{c:FT}{G:FE}{Z:List yf}{J:Loc}{μ:Mem}{Y:L2.St}{H:Hp}{d:D}{μ':Mem}{Q:VK}(A:At K Z H Y J μ)(e:fLC n fr i g c G J μ=some (d,μ'))
 (k:∀Z' H' v,Ext Z H Z' H'->tF K Z' H' μ'->tm K Z' H' d v->Q v H'):tLC n fr (tMI K i) (tGc K n g) (tMT K c) (tM K G) Y H Q:=by
 obtain⟨⟨ds,ok,μ1⟩,e1,e⟩:=zl e;obtain⟨hfew,e⟩:=zP e;have hfew:ds.length<=1000000:=of_decide_eq_true hfew;refine⟨Z,J,μ,ds,ok,μ1,A,e1,λZ1 H1 δ x1 R1 II=>?_⟩;refine⟨λi m ys H'=>∃Z' es μ2,Ext Z1 H1 Z' H'/\tF K Z' H' μ2/\tj K Z' H' es ys/\es.length<=i/\i<=ds.length/\m=ds.length-i/\zcr g c G ok (δC n fr J) (ds.drop i) es μ2=some (d,μ'),⟨_,Z1,[],μ1,Ext.refl,R1,.nil,Yl _,Yl _,rfl,e⟩,?_⟩;rintro i m ys H' ⟨Z',es,μ2,x',R',re,hel,hi,rfl,ef⟩
 by_cases hlt:i<ds.length
 ·right
  have hd:ds.drop i=ds[i]::ds.drop (i+1):=drop_eq_getElem_cons hlt;rw[hd]at ef;unfold zcr at ef;obtain⟨hok,ef⟩:=zP ef;obtain⟨⟨J2,μ3⟩,e2,ef⟩:=zl ef;obtain⟨⟨b,μ4⟩,e3,ef⟩:=zl ef;refine⟨II.go Z' H' μ2 i x' R' hok hlt,?_,λx H'' y=>?_⟩
  ·rw[<-re.length];exact Nat.lt_of_le_of_lt (yB hel (yB hi hfew)) Tb
  ·obtain⟨xe,Re,rx⟩:=II.yld Z' H' μ2 i x H'' ds[i] x' R' hok (by simp[hlt]) y;have x':=x'.trans xe;have re:=re.ext xe;have A':At K Z' H'' (σC n fr Y) (δC n fr J) μ2:=((A.ext x1 R1).ext x' Re).δC n fr;refine⟨Z',_,μ2,ds[i],J2,μ3,A',rx,e2,λZ4 Y4 H4 x4 A4 f4=>⟨z4q f4,?_⟩⟩;refine⟨Z4,J2,μ3,b,μ4,A4,e3,λZ5 H5 x5 R5=>?_⟩
   cases b with
   |false=>exact sJ ⟨ds.length-(i+1),by omega,Z5,es,μ4,x'.trans (x4.trans x5),R5,re.ext (x4.trans x5),by omega,hlt,rfl,ef⟩
   |true=>
    obtain⟨⟨y,μ6⟩,e4,ef⟩:=zl ef;refine sK ⟨Z5,J2,μ4,y,μ6,A4.ext x5 R5,e4,λZ6 H6 v x6 R6 r6=>?_⟩;exact⟨ds.length-(i+1),by omega,Z6,es++[y],μ6,x'.trans (x4.trans (x5.trans x6)),R6,(re.ext (x4.trans (x5.trans x6))).append (.cons r6 .nil),by simp;exact hel,hlt,rfl,ef⟩
 ·left
  have e0:i=ds.length:=by omega
  subst e0;rw[List.drop_length]at ef;unfold zcr at ef;obtain⟨hok,ef⟩:=zP ef;cases ef;refine⟨II.stop Z' H' μ2 x' R' hok,λp hp=>?_⟩;exact k _ _ _ (x1.trans (x'.trans (Ext.push hp))) (R'.push hp ⟨ys,zC,re.ext (Ext.push hp)⟩) (.loc (zrb R'))
def zNw{X:Cx}{scope:Xa}{elt tg iter:yC}{ifs:List yC}{pos:xU}{i:FI}{g:FG}{c:FT}{G:FE}(own:List yG)(fr:List Nat)(hi:MI X tg iter i)
 (hg:∀cl C s₀ H₀ fp,MGc (cxC X own fr scope cl C s₀ H₀ fp) own.length tg g) (hq:∀cl C s₀ H₀ fp,MF (cxC X own fr scope cl C s₀ H₀ fp) ifs c) (he:∀cl C s₀ H₀ fp,ME (cxC X own fr scope cl C s₀ H₀ fp) elt G)
 (hc:X.calm=true:=by rfl) (hk:scope.kind=.function:=by rfl) (hnm:∀y∈scope.names,scope.names.lookup y.1=some y.2:=by decide)
 (hfree:∀x∈scope.names,x.2=.free->(X.env.kindOf x.1=some .cell\/X.env.kindOf x.1=some .free):=by decide) (hfr:∀i∈fr,∃x,X.N[i]?=some x/\scope.names.lookup x=some .free)
 (hs:∀x,YL iter X.env x=pure x:=by intro _;rfl):ME X (.ListComp elt [⟨tg,iter,ifs,0⟩] scope pos) (fLC own.length fr i g c G) :=
 zsd (zZw (wi:=tMI X.K i) (g:=tGc X.K own.length g) (tc:=tMT X.K c) (te:=tM X.K G) own fr hc hi (λcl C s₀ H₀ fp=>hg cl C s₀ H₀ fp) (λcl C s₀ H₀ fp=>hq cl C s₀ H₀ fp) (λcl C s₀ H₀ fp=>he cl C s₀ H₀ fp) hk hnm hfree hfr hs) λZ J μ Y H d μ' Q A e k=>zxx A e k
def toP(μ:Mem):Nat->D->Option PyData
 |0,_=>none
 |n+1,d=>match d with
  |.non=>some .none
  |.bl b=>some (.bool b)
  |.int i=>some (.int i)
  |.str x=>bif xN x then some (.str x) else none
  |.ty _=>none
  |.own _=>none
  |.tup ds=>(ds.mapM (toP μ n)).bind λps=>some (.tuple ps)
  |.fz ds=>(ds.mapM (toP μ n)).bind λps=>some (.list ps)
  |.loc k=>match μ[k]? with
   |some (.lst ds)=>(ds.mapM (toP μ n)).bind λps=>some (.list ps)
   |_=>none
def zdh{f:D->Option PyData}{ps:List PyData}(h:([]:List D).mapM f=some ps):ps=[]:=by
 simp at h;exact h
def zpg{f:D->Option PyData}{d:D}{ds:List D}{ps:List PyData}(h:(d::ds).mapM f=some ps):∃p r,f d=some p/\ds.mapM f=some r/\ps=p::r:=by
 rw[mapM_cons]at h;obtain⟨p,e1,h⟩:=zl h;obtain⟨r,e2,h⟩:=zl h;cases h;exact⟨p,r,e1,e2,rfl⟩
def zxj{f:D->Option PyData}{m:Nat}(hf:∀d p,f d=some p->p.canLay0=true/\p.depth<=m):∀{ds:List D} {ps:List PyData},ds.mapM f=some ps->PyData.canLayAll0 ps=true/\PyData.depthAll ps<=m
 |[],ps,h=>by rw[zdh h];exact⟨rfl,Yl _⟩
 |d::ds,ps,h=>by
  obtain⟨p,r,e1,e2,rfl⟩:=zpg h;obtain⟨h1,h2⟩:=hf d p e1;obtain⟨h3,h4⟩:=zxj hf e2;refine⟨?_,?_⟩
  ·simp only[PyData.canLayAll0,h1,h3,Bool.and_true]
  ·simp only[PyData.depthAll];omega
def zEl{μ:Mem}:∀(n:Nat)(d:D)(p:PyData),toP μ n d=some p->p.canLay0=true/\p.depth<=n
 |0,d,p,h=>by cases h
 |n+1,d,p,h=>by
  have seq:∀{ds:List D} {c:List PyData->PyData},(∀ps,(c ps).canLay0=PyData.canLayAll0 ps)->(∀ps,(c ps).depth=PyData.depthAll ps+1)->((ds.mapM (toP μ n)).bind λps=>some (c ps))=some p->p.canLay0=true/\p.depth<=n+1:=λ{ds c} h1 h2 h=>by
   obtain⟨ps,e1,e2⟩:=zl h;cases e2;obtain⟨q1,q2⟩:=zxj (zEl n) e1;exact⟨by rw[h1];exact q1,by rw[h2];omega⟩
  unfold toP at h
  cases d with
  |non=>cases h;exact⟨rfl,Yl _⟩
  |bl b=>cases h;exact⟨rfl,Yl _⟩
  |int b=>cases h;exact⟨rfl,Yl _⟩
  |str x=>
   obtain⟨h1,h2⟩:=zP h;cases h2;exact⟨h1,Yl _⟩
  |ty _=>cases h
  |own _=>cases h
  |tup ds=>exact seq (λ_=>rfl) (λ_=>rfl) h
  |fz ds=>exact seq (λ_=>rfl) (λ_=>rfl) h
  |loc k=>
   dsimp only at h
   split at h
   ·exact seq (λ_=>rfl) (λ_=>rfl) h
   ·cases h
section
variable {X:Cx}{pins:List (yf×YY)}{Y:L2.St}{H:Hp}{s:yd}{Z:List yf}{μ:Mem}
def zkg{f:D->Option PyData}(hf:∀d p v u,f d=some p->tm X.K Z H d v->RelV v u->∃as,Reads s.heap u p as):∀{ds:List D} {ps:List PyData} {vs:List V} {us:List yb},ds.mapM f=some ps->tj X.K Z H ds vs->Vals vs us->∃as,ReadsAll s.heap us ps as
 |[],ps,vs,us,h,r,q=>by
  rw[zdh h];rw[r.nil_inv]at q;cases q;exact⟨[],.nil⟩
 |d::ds,ps,vs,us,h,r,q=>by
  obtain⟨p,pr,e1,e2,rfl⟩:=zpg h;obtain⟨v,vr,rfl,r1,r2⟩:=r.cons_inv
  cases q with
  |cons q1 q2=>
   obtain⟨a1,h1⟩:=hf _ _ _ _ e1 r1 q1;obtain⟨a2,h2⟩:=zkg hf e2 r2 q2;exact⟨_,.cons h1 h2⟩
def z0d(I:Inv X pins Y H s)(R:tF X.K Z H μ):∀(n:Nat)(d:D)(p:PyData)(v:V)(u:yb),toP μ n d=some p->tm X.K Z H d v->RelV v u->∃as,Reads s.heap u p as
 |0,d,p,v,u,h,_,_=>by cases h
 |n+1,d,p,v,u,h,r,q=>by
  unfold toP at h
  cases d with
  |non=>cases h;rw[r.tQ]at q;cases q;exact⟨_,.none⟩
  |bl b=>cases h;rw[r.tO]at q;cases q;exact⟨_,.bool b⟩
  |int b=>cases h;rw[r.int_inv]at q;obtain⟨t,rfl⟩:=q;exact⟨_,.int b t⟩
  |str x=>
   obtain⟨h1,h2⟩:=zP h;cases h2;rw[r.str_inv]at q;obtain⟨t,rfl⟩:=q;exact⟨_,.str x t⟩
  |ty _=>cases h
  |own _=>cases h
  |tup ds=>
   obtain⟨ps,e1,e2⟩:=zl h;cases e2;obtain⟨a,vs,rfl,e3,rr⟩:=r.tT;cases q;obtain⟨its,rv,⟨o,ho,hc,k,hd⟩,_⟩:=I.tuple (SqT.of e3);obtain⟨as,ha⟩:=zkg (z0d I R n) e1 rr rv;exact⟨_,reads_tuple_at ho hc hd (by simpa using ha)⟩
  |fz ds=>
   obtain⟨ps,e1,e2⟩:=zl h;cases e2;obtain⟨a,vs,rfl,e3,rr⟩:=r.TJ;cases q;obtain⟨its,rv,⟨o,k,ho,hc,_,hd⟩,_⟩:=I.list e3.sq;obtain⟨as,ha⟩:=zkg (z0d I R n) e1 rr rv;exact⟨_,reads_list_at ho hc hd (by simpa using ha)⟩
  |loc k=>
   dsimp only at h
   split at h
   ·rename_i hm
    obtain⟨ps,e1,e2⟩:=zl h;cases e2;obtain⟨a,rfl,e2⟩:=r.tx;obtain⟨vs,e3,rr⟩:=R.at_ _ _ _ e2 hm;cases q;obtain⟨its,rv,⟨o,k,ho,hc,_,hd⟩,_⟩:=I.list (SqL.of (K:=X.K) e3);obtain⟨as,ha⟩:=zkg (z0d I R n) e1 rr rv;exact⟨_,reads_list_at ho hc hd (by simpa using ha)⟩
   ·cases h
end
def gEq:φ2:=λx y μ=>(toP μ 8 x).bind λp=>(toP μ 8 y).bind λq=>some (.bl (Yx p q),μ)
def gNe:φ2:=λx y μ=>(toP μ 8 x).bind λp=>(toP μ 8 y).bind λq=>some (.bl (!PyData.eqv p q),μ)
def zsg{μ:Mem}{d:D}{p:PyData}(h:toP μ 8 d=some p):SeqAt.shaped p=true:=by
 obtain⟨h1,h2⟩:=zEl 8 d p h;unfold SeqAt.shaped;rw[h1,decide_eq_true (by omega)];rfl
section
variable {X:Cx}{a b c e:yC}{es:List yC}{G ψ χ:FE}{pos:xU}
def zub(hu:X.A.units+64<cLine):OpM X (Yj .Eq) gEq:=by
 refine OpM.of λpins s Y H x y v u Q I rx ry Z dx dy μ d μ' r1 r2 R e k=>?_;obtain⟨p,e1,e⟩:=zl e;obtain⟨q,e2,e⟩:=zl e;cases e;obtain⟨as,h1⟩:=z0d I R 8 dx p x v e1 r1 rx;obtain⟨bs,h2⟩:=z0d I R 8 dy q y u e2 r2 ry;exact eq_dataH h1 h2 (zsg e1) (zsg e2) hu ⟨.bl _,H,I,rfl,k Z H _ Ext.refl R .bl⟩
def z3e(hu:X.A.units+64<cLine):OpM X (Yj .NotEq) gNe:=by
 refine OpM.of λpins s Y H x y v u Q I rx ry Z dx dy μ d μ' r1 r2 R e k=>?_;obtain⟨p,e1,e⟩:=zl e;obtain⟨q,e2,e⟩:=zl e;cases e;obtain⟨as,h1⟩:=z0d I R 8 dx p x v e1 r1 rx;obtain⟨bs,h2⟩:=z0d I R 8 dy q y u e2 r2 ry;exact ne_dataH h1 h2 (zsg e1) (zsg e2) hu ⟨.bl _,H,I,rfl,k Z H _ Ext.refl R .bl⟩
@[simp] def gIs:φ2:=λx y μ=>match x,y with
 |.bl i,.bl j=>some (.bl (i==j),μ)
 |.non,.non=>some (.bl true,μ)
 |.bl _,.non=>some (.bl false,μ)
 |.int _,.non=>some (.bl false,μ)
 |.str _,.non=>some (.bl false,μ)
 |.tup _,.non=>some (.bl false,μ)
 |.loc _,.non=>some (.bl false,μ)
 |_,_=>none
@[simp] def zSg:φ2:=λx y μ=>match x,y with
 |.bl i,.bl j=>some (.bl (i != j),μ)
 |.non,.non=>some (.bl false,μ)
 |.bl _,.non=>some (.bl true,μ)
 |.int _,.non=>some (.bl true,μ)
 |.str _,.non=>some (.bl true,μ)
 |.tup _,.non=>some (.bl true,μ)
 |.loc _,.non=>some (.bl true,μ)
 |_,_=>none
def zag:OpM X (Yj .IsNot) zSg:=by
 refine OpM.of λpins s Y H x y v u Q I rx ry Z dx dy μ d μ' r1 r2 R e k=>?_;unfold zSg at e
 split at e<;>cases e
 ·rw[r1.tO]at rx;rw[r2.tO]at ry;cases rx;cases ry;exact isnot_bool ⟨.bl _,H,I,rfl,k Z H _ Ext.refl R .bl⟩
 ·exact zLg pins s Y H x y v u Q I rx ry ⟨r2.tQ,by rw[r1.tQ];exact k Z H _ Ext.refl R .bl⟩
 ·exact zLg pins s Y H x y v u Q I rx ry ⟨r2.tQ,by rw[r1.tO];exact k Z H _ Ext.refl R .bl⟩
 ·exact zLg pins s Y H x y v u Q I rx ry ⟨r2.tQ,by rw[r1.int_inv];exact k Z H _ Ext.refl R .bl⟩
 ·exact zLg pins s Y H x y v u Q I rx ry ⟨r2.tQ,by rw[r1.str_inv];exact k Z H _ Ext.refl R .bl⟩
 ·exact zLg pins s Y H x y v u Q I rx ry ⟨r2.tQ,by obtain⟨a,vs,rfl,_⟩:=r1.tT;exact k Z H _ Ext.refl R .bl⟩
 ·exact zLg pins s Y H x y v u Q I rx ry ⟨r2.tQ,by obtain⟨a,rfl,_⟩:=r1.tx;exact k Z H _ Ext.refl R .bl⟩
inductive Ty where
 |non|bl|int|str|tup|lst|dict
 deriving DecidableEq
@[simp] def z4x:D->Bool
 |.bl _=>true
 |_=>false
@[simp] def blB:D->Bool
 |.bl b=>b
 |_=>false
def zgr{scope:Xa}{elt tg iter:yC}{ifs:List yC}{spos py:xU}{y:yG}{fi:FI}{g:FG}{ct:FT}(i:Nat)(own:List yG)(fr:List Nat)(hi:MI X tg iter fi)
 (hg:∀cl C s₀ H₀ fp,MGc (cxC X own fr scope cl C s₀ H₀ fp) own.length tg g) (hq:∀cl C s₀ H₀ fp,MF (cxC X own fr scope cl C s₀ H₀ fp) ifs ct) (he:∀cl C s₀ H₀ fp,ME (cxC X own fr scope cl C s₀ H₀ fp) elt G)
 (hfr:∀i∈fr,∃x,X.N[i]?=some x/\scope.names.lookup x=some .free)
 (hN:X.N.Nodup:=by first|assumption|decide) (hiN:X.N[i]?=some y:=by rfl) (hy:X.env.scope.names.lookup y=some .local:=by rfl)
 (hsw:swapsWith (.ListComp elt [⟨tg,iter,ifs,0⟩] scope pos) (some (.Name y py)) spos.line X.env=pure true:=by rfl)
 (hc:X.calm=true:=by rfl) (hk:scope.kind=.function:=by rfl) (hnm:∀y∈scope.names,scope.names.lookup y.1=some y.2:=by decide)
 (hfree:∀x∈scope.names,x.2=.free->(X.env.kindOf x.1=some .cell\/X.env.kindOf x.1=some .free):=by decide)
 (hs:∀x,YL iter X.env x=pure x:=by intro _;rfl):MS X (.Assign [.Name y py] (.ListComp elt [⟨tg,iter,ifs,0⟩] scope pos) spos) (zcc i (fLC own.length fr fi g ct G)) :=
 z5i (zWr (wi:=tMI X.K fi) (g:=tGc X.K own.length g) (tc:=tMT X.K ct) (te:=tM X.K G) own fr hN hiN hy hc hi hsw (λcl C s₀ H₀ fp=>hg cl C s₀ H₀ fp) (λcl C s₀ H₀ fp=>hq cl C s₀ H₀ fp) (λcl C s₀ H₀ fp=>he cl C s₀ H₀ fp) hk hnm hfree hfr hs) λZ J μ Y H o E A e k=>by
  obtain⟨⟨x,μ1⟩,e1,e⟩:=zl e;cases e;exact zxx A e1 λZ' H' v x' R r=>k Z' _ H' x' ((A.ext x' R).set r i)
end
@[simp] def zAb:Option Out->Option (D×Mem)
 |some (.ret d μ)=>some (d,μ)
 |some (.next _ μ)=>some (.non,μ)
 |_=>none
@[simp] def zS(N:List yG)(ds:List D):Loc:=ds.map some++yg (N.length-ds.length) none
def ztr{K:yx}{Z:List yf}{H:Hp}{μ:Mem}{N:List yG}{ds:List D}{vs:List V}(r:tj K Z H ds vs)(R:tF K Z H μ):At K Z H (L2.start N vs) (zS N ds) μ:=by
 refine⟨λi d e=>?_,R,by unfold L2.start zS;simp[r.length]⟩;unfold zS at e;unfold L2.start
 by_cases hi:i<ds.length
 ·rw[yu (by simpa using hi),yj]at e
  cases e1:ds[i]? with
  |none=>rw[e1]at e;cases e
  |some d'=>
   rw[e1]at e;cases e;obtain⟨v,e2,q⟩:=r.get e1;refine⟨v,?_,q⟩;rw[yu (by simpa[<-r.length] using hi),yj,e2];rfl
 ·rw[yJ (by simpa using hi),Yn]at e
  split at e<;>cases e
def fnM{P:yy}{w:yL}{K:yx}{mg:yG->Option yb}{base:yW}{x qual:yG}{st:Yp}{f:yf}{fd:yn}{N ps:List yG}{k n:Nat}{F:FF}(φ:Fun K x qual st f fd)(S:tu N ps (zx st))(hn:ps.length=n)
 (hbody:∀(cdv:yb)(A:yR)(outer:List Env)(s:yd)(H:Hp)(E:XK),Ti k (A.deeper (envOfC qual (zx st) s.heap.objs.size f cdv)) ->
  ∃p,MSs (zxt CX0 P w K mg base N qual (zx st) f cdv A outer s H E).nox (z8b st) p/\∀ds μ d μ',ds.length=n->F ds μ=some (d,μ')->zAb (p (zS N ds) μ)=some (d,μ')) :
 tw P w K mg base CX0 (k+1) f fd ps (spM K n F):=by
 refine φ.ok S (λvs H Q E h=>by rw[hn];exact h.1) (λcdv A outer s H vs Q E hr h=>?_);obtain⟨p,hp,hF⟩:=hbody cdv A outer s H E hr;refine⟨_,hp,?_⟩;obtain⟨hl,Z,ds,μ,d,μ',r,R,e,k⟩:=h;have e':=hF ds μ d μ' (by rw[r.length];exact hl) e
 cases eo:p (zS N ds) μ with
 |none=>rw[eo]at e';cases e'
 |some o=>
  rw[eo]at e';refine⟨Z,zS N ds,μ,o,ztr r R,eo,?_⟩
  cases o with
  |ret d2 μ2=>cases e';exact λZ' v H' x' R' r'=>k Z' H' v x' R' r'
  |next J2 μ2=>cases e';exact λZ' Y' H' x' A'=>k Z' H' .non x' A'.hp .non
  |brk _ _=>cases e'
  |cont _ _=>cases e'
  |exc _ _ _=>cases e'
def zGs(sc inner:Xa):Bool:=(inner.kind == .function)&&inner.names.all (λy=>inner.names.lookup y.1==some y.2) &&
 inner.names.all λx=>x.2 != .free||sc.names.lookup x.1==some .cell||sc.names.lookup x.1==some .free
def z7k{sc inner:Xa}(h:zGs sc inner=true):inner.kind=.function:=by
 unfold zGs at h;simp only[yN,beq_iff_eq]at h;exact h.1.1
def zNp{sc inner:Xa}(h:zGs sc inner=true):∀y∈inner.names,inner.names.lookup y.1=some y.2:=by
 unfold zGs at h;simp only[yN]at h;intro y hy;exact beq_iff_eq.mp (List.all_eq_true.mp h.1.2 y hy)
def zdm{sc inner:Xa}(h:zGs sc inner=true):∀x∈inner.names,x.2=.free->(sc.names.lookup x.1=some .cell\/sc.names.lookup x.1=some .free):=by
 unfold zGs at h;simp only[yN]at h;intro y hy e;have:=List.all_eq_true.mp h.2 y hy;simpa[e] using this
def zY{N:List yG}(h:decide N.Nodup=true):N.Nodup:=of_decide_eq_true h
def zxc{P:Nat->Prop}:∀i∈([]:List Nat),P i:=λi h=>nomatch h
def z6b{P:Nat->Prop}{i:Nat}{l:List Nat}(h:P i)(r:∀j∈l,P j):∀j∈i::l,P j:=λj hj=>by
 rcases List.mem_cons.mp hj with rfl|hj
 ·exact h
 ·exact r j hj
section
variable {X:Cx}{a b c e:yC}{es:List yC}{G ψ χ:FE}{pos:xU}
def mlc{scope:Xa}{elt tg iter:yC}{ifs:List yC}{i:FI}{g:FG}{ct:FT}(own:List yG)(fr:List Nat)(hi:MI X tg iter i)
 (hg:∀cl C s₀ H₀ fp,MGc (cxC X own fr scope cl C s₀ H₀ fp) own.length tg g) (hq:∀cl C s₀ H₀ fp,MF (cxC X own fr scope cl C s₀ H₀ fp) ifs ct) (he:∀cl C s₀ H₀ fp,ME (cxC X own fr scope cl C s₀ H₀ fp) elt G)
 (hfr:∀i∈fr,∃x,X.N[i]?=some x/\scope.names.lookup x=some .free) (hok:zGs X.env.scope scope=true:=by rfl) (hc:X.calm=true:=by rfl) (hs:∀x,YL iter X.env x=pure x:=by intro _;rfl) :
 ME X (.ListComp elt [⟨tg,iter,ifs,0⟩] scope pos) (fLC own.length fr i g ct G) :=
 zNw own fr hi hg hq he hc (z7k hok) (zNp hok) (zdm hok) hfr hs
def mslc{scope:Xa}{elt tg iter:yC}{ifs:List yC}{spos py:xU}{y:yG}{fi:FI}{g:FG}{ct:FT}(i:Nat)(own:List yG)(fr:List Nat)(hi:MI X tg iter fi)
 (hg:∀cl C s₀ H₀ fp,MGc (cxC X own fr scope cl C s₀ H₀ fp) own.length tg g) (hq:∀cl C s₀ H₀ fp,MF (cxC X own fr scope cl C s₀ H₀ fp) ifs ct) (he:∀cl C s₀ H₀ fp,ME (cxC X own fr scope cl C s₀ H₀ fp) elt G)
 (hfr:∀i∈fr,∃x,X.N[i]?=some x/\scope.names.lookup x=some .free) (hN:X.N.Nodup) (hiN:X.N[i]?=some y:=by rfl) (hy:X.env.scope.names.lookup y=some .local:=by rfl)
 (hsw:swapsWith (.ListComp elt [⟨tg,iter,ifs,0⟩] scope pos) (some (.Name y py)) spos.line X.env=pure true:=by rfl) (hok:zGs X.env.scope scope=true:=by rfl) (hc:X.calm=true:=by rfl) (hs:∀x,YL iter X.env x=pure x:=by intro _;rfl) :
 MS X (.Assign [.Name y py] (.ListComp elt [⟨tg,iter,ifs,0⟩] scope pos) spos) (zcc i (fLC own.length fr fi g ct G)) :=
 zgr i own fr hi hg hq he hfr hN hiN hy hsw hc (z7k hok) (zNp hok) (zdm hok) hs
structure FnAt(K:yx)(mg:yG->Option yb)(x:yG)(st:Yp)(ps:List yG)(f:yf)(fd:yn):Prop where
 fn:Fun K x x st f fd
 at_:mg x=some (.ref f)
 bd:Binds K fd ps []
def tD{k j n:Nat}{st:Yp}{f:yf}{fd:yn}{ps:List yG}{F:FF}{x:yG}{p:xU}{G:FA}(B:FnAt X.K X.mg x st ps f fd)(φ:tw X.prog X.w X.K X.mg X.base CX0 j f fd ps (spM X.K n F))(hr:Ti k X.A)
 (ha:MAn X (e::es) G) (hj:j<=k:=by decide) (hn:(e::es).length=n:=by rfl) (hg:Gl X x:=by rfl) (hdb:(x==("__debug__":yG))=false:=by decide) (he:yw (e::es) X.env=(false,Yq e X.env)::yw es X.env:=by exact zbi rfl) (hpl:(xn pos (yw es X.env)).any (·.1)=false:=by rfl) :
 ME X (.Call (.Name x p) (e::es) [] pos) (zD F G):=zCt φ (hr.mono hj) B.at_ B.fn.kp B.bd ha hn hg hdb he hpl
def cat0{prog:yy}{w:yL}{A:yR}{E:yb->yd->Prop}{s:yd}{t b:yf}{vs ws:List yb}{Q:yb->yd->Prop}(ht:IsTup s.heap t vs.toArray)(hb:IsTup s.heap b ws.toArray)(hv:vs=[])(h:Q (.ref b) s) :
 yp (yz prog w) A (xD .Add (.ref t) (.ref b)) Q E s:=by
 obtain⟨⟨cls,dd,data,sl⟩,ho,hc,n,hd⟩:=id ht;obtain⟨⟨cls2,dd2,data2,sl2⟩,ho2,hc2,n2,hd2⟩:=id hb;simp only at hc hd hc2 hd2;subst hc hd hc2 hd2;refine concat_meets ⟨_,ho,rfl⟩ ⟨_,ho2,rfl⟩ noFill_tuple_add seq_tuple_add PySem.F.slot_tuple_add PySem.F.entry_tuple_add (PySem.F.args_tuple_add_2 _ _) (tuple_addW0 t b vs.toArray ws.toArray n n2 dd dd2 sl sl2 (by rw[hv];rfl)) ⟨ho,ho2,h⟩
def zyb:OpM X (xD .Add) zif:=by
 refine OpM.of λpins s Y H x y v u Q I rx ry Z dx dy μ d μ' r1 r2 R e k=>?_;unfold zif at e
 split at e
 ·cases e;rw[r1.int_inv]at rx;rw[r2.int_inv]at ry;obtain⟨t,rfl⟩:=rx;obtain⟨t',rfl⟩:=ry;exact add_int ⟨.int _,H,I.tok _,⟨_,rfl⟩,k Z H _ Ext.refl R .int⟩
 ·rename_i as bs
  obtain⟨h1,e⟩:=zP e;have h1:=of_decide_eq_true h1;cases e;obtain⟨a1,vs,rfl,e1,q1⟩:=r1.tT;obtain⟨a2,ws,rfl,e2,q2⟩:=r2.tT;have hm:=Tb;have hl1:=q1.length;have hl2:=q2.length
  by_cases hv:vs=[]
  ·cases rx;cases ry;obtain⟨its,rv,p1,_⟩:=I.tuple (SqT.of (K:=X.K) e1);obtain⟨its2,rv2,p2,_⟩:=I.tuple (SqT.of (K:=X.K) e2);refine cat0 p1 p2 (rv.TL.mpr hv) ⟨.ref a2,H,I,rfl,k Z H _ Ext.refl R ?_⟩;have ha:as=[]:=by rw[hv]at hl1;exact List.length_eq_zero_iff.mp hl1
   rw[ha,List.nil_append];exact r2
  ·refine zuu pins s Y H _ _ v u Q I rx ry ⟨a1,a2,vs,ws,rfl,rfl,SqT.of e1,SqT.of e2,hv,by omega,λhw=>?_,λ_ p hp=>?_⟩
   ·have hb:bs=[]:=by rw[hw]at hl2;exact List.length_eq_zero_iff.mp hl2
    rw[hb,append_nil]at k;exact k Z H _ Ext.refl R r1
   ·exact k Z _ _ (Ext.new hp) (R.Tg hp) (.tup zC ((q1.append q2).ext (Ext.new hp)))
 ·split at e
  ·rename_i hm1 hm2
   obtain⟨h1,e⟩:=zP e;have h1:=of_decide_eq_true h1;cases e;obtain⟨a1,rfl,e1⟩:=r1.tx;obtain⟨a2,rfl,e2⟩:=r2.tx;obtain⟨vs,e3,q1⟩:=R.at_ _ _ _ e1 hm1;obtain⟨ws,e4,q2⟩:=R.at_ _ _ _ e2 hm2;have hm:=Tb;have hl1:=q1.length;have hl2:=q2.length;exact zPv pins s Y H _ _ v u Q I rx ry ⟨a1,a2,vs,ws,rfl,rfl,e3,e4,by omega,λp hp=>k _ _ _ (Ext.push hp) (R.push hp ⟨_,zC,(q1.append q2).ext (Ext.push hp)⟩) (.loc (zrb R))⟩
  ·cases e
 ·cases e
def z2i:fillsNumberSlot (.type "tuple") "mul"=pure false :=
 PyProof.Rows.fillsNumberSlot_seq (id:="tuple.__mul__") (r:=some (.builtin "tuple.__rmul__")) PySem.F.slot_tuple_mul.lookup (by decide +kernel) PySem.F.slot_tuple_rmul.lookup (by decide +kernel)
def zpo:seqRepeat? (.type "tuple")=pure (some (.builtin "tuple.__mul__")):=by
 unfold seqRepeat?;rw[PyProof.Rows.seqSlot_of (T:="tuple") (name:="__mul__") (id:="tuple.__mul__") PySem.F.slot_tuple_mul.lookup (by decide +kernel),PyProof.Rows.seqSlot_of (T:="tuple") (name:="__rmul__") (id:="tuple.__rmul__") PySem.F.slot_tuple_rmul.lookup (by decide +kernel)];rfl
def zvg(i:Int)(t:Tok)(l:yf)(items:Array yb)(n:Nat)(dd:Option yf)(sl:Array (Option yb)) :
 Meets (xw.«int.__rmul__» ⟨[.int i t,.ref l],[]⟩) (λ_ R s=>s.heap.get? l=some {cls:=.type "tuple",dict:=dd,data:=.seq items n,slots:=sl }/\R (.ok (.ret Value.notImplemented)) s) :=
 .of_wp λprog w A R s h=>by
  obtain⟨hp,g,d,tk,os⟩:=s;obtain⟨hl,h⟩:=h
  wp_walk
  exact⟨_,rfl,h⟩
def zok(l:yf)(items:Array yb)(n:Nat)(dd:Option yf)(sl:Array (Option yb))(i:Int)(t:Tok)(h2:2<=i)(h3:i<=1000)(h4:items.isEmpty=false)(h5:items.size<=1000)
 (hsz:((yg i.toNat items).foldl (λx1 x2=>x1++x2) #[]).size<=yF) :
 Meets (xw.«tuple.__mul__» ⟨[.ref l,.int i t],[]⟩) (λ_ R s=>s.heap.get? l=some {cls:=.type "tuple",dict:=dd,data:=.seq items n,slots:=sl } /\
  R (.ok (.ret (xj s.heap.objs.size))) {s with heap:=s.heap.push {cls:=YJ "tuple",data:=Data.seq ((yg i.toNat items).foldl (λx1 x2=>x1++x2) #[])},toks:=s.toks }) :=
 .of_wp λprog w A R s h=>by
  obtain⟨hp,g,d,tk,os⟩:=s;obtain⟨hl,h⟩:=h;have f1:=AutoSeq1.idx_int
  have c1:¬((decide (i < -(2^63))||decide (i≥2^63))=true):=by
   rw[decide_eq_false (by omega),decide_eq_false (by omega)];exact yv
  have c2:¬((items.isEmpty||i==1)=true):=by
   rw[h4,show(i==1)=false by simp;omega];exact yv
  have c3:¬((decide (i<=0)||items.isEmpty)=true):=by
   rw[h4,decide_eq_false (by omega)];exact yv
  have c4:¬((items.size:Int)*i>(2^63-1) / 8):=by
   have h6:(items.size:Int)*i<=1000*1000:=Int.mul_le_mul (by omega) h3 (by omega) (by omega);omega
  have c5:¬(Builtin.Tuple.tupleTooMany ((items.size:Int)*i)=true):=by
   have h6:(items.size:Int)*i<=1000*1000:=Int.mul_le_mul (by omega) h3 (by omega) (by omega);have hz:(yF:Int)=16777216:=by rw[YN];rfl
   unfold Builtin.Tuple.tupleTooMany;rw[decide_eq_false (by omega)];exact yv
  wp_walk using wpAny_loadPart' hl
  rw[if_neg c1]
  wp_walk using wpAny_loadPart' hl
  rw[if_neg c2];dsimp only;rw[if_neg c3,if_neg c4,if_neg c5];refine ya (m:=YV _) (yS (ye ⟨_,rfl,h⟩) hsz)
def zYj(its:List yb):∀(n:Nat)(acc:List yb),List.foldl (λx1 x2=>x1++x2) acc.toArray (yg n its.toArray)=(acc++(yg n its).flatten).toArray
 |0,acc=>by simp
 |n+1,acc=>by
  rw[replicate_succ,List.foldl_cons,List.append_toArray,zYj its n,replicate_succ,flatten_cons,append_assoc]
def zYm{K:yx}{Z:List yf}{H:Hp}{ds:List D}{vs:List V}(r:tj K Z H ds vs):∀n:Nat,tj K Z H (yg n ds).flatten (yg n vs).flatten
 |0 =>.nil
 |n+1=>by
  rw[replicate_succ,replicate_succ,flatten_cons,flatten_cons];exact r.append (zYm r n)
def zXk{vs:List V}{us:List yb}(r:Vals vs us):∀n:Nat,Vals (yg n vs).flatten (yg n us).flatten
 |0 =>.nil
 |n+1=>by
  rw[replicate_succ,replicate_succ,flatten_cons,flatten_cons];exact r.append (zXk r n)
def ztd:OpM X (xD .Mult) zAh:=by
 refine OpM.of λpins s Y H x y v u Q I rx ry Z dx dy μ d μ' r1 r2 R e k=>?_;unfold zAh at e
 split at e
 ·obtain⟨h1,e⟩:=zP e;cases e;rw[r1.int_inv]at rx;rw[r2.int_inv]at ry;obtain⟨t,rfl⟩:=rx;obtain⟨t',rfl⟩:=ry;exact mul_int ⟨.int _,H,I.tok _,⟨_,rfl⟩,k Z H _ Ext.refl R .int⟩ (znr h1)
 ·rename_i ds i
  obtain⟨h1,e⟩:=zP e;have h1:=of_decide_eq_true h1;obtain⟨h2,h3,h4,h5⟩:=h1;cases e;obtain⟨a1,vs,rfl,e1,q1⟩:=r1.tT;rw[r2.int_inv]at ry;cases rx;obtain⟨t,rfl⟩:=ry;obtain⟨its,rv,⟨⟨cls,dd,data,sl⟩,ho,hc,n,hd⟩,hz⟩:=I.tuple (SqT.of (K:=X.K) e1);simp only at hc hd;subst hc hd;have hl:its.length=ds.length:=by rw[q1.length,rv.length]
  have hlen:((yg i.toNat vs).flatten).length<=yF:=by
   rw[zUq];have hm:=Tb;have h6:i.toNat*vs.length<=1000*1000:=Nat.mul_le_mul (by omega) (by rw[<-q1.length];exact h5);omega
  have e2:=zYj its i.toNat [];rw[List.nil_append]at e2
  have hsz:((yg i.toNat its.toArray).foldl (λx1 x2=>x1++x2) #[]).size<=yF:=by
   rw[show(#[]:Array yb)=([]:List yb).toArray from rfl,e2,size_toArray,<-(zXk rv i.toNat).length];exact hlen
  refine wpAny_binaryOp_repeat_ref (T:="tuple") (U:="int") (by decide) ⟨_,ho,rfl⟩ (λs'=>typeIs_int s' i t) z2i PySem.F.fills_int_mul PySem.F.slot_int_rmul zpo PySem.F.slot_int_index.lookup
   (Xd PySem.F.slot_int_rmul (typeIs_int s i t) PySem.F.entry_int_rmul (PySem.F.args_int_rmul_2 _ _) (zvg i t a1 its.toArray n dd sl)
    ⟨ho,rfl,⟨_,ho,rfl⟩,Xd PySem.F.slot_tuple_mul ⟨_,ho,rfl⟩ PySem.F.entry_tuple_mul (PySem.F.args_tuple_mul_2 _ _) (zok a1 its.toArray n dd sl i t h2 h3 (by rw[List.isEmpty_toArray,List.isEmpty_eq_false_iff_exists_mem];exact⟨_,getElem_mem (by omega:0<its.length)⟩) (by rw[size_toArray,hl];exact h5) hsz) ⟨ho,?_⟩⟩)
  rw[show(#[]:Array yb)=([]:List yb).toArray from rfl,e2];have hf:=I.hok.fresh (yi s.heap.objs.size);refine⟨.ref s.heap.objs.size,_,I.laid (t':=s.toks) (o:=.tup (yg i.toNat vs).flatten) (λb ob q=>yc _ q) (yi _) ?_,rfl,k Z _ _ (Ext.new hf) (R.Tg hf) (.tup zC ((zYm q1 i.toNat).ext (Ext.new hf)))⟩;exact⟨hlen,_,zXk rv i.toNat,IsTup.new _ _⟩
 ·rename_i l n
  split at e
  ·rename_i ds hm
   obtain⟨h1,e⟩:=zP e;have h1:=of_decide_eq_true h1;obtain⟨h2,h3,h4⟩:=h1;cases e;obtain⟨a1,rfl,ea⟩:=r1.tx;obtain⟨vs,e3,q3⟩:=R.at_ _ _ _ ea hm;refine zfw pins s Y H _ _ v u Q I rx ry ⟨a1,n,vs,rfl,r2.int_inv,e3,by omega,by omega,?_,λp hp=>k _ _ _ (Ext.push hp) (R.push hp ⟨_,zC,(zYm q3 n.toNat).ext (Ext.push hp)⟩) (.loc (zrb R))⟩;have hmi:=Tb;have h6:vs.length*n.toNat<=1000*1000:=Nat.mul_le_mul (by rw[<-q3.length];exact h4) (by omega);omega
  ·cases e
 ·cases e
abbrev FO:=Loc->Mem->Option (Option Int×Mem)
def tMO(K:yx)(G:FO):TO:=λY H Q=>∃Z J μ o μ',At K Z H Y J μ/\G J μ=some (o,μ')/\∀Z' H',Ext Z H Z' H'->tF K Z' H' μ'->Q o H'
def MO(X:Cx)(e:Option yC)(G:FO):Prop:=PO X e (tMO X.K G)
@[simp] def pNo:FO:=λ_ μ=>some (none,μ)
@[simp] def zUu(G:FE):FO:=λJ μ=>(G J μ).bind λp=>match p.1 with
 |.int i=>some (some i,p.2)
 |_=>none
def cutD(xs:List D)(lo hi:Option Int):List D:=(xs.drop (HT.sIx xs.length 0 lo)).take (HT.sIx xs.length xs.length hi-HT.sIx xs.length 0 lo)
@[simp] def fSl(G:FE)(lo hi:FO):FE:=λJ μ=>(G J μ).bind λp=>(lo J p.2).bind λl=>(hi J l.2).bind λh=>match p.1 with
 |.tup ds=>some (.tup (cutD ds l.1 h.1),h.2)
 |.loc n=>match h.2[n]? with
  |some (.lst ds)=>some (.loc h.2.length,h.2++[.lst (cutD ds l.1 h.1)])
  |_=>none
 |_=>none
end
def zvq{prog:yy}{w:yL}{A:yR}{E:yb->yd->Prop}{s:yd}{t sl:yf}{items:Array yb}{vl vu:yb}{lo hi:Option Int}{Q:yb->yd->Prop}(ht:IsTup s.heap t items)(hs:s.heap.IsSliceOf sl vl vu .none)(pl:IsPart vl lo)(pu:IsPart vu hi)
 (hw:HT.sIx items.size 0 lo=0/\HT.sIx items.size items.size hi=items.size) (h:Q (.ref t) s):yp (yz prog w) A (getItem (.ref t) (.ref sl)) Q E s:=by
 obtain⟨os,hos,hcs,hds⟩:=id hs;have hTs:s.TypeIs (.ref sl) "slice":=⟨os,hos,hcs⟩
 unfold getItem
 try with_reducible refine yU ?_
 first|refine ya (ye ?_)|skip
 refine ya (wpAny_sequenceKey ht.typeIs (by decide) ?_)
 refine ya (yQ (name:=YA "__getitem__") ht.typeIs YS
  (yM YS ht.typeIs entry_tuple_getitem ?_ (args_tuple_getitem _ _)))
 show yp _ _ (Builtin.Tuple.tupleItemsOf (.ref t) >>= _) _ _ s;refine ya (tupleItemsOf_ ht ?_);refine ya (Xf hTs ?_);rw[if_pos (by decide)];refine ya (HT.Tj hs pl pu ?_)
 have hyes:(((HT.sIx items.size 0 lo:Nat):Int)==0&&(1:Int)==1&&(HT.sIx items.size items.size hi-HT.sIx items.size 0 lo)==items.size)=true:=by
  rw[hw.1,hw.2];simp
 show yp _ _ (if(((HT.sIx items.size 0 lo:Nat):Int)==0&&(1:Int)==1&&(HT.sIx items.size items.size hi-HT.sIx items.size 0 lo)==items.size)=true then _ else _) _ _ s;rw[if_pos hyes];refine ya (m:=Builtin.Tuple.tupleIsExact _) ?_;unfold Builtin.Tuple.tupleIsExact;refine ya (Xf ht.typeIs (ye ?_));rw[if_pos (by decide)];exact ya (wpAny_rule (ye ⟨_,rfl,ye h⟩))
section
variable {X:Cx}{a b c e:yC}{es:List yC}{G ψ χ:FE}{pos p2:xU}{lo hi:Option yC}
def rSl(K:yx):V->Option Int->Option Int->Hp->VK->Prop:=λx lo hi H Q=>∃a xs,x=.ref a/\H a=some (.tup xs) /\
 ((HT.sIx xs.length 0 lo=0/\HT.sIx xs.length xs.length hi=xs.length)->Q (.ref a) H)/\∀p,H p=none->Q (.ref p) (upd H p (.tup (zlq xs lo hi)))
def zXv:SlR X (rSl X.K):=by
 intro pins s Y H x v vl vu lo hi sl Q I rx hs pl pu h;obtain⟨a,xs,rfl,hx,h1,h2⟩:=h
 by_cases hw:HT.sIx xs.length 0 lo=0/\HT.sIx xs.length xs.length hi=xs.length
 ·cases rx;obtain⟨its,r,ht,hz⟩:=I.tuple (SqT.of (K:=X.K) hx);have hlen:its.toArray.size=xs.length:=by rw[size_toArray];exact r.length.symm
  exact⟨"tuple",_,PyProof.Rows.slot_tuple_getitem.lookup,ht.typeIs,zvq ht hs pl pu (by rw[hlen];exact hw) ⟨.ref a,H,I,rfl,h1 hw⟩⟩
 ·exact z3v pins s Y H _ v vl vu lo hi sl Q I rx hs pl pu ⟨a,xs,rfl,SqT.of hx,hw,h2⟩
def zWt:MO X none pNo:=by intro pins s Y H Q I hh;obtain⟨Z,J,μ,o,μ',A,e,k⟩:=hh;exact zju pins s Y H Q I (by cases e;exact k Z H Ext.refl A.hp)
def zzp(h:ME X e G):MO X (some e) (zUu G):=by intro pins s Y H Q I hh;obtain⟨Z,J,μ,o,μ',A,e,k⟩:=hh;exact zyt h pins s Y H Q I (by
 obtain⟨⟨x,μ1⟩,e1,e⟩:=zl e;refine⟨Z,J,μ,x,μ1,A,e1,λZ1 H1 v x1 R1 r1=>?_⟩;dsimp only at e
 split at e
 ·cases e;exact⟨_,r1.int_inv,k Z1 H1 x1 R1⟩
 ·cases e)
def z0m{K:yx}{Z:List yf}{H:Hp}{ds:List D}{vs:List V}{lo hi:Option Int}(r:tj K Z H ds vs):tj K Z H (cutD ds lo hi) (zlq vs lo hi):=by
 unfold cutD zlq;rw[r.length];exact(r.drop _).take _
def zrt{l h:FO}(he:ME X e G)(hl:MO X lo l)(hu:MO X hi h):ME X (.Subscript e (.Slice lo hi none p2) pos) (fSl G l h) :=
 zsd (zBr (SlR.or zXv zKt) he hl hu) λZ J μ Y H d μ' Q A e k=>by
  obtain⟨⟨x,μ1⟩,e1,e⟩:=zl e;obtain⟨⟨o1,μ2⟩,e2,e⟩:=zl e;obtain⟨⟨o2,μ3⟩,e3,e⟩:=zl e;refine⟨Z,J,μ,x,μ1,A,e1,λZ1 H1 v x1 R1 r1=>?_⟩;refine⟨Z1,J,μ1,o1,μ2,A.ext x1 R1,e2,λZ2 H2 x2 R2=>?_⟩;refine⟨Z2,J,μ2,o2,μ3,A.ext (x1.trans x2) R2,e3,λZ3 H3 x3 R3=>?_⟩;dsimp only at e
  split at e
  ·cases e;obtain⟨a,vs,rfl,ea,q⟩:=(r1.ext (x2.trans x3)).tT;have xx:=x1.trans (x2.trans x3);refine .inl ⟨a,vs,rfl,ea,λhw=>k Z3 H3 _ xx R3 (.tup ea ?_),λp hp=>k Z3 _ _ (xx.trans (Ext.new hp)) (R3.Tg hp) (.tup zC ((z0m q).ext (Ext.new hp)))⟩
   have e4:zlq vs o1 o2=vs:=by
    unfold zlq;rw[hw.1,hw.2,Nat.sub_zero,List.drop_zero,take_length]
   have:=z0m (lo:=o1) (hi:=o2) q;rw[e4]at this;exact this
  ·split at e
   ·rename_i hm
    cases e;obtain⟨a,rfl,ea⟩:=(r1.ext (x2.trans x3)).tx;obtain⟨vs,ev,q⟩:=R3.at_ _ _ _ ea hm;have xx:=x1.trans (x2.trans x3);exact .inr ⟨a,vs,rfl,SqL.of ev,λp hp=>k _ _ _ (xx.trans (Ext.push hp)) (R3.push hp ⟨_,zC,(z0m q).ext (Ext.push hp)⟩) (.loc (zrb R3))⟩
   ·cases e
  ·cases e
@[simp] def z5x(G:FE):FE:=λJ μ=>(G J μ).bind λp=>match p.1 with
 |.int i=>some (.int (-i),p.2)
 |_=>none
def big{pins:List (yf×YY)}{Y:L2.St}{H:Hp}{s:yd}(I:Inv X pins Y H s):sysModules<s.heap.objs.size:=by
 have h:yD<s.heap.objs.size:=(I.mod.glob.keeps I.bk).lt;exact Nat.lt_trans (by decide) h
@[simp] def zlx:FE:=λ_ μ=>some (.loc μ.length,μ++[.dct []])
def zHv:ME X (.Dict [] [] pos) zlx:=by
 intro pins s Y H Q I hh;obtain⟨Z,J,μ,d,μ',A,e,k⟩:=hh;cases e;have hf:=I.hok.fresh (yi s.heap.objs.size);refine wpAny_Dict_empty ⟨.ref s.heap.objs.size,_,I.laid (a:=s.heap.objs.size) (o:=.dK []) (t':=s.toks) (λ_ _ q=>yc _ q) (yi _) ?_,rfl,k _ _ _ (Ext.push hf) (A.hp.push hf ⟨[],zC,rfl,.nil⟩) (.loc (zrb A.hp))⟩;exact⟨Yl _,beq_eq_false_iff_ne.mpr (yE (yq (big I))),[],.nil,Heap.DictOf.new _⟩
def zec:D->Bool
 |.non | .bl _ | .int _ | .str _=>true
 |_=>false
def eqF:D->D->Bool
 |.non,.non=>true
 |.bl a,.bl b=>a==b
 |.bl a,.int b=>(if a then 1 else 0)==b
 |.int a,.bl b=>a==(if b then 1 else 0)
 |.int a,.int b=>a==b
 |.str a,.str b=>a==b
 |_,_=>false
def gIn:φ2:=λx y μ=>(items μ y).bind λds=>bif zec x&&ds.all zec then some (.bl (ds.any λd=>eqF d x),μ) else none
def zge:φ2:=λx y μ=>(items μ y).bind λds=>bif zec x&&ds.all zec then some (.bl (!ds.any λd=>eqF d x),μ) else none
def zFh{K:yx}{Z:List yf}{H:Hp}{d:D}{v:V}(r:tm K Z H d v)(f:zec d=true):zWi v=true:=by
 cases d with
 |non=>rw[r.tQ];rfl
 |bl b=>rw[r.tO];rfl
 |int b=>rw[r.int_inv];rfl
 |str b=>rw[r.str_inv];rfl
 |_=>cases f
def z0p{K:yx}{Z:List yf}{H:Hp}{d d':D}{v v':V}(r:tm K Z H d v)(r':tm K Z H d' v')(f:zec d=true)(f':zec d'=true):eqV v v'=eqF d d':=by
 cases d with
 |non=>rw[r.tQ];cases d' with
  |non=>rw[r'.tQ];rfl
  |bl b=>rw[r'.tO];rfl
  |int b=>rw[r'.int_inv];rfl
  |str b=>rw[r'.str_inv];rfl
  |_=>cases f'
 |bl b=>rw[r.tO];cases d' with
  |non=>rw[r'.tQ];rfl
  |bl b=>rw[r'.tO];rfl
  |int b=>rw[r'.int_inv];rfl
  |str b=>rw[r'.str_inv];rfl
  |_=>cases f'
 |int b=>rw[r.int_inv];cases d' with
  |non=>rw[r'.tQ];rfl
  |bl b=>rw[r'.tO];rfl
  |int b=>rw[r'.int_inv];rfl
  |str b=>rw[r'.str_inv];rfl
  |_=>cases f'
 |str b=>rw[r.str_inv];cases d' with
  |non=>rw[r'.tQ];rfl
  |bl b=>rw[r'.tO];rfl
  |int b=>rw[r'.int_inv];rfl
  |str b=>rw[r'.str_inv];rfl
  |_=>cases f'
 |_=>cases f
def zrn{K:yx}{Z:List yf}{H:Hp}{x:D}{v:V}(rx:tm K Z H x v)(fx:zec x=true):∀{ds:List D} {vs:List V},tj K Z H ds vs->ds.all zec=true->vs.all zWi=true/\inV v vs=ds.any λd=>eqF d x
 |[],_,r,_=>by rw[r.nil_inv];exact⟨rfl,rfl⟩
 |d::ds,_,r,f=>by
  obtain⟨w,ws,rfl,r1,r2⟩:=r.cons_inv;rw[all_cons,yN]at f;obtain⟨h1,h2⟩:=zrn rx fx r2 f.2;refine⟨by rw[all_cons,zFh r1 f.1,h1];rfl,?_⟩;unfold inV at h2 ⊢;rw[any_cons,any_cons,h2,z0p r1 rx f.1 fx]
def zVh:OpM X (Yj .In) gIn:=by
 refine OpM.of λpins s Y H x y v u Q I rx ry Z dx dy μ d μ' r1 r2 R e k=>?_;obtain⟨ds,e1,e⟩:=zl e;obtain⟨h1,e⟩:=zP e;rw[yN]at h1;cases e;obtain⟨p,vs,rfl,hq,rr⟩:=zne R r2 e1;obtain⟨h3,h4⟩:=zrn r1 h1.1 rr h1.2;exact z2q pins s Y H x _ v u Q I rx ry ⟨p,vs,rfl,hq,zFh r1 h1.1,h3,by rw[if_neg yv,h4];exact k Z H _ Ext.refl R .bl⟩
def zue:OpM X (Yj .NotIn) zge:=by
 refine OpM.of λpins s Y H x y v u Q I rx ry Z dx dy μ d μ' r1 r2 R e k=>?_;obtain⟨ds,e1,e⟩:=zl e;obtain⟨h1,e⟩:=zP e;rw[yN]at h1;cases e;obtain⟨p,vs,rfl,hq,rr⟩:=zne R r2 e1;obtain⟨h3,h4⟩:=zrn r1 h1.1 rr h1.2;exact zTl pins s Y H x _ v u Q I rx ry ⟨p,vs,rfl,hq,zFh r1 h1.1,h3,by rw[if_pos rfl,h4];exact k Z H _ Ext.refl R .bl⟩
abbrev GM:=D->List D->Mem->Option (D×Mem)
@[simp] def zUf(g:GM)(G:FE)(ψ:FA):FE:=λJ μ=>(G J μ).bind λp=>match p.1 with
 |.loc n=>match p.2[n]? with
  |some (.lst _)=>(ψ J p.2).bind λq=>g (.loc n) q.1 q.2
  |_=>none
 |_=>none
@[simp] def zve:GM:=λx ds μ=>match x,ds with
 |.loc n,[d]=>match μ[n]? with
  |some (.lst xs)=>bif decide (xs.length<=1000000) then some (.non,μ.set n (.lst (xs++[d]))) else none
  |_=>none
 |_,_=>none
def MtG(X:Cx)(id:String)(g:GM):Prop:=MtR X id λx xs H Q=>∃Z dx ds μ d μ',tm X.K Z H dx x/\tj X.K Z H ds xs/\tF X.K Z H μ/\g dx ds μ=some (d,μ')/\∀Z' H' v,Ext Z H Z' H'->tF X.K Z' H' μ'->tm X.K Z' H' d v->Q v H'
def MtG.of{X:Cx}{id:String}{g:GM}(h:∀(pins:List (yf×YY)) (s:yd) (Y:L2.St) (H:Hp) (x:V) (xs:List V) (v:yb) (us:List yb) (Q:VK),Inv X pins Y H s->RelV x v->Vals xs us->∀(Z:List yf)(dx:D)(ds:List D)(μ:Mem)(d:D)(μ':Mem),tm X.K Z H dx x->tj X.K Z H ds xs->tF X.K Z H μ->g dx ds μ=some (d,μ')->(∀Z' H' v,Ext Z H Z' H'->tF X.K Z' H' μ'->tm X.K Z' H' d v->Q v H')->yp (yz X.prog X.w) X.A (call (.builtin id) (v::us)) (EP X pins Y Q) X.xe s):MtG X id g:=by
 intro pins s Y H x xs v us Q I rx rs hh;obtain⟨Z,dx,ds,μ,d,μ',r1,r2,R,e,k⟩:=hh;exact h pins s Y H x xs v us Q I rx rs Z dx ds μ d μ' r1 r2 R e k
def z6j{o:yC}{ψ:FA}{name:yG}{id:String}{g:GM}{apos:xU}(slot:Slot "list" name id)(hty:typeOf (.builtin id)=pure (.type "method_descriptor"))(hm:MtG X id g)(ho:ME X o G)(ha:MAn X (e::es) ψ)
 (hbase:xh o name X.env (Yq o X.env)=Yq o X.env:=by rfl)
 (hfew:((xn pos (yw (e::es) X.env)).all (λx=>!x.1)&&(backToKw pos (keywordEach [] X.env)).all (λx=>x.1.isSome)
  && decide ((e::es).length+([]:List Keyword).length+(if([]:List Keyword).isEmpty then 0 else 1)<30))=true:=by rfl)
 (hline:(apos.endLine==pos.line)=true:=by rfl) (hs:yw (e::es) X.env=(false,Yq e X.env)::yw es X.env:=by rfl) (hplain:(xn pos (yw es X.env)).any (·.1)=false:=by rfl) :
 ME X (.Call (.Attribute o name apos) (e::es) [] pos) (zUf g G ψ) :=
 zsd (zUw PySem.F.plainAttrs_list slot hty hm ho ha.ma hbase hfew hline hs hplain) λZ J μ Y H d μ' Q A e k=>by
  obtain⟨⟨x,μ1⟩,e1,e⟩:=zl e;refine⟨Z,J,μ,x,μ1,A,e1,λZ1 H1 v x1 R1 r1=>?_⟩;dsimp only at e
  split at e
  ·split at e
   ·rename_i hm'
    obtain⟨⟨ds,μ2⟩,e2,e⟩:=zl e;obtain⟨a,rfl,ea⟩:=r1.tx;obtain⟨vs,e3,q3⟩:=R1.at_ _ _ _ ea hm';refine⟨.inl ⟨rfl,vs,SqL.of e3⟩,Z1,J,μ1,ds,μ2,A.ext x1 R1,e2,λZ2 H2 vs2 x2 R2 r2=>?_⟩;exact⟨Z2,_,ds,μ2,d,μ',r1.ext x2,r2,R2,e,λZ3 H3 v3 x3 R3 r3=>k Z3 H3 v3 (x1.trans (x2.trans x3)) R3 r3⟩
   ·cases e
  ·cases e
def zuo:MtG X "list.append" zve:=by
 refine MtG.of λpins s Y H x xs v us Q I rx rs Z dx ds μ d μ' r1 r2 R e k=>?_;unfold zve at e
 split at e
 ·split at e
  ·rename_i hm
   obtain⟨h1,e⟩:=zP e;have h1:=of_decide_eq_true h1;cases e;obtain⟨a,rfl,ea⟩:=r1.tx;obtain⟨vs,e3,q3⟩:=R.at_ _ _ _ ea hm;obtain⟨w,r,rfl,q1,q2⟩:=r2.cons_inv;rw[q2.nil_inv]at rs;have hl:=q3.length;have hmi:=Tb;have hmu:Mut (H a):=by rw[e3];trivial
   refine z1q pins s Y H _ _ v us Q I rx rs ⟨a,vs,w,rfl,rfl,e3,by omega,?_⟩;exact k Z _ _ (Ext.wr hmu) (R.wr hmu ea ⟨_,zC,tj.ext (Ext.wr hmu) (q3.append (.cons q1 .nil))⟩) .non
  ·cases e
 ·cases e
def zrf{o:yC}{ψ:FA}{apos:xU}(ho:ME X o G)(ha:MAn X (e::es) ψ)
 (hbase:xh o "append" X.env (Yq o X.env)=Yq o X.env:=by rfl)
 (hfew:((xn pos (yw (e::es) X.env)).all (λx=>!x.1)&&(backToKw pos (keywordEach [] X.env)).all (λx=>x.1.isSome)
  && decide ((e::es).length+([]:List Keyword).length+(if([]:List Keyword).isEmpty then 0 else 1)<30))=true:=by rfl)
 (hline:(apos.endLine==pos.line)=true:=by rfl) (hs:yw (e::es) X.env=(false,Yq e X.env)::yw es X.env:=by rfl) (hplain:(xn pos (yw es X.env)).any (·.1)=false:=by rfl) :
 ME X (.Call (.Attribute o "append" apos) (e::es) [] pos) (zUf zve G ψ):=z6j PySem.F.slot_list_append PySem.F.type_list_append zuo ho ha hbase hfew hline hs hplain
end
end M
namespace M
open PySem
def RS(xs:Array Nat):Prop:=xs.toList.Pairwise (· < ·)
def z9j(xs:Array Nat)(j:Nat)(h:RS xs):∀(fuel lo hi:Nat),lo<=hi->hi<=xs.size->hi-lo<=fuel->(∀i (hi':i<xs.size),i<lo->xs[i]<j)->(∀i (hi':i<xs.size),hi<=i->j<=xs[i]) ->
 Xb xs j fuel lo hi<=xs.size/\(∀i (hi':i<xs.size),i<Xb xs j fuel lo hi->xs[i]<j)/\∀i (hi':i<xs.size),Xb xs j fuel lo hi<=i->j<=xs[i]
 |0,lo,hi,h1,h2,h3,h4,h5=>by
  have:lo=hi:=by omega
  subst this;unfold Xb;exact⟨h2,h4,h5⟩
 |fuel+1,lo,hi,h1,h2,h3,h4,h5=>by
  have hp:∀i k (hi:i<xs.size) (hk:k<xs.size),i<k->xs[i]<xs[k]:=λi k hi hk hik=>by
   have:=List.pairwise_iff_getElem.mp h i k (by simpa using hi) (by simpa using hk) hik;simpa using this
  unfold Xb
  by_cases hlt:lo<hi
  ·rw[if_pos hlt];dsimp only;have hm:(lo+hi) / 2<xs.size:=by omega
   have hg:xs.getD ((lo+hi) / 2) j=xs[(lo+hi) / 2]:=by simp[Array.getD,hm]
   rw[hg]
   by_cases hc:xs[(lo+hi) / 2]<j
   ·rw[if_pos hc];refine z9j xs j h fuel _ hi (by omega) h2 (by omega) (λi hi' hil=>?_) h5
    by_cases e:i=(lo+hi) / 2
    ·subst e;exact hc
    ·exact Nat.lt_trans (hp i _ hi' hm (by omega)) hc
   ·rw[if_neg hc];refine z9j xs j h fuel lo _ (by omega) (by omega) (by omega) h4 (λi hi' hil=>?_)
    by_cases e:i=(lo+hi) / 2
    ·subst e;omega
    ·exact yB (by omega) (Ys (hp _ i hm hi' (by omega)))
  ·rw[if_neg hlt];have:lo=hi:=by omega
   subst this;exact⟨h2,h4,h5⟩
def zNj(xs:Array Nat)(j:Nat)(h:RS xs):YE xs j<=xs.size/\(∀i (hi:i<xs.size),i<YE xs j->xs[i]<j)/\∀i (hi':i<xs.size),YE xs j<=i->j<=xs[i] :=
 z9j xs j h xs.size 0 xs.size (Yl _) (yi _) (by omega) (λi _ h=>by omega) (λi h1 h2=>by omega)
def znk{α:Type}(xs:Array α)(p:Nat)(x:α):(SetTable.insertAt xs p x).toList=xs.toList.take p++x::xs.toList.drop p:=by
 unfold SetTable.insertAt;simp;rw[xf (by simp)]
def zDv{xs:Array Nat}{j:Nat}(h:RS xs)(hn:xs[YE xs j]?≠some j):RS (SetTable.insertAt xs (YE xs j) j):=by
 obtain⟨h0,h1,h2⟩:=zNj xs j h;unfold RS at h ⊢;rw[znk];generalize YE xs j=r at *
 have hd:∀y∈xs.toList.drop r,j<y:=λy hy=>by
  obtain⟨i,hi,rfl⟩:=List.mem_iff_getElem.mp hy;simp at hi;have hi':r+i<xs.size:=by omega
  have h3:=h2 (r+i) hi' (by omega);have e:(xs.toList.drop r)[i]'(by simp;omega)=xs[r+i]:=by simp
  rw[e]
  by_cases hz:i=0
  ·subst hz;have:xs[r]?=some xs[r]:=by simp
   simp only[xO]at h3 ⊢;rw[this]at hn;have:xs[r]≠j:=λe=>hn (by rw[e]);omega
  ·have hp:=List.pairwise_iff_getElem.mp h r (r+i) (by simp;omega) (by simpa using hi') (by omega);simp at hp;have:=h2 r (by omega) (yi _);omega
 have ht:∀y∈xs.toList.take r,y<j:=λy hy=>by
  obtain⟨i,hi,rfl⟩:=List.mem_iff_getElem.mp hy;simp at hi;have e:(xs.toList.take r)[i]'(by simp;omega)=xs[i]:=by simp
  rw[e];exact h1 i (by omega) (by omega)
 rw[List.pairwise_append];refine⟨h.sublist (List.take_sublist _ _),List.pairwise_cons.mpr ⟨hd,h.sublist (List.drop_sublist _ _)⟩,λa ha b hb=>?_⟩;rcases List.mem_cons.mp hb with rfl|hb
 ·exact ht a ha
 ·exact Nat.lt_trans (ht a ha) (hd b hb)
structure TOk(L:Bool)(t:xk):Prop where
 rs:RS t.place
 nd:t.dummies = #[]
 led:t.led=L
def zqn{j:Nat}:SetTable.has #[] j=false:=by
 unfold SetTable.has;simp
def zSn{t:xk}(hn:t.dummies = #[]){ha:Nat->Int}{h:Int}:∀(fuel:Nat)(p:SetTable.Probe)(j:Nat)(d:Option Nat),p.dummy=none->SetTable.probe.go t ha h fuel p=some (.empty j d)->t.slot j=.empty/\d=none
 |0,p,j,d,_,e=>by unfold SetTable.probe.go at e;cases e
 |fuel+1,p,j,d,hd,e=>by
  unfold SetTable.probe.go at e
  have hadv:(t.advance p).dummy=none:=by
   unfold SetTable.advance
   split
   ·exact hd
   ·exact hd
  split at e
  ·rename_i hs
   cases e;exact⟨hs,hd⟩
  ·rename_i hs
   unfold SetTable.slot at hs;dsimp only at hs;rw[hn,zqn]at hs
   split at hs<;>simp at hs
  ·split at e
   ·cases e
   ·exact zSn hn fuel _ j d hadv e
def zGk{t:xk}(hn:t.dummies = #[]){h:Int}{j:Nat}{b:Bool}(e:t.freeSlot h=some (j,b)):t.place[YE t.place j]?≠some j:=by
 unfold SetTable.freeSlot at e
 split at e
 ·rename_i j' d hp
  obtain⟨h1,rfl⟩:=zSn hn _ _ _ _ rfl hp;cases e;unfold SetTable.slot at h1;dsimp only at h1;intro q;simp only[Option.getD_none]at q;rw[q]at h1;simp at h1
 ·cases e
def TOk.standIn{L:Bool}{t:xk}(h:TOk L t)(n:Nat):TOk L (t.standIn n):=by
 refine⟨?_,rfl,h.led⟩;unfold RS SetTable.standIn;rw[Array.toList_range];exact xP
def TOk.layNew{L:Bool}{t:xk}(h:TOk L t)(es:Array (Int×yb))(hs:Int)(x:yb):TOk L (layNew t es hs x).2.1:=by
 unfold PySem.layNew
 split
 ·rename_i slot wd e
  have hne:=zGk h.nd e
  have h1:TOk L (t.put slot).1:=⟨zDv h.rs hne,by
   unfold SetTable.put;dsimp only;rw[h.nd,zqn];rfl,h.led⟩
  show TOk L ((t.put slot).1.orStandIn _);unfold SetTable.orStandIn
  split
  ·exact h1
  ·exact h1.standIn _
 ·exact h.standIn _
def TOk.relay{L:Bool}{t:xk}(h:TOk L t)(es:Array (Int×yb))(wanted:Nat):TOk L (relayAll t es wanted).2.1:=by
 unfold relayAll
 split
 ·rename_i t' order e
  dsimp only
  split
  ·unfold SetTable.relaid SetTable.laid at e;obtain⟨ow,_,e⟩:=Option.bind_eq_some_iff.mp e;cases e;refine⟨?_,rfl,h.led⟩;unfold RS;dsimp only;rw[pairwise_map];refine List.Pairwise.filterMap _ (λa a' hlt b hb b' hb'=>?_) xP;simp at hb hb';obtain⟨_,_,rfl⟩:=hb;obtain⟨_,_,rfl⟩:=hb';exact hlt
  ·exact h.standIn _
 ·exact h.standIn _
def TOk.fresh(L:Bool):TOk L (.fresh 0 0 L):=⟨List.Pairwise.nil,rfl,rfl⟩
def zAi(e:Int×yb):Int:=match e.2 with
 |.int i _=>i
 |_=>0
def Tn(prog:yy)(w:yL)(h:yW)(a:yf)(ks:List Int):Prop :=
 ∃o es ep t,h.get? a=some o/\o.ExactSet/\o.data=.set es ep t/\t.fits es.size=true/\TOk (!w.params.followText "set-order") t/\ElemsOf (intKind prog w) es.toList/\(es.toList.map zAi).Perm ks
section
variable {prog:yy}{w:yL}{A:yR}{E:yb->yd->Prop}{s:yd}
def zPp{es:List (Int×yb)}{e:Int×yb}{k:Int}(h:ElemsOf (intKind prog w) es)(he:e∈es):(intKind prog w).is k e.2=true↔zAi e=k:=by
 obtain⟨⟨j,hj,_⟩,_⟩:=h e he;obtain⟨t,ht⟩:=Value.isInt_shape (show Value.isInt j e.2=true from hj);unfold zAi;rw[ht];constructor
 ·intro q;obtain⟨u,hu⟩:=Value.isInt_shape (show Value.isInt k (.int j t)=true from q);cases hu;rfl
 ·intro q;have q:j=k:=q;rw[q];exact intKind_is prog w k t
def Tn.at'{h h':yW}{a:yf}{ks:List Int}(x:Tn prog w h a ks)(k:∀o,h.get? a=some o->h'.get? a=some o):Tn prog w h' a ks:=by
 obtain⟨o,es,ep,t,h1,h2⟩:=x;exact⟨o,es,ep,t,k o h1,h2⟩
def zyn(b:Bool){Q:Unit->yd->Prop}(h:Q () s):yp (yz prog w) A (match b with|true=>rule "set.scan.the-table-gave-way" | false=>pure ()) Q E s:=by
 cases b
 ·exact ye h
 ·exact wpAny_rule h
def stored{o:YY}{h:yW}{a:yf}{es:Array (Int×yb)}{ep:Nat}{t:xk}(ho:h.get? a=some o)(hd:o.data=.set es ep t)(es1:Array (Int×yb))(t1:xk) :
 (h.update a (Obj.putSet es1 t1)).get? a=some {o with data:=.set es1 (ep+1) t1 }:=by
 have e:=putSet_of es1 t1 hd;have q:=Yc (Obj.putSet es1 t1) ho (by rw[e];rfl);rw[e]at q;exact q
def zet{a:yf}{ks:List Int}{k:Int}{tk:Tok}{Q:Bool->yd->Prop}(hS:Tn prog w s.heap a ks)(hroom:ks.length+1<scanBound)
 (h:∀b h',yI a s.heap h'->Tn prog w h' a (if k∈ks then ks else ks++[k])->Q b {s with heap:=h' }):yp (yz prog w) A (setAddHashed a (.int k tk) (hashInt k)) Q E s:=by
 obtain⟨o,es,ep,t,ho,hex,hd,hf,hT,hel,hp⟩:=hS
 have hsz:es.size=ks.length:=by
  have:=hp.length_eq;simpa using this
 have hmem:k∈ks↔∃e∈es.toList,zAi e=k:=by
  rw[<-hp.mem_iff,mem_map]
 unfold setAddHashed setAddHashedIn;refine yU (ya (YM ho hd hf ?_));dsimp only;rw[byScan_of (knd:=intKind prog w) (x:=.int k tk) rfl (by omega) hel];simp only[↓reduceIte];unfold setAddByScan;refine ya (ya (wpAny_rule (ya (wpAny_setScan_of (knd:=intKind prog w) (k:=k) (intKind_is prog w k tk) ho hd hf hel ?_))))
 cases hr:List.findIdx? (λe=>(intKind prog w).is k e.2) es.toList with
 |some j=>
  dsimp only;obtain⟨hj,hpj,_⟩:=List.findIdx?_eq_some_iff_getElem.mp hr;have hk:k∈ks:=hmem.mpr ⟨es.toList[j],getElem_mem hj,(zPp hel (getElem_mem hj)).mp hpj⟩;have q:=h false s.heap (Heap.SameBut.refl a s.heap) ⟨o,es,ep,t,ho,hex,hd,hf,hT,hel,by rw[if_pos hk];exact hp⟩;exact ye (ye q)
 |none=>
  dsimp only
  have hk:k∉ks:=λhk=>by
   obtain⟨e,he,q⟩:=hmem.mp hk;have:=List.findIdx?_eq_none_iff.mp hr e he;rw[(zPp hel he).mpr q]at this;cases this
  rw[if_neg hk]at h;have p1:=layNew_perm t es (hashInt k) (.int k tk);have f1:=layNew_fits t es (hashInt k) (.int k tk);have T1:=hT.layNew es (hashInt k) (.int k tk);show yp _ _ (_ >>= _) _ _ _;generalize layNew t es (hashInt k) (.int k tk)=L1 at p1 f1 T1 ⊢;obtain⟨es1,t1,wd,gv⟩:=L1;dsimp only at p1 f1 T1 ⊢;rw[Array.toList_push]at p1;have el1:ElemsOf (intKind prog w) es1.toList:=(hel.push (intKind_is prog w k tk) rfl).perm p1
  have pk1:(es1.toList.map zAi).Perm (ks++[k]):=by
   refine(p1.map zAi).trans ?_;rw[map_append];exact hp.append_right _
  have z1:es1.size=ks.length+1:=by
   have:=pk1.length_eq;simpa using this
  refine ya (zyn gv ?_)
  have fin:yp (yz prog w) A (do
   storeSet a es1 t1
   if (!wd && t1.tooFull)=true then
    match relayAll t1 es1 (Xe es1.size) with
    |(es2,t2,gv2)=>do
     (match gv2 with|true=>rule "set.scan.the-table-gave-way" | false=>pure ())
     storeSet a es2 t2
     pure (some true)
   else pure (some true)) (λr s'=>∃h',s' = {s with heap:=h' }/\r=some true/\yI a s.heap h'/\Tn prog w h' a (ks++[k])) E s:=by
   refine ya (wpAny_storeSet_of ho hd ?_ (fits_of_scanBound (by omega)));have s1:=stored ho hd es1 t1;have b1:=Yw s.heap a (Obj.putSet es1 t1)
   split
   ·have p2:=relayAll_perm t1 es1 (Xe es1.size);have f2:=relayAll_fits t1 es1 (Xe es1.size);have T2:=T1.relay es1 (Xe es1.size);generalize relayAll t1 es1 (Xe es1.size)=L2 at p2 f2 T2 ⊢;obtain⟨es2,t2,gv2⟩:=L2;dsimp only at p2 f2 T2 ⊢
    have z2:es2.size=es1.size:=by
     have:=p2.length_eq;simpa using this
    refine ya (zyn gv2 (ya (wpAny_storeSet_of s1 rfl ?_ (fits_of_scanBound (by omega)))));exact ye ⟨_,rfl,rfl,b1.trans (Yw _ a _),_,es2,_,t2,stored s1 rfl es2 t2,hex,rfl,f2,T2,el1.perm p2,(p2.map zAi).trans pk1⟩
   ·exact ye ⟨_,rfl,rfl,b1,_,es1,_,t1,s1,hex,rfl,f1,T1,el1,pk1⟩
  have goal2:yp (yz prog w) A (do
   storeSet a es1 t1
   if (!wd && t1.tooFull)=true then
    match relayAll t1 es1 (Xe es1.size) with
    |(es2,t2,gv2)=>do
     (match gv2 with|true=>rule "set.scan.the-table-gave-way" | false=>pure ())
     storeSet a es2 t2
     pure (some true)
   else pure (some true)) (λr s'=>yp (yz prog w) A (match r with|some added=>pure added|none=>setAddHashedIn a (.int k tk) (hashInt k) 99999) Q E s') E s:=by
   refine YZ fin (λr s' ⟨h',e1,e2,b,x⟩=>?_) λ_ _ z=>z;subst e1 e2;exact ye (h true h' b x)
  split
  ·refine ya ?_;rw[hashByValue_scannable 8 (x:=.int k tk) rfl];exact ye goal2
  ·exact ya (ye goal2)
end
def zZb{α:Type}:∀(l:List α)(i:Nat)(h:i<l.length),(l[i]::l.eraseIdx i).Perm l
 |[],i,h=>by simp at h
 |y::ys,0,h=>by simp
 |y::ys,i+1,h=>by
  have h':i<ys.length:=by simpa using h
  show(ys[i]::y::ys.eraseIdx i).Perm (y::ys);exact(List.Perm.swap y ys[i] _).trans ((zZb ys i h').cons y)
def z9q{α:Type}(next:Nat->Nat):∀(fuel k:Nat)(rest:List α)(out:Array α),rest.length<=fuel->(pickOrder.go next fuel k rest out).toList.Perm (out.toList++rest)
 |0,k,rest,out,h=>by
  have:rest=[]:=List.length_eq_zero_iff.mp (Nat.le_zero.mp h);subst this;unfold pickOrder.go;simp
 |fuel+1,k,rest,out,h=>by
  unfold pickOrder.go
  cases rest with
  |nil=>simp
  |cons y ys=>
   have hlt:next k%(y::ys).length<(y::ys).length:=Nat.mod_lt _ (by simp);rw[yo hlt];dsimp only;refine(z9q next fuel (k+1) _ _ (by rw[List.length_eraseIdx_of_lt hlt];simp at h ⊢;omega)).trans ?_;rw[Array.toList_push,append_assoc];exact List.Perm.append_left _ (zZb _ _ hlt)
def zVi{α:Type}(next:Nat->Nat)(xs:Array α):(pickOrder next xs).toList.Perm xs.toList:=by
 unfold pickOrder;exact(z9q next xs.size 0 xs.toList #[] (by simp)).trans (by simp)
def tG:Slot "set_iterator" "__next__" "set_iterator.__next__" :=
 .of (owner:="set_iterator") (n:="__next__") (by rw[typeLookup_type,xY];kernel_rfl) (by decide +kernel) (by decide +kernel) (by decide +kernel) (by first|exact .inl (by decide +kernel)|exact .inr (by decide +kernel)) (by rw[isSubtype_type];kernel_rfl)
def z0g:Slot "set_iterator" "__iter__" "set_iterator.__iter__" :=
 .of (owner:="set_iterator") (n:="__iter__") (by rw[typeLookup_type,xY];kernel_rfl) (by decide +kernel) (by decide +kernel) (by decide +kernel) (by first|exact .inl (by decide +kernel)|exact .inr (by decide +kernel)) (by rw[isSubtype_type];kernel_rfl)
def zBc:entryFor table "set_iterator.__next__"=some xw.«set_iterator.__next__»:=entryFor_of_tree (by kernel_rfl)
def zkk:entryFor table "set_iterator.__iter__"=some xw.«dict_keyiterator.__iter__»:=entryFor_alias (id':="dict_keyiterator.__iter__") (by kernel_rfl) rfl (by decide +kernel) (by kernel_rfl)
def zhd(a:yb):argsOk "set_iterator.__next__" ⟨[a],[]⟩:=by unfold argsOk;kernel_rfl
def zxl(a:yb):argsOk "set_iterator.__iter__" ⟨[a],[]⟩:=by unfold argsOk;kernel_rfl
def zAl:entryFor table "set.__iter__"=some xw.«frozenset.__iter__»:=entryFor_alias (id':="frozenset.__iter__") (by kernel_rfl) rfl (by decide +kernel) (by kernel_rfl)
def SIt(h:yW)(it a:yf)(first:yb)(i n ep:Nat):Prop:=∃o,h.get? it=some o/\o.cls=.type "set_iterator"/\o.data=.fields #[first,.int i 0,.ref a,.int n 0,.int ep 0]
def SOb(h:yW)(a:yf)(es:Array (Int×yb))(ep:Nat)(t:xk):Prop:=∃o,h.get? a=some o/\o.cls=.type "set"/\o.data=.set es ep t/\t.fits es.size=true
section
variable {prog:yy}{w:yL}{A:yR}{E:yb->yd->Prop}{s:yd}
def SIt.typeIs{it a:yf}{first:yb}{i n ep:Nat}(x:SIt s.heap it a first i n ep):s.TypeIs (.ref it) "set_iterator":=let ⟨o,ho,hc,_⟩:=x;⟨o,ho,hc⟩
def SIt.at'{h h':yW}{it a:yf}{first:yb}{i n ep:Nat}(x:SIt h it a first i n ep)(k:∀o,h.get? it=some o->h'.get? it=some o):SIt h' it a first i n ep:=let ⟨o,ho,r⟩:=x;⟨o,k o ho,r⟩
def SOb.at'{h h':yW}{a:yf}{es:Array (Int×yb)}{ep:Nat}{t:xk}(x:SOb h a es ep t)(k:∀o,h.get? a=some o->h'.get? a=some o):SOb h' a es ep t:=let ⟨o,ho,r⟩:=x;⟨o,k o ho,r⟩
def zyq{it:yf}{o:YY}{vs:Array yb}{Q:Option yb->yd->Prop}(hh:A.handled=none)(ho:s.heap.get? it=some o)(hd:o.data=.fields vs)(h2:2<vs.size)
 (hQ:∀h',xi it s.heap h'->Q none {s with heap:=h' }) :
 yp (yz prog w) A.in1 (do setField (.ref it) 2 .none;raiseNew (<-newExc (.type "StopIteration") []):Sem Fin)
  (λ_ _=>False) (λe s'=>yp (yz prog w) A (do if <-isInstance e (.type "StopIteration") then pure none else throw e) Q E s') s:=by
 refine ya (xF ho hd h2 ?_);refine ya ?_;simp only[newExc,newTuple];refine ya (yS ?_ (by size_fits));refine ya (m:=firstArgMember _ _) (wpAny_of_eq (a:=YT) (by first|rfl|(simp only[firstArgMember];rfl)) ?_);refine yS ?_ (by size_fits);simp only[raiseNew];refine ya (wpAny_handled ?_);have e:A.in1.handled=none:=hh;rw[e];refine ya (ye (wpAny_throw ?_));refine ya (xG (T:="StopIteration") (b:=true) ⟨_,yk _ rfl,rfl⟩ isSubtype_stop ?_);exact ye (hQ _ (((Yw s.heap it _).extBut.push _).push _))
variable {it a:yf}{es:Array (Int×yb)}{ep i:Nat}{t:xk}{Q:Option yb->yd->Prop}
def zik(n:Nat):¬(((n:Int) != (n:Int))=true):=by simp
def zni{slot nx:Nat}{x:yb}(hI:SIt s.heap it a (.int slot 0) i es.size ep)(hO:SOb s.heap a es ep t)
 (hn:∀(Q':Option (yb×Nat)->yd->Prop) (E':yb->yd->Prop),Q' (some (x,nx)) s->yp (yz prog w) A.in1 (setNext a slot i ep) Q' E' s)
 (hQ:∀h',SIt h' it a (.int nx 0) (i+1) es.size ep->yI it s.heap h'->Q (some x) {s with heap:=h' }):yp (yz prog w) A (xo (.ref it)) Q E s:=by
 obtain⟨o,ho,hc,hd⟩:=id hI;obtain⟨oa,hoa,_,hda,hfa⟩:=hO;unfold xo;refine ya (xz (yQ (name:=YA "__next__") hI.typeIs tG (yM tG hI.typeIs zBc ?_ (zhd _))));unfold xw.«set_iterator.__next__»;refine ya (m:=slotArgs "__next__" 0 ⟨[xj it],[]⟩) (ye ?_);refine ya (wpAny_fieldsOf ho hd ?_);dsimp only;refine ya (xC hoa hda hfa ?_);rw[if_neg (zik es.size)];refine ya (hn _ _ ?_);dsimp only;refine ya (xF ho hd (by simp) ?_);have ho1:=Yc (Obj.mapFields (·.setIfInBounds 0 (YD nx))) ho (xm (Yt hd _));have hd1:=Yt hd (·.setIfInBounds 0 (YD nx));refine ya (xF ho1 hd1 (by simp) (ye ⟨x,rfl,ye (hQ _ ?_ ((Yw s.heap it _).trans (Yw _ it _)))⟩));refine⟨_,Yc _ ho1 (xm (Yt hd1 _)),(Obj.cls_mapFields ..).trans ((Obj.cls_mapFields ..).trans hc),?_⟩;rw[Yt hd1];simp[YD]
def zej{slot:Nat}(hh:A.handled=none)(hI:SIt s.heap it a (.int slot 0) i es.size ep)(hO:SOb s.heap a es ep t)
 (hn:∀(Q':Option (yb×Nat)->yd->Prop) (E':yb->yd->Prop),Q' none s->yp (yz prog w) A.in1 (setNext a slot i ep) Q' E' s)
 (hQ:∀h',xi it s.heap h'->Q none {s with heap:=h' }):yp (yz prog w) A (xo (.ref it)) Q E s:=by
 obtain⟨o,ho,hc,hd⟩:=id hI;obtain⟨oa,hoa,_,hda,hfa⟩:=hO;unfold xo;refine ya (xz (yQ (name:=YA "__next__") hI.typeIs tG (yM tG hI.typeIs zBc ?_ (zhd _))));unfold xw.«set_iterator.__next__»;refine ya (m:=slotArgs "__next__" 0 ⟨[xj it],[]⟩) (ye ?_);refine ya (wpAny_fieldsOf ho hd ?_);dsimp only;refine ya (xC hoa hda hfa ?_);rw[if_neg (zik es.size)];refine ya (hn _ _ ?_);dsimp only;exact YZ (zyq (Q:=Q) (E:=E) hh ho hd (by simp) hQ) (λ_ _ z=>z.elim) λ_ _ z=>z
def zxm{tup:yf}{ot:YY}{items:Array yb}{nt place:Nat}{x:yb}{hx:Int}(hI:SIt s.heap it a (.ref tup) i es.size ep)(hO:SOb s.heap a es ep t)(hot:s.heap.get? tup=some ot)(hdt:ot.data=.seq items nt)
 (hp:items[i]?=some (.int place 0)) (he:es[place]?=some (hx,x))
 (hQ:∀h',SIt h' it a (.ref tup) (i+1) es.size ep->yI it s.heap h'->Q (some x) {s with heap:=h' }):yp (yz prog w) A (xo (.ref it)) Q E s:=by
 obtain⟨o,ho,hc,hd⟩:=id hI;obtain⟨oa,hoa,_,hda,hfa⟩:=hO;unfold xo;refine ya (xz (yQ (name:=YA "__next__") hI.typeIs tG (yM tG hI.typeIs zBc ?_ (zhd _))));unfold xw.«set_iterator.__next__»;refine ya (m:=slotArgs "__next__" 0 ⟨[xj it],[]⟩) (ye ?_);refine ya (wpAny_fieldsOf ho hd ?_);dsimp only;refine ya (xC hoa hda hfa ?_);rw[if_neg (zik es.size)];refine ya (YF hot hdt ?_);dsimp only;simp only[yX,hp];unfold setNextDrawn;refine ya (ya (YM hoa hda hfa ?_));dsimp only;rw[if_neg (by simp),he];dsimp only;refine ye ?_;refine ya (xF ho hd (by simp) (ye ⟨x,rfl,ye (hQ _ ?_ (Yw s.heap it _))⟩));refine⟨_,Yc _ ho (xm (Yt hd _)),(Obj.cls_mapFields ..).trans hc,?_⟩;rw[Yt hd];simp[YD]
def zzo{tup:yf}{ot:YY}{items:Array yb}{nt:Nat}(hh:A.handled=none)(hI:SIt s.heap it a (.ref tup) i es.size ep)(hO:SOb s.heap a es ep t)(hot:s.heap.get? tup=some ot)(hdt:ot.data=.seq items nt)
 (hp:items[i]?=none) (hQ:∀h',xi it s.heap h'->Q none {s with heap:=h' }):yp (yz prog w) A (xo (.ref it)) Q E s:=by
 obtain⟨o,ho,hc,hd⟩:=id hI;obtain⟨oa,hoa,_,hda,hfa⟩:=hO;unfold xo;refine ya (xz (yQ (name:=YA "__next__") hI.typeIs tG (yM tG hI.typeIs zBc ?_ (zhd _))));unfold xw.«set_iterator.__next__»;refine ya (m:=slotArgs "__next__" 0 ⟨[xj it],[]⟩) (ye ?_);refine ya (wpAny_fieldsOf ho hd ?_);dsimp only;refine ya (xC hoa hda hfa ?_);rw[if_neg (zik es.size)];refine ya (YF hot hdt ?_);dsimp only;simp only[yX,hp];refine ya (xF ho hd (by simp) ?_);have ho1:=Yc (Obj.mapFields (·.setIfInBounds 0 (YD 0))) ho (xm (Yt hd _));have hd1:=Yt hd (·.setIfInBounds 0 (YD 0));exact YZ (zyq (Q:=Q) (E:=E) hh ho1 hd1 (by simp) λh' x=>hQ h' λb o' hb e=>x b o' hb ((Yw s.heap it _).extBut b o' hb e)) (λ_ _ z=>z.elim) λ_ _ z=>z
def z6f{Q:Bool->yd->Prop}(h:Q (w.params.followText "set-order") s):yp (yz prog w) A setsByText Q E s:=by
 unfold setsByText;exact ya (wpAny_askSetting (ye h))
def zbm{slot:Nat}(hw:w.params.followText "set-order"=true)(hO:SOb s.heap a es ep t){Q:Option (yb×Nat)->yd->Prop}(h:Q (((pickOrder (w.params.setOrder a ep) es)[i]?).map λe=>(e.2,slot)) s) :
 yp (yz prog w) A (setNext a slot i ep) Q E s:=by
 obtain⟨oa,hoa,_,hda,hfa⟩:=hO;unfold setNext;refine ya (YM hoa hda hfa ?_);dsimp only;refine ya (z6f ?_);rw[hw,if_pos rfl,if_neg (by simp)];unfold setWalk;refine ya (ya (YM hoa hda hfa ?_));dsimp only;refine ya (z6f ?_);rw[hw,if_pos rfl];exact ya (wpAny_askSetting (ye (ye h)))
def zId(t:xk)(i:Nat):Nat:=if i=0 then 0 else t.place.getD (i-1) 0+1
def zHo(h:RS t.place)(hi:i<=t.place.size):YE t.place (zId t i)=i:=by
 obtain⟨h0,h1,h2⟩:=zNj t.place (zId t i) h
 have hp:∀i k (hi:i<t.place.size) (hk:k<t.place.size),i<k->t.place[i]<t.place[k]:=λi k hi hk hik=>by
  have:=List.pairwise_iff_getElem.mp h i k (by simpa using hi) (by simpa using hk) hik;simpa using this
 generalize hr:YE t.place (zId t i)=r at *;unfold zId at h1 h2
 by_cases hz:i=0
 ·subst hz;rw[if_pos rfl]at h1
  by_cases hr0:0<r
  ·have:=h1 0 (by omega) hr0;omega
  ·omega
 ·rw[if_neg hz]at h1 h2;have hl:i-1<t.place.size:=by omega
  have hg:t.place.getD (i-1) 0=t.place[i-1]:=by simp[Array.getD,hl]
  rw[hg]at h1 h2;rcases Nat.lt_trichotomy r i with hlt|he|hgt
  ·have h3:=h2 (i-1) hl (by omega);omega
  ·exact he
  ·have h3:=h1 i (by omega) hgt;have h4:=hp (i-1) i hl (by omega) (by omega);omega
def zOj(hw:w.params.followText "set-order"=false)(hd:(!t.plain&&decide (es.size>1))=false)(hT:TOk true t)(hi:i<=es.size)(hO:SOb s.heap a es ep t){Q:Option (yb×Nat)->yd->Prop}(h:Q ((es[i]?).map λe=>(e.2,zId t (i+1))) s) :
 yp (yz prog w) A (setNext a (zId t i) i ep) Q E s:=by
 obtain⟨oa,hoa,_,hda,hfa⟩:=hO
 have hsz:t.place.size=es.size:=by
  unfold SetTable.fits at hfa;rw[yN]at hfa;exact beq_iff_eq.mp hfa.1
 unfold setNext;refine ya (YM hoa hda hfa ?_);dsimp only;refine ya (z6f ?_);rw[hw,if_neg yv];refine YQ (λhab=>?_) λ_=>?_
 ·have hab:(!t.plain&&decide (es.size>1))=true:=hab;rw[hd]at hab;cases hab
 ·refine ya ?_
  have led:yp (yz prog w) A (if(!t.led && !es.isEmpty)=true then unsupported "set:maker-not-led" else pure ()) (λ_ s'=>yp (yz prog w) A (pure (match es[YE t.place (zId t i)]?,t.place[YE t.place (zId t i)]? with
   |some (_,x),some j=>some (x,j+1)
   |_,_=>none):Sem (Option (yb×Nat))) Q E s') E s:=by
   rw[hT.led,if_neg (by simp)];refine ye (ye ?_);rw[zHo hT.rs (by omega)]
   by_cases hlt:i<es.size
   ·have e1:es[i]?=some es[i]:=by simp[hlt]
    have e2:t.place[i]?=some (t.place[i]'(by omega)):=by simp[show i<t.place.size by omega]
    rw[e1]at h;rw[e1,e2]
    have e3:zId t (i+1)=t.place[i]'(by omega)+1:=by
     unfold zId;rw[if_neg (by omega)];simp[Array.getD,show i<t.place.size by omega]
    rw[e3]at h;exact h
   ·have e1:es[i]?=none:=by simp;omega
    rw[e1]at h;rw[e1];exact h
  exact led
def zMj{α:Type}:∀(n:Nat)(xs:List α)(s:yd)(Q:List α->yd->Prop),n=xs.length->(∀ys d,ys.Perm xs->Q ys {s with drawn:=d })->yp (yz prog w) A (drawOrder n xs) Q E s
 |0,xs,s,Q,hn,h=>by
  have:xs=[]:=List.length_eq_zero_iff.mp hn.symm;subst this;exact ye (h [] s.drawn .nil)
 |n+1,[],s,Q,hn,h=>by simp at hn
 |n+1,x::xs,s,Q,hn,h=>by
  unfold drawOrder;refine ya ?_;intro Γ p hΓ;unfold choose;rw[Sem.wp_choose];refine⟨by simp,?_⟩;have hlt:(yz prog w).w.draws .order (s.drawn.get .order)%(x::xs).length<(x::xs).length:=Nat.mod_lt _ (by simp);generalize (yz prog w).w.draws .order (s.drawn.get .order)%(x::xs).length=j at hlt ⊢;generalize s.drawn.bump .order=d1
  have main:yp (yz prog w) A (match(x::xs)[j]? with
   |some y=>do return y::(<-drawOrder n ((x::xs).eraseIdx j))
   |none=>unsupported "internal:drawOrder") Q E {s with drawn:=d1 }:=by
   rw[yo hlt];dsimp only;refine ya (zMj n _ _ _ (by rw[List.length_eraseIdx_of_lt hlt];simp at hn ⊢;omega) λys d hp=>ye (h _ d ?_));exact(hp.cons _).trans (zZb _ _ hlt)
  simp only[Sem.wp_pure];exact main
variable {I:yf}
def zAm{first:yb}{n:Nat}{Q:yb->yd->Prop}(hI:SIt s.heap I a first i n ep)(h:Q (.ref I) s):yp (yz prog w) A (pyIter (.ref I)) Q E s:=by
 refine wpAny_pyIter_slot hI.typeIs z0g (yM z0g hI.typeIs zkk ?_ (zxl _));unfold xw.«dict_keyiterator.__iter__»;refine ya (m:=slotArgs "__iter__" 0 ⟨[xj I],[]⟩) (ye ?_);exact ye ⟨_,rfl,"set_iterator",_,hI.typeIs,tG.lookup,h⟩
abbrev zMu(ent:List (Int×yb))(i:Nat)(v:yb):Prop:=∃k,ent[i]?=some (k,v)
def zar(hh:A.handled=none)(hne:a≠I)(hw:w.params.followText "set-order"=true) :
 Walks prog w A I [I,a] [I] es.size (zMu (pickOrder (w.params.setOrder a ep) es).toList) (λi h=>SIt h I a (.int ((0:Nat):Int) 0) i es.size ep/\SOb h a es ep t) where
 sub:=λb hb=>by simp at hb;simp[hb]
 frame:=λ_ _ _ st hk=>⟨st.1.at' λo e=>hk I (by simp) o e,st.2.at' λo e=>hk a (by simp) o e⟩
 item:=λi s Q E hi st hQ=>by
  have hl:(pickOrder (w.params.setOrder a ep) es).size=es.size:=by
   have:=(zVi (w.params.setOrder a ep) es).length_eq;simpa using this
  have hi':i<(pickOrder (w.params.setOrder a ep) es).size:=by omega
  have e1:(pickOrder (w.params.setOrder a ep) es)[i]?=some (pickOrder (w.params.setOrder a ep) es)[i]:=by simp[hi']
  refine zni (nx:=0) (x:=(pickOrder (w.params.setOrder a ep) es)[i].2) st.1 st.2 (λQ' E' hq=>zbm hw st.2 (by rw[e1];exact hq)) λh' x sb=>?_;refine hQ _ h' s.toks ⟨_,by rw[xX,e1]⟩ ⟨x,st.2.at' λo e=>sb.extBut a o hne e⟩ λb o hb e=>sb.extBut b o (λh=>hb (by simp[h])) e
 done:=λs Q E st hQ=>by
  have hl:(pickOrder (w.params.setOrder a ep) es).size=es.size:=by
   have:=(zVi (w.params.setOrder a ep) es).length_eq;simpa using this
  refine zej hh st.1 st.2 (λQ' E' hq=>zbm hw st.2 (by rw[show(pickOrder (w.params.setOrder a ep) es)[es.size]?=none by simp;omega];exact hq)) λh' x=>hQ h' s.toks λb o hb e=>x b o (λh=>hb (by simp[h])) e
 self:=λ_ _ _ _ st hQ=>zAm st.1 hQ
def zAo(hh:A.handled=none)(hne:a≠I)(hw:w.params.followText "set-order"=false)(hd:(!t.plain&&decide (es.size>1))=false)(hT:TOk true t) :
 Walks prog w A I [I,a] [I] es.size (zMu es.toList) (λi h=>SIt h I a (.int (zId t i:Nat) 0) i es.size ep/\SOb h a es ep t) where
 sub:=λb hb=>by simp at hb;simp[hb]
 frame:=λ_ _ _ st hk=>⟨st.1.at' λo e=>hk I (by simp) o e,st.2.at' λo e=>hk a (by simp) o e⟩
 item:=λi s Q E hi st hQ=>by
  have e1:es[i]?=some es[i]:=by simp[hi]
  refine zni (nx:=zId t (i+1)) (x:=es[i].2) st.1 st.2 (λQ' E' hq=>zOj hw hd hT (by omega) st.2 (by rw[e1];exact hq)) λh' x sb=>?_;refine hQ _ h' s.toks ⟨_,by rw[xX,e1]⟩ ⟨x,st.2.at' λo e=>sb.extBut a o hne e⟩ λb o hb e=>sb.extBut b o (λh=>hb (by simp[h])) e
 done:=λs Q E st hQ=>by
  refine zej hh st.1 st.2 (λQ' E' hq=>zOj hw hd hT (by omega) st.2 (by rw[show es[es.size]?=none by simp];exact hq)) λh' x=>hQ h' s.toks λb o hb e=>x b o (λh=>hb (by simp[h])) e
 self:=λ_ _ _ _ st hQ=>zAm st.1 hQ
def zEo{tup:yf}{ord:List Nat}{nt:Nat}(hh:A.handled=none)(hne:a≠I)(hne2:tup≠I)(hp:ord.Perm (yh es.size)) :
 Walks prog w A I [I,a,tup] [I] es.size (zMu (ord.map λj=>es.getD j (0,.none))) (λi h=>SIt h I a (.ref tup) i es.size ep/\SOb h a es ep t/\∃ot,h.get? tup=some ot/\ot.data=.seq (ord.map λ(j:Nat)=>YD j).toArray nt) where
 sub:=λb hb=>by simp at hb;simp[hb]
 frame:=λ_ _ _ st hk=>⟨st.1.at' λo e=>hk I (by simp) o e,st.2.1.at' λo e=>hk a (by simp) o e,let ⟨ot,h1,h2⟩:=st.2.2;⟨ot,hk tup (by simp) ot h1,h2⟩⟩
 item:=λi s Q E hi st hQ=>by
  obtain⟨st1,st2,ot,h1,h2⟩:=st
  have hl:ord.length=es.size:=by
   have:=hp.length_eq;simpa using this
  have hi':i<ord.length:=by omega
  have hj:ord[i]<es.size:=by
   have:=hp.mem_iff.mp (getElem_mem hi');simpa using this
  have e1:es[ord[i]]?=some es[ord[i]]:=by simp[hj]
  refine zxm (x:=es[ord[i]].2) (place:=ord[i]) (hx:=es[ord[i]].1) st1 st2 h1 h2 (by simp[hi',YD]) e1 λh' x sb=>?_;refine hQ _ h' s.toks ⟨es[ord[i]].1,by simp[hi',Array.getD,hj]⟩ ⟨x,st2.at' λo e=>sb.extBut a o hne e,ot,sb.extBut tup ot hne2 h1,h2⟩ λb o hb e=>sb.extBut b o (λh=>hb (by simp[h])) e
 done:=λs Q E st hQ=>by
  obtain⟨st1,st2,ot,h1,h2⟩:=st
  have hl:ord.length=es.size:=by
   have:=hp.length_eq;simpa using this
  refine zzo hh st1 st2 h1 h2 (by simp;omega) λh' x=>hQ h' s.toks λb o hb e=>x b o (λh=>hb (by simp[h])) e
 self:=λ_ _ _ _ st hQ=>zAm st.1 hQ
def zer{ord:List Nat}(hp:ord.Perm (yh es.size)):(ord.map λj=>es.getD j (0,.none)).Perm es.toList:=by
 refine(hp.map _).trans ?_
 have:(yh es.size).map (λj=>es.getD j (0,YT))=es.toList:=by
  apply List.ext_getElem
  ·simp
  ·intro n h1 h2;simp at h1 h2;simp[Array.getD,h1]
 rw[this]
def zWw(prog:yy)(w:yL)(A:yR)(s:yd)(es:Array (Int×yb))(a:yf)(I:yf)(s':yd):Prop :=
 ∃fp ent St,Walks prog w A I fp [I] es.size (zMu ent) St/\St 0 s'.heap/\ent.Perm es.toList/\s.heap.objs.size<=I/\(∀b∈fp,s.heap.objs.size<=b\/b=a)/\(∀b∈fp,b<s'.heap.objs.size)/\(∀b o,s.heap.get? b=some o->s'.heap.get? b=some o)/\∃d,s' = {s with heap:=s'.heap,drawn:=d }
def zDr{Q:yb->yd->Prop}(hh:A.handled=none)(hT:TOk (!w.params.followText "set-order") t)(hO:SOb s.heap a es ep t)(hsz:es.size<=yF)
 (h:∀I s',zWw prog w A s es a I s'->Q (.ref I) s'):yp (yz prog w) A (pyIter (.ref a)) Q E s:=by
 obtain⟨oa,hoa,hca,hda,hfa⟩:=id hO;have hTy:s.TypeIs (.ref a) "set":=⟨oa,hoa,hca⟩
 have hlt:a<s.heap.objs.size:=ym hoa;refine wpAny_pyIter_slot hTy F.slot_set_iter (yM F.slot_set_iter hTy zAl ?_ (F.args_set_iter_1 _));unfold xw.«frozenset.__iter__»;refine ya (m:=Builtin.Frozenset.slot0 "__iter__" ⟨[xj a],[]⟩) (ye ?_);unfold Builtin.Frozenset.sizeOf;refine ya (ya (xC hoa hda hfa (ye ?_)));unfold setDrawn;refine ya (ya (YM hoa hda hfa ?_));dsimp only;refine ya (z6f (ye ?_));refine YQ (λhab=>?_) λhab=>?_
 ·have hab:(!w.params.followText "set-order" && (!t.plain&&decide (es.size>1)))=true:=hab;refine ya (zMj es.size _ _ _ (by simp) λord d hp=>?_)
  have hol:ord.length=es.size:=by
   have:=hp.length_eq;simpa using this
  unfold newTuple;refine ya (yS ?_ (by show(List.map (λ(i:Nat)=>YD i) ord).toArray.size<=yF;simp;omega));have hg:(s.heap.push {cls:=.type "tuple",data:=.seq (ord.map λ(i:Nat)=>YD i).toArray }).get? a=some oa:=yc _ hoa;refine ya ?_;unfold setEpoch;refine ya (YM (s:={s with heap:=_,drawn:=d }) hg hda hfa (ye ?_));unfold newFields;refine ya (yS (ye ⟨_,rfl,"set_iterator",_,⟨_,yk _ rfl,rfl⟩,tG.lookup,?_⟩));have hs1:(s.heap.push {cls:=.type "tuple",data:=.seq (ord.map λ(i:Nat)=>YD i).toArray }).objs.size=s.heap.objs.size+1:=by rw[yZ]
  refine h _ _ ⟨[(s.heap.push {cls:=.type "tuple",data:=.seq (ord.map λ(i:Nat)=>YD i).toArray }).objs.size,a,s.heap.objs.size],ord.map λj=>es.getD j (0,.none),_,
   zEo (t:=t) (ep:=ep) (nt:=0) hh (by rw[hs1];exact yq (Yo hlt)) (by rw[hs1];exact yq (YB _)) hp,⟨⟨_,yk _ rfl,rfl,by simp[YD]⟩,⟨oa,yc _ hg,hca,hda,hfa⟩,_,yc _ (yk _ rfl),rfl⟩,
   zer hp,by rw[hs1];exact Nat.le_succ _,?_,?_,λb o e=>yc _ (yc _ e),d,rfl⟩
  ·intro b hb;rw[hs1]at hb;simp at hb;rcases hb with rfl|rfl|rfl
   ·exact .inl (Nat.le_succ _)
   ·exact .inr rfl
   ·exact .inl (yi _)
  ·intro b hb;show b<((s.heap.push _).push _).objs.size;rw[yZ,hs1];rw[hs1]at hb;simp at hb;rcases hb with rfl|rfl|rfl
   ·exact YB _
   ·exact Yo (Yo hlt)
   ·exact Yo (YB _)
 ·have hab:¬(!w.params.followText "set-order" && (!t.plain&&decide (es.size>1)))=true:=hab;refine ya (ye ?_);refine ya ?_;unfold setEpoch;refine ya (YM hoa hda hfa (ye ?_));unfold newFields;refine ya (yS (ye ⟨_,rfl,"set_iterator",_,⟨_,yk _ rfl,rfl⟩,tG.lookup,?_⟩))
  have pre:∀(ent:List (Int×yb)) (St:Nat->yW->Prop),Walks prog w A s.heap.objs.size [s.heap.objs.size,a] [s.heap.objs.size] es.size (zMu ent) St->St 0 (s.heap.push {cls:=.type "set_iterator",data:=.fields #[YD 0,YD 0,.ref a,YD es.size,YD ep]})->ent.Perm es.toList ->
   Q (.ref s.heap.objs.size) {s with heap:=s.heap.push {cls:=.type "set_iterator",data:=.fields #[YD 0,YD 0,.ref a,YD es.size,YD ep]}}:=λent St W st hp=>
   h _ _ ⟨_,ent,St,W,st,hp,yi _,λb hb=>by simp at hb;rcases hb with rfl|rfl;exact .inl (yi _);exact .inr rfl,λb hb=>by
    show b<(s.heap.push _).objs.size;rw[yZ];simp at hb;rcases hb with rfl|rfl
    ·exact YB _
    ·exact Yo hlt,λb o e=>yc _ e,s.drawn,rfl⟩
  cases hw:w.params.followText "set-order" with
  |true=>exact pre _ _ (zar (t:=t) (ep:=ep) hh (yq hlt) hw) ⟨⟨_,yk _ rfl,rfl,by simp[YD]⟩,⟨oa,yc _ hoa,hca,hda,hfa⟩⟩ (zVi _ _)
  |false=>
   rw[hw]at hab hT;exact pre _ _ (zAo (t:=t) (ep:=ep) hh (yq hlt) hw (by simpa using hab) hT) ⟨⟨_,yk _ rfl,rfl,by simp[YD,zId]⟩,⟨oa,yc _ hoa,hca,hda,hfa⟩⟩ (.refl _)
def zJr{Q:Bool->yd->Prop}(hT:s.TypeIs (.ref a) "set")(hq:Q false s):yp (yz prog w) A (xg (.ref a)) Q E s:=by
 unfold xg;refine ya (YR hT F.slot_set_len.lookup ?_);generalize hn:("set.__len__":String)=nm
 wp_delta
 rw[show splitId nm=some ("set","__len__") from by subst hn;decide +kernel];subst hn;refine ya (xG (T:="set") (b:=true) hT (by rw[isSubtype_type];kernel_rfl) ?_);refine YQ (λno=>absurd no (by decide)) λ_=>?_;refine YQ (λ_=>?_) λno=>absurd (by decide +kernel) no;exact ya (Xf hT (ye hq))
def zux(s:yd)(es:Array (Int×yb))(vs:List yb)(s':yd):Prop :=
 (∃ent:List (Int×yb),ent.Perm es.toList/\vs=ent.map (·.2))/\(∀b o,s.heap.get? b=some o->s'.heap.get? b=some o)/\s'.os=s.os/\s'.gens=s.gens/\s.heap.objs.size<=s'.heap.objs.size
def zEr{ent:List (Int×yb)}{acc:Array yb}{n:Nat}(hl:ent.length=n)(h:ItemsOf (zMu ent) acc n):acc.toList=ent.map (·.2):=by
 apply List.ext_getElem
 ·simp[h.1,hl]
 ·intro j h1 h2;have h1':j<acc.size:=by simpa using h1
  obtain⟨k,e⟩:=h.2 j acc[j] (by simp[h1']);have h3:j<ent.length:=by simpa using h2
  rw[yo h3]at e;simp only[Option.some.injEq]at e;simp[e]
def zon{Q:List yb->yd->Prop}(hh:A.handled=none)(hT:TOk (!w.params.followText "set-order") t)(hO:SOb s.heap a es ep t)(hsz:es.size<=yF)(h:∀vs s',zux s es vs s'->Q vs s') :
 yp (yz prog w) A (collect (.ref a)) Q E s:=by
 obtain⟨oa,hoa,hca,hda,hfa⟩:=id hO;have hlt:a<s.heap.objs.size:=ym hoa;unfold collect;refine ya (wpAny_runValue (xa F.entry_proto_collect ?_));rw[YI F.plain_proto_collect _];show yp _ A.in1 (newList [] >>= λl=>again (.builtin "list.__iadd__" ⟨[l,.ref a],[]⟩)) _ _ s;refine ya (yS ?_);refine ye ⟨xV F.plain_list_iadd _,xa F.entry_list_iadd ?_⟩;rw[YI F.plain_list_iadd _];obtain⟨S,hSe⟩:∃S,S=s.heap.objs.size:=⟨_,rfl⟩
 have hL:(s.heap.push {cls:=.type "list",data:=.seq ([]:List yb).toArray }).get? S=some {cls:=.type "list",data:=.seq #[]}:=by rw[hSe];exact yk _ rfl
 have hk0:∀b o,s.heap.get? b=some o->(s.heap.push {cls:=.type "list",data:=.seq ([]:List yb).toArray }).get? b=some o:=λb o e=>yc _ e;have hz0:(s.heap.push {cls:=.type "list",data:=.seq ([]:List yb).toArray }).objs.size=S+1:=by rw[hSe,yZ]
 show yp _ A.in1 (Yk (.ref s.heap.objs.size) (.ref a) (.ref s.heap.objs.size)) _ _ _;rw[<-hSe];generalize s.heap.push {cls:=.type "list",data:=.seq ([]:List yb).toArray } = h0 at hL hk0 hz0 ⊢;have hO0:SOb h0 a es ep t:=hO.at' λo e=>hk0 _ o e;have hSa:S≠a:=by rw[hSe];exact yV hlt
 have hTy:Shared.TypeIs {s with heap:=h0 } (.ref a) "set":=⟨oa,hk0 _ _ hoa,hca⟩
 unfold Yk;refine ya (Xf hTy ?_);have g1:xA (.ref S) (.ref a)=false:=by simp[xA,hSa]
 have g2:(YJ "set" == YJ "list")=false:=by decide
 have g3:(YJ "set" == YJ "tuple")=false:=by decide
 simp only[g1,g2,g3,Bool.or_false,xM,if_false];refine ya (zDr (s:={s with heap:=h0 }) hh hT hO0 hsz λI s1 hI=>?_);obtain⟨fp,ent,St,W,st,hp,hIs,hf1,hf2,hk1,d,hs1⟩:=hI;have hL1:s1.heap.get? S=some {cls:=.type "list",data:=.seq #[]}:=hk1 _ _ hL;have hIs:S+1<=I:=by rw[<-hz0];exact hIs
 have hSf:S∉fp:=λhm=>by
  rcases hf1 S hm with q|q
  ·have q:h0.objs.size<=S:=q;rw[hz0]at q;exact Ye _ q
  ·exact hSa q
 have hTy1:s1.TypeIs (.ref a) "set":=⟨oa,hk1 _ _ (hk0 _ _ hoa),hca⟩
 refine ya (yU (zJr hTy1 ?_))
 have loop:∀(h2:yW)(c:Nat),(∀b o,b≠S->s1.heap.get? b=some o->h2.get? b=some o)->h2.get? S=some {cls:=.type "list",data:=.seq #[] c } ->
  codeAny (yz prog w) A (.builtin "list.extend.loop" ⟨[.ref S,.ref I,.ref S],[]⟩) (λr s'=>∃acc c',r=.ok (.ret (.ref S))/\s'.heap.get? S=some {cls:=.type "list",dict:=none,data:=.seq acc c',slots:=#[]}/\zux s es acc.toList s') {s1 with heap:=h2 }:=by
  intro h2 c hk2 hL2;refine codeAny_extend_loopS W.toS hsz S hSf (.ref S) es.size 0 _ #[] c rfl (Yl _) (W.frame 0 _ _ st λb hb o e=>hk2 b o (λq=>hSf (q▸hb)) e) hL2 (ItemsOf.nil _) λs' acc c' hm hS' hacc=>?_;refine⟨acc,c',rfl,hS',⟨ent,hp,zEr (by simpa using hp.length_eq) hacc⟩,λb o e=>?_,?_,?_,by rw[<-hSe];exact Ys (ym hS')⟩
  ·have hb:b<s.heap.objs.size:=ym e;rw[<-hSe]at hb;refine hm.heap b o (λhmem=>?_) (hk2 b o (yq hb) (hk1 _ _ (hk0 _ _ e)));rcases List.mem_cons.mp hmem with q|q
   ·exact absurd hb (by rw[q];exact Ye _)
   ·rw[List.mem_singleton.mp q]at hb;exact Ye _ (Nat.lt_trans hb (yA (YB _) hIs))
  ·have:=hm.os;rw[this];show s1.os=s.os;rw[hs1]
  ·have:s'.gens=s1.gens:=hm.gens;rw[this,hs1]
 have fin:∀(h2:yW)(c:Nat),(∀b o,b≠S->s1.heap.get? b=some o->h2.get? b=some o)->h2.get? S=some {cls:=.type "list",data:=.seq #[] c } ->
  codeAny (yz prog w) A (.builtin "list.extend.loop" ⟨[.ref S,.ref I,.ref S],[]⟩) (λr s'=>match r with
   |.ok (.ret v)=>yp (yz prog w) A (match v with
    |.ref b=>do
     let o <-load b
     match o.data with
     |.seq xs _=>pure xs.toList
     |_=>unsupported "internal:collect"
    |_=>unsupported "internal:collect") Q E s'
   |_=>False) {s1 with heap:=h2 }:=λh2 c hk2 hL2=>xv (loop h2 c hk2 hL2) λr s' ⟨acc,c',e,hS',hc⟩=>by
  subst e;dsimp only;refine ya (wpAny_load hS' ?_);exact ye (h _ _ hc)
 refine YQ (λ_=>?_) λ_=>?_
 ·refine ya (wpAny_rule ?_);refine ya ?_;show yp _ _ (updateSeq S (·.push .none) >>= λ_=>updateSeq S (·.pop)) _ _ _;refine ya (wpAny_updateSeq hL1 rfl ?_);have hL2:=Yc (xL (·.push YT)) hL1 rfl;refine wpAny_updateSeq (hz:=by seq_fits) hL2 rfl ?_;have hL3:=Yc (xL (·.pop)) hL2 rfl;refine ye ⟨xV F.plain_extend_loop _,xv (fin _ _ (λb o hb e=>?_) hL3) λr s' z=>?_⟩
  ·exact(xc _ _ (yE hb)).trans ((xc _ _ (yE hb)).trans e)
  ·cases r with
   |error e=>exact z.elim
   |ok f=>cases f<;>exact z
 ·refine ye ⟨xV F.plain_extend_loop _,xv (fin _ _ (λb o hb e=>e) hL1) λr s' z=>?_⟩
  cases r with
  |error e=>exact z.elim
  |ok f=>cases f<;>exact z
end
end M
namespace M
open PySem PyProof.Rows
section
variable {prog:yy}{w:yL}{A:yR}{E:yb->yd->Prop}{s:yd}{a:yf}
def zHf:∀(ent:List (Int×yb)),ElemsOf (intKind prog w) ent->IntsAre (ent.map (·.2)) (ent.map zAi)
 |[],_ =>.nil
 |e::ent,h=>by
  obtain⟨⟨k,hk,_⟩,_⟩:=h e mem_cons_self;obtain⟨t,ht⟩:=Value.isInt_shape (show Value.isInt k e.2=true from hk);have:zAi e=k:=by unfold zAi;rw[ht]
  rw[map_cons,map_cons,ht,this];exact .cons k t (zHf ent λx hx=>h x (mem_cons_of_mem _ hx))
def zHs(s:yd)(ks:List Int)(p:yf)(s':yd):Prop :=
 ∃(out:Array yb)(ns:List Int)(e:Nat),s'.heap.get? p=some {cls:=.type "list",data:=.seq out e }/\IntsAre out.toList ns/\ns.Perm ks/\ns.Pairwise (·<=·)/\s.heap.objs.size<=p/\(∀b o,s.heap.get? b=some o->s'.heap.get? b=some o)/\s'.os=s.os/\s'.gens=s.gens
def zIo{ks:List Int}{Q:yb->yd->Prop}(hh:A.handled=none)(hS:Tn prog w s.heap a ks)(h64:ks.length<64)(h:∀p s',zHs s ks p s'->Q (.ref p) s') :
 yp (yz prog w) A (call (.builtin "sorted") [.ref a]) Q E s:=by
 obtain⟨o,es,ep,t,ho,hex,hd,hf,hT,hel,hpk⟩:=hS
 have hlen:es.size=ks.length:=by
  have:=hpk.length_eq;simpa using this
 have hO:SOb s.heap a es ep t:=⟨o,ho,hex.1,hd,hf⟩
 refine Calls.call_function_entry kind_sorted plain_sorted entry_sorted (args_sorted1 _) ?_;unfold xw.«sorted»;refine ya (m:=checkCount "sorted" 1 1 _) (ye ?_);refine ya (zon (A:=A.in1) hh hT hO (yB (Ys (by omega:es.size<64)) (by rw[YN];decide)) λvs s1 hc=>?_);obtain⟨⟨ent,hp,rfl⟩,hk,hos,hgn,hsz⟩:=hc;have hel2:ElemsOf (intKind prog w) ent:=hel.perm hp;have hI:=zHf ent hel2
 have hl:ent.length=ks.length:=by
  rw[hp.length_eq];simpa using hlen
 refine ya (wpAny_newList ?_ (by simp;rw[YN];omega));have hnew:(s1.heap.push (seqObj "list" (ent.map (·.2)).toArray 0)).get? s1.heap.objs.size=some (seqObj "list" (ent.map (·.2)).toArray 0):=yk _ rfl;refine ya (yU (yM slot_list_sort ⟨_,hnew,rfl⟩ entry_list_sort (list_sort_tree hnew hI (by simp;omega) λout ns q1 q2 q3=>⟨_,rfl,?_⟩) (args_list_sort _)));obtain⟨e,he⟩:=sortedHeap_at (out:=out) hnew;refine ye ⟨_,rfl,h _ _ ⟨out,ns,e,he,q1,q2.trans ((hp.map zAi).trans hpk),q3,hsz,λb ob eb=>?_,hos,hgn⟩⟩;have hb1:=hk _ _ eb;have hlt1:b<s1.heap.objs.size:=ym hb1;show(sortedHeap (s1.heap.push (seqObj "list" (ent.map (·.2)).toArray 0)) s1.heap.objs.size (ent.map (·.2)) out).get? b=some ob;rw[sortedHeap_old (yq hlt1) (by rw[size_push'];exact Yo hlt1)];exact yc _ hb1
end
def zuw(ks:List Int)(k:Int):List Int:=if k∈ks then ks else ks++[k]
def uqN(val:Nat->Int):Nat->List Int
 |0=>[]
 |i+1=>zuw (uqN val i) (val i)
def zcq(val:Nat->Int):∀i,(uqN val i).length<=i
 |0=>yi _
 |i+1=>by
  have:=zcq val i;unfold uqN zuw
  split
  ·omega
  ·simp;omega
def zyp(val:Nat->Int)(k:Int):∀i,k∈uqN val i↔∃j,j<i/\val j=k
 |0=>by simp[uqN]
 |i+1=>by
  have ih:=zyp val k i;unfold uqN zuw;constructor
  ·intro h
   split at h
   ·obtain⟨j,h1,h2⟩:=ih.mp h;exact⟨j,by omega,h2⟩
   ·rcases List.mem_append.mp h with h|h
    ·obtain⟨j,h1,h2⟩:=ih.mp h;exact⟨j,by omega,h2⟩
    ·exact⟨i,by omega,by simpa using(List.mem_singleton.mp h).symm⟩
  ·rintro⟨j,h1,h2⟩
   by_cases e:j=i
   ·subst e
    split
    ·rename_i hm
     rw[<-h2];exact hm
    ·simp[h2]
   ·have:=ih.mpr ⟨j,by omega,h2⟩
    split
    ·exact this
    ·exact mem_append_left _ this
def zHl(val:Nat->Int):∀i,(uqN val i).Nodup
 |0=>nodup_nil
 |i+1=>by
  have ih:=zHl val i;unfold uqN zuw
  split
  ·exact ih
  ·rename_i hm
   rw[nodup_append];exact⟨ih,by simp,λa ha b hb e=>by simp at hb;subst hb;exact hm (e▸ha)⟩
section
variable {prog:yy}{w:yL}{A:yR}{R:Result->yd->Prop}{I:yf}{fp wr:List yf}{n:Nat}{P:Nat->yb->Prop}{St:Nat->yW->Prop}
def zIr(W:Walks prog w A.in1 I fp wr n P St)(S:yf)(hSf:S∉fp)(val:Nat->Int)(hval:∀i v,P i v->∃t,v=.int (val i) t)(hb:n+1<scanBound):∀(k i:Nat)(s:yd),n-i=k->i<=n->St i s.heap->Tn prog w s.heap S (uqN val i) ->
 (∀h' tk,(∀b o,b∉S::wr->s.heap.get? b=some o->h'.get? b=some o)->Tn prog w h' S (uqN val n)->R (.ok (.ret .none)) {s with heap:=h',toks:=tk })->codeAny (yz prog w) A (.builtin "set.update.loop" ⟨[.ref S,.ref I],[]⟩) R s:=by
 have hSw:S∉wr:=λq=>hSf (W.sub _ q);intro k
 induction k with
 |zero=>
  intro i s hk hi st hS hR;have e:i=n:=by omega
  subst e;refine xa PyProof.Rows.F.entry_set_update_loop ?_;rw[YI xb _];show yp _ A.in1 (xo (.ref I) >>= _) _ _ s;refine ya (W.done s _ _ st λh' tk hk'=>?_);exact ye (hR h' tk (λb o hb e=>hk' b o (λq=>hb (mem_cons_of_mem _ q)) e) (hS.at' λo e=>hk' S o hSw e))
 |succ k ih=>
  intro i s hk hi st hS hR;have hlt:i<n:=by omega
  refine xa PyProof.Rows.F.entry_set_update_loop ?_;rw[YI xb _];show yp _ A.in1 (xo (.ref I) >>= _) _ _ s;refine ya (W.item i s _ _ hlt st λv h1 tk hP st1 hk1=>?_);obtain⟨t,rfl⟩:=hval i v hP;show yp _ A.in1 (holding [Value.int (val i) t] (setAdd S (.int (val i) t)) >>= _) _ _ _;refine ya (yU ?_);unfold setAdd;refine yU ?_;refine ya (wpAny_pyHash_int ?_);have hS1:Tn prog w h1 S (uqN val i):=hS.at' λo e=>hk1 S o hSw e;refine zet (s:={s with heap:=h1,toks:=tk+1 }) hS1 (by have:=zcq val i;omega) λb h2 sb hS2=>?_;refine ye ⟨xV xb _,ih (i+1) _ (by omega) hlt (W.frame _ _ _ st1 λc hc o e=>?_) hS2 λh3 tk3 hk3 hS3=>?_⟩
  ·exact sb.extBut c o (λq=>hSf (q▸hc)) e
  ·exact hR h3 tk3 (λc o hc e=>hk3 c o hc (sb.extBut c o (λq=>hc (by rw[q];exact mem_cons_self)) (hk1 c o (λq=>hc (mem_cons_of_mem _ q)) e))) hS3
variable {E:yb->yd->Prop}{s:yd}
abbrev zYc(w:yL):YY:={cls:=.type "set",dict:=none,data:=.set #[] 0 (.fresh 0 0 (!w.params.followText "set-order"))}
def zFt(a:yb){Q:yb->yd->Prop}(h:Q (.ref s.heap.objs.size) {s with heap:=s.heap.push (zYc w)}) :
 codeAny (yz prog w) A (.call (.builtin "set.__new__") ⟨[.type "set",a],[]⟩) (wants Q E) s:=by
 refine codeAny_of_tree ?_;show yp _ A.in1 (do checkBuiltinCall "set.__new__" ⟨[.type "set",a],[]⟩;again (.builtin "set.__new__" ⟨[.type "set",a],[]⟩)) _ _ s;refine ya (wpAny_of_eq (PySem.F.newCall_set_1 a) (ye ⟨xV PySem.F.plain_set_new _,xa PySem.F.entry_set_new ?_⟩));rw[YI PySem.F.plain_set_new _];unfold xw.«set.__new__» Builtin.Frozenset.newClass;have hsub:=PySem.sub_set_self;obtain⟨hp,g,d,tk,os⟩:=s;dsimp only
 wp_walk
 refine wpAny_askSetting (ye ?_);dsimp only;simp only[newObj];refine ya (wpAny_alloc (ye ?_));exact ye h
def zSq(prog:yy)(w:yL)(s:yd)(ks:List Int)(s':yd):Prop :=
 Tn prog w s'.heap s.heap.objs.size ks/\(∀b o,s.heap.get? b=some o->s'.heap.get? b=some o)/\∃h' tk,s' = {s with heap:=h',toks:=tk }
set_option maxHeartbeats 3200000 in
def z3m{l:yf}{its:Array yb}{ns:List Int}{Q:yb->yd->Prop}(hh:A.handled=none)(hl:s.heap.IsList l its)(hi:IntsAre its.toList ns)(hb:its.size+1<scanBound)
 (h:∀s',zSq prog w s (uqN (λi=>ns.getD i 0) its.size) s'->Q (.ref s.heap.objs.size) s'):yp (yz prog w) A (call (.type "set") [.ref l]) Q E s:=by
 obtain⟨c,tl,hmro⟩:=PySem.F.called_set.mro;have hmade:=PySem.F.called_set.made;have hsub:=PySem.F.called_set.sub;refine wpAny_call (codeAny_of_tree ?_);show yp _ _ (callAny (.type "set") _) _ _ _;refine ye ⟨Code.quiet_builtin _ (by decide +kernel),xa PySem.F.entry_type_call ?_⟩;rw[Around.under_plain (weight_type_call_type "set" [.ref l] []) rfl];have t1:=PySem.F.called_set.notType;have t2:=PySem.F.called_set.canCreate;have t3:=PySem.F.typeCall_set_1 (.ref l)
 repeat (any_goals (first|assumption|wp_step))
 refine xv (zFt (w:=w) (.ref l) (E:=E) (Q:=λob s1=>ob=.ref s.heap.objs.size/\s1 = {s with heap:=s.heap.push (zYc w)}) ⟨rfl,rfl⟩) λr s1 hr=>?_
 cases r with
 |error e=>exact hr
 |ok fl=>
  cases fl with
  |ret ob=>
   obtain⟨rfl,rfl⟩:=hr;have hS:(s.heap.push (zYc w)).get? s.heap.objs.size=some (zYc w):=yk _ rfl;have hT:Shared.TypeIs {s with heap:=s.heap.push (zYc w)} (.ref s.heap.objs.size) "set":=⟨_,hS,rfl⟩
   have i1:=PySem.F.called_set.init.lookup;have i2:=PySem.F.called_set.init.bind (.ref s.heap.objs.size)
   repeat (any_goals (first|assumption|wp_step))
   refine xv (codeAny_call_builtin (R:=wants (λr s2=>r=.none/\zSq prog w s (uqN (λi=>ns.getD i 0) its.size) s2) E) PySem.F.called_set.init.plain PySem.F.entry_set_init (check_set_init_1 hT ?_)) λr2 s2 hr2=>?_
   ·obtain⟨ol,hol,hcl,nl,hdl⟩:=hl;obtain⟨ocls,odict,odata,oslots⟩:=ol;simp only at hcl hdl;subst hcl;subst hdl;have hlS:l<s.heap.objs.size:=ym hol;have hol1:(s.heap.push (zYc w)).get? l=some {cls:=.type "list",dict:=odict,data:=.seq its nl,slots:=oslots }:=yc _ hol;have n1:=PySem.F.sub_list_set;have n2:=PySem.F.sub_list_frozenset;have n3:(YJ "list" == YJ "dict")=false:=by decide
    have hl1:(s.heap.push (zYc w)).IsList l its:=⟨_,hol1,rfl,nl,rfl⟩
    unfold xw.«set.__init__» noKeywords Builtin.Frozenset.updateFrom;generalize hPI:pyIter=PI
    wp_walk
    subst hPI;refine xu hl1 ?_;refine ya (wpAny_runValue ?_);have hz:(s.heap.push (zYc w)).objs.size=s.heap.objs.size+1:=by rw[yZ]
    have hne:l≠(s.heap.push (zYc w)).objs.size:=by rw[hz];exact yq (Yo hlS)
    have hSf:s.heap.objs.size∉[(s.heap.push (zYc w)).objs.size,l]:=by
     rw[hz];simp only[mem_cons,not_mem_nil,or_false,not_or];exact⟨yq (YB _),yV hlS⟩
    have hval:∀(i:Nat)(v:yb),its[i]?=some v->∃t,v=.int ((λi=>ns.getD i 0) i) t:=λi v hv=>IntsAre.int_at hi i v (by rw[xX];exact hv);refine zIr (Walks.list (by simp[hh]) _ l hne its) s.heap.objs.size hSf (λi=>ns.getD i 0) hval hb (its.size-0) 0 _ (by omega) (Yl _) ⟨⟨_,yk _ rfl,rfl,rfl⟩,hl1.push _⟩ ?s0 ?r0
    case s0=>
     exact⟨zYc w,#[],0,_,yc _ hS,⟨rfl,rfl,rfl⟩,rfl,rfl,.fresh _,λe he=>by simp at he,by simp[uqN]⟩
    case r0=>
     intro h' tk hk hS';refine ye ?_;show yp _ _ (ret YT) _ _ _;refine ye ⟨rfl,hS',λb o e=>?_,h',tk,rfl⟩;have hlt:b<s.heap.objs.size:=ym e;refine hk b o ?_ (yc _ (yc _ e));rw[hz];simp only[mem_cons,not_mem_nil,or_false,not_or];exact⟨yq hlt,yq (Yo hlt)⟩
   ·cases r2 with
    |error e=>exact hr2
    |ok fl2=>
     cases fl2 with
     |ret r=>
      obtain⟨rfl,hm⟩:=hr2
      repeat (any_goals (first|assumption|wp_step))
      exact h _ hm
     |_=>exact hr2.elim
  |_=>exact hr.elim
end
end M
namespace M
open PySem PySem.Spec PyProof.Rows L2
section
variable {X:Cx}{pins:List (yf×YY)}{Y:L2.St}{H:Hp}{s s':yd}
def zfr(I:Inv X pins Y H s)(ho:s'.os=s.os)(hg:s'.gens=s.gens)(k:∀b u,s.heap.get? b=some u->s'.heap.get? b=some u):Inv X pins Y H s' :=
 I.call' (ch:=[]) ho (Un.kept k) (I.hok.kept k) (by rw[hg];exact I.bare) λb z=>nomatch z
def zOn{p:yf}{o:HO}(I:Inv X pins Y H s)(ho:s'.os=s.os)(hg:s'.gens=s.gens)(k:∀b u,s.heap.get? b=some u->s'.heap.get? b=some u)(hp:s.heap.objs.size<=p)(new:tJ X.prog X.w (upd H p o) s'.heap p o):Inv X pins Y (upd H p o) s' :=
 I.call' (ch:=[]) ho (Un.laid k hp (I.hok.fresh hp)) (I.hok.laid k hp new) (by rw[hg];exact I.bare) λb z=>nomatch z
def z4c:∀{us:List yb} {ns:List Int},IntsAre us ns->Vals (ns.map V.int) us
 |_,_,.nil =>.nil
 |_,_,.cons n t r =>.cons ⟨t,rfl⟩ (z4c r)
def zMr(X:Cx)(p:yf)(ks:List Int):HO:=.ext λh=>Tn X.prog X.w h p ks
def zaq(hc:X.calm=true):zmh X (.type "set") (λxs H Q=>∃(a:yf)(ns:List Int),xs=[.ref a]/\SqL X.K H a (ns.map V.int)/\ns.length+1<scanBound/\∀p,H p=none->Q (.ref p) (upd H p (zMr X p (uqN (λi=>ns.getD i 0) ns.length)))):=by
 intro pins s Y H xs us Q I r ⟨a,ns,e,hq,hb,k⟩;subst e;obtain⟨u,rfl,rx⟩:=vals1 r;cases rx;obtain⟨its,rv,pl,hz⟩:=I.list hq;have hl:its.length=ns.length:=by rw[<-rv.length];simp
 refine z3m (I.ok.hd hc) pl.isList (its:=its.toArray) (ns:=ns) (by simpa using zWe rv) (by simp;omega) λs' ⟨hS,hk,h',tk,e⟩=>?_;subst e;rw[show its.toArray.size=ns.length by simp;exact hl]at hS;refine⟨.ref s.heap.objs.size,_,I.laid (t':=tk) hk (yi _) (show tJ X.prog X.w _ h' _ (zMr X _ _) from⟨hS,?_,λh1 h2 x y=>x.at' y⟩),rfl,k _ I.fresh⟩;obtain⟨o,_,_,_,ho,_⟩:=hS;exact⟨o,ho⟩
def zNo(hc:X.calm=true):zmh X (.builtin "sorted") (λxs H Q=>∃(a:yf)(ks:List Int),xs=[.ref a]/\H a=some (zMr X a ks)/\ks.length<64/\∀(p:yf)(ns:List Int),H p=none->ns.Perm ks->ns.Pairwise (·<=·)->Q (.ref p) (upd H p (.lst (ns.map V.int)))):=by
 intro pins s Y H xs us Q I r ⟨a,ks,e,hq,h64,k⟩;subst e;obtain⟨u,rfl,rx⟩:=vals1 r;cases rx;obtain⟨hS,_,_⟩:=I.hok a _ hq;refine zIo (I.ok.hd hc) hS h64 λp s' ⟨out,ns,e,h1,h2,h3,h4,h5,h6,h7,h8⟩=>?_;have hl:ns.length=ks.length:=h3.length_eq;refine⟨.ref p,_,zOn I h7 h8 h6 h5 (show tJ X.prog X.w _ s'.heap _ (.lst (ns.map V.int)) from⟨by simp;rw[YN];omega,out.toList,e,z4c h2,by simpa using h1⟩),rfl,k p ns (I.hok.fresh h5) h3 h4⟩
end
def zay:D->Option Int
 |.int i=>some i
 |_=>none
def zbj(ds:List D):Option (List Int):=ds.mapM zay
@[simp] theorem zri:∀ns:List Int,zbj (ns.map D.int)=some ns
 |[]=>rfl
 |i::ns=>by
  have:=zri ns;unfold zbj at this ⊢;rw[map_cons,mapM_cons,this];rfl
def zte:∀{ds:List D} {ns:List Int},zbj ds=some ns->ds=ns.map D.int
 |[],ns,h=>by
  unfold zbj at h;simp at h;subst h;rfl
 |d::ds,ns,h=>by
  unfold zbj at h;rw[mapM_cons]at h;obtain⟨i,e1,h⟩:=zl h;obtain⟨r,e2,h⟩:=zl h;cases h
  cases d with
  |int j=>cases e1;rw[zte (show zbj ds=some r from e2)];rfl
  |_=>cases e1
def zWf{K:yx}{Z:List yf}{H:Hp}:∀{ns:List Int} {vs:List V},tj K Z H (ns.map D.int) vs->vs=ns.map V.int
 |[],vs,r=>r.nil_inv
 |i::ns,vs,r=>by
  obtain⟨v,q,rfl,h1,h2⟩:=r.cons_inv;rw[h1.int_inv,zWf h2];rfl
def z5d{K:yx}{Z:List yf}{H:Hp}:∀{ns:List Int},tj K Z H (ns.map D.int) (ns.map V.int)
 |[] =>.nil
 |i::ns =>.cons .int z5d
def uqL(ns:List Int):List Int:=uqN (λi=>ns.getD i 0) ns.length
def zdr(ns:List Int):List Int:=(uqL ns).mergeSort λa b=>decide (a<=b)
def zjc{a b:List Int}(p:a.Perm b)(ha:a.Pairwise (·<=·))(hb:b.Pairwise (·<=·)):a=b:=p.eq_of_pairwise (λ_ _ _ _ h1 h2=>Int.le_antisymm h1 h2) ha hb
def zBg(ns:List Int):(ns.mergeSort λa b=>decide (a<=b)).Pairwise (·<=·):=by
 have:=List.pairwise_mergeSort (le:=λa b:Int=>decide (a<=b)) (λa b c h1 h2=>by simp at h1 h2 ⊢;omega) (λa b=>by simp;omega) ns;exact this.imp λh=>by simpa using h
def zko(G:FE):FE:=λJ μ=>(G J μ).bind λp=>match p.1 with
 |.loc n=>match p.2[n]? with
  |some (.lst ds)=>(zbj ds).bind λns=>bif decide (ns.length<=4000/\(uqL ns).length<64) then some (.loc p.2.length,p.2++[.lst ((zdr ns).map .int)]) else none
  |_=>none
 |_=>none
section
variable {X:Cx}{a b c e:yC}{es:List yC}{G ψ χ:FE}{pos pos2 p1 p2:xU}
def zFp(hm1:X.mg "sorted"=none)(hv1:yH "sorted"=some (.builtin "sorted"))(hm2:X.mg "set"=none)(hv2:yH "set"=some (.type "set"))(h:ME X e G)(hc:X.calm=true:=by rfl)(hg1:Gl X "sorted":=by rfl)(hg2:Gl X "set":=by rfl)
 (he:yw [e] X.env=(false,Yq e X.env)::yw [] X.env:=by rfl) (he2:yw [.Call (.Name "set" p2) [e] [] pos2] X.env=(false,Yq (.Call (.Name "set" p2) [e] [] pos2) X.env)::yw [] X.env:=by rfl) :
 ME X (.Call (.Name "sorted" p1) [.Call (.Name "set" p2) [e] [] pos2] [] pos) (zko G) :=
 zsd (zEn (zNo hc) hg1 hm1 hv1 (zbf (zxf (zaq hc) hg2 hm2 hv2 (zbf h zii he) (by decide) (by decide) he rfl) zii he2) (by decide) (by decide) he2 rfl) λZ J μ Y H d μ' Q A e k=>by
  obtain⟨⟨x,μ1⟩,e1,e⟩:=zl e;refine⟨Z,J,μ,x,μ1,A,e1,λZ1 H1 v x1 R1 r1=>?_⟩;dsimp only at e
  split at e
  ·split at e
   ·rename_i hm
    obtain⟨ns,e2,e⟩:=zl e;obtain⟨hb,e⟩:=zP e;have hb:=of_decide_eq_true hb;cases e;rw[zte e2]at hm;obtain⟨p,rfl,ep⟩:=r1.tx;obtain⟨vs,e3,q⟩:=R1.at_ _ _ _ ep hm;rw[zWf q]at e3;refine⟨p,ns,rfl,SqL.of e3,by unfold scanBound;omega,λp1 hp1=>?_⟩;refine⟨p1,uqL ns,rfl,zC,hb.2,λp2 ms hp2 hpm hpw=>?_⟩;have hms:ms=zdr ns:=zjc (hpm.trans (mergeSort_perm _ _).symm) hpw (zBg _);subst hms;have R2:=R1.Tg (o:=zMr X p1 (uqL ns)) hp1;exact k _ _ _ (x1.trans ((Ext.new hp1).trans (Ext.push hp2))) (R2.push hp2 ⟨_,zC,z5d⟩) (.loc (zrb R2))
   ·cases e
  ·cases e
variable {prog:yy}{w:yL}{A:yR}{E:yb->yd->Prop}{s:yd}
def z2o{l b:yf}{its its2:List yb}{n:Nat}{Q:yb->yd->Prop}(hl:s.heap.get? l=some {cls:=.type "list",data:=.seq its.toArray n })(hb:IsTup s.heap b its2.toArray)(hz:its.length+its2.length<=yF)
 (h:Q .none {s with heap:=s.heap.update l (xL (· ++ its2.toArray))}):yp (yz prog w) A (call (.builtin "list.extend") [.ref l,.ref b]) Q E s:=by
 obtain⟨o,ho,hc,m,hd⟩:=hb
 have hlong:¬(!its.toArray.isEmpty&&YW (its.toArray.size+its2.toArray.size))=true:=by
  rw[TU (by rw[size_toArray,size_toArray];exact hz),Bool.and_false];exact yv
 refine yM PySem.F.slot_list_extend ⟨_,hl,rfl⟩ PySem.F.entry_list_extend ?_ (PySem.F.args_list_extend_2 _ _);unfold xw.«list.extend»;refine ya (m:=selfAndOne "list.extend" ⟨[.ref l,.ref b],[]⟩) (ye ?_);dsimp only;unfold Yk;refine ya (Xf (T:="tuple") ⟨o,ho,hc⟩ ?_);have ht:(YJ "tuple" == YJ "tuple")=true:=by rfl
 rw[if_pos (by rw[ht];simp)];refine ya (listItems_at ho hd ?_);refine ya (listItems_at hl rfl ?_);rw[if_neg hlong];refine ya (listUpdate_at hl rfl ?_ (by rw[size_toArray];omega) (by rw[Array.size_append,size_toArray,size_toArray];omega));exact ye ⟨_,rfl,h⟩
@[simp] def z9t:GM:=λx ds μ=>match x,ds with
 |.loc n,[.tup ys]=>match μ[n]? with
  |some (.lst xs)=>bif decide (xs.length+ys.length<=1000000) then some (.non,μ.set n (.lst (xs++ys))) else none
  |_=>none
 |.loc n,[.loc m]=>match μ[n]?,μ[m]? with
  |some (.lst xs),some (.lst ys)=>bif decide (xs.length+ys.length<=1000000) then some (.non,μ.set n (.lst (xs++ys))) else none
  |_,_=>none
 |_,_=>none
def zQo:MtG X "list.extend" z9t:=by
 refine MtG.of λpins s Y H x xs v us Q I rx rs Z dx ds μ d μ' r1 r2 R e k=>?_;have hmi:=Tb;unfold z9t at e
 split at e
 ·split at e
  ·rename_i hm
   obtain⟨h1,e⟩:=zP e;have h1:=of_decide_eq_true h1;cases e;obtain⟨l,rfl,ea⟩:=r1.tx;obtain⟨vs,e3,q3⟩:=R.at_ _ _ _ ea hm;obtain⟨w,r,rfl,q1,q2⟩:=r2.cons_inv;rw[q2.nil_inv]at rs;obtain⟨b,ws,rfl,eb,qb⟩:=q1.tT;obtain⟨u,rfl,ru⟩:=vals1 rs;cases ru;cases rx;obtain⟨z,its,n,rv,hl,el⟩:=I.sj e3;obtain⟨its2,rv2,pt,_⟩:=I.tuple (SqT.of (K:=X.K) eb);have hl1:=q3.length;have hl2:=qb.length;have hl3:=rv2.length;have hmu:Mut (H l):=by rw[e3];trivial
   refine z2o el pt (by omega) ?_;refine⟨.non,_,I.sV (t':=s.toks) (ys:=vs++ws) (its':=its++its2) e3 el (by simp) (rv.append rv2) (by rw[length_append];omega),rfl,?_⟩;exact k Z _ _ (Ext.wr hmu) (R.wr hmu ea ⟨_,zC,tj.ext (Ext.wr hmu) (q3.append qb)⟩) .non
  ·cases e
 ·split at e
  ·rename_i hm1 hm2
   obtain⟨h1,e⟩:=zP e;have h1:=of_decide_eq_true h1;cases e;obtain⟨l,rfl,ea⟩:=r1.tx;obtain⟨vs,e3,q3⟩:=R.at_ _ _ _ ea hm1;obtain⟨w,r,rfl,q1,q2⟩:=r2.cons_inv;rw[q2.nil_inv]at rs;obtain⟨b,rfl,eb⟩:=q1.tx;obtain⟨ws,e4,q4⟩:=R.at_ _ _ _ eb hm2;have hl1:=q3.length;have hl2:=q4.length;have hmu:Mut (H l):=by rw[e3];trivial
   refine zxp pins s Y H _ _ v us Q I rx rs ⟨l,b,vs,ws,rfl,rfl,e3,e4,by omega,?_⟩;exact k Z _ _ (Ext.wr hmu) (R.wr hmu ea ⟨_,zC,tj.ext (Ext.wr hmu) (q3.append q4)⟩) .non
  ·cases e
 ·cases e
def z3k{o:yC}{ψ:FA}{apos:xU}(ho:ME X o G)(ha:MAn X (e::es) ψ)
 (hbase:xh o "extend" X.env (Yq o X.env)=Yq o X.env:=by rfl)
 (hfew:((xn pos (yw (e::es) X.env)).all (λx=>!x.1)&&(backToKw pos (keywordEach [] X.env)).all (λx=>x.1.isSome)
  && decide ((e::es).length+([]:List Keyword).length+(if([]:List Keyword).isEmpty then 0 else 1)<30))=true:=by rfl)
 (hline:(apos.endLine==pos.line)=true:=by rfl) (hs:yw (e::es) X.env=(false,Yq e X.env)::yw es X.env:=by rfl) (hplain:(xn pos (yw es X.env)).any (·.1)=false:=by rfl) :
 ME X (.Call (.Attribute o "extend" apos) (e::es) [] pos) (zUf z9t G ψ):=z6j PySem.F.slot_list_extend PySem.F.type_list_extend zQo ho ha hbase hfew hline hs hplain
@[simp] def zNu:GL:=λds μ=>match ds with
 |[.loc n]=>match μ[n]? with
  |some (.lst xs)=>(zbj xs).bind λns=>some (.int ns.sum,μ)
  |_=>none
 |_=>none
def zfm(ns:List Int):∀i,i<=ns.length->preSum (λj=>ns.getD j 0) i=(ns.take i).sum
 |0,_=>by simp[preSum]
 |i+1,h=>by
  have ih:=zfm ns i (by omega);unfold preSum;have hi:i<ns.length:=by omega
  have e:ns.take (i+1)=ns.take i++[ns[i]]:=by simp
  rw[ih,e,List.sum_append];simp[hi]
def zbl(hc:X.calm=true):tU X (.builtin "sum") zNu:=by
 refine tU.of λpins s Y H xs us Q I r Z ds μ d μ' r1 R e k=>?_;unfold zNu at e
 split at e
 ·split at e
  ·rename_i hm
   obtain⟨ns,e2,e⟩:=zl e;cases e;rw[zte e2]at hm;obtain⟨v,rr,rfl,q1,q2⟩:=r1.cons_inv;obtain⟨a,rfl,ea⟩:=q1.tx;obtain⟨vs,e3,q3⟩:=R.at_ _ _ _ ea hm;rw[zWf q3]at e3;rw[q2.nil_inv]at r;obtain⟨u,rfl,ru⟩:=vals1 r;cases ru;obtain⟨its,rv,pl,hz⟩:=I.list (SqL.of (K:=X.K) e3);have hlt:a<s.heap.objs.size:=by obtain⟨_,_,e,_⟩:=pl;exact ym e
   have hI:=zWe rv;have hl:its.length=ns.length:=by rw[<-rv.length];simp
   refine call_sum_walkAnyS (xu pl.isList ?_);refine⟨_,_,_,_,_,_,_,λj=>ns.getD j 0,rfl,(Walks.list (A:=X.A.in1) (I.ok.hd hc) s.heap.objs.size a (yq hlt) its.toArray).toS,⟨⟨_,yk _ rfl,rfl,rfl⟩,pl.isList.push _⟩,λb hb=>?_,λi v hv=>IntsAre.int_at hI i v (by simpa using hv),λs' t' hmv=>?_⟩
   ·show b<(s.heap.push _).objs.size;rw[yZ];simp at hb;rcases hb with rfl|rfl
    ·exact YB _
    ·exact Yo hlt
   ·refine⟨.int _,H,zfr I hmv.os hmv.gens λb o e=>hmv.heap b o (by simpa using yq (ym e)) (yc _ e),⟨t',rfl⟩,?_⟩;rw[size_toArray,hl,zfm ns _ (yi _),take_length];exact k Z H _ Ext.refl R .int
  ·cases e
 ·cases e
@[simp] def zah(G:FE):FI:=λJ μ=>(G J μ).bind λp=>match p.1 with
 |.tup ds=>some (ds,yes,p.2)
 |.fz ds=>some (ds,yes,p.2)
 |.loc n=>match p.2[n]? with
  |some (.lst ds)=>some (ds,z1i n ds,p.2)
  |_=>none
 |_=>none
def z3b{tg:yC}(h:ME X a G):MI X tg a (zah G):=by
 intro pins s Y H R I hh;obtain⟨Z,J,μ,ds,ok,μ',A,e,k⟩:=hh
 cases e1:G J μ with
 |none=>unfold zah at e;rw[e1]at e;cases e
 |some p=>
  obtain⟨x,μ1⟩:=p
  cases x with
  |tup zs=>exact zUv h pins s Y H R I ⟨Z,J,μ,ds,ok,μ',A,by unfold zah at e;unfold zct;rw[e1]at e ⊢;exact e,k⟩
  |fz zs=>exact zJq h pins s Y H R I ⟨Z,J,μ,ds,ok,μ',A,by unfold zah at e;unfold z8q;rw[e1]at e ⊢;exact e,k⟩
  |loc n=>exact zJq h pins s Y H R I ⟨Z,J,μ,ds,ok,μ',A,by unfold zah at e;unfold z8q;rw[e1]at e ⊢;exact e,k⟩
  |_=>unfold zah at e;rw[e1]at e;cases e
def zRr(p:yf)(j:Int):HO:=.ext λh=>∃t u v,IsRange h p 0 j 1 t u v
def zdn:zmh X (.type "range") (λxs H Q=>∃j:Int,xs=[.int j]/\∀p,H p=none->Q (.ref p) (upd H p (zRr p j))):=by
 intro pins s Y H xs us Q I r ⟨j,e,k⟩;subst e;obtain⟨u,rfl,ru⟩:=vals1 r;obtain⟨t,rfl⟩:=ru;refine call_range_1 ?_;refine⟨.ref s.heap.objs.size,_,I.laid (t':=s.toks+1+1) (λb o e=>yc _ e) (yi _) (show tJ X.prog X.w _ _ _ (zRr _ j) from⟨⟨_,_,_,IsRange.new _ _ _ _ _ _ _⟩,⟨_,yk _ rfl⟩,λh1 h2 ⟨t,u,v,x⟩ y=>⟨t,u,v,y _ x⟩⟩),rfl,k _ I.fresh⟩
def zJo{its:Array yb}{n:Nat}(h:ItemsOf (λi v=>∃t,v=.int (0+i*1) t) its n):Vals ((yh n).map λ(k:Nat)=>V.int k) its.toList:=by
 obtain⟨h1,h2⟩:=h
 have key:∀(l:List yb)(m:Nat),(∀i (hi:i<l.length),∃t,l[i]=.int ((m+i:Nat):Int) t)->Vals ((List.range' m l.length).map λ(k:Nat)=>V.int k) l:=by
  intro l
  induction l with
  |nil=>intro m _;exact .nil
  |cons x xs ih=>
   intro m h;obtain⟨t,e⟩:=h 0 (by simp);refine .cons ⟨t,by simpa using e⟩ (ih (m+1) λi hi=>?_);obtain⟨t,e⟩:=h (i+1) (by simpa using hi);exact⟨t,by rw[show m+1+i=m+(i+1) by omega];simpa using e⟩
 have:=key its.toList 0 λi hi=>?_
 ·rw[List.range_eq_range',<-h1];simpa using this
 ·have hi':i<its.size:=by simpa using hi
  obtain⟨t,e⟩:=h2 i its[i] (by simp[hi']);exact⟨t,by simpa using e⟩
def zPg(G:FE):FE:=λJ μ=>(G J μ).bind λp=>match p.1 with
 |.int j=>bif decide (-(2^62)<=j/\j<=1000000) then some (.loc p.2.length,p.2++[.lst ((yh j.toNat).map λ(k:Nat) =>.int k)]) else none
 |_=>none
def zqo(hc:X.calm=true):zmh X (.type "list") (λxs H Q=>∃p j,xs=[.ref p]/\H p=some (zRr p j)/\-(2^62)<=j/\j<=1000000/\∀l,H l=none->Q (.ref l) (upd H l (.lst ((yh j.toNat).map λ(k:Nat)=>V.int k)))):=by
 intro pins s Y H xs us Q I r ⟨p,j,e,hq,h1,h2,k⟩;subst e;obtain⟨u,rfl,ru⟩:=vals1 r;cases ru;obtain⟨⟨t,u,v,hr⟩,_,_⟩:=I.hok p _ hq;have hn:Builtin.Range.rangeSize 0 j 1=(j.toNat:Nat):=by rw[rangeSize_one];split<;>omega
 refine call_list_range (n:=j.toNat) (I.ok.hd hc) hr (small_one (by decide) (by decide) h1 (by omega)) hn (by omega) λh' tk acc' c' kp e hi=>?_;have hm:=Tb;have hv:=zJo hi;refine⟨.ref s.heap.objs.size,_,I.laid (t':=tk) kp (yi _) (show tJ X.prog X.w _ h' _ (.lst _) from⟨by simp;omega,acc'.toList,c',hv,by simpa using e⟩),rfl,k _ I.fresh⟩
def zKi(hm1:X.mg "list"=none)(hv1:yH "list"=some (.type "list"))(hm2:X.mg "range"=none)(h:ME X e G)(hc:X.calm=true:=by rfl)(hg1:Gl X "list":=by rfl)(hg2:Gl X "range":=by rfl)
 (he:yw [e] X.env=(false,Yq e X.env)::yw [] X.env:=by rfl) (he2:yw [.Call (.Name "range" p2) [e] [] pos2] X.env=(false,Yq (.Call (.Name "range" p2) [e] [] pos2) X.env)::yw [] X.env:=by rfl) :
 ME X (.Call (.Name "list" p1) [.Call (.Name "range" p2) [e] [] pos2] [] pos) (zPg G) :=
 zsd (zxf (zqo hc) hg1 hm1 hv1 (zbf (zxf zdn hg2 hm2 boot_range (zbf h zii he) (by decide) (by decide) he rfl) zii he2) (by decide) (by decide) he2 rfl) λZ J μ Y H d μ' Q A e k=>by
  obtain⟨⟨x,μ1⟩,e1,e⟩:=zl e;refine⟨Z,J,μ,x,μ1,A,e1,λZ1 H1 v x1 R1 r1=>?_⟩;dsimp only at e
  split at e
  ·rename_i j
   obtain⟨hb,e⟩:=zP e;have hb:=of_decide_eq_true hb;cases e;refine⟨j,by rw[r1.int_inv],λp1 hp1=>⟨p1,j,rfl,zC,hb.1,hb.2,λl hl=>?_⟩⟩;have R2:=R1.Tg (o:=zRr p1 j) hp1;refine k _ _ _ (x1.trans ((Ext.new hp1).trans (Ext.push hl))) (R2.push hl ⟨_,zC,?_⟩) (.loc (zrb R2));have hr:=λZ H=>@z5d X.K Z H ((yh j.toNat).map λ(k:Nat)=>(k:Int));simp only[map_map]at hr;exact hr _ _
  ·cases e
@[simp] def zfv:GL:=λds μ=>match ds with
 |[.loc n]=>match μ[n]? with
  |some (.lst xs)=>bif xs.all z4x then some (.bl (xs.any blB),μ) else none
  |_=>none
 |_=>none
def zMl(hc:X.calm=true):tU X (.builtin "any") zfv:=by
 refine tU.of λpins s Y H xs us Q I r Z ds μ d μ' r1 R e k=>?_;unfold zfv at e
 split at e
 ·split at e
  ·rename_i n _ ys hm
   obtain⟨hb,e⟩:=zP e;cases e;obtain⟨v,rr,rfl,q1,q2⟩:=r1.cons_inv;obtain⟨a,rfl,e2⟩:=q1.tx;obtain⟨vs,e3,q3⟩:=R.at_ _ _ _ e2 hm;rw[q2.nil_inv]at r;obtain⟨u,rfl,ru⟩:=vals1 r;cases ru;obtain⟨its,rv,pl,hz⟩:=I.list (SqL.of (K:=X.K) e3);have hlt:a<s.heap.objs.size:=by obtain⟨_,_,e,_⟩:=pl;exact ym e
   refine call_any_walk (xu pl.isList ?_);refine⟨_,_,_,_,_,_,λi=>blB (ys.getD i .non),rfl,Walks.list (A:=X.A.in1) (I.ok.hd hc) s.heap.objs.size a (yq hlt) its.toArray,⟨⟨_,yk _ rfl,rfl,rfl⟩,pl.isList.push _⟩,?_,λh' tk hk=>?_⟩
   ·intro i w s' Q' E' hP hQ;have hi:its[i]?=some w:=by simpa using hP
    have hil:i<ys.length:=by
     have h1:=(List.getElem?_eq_some_iff.mp hi).1;rw[q3.length,rv.length];exact h1
    have hyi:ys[i]?=some ys[i]:=by simp[hil]
    obtain⟨vv,ev,rvv⟩:=q3.get hyi;obtain⟨ww,ew,rww⟩:=rv.get ev;rw[hi]at ew;cases ew;have hall:=List.all_eq_true.mp hb ys[i] (getElem_mem hil)
    have hQ':Q' (blB ys[i]) s':=by
     have e:ys.getD i .non=ys[i]:=by rw[getD_eq_getElem?_getD,hyi];rfl
     rw[<-e];exact hQ
    cases hyb:ys[i] with
    |bl b=>
     rw[hyb]at rvv hQ';rw[rvv.tO]at rww;cases rww;exact xt hQ'
    |_=>rw[hyb]at hall;cases hall
   ·have hsz:its.toArray.size=ys.length:=by rw[q3.length,rv.length];simp
    have eall:((yh its.toArray.size).any λi=>blB (ys.getD i .non))=ys.any blB:=by
     rw[hsz,xS,any_eq_true,any_eq_true];constructor
     ·rintro⟨i,hi,h⟩;have hi':i<ys.length:=by simpa using hi
      rw[getD_eq_getElem?_getD,show ys[i]?=some ys[i] by simp[hi']]at h;exact⟨_,getElem_mem hi',h⟩
     ·rintro⟨y,hy,h⟩;obtain⟨i,hi,rfl⟩:=List.mem_iff_getElem.mp hy;refine⟨i,by simpa using hi,?_⟩;rw[getD_eq_getElem?_getD,show ys[i]?=some ys[i] by simp[hi]];exact h
    rw[eall];refine⟨.bl _,H,I.kept (h':=h') (t':=tk) λb o e=>hk b o (by simpa using yq (ym e)) (yc _ e),rfl,k Z H _ Ext.refl R .bl⟩
  ·cases e
 ·cases e
@[simp] def z8v:GL:=λds μ=>match ds with
 |[.int i]=>some (.int i,μ)
 |[.bl b]=>some (.int (if b then 1 else 0),μ)
 |_=>none
def zNq:tU X (.type "int") z8v:=by
 refine tU.of λpins s Y H xs us Q I r Z ds μ d μ' r1 R e k=>?_;unfold z8v at e
 split at e
 ·cases e;obtain⟨v,rr,rfl,q1,q2⟩:=r1.cons_inv;exact zjm pins s Y H _ us Q I r (.inl ⟨_,by rw[q1.int_inv,q2.nil_inv],k Z H _ Ext.refl R .int⟩)
 ·cases e;obtain⟨v,rr,rfl,q1,q2⟩:=r1.cons_inv;exact zjm pins s Y H _ us Q I r (.inr ⟨_,by rw[q1.tO,q2.nil_inv],k Z H _ Ext.refl R .int⟩)
 ·cases e
@[simp] def zos:GL:=λds μ=>match ds with
 |[.int i,.int j]=>some (.int (if j<i then j else i),μ)
 |_=>none
@[simp] def z1w:GL:=λds μ=>match ds with
 |[.int i,.int j]=>some (.int (if j>i then j else i),μ)
 |_=>none
def zCo(hc:X.calm=true):tU X (.builtin "min") zos:=by
 refine tU.of λpins s Y H xs us Q I r Z ds μ d μ' r1 R e k=>?_;unfold zos at e
 split at e
 ·cases e;obtain⟨v,rr,rfl,q1,q2⟩:=r1.cons_inv;obtain⟨v2,rr2,rfl,q3,q4⟩:=q2.cons_inv;exact zOq hc pins s Y H _ us Q I r ⟨_,_,by rw[q1.int_inv,q3.int_inv,q4.nil_inv],k Z H _ Ext.refl R .int⟩
 ·cases e
@[simp] def fIf(c:FT)(G ψ:FE):FE:=λJ μ=>(c J μ).bind λp=>bif p.1 then G J p.2 else ψ J p.2
def nextT{it t:yf}{i:Nat}{items:Array yb}{x:yb}{Q:yb->yd->Prop}(hit:s.heap.IsTupleIter it t i)(ht:s.heap.IsTuple t items)(hx:items[i]?=some x)
 (hQ:∀h',h'.IsTupleIter it t (i+1)->yI it s.heap h'->Q x {s with heap:=h' }):yp (yz prog w) A (yK (.ref it)) Q E s:=by
 obtain⟨ob,hob,hcl,hfs⟩:=id hit;obtain⟨ot,hot,_,m,hits⟩:=ht;unfold yK;refine ya (yQ (name:=YA "__next__") hit.typeIs xl (yM xl hit.typeIs F.entry_tuple_iterator_next ?_ (F.args_tuple_iterator_next_1 _)));show yp _ _ (field (.ref it) 0 >>= _) _ _ s;refine ya (Yd hob hfs (x:=.ref t) rfl ?_);show yp _ _ (if(xj t==YT)=true then _ else field (.ref it) 1 >>= _) _ _ s;rw[if_neg (show ¬(xj t==YT)=true from yv)];refine ya (Yd hob hfs (x:=.int i 0) rfl ?_);show yp _ _ (seqItems? (.ref t) >>= _) _ _ s;refine ya (YF hot hits ?_);simp only[yX,hx];refine ya (xF hob hfs (by simp) (ye ⟨x,rfl,ye (hQ _ ?_ (Yw ..))⟩));refine⟨_,Yc _ hob (xm (Yt hfs _)),(Obj.cls_mapFields ..).trans hcl,?_⟩;rw[Yt hfs];simp[YD]
def zSl{it t:yf}{i:Nat}{items:Array yb}{Q:yb->yd->Prop}(hh:A.handled=none)(hit:s.heap.IsTupleIter it t i)(ht:s.heap.IsTuple t items)(hx:items[i]?=none)
 (hE:∀h' e,xi it s.heap h'->(∃o,h'.get? e=some o/\o.cls=.type "StopIteration")->E (.ref e) {s with heap:=h' }):yp (yz prog w) A (yK (.ref it)) Q E s:=by
 obtain⟨ob,hob,hcl,hfs⟩:=id hit;obtain⟨ot,hot,_,m,hits⟩:=ht;unfold yK;refine ya (yQ (name:=YA "__next__") hit.typeIs xl (yM xl hit.typeIs F.entry_tuple_iterator_next ?_ (F.args_tuple_iterator_next_1 _)));show yp _ _ (field (.ref it) 0 >>= _) _ _ s;refine ya (Yd hob hfs (x:=.ref t) rfl ?_);show yp _ _ (if(xj t==YT)=true then _ else field (.ref it) 1 >>= _) _ _ s;rw[if_neg (show ¬(xj t==YT)=true from yv)];refine ya (Yd hob hfs (x:=.int i 0) rfl ?_);show yp _ _ (seqItems? (.ref t) >>= _) _ _ s;refine ya (YF hot hits ?_);simp only[yX,hx];refine ya (wpAny_rule (ya (xF hob hfs (by simp) ?_)));show yp _ _ (newExc (.type "StopIteration") [] >>= _) _ _ _;refine ya ?_;simp only[newExc,newTuple];refine ya (yS ?_ (by size_fits));refine ya (m:=firstArgMember _ _) (wpAny_of_eq (a:=YT) (by first|rfl|(simp only[firstArgMember];rfl)) ?_);refine yS ?_ (by size_fits);simp only[raiseNew];refine ya (wpAny_handled ?_)
 first|rw[show A.in1.handled=none from hh]|rw[hh]
 exact ya (ye (wpAny_throw (hE _ _ (((Yw ..).extBut.push _).push _) ⟨_,yk _ rfl,rfl⟩)))
def zWl{e it:yf}{i:Int}{x old:yb}{N:yW->Prop}{Q:Option yb->yd->Prop}(he:IsEnum s.heap e it i old)(hne:e≠it)
 (nx:∀(A':yR)(Q':yb->yd->Prop)(E':yb->yd->Prop),(∀h1,N h1->yI it s.heap h1->Q' x {s with heap:=h1 })->yp (yz prog w) A' (yK (.ref it)) Q' E' s)
 (hN:∀h h',N h->(∀o,h.get? it=some o->h'.get? it=some o)->N h')
 (hQ:∀h',IsEnumOut h' e it (i+1) x s.heap.objs.size->N h'->h'.get? s.heap.objs.size=some {cls:=.type "tuple",data:=.seq #[.int i s.toks,x]}->h'.objs.size=s.heap.objs.size+1 ->
  (∀b o,b≠e->b≠it->s.heap.get? b=some o->h'.get? b=some o)->Q (some (.ref s.heap.objs.size)) {s with heap:=h',toks:=s.toks+1 }):yp (yz prog w) A (xo (.ref e)) Q E s:=by
 obtain⟨hp,g,d,tk,os⟩:=s;have hT:Shared.TypeIs ⟨hp,g,d,tk,os⟩ (.ref e) "enumerate":=⟨_,he,rfl⟩
 unfold xo;refine ya (xz (yQ (name:=YA "__next__") hT xZ (yM xZ hT F.entry_enumerate_next ?_ (F.args_enumerate_next_1 _))));show yp _ _ (field (.ref e) 2 >>= _) _ _ _;refine ya (Yd he rfl (x:=.ref it) rfl (ya (nx _ _ _ λh1 n1 sb1=>?_)));replace sb1:yI it hp h1:=sb1;have e1:IsEnum h1 e it i old:=(sb1.2 e hne).trans he;show yp _ _ (field (.ref e) 3 >>= _) _ _ ⟨h1,g,d,tk,os⟩;refine ya (Yd e1 rfl (x:=YD i) rfl ?_);show yp _ _ (field (.ref e) 4 >>= _) _ _ ⟨h1,g,d,tk,os⟩;refine ya (Yd e1 rfl (x:=.none) rfl ?_);show yp _ _ (mkInt i >>= _) _ _ ⟨h1,g,d,tk,os⟩;refine ya (wpAny_mkInt ?_);show yp _ _ (setField (.ref e) 3 (YD (i+1)) >>= _) _ _ ⟨h1,g,d,tk+1,os⟩;refine ya (Yi e1 (by simp) λh2 e2 sb2=>?_);replace sb2:yI e h1 h2:=sb2;replace e2:IsEnum h2 e it (i+1) old:=e2;show yp _ _ (setField (.ref e) 4 .none >>= _) _ _ ⟨h2,g,d,tk+1,os⟩;refine ya (Yi e2 (by simp) λh3 e3 sb3=>?_);replace sb3:yI e h2 h3:=sb3;replace e3:IsEnum h3 e it (i+1) old:=e3;show yp _ _ (newTuple [.int i tk,x] >>= _) _ _ ⟨h3,g,d,tk+1,os⟩;refine ya (wpAny_newTuple ?_);have z3:h3.objs.size=hp.objs.size:=by rw[sb3.1,sb2.1,sb1.1]
 have el:e<hp.objs.size:=ym he;have ne4:hp.objs.size≠e:=yV el;obtain⟨h4,hh4⟩:∃h4,h4=h3.push {cls:=.type "tuple",data:=.seq #[.int i tk,x]}:=⟨_,rfl⟩
 have e4:IsEnum h4 e it (i+1) old:=by rw[hh4];exact yc _ e3
 have t4:h4.get? hp.objs.size=some {cls:=.type "tuple",data:=.seq #[.int i tk,x]}:=by rw[hh4,<-z3];exact yk _ rfl
 have z4:h4.objs.size=hp.objs.size+1:=by rw[hh4,yZ,z3]
 have up:∀b o,b≠e->h1.get? b=some o->h4.get? b=some o:=λb o hb q=>by
  rw[hh4];exact yc _ ((sb3.2 b hb).trans ((sb2.2 b hb).trans q))
 show yp _ _ (Yb (.ref e) >>= _) _ _ ⟨h3.push {cls:=.type "tuple",data:=.seq #[.int i tk,x]},g,d,tk+1,os⟩;rw[<-hh4,z3];refine ya ?_;unfold Yb;refine ya (Yd e4 rfl (x:=.none) rfl (ye ?_));simp only[if_true];refine ya (wpAny_rule (ya (Yd e4 rfl (x:=old) rfl (ya (Yi e4 (by simp) λh5 e5 sb5=>?_)))));replace sb5:yI e h4 h5:=sb5;replace e5:IsEnum h5 e it (i+1) x:=e5;show yp _ _ (YC (.ref e) (.ref hp.objs.size) >>= _) _ _ ⟨h5,g,d,tk+1,os⟩;refine ya ?_;unfold YC;refine ya (Yi e5 (by simp) λh6 e6 sb6=>?_);replace sb6:yI e h5 h6:=sb6;replace e6:IsEnumOut h6 e it (i+1) x hp.objs.size:=e6;refine Yi e6 (by simp) λh7 e7 sb7=>?_;replace sb7:yI e h6 h7:=sb7;replace e7:IsEnumOut h7 e it (i+1) x hp.objs.size:=e7;have up7:∀b o,b≠e->h4.get? b=some o->h7.get? b=some o:=λb o hb q=>(sb7.2 b hb).trans ((sb6.2 b hb).trans ((sb5.2 b hb).trans q));refine ya (wpAny_letGo (ye ⟨_,rfl,ye (hQ h7 e7 (hN _ _ n1 λo q=>up7 _ _ (yE hne) (up _ _ (yE hne) q)) (up7 _ _ ne4 t4) ?_ λb o h1 h2 q=>up7 _ _ h1 (up _ _ h1 ((sb1.2 b h2).trans q)))⟩));show h7.objs.size=hp.objs.size+1;rw[sb7.1,sb6.1,sb5.1,z4]
def z7n{e it:yf}{i:Int}{old:yb}{Q:Option yb->yd->Prop}(he:IsEnum s.heap e it i old)
 (nx:∀(A':yR)(Q':yb->yd->Prop)(E':yb->yd->Prop),A'.handled=A.handled->(∀h' x,xi it s.heap h'->(∃o,h'.get? x=some o/\o.cls=.type "StopIteration")->E' (.ref x) {s with heap:=h' })->yp (yz prog w) A' (yK (.ref it)) Q' E' s)
 (hQ:∀h',xi it s.heap h'->Q none {s with heap:=h' }):yp (yz prog w) A (xo (.ref e)) Q E s:=by
 have hT:s.TypeIs (.ref e) "enumerate":=⟨_,he,rfl⟩
 unfold xo;refine ya (xz (yQ (name:=YA "__next__") hT xZ (yM xZ hT F.entry_enumerate_next ?_ (F.args_enumerate_next_1 _))));show yp _ _ (field (.ref e) 2 >>= _) _ _ _;refine ya (Yd he rfl (x:=.ref it) rfl (ya (nx _ _ _ rfl λh' x eb ⟨o,ho,hc⟩=>?_)));exact ya (xG (T:="StopIteration") (b:=true) ⟨o,ho,hc⟩ isSubtype_stop (ye (hQ _ eb)))
variable {pins:List (yf×YY)}{Y:L2.St}{H:Hp}
def zfk{fp:List yf}(hf:∀b∈fp,zum X pins H b){b:yf}{u:HO}(e:H b=some u):b∉fp:=λz=>by rw[(hf b z).1]at e;cases e
def z5v{fp:List yf}(hf:∀b∈fp,zum X pins H b):∀b∈fp,(b∈X.ex\/X.s₀.heap.objs.size<=b)/\b≠X.env.locals/\(∀x c,X.env.cells.lookup x=some c->c≠b)/\∀p∈X.pn++pins,p.1≠b:=λb hb=>by
 obtain⟨_,f1,_,f3,f4,f5⟩:=hf b hb;exact⟨f3,f1,f4,f5⟩
def zMg{fp:List yf}{h':yW}{t':Nat}(I:Inv X pins Y H s)(hf:∀b∈fp,zum X pins H b)(k:∀b o,b∉fp->s.heap.get? b=some o->h'.get? b=some o):Inv X pins Y H {s with heap:=h',toks:=t' }:=by
 refine I.call (g':=s.gens) (t':=t') (d':=s.drawn) (ch:=fp) ⟨λb o e _ _ hx=>k b o hx e,λb o e _ _ hx=>⟨o.slots,k b o hx e⟩,λ_ _ _ n _=>n,λb o e hx=>⟨o,k b o hx e⟩,λ_ _ e=>e,λ_ _ _ e=>e,λ_ ps e=>⟨#[],by rw[e];simp⟩⟩ (λa o e=>?_) I.bare (z5v hf);refine(I.hok a o e).stay (λb u hb q=>k b u ?_ q) (λ_ q=>q) λ_ _ q=>q;rcases hb with rfl|hb
 ·exact zfk hf e
 ·exact zfk hf hb
def zsc{fp:List yf}{h':yW}{t':Nat}{p:yf}{o:HO}(I:Inv X pins Y H s)(hf:∀b∈fp,zum X pins H b)(k:∀b o,b∉fp->s.heap.get? b=some o->h'.get? b=some o)(hp:s.heap.objs.size<=p)
 (new:tJ X.prog X.w (upd H p o) h' p o):Inv X pins Y (upd H p o) {s with heap:=h',toks:=t' }:=by
 have hn:=I.hok.fresh hp;have hlt:∀b ob,s.heap.get? b=some ob->b≠p:=λb ob e=>yq (yA (ym e) hp)
 refine I.call (g':=s.gens) (t':=t') (d':=s.drawn) (ch:=fp) ⟨λb o e _ _ hx=>k b o hx e,λb o e _ _ hx=>⟨o.slots,k b o hx e⟩,λb ob e n _=>by rw[zU (hlt b ob e)];exact n,λb o e hx=>⟨o,k b o hx e⟩,
  λ_ _ e=>by rw[zU (zM e hn)];exact e,λ_ _ _ e=>by rw[zU (zM e hn)];exact e,λ_ ps e=>⟨#[],by rw[zU (zM e hn),e];simp⟩⟩ (λa u e=>?_) I.bare (z5v hf)
 by_cases ha:a=p
 ·subst ha;rw[zC]at e;cases e;exact new
 ·rw[zU ha]at e;refine(I.hok a u e).stay (λb u hb q=>k b u ?_ q) (λb q=>by rw[zU (zM q hn)];exact q) λb xs q=>by rw[zU (zM q hn)];exact q
  rcases hb with rfl|hb
  ·exact zfk hf e
  ·exact zfk hf hb
def Ien(δ:It):It:=⟨δ.go,λi H x H'=>∃p y,x=.ref p/\H p=none/\H'=upd H p (.tup [.int i,y])/\δ.yld i H y H,δ.stop⟩
def zTm{P:yy}{w:yL}{H:Hp}{h:yW}{p:yf}{x y:V}{u v:yb}(e:h.get? p=some {cls:=.type "tuple",data:=.seq #[u,v]})(rx:RelV x u)(ry:RelV y v):tJ P w H h p (.tup [x,y]) :=
 ⟨by rw[YN];simp,[u,v],.cons rx (.cons ry .nil),⟨_,e,rfl,_,rfl⟩⟩
def zRo{P:yy}{w:yL}{K:yx}{elts:List yC}{x1}{pos:xU}(a e it:yf)(hne:e≠it):Turn P w K (.Tuple elts x1 pos) (Ien (Itl K a)) [e,it] e (λi h=>(∃old,IsEnum h e it i old)/\h.IsListIter it a i) where
 mem:=by simp
 obj:=λi h ⟨⟨old,he⟩,st⟩ b hb=>by
  have hb:b=e\/b=it:=by simpa using hb
  rcases hb with rfl|rfl
  ·exact⟨_,he,λv z=>by have z':Data.fields _=Data.cell v:=z;cases z'⟩
  ·obtain⟨o,q,c,d⟩:=st;exact⟨o,q,λv z=>by rw[d]at z;cases z⟩
 keep:=λi h h' ⟨⟨old,he⟩,st⟩ k=>⟨⟨old,k e (by simp) _ he⟩,st.at λo q=>k it (by simp) o q⟩
 item:=by
  intro X hP hw hK hc i pins s Y H E I hf ⟨⟨old,he⟩,st⟩ hg;subst hP hw hK;obtain⟨xs,x,hq,hx⟩:=hg;obtain⟨its,rv,p,hz⟩:=I.list hq;obtain⟨u,hu,ru⟩:=rv.get hx;refine zWl (N:=λh=>h.IsListIter it a (i+1)) he hne (λA' Q' E' hQ=>wpAny_nextOf_list_item st p.isList (x:=u) (by simpa using hu) λh' st' sb=>hQ h' st' sb) (λh h' n k=>n.at λo q=>k o q) λh' eo n' t' z' kk=>?_;refine⟨_,rfl,wpAny_letOwnedTupleGo_enum eo λh2 e2 sb2=>?_⟩;replace sb2:yI e h' h2:=sb2;have hlt:e<s.heap.objs.size:=ym he;have t2:=(sb2.2 s.heap.objs.size (yV hlt)).trans t';have hfr:=I.hok.fresh (yi s.heap.objs.size)
  have I2:Inv X pins Y (upd H s.heap.objs.size (.tup [.int i,x])) {s with heap:=h2,toks:=s.toks+1 }:=by
   refine zsc I hf (λb o hb q=>?_) (yi _) (zTm t2 ⟨_,rfl⟩ ru);simp only[mem_cons,not_mem_nil,or_false,not_or]at hb;exact(sb2.2 b hb.1).trans (kk b o hb.1 hb.2 q)
  refine⟨.ref s.heap.objs.size,_,I2,rfl,⟨_,x,rfl,hfr,rfl,rfl,λys hy=>by rw[I.TN hy hq];exact hx⟩,⟨⟨u,by simpa using e2⟩,n'.at λo q=>(sb2.2 it (yE hne)).trans q⟩,λb hb=>?_⟩
  ·rw[zU]
   ·exact(hf b hb).1
   ·rintro rfl;have hb:s.heap.objs.size=e\/s.heap.objs.size=it:=by simpa using hb
    rcases hb with q|q
    ·exact absurd hlt (by rw[q];exact Ye _)
    ·obtain⟨o,qo,_⟩:=st;exact absurd (ym qo) (by rw[q];exact Ye _)
 done:=by
  intro X hP hw hK hc i pins s Y H E I hf ⟨⟨old,he⟩,st⟩ hg;subst hP hw hK;obtain⟨xs,hq,hx⟩:=hg;obtain⟨its,rv,p,hz⟩:=I.list hq;have hl:=rv.length;refine z7n he (λA' Q' E' hA hE=>wpAny_nextOf_list_end (hA.trans (I.ok.hd hc)) st p.isList (by simp;omega) hE) λh' eb=>⟨rfl,zMg (t':=s.toks) I hf λb o hb q=>eb b o (λz=>hb (by simp[z])) q⟩
 self:=λ_ _ _ _ _ ⟨⟨old,he⟩,_⟩ h=>wpAny_pyIter_enum he h
def zZo{P:yy}{w:yL}{K:yx}{elts:List yC}{x1}{pos:xU}(a e it:yf)(hne:e≠it):Turn P w K (.Tuple elts x1 pos) (Ien (Itt K a)) [e,it] e (λi h=>(∃old,IsEnum h e it i old)/\h.IsTupleIter it a i) where
 mem:=by simp
 obj:=λi h ⟨⟨old,he⟩,st⟩ b hb=>by
  have hb:b=e\/b=it:=by simpa using hb
  rcases hb with rfl|rfl
  ·exact⟨_,he,λv z=>by have z':Data.fields _=Data.cell v:=z;cases z'⟩
  ·obtain⟨o,q,c,d⟩:=st;exact⟨o,q,λv z=>by rw[d]at z;cases z⟩
 keep:=λi h h' ⟨⟨old,he⟩,st⟩ k=>⟨⟨old,k e (by simp) _ he⟩,st.at λo q=>k it (by simp) o q⟩
 item:=by
  intro X hP hw hK hc i pins s Y H E I hf ⟨⟨old,he⟩,st⟩ hg;subst hP hw hK;obtain⟨xs,x,hq,hx⟩:=hg;obtain⟨its,rv,p,hz⟩:=I.tuple hq;obtain⟨u,hu,ru⟩:=rv.get hx;refine zWl (N:=λh=>h.IsTupleIter it a (i+1)) he hne (λA' Q' E' hQ=>nextT st (show s.heap.IsTuple a its.toArray from p) (x:=u) (by simpa using hu) λh' st' sb=>hQ h' st' sb) (λh h' n k=>n.at λo q=>k o q) λh' eo n' t' z' kk=>?_;refine⟨_,rfl,wpAny_letOwnedTupleGo_enum eo λh2 e2 sb2=>?_⟩;replace sb2:yI e h' h2:=sb2;have hlt:e<s.heap.objs.size:=ym he;have t2:=(sb2.2 s.heap.objs.size (yV hlt)).trans t';have hfr:=I.hok.fresh (yi s.heap.objs.size)
  have I2:Inv X pins Y (upd H s.heap.objs.size (.tup [.int i,x])) {s with heap:=h2,toks:=s.toks+1 }:=by
   refine zsc I hf (λb o hb q=>?_) (yi _) (zTm t2 ⟨_,rfl⟩ ru);simp only[mem_cons,not_mem_nil,or_false,not_or]at hb;exact(sb2.2 b hb.1).trans (kk b o hb.1 hb.2 q)
  refine⟨.ref s.heap.objs.size,_,I2,rfl,⟨_,x,rfl,hfr,rfl,rfl,λys hy=>by rw[I.TH hy hq];exact hx⟩,⟨⟨u,by simpa using e2⟩,n'.at λo q=>(sb2.2 it (yE hne)).trans q⟩,λb hb=>?_⟩
  ·rw[zU]
   ·exact(hf b hb).1
   ·rintro rfl;have hb:s.heap.objs.size=e\/s.heap.objs.size=it:=by simpa using hb
    rcases hb with q|q
    ·exact absurd hlt (by rw[q];exact Ye _)
    ·obtain⟨o,qo,_⟩:=st;exact absurd (ym qo) (by rw[q];exact Ye _)
 done:=by
  intro X hP hw hK hc i pins s Y H E I hf ⟨⟨old,he⟩,st⟩ hg;subst hP hw hK;obtain⟨xs,hq,hx⟩:=hg;obtain⟨its,rv,p,hz⟩:=I.tuple hq;have hl:=rv.length;refine z7n he (λA' Q' E' hA hE=>zSl (hA.trans (I.ok.hd hc)) st (show s.heap.IsTuple a its.toArray from p) (by simp;omega) hE) λh' eb=>⟨rfl,zMg (t':=s.toks) I hf λb o hb q=>eb b o (λz=>hb (by simp[z])) q⟩
 self:=λ_ _ _ _ _ ⟨⟨old,he⟩,_⟩ h=>wpAny_pyIter_enum he h
def zrp(l:yf)(items:Array yb)(n:Nat)(dct:Option yf)(sl:Array (Option yb)) :
 Meets (xw.«enumerate.__new__» ⟨[.type "enumerate",.ref l],[]⟩) (λ_ R s=>s.heap.get? l=some {cls:=.type "tuple",dict:=dct,data:=.seq items n,slots:=sl } /\
  R (.ok (.ret (.ref (s.heap.push {cls:=.type "tuple_iterator",data:=.fields #[.ref l,.int 0 0]}).objs.size)))
   {s with heap:=(s.heap.push {cls:=.type "tuple_iterator",data:=.fields #[.ref l,.int 0 0]}).push {cls:=.type "enumerate",data:=.fields #[.none,.bool false,.ref s.heap.objs.size,YD 0,.none,.none]}}) :=
 .of_wp λprog w A R s h=>by
  obtain⟨hp,g,d,tk,os⟩:=s;obtain⟨hl,h⟩:=h;have hsub:=sub_enumerate;have hL:Heap.IsTuple (Shared.heap ⟨hp,g,d,tk,os⟩) l items:=⟨_,hl,rfl,n,rfl⟩
  wp_walk using xB hl
  refine wpAny_stack_any λst=>ye ?_
  split
  ·rename_i c _ _ _ _ _
   cases (c==YJ "enumerate")
   ·wp_walk using xB hl,xJ hL
    exact⟨_,rfl,h⟩
   ·wp_walk using xB hl,xJ hL
    exact⟨_,rfl,h⟩
  ·wp_walk using xB hl,xJ hL
   exact⟨_,rfl,h⟩
def zYo{prog:yy}{w:yL}{A:yR}{E:yb->yd->Prop}{l:yf}{items:Array yb}{Q:yb->yd->Prop}(hL:s.heap.IsTuple l items)
 (h:∀h',IsEnum h' (s.heap.objs.size+1) s.heap.objs.size 0 .none->h'.IsTupleIter s.heap.objs.size l 0->h'.objs.size=s.heap.objs.size+2 ->
  (∀b o,s.heap.get? b=some o->h'.get? b=some o)->Q (.ref (s.heap.objs.size+1)) {s with heap:=h' }):yp (yz prog w) A (call (.type "enumerate") [.ref l]) Q E s:=by
 obtain⟨⟨c,dct,dt,sl⟩,hl,hc,n,hd⟩:=hL;replace hc:c=.type "tuple":=hc;replace hd:dt=.seq items n:=hd;subst hc hd;refine callType_new F.called_enumerate (by decide) (F.typeCall_enumerate_1 _) (F.newCall_enumerate_1 _) (λobj=>F.args_object_init_2 obj _) F.entry_enumerate_new (zrp l items n dct sl) ⟨hl,?_⟩;have hz:(s.heap.push {cls:=.type "tuple_iterator",data:=.fields #[.ref l,.int 0 0]}).objs.size=s.heap.objs.size+1:=yZ ..
 have he:IsEnum ((s.heap.push {cls:=.type "tuple_iterator",data:=.fields #[.ref l,.int 0 0]}).push {cls:=.type "enumerate",data:=.fields #[.none,.bool false,.ref s.heap.objs.size,YD 0,.none,.none]}) (s.heap.objs.size+1) s.heap.objs.size 0 .none:=by
  have:=yk (s.heap.push {cls:=.type "tuple_iterator",data:=.fields #[.ref l,.int 0 0]}) (o:={cls:=.type "enumerate",data:=.fields #[.none,.bool false,.ref s.heap.objs.size,YD 0,.none,.none]}) rfl;rw[hz]at this;exact this
 show _/\_;rw[hz];exact⟨⟨_,he,rfl⟩,h _ he ⟨_,yc _ (yk _ rfl),rfl,rfl⟩ (by rw[yZ,hz]) λb o x=>yc _ (yc _ x)⟩
def zMx(K:yx)(tl:TE):TI:=λY H R=>tl Y H λx H1=>∃a,x=.ref a/\((∃xs,SqL K H1 a xs)/\R (Ien (Itl K a)) H1\/(∃xs,SqT K H1 a xs)/\R (Ien (Itt K a)) H1)
def zIt{l:yC}{tl:TE}{elts:List yC}{x1}{tp p pos:xU}(hg:Gl X "enumerate")(hm:X.mg "enumerate"=none)(hv:yH "enumerate"=some (.type "enumerate"))(hl:PE X l tl)(hs:yw [l] X.env=[(false,Yq l X.env)]:=by rfl) :
 PI X (.Tuple elts x1 tp) (.Call (.Name "enumerate" p) [l] [] pos) (zMx X.K tl):=by
 intro pins s Y H R I h
 refine Call_ (zvi I hg hm hv (Yy (thn (zbf hl zii hs pos pins s Y H (λvs H1=>match vs with
  |[x]=>∃a,x=.ref a/\((∃xs,SqL X.K H1 a xs)/\R (Ien (Itl X.K a)) H1\/(∃xs,SqT X.K H1 a xs)/\R (Ien (Itt X.K a)) H1)
  |_=>False) I h) λus s1 ⟨vs,H1,I1,r1,q1⟩=>?_) hs rfl))
 dsimp only at q1
 split at q1
 case h_2=>exact q1.elim
 obtain⟨a,e,q⟩:=q1;subst e
 cases r1 with
 |cons r rr=>
  cases rr;cases r
  have fin:∀h':yW,(∀b o,s1.heap.get? b=some o->h'.get? b=some o)->∀b∈[s1.heap.objs.size+1,s1.heap.objs.size],zum X pins H1 b:=λh' kp b hb=>by
   have hb:b=s1.heap.objs.size+1\/b=s1.heap.objs.size:=by simpa using hb
   rcases hb with rfl|rfl
   ·exact I1.sE (Nat.le_succ _) (I1.hok.fresh (Nat.le_succ _))
   ·exact I1.sE (yi _) (I1.hok.fresh (yi _))
  have hne:s1.heap.objs.size+1≠s1.heap.objs.size:=Nat.succ_ne_self _;rcases q with ⟨⟨xs,hq⟩,q⟩|⟨⟨xs,hq⟩,q⟩
  ·obtain⟨its,rv,pl,hz⟩:=I1.list hq;refine call_enumerate_list pl.isList λh' e1 i1 z1 kp=>?_;refine wpAny_pyIter_enum (s:={s1 with heap:=h' }) e1 ?_;exact⟨_,[s1.heap.objs.size+1,s1.heap.objs.size],_,_,H1,rfl,I1.kept (t':=s1.toks) kp,zRo a _ _ hne,⟨⟨_,e1⟩,i1⟩,fin h' kp,q⟩
  ·obtain⟨its,rv,pl,hz⟩:=I1.tuple hq;refine zYo (show s1.heap.IsTuple a its.toArray from pl) λh' e1 i1 z1 kp=>?_;refine wpAny_pyIter_enum (s:={s1 with heap:=h' }) e1 ?_;exact⟨_,[s1.heap.objs.size+1,s1.heap.objs.size],_,_,H1,rfl,I1.kept (t':=s1.toks) kp,zZo a _ _ hne,⟨⟨_,e1⟩,i1⟩,fin h' kp,q⟩
def zFf(ds:List D):List D:=ds.zipIdx.map λp =>.tup [.int (p.2:Nat),p.1]
def zuc(ds:List D):(zFf ds).length=ds.length:=by simp[zFf]
def zgk{ds:List D}{i:Nat}{d:D}(h:(zFf ds)[i]?=some d):∃y,ds[i]?=some y/\d=.tup [.int i,y]:=by
 unfold zFf at h;rw[yj,List.getElem?_zipIdx]at h
 cases e:ds[i]? with
 |none=>rw[e]at h;cases h
 |some y=>
  rw[e]at h;refine⟨y,rfl,?_⟩;have:=yY h;rw[<-this];simp
@[simp] def zcj(G:FE):FI:=λJ μ=>(G J μ).bind λp=>match p.1 with
 |.tup ds=>some (zFf ds,yes,p.2)
 |.fz ds=>some (zFf ds,yes,p.2)
 |.loc n=>match p.2[n]? with
  |some (.lst ds)=>some (zFf ds,z1i n ds,p.2)
  |_=>none
 |_=>none
def zDm{K:yx}{δ:It}{Z:List yf}{H:Hp}{ds:List D}{ok:Mem->Bool}(h:TV K δ Z H ds ok):TV K (Ien δ) Z H (zFf ds) ok:=by
 refine⟨λZ' H' μ' i x R o hi=>h.go Z' H' μ' i x R o (by rw[zuc]at hi;exact hi),λZ' H' μ' i x H'' d x' R o e ⟨p,y,e1,hp,e2,yl⟩=>?_,λZ' H' μ' x R o=>by rw[zuc];exact h.stop Z' H' μ' x R o⟩;obtain⟨z,ez,rfl⟩:=zgk e;obtain⟨_,_,rz⟩:=h.yld Z' H' μ' i y H' z x' R o ez yl;subst e1 e2;exact⟨Ext.new hp,R.Tg hp,.tup zC (.cons .int (.cons (rz.ext (Ext.new hp)) .nil))⟩
def zme{a:yC}{G:FE}{elts:List yC}{x1}{tp p pos:xU}(hm:X.mg "enumerate"=none)(hv:yH "enumerate"=some (.type "enumerate"))(h:ME X a G)(hg:Gl X "enumerate":=by rfl)(hs:yw [a] X.env=[(false,Yq a X.env)]:=by rfl) :
 MI X (.Tuple elts x1 tp) (.Call (.Name "enumerate" p) [a] [] pos) (zcj G) :=
 zFo (zIt hg hm hv h hs) λZ J μ Y H ds ok μ' R A e k=>by
  obtain⟨⟨x,μ1⟩,e1,e⟩:=zl e;refine⟨Z,J,μ,x,μ1,A,e1,λZ1 H1 v1 x1 R1 r1=>?_⟩;dsimp only at e
  split at e
  ·cases e;obtain⟨a,vs,rfl,e2,q2⟩:=r1.tT;exact⟨a,rfl,.inr ⟨⟨vs,SqT.of e2⟩,k Z1 H1 _ x1 R1 (zDm (zsp e2 q2))⟩⟩
  ·cases e;obtain⟨a,vs,rfl,e2,q2⟩:=r1.TJ;exact⟨a,rfl,.inl ⟨⟨vs,e2.sq⟩,k Z1 H1 _ x1 R1 (zDm (zUj λZ' H' μ' x _ _=>⟨vs,(x.fz e2).sq,q2.ext x⟩))⟩⟩
  ·split at e
   ·rename_i hm
    cases e;obtain⟨a,rfl,e2⟩:=r1.tx;obtain⟨vs,e3,q3⟩:=R1.at_ _ _ _ e2 hm;refine⟨a,rfl,.inl ⟨⟨vs,SqL.of e3⟩,k Z1 H1 _ x1 R1 (zDm (zUj λZ' H' μ'' x R' o=>?_))⟩⟩;obtain⟨vs',e4,q4⟩:=R'.at_ _ _ _ (x.get e2) (Tt.mp o);exact⟨vs',SqL.of e4,q4⟩
   ·cases e
  ·cases e
@[simp] def zZn(g:GM)(G:FE):FE:=λJ μ=>(G J μ).bind λp=>match p.1 with
 |.loc n=>match p.2[n]? with
  |some (.lst _)=>g (.loc n) [] p.2
  |_=>none
 |_=>none
def zVr{o:yC}{name:yG}{id:String}{g:GM}{apos:xU}(slot:Slot "list" name id)(hty:typeOf (.builtin id)=pure (.type "method_descriptor"))(hm:MtG X id g)(ho:ME X o G)
 (hbase:xh o name X.env (Yq o X.env)=Yq o X.env:=by rfl) (hline:(apos.endLine==pos.line)=true:=by rfl):ME X (.Call (.Attribute o name apos) [] [] pos) (zZn g G) :=
 zsd (zYv PySem.F.plainAttrs_list slot hty hm ho hbase hline) λZ J μ Y H d μ' Q A e k=>by
  obtain⟨⟨x,μ1⟩,e1,e⟩:=zl e;refine⟨Z,J,μ,x,μ1,A,e1,λZ1 H1 v x1 R1 r1=>?_⟩;dsimp only at e
  split at e
  ·split at e
   ·rename_i hm'
    obtain⟨a,rfl,ea⟩:=r1.tx;obtain⟨vs,e3,q3⟩:=R1.at_ _ _ _ ea hm';exact⟨.inl ⟨rfl,vs,SqL.of e3⟩,Z1,_,[],μ1,d,μ',r1,.nil,R1,e,λZ3 H3 v3 x3 R3 r3=>k Z3 H3 v3 (x1.trans x3) R3 r3⟩
   ·cases e
  ·cases e
@[simp] def zlw:GM:=λx ds μ=>match x,ds with
 |.loc n,[]=>match μ[n]? with
  |some (.lst xs)=>(xs[xs.length-1]?).bind λd=>some (d,μ.set n (.lst xs.dropLast))
  |_=>none
 |_,_=>none
def zGl{K:yx}{Z:List yf}{H:Hp}{ds:List D}{vs:List V}(r:tj K Z H ds vs):tj K Z H ds.dropLast vs.dropLast:=by
 rw[List.dropLast_eq_take,List.dropLast_eq_take,r.length];exact r.take _
def z4t:MtG X "list.pop" zlw:=by
 refine MtG.of λpins s Y H x xs v us Q I rx rs Z dx ds μ d μ' r1 r2 R e k=>?_;unfold zlw at e
 split at e
 ·split at e
  ·rename_i hm
   obtain⟨y,e2,e⟩:=zl e;cases e;obtain⟨a,rfl,ea⟩:=r1.tx;obtain⟨vs,e3,q3⟩:=R.at_ _ _ _ ea hm;have hmu:Mut (H a):=by rw[e3];trivial
   obtain⟨w,hw,rw'⟩:=q3.get e2;rw[q3.length]at hw;exact zGv pins s Y H _ _ v us Q I rx rs ⟨a,vs,w,rfl,r2.nil_inv,e3,hw,k Z _ _ (Ext.wr hmu) (R.wr hmu ea ⟨_,zC,tj.ext (Ext.wr hmu) (zGl q3)⟩) (rw'.ext (Ext.wr hmu))⟩
  ·cases e
 ·cases e
def zbw{o:yC}{apos:xU}(ho:ME X o G)(hbase:xh o "pop" X.env (Yq o X.env)=Yq o X.env:=by rfl)(hline:(apos.endLine==pos.line)=true:=by rfl):ME X (.Call (.Attribute o "pop" apos) [] [] pos) (zZn zlw G) :=
 zVr PySem.F.slot_list_pop PySem.F.type_list_pop z4t ho hbase hline
@[simp] def zwi:GM:=λx ds μ=>match x,ds with
 |.loc n,[d]=>match μ[n]? with
  |some (.lst xs)=>bif zec d&&xs.all zec then some (.int (xs.countP λy=>eqF y d:Nat),μ) else none
  |_=>none
 |_,_=>none
def zfl{x:V}:∀{xs:List V} {us:List yb},Vals xs us->xs.all zWi=true->us.countP (eqU x)=xs.countP λy=>eqV y x
 |_,_,.nil,_=>rfl
 |y::xs,u::us,.cons r t,f=>by
  rw[all_cons,yN]at f;rw[countP_cons,countP_cons,zhp r f.1,zfl t f.2]
def zsl{K:yx}{Z:List yf}{H:Hp}{x:D}{v:V}(rx:tm K Z H x v)(fx:zec x=true):∀{ds:List D} {vs:List V},tj K Z H ds vs->ds.all zec=true->(vs.countP λy=>eqV y v)=ds.countP λd=>eqF d x
 |[],_,r,_=>by rw[r.nil_inv];rfl
 |d::ds,_,r,f=>by
  obtain⟨w,ws,rfl,r1,r2⟩:=r.cons_inv;rw[all_cons,yN]at f;rw[countP_cons,countP_cons,zsl rx fx r2 f.2,z0p r1 rx f.1 fx]
def zrq:MtG X "list.count" zwi:=by
 refine MtG.of λpins s Y H x xs v us Q I rx rs Z dx ds μ d μ' r1 r2 R e k=>?_;unfold zwi at e
 split at e
 ·split at e
  ·rename_i hm
   obtain⟨h1,e⟩:=zP e;rw[yN]at h1;cases e;obtain⟨a,rfl,ea⟩:=r1.tx;obtain⟨vs,e3,q3⟩:=R.at_ _ _ _ ea hm;obtain⟨w,r,rfl,q1,q2⟩:=r2.cons_inv;rw[q2.nil_inv]at rs;obtain⟨u,rfl,ru⟩:=vals1 rs;cases rx;obtain⟨z,its,n,rv,hl,el⟩:=I.sj e3;obtain⟨fv,_⟩:=zrn q1 h1.1 q3 h1.2;refine Xd PySem.F.slot_list_count ⟨_,el,rfl⟩ PySem.F.entry_list_count (PySem.F.args_list_count_2 _ _) (SeqAt.list_countAt a its.toArray n _ _ u (eqU w)) ⟨el,λy hy=>zSe ru (zFh q1 h1.1) rv fv y (by simpa using hy),?_⟩;refine⟨.int _,H,I.tok _,⟨_,rfl⟩,?_⟩;rw[show its.toArray.toList=its by simp,zfl rv fv,zsl q1 h1.1 q3 h1.2];exact k Z H _ Ext.refl R .int
  ·cases e
 ·cases e
def zOr{o:yC}{ψ:FA}{apos:xU}(ho:ME X o G)(ha:MAn X (e::es) ψ)
 (hbase:xh o "count" X.env (Yq o X.env)=Yq o X.env:=by rfl)
 (hfew:((xn pos (yw (e::es) X.env)).all (λx=>!x.1)&&(backToKw pos (keywordEach [] X.env)).all (λx=>x.1.isSome)
  && decide ((e::es).length+([]:List Keyword).length+(if([]:List Keyword).isEmpty then 0 else 1)<30))=true:=by rfl)
 (hline:(apos.endLine==pos.line)=true:=by rfl) (hs:yw (e::es) X.env=(false,Yq e X.env)::yw es X.env:=by rfl) (hplain:(xn pos (yw es X.env)).any (·.1)=false:=by rfl) :
 ME X (.Call (.Attribute o "count" apos) (e::es) [] pos) (zUf zwi G ψ):=z6j PySem.F.slot_list_count PySem.F.type_list_count zrq ho ha hbase hfew hline hs hplain
@[simp] def zQg:GM:=λx ds μ=>match x,ds with
 |.loc n,[.int i]=>match μ[n]? with
  |some (.lst xs)=>(zbj xs).bind λns=>bif ns.contains i then some (.non,μ.set n (.lst ((ns.erase i).map .int))) else none
  |_=>none
 |_,_=>none
def z3n{i:Int}:∀{ns:List Int},i∈ns->∃j,∃hj:j<ns.length,ns[j]=i/\(∀m (hm:m<ns.length),m<j->ns[m]≠i)/\ns.erase i=ns.eraseIdx j
 |[],h=>by cases h
 |n::ns,h=>by
  by_cases hn:n=i
  ·exact⟨0,by simp,hn,λm _ hm=>absurd hm (Nat.not_lt_zero _),by simp[hn]⟩
  ·have h':i∈ns:=by
    rcases List.mem_cons.mp h with h|h
    ·exact absurd h.symm hn
    ·exact h
   obtain⟨j,hj,e1,e2,e3⟩:=z3n h';refine⟨j+1,by simpa using hj,by simpa using e1,λm hm hmj=>?_,?_⟩
   ·cases m with
    |zero=>simpa using hn
    |succ m=>simpa using e2 m (by simpa using hm) (by omega)
   ·rw[List.erase_cons_tail (by simpa using hn),e3,xE]
def z1k{α β:Type}(f:α->β):∀(l:List α)(j:Nat),(l.eraseIdx j).map f=(l.map f).eraseIdx j
 |[],j=>by simp
 |x::l,0=>by simp
 |x::l,j+1=>by simp[z1k f l j]
def zWj:∀{vs:List V} {us:List yb} (j:Nat),Vals vs us->Vals (vs.eraseIdx j) (us.eraseIdx j)
 |_,_,_,.nil=>by simp;exact .nil
 |_,_,0,.cons r t=>by simpa using t
 |_,_,j+1,.cons r t=>by rw[xE,xE];exact .cons r (zWj j t)
def zmo:MtG X "list.remove" zQg:=by
 refine MtG.of λpins s Y H x xs v us Q I rx rs Z dx ds μ d μ' r1 r2 R e k=>?_;unfold zQg at e
 split at e
 ·rename_i l i
  split at e
  ·rename_i hm
   obtain⟨ns,e2,e⟩:=zl e;obtain⟨h1,e⟩:=zP e;cases e;rw[zte e2]at hm;obtain⟨a,rfl,ea⟩:=r1.tx;obtain⟨vs,e3,q3⟩:=R.at_ _ _ _ ea hm;rw[zWf q3]at e3;obtain⟨w,r,rfl,q1,q2⟩:=r2.cons_inv;rw[q2.nil_inv,q1.int_inv]at rs;obtain⟨u,rfl,ru⟩:=vals1 rs;obtain⟨t,rfl⟩:=ru;cases rx;obtain⟨z,its,n,rv,hl,el⟩:=I.sj e3;obtain⟨j,hj,hit,hno,her⟩:=z3n (show i∈ns by simpa using h1);have hlen:its.length=ns.length:=by rw[<-rv.length];simp
   have at_:∀m (hm:m<its.length),∃t,its[m]=.int (ns[m]'(by omega)) t:=λm hm=>by
    have hg:(ns.map V.int)[m]?=some (.int (ns[m]'(by omega))):=by simp[show m<ns.length by omega]
    obtain⟨u,hu,t,ru⟩:=rv.get hg;exact⟨t,by rw[<-ru];exact(List.getElem?_eq_some_iff.mp hu).2⟩
   let f:yb->Bool:=λy=>match y with | .int z _=>z==i|_=>false
   have hz':its.length<=yF:=by rw[<-rv.length];exact z
   refine Xd PySem.F.slot_list_remove ⟨_,el,rfl⟩ PySem.F.entry_list_remove (PySem.F.args_list_remove_2 _ _)
    (MeetsSeq.list_remove a its.toArray n (.int i t) f (λy hy=>?_) j (by simp;omega) ?_ (λm hm hmj=>?_) (by simpa using hz')) ⟨el,?_⟩
   ·obtain⟨m,hm,rfl⟩:=List.mem_iff_getElem.mp (show y∈its by simpa using hy);obtain⟨t',e'⟩:=at_ m hm;rw[e'];exact MeetsSeq.EqGives.int _ _ _ _
   ·obtain⟨t',e'⟩:=at_ j (by omega);show f its[j]=true;rw[e'];simp[f,hit]
   ·have hm':m<its.length:=by simpa using hm
    obtain⟨t',e'⟩:=at_ m hm';show f its[m]=false;rw[e'];simpa[f] using hno m (by omega) hmj
   ·have hmu:Mut (H a):=by rw[e3];trivial
    refine⟨.non,_,I.sV (t':=s.toks) (ys:=(ns.erase i).map V.int) (its':=its.eraseIdx j) e3 el ?_ ?_ ?_,rfl,k Z _ _ (Ext.wr hmu) (R.wr hmu ea ⟨_,zC,z5d⟩) .non⟩
    ·simp[Array.eraseIdxIfInBounds,show j<its.length by omega]
    ·rw[her,z1k];exact zWj j rv
    ·have:(ns.erase i).length<=ns.length:=by rw[her];exact List.length_eraseIdx_le _ _
     rw[length_map]at z ⊢;omega
  ·cases e
 ·cases e
def zCq{o:yC}{ψ:FA}{apos:xU}(ho:ME X o G)(ha:MAn X (e::es) ψ)
 (hbase:xh o "remove" X.env (Yq o X.env)=Yq o X.env:=by rfl)
 (hfew:((xn pos (yw (e::es) X.env)).all (λx=>!x.1)&&(backToKw pos (keywordEach [] X.env)).all (λx=>x.1.isSome)
  && decide ((e::es).length+([]:List Keyword).length+(if([]:List Keyword).isEmpty then 0 else 1)<30))=true:=by rfl)
 (hline:(apos.endLine==pos.line)=true:=by rfl) (hs:yw (e::es) X.env=(false,Yq e X.env)::yw es X.env:=by rfl) (hplain:(xn pos (yw es X.env)).any (·.1)=false:=by rfl) :
 ME X (.Call (.Attribute o "remove" apos) (e::es) [] pos) (zUf zQg G ψ):=z6j PySem.F.slot_list_remove PySem.F.type_list_remove zmo ho ha hbase hfew hline hs hplain
@[simp] def zLu(i:Nat)(g:φ2)(G:FE):FS:=λJ μ=>match J[i]? with
 |some (some x)=>(G J μ).bind λp=>(g x p.1 p.2).bind λq=>some (.next (J.set i (some q.1)) q.2)
 |_=>none
def zPr:φ2:=λx y μ=>match x,y with
 |.int i,.int j=>some (.int (i+j),μ)
 |_,_=>none
def zou:OpM X (inplaceOp .Add) zPr:=by
 refine OpM.of λpins s Y H x y v u Q I rx ry Z dx dy μ d μ' r1 r2 R e k=>?_;unfold zPr at e
 split at e
 ·cases e;exact zRt pins s Y H x y v u Q I rx ry ⟨_,_,r1.int_inv,r2.int_inv,k Z H _ Ext.refl R .int⟩
 ·cases e
def zUp:φ2:=λx y μ=>match x,y with
 |.int i,.int j=>bif decide (-(2^64)<j/\j<2^64) then some (.int (i*j),μ) else none
 |_,_=>none
def zQt:OpM X (inplaceOp .Mult) zUp:=by
 refine OpM.of λpins s Y H x y v u Q I rx ry Z dx dy μ d μ' r1 r2 R e k=>?_;unfold zUp at e
 split at e
 ·obtain⟨h1,e⟩:=zP e;cases e;exact zDu pins s Y H x y v u Q I rx ry ⟨_,_,r1.int_inv,r2.int_inv,.inr (of_decide_eq_true h1),k Z H _ Ext.refl R .int⟩
 ·cases e
def zPs{x:yG}{op:Operator}{g:φ2}{pos':xU}(i:Nat)(ho:OpM X (inplaceOp op) g)(he:ME X e G)(hN:X.N.Nodup:=by assumption)(hi:X.N[i]?=some x:=by rfl)(hx:L2.Loc X.env.scope x:=by first|exact Or.inl rfl|exact Or.inr rfl)
 (hf:X.fn x=true\/X.env.scope.names.lookup x=some .local:=by first|exact .inl rfl|exact .inr rfl|assumption):MS X (.AugAssign (.Name x pos') op e pos) (zLu i g G) :=
 z5i (z4u (ti:=rM X.K g) hN hi hx he (λpins s Y H x y v u Q I rx ry q=>ho pins s Y H x y v u Q I rx ry q) hf) λZ J μ Y H o E A e k=>by
  unfold zLu at e
  split at e
  ·rename_i d hd
   obtain⟨v,hv,rv⟩:=A.st i _ hd;obtain⟨⟨y,μ1⟩,e1,e⟩:=zl e;obtain⟨⟨z,μ2⟩,e2,e⟩:=zl e;cases e;refine⟨v,hv,Z,J,μ,y,μ1,A,e1,λZ1 H1 w x1 R1 r1=>?_⟩;refine⟨Z1,d,y,μ1,z,μ2,rv.ext x1,r1,R1,e2,λZ2 H2 w2 x2 R2 r2=>?_⟩;exact k Z2 _ H2 (x1.trans x2) ((A.ext (x1.trans x2) R2).set r2 i)
  ·cases e
def zBb(c:FT)(body:FS):Nat->FS
 |0,_,_=>none
 |n+1,J,μ=>(c J μ).bind λp=>bif p.1 then(match body J p.2 with
  |some (.next J' μ')=>zBb c body n J' μ'
  |some (.cont J' μ')=>zBb c body n J' μ'
  |some (.brk J' μ')=>some (.next J' μ')
  |some (.ret d μ')=>some (.ret d μ')
  |some (.exc C fs μ')=>some (.exc C fs μ')
  |none=>none) else some (.next J p.2)
def zPj(n:Nat)(c:FT)(body:FS):FS:=zBb c body n
def zLh{body:List Yp}{t:FT}{p:FS}(n:Nat)(hc:MT X c t)(hb:MSs X body p)(hx:PassesOwn (yz X.prog X.w) X.A X.env X.xe:=by first|exact PassesOwn.never|exact PassesOwn.leaving):MS X (.While c body [] pos) (zPj n t p) :=
 z5i (zbs hx hc hb) λZ J μ Y H o E A e k=>by
  refine⟨λm Y' H'=>∃Z' J' μ',Ext Z H Z' H'/\At X.K Z' H' Y' J' μ'/\zBb t p m J' μ'=some o,⟨n,Z,J,μ,Ext.refl,A,e⟩,?_⟩;rintro m Y' H' ⟨Z',J',μ',x',A',ew⟩
  cases m with
  |zero=>cases ew
  |succ m=>
   unfold zBb at ew;obtain⟨⟨b,μ1⟩,e1,ew⟩:=zl ew;refine⟨Z',J',μ',b,μ1,A',e1,λZ1 H1 x1 R1=>?_⟩;have xx:=x'.trans x1
   cases b with
   |false=>
    cases ew;exact sJ (k Z1 Y' H1 xx (A'.ext x1 R1))
   |true=>
    refine sK ⟨λY3 H3=>∃Z3 J3 μ3,Ext Z H Z3 H3/\At X.K Z3 H3 Y3 J3 μ3/\zBb t p m J3 μ3=some o,λY3 H3 q=>⟨m,YB _,q⟩,?_⟩;dsimp only[cond_true]at ew
    cases eb:p J' μ1 with
    |none=>rw[eb]at ew;cases ew
    |some ob=>
     rw[eb]at ew;refine⟨Z1,J',μ1,ob,A'.ext x1 R1,eb,?_⟩
     cases ob with
     |next J6 μ6=>exact λZ6 Y6 H6 x6 A6=>⟨Z6,J6,μ6,xx.trans x6,A6,ew⟩
     |cont J6 μ6=>exact λZ6 Y6 H6 x6 A6=>⟨Z6,J6,μ6,xx.trans x6,A6,ew⟩
     |brk J6 μ6=>cases ew;exact k.ext xx
     |ret d μ6=>cases ew;exact k.ext xx
     |exc C fs μ6=>cases ew;exact k.ext xx
end
end M
namespace L2
open PySem PySem.Spec PyProof.Rows
section
variable {κ:Type}[DecidableEq κ]
def z0k(kvs:List (κ×V))(k:κ):Option V:=(kvs.find? λkv=>decide (kv.1=k)).map (·.2)
def zfp(kvs:List (κ×V))(k:κ)(v:V):List (κ×V) :=
 if(kvs.any λkv=>decide (kv.1=k))=true then kvs.map (λkv=>if kv.1=k then(kv.1,v) else kv) else kvs++[(k,v)]
def zLk{p:κ×V}{r:List (κ×V)}{k:κ}(e:p.1=k):z0k (p::r) k=some p.2:=by simp[z0k,List.find?_cons,e]
def zTk{p:κ×V}{r:List (κ×V)}{k:κ}(e:¬p.1=k):z0k (p::r) k=z0k r k:=by simp[z0k,List.find?_cons,e]
def zjn(kvs:List (κ×V))(k:κ)(v:V):(zfp kvs k v).length<=kvs.length+1:=by
 unfold zfp
 split
 ·rw[length_map];omega
 ·rw[length_append,length_cons,List.length_nil];omega
def sC.so{o:Option V}{u:Option yb}(r:sC o u):o.isSome=u.isSome:=by
 cases o with
 |none=>cases u with
  |none=>rfl
  |some _=>exact(show False from r).elim
 |some _=>cases u with
  |none=>exact(show False from r).elim
  |some _=>rfl
def KV.val{kvs:List (κ×V)}{vs:List (κ×yb)}(r:KV kvs vs)(k:κ):sC (z0k kvs k) (valueAt vs k):=by
 unfold KV at r
 induction r with
 |nil=>exact True.intro
 |@cons p q ps qs h t ih=>
  obtain⟨h1,h2⟩:=h
  by_cases e:p.1=k
  ·have e':q.1=k:=h1.symm.trans e;have b:valueAt (q::qs) k=some q.2:=by simp[valueAt,List.find?_cons,e']
   rw[zLk e,b];exact h2
  ·have e':¬q.1=k:=λz=>e (h1.trans z);have b:valueAt (q::qs) k=valueAt qs k:=by simp[valueAt,List.find?_cons,e']
   rw[zTk e,b];exact ih
def KV.any{kvs:List (κ×V)}{vs:List (κ×yb)}(r:KV kvs vs)(k:κ):(kvs.any λkv=>decide (kv.1=k))=vs.any λkv=>decide (kv.1=k):=by
 unfold KV at r
 induction r with
 |nil=>rfl
 |cons h t ih=>rw[any_cons,any_cons,ih,h.1]
def KV.repl{kvs:List (κ×V)}{vs:List (κ×yb)}(r:KV kvs vs)(k:κ){y:V}{u:yb}(ry:RelV y u) :
 KV (kvs.map λkv=>if kv.1=k then(kv.1,y) else kv) (vs.map λkv=>if kv.1=k then(kv.1,u) else kv):=by
 unfold KV at r ⊢
 induction r with
 |nil=>exact .nil
 |@cons p q ps qs h t ih=>
  rw[map_cons,map_cons];refine .cons ?_ ih;obtain⟨h1,h2⟩:=h
  by_cases e:p.1=k
  ·rw[if_pos e,if_pos (h1.symm.trans e)];exact⟨h1,ry⟩
  ·rw[if_neg e,if_neg (λz=>e (h1.trans z))];exact⟨h1,h2⟩
def KV.put{kvs:List (κ×V)}{vs:List (κ×yb)}(r:KV kvs vs)(k:κ){y:V}{u:yb}(ry:RelV y u):KV (zfp kvs k y) (stored vs k u):=by
 unfold zfp stored;rw[r.any k]
 by_cases e:(vs.any λkv=>decide (kv.1=k))=true
 ·rw[if_pos e,if_pos e];exact r.repl k ry
 ·rw[if_neg e,if_neg e];exact Paired.snoc r ⟨rfl,ry⟩
def KV.keys{kvs:List (κ×V)}{vs:List (κ×yb)}(r:KV kvs vs):kvs.map (·.1)=vs.map (·.1):=by
 unfold KV at r
 induction r with
 |nil=>rfl
 |cons h t ih=>rw[map_cons,map_cons,ih,h.1]
def KV.length{kvs:List (κ×V)}{vs:List (κ×yb)}(r:KV kvs vs):kvs.length=vs.length:=Paired.length r
end
def zim{P:yy}{w:yL}{k:Key}{u:yb}(r:RelV (kV k) u):(ztb P w).is k u=true:=by
 cases k with
 |inl i=>obtain⟨t,e⟩:=(show ∃t,u=Value.int i t from r);subst e;exact z7m P w i t
 |inr x=>obtain⟨t,e⟩:=(show ∃t,u=Value.str x t from r);subst e;exact zsm P w x t
def zhs{P:yy}{w:yL}{H:Hp}{h:yW}{a:yf}{kvs:List (Key×V)}(ok:HOk P w H h)(e:H a=some (.dK kvs)):kvs.length<=yF/\(a==sysModules)=false/\∃vs,KV kvs vs/\h.DictOf (ztb P w) a vs :=
 show tJ P w H h a (.dK kvs) from ok a _ e
end L2
namespace M
open PySem PySem.Spec PyProof.Rows L2
def zDc(kvs:List (Int×D))(i:Int):Option D:=(kvs.find? λp=>decide (p.1=i)).map (·.2)
def zlo(kvs:List (Int×D))(i:Int)(d:D):List (Int×D):=if(kvs.any λp=>decide (p.1=i))=true then kvs.map (λp=>if p.1=i then(p.1,d) else p) else kvs++[(i,d)]
@[simp] def zJb(μ:Mem):D->Option (List (Int×D))
 |.loc n=>match μ[n]? with
  |some (.dct kvs)=>some kvs
  |some (.dcf kvs)=>some kvs
  |_=>none
 |_=>none
def RdK(H:Hp)(a:yf)(vs:List (Key×V)):Prop:=H a=some (.dK vs)\/∃o,H a=some (.frz o (.dK vs))
def zYf{P:yy}{w:yL}{H:Hp}{h:yW}{a:yf}{kvs:List (Key×V)}(ok:HOk P w H h)(e:RdK H a kvs):kvs.length<=yF/\(a==sysModules)=false/\∃vs,KV kvs vs/\h.DictOf (ztb P w) a vs:=by
 rcases e with e|⟨o,e⟩
 ·exact zhs ok e
 ·exact(show tJ P w H h a (.frz o (.dK kvs)) from ok a _ e).2
section
variable {K:yx}{Z:List yf}{H:Hp}{μ:Mem}
def zMe{d:D}{v:V}{kvs:List (Int×D)}(R:tF K Z H μ)(r:tm K Z H d v)(e:zJb μ d=some kvs):∃p vs,v=.ref p/\RdK H p vs/\vs.map (·.1)=kvs.map (λp=>yP p.1)/\tj K Z H (kvs.map (·.2)) (vs.map (·.2)):=by
 unfold zJb at e
 split at e
 ·split at e
  ·rename_i hm
   cases e;obtain⟨a,e1,e2⟩:=r.tx;obtain⟨vs,e3,q1,q2⟩:=R.at_ _ _ _ e2 hm;exact⟨a,vs,e1,.inl e3,q1,q2⟩
  ·rename_i hm
   cases e;obtain⟨a,e1,e2⟩:=r.tx;obtain⟨o,vs,e3,q1,q2⟩:=R.at_ _ _ _ e2 hm;exact⟨a,vs,e1,.inr ⟨o,e3⟩,q1,q2⟩
  ·cases e
 ·cases e
def zEk:∀{kvs:List (Int×D)} {vs:List (Key×V)} (i:Int),vs.map (·.1)=kvs.map (λp=>yP p.1)->tj K Z H (kvs.map (·.2)) (vs.map (·.2)) ->
 (∀d,zDc kvs i=some d->∃v,z0k vs (yP i)=some v/\tm K Z H d v)/\(zDc kvs i=none->z0k vs (yP i)=none)
 |[],vs,i,h1,h2=>by
  have:vs=[]:=by simpa using h1
  subst this;exact⟨λd h=>(by cases h),λ_=>rfl⟩
 |(j,d)::kvs,vs,i,h1,h2=>by
  cases vs with
  |nil=>simp at h1
  |cons q vs=>
   obtain⟨k,v⟩:=q;rw[map_cons,map_cons,xr]at h1;obtain⟨hk,h1⟩:=h1;have hk:k=yP j:=hk;subst hk;obtain⟨v',r,e,q1,q2⟩:=h2.cons_inv;rw[map_cons,xr]at e;obtain⟨e1,e2⟩:=e;subst e2;have e1:v=v':=e1;subst e1;obtain⟨ih1,ih2⟩:=zEk i h1 q2
   by_cases hj:j=i
   ·subst hj;have a1:zDc ((j,d)::kvs) j=some d:=by simp[zDc]
    have a2:z0k ((yP j,v)::vs) (yP j)=some v:=zLk rfl;rw[a1,a2];exact⟨λd' h=>(by cases h;exact⟨v,rfl,q1⟩),λh=>(by cases h)⟩
   ·have a1:zDc ((j,d)::kvs) i=zDc kvs i:=by simp[zDc,hj]
    have a2:z0k ((yP j,v)::vs) (yP i)=z0k vs (yP i):=zTk (λz=>hj (by simpa using z));rw[a1,a2];exact⟨ih1,ih2⟩
def zhr(kvs:List (Int×D))(vs:List (Key×V))(i:Int)(d:D)(v:V)(h:vs.map (·.1)=kvs.map (λp=>yP p.1)):(zfp vs (yP i) v).map (·.1)=(zlo kvs i d).map (λp=>yP p.1):=by
 have hany:(vs.any λkv=>decide (kv.1=yP i))=kvs.any λp=>decide (p.1=i):=by
  have e1:(vs.any λkv=>decide (kv.1=yP i))=(vs.map (·.1)).any λk=>decide (k=yP i):=by rw[any_map];rfl
  rw[e1,h,any_map]
  congr 1
  funext p
  simp
 unfold zfp zlo;rw[hany]
 split
 ·rw[map_map,map_map]
  have e1:(λx:Key×V=>x.1)∘(λkv=>if kv.1=yP i then(kv.1,v) else kv)=λx=>x.1:=by
   funext x;simp only[YG];split<;>rfl
  have e2:(λp:Int×D=>(yP p.1:Key))∘(λp=>if p.1=i then(p.1,d) else p)=λp=>yP p.1:=by
   funext x;simp only[YG];split<;>rfl
  rw[e1,e2];exact h
 ·simp[h]
def zXn:∀(kvs:List (Int×D)) (vs:List (Key×V)) (i:Int) {d:D} {v:V},tm K Z H d v->vs.map (·.1)=kvs.map (λp=>yP p.1)->tj K Z H (kvs.map (·.2)) (vs.map (·.2)) ->
 tj K Z H ((kvs.map λp=>if p.1=i then(p.1,d) else p).map (·.2)) ((vs.map λkv=>if kv.1=yP i then(kv.1,v) else kv).map (·.2))
 |[],vs,i,d,v,r,h1,h2=>by
  have:vs=[]:=by simpa using h1
  subst this;exact .nil
 |(j,e)::kvs,vs,i,d,v,r,h1,h2=>by
  cases vs with
  |nil=>simp at h1
  |cons q vs=>
   obtain⟨k,u⟩:=q;rw[map_cons,map_cons,xr]at h1;obtain⟨hk,h1⟩:=h1;have hk:k=yP j:=hk;subst hk;obtain⟨v',r',e',q1,q2⟩:=h2.cons_inv;rw[map_cons,xr]at e';obtain⟨e1,e2⟩:=e';subst e2;have e1:u=v':=e1;subst e1;have ih:=zXn kvs vs i r h1 q2;simp only[map_cons]
   by_cases hj:j=i
   ·subst hj;rw[if_pos rfl,if_pos rfl];exact .cons r ih
   ·rw[if_neg hj,if_neg (λz=>hj (by simpa using z))];exact .cons q1 ih
def zbu{kvs:List (Int×D)}{vs:List (Key×V)}{i:Int}{d:D}{v:V}(r:tm K Z H d v)(h1:vs.map (·.1)=kvs.map (λp=>yP p.1))(h2:tj K Z H (kvs.map (·.2)) (vs.map (·.2))) :
 tj K Z H ((zlo kvs i d).map (·.2)) ((zfp vs (yP i) v).map (·.2)):=by
 have hany:(vs.any λkv=>decide (kv.1=yP i))=kvs.any λp=>decide (p.1=i):=by
  have e1:(vs.any λkv=>decide (kv.1=yP i))=(vs.map (·.1)).any λk=>decide (k=yP i):=by rw[any_map];rfl
  rw[e1,h1,any_map]
  congr 1
  funext p
  simp
 unfold zfp zlo;rw[hany]
 split
 ·exact zXn kvs vs i r h1 h2
 ·simp only[map_append,map_cons,map_nil];exact h2.append (.cons r .nil)
variable {X:Cx}{a b c e:yC}{es:List yC}{G ψ χ:FE}{pos:xU}
@[simp] def zqt:φ2:=λx y μ=>match y with
 |.int i=>(zJb μ x).bind λkvs=>(zDc kvs i).bind λd=>some (d,μ)
 |_=>none
def z2c{pins:List (yf×YY)}{s:yd}{Y:L2.St}{H:Hp}{p:yf}{vs:List (Key×V)}{k:Key}{v:V}{u:yb}{A:yR}{E:yb->yd->Prop}{Q:yb->yd->Prop}(I:Inv X pins Y H s)(e:RdK H p vs)(l:z0k vs k=some v)(ry:RelV (kV k) u)
 (h:∀w' s',Inv X pins Y H s'->RelV v w'->Q w' s'):yp (yz X.prog X.w) A (getItem (.ref p) u) Q E s:=by
 obtain⟨z,hd,us,rel,dd⟩:=zYf I.hok e;obtain⟨w',hw,rw'⟩:=sC.some_of (v:=v) (o:=valueAt us k) (by rw[<-l];exact rel.val k);exact wpAny_getItem_of (zim ry) dd.mapOf hw (h w' _ (I.tok _) rw')
def ixD:IxR X (rM X.K zqt):=by
 intro value slice pins s Y H x y v u Q I rx ry ⟨Z,dx,dy,μ,d,μ',r1,r2,R,e,k⟩ hs;unfold zqt at e
 split at e
 ·rename_i i
  obtain⟨kvs,e1,e⟩:=zl e;obtain⟨d',e2,e⟩:=zl e;cases e;obtain⟨p,vs,rfl,hq,q1,q2⟩:=zMe R r1 e1;obtain⟨w',e3,rw'⟩:=(zEk i q1 q2).1 _ e2;cases rx;rw[r2.int_inv]at ry
  have hT:s.TypeIs (.ref p) "dict":=by
   obtain⟨_,_,us,_,dd⟩:=zYf I.hok hq;exact dd.typeIs
  unfold subscriptTail;refine ya ?_;rw[getitemInPython_of_ne hT.not_modules];refine ya (YR hT PySem.F.slot_dict_getitem.lookup ?_)
  have fin:yp (yz X.prog X.w) X.A (subscripted slice false (.ref p) u) (λr s₃=>yp (yz X.prog X.w) X.A (letTemporaryGo value (.ref p) r >>= λ_=>pure r) (EP X pins Y Q) X.xe s₃) X.xe s:=by
   rw[hs];exact wpAny_operating (z2c I hq e3 ry λw2 s2 I2 r2=>ya (wpAny_letTemporaryGo (ye ⟨_,H,I2,r2,k Z H _ Ext.refl R rw'⟩)))
  first
   |exact ye (ya fin)
   |exact ya (ye (ya fin))
   |exact ya fin
 ·cases e
def zVs(ha:ME X a G)(hb:ME X b ψ)(hs:zBk b:=by intro _ _;rfl):ME X (.Subscript a b pos) (zz zqt G ψ) :=
 zsd (zzt ixD ha hb hs) λ_ _ _ _ _ _ _ _ A e k=>zap A e k
@[simp] def ztx:φ2:=λx y μ=>match x with
 |.int i=>(zJb μ y).bind λkvs=>some (.bl (zDc kvs i).isSome,μ)
 |_=>none
@[simp] def zxg:φ2:=λx y μ=>match x with
 |.int i=>(zJb μ y).bind λkvs=>some (.bl (!(zDc kvs i).isSome),μ)
 |_=>none
def zew{pins:List (yf×YY)}{s:yd}{Y:L2.St}{H:Hp}{p:yf}{vs:List (Key×V)}{k:Key}{u:yb}{A:yR}{E:yb->yd->Prop}{Q:yb->yd->Prop}(I:Inv X pins Y H s)(e:RdK H p vs)(ry:RelV (kV k) u)
 (h:∀s',Inv X pins Y H s'->Q (.bool (z0k vs k).isSome) s'):yp (yz X.prog X.w) A (Yj .In u (.ref p)) Q E s:=by
 obtain⟨z,hd,us,rel,dd⟩:=zYf I.hok e;refine wpAny_in_of (zim ry) hd dd.mapOf ?_;rw[<-(rel.val k).so];exact h _ (I.tok _)
def ztn{K:yx}{Z:List yf}{H:Hp}{kvs:List (Int×D)}{vs:List (Key×V)}(i:Int)(q1:vs.map (·.1)=kvs.map (λp=>yP p.1))(q2:tj K Z H (kvs.map (·.2)) (vs.map (·.2))):(z0k vs (yP i)).isSome=(zDc kvs i).isSome:=by
 obtain⟨h1,h2⟩:=zEk i q1 q2
 cases e:zDc kvs i with
 |none=>rw[h2 e];rfl
 |some d=>
  obtain⟨v,ev,_⟩:=h1 d e;rw[ev];rfl
def zeu:OpM X (Yj .In) ztx:=by
 refine OpM.of λpins s Y H x y v u Q I rx ry Z dx dy μ d μ' r1 r2 R e k=>?_;unfold ztx at e
 split at e
 ·rename_i i
  obtain⟨kvs,e1,e⟩:=zl e;cases e;obtain⟨p,vs,rfl,hq,q1,q2⟩:=zMe R r2 e1;cases ry;rw[r1.int_inv]at rx;refine zew (k:=yP i) I hq rx λs' I'=>⟨.bl _,H,I',rfl,?_⟩
  rw[ztn i q1 q2];exact k Z H _ Ext.refl R .bl
 ·cases e
def zij:OpM X (Yj .NotIn) zxg:=by
 refine OpM.of λpins s Y H x y v u Q I rx ry Z dx dy μ d μ' r1 r2 R e k=>?_;unfold zxg at e
 split at e
 ·rename_i i
  obtain⟨kvs,e1,e⟩:=zl e;cases e;obtain⟨p,vs,rfl,hq,q1,q2⟩:=zMe R r2 e1;cases ry;rw[r1.int_inv]at rx;obtain⟨z,hd,us,rel,dd⟩:=zYf I.hok hq;refine wpAny_notIn_of (zim (k:=yP i) rx) hd dd.mapOf ⟨.bl _,H,I.tok _,rfl,?_⟩;rw[<-(rel.val (yP i)).so,ztn i q1 q2];exact k Z H _ Ext.refl R .bl
 ·cases e
@[simp] def zOu(G ψ:FE):FG:=λd J μ=>(G J μ).bind λp=>(ψ J p.2).bind λq=>match p.1,q.1 with
 |.loc n,.int i=>match q.2[n]? with
  |some (.dct kvs)=>bif decide (kvs.length<=1000000) then some (J,q.2.set n (.dct (zlo kvs i d))) else none
  |_=>none
 |_,_=>none
def zUr:z9w X (λo i v H Q=>∃p vs k,o=.ref p/\i=kV k/\H p=some (.dK vs)/\vs.length<yF/\Q (upd H p (.dK (zfp vs k v)))):=by
 intro pins s Y H o i v ov iv u Q I ro ri rv ⟨p,vs,k,e1,e2,e3,hl,q⟩;subst e1 e2;cases ro;obtain⟨z,hd,us,rel,dd⟩:=zhs I.hok e3;have hz:us.length<=yF:=by rw[<-rel.length];exact z
 have hl':(zfp vs k v).length<=yF:=by have:=zjn vs k v;omega
 refine wpAny_setItem_pairs (hsz:=hz) (zim ri) dd λh' dd' hs=>⟨_,I.write (x:=p) (e:=p) (by rw[e3];exact True.intro) (.inl rfl) (λb q hb z=>(hs.2 b hb).trans z) ?_ (show tJ X.prog X.w _ h' p (.dK (zfp vs k v)) from⟨hl',hd,_,rel.put k rv,dd'⟩),q⟩
 obtain⟨q,_,_,hq,_⟩:=dd';exact⟨q,hq⟩
def zHp{o i:yC}(ho:ME X o G)(hi:ME X i ψ)(ha:∀v,assign (.Subscript o i pos) X.env v=(do
 let ov <-holding [v] (Yq o X.env)
 let iv <-holding [v,ov] (Yq i X.env)
 standAt pos
 holding [v,ov,iv] (setItem ov iv v)
 release [v,ov,iv] []):=by intro _;rfl):MG X (.Subscript o i pos) (zOu G ψ) :=
 mg_of (zCs ho hi zUr ha) λZ J μ d J' μ' v Y H Q A q e k=>by
  obtain⟨⟨x,μ1⟩,e1,e⟩:=zl e;obtain⟨⟨y,μ2⟩,e2,e⟩:=zl e;refine⟨Z,J,μ,x,μ1,A,e1,λZ1 H1 v1 x1 R1 r1=>?_⟩;refine⟨Z1,J,μ1,y,μ2,A.ext x1 R1,e2,λZ2 H2 v2 x2 R2 r2=>?_⟩;dsimp only at e
  split at e
  ·rename_i n j _
   split at e
   ·rename_i kvs hm
    obtain⟨h1,e⟩:=zP e;have h1:=of_decide_eq_true h1;cases e;obtain⟨ad,rfl,hr⟩:=(r1.ext x2).tx;obtain⟨vs,hv,q1,q2⟩:=R2.at_ _ _ _ hr hm;have hmu:Mut (H2 ad):=by rw[hv];trivial
    have hlen:vs.length=kvs.length:=by
     have:=congrArg List.length q1;simpa using this
    have hmi:=Tb;refine⟨ad,vs,yP j,rfl,r2.int_inv,hv,by omega,?_⟩;have xx:=x1.trans x2;have R3:=R2.wr (o:=.dK (zfp vs (yP j) v)) (lo:=.dct (zlo kvs j d)) hmu hr ⟨_,zC,zhr kvs vs j d v q1,tj.ext (Ext.wr hmu) (zbu (q.ext xx) q1 q2)⟩;exact k Z2 Y _ (xx.trans (Ext.wr hmu)) (A.ext (xx.trans (Ext.wr hmu)) R3)
   ·cases e
  ·cases e
def zui(kvs:List (Int×D)):List D:=kvs.map λp =>.int p.1
@[simp] def zBl:GL:=λds μ=>match ds with
 |[x]=>(zJb μ x).bind λkvs=>some (.loc μ.length,μ++[.lst (zui kvs)])
 |_=>none
def zop{P:yy}{w:yL}{H:Hp}{h:yW}{p:yf}{vs:List (Key×V)}(ok:HOk P w H h)(e:RdK H p vs):∃us ep,KV vs us/\h.DictAt (ztb P w) p us ep:=by
 obtain⟨_,_,us,rel,o,es,ep,h1,h2,h3,h4⟩:=zYf ok e;exact⟨us,ep,rel,o,es,h1,h2,h3,h4⟩
def zci{P:yy}{w:yL}:∀{vs:List (Key×V)} {us:List (Key×yb)} {its:List yb},KV vs us->its.length=us.length->(∀(j:Nat)(v:yb),its[j]?=some v->∃(k:Key)(x:yb),us[j]?=some (k,x)/\(ztb P w).is k v=true)->Vals (vs.map λp=>kV p.1) its
 |[],us,its,r,hl,h=>by
  cases r;have:its=[]:=List.length_eq_zero_iff.mp (by simpa using hl);subst this;exact .nil
 |p::vs,us,its,r,hl,h=>by
  cases r with
  |@cons _ q _ qs hq t=>
   cases its with
   |nil=>simp at hl
   |cons i its=>
    refine .cons ?_ (zci t (by simpa using hl) λj v e=>by
     obtain⟨k,x,h1,h2⟩:=h (j+1) v (by simpa using e);exact⟨k,x,by simpa using h1,h2⟩)
    obtain⟨k,x,h1,h2⟩:=h 0 i rfl;have e:q=(k,x):=by simpa using h1
    have ek:p.1=k:=by rw[hq.1,e]
    show RelV (kV p.1) i;rw[ek]
    cases k with
    |inl n=>
     rcases z9 ((zAg P w _ _).symm.trans h2) with ⟨j,t,e1,e2⟩|⟨j,t,e1,e2⟩
     ·cases e1;exact⟨t,e2⟩
     ·cases e1
    |inr n=>
     rcases z9 ((zAg P w _ _).symm.trans h2) with ⟨j,t,e1,e2⟩|⟨j,t,e1,e2⟩
     ·cases e1
     ·cases e1;exact⟨t,e2⟩
def zGm(hc:X.calm=true):tU X (.type "list") zBl:=by
 refine tU.of λpins s Y H xs us Q I r Z ds μ d μ' r1 R e k=>?_;unfold zBl at e
 split at e
 ·obtain⟨kvs,e1,e⟩:=zl e;cases e;obtain⟨v,rr,rfl,q1,q2⟩:=r1.cons_inv;rw[q2.nil_inv]at r;obtain⟨p,vs,rfl,hq,w1,w2⟩:=zMe R q1 e1;obtain⟨u,rfl,ru⟩:=vals1 r;cases ru;obtain⟨hz,hd,_⟩:=zYf I.hok hq;obtain⟨us',ep,rel,da⟩:=zop I.hok hq;have hl:=rel.length;refine W.kdl_call (W.kdl_dict hd) (I.ok.hd hc) da (by omega) λh' tk acc' c' kp e2 hi=>?_;obtain⟨hi1,hi2⟩:=hi;have hv:=zci (P:=X.prog) (w:=X.w) (its:=acc'.toList) rel (by simpa using hi1) λj v e=>hi2 j v (by simpa using e)
  have hkv:(vs.map λp=>kV p.1)=(kvs.map λp=>V.int p.1):=by
   have:(vs.map (·.1)).map kV=(kvs.map λp=>(yP p.1:Key)).map kV:=by rw[w1]
   rw[map_map,map_map]at this;exact this
  rw[hkv]at hv
  have hlk:kvs.length=vs.length:=by
   have:=congrArg List.length w1;simpa using this.symm
  have hf:=I.fresh;refine⟨.ref s.heap.objs.size,_,I.laid (t':=tk) kp (yi _) (show tJ X.prog X.w _ h' _ (.lst _) from⟨by simp;omega,acc'.toList,c',hv,by simpa using e2⟩),rfl,k _ _ _ (Ext.push hf) (R.push hf ⟨_,zC,?_⟩) (.loc (zrb R))⟩;have hr:=λZ H=>@z5d X.K Z H (kvs.map (·.1));simp only[map_map]at hr;exact hr _ _
 ·cases e
end
def Itd(a:yf)(o:YY)(vs:List (Key×V)):It:=⟨λi H=>H a=some (.frz o (.dK vs))/\i<vs.length,λi H x H'=>H'=H/\∃p,vs[i]?=some p/\x=kV p.1,λi H=>H a=some (.frz o (.dK vs))/\vs.length<=i⟩
def zdo{P:yy}{w:yL}{H:Hp}{h:yW}{a:yf}{o:YY}{vs:List (Key×V)}{es:Array DictEntry}{ep:Nat}(ok:HOk P w H h)(e:H a=some (.frz o (.dK vs)))(hd:o.data=.dict es ep):∃us,KV vs us/\h.DictAt (ztb P w) a us ep:=by
 obtain⟨h0,_,_,us,rel,o',es',ep',h1,h2,h3,h4⟩:=(show tJ P w H h a (.frz o (.dK vs)) from ok a _ e)
 rw[h0]at h1;cases h1;rw[hd]at h3;cases h3;exact⟨us,rel,o,es,h0,h2,hd,h4⟩
def z5p{P:yy}{w:yL}{K:yx}{tg:yC}(a it:yf)(o:YY)(vs:List (Key×V))(es:Array DictEntry)(ep:Nat)(hd:o.data=.dict es ep):Turn P w K tg (Itd a o vs) [it] it (λi h=>h.IsKeyIter it a i vs.length ep) where
 mem:=by simp
 obj:=λi h st b hb=>by
  have e:b=it:=by simpa using hb
  subst e;obtain⟨o,e,c,d⟩:=st;exact⟨o,e,λv z=>by rw[d]at z;cases z⟩
 keep:=λi h h' st k=>st.at λo e=>k it (by simp) o e
 item:=by
  intro X hP hw hK hc i pins s Y H E I hf st hg;subst hP hw hK;obtain⟨hq,hi⟩:=hg;obtain⟨us,rel,da⟩:=zdo I.hok hq hd;have hl:=rel.length;obtain⟨f0,f1,f2,f3,f4,f5⟩:=hf it (by simp);have hx:us[i]?=some ((us[i]'(by omega)).1,(us[i]'(by omega)).2):=by simp[show i<us.length by omega]
  rw[hl]at st ⊢;refine wpAny_pyNext_dict_item st da hx λkey h' hkey st' sb=>?_;have I1:Inv X pins Y H {s with heap:=h' }:=I.turned (t':=s.toks) (λb o hb e=>(sb.2 b hb).trans e) f0 f1 f3 f4 f5;obtain⟨o',e',c',d'⟩:=id st';have hk:vs[i]?=some vs[i]:=by simp[hi]
  have hkk:(vs[i]).1=(us[i]'(by omega)).1:=by
   have h1:(vs.map (·.1))[i]?=(us.map (·.1))[i]?:=by rw[rel.keys]
   simp only[yj,hk,yo (show i<us.length by omega),Option.map_some,Option.some.injEq]at h1;exact h1
  have rk:RelV (kV (vs[i]).1) key:=by
   rw[hkk];rcases z9 ((zAg X.prog X.w _ _).symm.trans hkey) with ⟨j,t,e1,e2⟩|⟨j,t,e1,e2⟩
   ·rw[e1];exact⟨t,e2⟩
   ·rw[e1];exact⟨t,e2⟩
  exact⟨key,rfl,z6r (s:={s with heap:=h' }) e' c' d' (by decide) ⟨kV (vs[i]).1,H,I1,rk,⟨rfl,_,hk,rfl⟩,st',λb hb=>(hf b hb).1⟩⟩
 done:=by
  intro X hP hw hK hc i pins s Y H E I hf st hg;subst hP hw hK;obtain⟨hq,hi⟩:=hg;obtain⟨us,rel,da⟩:=zdo I.hok hq hd;have hl:=rel.length;obtain⟨f0,f1,f2,f3,f4,f5⟩:=hf it (by simp);rw[hl]at st;exact wpAny_pyNext_dict_end (I.ok.hd hc) st da (by simp;omega) λh' eb=>⟨rfl,I.turned (t':=s.toks) (λb o hb e=>eb b o hb e) f0 f1 f3 f4 f5⟩
 self:=λ_ _ _ _ _ st h=>wpAny_pyIter_keyiter st h
section
variable {X:Cx}{a b c e:yC}{es:List yC}{G ψ χ:FE}{pos:xU}{tg:yC}
def zTx(tl:TE):TI:=λY H R=>tl Y H λx H1=>∃p vs,x=.ref p/\((H1 p=some (.dK vs)/\∀o,R (Itd p o vs) (upd H1 p (.frz o (.dK vs))))\/∃o,H1 p=some (.frz o (.dK vs))/\R (Itd p o vs) H1)
def zLt{l:yC}{tl:TE}(hl:PE X l tl):PI X tg l (zTx tl):=by
 intro pins s Y H R I h;refine thn (hl pins s Y H _ I h) λv s1 ⟨x,H1,I1,r1,q1⟩=>?_;obtain⟨p,vs,e,q⟩:=q1;subst e;cases r1
 have fin:∀(H2:Hp)(o:YY),Inv X pins Y H2 s1->H2 p=some (.frz o (.dK vs))->R (Itd p o vs) H2->yp (yz X.prog X.w) X.A (pyIter (.ref p)) (PIE X pins Y tg R) X.xe s1:=λH2 o I2 e2 q2=>by
  obtain⟨h0,hz,hd,us,rel,o',es,ep,h1,h2,h3,h4⟩:=(show tJ X.prog X.w H2 s1.heap p (.frz o (.dK vs)) from I2.hok p _ e2)
  rw[h0]at h1;cases h1;have da:s1.heap.DictAt (ztb X.prog X.w) p us ep:=⟨o,es,h0,h2,h3,h4⟩
  refine wpAny_pyIter_dict hd da ?_;refine⟨s1.heap.objs.size,[s1.heap.objs.size],_,_,H2,rfl,I2.kept (t':=s1.toks) λb o e=>yc _ e,z5p p _ o vs es ep h3,⟨_,yk _ rfl,rfl,by rw[rel.length];rfl⟩,λb hb=>?_,q2⟩;have e:b=s1.heap.objs.size:=by simpa using hb
  subst e;exact I2.sE (yi _) (I2.hok.fresh (yi _))
 rcases q with ⟨e1,q⟩|⟨o,e1,q⟩
 ·have hok:=I1.hok p _ e1;obtain⟨hz,hd,us,rel,o,es,ep,h1,h2⟩:=(show tJ X.prog X.w H1 s1.heap p (.dK vs) from hok)
  have I2:Inv X pins Y (upd H1 p (.frz o (.dK vs))) {s1 with heap:=s1.heap,toks:=s1.toks }:=by
   refine I1.write (x:=p) (e:=p) (by rw[e1];exact True.intro) (.inl rfl) (λb u _ e=>e) ⟨o,h1⟩ ?_;exact⟨h1,hz,hd,us,rel,o,es,ep,h1,h2⟩
  exact fin _ o I2 zC (q o)
 ·exact fin H1 o I1 e1 q
@[simp] def zxu(G:FE):FI:=λJ μ=>(G J μ).bind λp=>match p.1 with
 |.loc n=>match p.2[n]? with
  |some (.dct kvs)=>some (zui kvs,yes,p.2.set n (.dcf kvs))
  |some (.dcf kvs)=>some (zui kvs,yes,p.2)
  |_=>none
 |_=>none
def zZs{K:yx}{Z:List yf}{H:Hp}{p:yf}{o:YY}{vs:List (Key×V)}{kvs:List (Int×D)}(h:H p=some (.frz o (.dK vs)))(q1:vs.map (·.1)=kvs.map (λp=>yP p.1)):TV K (Itd p o vs) Z H (zui kvs) yes:=by
 have hlen:vs.length=kvs.length:=by
  have:=congrArg List.length q1;simpa using this
 have hkl:(zui kvs).length=kvs.length:=by simp[zui]
 refine⟨λZ' H' μ' i x R _ hi=>⟨x.frz _ _ _ h,by rw[hkl]at hi;omega⟩,λZ' H' μ' i x H'' d x' R _ e ⟨y1,q,y2,y3⟩=>⟨y1▸Ext.refl,y1▸R,y1▸?_⟩,λZ' H' μ' x R _=>⟨x.frz _ _ _ h,by rw[hkl];omega⟩⟩;have h1:(vs.map (·.1))[i]?=(kvs.map (λp=>(yP p.1:Key)))[i]?:=by rw[q1]
 rw[yj,yj,y2]at h1;unfold zui at e;rw[yj]at e
 cases hk:kvs[i]? with
 |none=>rw[hk]at e;cases e
 |some z=>
  rw[hk]at e h1;cases e;have h1:q.1=yP z.1:=by simpa using h1
  rw[y3,h1];exact .int
def zPt(h:ME X a G):MI X tg a (zxu G) :=
 zFo (zLt h) λZ J μ Y H ds ok μ' R A e k=>by
  obtain⟨⟨x,μ1⟩,e1,e⟩:=zl e;refine⟨Z,J,μ,x,μ1,A,e1,λZ1 H1 v1 x1 R1 r1=>?_⟩;dsimp only at e
  split at e
  ·split at e
   ·rename_i hm
    cases e;obtain⟨p,rfl,ep⟩:=r1.tx;obtain⟨vs,e3,q1,q2⟩:=R1.at_ _ _ _ ep hm;have hmu:Mut (H1 p):=by rw[e3];trivial
    refine⟨p,vs,rfl,.inl ⟨e3,λo=>?_⟩⟩;exact k Z1 _ _ (x1.trans (Ext.wr hmu)) (R1.wr hmu ep ⟨o,vs,zC,q1,tj.ext (Ext.wr hmu) q2⟩) (zZs zC q1)
   ·rename_i hm
    cases e;obtain⟨p,rfl,ep⟩:=r1.tx;obtain⟨o,vs,e3,q1,q2⟩:=R1.at_ _ _ _ ep hm;exact⟨p,vs,rfl,.inr ⟨o,e3,k Z1 _ _ x1 R1 (zZs e3 q1)⟩⟩
   ·cases e
  ·cases e
def zwq{prog:yy}{w:yL}{A:yR}{E:yb->yd->Prop}{s:yd}{Q:Int->yd->Prop}(h:Q 0xFCA86420 {s with toks:=s.toks+1 }):yp (yz prog w) A (pyHash .none) Q E s:=by
 unfold pyHash;have hv:[YT].any Value.onHeap=false:=rfl;refine ya ?_;rw[cRoomFor,if_neg (by rw[hv];exact yv)];refine ye ?_;refine ya (YR (typeIs_none s) PySem.F.slot_NoneType_hash.lookup ?_);show yp _ _ (if(some (Value.builtin "NoneType.__hash__")==some YT)=true then _ else _) Q E s;rw[if_neg (by rw[beq_builtin_none];exact yv)];refine ya (YR (typeIs_none s) PySem.F.slot_NoneType_hash.lookup ?_);show yp _ _ (callSpecialIfBoundUnlessNone? .none "__hash__" _ >>= _) Q E s;refine ya (wpAny_callSpecialIfBoundUnlessNone?_slot (typeIs_none s) PySem.F.slot_NoneType_hash (yM PySem.F.slot_NoneType_hash (typeIs_none s) PySem.F.entry_NoneType_hash ?_ (PySem.F.args_NoneType_hash_1 _)));show yp _ _ (do ret (<-mkInt 0xFCA86420)) _ _ s;refine wpAny_ret_mkInt ?_;show yp _ _ (if(decide (-(2:Int)^63<=0xFCA86420)&&decide ((0xFCA86420:Int)<2^63))=true then _ else _) Q E _;rw[if_pos (by decide)];exact ye h
def zUo{i:Int}(h0:0<=i)(h1:i<1000):hashInt i=i:=by
 have e:(i.natAbs%(2^61-1):Nat)=i.natAbs:=Nat.mod_eq_of_lt (by omega)
 have hr:rawHash i=i:=by
  unfold rawHash;dsimp only;rw[if_neg (by omega:¬i<0)];have:((i.natAbs%(2^61-1:Nat):Nat):Int)=i:=by rw[e];omega
  rw[show((i.natAbs:Int)%((2^61-1:Nat):Int))=i by rw[<-Int.natCast_emod];exact this];rw[if_neg (by simp;omega)]
 unfold hashInt;rw[hr,if_neg (by simp;omega)]
def zCl:Key->Bool
 |.inl i=>decide (0<=i/\i<1000)
 |.inr _=>false
def zIi{P:yy}{w:yL}:∀{es:List DictEntry} {us:List (Key×yb)},Pairs (ztb P w) es us->(∀e∈es,∃k,(ztb P w).is k e.key=true/\e.hash=(ztb P w).hash k)->(us.all λq=>zCl q.1)=true->∀e∈es,(e.hash==0xFCA86420)=false
 |_,_,.nil,_,_=>λe he=>by cases he
 |_,_,.cons (kv:=kv) hk hv t,hh,hs=>λe he=>by
  rw[all_cons,yN]at hs;rcases List.mem_cons.mp he with rfl|he
  ·obtain⟨k',h1,h2⟩:=hh e mem_cons_self;have ek:=(ztb P w).inj _ _ _ hk h1;rw[h2,<-ek];have hsm:zCl kv.1=true:=hs.1
   cases hkv:kv.1 with
   |inl i=>
    rw[hkv]at hsm;have hi:=of_decide_eq_true (show decide (0<=i/\i<1000)=true from hsm);show(hashInt i==0xFCA86420)=false;rw[zUo hi.1 hi.2];simp;omega
   |inr x=>rw[hkv]at hsm;cases hsm
  ·exact zIi t (λe he=>hh e (mem_cons_of_mem _ he)) hs.2 e he
def z8t{prog:yy}{w:yL}{A:yR}{E:yb->yd->Prop}{s:yd}{p:yf}{us:List (Key×yb)}{Q:yb->yd->Prop}(hd:(p==sysModules)=false)(dd:s.heap.DictOf (ztb prog w) p us)(hs:(us.all λq=>zCl q.1)=true)
 (h:Q (.bool false) {s with toks:=s.toks+1 }):yp (yz prog w) A (Yj .In .none (.ref p)) Q E s:=by
 obtain⟨o,es,ep,ho,hx,hdat,hk,hp,hn⟩:=id dd;have hno:=zIi hp (λe he=>hk e (by simpa using he)) hs
 have hpl:placesWithHash es.size (λi=>es[i]?.map (·.hash)) 0xFCA86420=[]:=by
  unfold placesWithHash;rw[List.filter_eq_nil_iff];intro i hi;have hi:i<es.size:=by simpa using hi
  dsimp only;rw[Array.getElem?_eq_getElem hi];have:=hno es[i] (by simp);simpa using this
 show yp _ _ (do return .bool (<-contains (.ref p) .none)) Q E s;refine ya ?_;unfold contains
 try with_reducible refine yU ?_
 refine ya (YR dd.typeIs slot_dict_contains.lookup ?_);show yp _ _ (if(some (Value.builtin "dict.__contains__")==some YT)=true then _ else _) _ E s;rw[if_neg (by rw[beq_builtin_none];exact yv)];refine ya (wpAny_callSpecialUnlessNone?_slot (name:=YA "__contains__") dd.typeIs slot_dict_contains (yM slot_dict_contains dd.typeIs entry_dict_contains ?_ (args_dict_contains _ _)));show yp _ _ (dictGet p .none >>= _) _ _ s;refine ya ?_;unfold dictGet
 try with_reducible refine yU ?_
 refine ya (zwq (ya ?_));unfold dictFind
 try with_reducible refine yU ?_
 refine ya (wpAny_dictEntries (s:={s with toks:=s.toks+1 }) ho hdat ?_);dsimp only;rw[hpl];rw[if_pos (by rfl)];unfold dictWalkPlain;refine ya ?_;rw[forIn_nil];refine ye ?_;refine ye (ye ?_);show yp _ _ (Builtin.Dict.pendingKey? p .none >>= _) _ _ _;exact ya (wpAny_pendingKey_other hd (ye ⟨_,rfl,xt (ye h)⟩))
@[simp] def zRm:φ2:=λx y μ=>match x with
 |.int i=>(zJb μ y).bind λkvs=>some (.bl (zDc kvs i).isSome,μ)
 |.non=>(zJb μ y).bind λkvs=>bif kvs.all (λp=>decide (0<=p.1/\p.1<1000)) then some (.bl false,μ) else none
 |_=>none
def zks:OpM X (Yj .In) zRm:=by
 refine OpM.of λpins s Y H x y v u Q I rx ry Z dx dy μ d μ' r1 r2 R e k=>?_;unfold zRm at e
 split at e
 ·rename_i i
  exact zeu pins s Y H x y v u Q I rx ry ⟨Z,.int i,dy,μ,d,μ',r1,r2,R,e,k⟩
 ·obtain⟨kvs,e1,e⟩:=zl e;obtain⟨hsm,e⟩:=zP e;cases e;obtain⟨p,vs,rfl,hq,q1,q2⟩:=zMe R r2 e1;cases ry;rw[r1.tQ]at rx;cases rx;obtain⟨z,hd,us,rel,dd⟩:=zYf I.hok hq;refine z8t hd dd ?_ ⟨.bl false,H,I.tok _,rfl,k Z H _ Ext.refl R .bl⟩;have e1:(us.all λq=>zCl q.1)=(us.map (·.1)).all zCl:=by rw[List.all_map];rfl
  rw[e1,<-rel.keys,q1,List.all_map];exact hsm
 ·cases e
variable {prog:yy}{w:yL}{A:yR}{E:yb->yd->Prop}{s:yd}
def z3o:typeLookup (.type "list_reverseiterator") "__len__"=pure none:=by rw[typeLookup_type,xY];kernel_rfl
def zkr:typeLookup (.type "list_reverseiterator") "__length_hint__"=pure (some (.builtin "list_reverseiterator.__length_hint__")):=by rw[typeLookup_type,xY];kernel_rfl
def zwr{r:yf}{Q:Bool->yd->Prop}(hT:s.TypeIs (.ref r) "list_reverseiterator")(h:Q false s):yp (yz prog w) A (xg (.ref r)) Q E s:=by
 unfold xg;refine ya (YR hT z3o ?_);show yp _ _ (specialOf (xj r) (YA "__length_hint__") >>= _) _ _ _;refine ya (YR hT zkr ?_);generalize hid:("list_reverseiterator.__length_hint__":String)=id0
 wp_delta
 rw[show splitId id0=some ("list_reverseiterator","__length_hint__") from by subst hid;decide +kernel];subst hid;refine ya (xG (T:="list_reverseiterator") (b:=true) hT (by rw[isSubtype_type];kernel_rfl) ?_);refine YQ (λhab=>absurd hab (by decide)) (λ_=>?_);refine YQ (λ_=>?_) (λhab=>absurd (by decide +kernel) hab);refine YQ (λhab=>absurd hab (by decide +kernel)) (λ_=>?_);exact ye h
def zts{I l:yf}{items:Array yb}{Q:yb->yd->Prop}(hh:A.handled=none)(hne:l≠I)(hI:s.heap.IsRevIter I l ((items.size:Int)-1))(hl:s.heap.IsList l items)(hn:items.size<=yF)
 (hQ:∀h' tk acc' c',(∀b o,b≠I->s.heap.get? b=some o->h'.get? b=some o)->h'.get? s.heap.objs.size=some {cls:=.type "list",dict:=none,data:=.seq acc' c',slots:=#[]}->ItemsOf (λi v=>items[items.size-1-i]?=some v) acc' items.size->Q (.ref s.heap.objs.size) {s with heap:=h',toks:=tk }) :
 yp (yz prog w) A (call (.type "list") [.ref I]) Q E s:=by
 have hIlt:I<s.heap.objs.size:=by obtain⟨o,ho,_⟩:=hI;exact ym ho
 have hllt:l<s.heap.objs.size:=by obtain⟨o,ho,_⟩:=hl;exact ym ho
 refine callType_codes (Q₁:=λobj s₁=>obj=.ref s.heap.objs.size/\s₁ = {s with heap:=s.heap.push {cls:=.type "list",data:=.seq #[]}}) PySem.F.called_list (PySem.F.typeCall_list_1 _) PySem.F.entry_list_init (code_list_new _ ⟨rfl,rfl⟩) λobj s₁ h₁=>?_;obtain⟨rfl,rfl⟩:=h₁;generalize hS0:s.heap.objs.size=S;have hSI:S≠I:=by rw[<-hS0];exact yV hIlt
 have hSl:S≠l:=by rw[<-hS0];exact yV hllt
 have hS:(s.heap.push {cls:=.type "list",data:=.seq #[]}).get? S=some {cls:=.type "list",data:=.seq #[]}:=by rw[<-hS0];exact yk _ rfl
 refine⟨⟨_,hS,rfl⟩,PySem.F.args_list_init_2 _ _,?_⟩;have oldS:∀b o,s.heap.get? b=some o->b≠S:=λb o e=>by rw[<-hS0];exact yq (ym e)
 have W:=(Walks.listRev (prog:=prog) (w:=w) (A:=A.in1.in1) hh I l hne items).toS;show yp _ _ (do let old <-Builtin.List.listItems (.ref S);Builtin.List.listUpdate (.ref S) (λ_=>#[]);letGo old.toList.reverse;Yk (.ref S) (.ref I) .none) _ _ _;refine ya ?_;unfold Builtin.List.listItems;refine ya (YF hS rfl (ye ?_));show yp _ _ (updateSeq S (λ_=>#[]) >>= λ_=>letGo (#[]:Array yb).toList.reverse >>= λ_=>Yk (.ref S) (.ref I) .none) _ _ _;refine ya (wpAny_updateSeq hS rfl ?_);have hS2:=Yc (xL (λ_=>(#[]:Array yb))) hS rfl;generalize hh2:(s.heap.push {cls:=.type "list",data:=.seq #[]}).update S (xL (λ_=>(#[]:Array yb)))=h2 at hS2 ⊢
 have k2:∀b o,s.heap.get? b=some o->h2.get? b=some o:=λb o e=>by
  rw[<-hh2];exact(xc _ _ (yE (oldS b o e))).trans (yc _ e)
 refine ya (wpAny_letGo ?_);have hI2:h2.IsRevIter I l ((items.size:Int)-1):=hI.at λo e=>k2 _ _ e;have hl2:h2.IsList l items:=hl.at λo e=>k2 _ _ e;unfold Yk;refine ya (Xf (T:="list_reverseiterator") (Heap.IsRevIter.typeIs (s:={s with heap:=h2 }) hI2) ?_);have h1:xA (.ref S) (.ref I)=false:=by simp[xA,hSI]
 have h2':(YJ "list_reverseiterator" == YJ "list")=false:=by decide
 have h3':(YJ "list_reverseiterator" == YJ "tuple")=false:=by decide
 simp only[h1,h2',h3',Bool.or_false,xM,if_false];refine ya (wpAny_pyIter_revIter (s:={s with heap:=h2 }) hI2 ?_);refine ya (yU (zwr (Heap.IsRevIter.typeIs (s:={s with heap:=h2 }) hI2) ?_));refine YQ (λhab=>absurd hab (by decide)) (λ_=>?_)
 have hSf:S∉[I,l]:=by
  simp only[mem_cons,not_mem_nil,or_false,not_or];exact⟨hSI,hSl⟩
 refine ye ⟨xV PySem.F.plain_extend_loop _,codeAny_extend_loopS W hn S hSf _ items.size 0 _ #[] _ rfl (Yl _) ⟨Yl _,by simpa using hI2,hl2⟩ hS2 (ItemsOf.nil _) λs' acc' c' hm hS' hacc=>?_⟩;rw[Moved.eq_with hm];refine⟨rfl,?_⟩;rw[<-hS0]at hS' ⊢;refine hQ s'.heap s'.toks acc' c' (λb o hb e=>hm.heap b o (λhmem=>?_) (k2 b o e)) hS' hacc;rcases List.mem_cons.mp hmem with e'|hmem
 ·exact oldS b o e e'
 ·exact hb (List.mem_singleton.mp hmem)
variable {pos2 p1 p2:xU}
def zSr(G:FE):FE:=λJ μ=>(G J μ).bind λp=>match p.1 with
 |.loc n=>match p.2[n]? with
  |some (.lst ds)=>some (.loc p.2.length,p.2++[.lst ds.reverse])
  |_=>none
 |_=>none
def zus{items:List yb}{vs:List V}{its:List yb}(rv:Vals vs items)(hl:its.length=items.length)(h:∀(j:Nat)(v:yb),its[j]?=some v->items[items.length-1-j]?=some v):Vals vs.reverse its:=by
 have e:its=items.reverse:=by
  refine ext_getElem? λj=>?_
  by_cases hj:j<its.length
  ·have h1:its[j]?=some its[j]:=by simp[hj]
   rw[List.getElem?_reverse (by omega),h j _ h1,h1]
  ·rw[Ym (by omega),Ym (by simp;omega)]
 rw[e];exact rv.reverse
def zzq{K:yx}{Z:List yf}{H:Hp}:∀{ds:List D} {vs:List V},tj K Z H ds vs->tj K Z H ds.reverse vs.reverse
 |[],vs,r=>by rw[r.nil_inv];exact .nil
 |d::ds,vs,r=>by
  obtain⟨v,q,rfl,h1,h2⟩:=r.cons_inv;rw[List.reverse_cons,List.reverse_cons];exact(zzq h2).append (.cons h1 .nil)
def zix(X:Cx)(tl:TE):TE:=λY H Q=>tl Y H λx H1=>∃a ys,x=.ref a/\SqL X.K H1 a ys/\∀q,H1 q=none->Q (.ref q) (upd H1 q (.lst ys.reverse))
def zFu{l:yC}{tl:TE}(hm1:X.mg "list"=none)(hv1:yH "list"=some (.type "list"))(hm2:X.mg "reversed"=none)(hv2:yH "reversed"=some (.type "reversed"))(hl:PE X l tl)(hc:X.calm=true)(hg1:Gl X "list")(hg2:Gl X "reversed")
 (he:yw [l] X.env=(false,Yq l X.env)::yw [] X.env) (he2:yw [.Call (.Name "reversed" p2) [l] [] pos2] X.env=(false,Yq (.Call (.Name "reversed" p2) [l] [] pos2) X.env)::yw [] X.env) :
 PE X (.Call (.Name "list" p1) [.Call (.Name "reversed" p2) [l] [] pos2] [] pos) (zix X tl):=by
 intro pins s Y H Q I h;refine xK (zvi I hg1 hm1 hv1 ?_ (by decide) (by decide));refine Yy ?_ he2 rfl;rw[he2];show yp _ _ (spliced ((false,Yq (.Call (.Name "reversed" p2) [l] [] pos2) X.env)::xn pos (yw [] X.env))) _ _ s;refine Calls.spliced_cons ?_;refine xK (zvi I hg2 hm2 hv2 ?_ (by decide) (by decide))
 refine Yy (thn (zbf hl zii he pos2 pins s Y H (λvs H1=>match vs with
  |[x]=>∃a ys,x=.ref a/\SqL X.K H1 a ys/\∀q,H1 q=none->Q (.ref q) (upd H1 q (.lst ys.reverse))
  |_=>False) I h) λus s1 ⟨vs,H1,I1,r1,q1⟩=>?_) he rfl
 dsimp only at q1
 split at q1
 case h_2=>exact q1.elim
 obtain⟨a,ys,e,hq,q⟩:=q1;subst e
 cases r1 with
 |cons r rr=>
  cases rr;cases r;obtain⟨its,rv,pl,hz⟩:=I1.list hq;have hlen:=rv.length;refine call_reversed_list pl.isList ?_;refine Calls.spliced_nil ?_;have I2:Inv X pins Y H1 {s1 with heap:=s1.heap.push (revObj a ((its.toArray.size:Int)-1))}:=I1.kept (t':=s1.toks) λb o e=>yc _ e;have halt:a<s1.heap.objs.size:=by obtain⟨_,_,e,_⟩:=pl;exact ym e
  have hf:∀b∈[s1.heap.objs.size],zum X pins H1 b:=λb hb=>by
   have e:b=s1.heap.objs.size:=by simpa using hb
   subst e;exact I1.sE (yi _) (I1.hok.fresh (yi _))
  refine zts (s:={s1 with heap:=s1.heap.push (revObj a ((its.toArray.size:Int)-1))}) (I.ok.hd hc) (yq halt) ⟨_,yk _ rfl,rfl,rfl⟩ (pl.isList.push _) (by simp;omega) λh' tk acc' c' kp e hi=>?_;obtain⟨hi1,hi2⟩:=hi;have hv:=zus (its:=acc'.toList) rv (by simpa using hi1) λj v e=>by simpa using hi2 j v (by simpa using e)
  refine⟨.ref _,_,zsc (t':=tk) I2 hf (λb o hb e=>kp b o (by simpa using hb) e) (yi _) (show tJ X.prog X.w _ h' _ (.lst ys.reverse) from⟨by simp;omega,acc'.toList,c',hv,by simpa using e⟩),rfl,q _ (I2.hok.fresh (yi _))⟩
def ztt(hm1:X.mg "list"=none)(hv1:yH "list"=some (.type "list"))(hm2:X.mg "reversed"=none)(hv2:yH "reversed"=some (.type "reversed"))(h:ME X e G)(hc:X.calm=true:=by rfl)(hg1:Gl X "list":=by rfl)(hg2:Gl X "reversed":=by rfl)
 (he:yw [e] X.env=(false,Yq e X.env)::yw [] X.env:=by rfl) (he2:yw [.Call (.Name "reversed" p2) [e] [] pos2] X.env=(false,Yq (.Call (.Name "reversed" p2) [e] [] pos2) X.env)::yw [] X.env:=by rfl) :
 ME X (.Call (.Name "list" p1) [.Call (.Name "reversed" p2) [e] [] pos2] [] pos) (zSr G) :=
 zsd (zFu hm1 hv1 hm2 hv2 h hc hg1 hg2 he he2) λZ J μ Y H d μ' Q A e k=>by
  obtain⟨⟨x,μ1⟩,e1,e⟩:=zl e;refine⟨Z,J,μ,x,μ1,A,e1,λZ1 H1 v x1 R1 r1=>?_⟩;dsimp only at e
  split at e
  ·split at e
   ·rename_i hm
    cases e;obtain⟨p,rfl,ep⟩:=r1.tx;obtain⟨vs,e3,q⟩:=R1.at_ _ _ _ ep hm;exact⟨p,vs,rfl,SqL.of e3,λq' hq'=>k _ _ _ (x1.trans (Ext.push hq')) (R1.push hq' ⟨_,zC,(zzq q).ext (Ext.push hq')⟩) (.loc (zrb R1))⟩
   ·cases e
  ·cases e
variable {te:TE}{stp:yC}{ts:TO}
def z8i(ns:List Int):List Int:=ns.mergeSort λa b=>decide (a<=b)
def z6h:GL:=λds μ=>match ds with
 |[.loc n]=>match μ[n]? with
  |some (.lst xs)=>(zbj xs).bind λns=>bif decide (ns.length<64) then some (.loc μ.length,μ++[.lst ((z8i ns).map .int)]) else none
  |_=>none
 |_=>none
def zgf(hc:X.calm=true):tU X (.builtin "sorted") z6h:=by
 refine tU.of λpins s Y H xs us Q I r Z ds μ d μ' r1 R e k=>?_;unfold z6h at e
 split at e
 ·split at e
  ·rename_i hm
   obtain⟨ns,e2,e⟩:=zl e;obtain⟨hp,e⟩:=zP e;have hp:=of_decide_eq_true hp;cases e;rw[zte e2]at hm;obtain⟨v,rr,rfl,q1,q2⟩:=r1.cons_inv;obtain⟨a,rfl,ea⟩:=q1.tx;obtain⟨vs,e3,q3⟩:=R.at_ _ _ _ ea hm;rw[zWf q3]at e3;rw[q2.nil_inv]at r;obtain⟨u,rfl,ru⟩:=vals1 r;cases ru;obtain⟨its,rv,pl,hz⟩:=I.list (SqL.of (K:=X.K) e3);have hl:its.length=ns.length:=by rw[<-rv.length];simp
   refine sorted_ints pl.isList (zWe rv) (by omega) λout ns' a1 a2 a3=>?_;have hms:ns'=z8i ns:=zjc (a2.trans (mergeSort_perm _ _).symm) a3 (zBg _);subst hms;obtain⟨e0,he⟩:=sortedAll_at s.heap its out;have hf:=I.hok.fresh (Nat.le_succ s.heap.objs.size);have hlen:(z8i ns).length=ns.length:=a2.length_eq;refine⟨.ref (s.heap.objs.size+1),_,I.laid (t':=s.toks) (o:=.lst ((z8i ns).map V.int)) (λ_ _=>sortedAll_old) (Nat.le_succ _) ?_,rfl,k _ _ _ (Ext.push hf) (R.push hf ⟨_,zC,z5d⟩) (.loc (zrb R))⟩;exact⟨by simp;rw[YN];omega,out.toList,e0,z4c a1,by simpa using he⟩
  ·cases e
 ·cases e
def zpj{it t:yf}{items:Array yb}(hne:t≠it):∀(n i:Nat)(s:yd)(Q:List yb->yd->Prop),s.heap.IsListIter it t i->s.heap.IsList t items->i+n<=items.size ->
 (∀h',h'.IsListIter it t (i+n)->yI it s.heap h'->Q ((items.toList.drop i).take n) {s with heap:=h' })->yp (yz prog w) A (draw (.ref it) n) Q E s
 |0,i,s,Q,hit,_,_,hQ=>by
  show yp _ _ (pure []) Q E s;exact ye (by simpa using hQ s.heap hit (Heap.SameBut.refl ..))
 |n+1,i,s,Q,hit,ht,hle,hQ=>by
  have hlt:i<items.size:=by omega
  show yp _ _ (xo (.ref it) >>= _) Q E s;refine ya (wpAny_pyNext_list_item hit ht (x:=items[i]) (by simp[hlt]) λh₁ hit₁ hs₁=>?_);refine ya (yU (zpj hne n (i+1) _ _ hit₁ (ht.extBut hs₁.extBut hne) (by omega) λh₂ hit₂ hs₂=>ye ?_));have hd:items.toList.drop i=items[i]::items.toList.drop (i+1):=by simp[drop_eq_getElem_cons,hlt]
  have:=hQ h₂ (by rw[show i+(n+1)=i+1+n by omega];exact hit₂) (hs₁.trans hs₂);rw[hd,List.take_succ_cons]at this;exact this
def zIg{t:yf}{items:Array yb}{Q:List yb->yd->Prop}(hh:A.handled=none)(ht:s.heap.IsList t items)
 (hQ:∀h',xi s.heap.objs.size s.heap h'->Q items.toList {s with heap:=h' }):yp (yz prog w) A (unpackItems (.ref t) items.size none) Q E s:=by
 have hlt:t≠s.heap.objs.size:=by obtain⟨o,ho,_⟩:=ht;exact yq (ym ho)
 unfold unpackItems;refine ya ?_
 ·unfold notIterableAtAll;refine ya (YR ht.typeIs PySem.slot_list_iter.lookup ?_);refine ye ?_;simp only[xM,if_false];refine ya (yU (xu ht ?_));refine ya (yU (zpj hlt items.size 0 _ _ ⟨_,yk _ rfl,rfl,rfl⟩ (ht.push _) (by omega) λh₁ hit₁ hs₁=>?_))
  have hall:List.take items.size (List.drop 0 items.toList)=items.toList:=by
   rw[List.drop_zero];exact xf (by simp)
  rw[hall];rw[if_neg (by simp)];have ht₁:h₁.IsList t items:=(ht.push _).extBut hs₁.extBut hlt;refine ya (yU (wpAny_pyNext_list_end hh hit₁ ht₁ (by simp) λh₂ he₂=>?_));simp only[Option.isSome_none,xM,if_false];refine ye (hQ h₂ λb o hb e=>he₂ b o hb (hs₁.extBut b o hb (yc _ e)))
def zNg{env:Env}{elts:List yC}{x1}{pos:xU}{t:yf}{items:Array yb}{Q:Unit->yd->Prop}(hh:A.handled=none)(ht:s.heap.IsList t items)
 (hn:(Yh elts env).length=items.size) (hstar:(Yh elts env).findIdx? (·.1)=none)
 (h:∀h',xi s.heap.objs.size s.heap h'->yp (yz prog w) A (assignInOrder ((Yh elts env).map (·.2)) items.toList) Q E {s with heap:=h' }) :
 yp (yz prog w) A (assign (.Tuple elts x1 pos) env (.ref t)) Q E s:=by
 rw[assign_Tuple];refine ya (xy ?_);unfold unpack;rw[hn,hstar];exact ya (yU (zIg hh ht h))
def zAw(K:yx)(n:Nat)(t:TGs):TG:=λv Y H Q=>∃a xs,v=.ref a/\SqL K H a xs/\xs.length=n/\t xs Y H Q
def zpu{es:List yC}{k:Nat}{t:TGs}{n:Nat}(hc:X.calm=true)(h:PGs X es t)
 (hn:(Yh es X.env).length=n:=by rfl) (hst:(Yh es X.env).findIdx? (·.1)=none:=by rfl):PG X (.Tuple es k pos) (zAw X.K n t):=by
 intro pins s Y H v u Q I r hw;obtain⟨a,xs,e1,hq,hl,hw⟩:=hw;subst e1;cases r;obtain⟨its,rv,pl,hz⟩:=I.list hq;refine zNg (I.ok.hd hc) pl.isList (by simp[hn,<-hl,rv.length]) hst λh' hx=>?_;have I1:Inv X pins Y H {s with heap:=h' }:=I.kept (t':=s.toks) λb o e=>hx b o (yq (ym e)) e;exact h pins _ Y H xs _ Q I1 (by simpa using rv) hw
def gTL(n:Nat)(gs:FGs):FG:=λd J μ=>match d with
 |.loc l=>match μ[l]? with
  |some (.lst ds)=>bif ds.length==n then gs ds J μ else none
  |_=>none
 |_=>none
def zHu{es:List yC}{k n:Nat}{gs:FGs}(h:MGs X es gs)(hc:X.calm=true:=by rfl)(hn:(Yh es X.env).length=n:=by rfl)(hst:(Yh es X.env).findIdx? (·.1)=none:=by rfl):MG X (.Tuple es k pos) (gTL n gs) :=
 mg_of (zpu hc h hn hst) λZ J μ d J' μ' v Y H Q A q e k=>by
  unfold gTL at e
  split at e
  ·split at e
   ·rename_i hm
    obtain⟨h1,e⟩:=zP e;obtain⟨a,rfl,ea⟩:=q.tx;obtain⟨vs,e3,q2⟩:=A.hp.at_ _ _ _ ea hm;exact⟨a,vs,rfl,SqL.of e3,by rw[<-q2.length];exact beq_iff_eq.mp h1,Z,J,μ,_,J',μ',A,q2,e,k⟩
   ·cases e
  ·cases e
end
inductive Kd
 |l
 |t
def Kd.nm:Kd->String
 |.l=>"list_iterator"
 |.t=>"tuple_iterator"
def Tl:Kd->yW->yf->Array yb->Prop
 |.l,h,a,xs=>h.IsList a xs
 |.t,h,a,xs=>h.IsTuple a xs
def sk(k:Kd)(h:yW)(it a:yf)(i:Nat):Prop:=∃o,h.get? it=some o/\o.cls=.type k.nm/\o.data=.fields #[.ref a,.int i 0]
def sk.at{k:Kd}{h h':yW}{it a:yf}{i:Nat}(x:sk k h it a i)(e:∀o,h.get? it=some o->h'.get? it=some o):sk k h' it a i:=by
 obtain⟨o,h1,h2⟩:=x;exact⟨o,e o h1,h2⟩
def Tl.at{k:Kd}{h h':yW}{a:yf}{xs:Array yb}(x:Tl k h a xs)(e:∀o,h.get? a=some o->h'.get? a=some o):Tl k h' a xs:=by
 cases k<;>(obtain⟨o,h1,h2⟩:=x;exact⟨o,e o h1,h2⟩)
def JK(K:yx):Kd->yf->It
 |.l,a=>Itl K a
 |.t,a=>Itt K a
section
variable {prog:yy}{w:yL}{A:yR}{E:yb->yd->Prop}{s:yd}
def nextK{k:Kd}{it a:yf}{i:Nat}{xs:Array yb}{x:yb}{Q:yb->yd->Prop}(hit:sk k s.heap it a i)(ha:Tl k s.heap a xs)(hx:xs[i]?=some x)
 (hQ:∀h',sk k h' it a (i+1)->yI it s.heap h'->Q x {s with heap:=h' }):yp (yz prog w) A (yK (.ref it)) Q E s:=by
 cases k
 ·exact wpAny_nextOf_list_item (l:=a) hit ha hx hQ
 ·exact nextT (t:=a) hit ha hx hQ
def zyl{k:Kd}{it a:yf}{i:Nat}{xs:Array yb}{Q:yb->yd->Prop}(hh:A.handled=none)(hit:sk k s.heap it a i)(ha:Tl k s.heap a xs)(hx:xs[i]?=none)
 (hE:∀h' e,xi it s.heap h'->(∃o,h'.get? e=some o/\o.cls=.type "StopIteration")->E (.ref e) {s with heap:=h' }):yp (yz prog w) A (yK (.ref it)) Q E s:=by
 cases k
 ·exact wpAny_nextOf_list_end (l:=a) hh hit ha hx hE
 ·exact zSl (t:=a) hh hit ha hx hE
def iterK{k:Kd}{a:yf}{xs:Array yb}{Q:yb->yd->Prop}(ha:Tl k s.heap a xs)(hQ:Q (.ref s.heap.objs.size) {s with heap:=s.heap.push {cls:=.type k.nm,data:=.fields #[.ref a,.int 0 0]}}):yp (yz prog w) A (pyIter (.ref a)) Q E s:=by
 cases k
 ·exact xu ha hQ
 ·exact xJ ha hQ
end
structure Zp(z t o i1 i2 a1 a2:yf):Prop where
 nd:[z,t,o,i1,i2].Nodup
 n1:a1∉[z,t,o,i1,i2]
 n2:a2∉[z,t,o,i1,i2]
structure Zs(k1 k2:Kd)(z t o i1 i2 a1 a2:yf)(f:yb)(m1 m2:Nat)(h:yW):Prop where
 hz:IsZip h z t o f
 ht:IsPair h t (.ref i1) (.ref i2)
 ho:∃p q,IsPair h o p q
 h1:sk k1 h i1 a1 m1
 h2:sk k2 h i2 a2 m2
section
variable {prog:yy}{w:yL}{A:yR}{E:yb->yd->Prop}{s:yd}{k1 k2:Kd}{z t o i1 i2 a1 a2:yf}
def zNr{i:Nat}{xs ys:Array yb}{x y:yb}{Q:Option yb->yd->Prop}(d:Zp z t o i1 i2 a1 a2)(st:Zs k1 k2 z t o i1 i2 a1 a2 .none i i s.heap)(l1:Tl k1 s.heap a1 xs)(l2:Tl k2 s.heap a2 ys)(hx:xs[i]?=some x)(hy:ys[i]?=some y)
 (hQ:∀h',Zs k1 k2 z t o i1 i2 a1 a2 (YD s.heap.objs.size) (i+1) (i+1) h'->h'.get? s.heap.objs.size=some {cls:=.type "tuple",data:=.seq #[x,y]}->(∀b u,b∉[z,t,o,i1,i2]->s.heap.get? b=some u->h'.get? b=some u)->Q (some (.ref s.heap.objs.size)) {s with heap:=h' }) :
 yp (yz prog w) A (xo (.ref z)) Q E s:=by
 obtain⟨hp,g,dr,tk,os⟩:=s;obtain⟨hz,ht,⟨p,q,ho⟩,h1,h2⟩:=st;obtain⟨nd,n1,n2⟩:=d;simp only[nodup_cons,mem_cons,not_mem_nil,or_false,not_or,not_false_eq_true,nodup_nil,and_true]at nd n1 n2;obtain⟨⟨dzt,dzo,dz1,dz2⟩,⟨dto,dt1,dt2⟩,⟨do1,do2⟩,d12⟩:=nd;obtain⟨nz,nt,no,n11,n12⟩:=n1;obtain⟨mz,mt,mo,m11,m12⟩:=n2;have hT:Shared.TypeIs ⟨hp,g,dr,tk,os⟩ (.ref z) "zip":=⟨_,hz,rfl⟩
 unfold xo;refine ya (xz (yQ (name:=YA "__next__") hT F.slot_zip_next (yM F.slot_zip_next hT F.entry_zip_next ?_ (F.args_zip_next_1 _))));show yp _ _ (field (.ref z) 2 >>= _) _ _ _;refine ya (Yd hz rfl (x:=.bool false) rfl ?_);show yp _ _ (field (.ref z) 3 >>= _) _ _ _;refine ya (Yd hz rfl (x:=.ref t) rfl (ya (YF ht rfl ?_)));show yp _ _ (Yb (.ref z) >>= _) _ _ _;unfold Yb;refine ya (ya (Yd hz rfl (x:=.none) rfl (ye ?_)));simp only[if_true];refine ya (wpAny_rule (ya (Yd hz rfl (x:=.ref o) rfl (ya (Yi hz (by simp) λha za sa=>?_)))));replace za:IsZip ha z t o .ellipsis:=za;replace sa:yI z hp ha:=sa;simp only[List.zipIdx_cons,List.zipIdx_nil,List.forIn_cons,forIn_nil];refine ya (ya (ya (wpAny_onRaise ?_)));show yp _ _ (yK (.ref i1) >>= _) _ _ ⟨ha,g,dr,tk,os⟩;have ka:∀b u,b≠z->hp.get? b=some u->ha.get? b=some u:=λb u hb e=>(sa.2 b hb).trans e;refine ya (nextK (h1.at λu e=>ka _ u (yE dz1) e) (l1.at λu e=>ka _ u nz e) hx λhb ib sb=>ye ?_);replace sb:yI i1 ha hb:=sb;have kb:∀b u,b≠z->b≠i1->hp.get? b=some u->hb.get? b=some u:=λb u e1 e2 e=>(sb.2 b e2).trans (ka b u e1 e);have ob:IsPair hb o p q:=kb o _ (yE dzo) do1 ho;refine ya (YF (s:=⟨hb,g,dr,tk,os⟩) ob rfl (ya (wpAny_updateSeq_pair ob λhc oc sc=>ya (wpAny_letGo (ye ?_)))));replace oc:IsPair hc o x q:=oc;replace sc:yI o hb hc:=sc;have kc:∀b u,b≠z->b≠i1->b≠o->hp.get? b=some u->hc.get? b=some u:=λb u e1 e2 e3 e=>(sc.2 b e3).trans (kb b u e1 e2 e);refine ya (ya (wpAny_onRaise ?_));show yp _ _ (yK (.ref i2) >>= _) _ _ ⟨hc,g,dr,tk,os⟩;refine ya (nextK (h2.at λu e=>kc _ u (yE dz2) (yE d12) (yE do2) e) (l2.at λu e=>kc _ u mz m11 mo e) hy λhd id' sd=>ye ?_);replace sd:yI i2 hc hd:=sd;have od:IsPair hd o x q:=(sd.2 o do2).trans oc;refine ya (YF (s:=⟨hd,g,dr,tk,os⟩) od rfl (ya (wpAny_updateSeq_pair od λhe oe se=>ya (wpAny_letGo (ye (ye ?_))))));replace oe:IsPair he o x y:=oe;replace se:yI o hd he:=se;have ke:∀b u,b≠z->b≠i1->b≠o->b≠i2->hp.get? b=some u->he.get? b=some u:=λb u e1 e2 e3 e4 e=>(se.2 b e3).trans ((sd.2 b e4).trans (kc b u e1 e2 e3 e));refine ya (YF (s:=⟨he,g,dr,tk,os⟩) oe rfl (ya (wpAny_newTuple ?_)));have zs:he.objs.size=hp.objs.size:=by rw[se.1,sd.1,sc.1,sb.1,sa.1]
 have ze:IsZip he z t o .ellipsis:=(se.2 z dzo).trans ((sd.2 z dz2).trans ((sc.2 z dzo).trans ((sb.2 z dz1).trans za)));have i1e:sk k1 he i1 a1 (i+1):=ib.at λu e=>(se.2 i1 (yE do1)).trans ((sd.2 i1 d12).trans ((sc.2 i1 (yE do1)).trans e));have i2e:sk k2 he i2 a2 (i+1):=id'.at λu e=>(se.2 i2 (yE do2)).trans e;have lz:z<hp.objs.size:=ym hz;have nz4:hp.objs.size≠z:=yV lz;obtain⟨hf,ehf⟩:∃hf,hf=he.push {cls:=.type "tuple",data:=.seq #[x,y]}:=⟨_,rfl⟩
 have pf:∀b u,he.get? b=some u->hf.get? b=some u:=λb u e=>by rw[ehf];exact yc _ e
 have tf:hf.get? hp.objs.size=some {cls:=.type "tuple",data:=.seq #[x,y]}:=by rw[ehf,<-zs];exact yk _ rfl
 show yp _ _ (YC (.ref z) (.ref he.objs.size) >>= _) _ _ ⟨he.push {cls:=.type "tuple",data:=.seq #[x,y]},g,dr,tk,os⟩;rw[<-ehf,zs];unfold YC;refine ya (ya (Yi (pf _ _ ze) (by simp) λhg' zg sg=>?_));replace zg:IsZip hg' z t o (YD hp.objs.size):=zg;replace sg:yI z hf hg':=sg;refine Yi zg (by simp) λhi zi si=>ye ⟨_,rfl,?_⟩;replace zi:IsZip hi z t o (YD hp.objs.size):=zi;replace si:yI z hg' hi:=si;have ki:∀b u,b≠z->he.get? b=some u->hi.get? b=some u:=λb u e1 e=>(si.2 b e1).trans ((sg.2 b e1).trans (pf b u e));refine ye (hQ hi ⟨zi,ki _ _ (yE dzt) (ke _ _ (yE dzt) dt1 dto dt2 ht),⟨x,y,ki _ _ (yE dzo) oe⟩,i1e.at λu e=>ki _ u (yE dz1) e,i2e.at λu e=>ki _ u (yE dz2) e⟩ ?_ λb u hb e=>?_)
 ·exact(si.2 _ nz4).trans ((sg.2 _ nz4).trans tf)
 ·simp only[mem_cons,not_mem_nil,or_false,not_or]at hb;exact ki b u hb.1 (ke b u hb.1 hb.2.2.2.1 hb.2.2.1 hb.2.2.2.2 e)
def znt{i:Nat}{xs ys:Array yb}{Q:Option yb->yd->Prop}(hh:A.handled=none)(d:Zp z t o i1 i2 a1 a2)(st:Zs k1 k2 z t o i1 i2 a1 a2 .none i i s.heap)(l1:Tl k1 s.heap a1 xs)(l2:Tl k2 s.heap a2 ys)(hend:xs[i]?=none\/ys[i]?=none)
 (hQ:∀h',(∀b u,b∉[z,t,o,i1,i2]->s.heap.get? b=some u->h'.get? b=some u)->Q none {s with heap:=h' }):yp (yz prog w) A (xo (.ref z)) Q E s:=by
 obtain⟨hp,g,dr,tk,os⟩:=s;obtain⟨hz,ht,⟨p,q,ho⟩,h1,h2⟩:=st;obtain⟨nd,n1,n2⟩:=d;simp only[nodup_cons,mem_cons,not_mem_nil,or_false,not_or,not_false_eq_true,nodup_nil,and_true]at nd n1 n2;obtain⟨⟨dzt,dzo,dz1,dz2⟩,⟨dto,dt1,dt2⟩,⟨do1,do2⟩,d12⟩:=nd;obtain⟨nz,nt,no,n11,n12⟩:=n1;obtain⟨mz,mt,mo,m11,m12⟩:=n2;have hT:Shared.TypeIs ⟨hp,g,dr,tk,os⟩ (.ref z) "zip":=⟨_,hz,rfl⟩
 unfold xo;refine ya (xz (yQ (name:=YA "__next__") hT F.slot_zip_next (yM F.slot_zip_next hT F.entry_zip_next ?_ (F.args_zip_next_1 _))));show yp _ _ (field (.ref z) 2 >>= _) _ _ _;refine ya (Yd hz rfl (x:=.bool false) rfl ?_);show yp _ _ (field (.ref z) 3 >>= _) _ _ _;refine ya (Yd hz rfl (x:=.ref t) rfl (ya (YF ht rfl ?_)));show yp _ _ (Yb (.ref z) >>= _) _ _ _;unfold Yb;refine ya (ya (Yd hz rfl (x:=.none) rfl (ye ?_)));simp only[if_true];refine ya (wpAny_rule (ya (Yd hz rfl (x:=.ref o) rfl (ya (Yi hz (by simp) λha za sa=>?_)))));replace za:IsZip ha z t o .ellipsis:=za;replace sa:yI z hp ha:=sa;simp only[List.zipIdx_cons,List.zipIdx_nil,List.forIn_cons,forIn_nil];refine ya (ya (ya (wpAny_onRaise ?_)));show yp _ _ (yK (.ref i1) >>= _) _ _ ⟨ha,g,dr,tk,os⟩;have ka:∀b u,b≠z->hp.get? b=some u->ha.get? b=some u:=λb u hb e=>(sa.2 b hb).trans e;have l1a:=l1.at λu e=>ka _ u nz e;have h1a:=h1.at λu e=>ka _ u (yE dz1) e
 cases hx:xs[i]? with
 |none=>
  refine ya (zyl hh h1a l1a hx λhb e sb hs=>?_);replace sb:xi i1 ha hb:=sb;obtain⟨u,hu,hc⟩:=hs;have zb:IsZip hb z t o .ellipsis:=sb _ _ dz1 za
  have ez:e≠z:=by
   rintro rfl;rw[zb]at hu;cases hu;simp at hc
  refine Yi zb (by simp) λhc' zc sc=>ya (xG (T:="StopIteration") (b:=true) ⟨u,(sc.2 e ez).trans hu,hc⟩ isSubtype_stop (ye (hQ _ λb u hb e=>?_)));simp only[mem_cons,not_mem_nil,or_false,not_or]at hb;exact(sc.2 b hb.1).trans (sb b u hb.2.2.2.1 (ka b u hb.1 e))
 |some x=>
  have hy:ys[i]?=none:=by
   rcases hend with h|h
   ·rw[hx]at h;cases h
   ·exact h
  refine ya (nextK h1a l1a hx λhb ib sb=>ye ?_);replace sb:yI i1 ha hb:=sb;have kb:∀b u,b≠z->b≠i1->hp.get? b=some u->hb.get? b=some u:=λb u e1 e2 e=>(sb.2 b e2).trans (ka b u e1 e);have ob:IsPair hb o p q:=kb o _ (yE dzo) do1 ho;refine ya (YF (s:=⟨hb,g,dr,tk,os⟩) ob rfl (ya (wpAny_updateSeq_pair ob λhc oc sc=>ya (wpAny_letGo (ye ?_)))));replace sc:yI o hb hc:=sc;have kc:∀b u,b≠z->b≠i1->b≠o->hp.get? b=some u->hc.get? b=some u:=λb u e1 e2 e3 e=>(sc.2 b e3).trans (kb b u e1 e2 e);refine ya (ya (wpAny_onRaise ?_));show yp _ _ (yK (.ref i2) >>= _) _ _ ⟨hc,g,dr,tk,os⟩;refine ya (zyl hh (h2.at λu e=>kc _ u (yE dz2) (yE d12) (yE do2) e) (l2.at λu e=>kc _ u mz m11 mo e) hy λhd e sd hs=>?_);replace sd:xi i2 hc hd:=sd;obtain⟨u,hu,hcl⟩:=hs;have zd:IsZip hd z t o .ellipsis:=sd _ _ dz2 ((sc.2 z dzo).trans ((sb.2 z dz1).trans za))
  have ez:e≠z:=by
   rintro rfl;rw[zd]at hu;cases hu;simp at hcl
  refine Yi zd (by simp) λhe ze se=>ya (xG (T:="StopIteration") (b:=true) ⟨u,(se.2 e ez).trans hu,hcl⟩ isSubtype_stop (ye (hQ _ λb u hb e=>?_)));simp only[mem_cons,not_mem_nil,or_false,not_or]at hb;exact(se.2 b hb.1).trans (sd b u hb.2.2.2.2 (kc b u hb.1 hb.2.2.2.1 hb.2.2.1 e))
end
abbrev zpA(k:Kd)(a:yf):YY:={cls:=.type k.nm,data:=.fields #[.ref a,.int 0 0]}
abbrev zpB(h:yW)(k1 k2:Kd)(a1 a2:yf):yW:=(h.push (zpA k1 a1)).push (zpA k2 a2)
abbrev zpC(h:yW)(k1 k2:Kd)(a1 a2:yf):yW:=(zpB h k1 k2 a1 a2).push {cls:=.type "tuple",data:=.seq #[.ref h.objs.size,.ref (h.push (zpA k1 a1)).objs.size]}
abbrev zpD(h:yW)(k1 k2:Kd)(a1 a2:yf):yW:=(zpC h k1 k2 a1 a2).push {cls:=.type "tuple",data:=.seq #[.none,.none]}
abbrev zpE(h:yW)(k1 k2:Kd)(a1 a2:yf):yW:=(zpD h k1 k2 a1 a2).push {cls:=.type "zip",data:=.fields #[.none,.bool false,.bool false,.ref (zpB h k1 k2 a1 a2).objs.size,.ref (zpC h k1 k2 a1 a2).objs.size]}
def zss(k1 k2:Kd)(a1 a2:yf)(xs ys:Array yb):Meets (xw.«zip.__new__» ⟨[.type "zip",.ref a1,.ref a2],[]⟩) (λ_ R s=>Tl k1 s.heap a1 xs/\Tl k2 s.heap a2 ys/\R (.ok (.ret (.ref (zpD s.heap k1 k2 a1 a2).objs.size))) {s with heap:=zpE s.heap k1 k2 a1 a2 }) :=
 .of_wp λprog w A R s h=>by
  obtain⟨hp,g,d,tk,os⟩:=s;obtain⟨l1,l2,h⟩:=h;have hsub:=sub_zip;have q1:Tl k1 (Shared.heap ⟨hp,g,d,tk,os⟩) a1 xs:=l1;have q2:Tl k2 (Shared.heap ⟨hp.push (zpA k1 a1),g,d,tk,os⟩) a2 ys:=l2.at λu e=>yc _ e
  wp_walk using iterK q1,iterK q2
  exact⟨_,rfl,h⟩
section
variable {prog:yy}{w:yL}{A:yR}{E:yb->yd->Prop}{s:yd}{k1 k2:Kd}{a1 a2:yf}
def zsq{xs ys:Array yb}{Q:yb->yd->Prop}(l1:Tl k1 s.heap a1 xs)(l2:Tl k2 s.heap a2 ys)
 (h:∀h',Zs k1 k2 (s.heap.objs.size+4) (s.heap.objs.size+2) (s.heap.objs.size+3) s.heap.objs.size (s.heap.objs.size+1) a1 a2 .none 0 0 h'->(∀b u,s.heap.get? b=some u->h'.get? b=some u)->Q (.ref (s.heap.objs.size+4)) {s with heap:=h' }) :
 yp (yz prog w) A (call (.type "zip") [.ref a1,.ref a2]) Q E s:=by
 refine callType_new F.called_zip (by decide) (F.typeCall_zip_2 _ _) (F.newCall_zip_2 _ _) (λobj=>F.args_object_init_3 obj _ _) F.entry_zip_new (zss k1 k2 a1 a2 xs ys) ⟨l1,l2,?_⟩;have z1:(s.heap.push (zpA k1 a1)).objs.size=s.heap.objs.size+1:=yZ ..;have z2:(zpB s.heap k1 k2 a1 a2).objs.size=s.heap.objs.size+2:=by rw[yZ,z1]
 have z3:(zpC s.heap k1 k2 a1 a2).objs.size=s.heap.objs.size+3:=by rw[yZ,z2]
 have z4:(zpD s.heap k1 k2 a1 a2).objs.size=s.heap.objs.size+4:=by rw[yZ,z3]
 obtain⟨hE,eE⟩:∃hE,hE=zpE s.heap k1 k2 a1 a2:=⟨_,rfl⟩
 have up:∀b u,(zpC s.heap k1 k2 a1 a2).get? b=some u->hE.get? b=some u:=λb u e=>by rw[eE];exact yc _ (yc _ e)
 have e5:hE.get? (zpD s.heap k1 k2 a1 a2).objs.size=some {cls:=.type "zip",data:=.fields #[.none,.bool false,.bool false,.ref (zpB s.heap k1 k2 a1 a2).objs.size,.ref (zpC s.heap k1 k2 a1 a2).objs.size]}:=by rw[eE];exact yk _ rfl
 have e4:hE.get? (zpC s.heap k1 k2 a1 a2).objs.size=some {cls:=.type "tuple",data:=.seq #[.none,.none]}:=by rw[eE];exact yc _ (yk _ rfl)
 have e3:hE.get? (zpB s.heap k1 k2 a1 a2).objs.size=some {cls:=.type "tuple",data:=.seq #[.ref s.heap.objs.size,.ref (s.heap.push (zpA k1 a1)).objs.size]}:=up _ _ (yk _ rfl);have e2:hE.get? (s.heap.push (zpA k1 a1)).objs.size=some (zpA k2 a2):=up _ _ (yc _ (yk _ rfl));have e1:hE.get? s.heap.objs.size=some (zpA k1 a1):=up _ _ (yc _ (yc _ (yk _ rfl)));rw[z2,z3,z4]at e5;rw[z3]at e4;rw[z1,z2]at e3;rw[z1]at e2;show _/\_;rw[<-eE,z4];exact⟨⟨_,e5,rfl⟩,h _ ⟨e5,e3,⟨_,_,e4⟩,⟨_,e1,rfl,rfl⟩,⟨_,e2,rfl,rfl⟩⟩ λb u e=>up b u (yc _ (yc _ (yc _ e)))⟩
end
def Izp(δ1 δ2:It):It:=⟨λi H=>δ1.go i H/\δ2.go i H,λi H x H'=>∃p y1 y2,x=.ref p/\H p=none/\H'=upd H p (.tup [y1,y2])/\δ1.yld i H y1 H/\δ2.yld i H y2 H,λi H=>(δ1.stop i H/\(δ2.go i H\/δ2.stop i H))\/(δ1.go i H/\δ2.stop i H)⟩
def SqK(K:yx):Kd->Hp->yf->List V->Prop
 |.l=>SqL K
 |.t=>SqT K
section
variable {X:Cx}{pins:List (yf×YY)}{Y:L2.St}{H:Hp}{s:yd}
def zEj{k:Kd}{a:yf}{xs:List V}(I:Inv X pins Y H s)(hq:SqK X.K k H a xs):∃its:List yb,Vals xs its/\Tl k s.heap a its.toArray:=by
 cases k
 ·obtain⟨its,rv,p,_⟩:=I.list hq;exact⟨its,rv,p.isList⟩
 ·obtain⟨its,rv,p,_⟩:=I.tuple hq;exact⟨its,rv,p⟩
def ziq{k:Kd}{a:yf}{xs ys:List V}(I:Inv X pins Y H s)(h1:SqK X.K k H a xs)(h2:SqK X.K k H a ys):xs=ys:=by
 cases k
 ·exact I.TN h1 h2
 ·exact I.TH h1 h2
def sS{K:yx}{k:Kd}{a:yf}{i:Nat}:(JK K k a).go i H↔∃xs x,SqK K k H a xs/\xs[i]?=some x:=by
 cases k<;>exact Iff.rfl
def sY{K:yx}{k:Kd}{a:yf}{i:Nat}{x:V}{H':Hp}:(JK K k a).yld i H x H'↔H'=H/\∀xs,SqK K k H a xs->xs[i]?=some x:=by
 cases k<;>exact Iff.rfl
def sy{K:yx}{k:Kd}{a:yf}{i:Nat}:(JK K k a).stop i H↔∃xs,SqK K k H a xs/\xs.length<=i:=by
 cases k<;>exact Iff.rfl
def z2r{P:yy}{w:yL}{K:yx}{elts:List yC}{x1}{pos:xU}{k1 k2:Kd}{z t o i1 i2 a1 a2:yf}(d:Zp z t o i1 i2 a1 a2) :
 Turn P w K (.Tuple elts x1 pos) (Izp (JK K k1 a1) (JK K k2 a2)) [z,t,o,i1,i2] z (λi h=>Zs k1 k2 z t o i1 i2 a1 a2 .none i i h) where
 mem:=by simp
 obj:=λi h st b hb=>by
  obtain⟨hz,ht,⟨p,q,ho⟩,⟨u1,q1,_,d1⟩,⟨u2,q2,_,d2⟩⟩:=st;simp only[mem_cons,not_mem_nil,or_false]at hb;rcases hb with rfl|rfl|rfl|rfl|rfl
  ·exact⟨_,hz,λv e=>by have e':Data.fields _=Data.cell v:=e;cases e'⟩
  ·exact⟨_,ht,λv e=>by have e':Data.seq _ _=Data.cell v:=e;cases e'⟩
  ·exact⟨_,ho,λv e=>by have e':Data.seq _ _=Data.cell v:=e;cases e'⟩
  ·exact⟨u1,q1,λv e=>by rw[d1]at e;cases e⟩
  ·exact⟨u2,q2,λv e=>by rw[d2]at e;cases e⟩
 keep:=λi h h' st k=>by
  obtain⟨hz,ht,⟨p,q,ho⟩,h1,h2⟩:=st;exact⟨k z (by simp) _ hz,k t (by simp) _ ht,⟨p,q,k o (by simp) _ ho⟩,h1.at λu e=>k i1 (by simp) u e,h2.at λu e=>k i2 (by simp) u e⟩
 item:=by
  intro X hP hw hK hc i pins s Y H E I hf st hg;subst hP hw hK;obtain⟨g1,g2⟩:=hg;obtain⟨xs,x,hq1,hx⟩:=sS.mp g1;obtain⟨ys,y,hq2,hy⟩:=sS.mp g2;obtain⟨its1,rv1,p1⟩:=zEj I hq1;obtain⟨its2,rv2,p2⟩:=zEj I hq2;obtain⟨u1,hu1,ru1⟩:=rv1.get hx;obtain⟨u2,hu2,ru2⟩:=rv2.get hy;refine zNr d st p1 p2 (x:=u1) (y:=u2) (by simpa using hu1) (by simpa using hu2) λh' st' t' kk=>?_;obtain⟨hz',ht',⟨p,q,ho'⟩,h1',h2'⟩:=st';refine⟨_,rfl,wpAny_letOwnedTupleGo_zip hz' λh2 z2 sb2=>?_⟩;replace sb2:yI z h' h2:=sb2;have nd:=d.nd;simp only[nodup_cons,mem_cons,not_mem_nil,or_false,not_or,not_false_eq_true,nodup_nil,and_true]at nd;obtain⟨⟨dzt,dzo,dz1,dz2⟩,_⟩:=nd;have hlt:z<s.heap.objs.size:=ym st.hz;have t2:=(sb2.2 s.heap.objs.size (yV hlt)).trans t';have hfr:=I.hok.fresh (yi s.heap.objs.size)
  have I2:Inv X pins Y (upd H s.heap.objs.size (.tup [x,y])) {s with heap:=h2,toks:=s.toks }:=by
   refine zsc I hf (λb u hb e=>?_) (yi _) (zTm t2 ru1 ru2);exact(sb2.2 b λe=>hb (by simp[e])).trans (kk b u hb e)
  refine⟨.ref s.heap.objs.size,_,I2,rfl,⟨_,x,y,rfl,hfr,rfl,sY.mpr ⟨rfl,λzs hz=>by rw[ziq I hz hq1];exact hx⟩,sY.mpr ⟨rfl,λzs hz=>by rw[ziq I hz hq2];exact hy⟩⟩,
   ⟨z2,(sb2.2 t (yE dzt)).trans ht',⟨p,q,(sb2.2 o (yE dzo)).trans ho'⟩,h1'.at λu e=>(sb2.2 i1 (yE dz1)).trans e,h2'.at λu e=>(sb2.2 i2 (yE dz2)).trans e⟩,λb hb=>?_⟩
  rw[zU]
  ·exact(hf b hb).1
  ·rintro rfl;have fr:∀{c:yf} {u:YY},s.heap.get? c=some u->s.heap.objs.size≠c:=λe=>yV (ym e);obtain⟨hz,ht,⟨p,q,ho⟩,⟨u1,q1,_⟩,⟨u2,q2,_⟩⟩:=st;simp only[mem_cons,not_mem_nil,or_false]at hb;rcases hb with e|e|e|e|e
   ·exact fr hz e
   ·exact fr ht e
   ·exact fr ho e
   ·exact fr q1 e
   ·exact fr q2 e
 done:=by
  intro X hP hw hK hc i pins s Y H E I hf st hg;subst hP hw hK
  have fin:∀{xs ys:List V},SqK X.K k1 H a1 xs->SqK X.K k2 H a2 ys->(xs.length<=i\/ys.length<=i)->yp (yz X.prog X.w) X.A (xo (.ref z)) (λr s1=>r=none/\Inv X pins Y H s1) E s:=λ{xs ys} hq1 hq2 hl=>by
   obtain⟨its1,rv1,p1⟩:=zEj I hq1;obtain⟨its2,rv2,p2⟩:=zEj I hq2;have e1:=rv1.length;have e2:=rv2.length;refine znt (I.ok.hd hc) d st p1 p2 ?_ λh' kk=>⟨rfl,zMg (t':=s.toks) I hf λb u hb e=>kk b u hb e⟩
   rcases hl with hl|hl
   ·exact .inl (by simp;omega)
   ·exact .inr (by simp;omega)
  rcases hg with ⟨g1,g2⟩|⟨g1,g2⟩
  ·obtain⟨xs,hq1,hl⟩:=sy.mp g1;rcases g2 with g2|g2
   ·obtain⟨ys,y,hq2,_⟩:=sS.mp g2;exact fin hq1 hq2 (.inl hl)
   ·obtain⟨ys,hq2,_⟩:=sy.mp g2;exact fin hq1 hq2 (.inl hl)
  ·obtain⟨xs,x,hq1,_⟩:=sS.mp g1;obtain⟨ys,hq2,hl⟩:=sy.mp g2;exact fin hq1 hq2 (.inr hl)
 self:=λ_ _ _ _ _ st h=>wpAny_pyIter_zip st.hz h
def iZp(K:yx)(ta:TA):TI:=λY H R=>ta Y H λvs H1=>∃a1 a2 k1 k2 xs ys,vs=[.ref a1,.ref a2]/\SqK K k1 H1 a1 xs/\SqK K k2 H1 a2 ys/\R (Izp (JK K k1 a1) (JK K k2 a2)) H1
def Tl.lt{k:Kd}{h:yW}{a:yf}{xs:Array yb}(q:Tl k h a xs):a<h.objs.size:=by
 cases k<;>(obtain⟨o,e,_⟩:=q;exact ym e)
def z1u{a b:yC}{ta:TA}{elts:List yC}{x1}{tp p pos:xU}(hg:Gl X "zip")(hm:X.mg "zip"=none)(hv:yH "zip"=some (.type "zip"))(ha:PA X [a,b] ta)(hs:yw [a,b] X.env=[(false,Yq a X.env),(false,Yq b X.env)]:=by rfl)(hs2:yw [b] X.env=[(false,Yq b X.env)]:=by rfl) :
 PI X (.Tuple elts x1 tp) (.Call (.Name "zip" p) [a,b] [] pos) (iZp X.K ta):=by
 intro pins s Y H R I h;refine Call_ (zvi I hg hm hv (Yy (thn (ha pos pins s Y H _ I h) λus s1 ⟨vs,H1,I1,r1,q1⟩=>?_) (by rw[hs,hs2]) (by rw[hs2];rfl)));obtain⟨a1,a2,k1,k2,xs,ys,e,hq1,hq2,q⟩:=q1;subst e
 cases r1 with
 |cons r rr=>
  cases rr with
  |cons r' rr=>
   cases rr;cases r;cases r';obtain⟨its1,rv1,p1⟩:=zEj I1 hq1;obtain⟨its2,rv2,p2⟩:=zEj I1 hq2;have l1:=p1.lt;have l2:=p2.lt;refine zsq p1 p2 λh' st kp=>?_;refine wpAny_pyIter_zip (s:={s1 with heap:=h' }) st.hz ?_;have fp:∀b,s1.heap.objs.size<=b->zum X pins H1 b:=λb hb=>I1.sE hb (I1.hok.fresh hb);generalize s1.heap.objs.size=n at l1 l2 st fp;refine⟨_,[n+4,n+2,n+3,n,n+1],_,_,H1,rfl,I1.kept (t':=s1.toks) kp,z2r ⟨?_,?_,?_⟩,st,λb hb=>?_,q⟩
   ·simp
   ·simp only[mem_cons,not_mem_nil,or_false,not_or];exact⟨yq (YU 4 l1),yq (YU 2 l1),yq (YU 3 l1),yq l1,yq (YU 1 l1)⟩
   ·simp only[mem_cons,not_mem_nil,or_false,not_or];exact⟨yq (YU 4 l2),yq (YU 2 l2),yq (YU 3 l2),yq l2,yq (YU 1 l2)⟩
   ·simp only[mem_cons,not_mem_nil,or_false]at hb;rcases hb with rfl|rfl|rfl|rfl|rfl
    ·exact fp _ (Nat.le_add_right _ _)
    ·exact fp _ (Nat.le_add_right _ _)
    ·exact fp _ (Nat.le_add_right _ _)
    ·exact fp _ (yi _)
    ·exact fp _ (Nat.le_add_right _ _)
@[simp] def zYs(μ:Mem):D->Option (List D×(Mem->Bool))
 |.tup ds=>some (ds,yes)
 |.fz ds=>some (ds,yes)
 |.loc n=>match μ[n]? with
  |some (.lst ds)=>some (ds,z1i n ds)
  |_=>none
 |_=>none
def z5s{K:yx}{Z:List yf}{H:Hp}{μ:Mem}{d:D}{v:V}{ds:List D}{ok:Mem->Bool}(R:tF K Z H μ)(r:tm K Z H d v)(e:zYs μ d=some (ds,ok)):∃a k xs,v=.ref a/\SqK K k H a xs/\TV K (JK K k a) Z H ds ok:=by
 unfold zYs at e
 split at e
 ·cases e;obtain⟨a,vs,rfl,e2,q2⟩:=r.tT;exact⟨a,.t,vs,rfl,SqT.of e2,zsp e2 q2⟩
 ·cases e;obtain⟨a,vs,rfl,e2,q2⟩:=r.TJ;exact⟨a,.l,vs,rfl,e2.sq,zUj λZ' H' μ' x _ _=>⟨vs,(x.fz e2).sq,q2.ext x⟩⟩
 ·split at e
  ·rename_i hm
   cases e;obtain⟨a,rfl,e2⟩:=r.tx;obtain⟨vs,e3,q3⟩:=R.at_ _ _ _ e2 hm;refine⟨a,.l,vs,rfl,SqL.of e3,zUj λZ' H' μ'' x R' o=>?_⟩;obtain⟨vs',e4,q4⟩:=R'.at_ _ _ _ (x.get e2) (Tt.mp o);exact⟨vs',SqL.of e4,q4⟩
  ·cases e
 ·cases e
def zps(xs ys:List D):List D:=List.zipWith (λx y=>D.tup [x,y]) xs ys
def zot{xs ys:List D}{i:Nat}{d:D}(h:(zps xs ys)[i]?=some d):∃x y,xs[i]?=some x/\ys[i]?=some y/\d=.tup [x,y]:=by
 unfold zps at h;rw[List.getElem?_zipWith]at h
 cases e1:xs[i]? with
 |none=>rw[e1]at h;cases h
 |some x=>
  cases e2:ys[i]? with
  |none=>rw[e1,e2]at h;cases h
  |some y=>
   rw[e1,e2]at h;exact⟨x,y,rfl,rfl,(yY h).symm⟩
def zwv{K:yx}{δ1 δ2:It}{Z:List yf}{H:Hp}{xs ys:List D}{ok1 ok2:Mem->Bool}(h1:TV K δ1 Z H xs ok1)(h2:TV K δ2 Z H ys ok2):TV K (Izp δ1 δ2) Z H (zps xs ys) (λm=>ok1 m&&ok2 m):=by
 have hl:(zps xs ys).length=min xs.length ys.length:=by simp[zps]
 refine⟨λZ' H' μ' i x R o hi=>?_,λZ' H' μ' i x H'' d x' R o e ⟨p,y1,y2,e1,hp,e2,yl1,yl2⟩=>?_,λZ' H' μ' x R o=>?_⟩
 ·have o':=Bool.and_eq_true_iff.mp o;rw[hl]at hi;exact⟨h1.go Z' H' μ' i x R o'.1 (by omega),h2.go Z' H' μ' i x R o'.2 (by omega)⟩
 ·have o':=Bool.and_eq_true_iff.mp o;obtain⟨z1,z2,ez1,ez2,rfl⟩:=zot e;obtain⟨_,_,rz1⟩:=h1.yld Z' H' μ' i y1 H' z1 x' R o'.1 ez1 yl1;obtain⟨_,_,rz2⟩:=h2.yld Z' H' μ' i y2 H' z2 x' R o'.2 ez2 yl2;subst e1 e2;exact⟨Ext.new hp,R.Tg hp,.tup zC (.cons (rz1.ext (Ext.new hp)) (.cons (rz2.ext (Ext.new hp)) .nil))⟩
 ·have o':=Bool.and_eq_true_iff.mp o;rw[hl];rcases Nat.lt_trichotomy xs.length ys.length with h|h|h
  ·rw[Nat.min_eq_left (Ys h)];exact .inl ⟨h1.stop Z' H' μ' x R o'.1,.inl (h2.go Z' H' μ' _ x R o'.2 h)⟩
  ·rw[Nat.min_eq_left (Nat.le_of_eq h)];refine .inl ⟨h1.stop Z' H' μ' x R o'.1,.inr ?_⟩;rw[h];exact h2.stop Z' H' μ' x R o'.2
  ·rw[Nat.min_eq_right (Ys h)];exact .inr ⟨h1.go Z' H' μ' _ x R o'.1 h,h2.stop Z' H' μ' x R o'.2⟩
@[simp] def zMv(G:FA):FI:=λJ μ=>(G J μ).bind λp=>match p.1 with
 |[x,y]=>(zYs p.2 x).bind λu=>(zYs p.2 y).bind λv=>some (zps u.1 v.1,(λm=>u.2 m&&v.2 m),p.2)
 |_=>none
def zFs{a b:yC}{G:FA}{elts:List yC}{x1}{tp p pos:xU}(hm:X.mg "zip"=none)(hv:yH "zip"=some (.type "zip"))(ha:MAn X [a,b] G)(hg:Gl X "zip":=by rfl)(hs:yw [a,b] X.env=[(false,Yq a X.env),(false,Yq b X.env)]:=by rfl)(hs2:yw [b] X.env=[(false,Yq b X.env)]:=by rfl) :
 MI X (.Tuple elts x1 tp) (.Call (.Name "zip" p) [a,b] [] pos) (zMv G) :=
 zFo (z1u hg hm hv ha.ma hs hs2) λZ J μ Y H ds ok μ' R A e k=>by
  obtain⟨⟨x,μ1⟩,e1,e⟩:=zl e;refine⟨Z,J,μ,x,μ1,A,e1,λZ1 H1 v1 x1 R1 r1=>?_⟩;dsimp only at e
  split at e
  ·obtain⟨⟨us,o1⟩,e2,e⟩:=zl e;obtain⟨⟨vs,o2⟩,e3,e⟩:=zl e;cases e;obtain⟨v,r,rfl,q1,q2⟩:=r1.cons_inv;obtain⟨v',r',rfl,q3,q4⟩:=q2.cons_inv;obtain⟨a1,k1,xs,rfl,s1,t1⟩:=z5s R1 q1 e2;obtain⟨a2,k2,ys,rfl,s2,t2⟩:=z5s R1 q3 e3;rw[q4.nil_inv];exact⟨a1,a2,k1,k2,xs,ys,rfl,s1,s2,k Z1 H1 _ x1 R1 (zwv t1 t2)⟩
  ·cases e
variable {a b c e:yC}{G ψ χ:FE}{pos:xU}
@[simp] def zvw(G ψ:FE):FE:=λJ μ=>(G J (μ++[.dct []])).bind λp=>(ψ J p.2).bind λq=>match p.1,q.2[μ.length]? with
 |.int i,some (.dct [])=>some (.loc μ.length,q.2.set μ.length (.dct [(i,q.1)]))
 |_,_=>none
def zhv(ha:ME X a G)(hb:ME X b ψ):ME X (.Dict [some a] [b] pos) (zvw G ψ):=by
 intro pins s Y H Q I hh;obtain⟨Z,J,μ,d,μ',A,e,k⟩:=hh;obtain⟨⟨x,μ1⟩,e1,e⟩:=zl e;obtain⟨⟨y,μ2⟩,e2,e⟩:=zl e;dsimp only at e e1 e2
 split at e
 case h_2=>cases e
 rename_i i hm _
 cases e;have hf:=I.hok.fresh (yi s.heap.objs.size);have I1:=I.laid (a:=s.heap.objs.size) (o:=.dK []) (h':=s.heap.push {cls:=.type "dict",data:=.dict #[]}) (t':=s.toks) (λ_ _ q=>yc _ q) (yi _) ⟨Yl _,beq_eq_false_iff_ne.mpr (yE (yq (big I))),[],.nil,Heap.DictOf.new _⟩;have R1:=A.hp.push hf (lo:=.dct []) (o:=.dK []) ⟨[],zC,rfl,.nil⟩;have A1:=A.ext (Ext.push hf) R1;have hr1:=zrb (p:=s.heap.objs.size) A.hp;refine wpAny_Dict_pairs (knd:=ztb X.prog X.w) (pairs:=[(Yq a X.env,do let x <-Yq b X.env;standAt pos;pure x)]) rfl (by simp) (by simp) ?_;refine evalPairs_cons (thn (ha pins _ Y _ (λv H2=>∃Z2,Ext _ _ Z2 H2/\tF X.K Z2 H2 μ1/\tm X.K Z2 H2 (.int i) v) I1 ⟨_,J,_,_,μ1,A1,e1,λZ2 H2 v x2 R2 r2=>⟨Z2,x2,R2,r2⟩⟩) λkv s2 ⟨v,H2,I2,rk,Z2,x2,R2,r2⟩=>?_);refine ya (thn (hb pins _ Y _ (λv H3=>∃Z3,Ext Z2 H2 Z3 H3/\tF X.K Z3 H3 μ2/\tm X.K Z3 H3 y v) I2 ⟨Z2,J,μ1,_,μ2,A1.ext x2 R2,e2,λZ3 H3 v x3 R3 r3=>⟨Z3,x3,R3,r3⟩⟩) λvv s3 ⟨u,H3,I3,ru,Z3,x3,R3,r3⟩=>ya (xy (ye (evalPairs_nil ?_))));have hr:=(x2.trans x3).get hr1;obtain⟨vs,ev,q1,q2⟩:=R3.at_ _ _ _ hr hm;have ev0:vs=[]:=by simpa using q1
 subst ev0;obtain⟨z,hd,us,rel,dd⟩:=zhs I3.hok ev
 have eu:us=[]:=by
  have:=rel.length;simpa using this.symm
 subst eu;rw[r2.int_inv]at rk;refine⟨[(yP i,vv)],⟨zim (k:=.inl i) rk,rfl,True.intro⟩,dd,λh' dd' hs=>⟨.ref s.heap.objs.size,_,I3.write (x:=s.heap.objs.size) (e:=s.heap.objs.size) (o:=.dK [(yP i,u)]) (by rw[ev];exact True.intro) (.inl rfl) (λb q hb z=>(hs.2 b hb).trans z) ?_ ⟨by rw[YN];simp,hd,_,Paired.cons ⟨rfl,ru⟩ .nil,dd'⟩,rfl,?_⟩⟩
 ·obtain⟨q,_,_,hq,_⟩:=dd';exact⟨q,hq⟩
 ·have hmu:Mut (H3 s.heap.objs.size):=by rw[ev];trivial
  have R4:=R3.wr (o:=.dK [(yP i,u)]) (lo:=.dct [(i,y)]) hmu hr ⟨_,zC,rfl,.cons (r3.ext (Ext.wr hmu)) .nil⟩;exact k Z3 _ _ ((Ext.push hf).trans (x2.trans (x3.trans (Ext.wr hmu)))) R4 (.loc hr)
variable {te:TE}{stp:yC}{ts:TO}{p2:xU}
variable {es:List yC}
end
end M
namespace M
open PySem PyProof.Rows
section
variable {prog:yy}{w:yL}{A:yR}{E:yb->yd->Prop}{s:yd}
end
end M
namespace M
open PySem PySem.Spec PyProof.Rows L2
section
variable {X:Cx}{pins:List (yf×YY)}{Y:L2.St}{H:Hp}{s s':yd}
variable {a b c e:yC}{es:List yC}{G ψ χ:FE}{pos pos2 p1 p2:xU}
variable {prog:yy}{w:yL}{A:yR}{E:yb->yd->Prop}{T:String}{r d:yf}{n:Nat}{P:Nat->yb->Prop}{OK:yW->Prop}
def zsx(s:yd)(P:Nat->yb->Prop)(n:Nat):Result->yd->Prop:=λrr s'=>∃h' tk acc' c',rr=.ok (.ret (.ref s.heap.objs.size))/\s' = {s with heap:=h',toks:=tk }/\(∀b o,s.heap.get? b=some o->h'.get? b=some o)/\h'.get? s.heap.objs.size=some {cls:=.type "list",dict:=none,data:=.seq acc' c',slots:=#[]}/\ItemsOf P acc' n
def zfn{Q:List yb->yd->Prop}(K:W.KdlSrc prog w T r d n P OK)(hh:A.handled=none)(hok:OK s.heap)(hn:n<=yF)
 (h:∀h' tk acc',(∀b o,s.heap.get? b=some o->h'.get? b=some o)->s.heap.objs.size<=h'.objs.size->ItemsOf P acc' n->Q acc'.toList {s with heap:=h',toks:=tk }) :
 yp (yz prog w) A (collect (.ref r)) Q E s:=by
 have hlt:=K.there _ hok;unfold collect;refine ya (wpAny_runValue (xa F.entry_proto_collect ?_));rw[YI F.plain_proto_collect _];show yp _ A.in1 (newList [] >>= λl=>again (.builtin "list.__iadd__" ⟨[l,.ref r],[]⟩)) _ _ s;refine ya (yS ?_);have hS:(s.heap.push {cls:=.type "list",data:=.seq ([]:List yb).toArray }).get? s.heap.objs.size=some {cls:=.type "list",data:=.seq #[]}:=yk _ rfl;refine ye ⟨xV F.plain_list_iadd _,xv (xa (R:=zsx s P n) F.entry_list_iadd ?_) λrr s' ⟨h',tk,acc',c',e1,e2,hk,hS',hacc⟩=>?_⟩
 ·rw[YI F.plain_list_iadd _];show yp _ A.in1 (Yk (.ref s.heap.objs.size) (.ref r) (.ref s.heap.objs.size)) _ _ _;exact W.kdl_extend (R:=zsx s P n) (A:=A) (s:={s with heap:=s.heap.push {cls:=.type "list",data:=.seq ([]:List yb).toArray }}) K hh (K.keep _ _ hok λb _ o e=>yc _ e) _ (yV hlt.1) (yV hlt.2) _ _ hS (λh' tk acc' c' hk hS' hacc=>⟨h',tk,acc',c',rfl,rfl,λb o e=>hk b o (yq (ym e)) (yc _ e),hS',hacc⟩) hn
 ·subst e1 e2;dsimp only;refine ya (wpAny_load hS' ?_);exact ye (h h' tk acc' hk (Ys (ym hS')) hacc)
def zKo{ks:List Int}{Q:yb->yd->Prop}(K:W.KdlSrc prog w T r d n P OK)(hh:A.handled=none)(hok:OK s.heap)(h64:n<64)(hint:∀acc:Array yb,ItemsOf P acc n->IntsAre acc.toList ks)(h:∀p s',zHs s ks p s'->Q (.ref p) s') :
 yp (yz prog w) A (call (.builtin "sorted") [.ref r]) Q E s:=by
 refine Calls.call_function_entry kind_sorted plain_sorted entry_sorted (args_sorted1 _) ?_;unfold xw.«sorted»;refine ya (m:=checkCount "sorted" 1 1 _) (ye ?_);refine ya (zfn (A:=A.in1) K hh hok (yB (Ys h64) (by rw[YN];decide)) λh1 tk acc hk hsz hacc=>?_);have hI:=hint acc hacc
 have hl:acc.toList.length<64:=by
  have:=hacc.1;simp only[Array.length_toList];omega
 refine ya (wpAny_newList ?_ (by rw[YN];omega));have hnew:(h1.push (seqObj "list" acc.toList.toArray 0)).get? h1.objs.size=some (seqObj "list" acc.toList.toArray 0):=yk _ rfl;refine ya (yU (yM slot_list_sort ⟨_,hnew,rfl⟩ entry_list_sort (list_sort_tree hnew hI (by simp at hl ⊢;omega) λout ns q1 q2 q3=>⟨_,rfl,?_⟩) (args_list_sort _)));obtain⟨e,he⟩:=sortedHeap_at (out:=out) hnew;refine ye ⟨_,rfl,h _ _ ⟨out,ns,e,he,q1,q2,q3,hsz,λb ob eb=>?_,rfl,rfl⟩⟩;have hb1:=hk _ _ eb;have hlt1:b<h1.objs.size:=ym hb1;show(sortedHeap (h1.push (seqObj "list" acc.toList.toArray 0)) h1.objs.size acc.toList out).get? b=some ob;rw[sortedHeap_old (yq hlt1) (by rw[size_push'];exact Yo hlt1)];exact yc _ hb1
def zdl:GL:=λds μ=>match ds with
 |[x]=>(zJb μ x).bind λkvs=>bif decide (kvs.length<64) then some (.loc μ.length,μ++[.lst ((z8i (kvs.map (·.1))).map .int)]) else none
 |_=>none
def zwm(hc:X.calm=true):tU X (.builtin "sorted") zdl:=by
 refine tU.of λpins s Y H xs us Q I r Z ds μ d μ' r1 R e k=>?_;unfold zdl at e
 split at e
 ·obtain⟨kvs,e1,e⟩:=zl e;obtain⟨h64,e⟩:=zP e;have h64:=of_decide_eq_true h64;cases e;obtain⟨v,rr,rfl,q1,q2⟩:=r1.cons_inv;rw[q2.nil_inv]at r;obtain⟨p,vs,rfl,hq,w1,w2⟩:=zMe R q1 e1;obtain⟨u,rfl,ru⟩:=vals1 r;cases ru;obtain⟨hz,hd,_⟩:=zYf I.hok hq;obtain⟨us',ep,rel,da⟩:=zop I.hok hq;have hl:=rel.length
  have hkv:(vs.map λp=>kV p.1)=((kvs.map (·.1)).map V.int):=by
   have:(vs.map (·.1)).map kV=(kvs.map λp=>(yP p.1:Key)).map kV:=by rw[w1]
   rw[map_map,map_map]at this;rw[map_map];exact this
  have hlk:kvs.length=vs.length:=by
   have:=congrArg List.length w1;simpa using this.symm
  refine zKo (ks:=kvs.map (·.1)) (W.kdl_dict hd) (I.ok.hd hc) da (by omega) (λacc hi=>?_) λq s' ⟨out,ns,e',h1,h2,h3,h4,h5,h6,h7,h8⟩=>?_
  ·obtain⟨hi1,hi2⟩:=hi;have hv:=zci (P:=X.prog) (w:=X.w) (its:=acc.toList) rel (by simpa using hi1) λj v e=>hi2 j v (by simpa using e);rw[hkv]at hv;exact zWe hv
  ·have hms:ns=z8i (kvs.map (·.1)):=zjc (h3.trans (mergeSort_perm _ _).symm) h4 (zBg _);subst hms;have hlen:(z8i (kvs.map (·.1))).length=(kvs.map (·.1)).length:=h3.length_eq;rw[length_map]at hlen;have hf:=I.hok.fresh h5;refine⟨.ref q,_,zOn I h7 h8 h6 h5 (show tJ X.prog X.w _ s'.heap _ (.lst ((z8i (kvs.map (·.1))).map V.int)) from⟨by simp;rw[YN];omega,out.toList,e',z4c h2,by simpa using h1⟩),rfl,k _ _ _ (Ext.push hf) (R.push hf ⟨_,zC,z5d⟩) (.loc (zrb R))⟩
 ·cases e
end
def zDk(kvs:List (yG×D))(i:yG):Option D:=(kvs.find? λp=>decide (p.1=i)).map (·.2)
section
variable {K:yx}{Z:List yf}{H:Hp}{μ:Mem}
def zkm:∀{kvs:List (yG×D)} {vs:List (Key×V)} (i:yG),vs.map (·.1)=kvs.map (λp=>Yu p.1)->tj K Z H (kvs.map (·.2)) (vs.map (·.2)) ->
 (∀d,zDk kvs i=some d->∃v,z0k vs (Yu i)=some v/\tm K Z H d v)
 |[],vs,i,h1,h2=>by
  have:vs=[]:=by simpa using h1
  subst this;exact λd h=>(by cases h)
 |(j,d)::kvs,vs,i,h1,h2=>by
  cases vs with
  |nil=>simp at h1
  |cons q vs=>
   obtain⟨k,v⟩:=q;rw[map_cons,map_cons,xr]at h1;obtain⟨hk,h1⟩:=h1;have hk:k=Yu j:=hk;subst hk;obtain⟨v',r,e,q1,q2⟩:=h2.cons_inv;rw[map_cons,xr]at e;obtain⟨e1,e2⟩:=e;subst e2;have e1:v=v':=e1;subst e1;have ih:=zkm i h1 q2
   by_cases hj:j=i
   ·subst hj;have a1:zDk ((j,d)::kvs) j=some d:=by simp[zDk]
    have a2:z0k ((Yu j,v)::vs) (Yu j)=some v:=zLk rfl;rw[a1,a2];exact λd' h=>(by cases h;exact⟨v,rfl,q1⟩)
   ·have a1:zDk ((j,d)::kvs) i=zDk kvs i:=by simp[zDk,hj]
    have a2:z0k ((Yu j,v)::vs) (Yu i)=z0k vs (Yu i):=zTk (λz=>hj (by simpa using z));rw[a1,a2];exact ih
variable {X:Cx}{a b a1 a2 a3 b1 b2 b3:yC}{G ψ:FE}{pos:xU}
def zbp:φ2:=λx y μ=>match x,y with
 |.loc n,.str i=>match μ[n]? with
  |some (.dts kvs)=>(zDk kvs i).bind λd=>some (d,μ)
  |_=>none
 |_,_=>none
def ixDS:IxR X (rM X.K zbp):=by
 intro value slice pins s Y H x y v u Q I rx ry ⟨Z,dx,dy,μ,d,μ',r1,r2,R,e,k⟩ hs;unfold zbp at e
 split at e
 ·rename_i n i
  split at e
  ·rename_i kvs hm
   obtain⟨d',e2,e⟩:=zl e;cases e;obtain⟨p,rfl,hp⟩:=r1.tx;obtain⟨vs,hq,q1,q2⟩:=R.at_ _ _ _ hp hm;have hq:RdK H p vs:=.inl hq;obtain⟨w',e3,rw'⟩:=zkm i q1 q2 _ e2;cases rx;have r2:y=.str i:=r2;rw[r2]at ry
   have hT:s.TypeIs (.ref p) "dict":=by
    obtain⟨_,_,us,_,dd⟩:=zYf I.hok hq;exact dd.typeIs
   unfold subscriptTail;refine ya ?_;rw[getitemInPython_of_ne hT.not_modules];refine ya (YR hT PySem.F.slot_dict_getitem.lookup ?_)
   have fin:yp (yz X.prog X.w) X.A (subscripted slice false (.ref p) u) (λr s₃=>yp (yz X.prog X.w) X.A (letTemporaryGo value (.ref p) r >>= λ_=>pure r) (EP X pins Y Q) X.xe s₃) X.xe s:=by
    rw[hs];exact wpAny_operating (z2c I hq e3 ry λw2 s2 I2 r2=>ya (wpAny_letTemporaryGo (ye ⟨_,H,I2,r2,k Z H _ Ext.refl R rw'⟩)))
   first
    |exact ye (ya fin)
    |exact ya (ye (ya fin))
    |exact ya fin
  ·cases e
 ·cases e
def ziu(ha:ME X a G)(hb:ME X b ψ)(hs:zBk b:=by intro _ _;rfl):ME X (.Subscript a b pos) (zz zbp G ψ) :=
 zsd (zzt ixDS ha hb hs) λ_ _ _ _ _ _ _ _ A e k=>zap A e k
def z6w(s1 s2 s3:yG)(i1 i2 i3:Int):FE:=λ_ μ=>some (.loc μ.length,μ++[.dts [(s1,.int i1),(s2,.int i2),(s3,.int i3)]])
def zZu{s1 s2 s3:yG}{i1 i2 i3:Int}(h12:s1≠s2)(h13:s1≠s3)(h23:s2≠s3)(ha1:ME X a1 (fC (.str s1)))(hb1:ME X b1 (fC (.int i1)))(ha2:ME X a2 (fC (.str s2)))(hb2:ME X b2 (fC (.int i2)))(ha3:ME X a3 (fC (.str s3)))(hb3:ME X b3 (fC (.int i3))) :
 ME X (.Dict [some a1,some a2,some a3] [b1,b2,b3] pos) (z6w s1 s2 s3 i1 i2 i3):=by
 intro pins s Y H Q I hh;obtain⟨Z,J,μ,d,μ',A,e,k⟩:=hh;cases e;have hf:=I.hok.fresh (yi s.heap.objs.size);have I1:=I.laid (a:=s.heap.objs.size) (o:=.dK []) (h':=s.heap.push {cls:=.type "dict",data:=.dict #[]}) (t':=s.toks) (λ_ _ q=>yc _ q) (yi _) ⟨Yl _,beq_eq_false_iff_ne.mpr (yE (yq (big I))),[],.nil,Heap.DictOf.new _⟩;have R1:=A.hp.push hf (lo:=.dts []) (o:=.dK []) ⟨[],zC,rfl,.nil⟩;have A1:=A.ext (Ext.push hf) R1;have hr1:=zrb (p:=s.heap.objs.size) A.hp;have hm:(μ++[tE.dts []])[μ.length]?=some (.dts []):=by simp
 refine wpAny_Dict_pairs (knd:=ztb X.prog X.w) (pairs:=[(Yq a1 X.env,do let x <-Yq b1 X.env;standAt pos;pure x),(Yq a2 X.env,do let x <-Yq b2 X.env;standAt pos;pure x),(Yq a3 X.env,do let x <-Yq b3 X.env;standAt pos;pure x)]) rfl (by simp) (by simp) ?_;refine evalPairs_cons (thn (ha1 pins _ Y _ (λv H2=>∃Z2,Ext _ _ Z2 H2/\tF X.K Z2 H2 (μ++[.dts []])/\tm X.K Z2 H2 (.str s1) v) I1 ⟨_,J,_,_,_,A1,rfl,λZ2 H2 v x2 R2 r2=>⟨Z2,x2,R2,r2⟩⟩) λk1 t1 ⟨v1,φ1,δ1,rk1,Z1,x1,S1,r1⟩=>?_);refine ya (thn (hb1 pins _ Y _ (λv H3=>∃Z3,Ext Z1 φ1 Z3 H3/\tF X.K Z3 H3 (μ++[.dts []])/\tm X.K Z3 H3 (.int i1) v) δ1 ⟨Z1,J,_,_,_,A1.ext x1 S1,rfl,λZ3 H3 v x3 R3 r3=>⟨Z3,x3,R3,r3⟩⟩) λu1 t2 ⟨w1,φ2,δ2,ru1,Z2,x2,S2,y1⟩=>ya (xy (ye ?_)));have A2:=(A1.ext x1 S1).ext x2 S2;refine evalPairs_cons (thn (ha2 pins _ Y _ (λv H2=>∃Z3,Ext Z2 φ2 Z3 H2/\tF X.K Z3 H2 (μ++[.dts []])/\tm X.K Z3 H2 (.str s2) v) δ2 ⟨Z2,J,_,_,_,A2,rfl,λZ2 H2 v x2 R2 r2=>⟨Z2,x2,R2,r2⟩⟩) λk2 t3 ⟨v2,φ3,δ3,rk2,Z3,x3,S3,r2⟩=>?_);refine ya (thn (hb2 pins _ Y _ (λv H3=>∃Z4,Ext Z3 φ3 Z4 H3/\tF X.K Z4 H3 (μ++[.dts []])/\tm X.K Z4 H3 (.int i2) v) δ3 ⟨Z3,J,_,_,_,A2.ext x3 S3,rfl,λZ3 H3 v x3 R3 r3=>⟨Z3,x3,R3,r3⟩⟩) λu2 t4 ⟨w2,φ4,δ4,ru2,Z4,x4,S4,y2⟩=>ya (xy (ye ?_)));have A4:=(A2.ext x3 S3).ext x4 S4;refine evalPairs_cons (thn (ha3 pins _ Y _ (λv H2=>∃Z5,Ext Z4 φ4 Z5 H2/\tF X.K Z5 H2 (μ++[.dts []])/\tm X.K Z5 H2 (.str s3) v) δ4 ⟨Z4,J,_,_,_,A4,rfl,λZ2 H2 v x2 R2 r2=>⟨Z2,x2,R2,r2⟩⟩) λk3 t5 ⟨v3,φ5,δ5,rk3,Z5,x5,S5,r3⟩=>?_);refine ya (thn (hb3 pins _ Y _ (λv H3=>∃Z6,Ext Z5 φ5 Z6 H3/\tF X.K Z6 H3 (μ++[.dts []])/\tm X.K Z6 H3 (.int i3) v) δ5 ⟨Z5,J,_,_,_,A4.ext x5 S5,rfl,λZ3 H3 v x3 R3 r3=>⟨Z3,x3,R3,r3⟩⟩) λu3 t6 ⟨w3,φ6,δ6,ru3,Z6,x6,S6,y3⟩=>ya (xy (ye (evalPairs_nil ?_))));have x26:=x3.trans (x4.trans (x5.trans x6));have x46:=x5.trans x6;have xx:=x1.trans (x2.trans x26);have hr:=xx.get hr1;obtain⟨vs,ev,q1,q2⟩:=S6.at_ _ _ _ hr hm;have ev0:vs=[]:=by simpa using q1
 subst ev0;obtain⟨z,hd,us,rel,dd⟩:=zhs δ6.hok ev
 have eu:us=[]:=by
  have:=rel.length;simpa using this.symm
 subst eu;have r1:v1=.str s1:=r1;have r2:v2=.str s2:=r2;have r3:v3=.str s3:=r3;rw[r1]at rk1;rw[r2]at rk2;rw[r3]at rk3
 have em:∀p1 p2 p3:yb,merged [] [((Yu s1:Key),p1),(Yu s2,p2),(Yu s3,p3)]=[(Yu s1,p1),(Yu s2,p2),(Yu s3,p3)]:=λp1 p2 p3=>by
  simp[merged,PySem.stored,h12,h13,h23]
 refine⟨[(Yu s1,u1),(Yu s2,u2),(Yu s3,u3)],⟨zim (k:=.inr s1) rk1,rfl,zim (k:=.inr s2) rk2,rfl,zim (k:=.inr s3) rk3,rfl,True.intro⟩,dd,λh' dd' hs=>?_⟩;rw[em]at dd';refine⟨.ref s.heap.objs.size,_,δ6.write (x:=s.heap.objs.size) (e:=s.heap.objs.size) (o:=.dK [(Yu s1,w1),(Yu s2,w2),(Yu s3,w3)]) (by rw[ev];exact True.intro) (.inl rfl) (λb q hb z=>(hs.2 b hb).trans z) ?_ ⟨by rw[YN];simp,hd,_,Paired.cons ⟨rfl,ru1⟩ (.cons ⟨rfl,ru2⟩ (.cons ⟨rfl,ru3⟩ .nil)),dd'⟩,rfl,?_⟩
 ·obtain⟨q,_,_,hq,_⟩:=dd';exact⟨q,hq⟩
 ·have hmu:Mut (φ6 s.heap.objs.size):=by rw[ev];trivial
  have R4:=S6.wr (o:=.dK [(Yu s1,w1),(Yu s2,w2),(Yu s3,w3)]) (lo:=.dts [(s1,.int i1),(s2,.int i2),(s3,.int i3)]) hmu hr ⟨_,zC,rfl,.cons ((y1.ext x26).ext (Ext.wr hmu)) (.cons ((y2.ext x46).ext (Ext.wr hmu)) (.cons (y3.ext (Ext.wr hmu)) .nil))⟩;have e9:(μ++[tE.dts []]).set μ.length (.dts [(s1,.int i1),(s2,.int i2),(s3,.int i3)])=μ++[tE.dts [(s1,.int i1),(s2,.int i2),(s3,.int i3)]]:=by simp
  rw[e9]at R4;exact k Z6 _ _ ((Ext.push hf).trans (xx.trans (Ext.wr hmu))) R4 (.loc hr)
end
@[simp] theorem zAx{α:Type}(l:List α):(l.all λ_=>true)=true:=by simp
def zhu{μ g:Mem}{n:Nat}(h:n<μ.length):(μ++g)[n]?=μ[n]?:=yu h
def zI{μ g:Mem}{n:Nat}{o:tE}(h:μ[n]?=some o):(μ++g)[n]?=some o:=by
 rw[zhu (List.getElem?_eq_some_iff.mp h).1];exact h
def zVv{K:yx}{F:FF}{H:Hp}{a:yf}{ns:List Int}(hF:∃μ',F [.fz (ns.map D.int)] []=some (.bl true,μ'))(hO:zww H)(hS:SqL K H a (ns.map V.int)):spM K 1 F [.ref a] H (λv _=>v=.bl true) λ_ _ _=>False:=by
 obtain⟨μ',e⟩:=hF
 have fz:FzL K H a (ns.map V.int):=by
  rcases hS with (h|⟨o,h⟩)|h
  ·rcases hO a with z|⟨o,xs,z⟩
   ·rw[h]at z;cases z
   ·rw[h]at z;cases z
  ·exact .inl ⟨o,h⟩
  ·exact .inr h
 have hints:∀ns:List Int,tj K [] H (ns.map D.int) (ns.map V.int):=λns=>by
  induction ns with
  |nil=>exact .nil
  |cons i r ih=>exact .cons .int ih
 exact⟨rfl,[],[.fz (ns.map D.int)],[],.bl true,μ',.cons (.fz fz (hints ns)) .nil,⟨nodup_nil,rfl,λn a o h1 _=>by simp at h1⟩,e,λZ' H' v _ _ r=>r.tO⟩
structure WE(G:FE)(J:Loc)(μ:Mem)(Q:D->Mem->Prop):Prop where
 ex:∃d μ',G J μ=some (d,μ')/\Q d μ'
structure WT(G:FT)(J:Loc)(μ:Mem)(Q:Bool->Mem->Prop):Prop where
 ex:∃d μ',G J μ=some (d,μ')/\Q d μ'
structure WA(G:FA)(J:Loc)(μ:Mem)(Q:List D->Mem->Prop):Prop where
 ex:∃d μ',G J μ=some (d,μ')/\Q d μ'
structure WO(G:FO)(J:Loc)(μ:Mem)(Q:Option Int->Mem->Prop):Prop where
 ex:∃d μ',G J μ=some (d,μ')/\Q d μ'
structure W2(g:φ2)(x y:D)(μ:Mem)(Q:D->Mem->Prop):Prop where
 ex:∃d μ',g x y μ=some (d,μ')/\Q d μ'
structure WF(F:FF)(ds:List D)(μ:Mem)(Q:D->Mem->Prop):Prop where
 ex:∃d μ',F ds μ=some (d,μ')/\Q d μ'
structure WM(g:GM)(x:D)(ds:List D)(μ:Mem)(Q:D->Mem->Prop):Prop where
 ex:∃d μ',g x ds μ=some (d,μ')/\Q d μ'
structure WI(i:FI)(J:Loc)(μ:Mem)(Q:List D->(Mem->Bool)->Mem->Prop):Prop where
 ex:∃ds ok μ',i J μ=some (ds,ok,μ')/\Q ds ok μ'
structure WG(g:FG)(d:D)(J:Loc)(μ:Mem)(Q:Loc->Mem->Prop):Prop where
 ex:∃J' μ',g d J μ=some (J',μ')/\Q J' μ'
structure WGs(g:FGs)(ds:List D)(J:Loc)(μ:Mem)(Q:Loc->Mem->Prop):Prop where
 ex:∃J' μ',g ds J μ=some (J',μ')/\Q J' μ'
structure WL(g:FG)(c:FT)(G:FE)(ok:Mem->Bool)(J:Loc)(xs ys:List D)(μ:Mem)(Q:D->Mem->Prop):Prop where
 ex:∃d μ',zcr g c G ok J xs ys μ=some (d,μ')/\Q d μ'
def Ek(nx:Loc->Mem->Prop)(rt:D->Mem->Prop)(bk ct:Loc->Mem->Prop):Out->Prop
 |.next J μ=>nx J μ
 |.ret d μ=>rt d μ
 |.brk J μ=>bk J μ
 |.cont J μ=>ct J μ
 |.exc _ _ _=>False
structure WS(ψ:FS)(J:Loc)(μ:Mem)(nx:Loc->Mem->Prop)(rt:D->Mem->Prop)(bk ct:Loc->Mem->Prop):Prop where
 ex:∃o,ψ J μ=some o/\Ek nx rt bk ct o
structure WFor(g:FG)(body:FS)(ok:Mem->Bool)(xs:List D)(J:Loc)(μ:Mem)(nx:Loc->Mem->Prop)(rt:D->Mem->Prop):Prop where
 ex:∃o,zCg g body ok xs J μ=some o/\Ek nx rt (λ_ _=>False) (λ_ _=>False) o
def tq(μ μ':Mem):Prop:=∀(n:Nat)(o:tE),μ[n]?=some o->μ'[n]?=some o
def tq.refl{μ:Mem}:tq μ μ:=λ_ _ h=>h
def tq.trans{μ μ1 μ2:Mem}(a:tq μ μ1)(b:tq μ1 μ2):tq μ μ2:=λn o h=>b n o (a n o h)
def tq.app{μ g:Mem}:tq μ (μ++g):=λ_ _ h=>zI h
def tq.to{μ μ1 g:Mem}(a:tq μ μ1):tq μ (μ1++g):=a.trans .app
def tq.len{μ μ':Mem}(a:tq μ μ'):μ.length<=μ'.length:=by
 rcases Nat.lt_or_ge μ'.length μ.length with h|h
 ·have:=a μ'.length μ[μ'.length] (by simp[h]);simp at this
 ·exact h
def zB{μ:Mem}{o:tE}:(μ++[o])[μ.length]?=some o:=by simp
def zJ{μ:Mem}{n:Nat}{o:tE}(h:μ[n]?=some o):n<μ.length:=(List.getElem?_eq_some_iff.mp h).1
def zT{μ:Mem}{n m:Nat}{o o':tE}(h:μ[n]?=some o)(hne:m≠n):(μ.set m o')[n]?=some o:=by
 rw[Yr hne];exact h
def zR{μ:Mem}{n:Nat}{o o':tE}(h:μ[n]?=some o):(μ.set n o')[n]?=some o':=by
 rw[YK (zJ h)]
def zt{μ:Mem}{n:Nat}{ds:List D}(h:μ[n]?=some (.lst ds)):items μ (.loc n)=some ds:=by simp[h]
section
variable {G ψ χ:FE}{g g2:φ2}{J:Loc}{μ:Mem}{Q:D->Mem->Prop}{i j:Int}{d x y:D}{ds xs:List D}
def WE.mono{Q':D->Mem->Prop}(h:WE G J μ Q)(k:∀d μ',Q d μ'->Q' d μ'):WE G J μ Q':=let ⟨d,μ',e,q⟩:=h;⟨d,μ',e,k d μ' q⟩
def zh{n:Nat}(h:J[n]?=some (some d))(q:Q d μ):WE (zp n) J μ Q:=⟨d,μ,by simp[h],q⟩
def w_c(q:Q d μ):WE (fC d) J μ Q:=⟨d,μ,rfl,q⟩
def zo(h:WE G J μ λx μ1=>WE ψ J μ1 λy μ2=>W2 g x y μ2 Q):WE (zz g G ψ) J μ Q:=by
 obtain⟨x,μ1,e1,y,μ2,e2,d,μ3,e3,q⟩:=h;exact⟨d,μ3,by simp[e1,e2,e3],q⟩
def ztv(h:WE G J μ λx μ1=>∃b,x=.bl b/\(b=true->WE ψ J μ1 Q)/\(b=false->Q (.bl false) μ1)):WE (ztw G ψ) J μ Q:=by
 obtain⟨x,μ1,e1,b,rfl,h1,h2⟩:=h
 cases b with
 |true=>obtain⟨d,μ2,e2,q⟩:=h1 rfl;exact⟨d,μ2,by simp[e1,e2],q⟩
 |false=>exact⟨_,μ1,by simp[e1],h2 rfl⟩
def zzx(h:WE G J μ λx μ1=>∃b,x=.bl b/\(b=false->WE ψ J μ1 Q)/\(b=true->Q (.bl true) μ1)):WE (fOr G ψ) J μ Q:=by
 obtain⟨x,μ1,e1,b,rfl,h1,h2⟩:=h
 cases b with
 |false=>obtain⟨d,μ2,e2,q⟩:=h1 rfl;exact⟨d,μ2,by simp[e1,e2],q⟩
 |true=>exact⟨_,μ1,by simp[e1],h2 rfl⟩
def w_not(h:WE G J μ λx μ1=>∃b,x=.bl b/\Q (.bl (!b)) μ1):WE (z6x G) J μ Q:=by
 obtain⟨x,μ1,e1,b,rfl,q⟩:=h;exact⟨_,μ1,by simp[e1],q⟩
def zzw(h:WE G J μ λx μ1=>∃i,x=.int i/\Q (.int (-i)) μ1):WE (z5x G) J μ Q:=by
 obtain⟨x,μ1,e1,b,rfl,q⟩:=h;exact⟨_,μ1,by simp[e1],q⟩
def zwe{α:FA}(h:WA α J μ λds μ1=>Q (.tup ds) μ1):WE (zjj α) J μ Q:=by
 obtain⟨x,μ1,e1,q⟩:=h;exact⟨_,μ1,by simp[e1],q⟩
def zRg{α:FA}(h:WA α J μ λds μ1=>Q (.loc μ1.length) (μ1++[.lst ds])):WE (zLm α) J μ Q:=by
 obtain⟨x,μ1,e1,q⟩:=h;exact⟨_,_,by simp[e1]<;>rfl,q⟩
def z9v(h:Q (.loc μ.length) (μ++[.dct []])):WE zlx J μ Q:=⟨_,_,rfl,h⟩
def zCx{lo hi:FO}(h:WE G J μ λx μ1=>WO lo J μ1 λl μ2=>WO hi J μ2 λu μ3=>∃ds,x=.tup ds/\Q (.tup (cutD ds l u)) μ3):WE (fSl G lo hi) J μ Q:=by
 obtain⟨x,μ1,e1,l,μ2,e2,u,μ3,e3,ds,rfl,q⟩:=h;exact⟨_,_,by simp[e1,e2,e3]<;>rfl,q⟩
def zms{R:Option Int->Mem->Prop}(q:R none μ):WO pNo J μ R:=⟨_,_,rfl,q⟩
def zRn{R:Option Int->Mem->Prop}(h:WE G J μ λx μ1=>∃i,x=.int i/\R (some i) μ1):WO (zUu G) J μ R:=by
 obtain⟨x,μ1,e1,i,rfl,q⟩:=h;exact⟨_,_,by simp[e1]<;>rfl,q⟩
def zw{F:FF}{α:FA}(h:WA α J μ λds μ1=>WF F ds μ1 Q):WE (zD F α) J μ Q:=by
 obtain⟨ds,μ1,e1,d,μ2,e2,q⟩:=h;exact⟨d,μ2,by simp[e1,e2],q⟩
def zSi{m:GM}{α:FA}(h:WE G J μ λx μ1=>∃n xs,x=.loc n/\μ1[n]?=some (.lst xs)/\WA α J μ1 λds μ2=>WM m (.loc n) ds μ2 Q):WE (zUf m G α) J μ Q:=by
 obtain⟨x,μ1,e1,n,xs,rfl,e2,ds,μ2,e3,d,μ3,e4,q⟩:=h;exact⟨d,μ3,by simp[e1,e2,e3,e4],q⟩
def zEm{n:Nat}{fr:List Nat}{it:FI}{tg:FG}{c:FT}(h:WI it J μ λds ok μ1=>few ds=true/\WL tg c G ok (δC n fr J) ds [] μ1 Q):WE (fLC n fr it tg c G) J μ Q:=by
 obtain⟨ds,ok,μ1,e1,hf,d,μ2,e2,q⟩:=h;exact⟨d,μ2,by unfold fLC;simp only[e1,yr,hf,cond_true];exact e2,q⟩
def z2s(h:WE G J μ λx μ1=>∃n ns,x=.loc n/\μ1[n]?=some (.lst (ns.map .int))/\ns.length<=4000/\(uqL ns).length<64/\Q (.loc μ1.length) (μ1++[.lst ((zdr ns).map .int)])):WE (zko G) J μ Q:=by
 obtain⟨x,μ1,e1,n,ns,rfl,e2,h1,h2,q⟩:=h;exact⟨_,_,by simp[zko,e1,e2,h1,h2]<;>rfl,q⟩
def zL{R:Bool->Mem->Prop}(h:WE G J μ λx μ1=>∃b,x=.bl b/\R b μ1):WT (zX G) J μ R:=by
 obtain⟨x,μ1,e1,b,rfl,q⟩:=h;exact⟨_,_,by simp[e1]<;>rfl,q⟩
def zGn{c e:FT}{R:Bool->Mem->Prop}(h:WT c J μ λb μ1=>(b=true->WT e J μ1 R)/\(b=false->R false μ1)):WT (z8o c e) J μ R:=by
 obtain⟨b,μ1,e1,h1,h2⟩:=h
 cases b with
 |true=>obtain⟨d,μ2,e2,q⟩:=h1 rfl;exact⟨d,μ2,by simp[e1,e2],q⟩
 |false=>exact⟨_,μ1,by simp[e1],h2 rfl⟩
def zdj{c e:FT}{R:Bool->Mem->Prop}(h:WT c J μ λb μ1=>(b=false->WT e J μ1 R)/\(b=true->R true μ1)):WT (z0q c e) J μ R:=by
 obtain⟨b,μ1,e1,h1,h2⟩:=h
 cases b with
 |false=>obtain⟨d,μ2,e2,q⟩:=h1 rfl;exact⟨d,μ2,by simp[e1,e2],q⟩
 |true=>exact⟨_,μ1,by simp[e1],h2 rfl⟩
def zGq{c:FT}{R:Bool->Mem->Prop}(h:WT c J μ λb μ1=>R (!b) μ1):WT (z1r c) J μ R:=by
 obtain⟨b,μ1,e1,q⟩:=h;exact⟨_,_,by simp[e1]<;>rfl,q⟩
def z2v{R:Bool->Mem->Prop}(q:R true μ):WT zgp J μ R:=⟨_,_,rfl,q⟩
def zy{R:List D->Mem->Prop}(q:R [] μ):WA zO J μ R:=⟨_,_,rfl,q⟩
def zj{α:FA}{R:List D->Mem->Prop}(h:WE G J μ λx μ1=>WA α J μ1 λxs μ2=>R (x::xs) μ2):WA (zn G α) J μ R:=by
 obtain⟨x,μ1,e1,xs,μ2,e2,q⟩:=h;exact⟨_,_,by simp[e1,e2]<;>rfl,q⟩
def zDf(q:Q (.int (i+j)) μ):W2 zif (.int i) (.int j) μ Q:=⟨_,_,rfl,q⟩
def z3s{as bs:List D}(h:as.length+bs.length<=1000000)(q:Q (.tup (as++bs)) μ):W2 zif (.tup as) (.tup bs) μ Q:=⟨_,_,by simp[h]<;>rfl,q⟩
def zjp{l m:Nat}{as bs:List D}(h1:μ[l]?=some (.lst as))(h2:μ[m]?=some (.lst bs))(h:as.length+bs.length<=1000000)(q:Q (.loc μ.length) (μ++[.lst (as++bs)])):W2 zif (.loc l) (.loc m) μ Q:=⟨_,_,by simp[h1,h2,h]<;>rfl,q⟩
def zCu(q:Q (.int (i-j)) μ):W2 z0s (.int i) (.int j) μ Q:=⟨_,_,rfl,q⟩
def zNk(h:zkh i j=true)(q:Q (.int (i*j)) μ):W2 zAh (.int i) (.int j) μ Q:=⟨_,_,by simp[zAh,h]<;>rfl,q⟩
def zpk(h:0<j)(q:Q (.int (i%j)) μ):W2 zKm (.int i) (.int j) μ Q:=⟨_,_,by simp[h]<;>rfl,q⟩
def zqr(h:0<j)(h':j<1606938044258990275541962092341162602522202993782792835301376)(q:Q (.int (i / j)) μ):W2 zYt (.int i) (.int j) μ Q:=⟨_,_,by simp[h,h']<;>rfl,q⟩
def zhx(h:0<=j)(h1:j<=100000)(h2:i.natAbs<1606938044258990275541962092341162602522202993782792835301376)(q:Q (.int (i^j.toNat)) μ):W2 zrx (.int i) (.int j) μ Q:=⟨_,_,by simp only[zrx];rw[decide_eq_true ⟨h,h1,h2⟩];rfl,q⟩
def zzk{r:Int->Int->Bool}(q:Q (.bl (r i j)) μ):W2 (z3j r) (.int i) (.int j) μ Q:=⟨_,_,rfl,q⟩
def zPb(h:items μ x=some xs)(h2:atI xs i=some d)(q:Q d μ):W2 gIx x (.int i) μ Q:=⟨_,_,by show((items μ x).bind λds=>(atI ds i).bind λd=>some (d,μ))=_;rw[h,yr,h2,yr],q⟩
def znh(q:Q (.bl (i==j)) μ):W2 gEq (.int i) (.int j) μ Q:=⟨_,_,by simp[gEq,toP,Yx]<;>rfl,q⟩
def zcu(q:Q (.bl (!(i==j))) μ):W2 gNe (.int i) (.int j) μ Q:=⟨_,_,by simp[gNe,toP,Yx]<;>rfl,q⟩
def z8w{p p':PyData}(h1:toP μ 8 x=some p)(h2:toP μ 8 y=some p')(q:Q (.bl (Yx p p')) μ):W2 gEq x y μ Q:=⟨_,_,by simp[gEq,h1,h2]<;>rfl,q⟩
def zox{p p':PyData}(h1:toP μ 8 x=some p)(h2:toP μ 8 y=some p')(q:Q (.bl (!PyData.eqv p p')) μ):W2 gNe x y μ Q:=⟨_,_,by simp[gNe,h1,h2]<;>rfl,q⟩
def zKw{a b:Bool}(q:Q (.bl (a==b)) μ):W2 gIs (.bl a) (.bl b) μ Q:=⟨_,_,rfl,q⟩
def zor{a b:Bool}(q:Q (.bl (a != b)) μ):W2 zSg (.bl a) (.bl b) μ Q:=⟨_,_,rfl,q⟩
def z8x(h:items μ y=some xs)(h1:zec x=true)(h2:xs.all zec=true)(q:Q (.bl (xs.any λd=>eqF d x)) μ):W2 gIn x y μ Q:=⟨_,_,by simp only[gIn,h,yr,h1,h2,Bool.and_self,cond_true],q⟩
def zXh(h:items μ y=some xs)(h1:zec x=true)(h2:xs.all zec=true)(q:Q (.bl (!xs.any λd=>eqF d x)) μ):W2 zge x y μ Q:=⟨_,_,by simp only[zge,h,yr,h1,h2,Bool.and_self,cond_true],q⟩
def zbc(h:items μ x=some xs)(q:Q (.int xs.length) μ):WF zjf [x] μ Q:=⟨_,_,by show((items μ x).bind λxs=>some (D.int xs.length,μ))=_;rw[h,yr],q⟩
def zjq(h:items μ x=some xs)(q:Q (.loc μ.length) (μ++[.lst xs])):WF zdq [x] μ Q:=⟨_,_,by show((items μ x).bind λxs=>some (D.loc μ.length,μ++[tE.lst xs]))=_;rw[h,yr],q⟩
def zMm(h:items μ x=some xs)(q:Q (.tup xs) μ):WF zfj [x] μ Q:=by
 refine⟨_,_,?_,q⟩;cases x<;>first|(cases h;rfl)|(simp only[zfj,h];rfl)
def zcx{n:Nat}{ns:List Int}(h:μ[n]?=some (.lst (ns.map .int)))(q:Q (.int ns.sum) μ):WF zNu [.loc n] μ Q:=⟨_,_,by simp[h]<;>rfl,q⟩
def zCh{n:Nat}(h:μ[n]?=some (.lst xs))(hl:xs.length<=1000000)(q:Q .non (μ.set n (.lst (xs++[d])))):WM zve (.loc n) [d] μ Q:=⟨_,_,by simp[h,hl]<;>rfl,q⟩
def zRu{n:Nat}(h:μ[n]?=some (.lst xs))(hl:xs.length+ds.length<=1000000)(q:Q .non (μ.set n (.lst (xs++ds)))):WM z9t (.loc n) [.tup ds] μ Q:=⟨_,_,by simp[h,hl]<;>rfl,q⟩
def zDb{F:FF}{N:List yG}{p:FS}(hF:F=λds μ=>zAb (p (zS N ds) μ))(h:WS p (zS N ds) μ (λ_ μ'=>Q .non μ') Q (λ_ _=>False) λ_ _=>False):WF F ds μ Q:=by
 subst hF;obtain⟨o,e,k⟩:=h
 cases o with
 |next J' μ'=>exact⟨_,_,by rw[e];rfl,k⟩
 |ret d μ'=>exact⟨_,_,by rw[e];rfl,k⟩
 |brk _ _=>exact k.elim
 |cont _ _=>exact k.elim
 |exc _ _ _=>exact k.elim
def zDg{α:FA}{R:List D->(Mem->Bool)->Mem->Prop}(h:WA α J μ λds μ1=>∃j:Int,ds=[.int j]/\-(2^62)<=j/\j<2^62/\R ((yh j.toNat).map λ(k:Nat) =>.int k) yes μ1):WI (zYg α) J μ R:=by
 obtain⟨ds,μ1,e1,j,rfl,h1,h2,q⟩:=h;refine⟨_,_,_,?_,q⟩;unfold zYg;simp only[e1,yr];rw[decide_eq_true ⟨h1,h2⟩];rfl
def zMd{R:List D->(Mem->Bool)->Mem->Prop}(h:WE G J μ λx μ1=>(∃ds,x=.tup ds/\R ds yes μ1)\/(∃ds,x=.fz ds/\R ds yes μ1)\/∃n ds,x=.loc n/\μ1[n]?=some (.lst ds)/\R ds (z1i n ds) μ1):WI (zah G) J μ R:=by
 obtain⟨x,μ1,e1,⟨ds,rfl,q⟩|⟨ds,rfl,q⟩|⟨n,ds,rfl,e2,q⟩⟩:=h
 ·exact⟨_,_,_,by simp[e1]<;>rfl,q⟩
 ·exact⟨_,_,_,by simp[e1]<;>rfl,q⟩
 ·exact⟨_,_,_,by simp[e1,e2]<;>rfl,q⟩
def zwd{n:Nat}{R:Loc->Mem->Prop}(q:R (J.set n (some d)) μ):WG (gN n) d J μ R:=⟨_,_,rfl,q⟩
def zqx{n:Nat}{gs:FGs}{R:Loc->Mem->Prop}(hl:ds.length=n)(h:WGs gs ds J μ R):WG (gT n gs) (.tup ds) J μ R:=by
 obtain⟨J',μ',e,q⟩:=h;exact⟨J',μ',by simp[hl,e],q⟩
def zhl{gs:FGs}{R:Loc->Mem->Prop}{a b:D}(h:WGs gs [a,b] J μ R):WG (gT 2 gs) (.tup [a,b]) J μ R:=zqx rfl h
def zVw{gs:FGs}{R:Loc->Mem->Prop}{a b c:D}(h:WGs gs [a,b,c] J μ R):WG (gT 3 gs) (.tup [a,b,c]) J μ R:=zqx rfl h
def zrk{R:Loc->Mem->Prop}(q:R J μ):WGs zse [] J μ R:=⟨_,_,rfl,q⟩
def z3d{t:FG}{gs:FGs}{R:Loc->Mem->Prop}(h:WG t d J μ λJ1 μ1=>WGs gs ds J1 μ1 R):WGs (zgb t gs) (d::ds) J μ R:=by
 obtain⟨J1,μ1,e1,J2,μ2,e2,q⟩:=h;exact⟨J2,μ2,by simp[e1,e2],q⟩
variable {nx:Loc->Mem->Prop}{rt:D->Mem->Prop}{bk ct:Loc->Mem->Prop}{p q:FS}
def zjb(h:nx J μ):WS zac J μ nx rt bk ct:=⟨.next J μ,rfl,h⟩
def zu(h:WS p J μ (λJ' μ'=>WS q J' μ' nx rt bk ct) rt bk ct):WS (zeb p q) J μ nx rt bk ct:=by
 obtain⟨o,e,k⟩:=h
 cases o with
 |next J' μ'=>obtain⟨o2,e2,k2⟩:=k;exact⟨o2,by simp[e,e2],k2⟩
 |ret d μ'=>exact⟨.ret d μ',by simp only[zeb,e],k⟩
 |brk d μ'=>exact⟨.brk d μ',by simp only[zeb,e],k⟩
 |cont d μ'=>exact⟨.cont d μ',by simp only[zeb,e],k⟩
 |exc _ _ _=>exact k.elim
def zab{n:Nat}(h:WE G J μ λd μ'=>nx (J.set n (some d)) μ'):WS (zcc n G) J μ nx rt bk ct:=by
 obtain⟨d,μ',e,k⟩:=h;exact⟨.next _ _,by simp only[zcc,e,yr],k⟩
def z4j{g:FG}(h:WE G J μ λd μ1=>WG g d J μ1 nx):WS (zep G g) J μ nx rt bk ct:=by
 obtain⟨d,μ1,e,J',μ2,e2,k⟩:=h;exact⟨.next _ _,by simp only[zep,e,yr,e2],k⟩
def zmg(h:WE G J μ λ_ μ'=>nx J μ'):WS (zlh G) J μ nx rt bk ct:=by
 obtain⟨d,μ',e,k⟩:=h;exact⟨.next _ _,by simp only[zlh,e,yr],k⟩
def zqb(h:WE G J μ rt):WS (zdc G) J μ nx rt bk ct:=by
 obtain⟨d,μ',e,k⟩:=h;exact⟨.ret _ _,by simp only[zdc,e,yr],k⟩
def zkf{c:FT}(h:WT c J μ λb μ1=>(b=true->WS p J μ1 nx rt bk ct)/\(b=false->WS q J μ1 nx rt bk ct)):WS (sIf c p q) J μ nx rt bk ct:=by
 obtain⟨b,μ1,e,h1,h2⟩:=h
 cases b with
 |true=>obtain⟨o,e2,k⟩:=h1 rfl;exact⟨o,by simp[e,e2],k⟩
 |false=>obtain⟨o,e2,k⟩:=h2 rfl;exact⟨o,by simp[e,e2],k⟩
def zhe{it:FI}{g:FG}{body:FS}(h:WI it J μ λds ok μ1=>WFor g body ok ds J μ1 nx rt):WS (z3i it g body) J μ nx rt bk ct:=by
 obtain⟨ds,ok,μ1,e,o,e2,k⟩:=h;refine⟨o,by simp only[z3i,e,yr];exact e2,?_⟩
 cases o with
 |next _ _=>exact k
 |ret _ _=>exact k
 |brk _ _=>exact k.elim
 |cont _ _=>exact k.elim
 |exc _ _ _=>exact k.elim
def z5q{g:FG}{body:FS}{ok:Mem->Bool}{nx:Loc->Mem->Prop}{rt:D->Mem->Prop}(I:Nat->Loc->Mem->Prop):∀{xs:List D} {n:Nat} {J:Loc} {μ:Mem},I n J μ->(∀m J μ,I m J μ->ok μ=true) ->
 (∀(m:Nat)(x:D)(J:Loc)(μ:Mem),xs[m]?=some x->I (n+m) J μ->WG g x J μ λJ1 μ1=>WS body J1 μ1 (I (n+m+1)) rt nx (I (n+m+1)))->(∀J μ,I (n+xs.length) J μ->nx J μ)->WFor g body ok xs J μ nx rt
 |[],n,J,μ,h0,hok,_,hend=>⟨.next J μ,by simp only[zCg,hok _ _ _ h0,cond_true],hend J μ h0⟩
 |x::xs,n,J,μ,h0,hok,hs,hend=>by
  obtain⟨J1,μ1,e1,o,e2,k⟩:=hs 0 x J μ rfl h0
  cases o with
  |next J2 μ2=>
   obtain⟨o3,e3,k3⟩:=z5q I (xs:=xs) (n:=n+1) (J:=J2) (μ:=μ2) k hok (λm y J μ hy hI=>by
    have:=hs (m+1) y J μ (by simpa using hy) (by rw[show n+(m+1)=n+1+m by omega];exact hI);rw[show n+(m+1)=n+1+m by omega]at this;exact this) (λJ μ hI=>hend J μ (by rw[length_cons,show n+(xs.length+1)=n+1+xs.length by omega];exact hI))
   exact⟨o3,by simp only[zCg,hok _ _ _ h0,cond_true,e1,yr,e2];exact e3,k3⟩
  |cont J2 μ2=>
   obtain⟨o3,e3,k3⟩:=z5q I (xs:=xs) (n:=n+1) (J:=J2) (μ:=μ2) k hok (λm y J μ hy hI=>by
    have:=hs (m+1) y J μ (by simpa using hy) (by rw[show n+(m+1)=n+1+m by omega];exact hI);rw[show n+(m+1)=n+1+m by omega]at this;exact this) (λJ μ hI=>hend J μ (by rw[length_cons,show n+(xs.length+1)=n+1+xs.length by omega];exact hI))
   exact⟨o3,by simp only[zCg,hok _ _ _ h0,cond_true,e1,yr,e2];exact e3,k3⟩
  |brk J2 μ2=>exact⟨.next J2 μ2,by simp only[zCg,hok _ _ _ h0,cond_true,e1,yr,e2],k⟩
  |ret d μ2=>exact⟨.ret d μ2,by simp only[zCg,hok _ _ _ h0,cond_true,e1,yr,e2],k⟩
  |exc _ _ _=>exact k.elim
end
def zKs{g:FG}{c:FT}{G:FE}{ok:Mem->Bool}{J:Loc}{Q:D->Mem->Prop}(I:Nat->List D->Mem->Prop):∀{xs ys:List D} {n:Nat} {μ:Mem},I n ys μ->(∀m ys μ,I m ys μ->ok μ=true) ->
 (∀(m:Nat)(x:D)(ys:List D)(μ:Mem),xs[m]?=some x->I (n+m) ys μ->WG g x J μ λJ1 μ1=>WT c J1 μ1 λb μ2=>(b=true->WE G J1 μ2 λd μ3=>I (n+m+1) (ys++[d]) μ3)/\(b=false->I (n+m+1) ys μ2)) ->
 (∀ys μ,I (n+xs.length) ys μ->Q (.loc μ.length) (μ++[.lst ys]))->WL g c G ok J xs ys μ Q
 |[],ys,n,μ,h0,hok,_,hend=>⟨_,_,by simp only[zcr,hok _ _ _ h0,cond_true],hend ys μ h0⟩
 |x::xs,ys,n,μ,h0,hok,hs,hend=>by
  obtain⟨J1,μ1,e1,b,μ2,e2,ht,hf⟩:=hs 0 x ys μ rfl h0
  have step:∀ys2 μ3,I (n+1) ys2 μ3->WL g c G ok J xs ys2 μ3 Q:=λys2 μ3 h=>zKs I (n:=n+1) h hok (λm y ys μ hy hI=>by
   have:=hs (m+1) y ys μ (by simpa using hy) (by rw[show n+(m+1)=n+1+m by omega];exact hI);rw[show n+(m+1)=n+1+m by omega]at this;exact this) (λys μ hI=>hend ys μ (by rw[length_cons,show n+(xs.length+1)=n+1+xs.length by omega];exact hI))
  cases b with
  |true=>
   obtain⟨d,μ3,e3,h3⟩:=ht rfl;obtain⟨d',μ4,e4,q⟩:=step _ _ h3;exact⟨d',μ4,by simp only[zcr,hok _ _ _ h0,cond_true,e1,yr,e2,e3];exact e4,q⟩
  |false=>
   obtain⟨d',μ4,e4,q⟩:=step _ _ (hf rfl);exact⟨d',μ4,by simp only[zcr,hok _ _ _ h0,cond_true,e1,yr,e2,cond_false];exact e4,q⟩
def zzb{g:FG}{body:FS}{ok:Mem->Bool}{nx:Loc->Mem->Prop}{rt:D->Mem->Prop}{xs:List D}{J:Loc}{μ:Mem}(I:Nat->Loc->Mem->Prop)(h0:I 0 J μ)(hok:∀m J μ,I m J μ->ok μ=true)
 (hs:∀(m:Nat)(x:D)(J:Loc)(μ:Mem),xs[m]?=some x->I m J μ->WG g x J μ λJ1 μ1=>WS body J1 μ1 (I (m+1)) rt nx (I (m+1))) (hend:∀J μ,I xs.length J μ->nx J μ):WFor g body ok xs J μ nx rt :=
 z5q I (n:=0) h0 hok (λm x J μ hx h=>by
  rw[Nat.zero_add]at h ⊢;exact hs m x J μ hx h) (λJ μ h=>hend J μ (by rw[Nat.zero_add]at h;exact h))
def zRq{g:FG}{c:FT}{G:FE}{ok:Mem->Bool}{J:Loc}{Q:D->Mem->Prop}{xs:List D}{μ:Mem}(I:Nat->List D->Mem->Prop)(h0:I 0 [] μ)(hok:∀m ys μ,I m ys μ->ok μ=true)
 (hs:∀(m:Nat)(x:D)(ys:List D)(μ:Mem),xs[m]?=some x->I m ys μ->WG g x J μ λJ1 μ1=>WT c J1 μ1 λb μ2=>(b=true->WE G J1 μ2 λd μ3=>I (m+1) (ys++[d]) μ3)/\(b=false->I (m+1) ys μ2))
 (hend:∀ys μ,I xs.length ys μ->Q (.loc μ.length) (μ++[.lst ys])):WL g c G ok J xs [] μ Q :=
 zKs I (n:=0) h0 hok (λm x ys μ hx h=>by
  rw[Nat.zero_add]at h ⊢;exact hs m x ys μ hx h) (λys μ h=>hend ys μ (by rw[Nat.zero_add]at h;exact h))
def z0n{j m:Nat}{x:D}(h:((yh j).map λ(k:Nat)=>D.int k)[m]?=some x):m<j/\x=.int m:=by
 have h1:=(List.getElem?_eq_some_iff.mp h).1;simp at h1;refine⟨h1,?_⟩;simp[h1]at h;exact h.symm
def zZd{α:Type}{g:FG}{c:FT}{G:FE}{ok:Mem->Bool}{J:Loc}{Q:D->Mem->Prop}{μ:Mem}(e:α->D)(l:List α)(f:α->D)(p:α->Bool)(hok:∀μ',tq μ μ'->ok μ'=true)
 (hs:∀x∈l,∀μ',tq μ μ'->WG g (e x) J μ' λJ1 μ1=>WT c J1 μ1 λb μ2=>b=p x/\tq μ μ2/\(b=true->WE G J1 μ2 λd μ3=>d=f x/\tq μ μ3))
 (hq:∀μ',tq μ μ'->Q (.loc μ'.length) (μ'++[.lst ((l.filter p).map f)])):WL g c G ok J (l.map e) [] μ Q:=by
 refine zRq (λm ys μ'=>tq μ μ'/\ys=((l.take m).filter p).map f) ⟨.refl,by simp⟩ (λm ys μ' h=>hok μ' h.1) (λm x ys μ' hx h=>?_) (λys μ' h=>?_)
 ·rw[yj]at hx
  cases hy:l[m]? with
  |none=>rw[hy]at hx;cases hx
  |some y=>
   rw[hy]at hx;cases hx;obtain⟨J1,μ1,e1,b,μ2,e2,hb,k2,h3⟩:=hs y (mem_of_getElem? hy) μ' h.1
   have ht:l.take (m+1)=l.take m++[y]:=by
    rw[take_succ,hy];rfl
   refine⟨J1,μ1,e1,b,μ2,e2,λhb1=>?_,λhb1=>⟨k2,?_⟩⟩
   ·obtain⟨d,μ3,e3,rfl,k3⟩:=h3 hb1;refine⟨_,_,e3,k3,?_⟩;rw[ht,List.filter_append,map_append,<-h.2,List.filter_cons_of_pos (by rw[<-hb,hb1])];rfl
   ·rw[ht,List.filter_append,map_append,<-h.2,List.filter_cons_of_neg (by rw[<-hb,hb1];exact yv)];simp
 ·rw[length_map,take_length]at h;rw[h.2];exact hq μ' h.1
def zZf{α:Type}{g:FG}{G:FE}{ok:Mem->Bool}{J:Loc}{Q:D->Mem->Prop}{μ:Mem}(e:α->D)(l:List α)(f:α->D)(hok:∀μ',tq μ μ'->ok μ'=true)
 (hs:∀x∈l,∀μ',tq μ μ'->WG g (e x) J μ' λJ1 μ1=>WE G J1 μ1 λd μ3=>d=f x/\tq μ μ3/\tq μ μ1)
 (hq:∀μ',tq μ μ'->Q (.loc μ'.length) (μ'++[.lst (l.map f)])):WL g zgp G ok J (l.map e) [] μ Q :=
 zZd e l f (λ_=>true) hok (λx hx μ' k=>by
  obtain⟨J1,μ1,e1,d,μ3,e3,h1,h2,h3⟩:=hs x hx μ' k;exact⟨J1,μ1,e1,true,μ1,rfl,rfl,h3,λ_=>⟨d,μ3,e3,h1,h2⟩⟩) (λμ' k=>by rw[List.filter_eq_self.mpr (λ_ _=>rfl)];exact hq μ' k)
def zfc{ds:List D}(h:ds.length<=1000000):few ds=true:=decide_eq_true h
def zW{n:Nat}{ds:List D}{μ μ':Mem}(h:μ[n]?=some (.lst ds))(k:tq μ μ'):z1i n ds μ'=true:=Tt.mpr (k n _ h)
def zvu{ns:List Int}{k:Int}:k∈uqL ns↔k∈ns:=by
 unfold uqL;rw[zyp,List.mem_iff_getElem];constructor
 ·rintro⟨j,hj,h⟩;exact⟨j,hj,by simpa[hj] using h⟩
 ·rintro⟨j,hj,h⟩;exact⟨j,hj,by simpa[hj] using h⟩
def zFk{ns l:List Int}(h1:∀k,k∈l↔k∈ns)(h2:l.Pairwise (· < ·)):(uqL ns).Perm l:=by
 refine(List.perm_ext_iff_of_nodup (zHl _ _) (h2.imp λh=>Int.ne_of_lt h)).mpr λk=>?_;rw[h1];exact zvu
def zCn{ns l:List Int}(h1:∀k,k∈l↔k∈ns)(h2:l.Pairwise (· < ·)):zdr ns=l :=
 zjc ((mergeSort_perm _ _).trans (zFk h1 h2)) (zBg _) (h2.imp λh=>Int.le_of_lt h)
structure KB(L:List Nat)(μ μ':Mem):Prop where
 len:μ.length<=μ'.length
 at_:∀(n:Nat)(o:tE),n∉L->μ[n]?=some o->μ'[n]?=some o
section
variable {L:List Nat}{μ μ1 μ2 μ':Mem}{n:Nat}{o:tE}
def KB.refl:KB L μ μ:=⟨yi _,λ_ _ _ h=>h⟩
def KB.trans(a:KB L μ μ1)(b:KB L μ1 μ2):KB L μ μ2:=⟨yB a.len b.len,λn o h e=>b.at_ n o h (a.at_ n o h e)⟩
def KB.app{g:Mem}(a:KB L μ μ1):KB L μ (μ1++g):=⟨by simp;have:=a.len;omega,λn o h e=>zI (a.at_ n o h e)⟩
def KB.set{m:Nat}(a:KB L μ μ1)(h:m∈L\/μ.length<=m):KB L μ (μ1.set m o):=⟨by simp;exact a.len,λn o' hn e=>by
 rw[Yr]
 ·exact a.at_ n o' hn e
 ·rintro rfl;rcases h with h|h
  ·exact hn h
  ·exact absurd (zJ e) (by omega)⟩
def KB.of_keep(a:tq μ μ'):KB L μ μ':=⟨a.len,λn o _ e=>a n o e⟩
variable {G ψ χ:FE}{g g2:φ2}{J:Loc}{Q:D->Mem->Prop}{i j:Int}{d x y:D}{ds xs:List D}
def zPh(h:WE G J μ λx μ1=>∃j:Int,x=.int j/\(-(2^62)<=j/\j<=1000000)/\Q (.loc μ1.length) (μ1++[.lst ((yh j.toNat).map λ(k:Nat) =>.int k)])):WE (zPg G) J μ Q:=by
 obtain⟨x,μ1,e1,j,rfl,h1,q⟩:=h;exact⟨_,_,by simp only[zPg,e1,yr];rw[decide_eq_true h1];rfl,q⟩
def zgv{n:Nat}{bs:List Bool}(h:μ[n]?=some (.lst (bs.map .bl)))(q:Q (.bl (bs.any λb=>b)) μ):WF zfv [.loc n] μ Q:=⟨_,_,by simp[h,any_map,Function.comp_def],q⟩
def zEv(q:Q (.int i) μ):WF z8v [.int i] μ Q:=⟨_,_,rfl,q⟩
def z9s{b:Bool}(q:Q (.int (if b then 1 else 0)) μ):WF z8v [.bl b] μ Q:=⟨_,_,rfl,q⟩
def zUs(q:Q (.int (if j<i then j else i)) μ):WF zos [.int i,.int j] μ Q:=⟨_,_,rfl,q⟩
def zgw(q:Q (.int (if j>i then j else i)) μ):WF z1w [.int i,.int j] μ Q:=⟨_,_,rfl,q⟩
def zQw{c:FT}(h:WT c J μ λb μ1=>(b=true->WE G J μ1 Q)/\(b=false->WE ψ J μ1 Q)):WE (fIf c G ψ) J μ Q:=by
 obtain⟨b,μ1,e,h1,h2⟩:=h
 cases b with
 |true=>obtain⟨d,μ2,e2,k⟩:=h1 rfl;exact⟨d,μ2,by simp[e,e2],k⟩
 |false=>obtain⟨d,μ2,e2,k⟩:=h2 rfl;exact⟨d,μ2,by simp[e,e2],k⟩
def zpv{l:Nat}{n:Int}(h:μ[l]?=some (.lst xs))(h1:n<=1000)(h2:-(2^62)<=n)(h3:xs.length<=1000)(q:Q (.loc μ.length) (μ++[.lst (yg n.toNat xs).flatten])):W2 zAh (.loc l) (.int n) μ Q :=
 ⟨_,_,by simp only[zAh,h];rw[decide_eq_true ⟨h1,h2,h3⟩];rfl,q⟩
def zRw{lo hi:FO}(h:WE G J μ λx μ1=>WO lo J μ1 λl μ2=>WO hi J μ2 λu μ3=>∃n ds,x=.loc n/\μ3[n]?=some (.lst ds)/\Q (.loc μ3.length) (μ3++[.lst (cutD ds l u)])):WE (fSl G lo hi) J μ Q:=by
 obtain⟨x,μ1,e1,l,μ2,e2,u,μ3,e3,n,ds,rfl,e4,q⟩:=h;exact⟨_,_,by simp[e1,e2,e3,e4]<;>rfl,q⟩
def zVt{R:Loc->Mem->Prop}(h:WE G J μ λx μ1=>WE ψ J μ1 λy μ2=>∃(n:Nat)(i:Int)(zs:List D),x=.loc n/\y=.int i/\μ2[n]?=some (.lst zs)/\(0<=i/\i<zs.length)/\R J (μ2.set n (.lst (zs.set i.toNat d)))):WG (gAt G ψ) d J μ R:=by
 obtain⟨x,μ1,e1,y,μ2,e2,n,i,zs,rfl,rfl,e3,hi,q⟩:=h;have e4:ixN zs.length i=some i.toNat:=by unfold ixN;rw[if_pos hi.1,if_pos hi.2]
 exact⟨_,_,by simp[e1,e2,e3,e4]<;>rfl,q⟩
end
abbrev nat(S:List Nat):List D:=S.map λ(k:Nat)=>D.int k
def z2b(a b:List Nat):nat (a++b)=nat a++nat b:=map_append
def zUk{α:Type}(f:α->Nat)(l:List α):nat (l.map f)=l.map λa=>D.int (f a:Nat):=map_map
class Enc(α:Type) where
 d:α->D
 p:α->PyData
 dep:Nat
 rd:∀(μ:Mem)(n:Nat)(a:α),toP μ (n+dep) (d a)=some (p a)
 eq:∀a b:α,Yx (p a) (p b)=true↔a=b
instance:Enc Int:=⟨.int,.int,1,λ_ _ _=>rfl,λa b=>by simp[Yx]⟩
instance:Enc Nat:=⟨λ(k:Nat) =>.int k,λ(k:Nat) =>.int k,1,λ_ _ _=>rfl,λa b=>by simp[Yx];omega⟩
instance:Enc Bool:=⟨.bl,.bool,1,λ_ _ _=>rfl,λa b=>by simp[Yx]⟩
abbrev onD:Option Nat->D
 |none =>.non
 |some k =>.int k
instance:Enc (Option Nat):=⟨onD,fun|none =>.none|some k =>.int k,1,λ_ _ a=>by cases a<;>rfl,λa b=>by cases a<;>cases b<;>simp[Yx];omega⟩
def zQe{α:Type}[Enc α]:∀xs ys:List α,PyData.eqvAll (xs.map Enc.p) (ys.map Enc.p)=true↔xs=ys
 |[],[]=>by simp[PyData.eqvAll]
 |[],y::ys=>by simp[PyData.eqvAll]
 |x::xs,[]=>by simp[PyData.eqvAll]
 |x::xs,y::ys=>by
  rw[map_cons,map_cons,PyData.eqvAll,yN,Enc.eq,zQe xs ys,xr]
def sZ{α:Type}[Enc α](μ:Mem)(n:Nat):∀xs:List α,(xs.map Enc.d).mapM (toP μ (n+Enc.dep α))=some (xs.map Enc.p)
 |[]=>rfl
 |x::xs=>by rw[map_cons,mapM_cons,sZ μ n xs,Enc.rd];rfl
instance instEncList{α:Type}[Enc α]:Enc (List α):=⟨λxs =>.tup (xs.map Enc.d),λxs =>.tuple (xs.map Enc.p),Enc.dep α+1,λμ n xs=>by
 show((xs.map Enc.d).mapM (toP μ (n+Enc.dep α))).bind (λps=>some (PyData.tuple ps))=_;rw[sZ];rfl,λa b=>by rw[Yx];exact zQe a b⟩
def zqh{μ:Mem}{α:Type}[Enc α](a:α)(h:Enc.dep α<=8):toP μ 8 (Enc.d a)=some (Enc.p a):=by
 have:=Enc.rd μ (8-Enc.dep α) a;rw[Nat.sub_add_cancel h]at this;exact this
def zid{b:Bool}{p:Prop}[Decidable p](h:b=true↔p):b=decide p:=by
 cases b<;>simp_all
section
variable {G ψ χ:FE}{g g2:φ2}{J:Loc}{μ:Mem}{Q:D->Mem->Prop}{i j:Int}{d x y:D}{ds xs:List D}{α:Type}[Enc α][DecidableEq α]
def zVo(a b:α)(q:Q (.bl (decide (a=b))) μ)(hx:x=Enc.d a:=by rfl)(hy:y=Enc.d b:=by rfl)(h:Enc.dep α<=8:=by decide):W2 gEq x y μ Q:=by
 subst hx hy;exact z8w (zqh a h) (zqh b h) (by rw[zid (Enc.eq a b)];exact q)
def zTt(a b:α)(q:Q (.bl (!decide (a=b))) μ)(hx:x=Enc.d a:=by rfl)(hy:y=Enc.d b:=by rfl)(h:Enc.dep α<=8:=by decide):W2 gNe x y μ Q:=by
 subst hx hy;exact zox (zqh a h) (zqh b h) (by rw[zid (Enc.eq a b)];exact q)
def zxh{n:Nat}(as:List α)(e:μ[n]?=some (.lst (as.map Enc.d)))(h:Enc.dep α<=7):toP μ 8 (.loc n)=some (.list (as.map Enc.p)):=by
 show(match μ[n]? with
  |some (.lst ds)=>(ds.mapM (toP μ 7)).bind λps=>some (PyData.list ps)
  |_=>none)=_
 rw[e];show((as.map Enc.d).mapM (toP μ 7)).bind (λps=>some (PyData.list ps))=_;have:=sZ μ (7-Enc.dep α) as;rw[Nat.sub_add_cancel h]at this;rw[this];rfl
def zft(as bs:List α){m n:Nat}(e1:μ[m]?=some (.lst (as.map Enc.d)))(e2:μ[n]?=some (.lst (bs.map Enc.d)))(q:Q (.bl (decide (as=bs))) μ)(h:Enc.dep α<=7:=by decide):W2 gEq (.loc m) (.loc n) μ Q :=
 z8w (zxh as e1 h) (zxh bs e2 h) (by rw[Yx,zid (zQe as bs)];exact q)
def zEu(as bs:List α){m n:Nat}(e1:μ[m]?=some (.lst (as.map Enc.d)))(e2:μ[n]?=some (.lst (bs.map Enc.d)))(q:Q (.bl (!decide (as=bs))) μ)(h:Enc.dep α<=7:=by decide):W2 gNe (.loc m) (.loc n) μ Q :=
 zox (zxh as e1 h) (zxh bs e2 h) (by rw[Yx,zid (zQe as bs)];exact q)
def zlk(S:List Nat):(nat S).all zec=true:=List.all_eq_true.mpr λx hx=>by
 obtain⟨k,_,rfl⟩:=List.mem_map.mp hx;rfl
def z2m(k:Nat):∀S:List Nat,((nat S).any λd=>eqF d (.int k))=decide (k∈S):=λS=>by
 refine zid ?_;rw[any_eq_true];constructor
 ·rintro⟨x,hx,e⟩;obtain⟨j,hj,rfl⟩:=List.mem_map.mp hx;have h1:(j:Int)=k:=beq_iff_eq.mp (show((j:Int)==(k:Int))=true from e);have h2:j=k:=by omega
  exact h2▸hj
 ·intro h;exact⟨.int k,List.mem_map.mpr ⟨k,h,rfl⟩,(show((k:Int)==(k:Int))=true from beq_self_eq_true _)⟩
def zzm{k:Nat}{S:List Nat}(h:items μ y=some (nat S))(q:Q (.bl (decide (k∈S))) μ):W2 gIn (.int k) y μ Q:=z8x h rfl (zlk S) (by rw[z2m];exact q)
def zxn{k:Nat}{S:List Nat}(h:items μ y=some (nat S))(q:Q (.bl (!decide (k∈S))) μ):W2 zge (.int k) y μ Q:=zXh h rfl (zlk S) (by rw[z2m];exact q)
def zTp(S:List (Option Nat)):(S.map onD).all zec=true:=List.all_eq_true.mpr λx hx=>by
 obtain⟨k,_,rfl⟩:=List.mem_map.mp hx;cases k<;>rfl
def zXu(a b:Option Nat):eqF (onD a) (onD b)=decide (a=b):=by
 cases a<;>cases b<;>try rfl
 rename_i a b
 show(((a:Nat):Int)==(b:Nat))=decide (some a=some b);rw[xS,beq_iff_eq,decide_eq_true_iff,Option.some.injEq,Int.natCast_inj]
def zNs{n:Nat}{S:List Nat}(h:μ[n]?=some (.lst (nat S)))(q:Q (.int (S.sum:Nat)) μ):WF zNu [.loc n] μ Q:=by
 refine zcx (ns:=S.map λ(k:Nat)=>(k:Int)) (by rw[h];simp) ?_
 have:(S.map λ(k:Nat)=>(k:Int)).sum=((S.sum:Nat):Int):=by
  clear h q
  induction S with
  |nil=>rfl
  |cons a S ih=>rw[map_cons,sum_cons,sum_cons,ih];omega
 rw[this];exact q
def zNh{S:List Nat}{i:Nat}(h:i<S.length):atI (nat S) (i:Int)=some (.int (S.getD i 0:Nat)):=zyc (by simp[h])
end
section
variable {G ψ χ:FE}{g g2:φ2}{J:Loc}{μ:Mem}{Q:D->Mem->Prop}{i j:Int}{d x y:D}{ds xs:List D}
def z7f{R:List D->(Mem->Bool)->Mem->Prop}(h:WE G J μ λx μ1=>(∃ds,x=.tup ds/\R (zFf ds) yes μ1)\/(∃ds,x=.fz ds/\R (zFf ds) yes μ1)\/∃n ds,x=.loc n/\μ1[n]?=some (.lst ds)/\R (zFf ds) (z1i n ds) μ1):WI (zcj G) J μ R:=by
 obtain⟨x,μ1,e1,⟨ds,rfl,q⟩|⟨ds,rfl,q⟩|⟨n,ds,rfl,e2,q⟩⟩:=h
 ·exact⟨_,_,_,by simp[e1]<;>rfl,q⟩
 ·exact⟨_,_,_,by simp[e1]<;>rfl,q⟩
 ·exact⟨_,_,_,by simp[e1,e2]<;>rfl,q⟩
def zso{α:Type}{f:α->D}{xs:List α}{m:Nat}{x:D}(h:(zFf (xs.map f))[m]?=some x):∃y,xs[m]?=some y/\x=.tup [.int m,f y]:=by
 obtain⟨z,hz,rfl⟩:=zgk h;rw[yj]at hz
 cases e:xs[m]? with
 |none=>rw[e]at hz;cases hz
 |some y=>rw[e]at hz;cases hz;exact⟨y,rfl,rfl⟩
def zmt{m:GM}(h:WE G J μ λx μ1=>∃n xs,x=.loc n/\μ1[n]?=some (.lst xs)/\WM m (.loc n) [] μ1 Q):WE (zZn m G) J μ Q:=by
 obtain⟨x,μ1,e1,n,xs,rfl,e2,d,μ3,e4,q⟩:=h;exact⟨d,μ3,by simp[e1,e2,e4],q⟩
def z2w{n:Nat}(h:μ[n]?=some (.lst (xs++[d])))(q:Q d (μ.set n (.lst xs))):WM zlw (.loc n) [] μ Q:=⟨_,_,by simp[h]<;>rfl,q⟩
def zCp{n:Nat}(h:μ[n]?=some (.lst xs))(h1:zec d=true)(h2:xs.all zec=true)(q:Q (.int (xs.countP λy=>eqF y d:Nat)) μ):WM zwi (.loc n) [d] μ Q:=⟨_,_,by simp only[zwi,h,h1,h2,Bool.and_self,cond_true],q⟩
def zDq{n k:Nat}{S:List Nat}(h:μ[n]?=some (.lst (nat S)))(hk:k∈S)(q:Q .non (μ.set n (.lst (nat (S.erase k))))):WM zQg (.loc n) [.int k] μ Q:=by
 have e1:nat S=(S.map λ(k:Nat)=>(k:Int)).map D.int:=by simp
 have e2:∀T:List Nat,(T.map λ(k:Nat)=>(k:Int)).erase (k:Int)=(T.erase k).map λ(k:Nat)=>(k:Int):=λT=>by
  induction T with
  |nil=>rfl
  |cons t T ih=>
   rw[map_cons]
   by_cases ht:t=k
   ·subst ht;simp
   ·rw[List.erase_cons_tail (by simp;omega),List.erase_cons_tail (by simpa using ht),ih];rfl
 have e3:(S.map λ(k:Nat)=>(k:Int)).contains (k:Int)=true:=by
  rw[List.contains_iff_mem];exact List.mem_map.mpr ⟨k,hk,rfl⟩
 refine⟨.non,_,?_,q⟩;simp only[zQg,h];rw[e1,zri];simp only[yr,e3,cond_true,e2];rw[map_map];rfl
variable {nx:Loc->Mem->Prop}{rt:D->Mem->Prop}{bk ct:Loc->Mem->Prop}{p q:FS}
def zuv{i:Nat}{g:φ2}{x:D}(hx:J[i]?=some (some x))(h:WE G J μ λy μ1=>W2 g x y μ1 λd μ2=>nx (J.set i (some d)) μ2):WS (zLu i g G) J μ nx rt bk ct:=by
 obtain⟨y,μ1,e1,d,μ2,e2,k⟩:=h;exact⟨.next _ _,by simp only[zLu,hx,e1,yr,e2],k⟩
def zzv{i j:Int}{Q:D->Mem->Prop}(q:Q (.int (i+j)) μ):W2 zPr (.int i) (.int j) μ Q:=⟨_,_,rfl,q⟩
def zqv{i j:Int}{Q:D->Mem->Prop}(h:-(2^64)<j/\j<2^64)(q:Q (.int (i*j)) μ):W2 zUp (.int i) (.int j) μ Q:=⟨_,_,by simp only[zUp];rw[decide_eq_true h];rfl,q⟩
def zqi{c:FT}{body:FS}(I:Nat->Loc->Mem->Prop):∀{n m:Nat} {J:Loc} {μ:Mem},m<n->I m J μ ->
 (∀m J μ,I m J μ->WT c J μ λb μ1=>(b=true->WS body J μ1 (λJ' μ'=>∃m',m'<m/\I m' J' μ') rt nx (λJ' μ'=>∃m',m'<m/\I m' J' μ'))/\(b=false->nx J μ1))->WS (zPj n c body) J μ nx rt bk ct
 |0,m,J,μ,h,_,_=>absurd h (Nat.not_lt_zero _)
 |n+1,m,J,μ,h,h0,hs=>by
  obtain⟨b,μ1,e1,ht,hf⟩:=hs m J μ h0
  cases b with
  |false=>exact⟨.next J μ1,by show zBb c body (n+1) J μ=_;simp only[zBb,e1,yr,cond_false],hf rfl⟩
  |true=>
   obtain⟨o,e2,k⟩:=ht rfl
   have step:∀J' μ',(∃m',m'<m/\I m' J' μ')->∃o,zBb c body n J' μ'=some o/\Ek nx rt bk ct o:=λJ' μ' ⟨m',hm',hI⟩=>by
    obtain⟨o,e,k⟩:=zqi I (n:=n) (m:=m') (by omega) hI hs;exact⟨o,e,k⟩
   cases o with
   |next J' μ'=>obtain⟨o,e3,k3⟩:=step J' μ' k;exact⟨o,by show zBb c body (n+1) J μ=_;simp only[zBb,e1,yr,cond_true,e2];exact e3,k3⟩
   |cont J' μ'=>obtain⟨o,e3,k3⟩:=step J' μ' k;exact⟨o,by show zBb c body (n+1) J μ=_;simp only[zBb,e1,yr,cond_true,e2];exact e3,k3⟩
   |brk J' μ'=>exact⟨.next J' μ',by show zBb c body (n+1) J μ=_;simp only[zBb,e1,yr,cond_true,e2],k⟩
   |ret d μ'=>exact⟨.ret d μ',by show zBb c body (n+1) J μ=_;simp only[zBb,e1,yr,cond_true,e2],k⟩
   |exc _ _ _=>exact k.elim
end
def zSb{α:Type}(f:α->D)(xs:List α)(d:α):zFf (xs.map f)=(yh xs.length).map λ(k:Nat) =>.tup [.int k,f (xs.getD k d)]:=by
 refine ext_getElem? λi=>?_;unfold zFf;simp only[yj,List.getElem?_zipIdx]
 by_cases h:i<xs.length
 ·simp[h]
 ·simp[h]
abbrev oiD:Option Int->D
 |none =>.non
 |some k =>.int k
instance:Enc (Option Int):=⟨oiD,fun|none =>.none|some k =>.int k,1,λ_ _ a=>by cases a<;>rfl,λa b=>by cases a<;>cases b<;>simp[Yx]⟩
def zmw:D->Bool
 |.non=>true
 |_=>false
def zwh{d:D}{μ:Mem}{Q:D->Mem->Prop}(h:zec d=true)(q:Q (.bl (!zmw d)) μ):W2 zSg d .non μ Q:=by
 cases d<;>first|exact⟨_,_,rfl,q⟩|cases h
def zho(a:Option Nat):zec (onD a)=true:=by cases a<;>rfl
def zgt(ds:List D)(h:Nat):Nat:=ds.countP λy=>eqF y (.int h)
def zKq(lay:List (Option Nat))(h:Nat):zgt (lay.map onD) h=lay.count (some h):=by
 unfold zgt List.count;rw[countP_map]
 congr 1
 funext a
 have:=zXu a (some h);show eqF (onD a) (onD (some h))=_;rw[this];exact(Bool.beq_eq_decide_eq a (some h)).symm
def ztq{n:Nat}{lay:List (Option Nat)}{h:Nat}{μ:Mem}{Q:D->Mem->Prop}(e:μ[n]?=some (.lst (lay.map onD)))(q:Q (.int (lay.count (some h):Nat)) μ):WM zwi (.loc n) [.int h] μ Q :=
 zCp e rfl (zTp lay) (by rw[show(lay.map onD).countP (λy=>eqF y (.int h))=lay.count (some h) from zKq lay h];exact q)
def zQj{n m:Nat}{p:Nat->Bool}(h:p m=true)(hlt:m<n)(hb:∀j<m,p j=false):(yh n).find? p=some m:=by
 rw[List.find?_eq_some_iff_append];refine⟨h,yh m,(List.range' (m+1) (n-m-1)),?_,λa ha=>by simp[hb a (by simpa using ha)]⟩
 have:yh n=yh m++List.range' m (n-m):=by
  have e:n=m+(n-m):=by omega
  have:=List.range'_append_1 (s:=0) (m:=m) (n:=n-m);rw[<-e]at this;rw[List.range_eq_range',List.range_eq_range',<-this];simp
 rw[this,show n-m=(n-m-1)+1 by omega,List.range'_succ];simp
def zpe{n:Nat}{p:Nat->Bool}(h:∀j<n,p j=false):(yh n).find? p=none:=by
 rw[List.find?_eq_none];intro x hx;rw[h x (by simpa using hx)];exact yv
section
variable {G ψ χ:FE}{g g2:φ2}{J:Loc}{μ:Mem}{Q:D->Mem->Prop}{i j:Int}{d x y:D}{ds xs:List D}{kvs:List (Int×D)}{n:Nat}
def zZj(h:μ[n]?=some (.dct kvs)):zJb μ (.loc n)=some kvs:=by simp[h]
def zKg(h:μ[n]?=some (.dcf kvs)):zJb μ (.loc n)=some kvs:=by simp[h]
def zAv(h:zJb μ x=some kvs)(h2:zDc kvs i=some d)(q:Q d μ):W2 zqt x (.int i) μ Q:=⟨_,_,by simp only[zqt,h,yr,h2],q⟩
def zaw(h:zJb μ y=some kvs)(q:Q (.bl (zDc kvs i).isSome) μ):W2 zRm (.int i) y μ Q:=⟨_,_,by simp only[zRm,h,yr],q⟩
def z7v(h:zJb μ y=some kvs)(h2:kvs.all (λp=>decide (0<=p.1/\p.1<1000))=true)(q:Q (.bl false) μ):W2 zRm .non y μ Q:=⟨_,_,by simp only[zRm,h,yr,h2,cond_true],q⟩
def zDn(h:zJb μ y=some kvs)(q:Q (.bl (!(zDc kvs i).isSome)) μ):W2 zxg (.int i) y μ Q:=⟨_,_,by simp only[zxg,h,yr],q⟩
def zWq{R:Loc->Mem->Prop}(h:WE G J μ λx μ1=>WE ψ J μ1 λy μ2=>∃(n:Nat)(i:Int)(kvs:List (Int×D)),x=.loc n/\y=.int i/\μ2[n]?=some (.dct kvs)/\kvs.length<=1000000/\R J (μ2.set n (.dct (zlo kvs i d)))):WG (zOu G ψ) d J μ R:=by
 obtain⟨x,μ1,e1,y,μ2,e2,n,i,kvs,rfl,rfl,e3,hi,q⟩:=h;exact⟨_,_,by simp[e1,e2,e3,hi]<;>rfl,q⟩
def zDt(h:zJb μ x=some kvs)(q:Q (.loc μ.length) (μ++[.lst (zui kvs)])):WF zBl [x] μ Q:=⟨_,_,by simp only[zBl,h,yr],q⟩
def zwu{R:List D->(Mem->Bool)->Mem->Prop}(h:WE G J μ λx μ1=>∃n kvs,x=.loc n/\μ1[n]?=some (.dct kvs)/\R (zui kvs) yes (μ1.set n (.dcf kvs))):WI (zxu G) J μ R:=by
 obtain⟨x,μ1,e1,n,kvs,rfl,e2,q⟩:=h;exact⟨_,_,_,by simp[e1,e2]<;>rfl,q⟩
def zpw(h:WE G J μ λx μ1=>∃n ds,x=.loc n/\μ1[n]?=some (.lst ds)/\Q (.loc μ1.length) (μ1++[.lst ds.reverse])):WE (zSr G) J μ Q:=by
 obtain⟨x,μ1,e1,n,ds,rfl,e2,q⟩:=h;exact⟨_,_,by simp[zSr,e1,e2]<;>rfl,q⟩
end
end M
namespace M
open PySem PySem.W PyProof.Rows L2
def zqm{h:yW}:∀{as:List yf} {a:yf} {o:YY},(kOf as h).lookup a=some o->h.get? a=some o
 |[],a,o,e=>by cases e
 |b::as,a,o,e=>by
  unfold kOf at e;rw[List.filterMap_cons]at e
  cases hb:h.get? b with
  |none=>rw[hb]at e;exact zqm (as:=as) e
  |some u=>
   rw[hb]at e
   change List.lookup a ((b,u)::kOf as h)=some o at e
   rw[lookup_cons]at e
   by_cases q:a==b
   ·rw[q]at e;cases e;rw[eq_of_beq q];exact hb
   ·rw[Bool.not_eq_true]at q;rw[q]at e;exact zqm (as:=as) e
def zqu{h:yW}:(zYu h).In h:=λ_ _ e=>zqm e
def zur(s:Yp):zJu s=zzc s:=by cases s<;>rfl
def zys(s:Yp):zZt s=z8b s:=by cases s<;>rfl
def zfq(s:Yp):zYp s=zx s:=by cases s<;>rfl
def zws{K:Frag}{a:yf}{nm qual:yG}{st:Yp}(e:zvn K a qual=z2p nm qual st):∃(oc:yb)(od:Option yf)(sl:Array (Option yb)) (kV dc pm:yb) (an:Option yf) (cd ct:yb),
 K.lookup a=some ⟨oc,od,.func (fnOf nm qual (zzc st) (z8b st) (zx st) .none kV dc pm an cd ct),sl⟩/\codeIn K cd qual=true/\keepIn K (.ref a)=true:=by
 rw[<-zur,<-zys,<-zfq];unfold zvn at e
 split at e
 ·rename_i oc od fd sl hl
  obtain⟨x1,x2,x3,x4,x5,x6,x7,x8,x9,x10,x11,x12,x13,x14,x15⟩:=fd;have e:=yY e;simp only[TB.mk.injEq]at e;obtain⟨rfl,rfl,rfl,rfl,rfl,rfl,rfl,rfl,rfl,h1,h2⟩:=e;exact⟨_,_,_,_,_,_,_,_,_,hl,h1,h2⟩
 ·cases e
def fnl{K:Frag}{nm:yG}{st:Yp}{l l':List (Option TB)}(e:z5 K nm::l=z6 nm st::l'):(∃(f:yf)(oc:yb)(od:Option yf)(sl:Array (Option yb)) (kV dc pm:yb) (an:Option yf) (cd ct:yb),
 nsIn K yD nm=some (some (.ref f))/\K.lookup f=some ⟨oc,od,.func (fnOf nm nm (zzc st) (z8b st) (zx st) .none kV dc pm an cd ct),sl⟩/\codeIn K cd nm=true/\keepIn K (.ref f)=true)/\l=l':=by
 obtain⟨h1,h2⟩:=Yv e;refine⟨?_,h2⟩;unfold z5 at h1
 split at h1
 ·rename_i a ha
  obtain⟨oc,od,sl,kV,dc,pm,an,cd,ct,q⟩:=zws (show zvn K a nm=z2p nm nm st from h1);exact⟨a,oc,od,sl,kV,dc,pm,an,cd,ct,ha,q⟩
 ·cases h1
def fnc{K:Frag}{nm:yG}{st:Yp}{l l':List (Option TB)}(e:z5 K nm::l=z6 nm st::l'):(∃(f:yf)(fd:yn),nsIn K yD nm=some (some (.ref f))/\Fun K nm nm st f fd)/\l=l':=by
 obtain⟨⟨f,oc,od,sl,kV,dc,pm,an,cd,ct,a,l,c,k⟩,e⟩:=fnl e;exact⟨⟨f,_,a,zXs l c k⟩,e⟩
def Sa{l:OpenLaw}{q:yy}{loose:List yG}{d:DefRec}{α:Type}{obs:Frag->α}{good:α}{N:Nat}(said:l.wellSaid=true)
 (left:LeftO l.prog q loose (λ_=>true) (λs=>obs (zYu s.heap)) (λ_=>good) N) (hdef:defOf q l.name=some (d,[])) (hp:l.prog.theDef l.name=some (d.params,d.body,d.scope))
 (hk:kwWritten? d.params.kwonlyargs d.params.kw_defaults=some []) (ok:(chainsOk q&&opensWell l.prog&&(frees l.row.toRowW&&l.row.within.isEmpty))=true) (hb:l.prog.bare) (hw:l.row.toRowW.promised)
 (walk:∀K:Frag,obs K=good->WalkO q loose (λ_ _=>True) (λ_ h=>K.In h) l.row.toRowW d [] λf vs=>PySem.call f vs):l.Holds:=by
 refine holds_law said λsaid=>?_
 refine holds_open (r:=l.row) (q:=q) (loose:=loose) (Xt:=λ_=>true) (XP:=λ_ _=>True) (Yf:=λs=>obs (zYu s.heap)) (Ya:=λ_=>good) (YP:=λ_ h=>∃K:Frag,obs K=good/\K.In h) (N:=N) left
  (λw s e=>⟨_,e,zqu⟩) (λw h h' ⟨K,e,k⟩ x=>⟨K,e,k.keeps x⟩) (λ_ _=>trivial) (λ_ _ _ _ _=>trivial) hdef hp hk (λs _=>?_) ?_ said ok hb hw (λw s₀ s₁ mg mb φ σ=>?_)
 ·exact(show RecFacts [] s.heap from⟨λx h=>(nomatch h),λx h=>(nomatch h),λc c' a hc=>(nomatch hc),λc fs hf=>(nomatch hf)⟩)
 ·show(!l.row.writes||true)=true;exact Bool.or_true _
 ·obtain⟨K,e,k⟩:=σ;exact walk K e w s₀ s₁ mg mb φ k
end M
namespace P
local macro_rules | `(tactic| walk_at "s") => `(tactic| exact ⟨rfl, rfl, rfl, by decide +kernel, rfl, by decide +kernel, by decide +kernel⟩)
open PySem PySem.Spec PyProof.Rows L2 M
def top(i:Nat):Yp:=PySem.Challenge.pw_keynests_k36_whole_pairs.main.body.getD i (.Pass ⟨0,0,0,0⟩)
def zzj:List yG:=["_law_script"]
def zYe:FS:=(zdc (zLm (zn (zp 0) (zn (fOr (zz gEq (zD zjf (zn (zp 0) zO)) (fC (.int 0))) (zz gEq (zz zKm (zz gIx (zp 0) (fC (.int 0))) (fC (.int 2))) (fC (.int 0)))) (zn (fC (.int 0)) (zn (fC (.int 0)) zO))))))
def zEe:FF:=λds μ=>zAb (zYe (zS zzj ds) μ)
def zgh:List yG:=["_law_script","_law_k","_law_cell","_law_one","_law_two"]
def zdd:FS:=(zeb (zcc 2 (fC (.int 29))) (zeb (sIf (zX (zz (z3j λi j=>decide (j<i)) (zD zjf (zn (zp 0) zO)) (fC (.int 0)))) (zcc 2 (zz gIx (zp 0) (zz zKm (zp 1) (zD zjf (zn (zp 0) zO))))) zac) (zeb (zcc 3 (zz zKm (zz zif (zz zAh (zz zif (zz zif (zp 2) (zz zAh (fC (.int 40503)) (zp 1))) (fC (.int 1))) (fC (.int 48271))) (zz zAh (zp 1) (zp 1))) (fC (.int 2147483647)))) (zeb (zcc 4 (zz zKm (zz zif (zz zif (zz zAh (zp 3) (zp 3)) (zz zAh (fC (.int 69621)) (zp 3))) (zz zAh (fC (.int 31)) (zp 1))) (fC (.int 2147483629)))) (zdc (zz zKm (zz zif (zz zif (zz zAh (zp 4) (zp 4)) (zz zAh (fC (.int 16807)) (zp 4))) (zp 1)) (fC (.int 1073741789))))))))
def z7c:FF:=λds μ=>zAb (zdd (zS zgh ds) μ)
def zFi:List yG:=["_law_pen_here","_law_many","_law_script","_law_is_mixed","_law_k","_law_rest"]
def zNd:FS:=(zeb (zep (zp 0) (gTL 4 (zgb (gN 2) (zgb (gN 3) (zgb (gN 4) (zgb (gN 5) zse)))))) (zeb (zep (zz zif (zp 4) (fC (.int 1))) (gAt (zp 0) (fC (.int 2)))) (zeb (sIf (zX (zp 3)) (zdc (zz zKm (zD z7c (zn (zp 2) (zn (zp 4) zO))) (zp 1))) zac) (zeb (sIf (zX (zz gEq (zz zKm (zp 4) (fC (.int 60))) (fC (.int 0)))) (zeb (zcc 5 (fC (.int 0))) (sIf (zX (zz (z3j λi j=>decide (i<j)) (zz zif (zz zYt (zp 4) (fC (.int 60))) (fC (.int 1))) (zD zjf (zn (zp 2) zO)))) (zcc 5 (zz gIx (zp 2) (zz zif (zz zYt (zp 4) (fC (.int 60))) (fC (.int 1))))) zac)) zac) (zeb (zep (zz zYt (zp 5) (zp 1)) (gAt (zp 0) (fC (.int 3)))) (zdc (zz zKm (zp 5) (zp 1))))))))
def zhb:FF:=λds μ=>zAb (zNd (zS zFi ds) μ)
def z4e:FE:=(fC (.int 1))
def z5e:FS:=(zlh (zUf zve (zp 3) (zn (zjj (zn (zD zhb (zn (zp 0) (zn (zp 2) zO))) (zn (zD zhb (zn (zp 0) (zn (zp 2) zO))) zO))) zO)))
def zVg:List yG:=["_law_pen_here","_law_many","_law_nests","_law_keys","_law_k"]
def zkd:FS:=(zeb (zcc 2 (zz zif (fC (.int 1)) (zD zhb (zn (zp 0) (zn (fC (.int 10)) zO))))) (zeb (zcc 3 (zLm zO)) (zeb (z3i (zYg (zn (zD zhb (zn (zp 0) (zn (zp 1) zO))) zO)) (gN 4) z5e) (zdc (zjj (zn (zD zfj (zn (fLC 1 [] (zYg (zn (zp 2) zO)) (gN 0) zgp z4e) zO)) (zn (zD zfj (zn (zp 3) zO)) zO)))))))
def z3c:FF:=λds μ=>zAb (zkd (zS zVg ds) μ)
def zzf:FS:=(sIf (z8o (zX (zz gIn (zp 4) (zp 5))) (zX (zz zxg (zp 6) (zp 2)))) (zeb (zep (fC (.bl true)) (zOu (zp 2) (zp 6))) (zlh (zUf zve (zp 3) (zn (zp 6) zO)))) zac)
def zJf:FS:=(z3i (zah (zp 5)) (gN 6) zzf)
def z2d:FS:=(zeb (zcc 4 (zZn zlw (zp 3))) (z3i (zah (zz gIx (zp 0) (fC (.int 1)))) (gN 5) zJf))
def zOi:List yG:=["web","nest","nests","rest","here","homes","other"]
def zXd:FS:=(zeb (zcc 2 (zvw (zp 1) (fC (.bl true)))) (zeb (zcc 3 (zLm (zn (zp 1) zO))) (zeb (zPj 100000 (zX (zz gNe (zp 3) (zLm zO))) z2d) (zdc (zD zdl (zn (zp 2) zO))))))
def zoc:FF:=λds μ=>zAb (zXd (zS zOi ds) μ)
def zUi:FE:=(zp 0)
def zNi:FT:=(zX (zz gIn (zz gIx (zp 1) (fC (.int 0))) (zp 2)))
def zDl:List yG:=["web","nest","nests"]
def zNf:FS:=(zeb (zcc 2 (zD zoc (zn (zp 0) (zn (zp 1) zO)))) (zdc (zjj (zn (zp 2) (zn (fLC 2 [2] (zcj (zz gIx (zp 0) (fC (.int 1)))) (gT 2 (zgb (gN 0) (zgb (gN 1) zse))) zNi zUi) zO)))))
def z8f:FF:=λds μ=>zAb (zNf (zS zDl ds) μ)
def z0l:FE:=(zp 1)
def zrl:FT:=(zX (zz gEq (zz gIx (zz gIx (zp 1) (fC (.int 0))) (fC (.int 0))) (zp 0)))
def z1l:FE:=(zD z8f (zn (zp 1) (zn (zp 0) zO)))
def zGp:List yG:=["web","found"]
def zhk:FS:=(zeb (zcc 1 (fLC 1 [0] (zYg (zn (zD zjf (zn (zz gIx (zp 0) (fC (.int 0))) zO)) zO)) (gN 0) zgp z1l)) (zdc (fLC 2 [] (zcj (zp 1)) (gT 2 (zgb (gN 0) (zgb (gN 1) zse))) zrl z0l)))
def zrd:FF:=λds μ=>zAb (zhk (zS zGp ds) μ)
def zAe:FE:=(zz gNe (zp 0) (fC (.int 1)))
def zye:FE:=(zz gNe (zD zjf (zn (zp 0) zO)) (fC (.int 2)))
def zSf:List yG:=["web"]
def zEc:FS:=(sIf (z0q (zX (zD zfv (zn (fLC 1 [] (zah (zz gIx (zp 0) (fC (.int 0)))) (gN 0) zgp zAe) zO))) (zX (zD zfv (zn (fLC 1 [] (zah (zz gIx (zp 0) (fC (.int 1)))) (gN 0) zgp zye) zO)))) zKn zac)
def zGb:FF:=λds μ=>zAb (zEc (zS zSf ds) μ)
def zgl:List yG:=["part"]
def zwf:FS:=(zeb (sIf (zX (zz gEq (zD zjf (zn (zz gIx (zp 0) (fC (.int 1))) zO)) (zz z0s (zD zjf (zn (zz gIx (zp 0) (fC (.int 0))) zO)) (fC (.int 1))))) (zdc (fC (.str "tree"))) zac) (zeb (sIf (zX (zz gEq (zD zjf (zn (zz gIx (zp 0) (fC (.int 1))) zO)) (zD zjf (zn (zz gIx (zp 0) (fC (.int 0))) zO)))) (zdc (fC (.str "ring"))) zac) (zdc (fC (.str "over")))))
def zyd:FF:=λds μ=>zAb (zwf (zS zgl ds) μ)
def zpl:FE:=(zD zyd (zn (zp 0) zO))
def z4p:List yG:=["web"]
def zmk:FS:=(zeb (zlh (zD zGb (zn (zp 0) zO))) (zdc (fLC 1 [] (zah (zD zrd (zn (zp 0) zO))) (gN 0) zgp zpl)))
def zai:FF:=λds μ=>zAb (zmk (zS z4p ds) μ)
def z9f:FS:=(zcc 6 (zz zif (zp 6) (zz gIx (zz gIx (zp 0) (zp 7)) (fC (.int 0)))))
def zbg:FE:=(zz zbp (zp 1) (zz gIx (zp 2) (zp 0)))
def zPf:FE:=(zp 0)
def zcg:FT:=(z0q (zX (zz gIn (zz gIx (zp 1) (fC (.int 0))) (zz gIx (zz gIx (zp 2) (zp 0)) (fC (.int 0))))) (zX (zz gIn (zz gIx (zp 1) (fC (.int 1))) (zz gIx (zz gIx (zp 2) (zp 0)) (fC (.int 0))))))
def zei:List yG:=["_law_heard","_law_some","_law_key","_law_at","_law_weight","_law_total","_law_nests","_law_k"]
def zRd:FS:=(zeb (zcc 3 (fLC 1 [2,0] (zYg (zn (zD zjf (zn (zp 0) zO)) zO)) (gN 0) zcg zPf)) (zeb (zcc 4 (z6w "tree" "ring" "over" 0 1 2)) (zeb (zcc 5 (zz zif (zD zNu (zn (fLC 1 [4,1] (zah (zp 3)) (gN 0) zgp zbg) zO)) (zD z8v (zn (zz gEq (zD zjf (zn (zp 3) zO)) (fC (.int 1))) zO)))) (zeb (zcc 6 (zLm zO)) (zeb (z3i (zah (zp 3)) (gN 7) z9f) (zdc (zjj (zn (zD z6h (zn (zp 6) zO)) (zn (zz gIx (zLm (zn (fC (.str "tree")) (zn (fC (.str "ring")) (zn (fC (.str "over")) zO)))) (zD zos (zn (fC (.int 2)) (zn (zp 5) zO)))) zO)))))))))
def zde:FF:=λds μ=>zAb (zRd (zS zei ds) μ)
def z4g:List yG:=["web","key","homes","others"]
def znd:FS:=(zeb (zcc 2 (zz gIx (zz gIx (zp 0) (fC (.int 1))) (zp 1))) (zeb (zcc 3 (zjj (zn (zz gIx (zp 0) (fC (.int 0))) (zn (zz zif (fSl (zz gIx (zp 0) (fC (.int 1))) pNo (zUu (zp 1))) (fSl (zz gIx (zp 0) (fC (.int 1))) (zUu (zz zif (zp 1) (fC (.int 1)))) pNo)) zO)))) (zdc (zz gIn (zz gIx (zp 2) (fC (.int 1))) (zD zoc (zn (zp 3) (zn (zz gIx (zp 2) (fC (.int 0))) zO)))))))
def zad:FF:=λds μ=>zAb (znd (zS z4g ds) μ)
def z6g:FE:=(zp 0)
def zbh:FT:=(zX (zD zad (zn (zp 1) (zn (zp 0) zO))))
def zBj:List yG:=["web"]
def zTe:FS:=(zeb (zlh (zD zGb (zn (zp 0) zO))) (zdc (fLC 1 [0] (zYg (zn (zD zjf (zn (zz gIx (zp 0) (fC (.int 1))) zO)) zO)) (gN 0) zbh z6g)))
def z0e:FF:=λds μ=>zAb (zTe (zS zBj ds) μ)
def z3h:FE:=(zp 0)
def zZh:FT:=(zX (zz gIn (zp 0) (zp 1)))
def zul:List yG:=["part","ring_keys","word"]
def zng:FS:=(zeb (zcc 2 (zD zyd (zn (zp 0) zO))) (zeb (sIf (zX (zz gEq (zp 2) (fC (.str "tree")))) (zdc (zD zjf (zn (zz gIx (zp 0) (fC (.int 0))) zO))) zac) (zeb (sIf (zX (zz gEq (zp 2) (fC (.str "over")))) (zdc (fC (.int 0))) zac) (zeb (sIf (zX (zz gEq (zD zjf (zn (fLC 1 [1] (zah (zz gIx (zp 0) (fC (.int 1)))) (gN 0) zZh z3h) zO)) (fC (.int 1)))) (zdc (fC (.int 1))) zac) (zdc (fC (.int 2)))))))
def z5f:FF:=λds μ=>zAb (zng (zS zul ds) μ)
def zTn:FS:=(zLu 2 zUp (zD z5f (zn (zp 3) (zn (zp 1) zO))))
def zOs:List yG:=["web","ring_keys","product","part"]
def zfo:FS:=(zeb (zcc 1 (zD z0e (zn (zp 0) zO))) (zeb (zcc 2 (fC (.int 1))) (zeb (z3i (zah (zD zrd (zn (zp 0) zO))) (gN 3) zTn) (zdc (zp 2)))))
def zgg:FF:=λds μ=>zAb (zfo (zS zOs ds) μ)
def zCi:FE:=(zz gIx (zz gIx (zp 1) (fC (.int 0))) (zp 0))
def z6k:List yG:=["web","nests"]
def zBf:FS:=(zdc (zD zNu (zn (fLC 1 [0] (zah (zp 1)) (gN 0) zgp zCi) zO)))
def z0f:FF:=λds μ=>zAb (zBf (zS z6k ds) μ)
def zTg:FS:=(zlh (zUf z9t (zp 2) (zn (zz gIx (zz gIx (zp 0) (fC (.int 1))) (zp 3)) zO)))
def zhj:List yG:=["web","some","found","key"]
def zKe:FS:=(zeb (zcc 2 (zLm zO)) (zeb (z3i (zah (zp 1)) (gN 3) zTg) (zdc (zko (zp 2)))))
def zIe:FF:=λds μ=>zAb (zKe (zS zhj ds) μ)
def zqj:List yG:=["web","some"]
def z1e:FS:=(zdc (zz (z3j λi j=>decide (i<j)) (zD z0f (zn (zp 0) (zn (zD zIe (zn (zp 0) (zn (zp 1) zO))) zO))) (zD zjf (zn (zp 1) zO))))
def zLc:FF:=λds μ=>zAb (z1e (zS zqj ds) μ)
def zam:FE:=(zp 0)
def zpp:FT:=(zX (zz gEq (zp 1) (zp 2)))
def zBq:List yG:=["laying","nest"]
def ztk:FS:=(zdc (fLC 2 [1] (zcj (zp 0)) (gT 2 (zgb (gN 0) (zgb (gN 1) zse))) zpp zam))
def zak:FF:=λds μ=>zAb (ztk (zS zBq ds) μ)
def zdg:FS:=(sIf (zX (zz zxg (zp 4) (zp 3))) (zeb (zep (zjj (zn (zp 7) (zn (zz gIx (zp 5) (zp 6)) zO))) (zOu (zp 3) (zp 4))) (zlh (zUf zve (zp 5) (zn (zp 4) zO)))) zac)
def zWd:FS:=(z3i (zah (zz gIx (zz gIx (zp 0) (fC (.int 1))) (zp 7))) (gN 4) zdg)
def zhg:FS:=(zeb (z3i (zah (zD zak (zn (zp 1) (zn (zz gIx (zp 5) (zp 6)) zO)))) (gN 7) zWd) (zLu 6 zPr (fC (.int 1))))
def ztg:FS:=(zep (zjj (zn (zp 2) (zn (fC .non) zO))) (zOu (zp 3) (zp 4)))
def zTi:List yG:=["web","laying","key","pushes","nest","nests","at","other"]
def z9d:FS:=(zeb (zcc 3 zlx) (zeb (z3i (zah (zz gIx (zz gIx (zp 0) (fC (.int 1))) (zp 2))) (gN 4) ztg) (zeb (zcc 5 (zD zBl (zn (zp 3) zO))) (zeb (zcc 6 (fC (.int 0))) (zeb (zPj 100000 (zX (zz (z3j λi j=>decide (i<j)) (zp 6) (zD zjf (zn (zp 5) zO)))) zhg) (zdc (zp 3)))))))
def zfe:FF:=λds μ=>zAb (z9d (zS zTi ds) μ)
def zis:FE:=(zz z0s (zp 1) (zUf zwi (zp 2) (zn (zp 0) zO)))
def zIs:List yG:=["web","laying"]
def zoj:FS:=(zdc (fLC 2 [1] (zcj (zz gIx (zp 0) (fC (.int 0)))) (gT 2 (zgb (gN 0) (zgb (gN 1) zse))) zgp zis))
def z0h:FF:=λds μ=>zAb (zoj (zS zIs ds) μ)
def zJj:FS:=(zeb (zlh (zUf zve (zp 2) (zn (zjj (zn (zz gIx (zz zqt (zp 0) (zp 1)) (fC (.int 0))) (zn (zp 1) zO))) zO))) (zcc 1 (zz gIx (zz zqt (zp 0) (zp 1)) (fC (.int 1)))))
def zIn:List yG:=["pushes","nest","row"]
def zMh:FS:=(zeb (zcc 2 (zLm zO)) (zeb (zPj 100000 (zX (zz zSg (zp 1) (fC .non))) zJj) (zdc (zSr (zp 2)))))
def zoh:FF:=λds μ=>zAb (zMh (zS zIn ds) μ)
def zlj:FE:=(zp 0)
def zuj:FT:=(z0q (zX (zz gEq (zp 0) (zp 2))) (zX (zz zRm (zp 1) (zp 3))))
def zHj:FS:=(sIf (zX (zz (z3j λi j=>decide (j<i)) (zz gIx (zp 4) (zp 5)) (fC (.int 0)))) (zdc (zjj (zn (fC (.str "put")) (zn (zD zoh (zn (zp 3) (zn (zp 5) zO))) zO)))) zac)
def zBn:List yG:=["web","laying","key","pushes","room","nest"]
def zSh:FS:=(zeb (zcc 3 (zD zfe (zn (zp 0) (zn (zp 1) (zn (zp 2) zO))))) (zeb (zcc 4 (zD z0h (zn (zp 0) (zn (zp 1) zO)))) (zeb (z3i (zxu (zp 3)) (gN 5) zHj) (zdc (zjj (zn (fC (.str "full")) (zn (fLC 2 [2,3] (zcj (zp 1)) (gT 2 (zgb (gN 0) (zgb (gN 1) zse))) zuj zlj) zO)))))))
def zyh:FF:=λds μ=>zAb (zSh (zS zBn ds) μ)
def zQp:FS:=(sIf (zX (zz (z3j λi j=>decide (i<j)) (zp 4) (fC (.int 0)))) (zdc (zjj (zn (fC (.str "room")) (zn (zp 3) zO)))) zac)
def z8p:FS:=(sIf (z8o (zX (zz zSg (zp 3) (fC .non))) (zX (zz zge (zp 3) (zz gIx (zz gIx (zp 0) (fC (.int 1))) (zp 2))))) (zdc (zjj (zn (fC (.str "home")) (zn (zp 2) zO)))) zac)
def zmq:List yG:=["web","laying","key","nest","room"]
def zqk:FS:=(zeb (z3i (zcj (zp 1)) (gT 2 (zgb (gN 2) (zgb (gN 3) zse))) z8p) (zeb (z3i (zcj (zD z0h (zn (zp 0) (zn (zp 1) zO)))) (gT 2 (zgb (gN 3) (zgb (gN 4) zse))) zQp) (zdc (fC .non))))
def zHk:FF:=λds μ=>zAb (zqk (zS zmq ds) μ)
def zGi:FE:=(zz gIx (zp 0) (fC (.int 0)))
def zYl:List yG:=["web","laying","row","at","key"]
def zGf:FS:=(zeb (zcc 4 (zz gIx (zz gIx (zp 2) (zp 3)) (fC (.int 0)))) (zeb (sIf (z0q (zX (zz (z3j λi j=>decide (i<j)) (zp 4) (fC (.int 0)))) (zX (zz (z3j λi j=>decide (j<=i)) (zp 4) (zD zjf (zn (zp 1) zO))))) (zdc (fC (.bl false))) zac) (zeb (sIf (z0q (zX (zz zge (zz gIx (zz gIx (zp 2) (zp 3)) (fC (.int 1))) (zz gIx (zz gIx (zp 0) (fC (.int 1))) (zp 4)))) (zX (zz gEq (zz gIx (zz gIx (zp 2) (zp 3)) (fC (.int 1))) (zz gIx (zp 1) (zp 4))))) (zdc (fC (.bl false))) zac) (zdc (zz zge (zp 4) (fLC 1 [] (zah (fSl (zp 2) pNo (zUu (zp 3)))) (gN 0) zgp zGi))))))
def zLf:FF:=λds μ=>zAb (zGf (zS zYl ds) μ)
def z2k:List yG:=["laying","key","row","at"]
def z3f:FS:=(zeb (sIf (zX (zz gEq (zp 3) (fC (.int 0)))) (zdc (zz gEq (zz gIx (zz gIx (zp 2) (fC (.int 0))) (fC (.int 0))) (zp 1))) zac) (zdc (zz gEq (zz gIx (zp 0) (zz gIx (zz gIx (zp 2) (zp 3)) (fC (.int 0)))) (zz gIx (zz gIx (zp 2) (zz z0s (zp 3) (fC (.int 1)))) (fC (.int 1))))))
def zof:FF:=λds μ=>zAb (z3f (zS z2k ds) μ)
def zgj:FS:=(zeb (sIf (z1r (z8o (zX (zD zLf (zn (zp 0) (zn (zp 1) (zn (zp 3) (zn (zp 5) zO)))))) (zX (zD zof (zn (zp 1) (zn (zp 2) (zn (zp 3) (zn (zp 5) zO)))))))) zKn zac) (zep (zz gIx (zp 6) (fC (.int 1))) (gAt (zp 4) (zz gIx (zp 6) (fC (.int 0))))))
def zNn:List yG:=["web","laying","key","row","behind","at","push"]
def zvh:FS:=(zeb (zcc 4 (zD zdq (zn (zp 1) zO))) (zeb (z3i (zcj (zp 3)) (gT 2 (zgb (gN 5) (zgb (gN 6) zse))) zgj) (zeb (sIf (z0q (zX (zz gEq (zD zjf (zn (zp 3) zO)) (fC (.int 0)))) (zX (zz zSg (zD zHk (zn (zp 0) (zn (zp 4) zO))) (fC .non)))) zKn zac) (zdc (zp 4)))))
def zph:FF:=λds μ=>zAb (zvh (zS zNn ds) μ)
def zlf:FS:=(zeb (zcc 5 (zD zyh (zn (zp 0) (zn (zp 1) (zn (zp 4) zO))))) (sIf (zX (zz gEq (zz gIx (zp 5) (fC (.int 0))) (fC (.str "put")))) (zcc 1 (zD zph (zn (zp 0) (zn (zp 1) (zn (zp 4) (zn (zz gIx (zp 5) (fC (.int 1))) zO)))))) (zlh (zUf z9t (zp 3) (zn (zz gIx (zp 5) (fC (.int 1))) zO)))))
def zTh:List yG:=["web","laying","keys","crowded","key","told"]
def zQd:FS:=(zeb (zcc 3 (zLm zO)) (zeb (z3i (zah (zp 2)) (gN 4) zlf) (zdc (zjj (zn (zp 1) (zn (zko (zp 3)) zO))))))
def zPd:FF:=λds μ=>zAb (zQd (zS zTh ds) μ)
def zlg:List yG:=["web"]
def zHc:FS:=(zdc (zD zPd (zn (zp 0) (zn (zz zAh (zLm (zn (fC .non) zO)) (zD zjf (zn (zz gIx (zp 0) (fC (.int 1))) zO))) (zn (zPg (zD zjf (zn (zz gIx (zp 0) (fC (.int 1))) zO))) zO)))))
def zCc:FF:=λds μ=>zAb (zHc (zS zlg ds) μ)
def zqf:FE:=(zp 0)
def zek:FT:=(zX (zz gNe (zp 0) (zp 1)))
def zug:FS:=(sIf (zX (zD zLc (zn (zp 0) (zn (fLC 1 [2] (zah (zp 1)) (gN 0) zek zqf) zO)))) (zdc (zp 2)) zac)
def z5h:List yG:=["web","some","key"]
def zae:FS:=(zeb (z3i (zah (zp 1)) (gN 2) zug) (zdc (fC .non)))
def z0c:FF:=λds μ=>zAb (zae (zS z5h ds) μ)
def z2h:FS:=(zeb (zlh (zUf zQg (zp 2) (zn (zp 3) zO))) (zcc 3 (zD z0c (zn (zp 0) (zn (zp 2) zO)))))
def zlm:List yG:=["web","some","rest","spare"]
def zQf:FS:=(zeb (zcc 2 (zD zdq (zn (zp 1) zO))) (zeb (zcc 3 (zD z0c (zn (zp 0) (zn (zp 2) zO)))) (zeb (zPj 100000 (zX (zz zSg (zp 3) (fC .non))) z2h) (zdc (zp 2)))))
def zjg:FF:=λds μ=>zAb (zQf (zS zlm ds) μ)
def zAn:List yG:=["web","told"]
def zHh:FS:=(zeb (zcc 1 (zD zCc (zn (zp 0) zO))) (zeb (sIf (zX (zz gEq (zz gIx (zp 1) (fC (.int 1))) (zLm zO))) (zdc (zjj (zn (fC (.str "fits")) (zn (zz gIx (zp 1) (fC (.int 0))) zO)))) zac) (zdc (zjj (zn (fC (.str "crowd")) (zn (zD zjg (zn (zp 0) (zn (zz gIx (zp 1) (fC (.int 1))) zO))) zO))))))
def zog:FF:=λds μ=>zAb (zHh (zS zAn ds) μ)
def z7e:FS:=(sIf (zX (zz gNe (zD zLc (zn (zp 0) (zn (zz gIx (zp 5) (fC (.int 1))) zO))) (zz gEq (zp 6) (fC (.str "over"))))) (zdc (fC (.bl false))) zac)
def z6e:FS:=(zeb (zcc 3 (zz zif (zp 3) (zz gIx (zp 5) (fC (.int 0))))) (zcc 4 (zz zif (zp 4) (zz gIx (zp 5) (fC (.int 1))))))
def zch:List yG:=["_law_web","_law_heard","_law_some","_law_nests","_law_keys","_law_one","_law_word"]
def zbd:FS:=(zeb (zcc 3 (zLm zO)) (zeb (zcc 4 (zLm zO)) (zeb (z3i (zah (zp 1)) (gN 5) z6e) (zeb (sIf (z0q (zX (zz gNe (zD z6h (zn (zp 3) zO)) (zPg (zD zjf (zn (zz gIx (zp 0) (fC (.int 0))) zO))))) (zX (zz gNe (zD z6h (zn (zp 4) zO)) (zPg (zD zjf (zn (zz gIx (zp 0) (fC (.int 1))) zO)))))) (zdc (fC (.bl false))) zac) (zeb (z3i (zMv (zn (zp 1) (zn (zp 2) zO))) (gT 2 (zgb (gN 5) (zgb (gN 6) zse))) z7e) (zdc (ztw (zz gEq (zz gEq (zz gIx (zD zog (zn (zp 0) zO)) (fC (.int 0))) (fC (.str "fits"))) (zz zge (fC (.str "over")) (zp 2))) (zz gEq (zz (z3j λi j=>decide (j<i)) (zD zgg (zn (zp 0) zO)) (fC (.int 0))) (zz zge (fC (.str "over")) (zp 2))))))))))
def zcd:FF:=λds μ=>zAb (zbd (zS zch ds) μ)
def zTq:FS:=(sIf (z0q (z8o (zX (zz gEq (zz gIx (zp 9) (fC (.int 0))) (zp 6))) (zX (zz gNe (zp 10) (zp 7)))) (zX (zz gNe (zz gIn (zz gIx (zp 5) (fC (.int 0))) (zz gIx (zp 9) (fC (.int 0)))) (zz gEq (zz gIx (zp 9) (fC (.int 0))) (zp 6))))) (zdc (fC (.bl false))) zac)
def zrv:List yG:=["_law_script","_law_pen_here","_law_web","_law_heard","_law_some","_law_key","_law_nests","_law_word","_law_longer","_law_one","_law_other"]
def zxs:FS:=(zeb (zcc 1 (zD zEe (zn (zp 0) zO))) (zeb (zcc 2 (zD z3c (zn (zp 1) (zn (fC (.int 17)) zO)))) (zeb (zcc 3 (zD zrd (zn (zp 2) zO))) (zeb (zcc 4 (zD zai (zn (zp 2) zO))) (zeb (sIf (z0q (zX (zz gNe (zD zjf (zn (zp 3) zO)) (zD zjf (zn (zp 4) zO)))) (z1r (zX (zD zcd (zn (zp 2) (zn (zp 3) (zn (zp 4) zO))))))) (zdc (fC (.bl false))) zac) (zeb (zcc 5 (zjj (zn (zD zhb (zn (zp 1) (zn (zD zjf (zn (zz gIx (zp 2) (fC (.int 0))) zO)) zO))) (zn (zD zhb (zn (zp 1) (zn (zD zjf (zn (zz gIx (zp 2) (fC (.int 0))) zO)) zO))) zO)))) (zeb (zep (zD zde (zn (zp 3) (zn (zp 4) (zn (zp 5) zO)))) (gT 2 (zgb (gN 6) (zgb (gN 7) zse)))) (zeb (zcc 8 (zjj (zn (zz gIx (zp 2) (fC (.int 0))) (zn (zz zif (zz gIx (zp 2) (fC (.int 1))) (zjj (zn (zp 5) zO))) zO)))) (zeb (z3i (zMv (zn (zD zrd (zn (zp 8) zO)) (zn (zD zai (zn (zp 8) zO)) zO))) (gT 2 (zgb (gN 9) (zgb (gN 10) zse))) zTq) (zdc (zz (z3j λi j=>decide (i<=j)) (zD zgg (zn (zp 8) zO)) (zz zAh (fC (.int 2)) (zD zgg (zn (zp 2) zO))))))))))))))
def zcp:FF:=λds μ=>zAb (zxs (zS zrv ds) μ)
structure Txt(K:yx)(mg:yG->Option yb):Prop where
 n_any:mg "any"=none
 tN:mg "enumerate"=none
 n_int:mg "int"=none
 tL:mg "len"=none
 Tz:mg "list"=none
 n_min:mg "min"=none
 Te:mg "range"=none
 sN:mg "reversed"=none
 n_set:mg "set"=none
 Tk:mg "sorted"=none
 n_sum:mg "sum"=none
 sT:mg "tuple"=none
 n_zip:mg "zip"=none
def zat:yH "any"=some (.builtin "any"):=by decide +kernel
def zpb:yH "enumerate"=some (.type "enumerate"):=by decide +kernel
def zav:yH "int"=some (.type "int"):=by decide +kernel
def zmb:yH "len"=some (.builtin "len"):=by decide +kernel
def zhf:yH "list"=some (.type "list"):=by decide +kernel
def zcw:yH "min"=some (.builtin "min"):=by decide +kernel
def zXm:yH "reversed"=some (.type "reversed"):=by decide +kernel
def zRs:yH "set"=some (.type "set"):=by decide +kernel
def zAd:yH "sorted"=some (.builtin "sorted"):=by decide +kernel
def z8s:yH "sum"=some (.builtin "sum"):=by decide +kernel
def zYn:yH "tuple"=some (.type "tuple"):=by decide +kernel
def z6s:yH "zip"=some (.type "zip"):=by decide +kernel
section
variable {P:yy}{w:yL}{K:yx}{mg:yG->Option yb}{base:yW}
set_option maxHeartbeats 4000000
abbrev zOe:Yp:=top 37
abbrev zic:List yG:=["_law_script"]
def zBm:tu zzj zic (zx zOe):=by walk_at "s"
def z5k(T:Txt K mg){f:yf}{fd:yn}(B:FnAt K mg "_law_pen" zOe zic f fd):tw P w K mg base CX0 1 f fd zic (spM K 1 zEe):=by
 refine fnM B.fn zBm rfl (λcdv A outer s H E hr=>⟨zYe,?_,λ_ _ _ _ _ e=>e⟩);have hu:=hr.units;exact(zr (zK (zGd (zf (mv 0) (zf (zTw (zXb (zub hu) (zF zH T.tL zmb (zf (mv 0) zk)) zq) (zAs (zXb (zub hu) (zkb zje (zE (mv 0) zq) zq) zq))) (zf zq (zf zq zk)))))))
abbrev zgd:Yp:=top 38
abbrev zFb:List yG:=["_law_script","_law_k"]
def tX:tu zgh zFb (zx zgd):=by walk_at "s"
def zZi(T:Txt K mg){f:yf}{fd:yn}(B:FnAt K mg "_law_mixed" zgd zFb f fd):tw P w K mg base CX0 1 f fd zFb (spM K 2 z7c):=by
 refine fnM B.fn tX rfl (λcdv A outer s H E hr=>⟨zdd,?_,λ_ _ _ _ _ e=>e⟩);have hu:=hr.units;exact(zm (zN 2 zq (hN:=tX.nd)) (zm (zpc (zQ zPq (zF zH T.tL zmb (zf (mv 0) zk)) zq) (zr (zN 2 (zE (mv 0) (zkb zje (mv 1) (zF zH T.tL zmb (zf (mv 0) zk)))) (hN:=tX.nd))) z8) (zm (zN 3 (zkb zje (zkb zyb (zkb ztd (zkb zyb (zkb zyb (mv 2) (zkb ztd zq (mv 1))) zq) zq) (zkb ztd (mv 1) (mv 1))) zq) (hN:=tX.nd)) (zm (zN 4 (zkb zje (zkb zyb (zkb zyb (zkb ztd (mv 3) (mv 3)) (zkb ztd zq (mv 3))) (zkb ztd zq (mv 1))) zq) (hN:=tX.nd)) (zr (zK (zkb zje (zkb zyb (zkb zyb (zkb ztd (mv 4) (mv 4)) (zkb ztd zq (mv 4))) (mv 1)) zq)))))))
abbrev zXc:Yp:=top 39
abbrev zob:List yG:=["_law_pen_here","_law_many"]
def tR:tu zFi zob (zx zXc):=by walk_at "s"
def zvk(T:Txt K mg){zUg:yf}{zfg:yn}(zed:FnAt K mg "_law_mixed" zgd zFb zUg zfg)(z1d:tw P w K mg base CX0 1 zUg zfg zFb (spM K 2 z7c)){f:yf}{fd:yn}(B:FnAt K mg "_law_take" zXc zob f fd):tw P w K mg base CX0 2 f fd zob (spM K 2 zhb):=by
 refine fnM B.fn tR rfl (λcdv A outer s H E hr=>⟨zNd,?_,λ_ _ _ _ _ e=>e⟩);have hu:=hr.units;exact(zm (zjh (mv 0) (zHu (zlb (zV 2 (hN:=tR.nd)) (zlb (zV 3 (hN:=tR.nd)) (zlb (zV 4 (hN:=tR.nd)) (zlb (zV 5 (hN:=tR.nd)) zff)))))) (zm (zjh (zkb zyb (mv 4) zq) (z6t (mv 0) zq)) (zm (zpc (zfh (mv 3)) (zr (zK (zkb zje (tD zed z1d hr (zf (mv 2) (zf (mv 4) zk))) (mv 1)))) z8) (zm (zpc (zQ (zub hu) (zkb zje (mv 4) zq) zq) (zm (zN 5 zq (hN:=tR.nd)) (zr (zpc (zQ zzl (zkb zyb (zkb ztm (mv 4) zq) zq) (zF zH T.tL zmb (zf (mv 2) zk))) (zr (zN 5 (zE (mv 2) (zkb zyb (zkb ztm (mv 4) zq) zq)) (hN:=tR.nd))) z8))) z8) (zm (zjh (zkb ztm (mv 5) (mv 1)) (z6t (mv 0) zq)) (zr (zK (zkb zje (mv 5) (mv 1)))))))))
abbrev zfd:Yp:=top 40
abbrev zHb:List yG:=["_law_pen_here","_law_many"]
def tZ:tu zVg zHb (zx zfd):=by walk_at "s"
def zaj(T:Txt K mg){zWc:yf}{zwc:yn}(zfb:FnAt K mg "_law_take" zXc zob zWc zwc)(zdb:tw P w K mg base CX0 2 zWc zwc zob (spM K 2 zhb)){f:yf}{fd:yn}(B:FnAt K mg "_law_pairs" zfd zHb f fd):tw P w K mg base CX0 3 f fd zHb (spM K 2 z3c):=by
 refine fnM B.fn tZ rfl (λcdv A outer s H E hr=>⟨zkd,?_,λ_ _ _ _ _ e=>e⟩);have hu:=hr.units;exact(zm (zN 2 (zkb zyb zq (tD zfb zdb hr (zf (mv 0) (zf zq zk)))) (hN:=tZ.nd)) (zm (zN 3 (zGd zk) (hN:=tZ.nd)) (zm (zgc (znf T.Te (zf (tD zfb zdb hr (zf (mv 0) (zf (mv 1) zk))) zk)) (zV 4 (hN:=tZ.nd)) (zr (zTd (zrf (mv 3) (zf (zhc (zf (tD zfb zdb hr (zf (mv 0) (zf (mv 2) zk))) (zf (tD zfb zdb hr (zf (mv 0) (zf (mv 2) zk))) zk))) zk))))) (zr (zK (zhc (zf (zRe zpi T.sT zYn (zf (mlc ["_law_nest"] [] (znf T.Te (zf (mv 2) zk)) (λ_ _ _ _ _=>(zZ 0 (hN:=zY (by rfl)))) (λ_ _ _ _ _=>zAf) (λ_ _ _ _ _=>zq) zxc) zk)) (zf (zRe zpi T.sT zYn (zf (mv 3) zk)) zk))))))))
abbrev zSc:Yp:=top 5
abbrev znb:List yG:=["web","nest"]
def tV:tu zOi znb (zx zSc):=by walk_at "s"
def zxk(T:Txt K mg){f:yf}{fd:yn}(B:FnAt K mg "joined_to" zSc znb f fd):tw P w K mg base CX0 1 f fd znb (spM K 2 zoc):=by
 refine fnM B.fn tV rfl (λcdv A outer s H E hr=>⟨zXd,?_,λ_ _ _ _ _ e=>e⟩);have hu:=hr.units;exact(zm (zN 2 (zhv (mv 1) zUl) (hN:=tV.nd)) (zm (zN 3 (zGd (zf (mv 1) zk)) (hN:=tV.nd)) (zm (zLh 100000 (zQ (z3e hu) (mv 3) (zGd zk)) (zm (zN 4 (zbw (mv 3)) (hN:=tV.nd)) (zr (zgc (z3b (zE (mv 0) zq)) (zV 5 (hN:=tV.nd)) (zr (zgc (z3b (mv 5)) (zV 6 (hN:=tV.nd)) (zr (zpc (MW.mt (z6n (zQ zVh (mv 4) (mv 5)) (zQk (zQ zij (mv 6) (mv 2))))) (zm (zjh zUl (zHp (mv 2) (mv 6))) (zr (zTd (zrf (mv 3) (zf (mv 6) zk))))) z8)))))))) (zr (zK (zF (zwm rfl) T.Tk zAd (zf (mv 2) zk)))))))
abbrev zrg:Yp:=top 6
abbrev zMc:List yG:=["web","nest"]
def TW:tu zDl zMc (zx zrg):=by walk_at "s"
def z5m(T:Txt K mg){zTc:yf}{zvc:yn}(zRb:FnAt K mg "joined_to" zSc znb zTc zvc)(zTb:tw P w K mg base CX0 1 zTc zvc znb (spM K 2 zoc)){f:yf}{fd:yn}(B:FnAt K mg "part_of" zrg zMc f fd):tw P w K mg base CX0 2 f fd zMc (spM K 2 z8f):=by
 refine fnM B.fn TW rfl (λcdv A outer s H E hr=>⟨zNf,?_,λ_ _ _ _ _ e=>e⟩);have hu:=hr.units;exact(zm (zN 2 (tD zRb zTb hr (zf (mv 0) (zf (mv 1) zk))) (hN:=TW.nd)) (zr (zK (zhc (zf (mv 2) (zf (mlc ["key","homes"] [2] (zme T.tN zpb (zE (mv 0) zq)) (λ_ _ _ _ _=>(z8h (zOb (zZ 0 (hN:=zY (by rfl))) (zOb (zZ 1 (hN:=zY (by rfl))) zMf)))) (λ_ _ _ _ _=>(z2g (zQ zVh (zE (mv 1) zq) (mv 2)))) (λ_ _ _ _ _=>(mv 0)) (z6b ⟨_,rfl,rfl⟩ zxc)) zk))))))
abbrev zHg:Yp:=top 7
abbrev ztc:List yG:=["web"]
def sI:tu zGp ztc (zx zHg):=by walk_at "s"
def zVp(T:Txt K mg){zcm:yf}{zKj:yn}(zuf:FnAt K mg "part_of" zrg zMc zcm zKj)(zGg:tw P w K mg base CX0 2 zcm zKj zMc (spM K 2 z8f)){f:yf}{fd:yn}(B:FnAt K mg "parts" zHg ztc f fd):tw P w K mg base CX0 3 f fd ztc (spM K 1 zrd):=by
 refine fnM B.fn sI rfl (λcdv A outer s H E hr=>⟨zhk,?_,λ_ _ _ _ _ e=>e⟩);have hu:=hr.units;exact(zm (mslc 1 ["nest"] [0] (znf T.Te (zf (zF zH T.tL zmb (zf (zE (mv 0) zq) zk)) zk)) (λ_ _ _ _ _=>(zZ 0 (hN:=zY (by rfl)))) (λ_ _ _ _ _=>zAf) (λ_ _ _ _ _=>(tD zuf zGg hr (zf (mv 1) (zf (mv 0) zk)))) (z6b ⟨_,rfl,rfl⟩ zxc) sI.nd) (zr (zK (mlc ["nest","part"] [] (zme T.tN zpb (mv 1)) (λ_ _ _ _ _=>(z8h (zOb (zZ 0 (hN:=zY (by rfl))) (zOb (zZ 1 (hN:=zY (by rfl))) zMf)))) (λ_ _ _ _ _=>(z2g (zQ (zub hu) (zE (zE (mv 1) zq) zq) (mv 0)))) (λ_ _ _ _ _=>(mv 1)) zxc))))
abbrev z7b:Yp:=top 8
abbrev zcb:List yG:=["web"]
def z0i:tu zSf zcb (zx z7b):=by walk_at "s"
def zmi(T:Txt K mg){f:yf}{fd:yn}(B:FnAt K mg "check_pairs" z7b zcb f fd):tw P w K mg base CX0 1 f fd zcb (spM K 1 zGb):=by
 refine fnM B.fn z0i rfl (λcdv A outer s H E hr=>⟨zEc,?_,λ_ _ _ _ _ e=>e⟩);have hu:=hr.units;exact(zr (zpc (MW.mt (z2j (zfh (zF (zMl rfl) T.n_any zat (zf (mlc ["room"] [] (z3b (zE (mv 0) zq)) (λ_ _ _ _ _=>(zZ 0 (hN:=zY (by rfl)))) (λ_ _ _ _ _=>zAf) (λ_ _ _ _ _=>(zXb (z3e hu) (mv 0) zq)) zxc) zk))) (zOf (zfh (zF (zMl rfl) T.n_any zat (zf (mlc ["homes"] [] (z3b (zE (mv 0) zq)) (λ_ _ _ _ _=>(zZ 0 (hN:=zY (by rfl)))) (λ_ _ _ _ _=>zAf) (λ_ _ _ _ _=>(zXb (z3e hu) (zF zH T.tL zmb (zf (mv 0) zk)) zq)) zxc) zk)))))) (zr zCk) z8))
abbrev zqe:Yp:=top 9
abbrev zVb:List yG:=["part"]
def zGo:tu zgl zVb (zx zqe):=by walk_at "s"
def zCm(T:Txt K mg){f:yf}{fd:yn}(B:FnAt K mg "word_of" zqe zVb f fd):tw P w K mg base CX0 1 f fd zVb (spM K 1 zyd):=by
 refine fnM B.fn zGo rfl (λcdv A outer s H E hr=>⟨zwf,?_,λ_ _ _ _ _ e=>e⟩);have hu:=hr.units;exact(zm (zpc (zQ (zub hu) (zF zH T.tL zmb (zf (zE (mv 0) zq) zk)) (zkb zJm (zF zH T.tL zmb (zf (zE (mv 0) zq) zk)) zq)) (zr (zK zKb)) z8) (zm (zpc (zQ (zub hu) (zF zH T.tL zmb (zf (zE (mv 0) zq) zk)) (zF zH T.tL zmb (zf (zE (mv 0) zq) zk))) (zr (zK zKb)) z8) (zr (zK zKb))))
abbrev zbk:Yp:=top 10
abbrev zZe:List yG:=["web"]
def z8r:tu z4p zZe (zx zbk):=by walk_at "s"
def z3q(T:Txt K mg){z4b:yf}{zNb:yn}(zsb:FnAt K mg "check_pairs" z7b zcb z4b zNb)(zwb:tw P w K mg base CX0 1 z4b zNb zcb (spM K 1 zGb)){zoe:yf}{zKd:yn}(zQc:FnAt K mg "word_of" zqe zVb zoe zKd)(zPc:tw P w K mg base CX0 1 zoe zKd zVb (spM K 1 zyd)){zBe:yf}{zld:yn}(zUc:FnAt K mg "parts" zHg ztc zBe zld)(zrc:tw P w K mg base CX0 3 zBe zld ztc (spM K 1 zrd)){f:yf}{fd:yn}(B:FnAt K mg "words" zbk zZe f fd):tw P w K mg base CX0 4 f fd zZe (spM K 1 zai):=by
 refine fnM B.fn z8r rfl (λcdv A outer s H E hr=>⟨zmk,?_,λ_ _ _ _ _ e=>e⟩);have hu:=hr.units;exact(zm (zTd (tD zsb zwb hr (zf (mv 0) zk))) (zr (zK (mlc ["part"] [] (z3b (tD zUc zrc hr (zf (mv 0) zk))) (λ_ _ _ _ _=>(zZ 0 (hN:=zY (by rfl)))) (λ_ _ _ _ _=>zAf) (λ_ _ _ _ _=>(tD zQc zPc hr (zf (mv 0) zk))) zxc))))
abbrev zce:Yp:=top 42
abbrev z0b:List yG:=["_law_heard","_law_some","_law_key"]
def tS:tu zei z0b (zx zce):=by walk_at "s"
def zSk(T:Txt K mg){f:yf}{fd:yn}(B:FnAt K mg "_law_more" zce z0b f fd):tw P w K mg base CX0 1 f fd z0b (spM K 3 zde):=by
 refine fnM B.fn tS rfl (λcdv A outer s H E hr=>⟨zRd,?_,λ_ _ _ _ _ e=>e⟩);have hu:=hr.units;exact(zm (mslc 3 ["_law_k"] [2,0] (znf T.Te (zf (zF zH T.tL zmb (zf (mv 0) zk)) zk)) (λ_ _ _ _ _=>(zZ 0 (hN:=zY (by rfl)))) (λ_ _ _ _ _=>(z2g (MW.mt (z2j (zQ zVh (zE (mv 1) zq) (zE (zE (mv 2) (mv 0)) zq)) (zOf (zQ zVh (zE (mv 1) zq) (zE (zE (mv 2) (mv 0)) zq))))))) (λ_ _ _ _ _=>(mv 0)) (z6b ⟨_,rfl,rfl⟩ (z6b ⟨_,rfl,rfl⟩ zxc)) tS.nd) (zm (zN 4 (zZu (by decide) (by decide) (by decide) zKb zq zKb zq zKb zq) (hN:=tS.nd)) (zm (zN 5 (zkb zyb (zF (zbl rfl) T.n_sum z8s (zf (mlc ["_law_k"] [4,1] (z3b (mv 3)) (λ_ _ _ _ _=>(zZ 0 (hN:=zY (by rfl)))) (λ_ _ _ _ _=>zAf) (λ_ _ _ _ _=>(ziu (mv 1) (zE (mv 2) (mv 0)))) (z6b ⟨_,rfl,rfl⟩ (z6b ⟨_,rfl,rfl⟩ zxc))) zk)) (zRe zNq T.n_int zav (zf (zXb (zub hu) (zF zH T.tL zmb (zf (mv 3) zk)) zq) zk))) (hN:=tS.nd)) (zm (zN 6 (zGd zk) (hN:=tS.nd)) (zm (zgc (z3b (mv 3)) (zV 7 (hN:=tS.nd)) (zr (zN 6 (zkb zyb (mv 6) (zE (zE (mv 0) (mv 7)) zq)) (hN:=tS.nd)))) (zr (zK (zhc (zf (zF (zgf rfl) T.Tk zAd (zf (mv 6) zk)) (zf (zE (zGd (zf zKb (zf zKb (zf zKb zk)))) (zF (zCo rfl) T.n_min zcw (zf zq (zf (mv 5) zk)))) zk))))))))))
abbrev z8c:Yp:=top 11
abbrev zEb:List yG:=["web","key"]
def Th:tu z4g zEb (zx z8c):=by walk_at "s"
def z7i(T:Txt K mg){zTc:yf}{zvc:yn}(zRb:FnAt K mg "joined_to" zSc znb zTc zvc)(zTb:tw P w K mg base CX0 1 zTc zvc znb (spM K 2 zoc)){f:yf}{fd:yn}(B:FnAt K mg "is_on_ring" z8c zEb f fd):tw P w K mg base CX0 2 f fd zEb (spM K 2 zad):=by
 refine fnM B.fn Th rfl (λcdv A outer s H E hr=>⟨znd,?_,λ_ _ _ _ _ e=>e⟩);have hu:=hr.units;exact(zm (zN 2 (zE (zE (mv 0) zq) (mv 1)) (hN:=Th.nd)) (zm (zN 3 (zhc (zf (zE (mv 0) zq) (zf (zkb zyb (zrt (zE (mv 0) zq) zWt (zzp (mv 1))) (zrt (zE (mv 0) zq) (zzp (zkb zyb (mv 1) zq)) zWt)) zk))) (hN:=Th.nd)) (zr (zK (zXb zVh (zE (mv 2) zq) (tD zRb zTb hr (zf (mv 3) (zf (zE (mv 2) zq) zk))))))))
abbrev zHe:Yp:=top 12
abbrev zlc:List yG:=["web"]
def z1m:tu zBj zlc (zx zHe):=by walk_at "s"
def z8k(T:Txt K mg){z4b:yf}{zNb:yn}(zsb:FnAt K mg "check_pairs" z7b zcb z4b zNb)(zwb:tw P w K mg base CX0 1 z4b zNb zcb (spM K 1 zGb)){zZg:yf}{zTf:yn}(zjd:FnAt K mg "is_on_ring" z8c zEb zZg zTf)(z4d:tw P w K mg base CX0 2 zZg zTf zEb (spM K 2 zad)){f:yf}{fd:yn}(B:FnAt K mg "on_rings" zHe zlc f fd):tw P w K mg base CX0 3 f fd zlc (spM K 1 z0e):=by
 refine fnM B.fn z1m rfl (λcdv A outer s H E hr=>⟨zTe,?_,λ_ _ _ _ _ e=>e⟩);have hu:=hr.units;exact(zm (zTd (tD zsb zwb hr (zf (mv 0) zk))) (zr (zK (mlc ["key"] [0] (znf T.Te (zf (zF zH T.tL zmb (zf (zE (mv 0) zq) zk)) zk)) (λ_ _ _ _ _=>(zZ 0 (hN:=zY (by rfl)))) (λ_ _ _ _ _=>(z2g (zfh (tD zjd z4d hr (zf (mv 1) (zf (mv 0) zk)))))) (λ_ _ _ _ _=>(mv 0)) (z6b ⟨_,rfl,rfl⟩ zxc)))))
abbrev zEf:Yp:=top 13
abbrev zJc:List yG:=["part","ring_keys"]
def TX:tu zul zJc (zx zEf):=by walk_at "s"
def zgn(T:Txt K mg){zoe:yf}{zKd:yn}(zQc:FnAt K mg "word_of" zqe zVb zoe zKd)(zPc:tw P w K mg base CX0 1 zoe zKd zVb (spM K 1 zyd)){f:yf}{fd:yn}(B:FnAt K mg "ways_of" zEf zJc f fd):tw P w K mg base CX0 2 f fd zJc (spM K 2 z5f):=by
 refine fnM B.fn TX rfl (λcdv A outer s H E hr=>⟨zng,?_,λ_ _ _ _ _ e=>e⟩);have hu:=hr.units;exact(zm (zN 2 (tD zQc zPc hr (zf (mv 0) zk)) (hN:=TX.nd)) (zm (zpc (zQ (zub hu) (mv 2) zKb) (zr (zK (zF zH T.tL zmb (zf (zE (mv 0) zq) zk)))) z8) (zm (zpc (zQ (zub hu) (mv 2) zKb) (zr (zK zq)) z8) (zm (zpc (zQ (zub hu) (zF zH T.tL zmb (zf (mlc ["key"] [1] (z3b (zE (mv 0) zq)) (λ_ _ _ _ _=>(zZ 0 (hN:=zY (by rfl)))) (λ_ _ _ _ _=>(z2g (zQ zVh (mv 0) (mv 1)))) (λ_ _ _ _ _=>(mv 0)) (z6b ⟨_,rfl,rfl⟩ zxc)) zk)) zq) (zr (zK zq)) z8) (zr (zK zq))))))
abbrev z6l:Yp:=top 14
abbrev zke:List yG:=["web"]
def TD:tu zOs zke (zx z6l):=by walk_at "s"
def zAr(T:Txt K mg){znj:yf}{zgi:yn}(zJe:FnAt K mg "on_rings" zHe zlc znj zgi)(zaf:tw P w K mg base CX0 3 znj zgi zlc (spM K 1 z0e)){zBe:yf}{zld:yn}(zUc:FnAt K mg "parts" zHg ztc zBe zld)(zrc:tw P w K mg base CX0 3 zBe zld ztc (spM K 1 zrd)){zLl:yf}{zTj:yn}(zeg:FnAt K mg "ways_of" zEf zJc zLl zTj)(zJg:tw P w K mg base CX0 2 zLl zTj zJc (spM K 2 z5f)){f:yf}{fd:yn}(B:FnAt K mg "ways" z6l zke f fd):tw P w K mg base CX0 4 f fd zke (spM K 1 zgg):=by
 refine fnM B.fn TD rfl (λcdv A outer s H E hr=>⟨zfo,?_,λ_ _ _ _ _ e=>e⟩);have hu:=hr.units;exact(zm (zN 1 (tD zJe zaf hr (zf (mv 0) zk)) (hN:=TD.nd)) (zm (zN 2 zq (hN:=TD.nd)) (zm (zgc (z3b (tD zUc zrc hr (zf (mv 0) zk))) (zV 3 (hN:=TD.nd)) (zr (zPs 2 zQt (tD zeg zJg hr (zf (mv 3) (zf (mv 1) zk))) (hN:=TD.nd)))) (zr (zK (mv 2))))))
abbrev zyf:Yp:=top 30
abbrev zOc:List yG:=["web","nests"]
def zno:tu z6k zOc (zx zyf):=by walk_at "s"
def zSm(T:Txt K mg){f:yf}{fd:yn}(B:FnAt K mg "room_of" zyf zOc f fd):tw P w K mg base CX0 1 f fd zOc (spM K 2 z0f):=by
 refine fnM B.fn zno rfl (λcdv A outer s H E hr=>⟨zBf,?_,λ_ _ _ _ _ e=>e⟩);have hu:=hr.units;exact(zr (zK (zF (zbl rfl) T.n_sum z8s (zf (mlc ["nest"] [0] (z3b (mv 1)) (λ_ _ _ _ _=>(zZ 0 (hN:=zY (by rfl)))) (λ_ _ _ _ _=>zAf) (λ_ _ _ _ _=>(zE (zE (mv 1) zq) (mv 0))) (z6b ⟨_,rfl,rfl⟩ zxc)) zk))))
abbrev zUe:Yp:=top 29
abbrev znc:List yG:=["web","some"]
def Tq:tu zhj znc (zx zUe):=by walk_at "s"
def zom(T:Txt K mg){f:yf}{fd:yn}(B:FnAt K mg "homes_of" zUe znc f fd):tw P w K mg base CX0 1 f fd znc (spM K 2 zIe):=by
 refine fnM B.fn Tq rfl (λcdv A outer s H E hr=>⟨zKe,?_,λ_ _ _ _ _ e=>e⟩);have hu:=hr.units;exact(zm (zN 2 (zGd zk) (hN:=Tq.nd)) (zm (zgc (z3b (mv 1)) (zV 3 (hN:=Tq.nd)) (zr (zTd (z3k (mv 2) (zf (zE (zE (mv 0) zq) (mv 3)) zk))))) (zr (zK (zFp T.Tk zAd T.n_set zRs (mv 2))))))
abbrev zEd:Yp:=top 32
abbrev zCb:List yG:=["web","some"]
def zFm:tu zqj zCb (zx zEd):=by walk_at "s"
def zil(T:Txt K mg){z9l:yf}{zwj:yn}(z1f:FnAt K mg "room_of" zyf zOc z9l zwj)(zzg:tw P w K mg base CX0 1 z9l zwj zOc (spM K 2 z0f)){zVj:yf}{zji:yn}(z2e:FnAt K mg "homes_of" zUe znc zVj zji)(zdf:tw P w K mg base CX0 1 zVj zji znc (spM K 2 zIe)){f:yf}{fd:yn}(B:FnAt K mg "is_crowd" zEd zCb f fd):tw P w K mg base CX0 2 f fd zCb (spM K 2 zLc):=by
 refine fnM B.fn zFm rfl (λcdv A outer s H E hr=>⟨z1e,?_,λ_ _ _ _ _ e=>e⟩);have hu:=hr.units;exact(zr (zK (zXb zzl (tD z1f zzg hr (zf (mv 0) (zf (tD z2e zdf hr (zf (mv 0) (zf (mv 1) zk))) zk))) (zF zH T.tL zmb (zf (mv 1) zk)))))
abbrev zjk:Yp:=top 18
abbrev zXe:List yG:=["laying","nest"]
def zTr:tu zBq zXe (zx zjk):=by walk_at "s"
def zQq(T:Txt K mg){f:yf}{fd:yn}(B:FnAt K mg "lying" zjk zXe f fd):tw P w K mg base CX0 1 f fd zXe (spM K 2 zak):=by
 refine fnM B.fn zTr rfl (λcdv A outer s H E hr=>⟨ztk,?_,λ_ _ _ _ _ e=>e⟩);have hu:=hr.units;exact(zr (zK (mlc ["key","place"] [1] (zme T.tN zpb (mv 0)) (λ_ _ _ _ _=>(z8h (zOb (zZ 0 (hN:=zY (by rfl))) (zOb (zZ 1 (hN:=zY (by rfl))) zMf)))) (λ_ _ _ _ _=>(z2g (zQ (zub hu) (mv 1) (mv 2)))) (λ_ _ _ _ _=>(mv 0)) (z6b ⟨_,rfl,rfl⟩ zxc))))
abbrev zYd:Yp:=top 23
abbrev zYb:List yG:=["web","laying","key"]
def tK:tu zTi zYb (zx zYd):=by walk_at "s"
def zVk(T:Txt K mg){zFq:yf}{z1n:yn}(zPk:FnAt K mg "lying" zjk zXe zFq z1n)(zWk:tw P w K mg base CX0 1 zFq z1n zXe (spM K 2 zak)){f:yf}{fd:yn}(B:FnAt K mg "pushes_to" zYd zYb f fd):tw P w K mg base CX0 2 f fd zYb (spM K 3 zfe):=by
 refine fnM B.fn tK rfl (λcdv A outer s H E hr=>⟨z9d,?_,λ_ _ _ _ _ e=>e⟩);have hu:=hr.units;exact(zm (zN 3 zHv (hN:=tK.nd)) (zm (zgc (z3b (zE (zE (mv 0) zq) (mv 2))) (zV 4 (hN:=tK.nd)) (zr (zjh (zhc (zf (mv 2) (zf z8g zk))) (zHp (mv 3) (mv 4))))) (zm (zN 5 (zRe (zGm rfl) T.Tz zhf (zf (mv 3) zk)) (hN:=tK.nd)) (zm (zN 6 zq (hN:=tK.nd)) (zm (zLh 100000 (zQ zzl (mv 6) (zF zH T.tL zmb (zf (mv 5) zk))) (zm (zgc (z3b (tD zPk zWk hr (zf (mv 1) (zf (zE (mv 5) (mv 6)) zk)))) (zV 7 (hN:=tK.nd)) (zr (zgc (z3b (zE (zE (mv 0) zq) (mv 7))) (zV 4 (hN:=tK.nd)) (zr (zpc (zQ zij (mv 4) (mv 3)) (zm (zjh (zhc (zf (mv 7) (zf (zE (mv 5) (mv 6)) zk))) (zHp (mv 3) (mv 4))) (zr (zTd (zrf (mv 5) (zf (mv 4) zk))))) z8))))) (zr (zPs 6 zou zq (hN:=tK.nd))))) (zr (zK (mv 3))))))))
abbrev z8l:Yp:=top 16
abbrev zDe:List yG:=["web","laying"]
def zst:tu zIs zDe (zx z8l):=by walk_at "s"
def zns(T:Txt K mg){f:yf}{fd:yn}(B:FnAt K mg "left" z8l zDe f fd):tw P w K mg base CX0 1 f fd zDe (spM K 2 z0h):=by
 refine fnM B.fn zst rfl (λcdv A outer s H E hr=>⟨zoj,?_,λ_ _ _ _ _ e=>e⟩);have hu:=hr.units;exact(zr (zK (mlc ["nest","room"] [1] (zme T.tN zpb (zE (mv 0) zq)) (λ_ _ _ _ _=>(z8h (zOb (zZ 0 (hN:=zY (by rfl))) (zOb (zZ 1 (hN:=zY (by rfl))) zMf)))) (λ_ _ _ _ _=>zAf) (λ_ _ _ _ _=>(zkb zJm (mv 1) (zOr (mv 2) (zf (mv 0) zk)))) (z6b ⟨_,rfl,rfl⟩ zxc))))
abbrev zuh:Yp:=top 24
abbrev zLd:List yG:=["pushes","nest"]
def TK:tu zIn zLd (zx zuh):=by walk_at "s"
def z7o(T:Txt K mg){f:yf}{fd:yn}(B:FnAt K mg "row_to" zuh zLd f fd):tw P w K mg base CX0 1 f fd zLd (spM K 2 zoh):=by
 refine fnM B.fn TK rfl (λcdv A outer s H E hr=>⟨zMh,?_,λ_ _ _ _ _ e=>e⟩);have hu:=hr.units;exact(zm (zN 2 (zGd zk) (hN:=TK.nd)) (zm (zLh 100000 (zQ zag (mv 1) z8g) (zm (zTd (zrf (mv 2) (zf (zhc (zf (zE (zVs (mv 0) (mv 1)) zq) (zf (mv 1) zk))) zk))) (zr (zN 1 (zE (zVs (mv 0) (mv 1)) zq) (hN:=TK.nd))))) (zr (zK (ztt T.Tz zhf T.sN zXm (mv 2))))))
abbrev zBh:Yp:=top 25
abbrev zJd:List yG:=["web","laying","key"]
def Tu:tu zBn zJd (zx zBh):=by walk_at "s"
def zio(T:Txt K mg){zzi:yf}{zXg:yn}(zbe:FnAt K mg "pushes_to" zYd zYb zzi zXg)(zze:tw P w K mg base CX0 2 zzi zXg zYb (spM K 3 zfe)){zvl:yf}{zRi:yn}(z7h:FnAt K mg "left" z8l zDe zvl zRi)(zOg:tw P w K mg base CX0 1 zvl zRi zDe (spM K 2 z0h)){zun:yf}{zNl:yn}(zsh:FnAt K mg "row_to" zuh zLd zun zNl)(zyi:tw P w K mg base CX0 1 zun zNl zLd (spM K 2 zoh)){f:yf}{fd:yn}(B:FnAt K mg "put_in" zBh zJd f fd):tw P w K mg base CX0 3 f fd zJd (spM K 3 zyh):=by
 refine fnM B.fn Tu rfl (λcdv A outer s H E hr=>⟨zSh,?_,λ_ _ _ _ _ e=>e⟩);have hu:=hr.units;exact(zm (zN 3 (tD zbe zze hr (zf (mv 0) (zf (mv 1) (zf (mv 2) zk)))) (hN:=Tu.nd)) (zm (zN 4 (tD z7h zOg hr (zf (mv 0) (zf (mv 1) zk))) (hN:=Tu.nd)) (zm (zgc (zPt (mv 3)) (zV 5 (hN:=Tu.nd)) (zr (zpc (zQ zPq (zE (mv 4) (mv 5)) zq) (zr (zK (zhc (zf zKb (zf (tD zsh zyi hr (zf (mv 3) (zf (mv 5) zk))) zk))))) z8))) (zr (zK (zhc (zf zKb (zf (mlc ["other","nest"] [2,3] (zme T.tN zpb (mv 1)) (λ_ _ _ _ _=>(z8h (zOb (zZ 0 (hN:=zY (by rfl))) (zOb (zZ 1 (hN:=zY (by rfl))) zMf)))) (λ_ _ _ _ _=>(z2g (MW.mt (z2j (zQ (zub hu) (mv 0) (mv 2)) (zOf (zQ zks (mv 1) (mv 3))))))) (λ_ _ _ _ _=>(mv 0)) (z6b ⟨_,rfl,rfl⟩ (z6b ⟨_,rfl,rfl⟩ zxc))) zk))))))))
abbrev zdk:Yp:=top 17
abbrev zFe:List yG:=["web","laying"]
def Tr:tu zmq zFe (zx zdk):=by walk_at "s"
def zuq(T:Txt K mg){zvl:yf}{zRi:yn}(z7h:FnAt K mg "left" z8l zDe zvl zRi)(zOg:tw P w K mg base CX0 1 zvl zRi zDe (spM K 2 z0h)){f:yf}{fd:yn}(B:FnAt K mg "fault" zdk zFe f fd):tw P w K mg base CX0 2 f fd zFe (spM K 2 zHk):=by
 refine fnM B.fn Tr rfl (λcdv A outer s H E hr=>⟨zqk,?_,λ_ _ _ _ _ e=>e⟩);have hu:=hr.units;exact(zm (zgc (zme T.tN zpb (mv 1)) (ztj (zlb (zV 2 (hN:=Tr.nd)) (zlb (zV 3 (hN:=Tr.nd)) zff))) (zr (zpc (MW.mt (z6n (zQ zag (mv 3) z8g) (zQk (zQ zue (mv 3) (zE (zE (mv 0) zq) (mv 2)))))) (zr (zK (zhc (zf zKb (zf (mv 2) zk))))) z8))) (zm (zgc (zme T.tN zpb (tD z7h zOg hr (zf (mv 0) (zf (mv 1) zk)))) (ztj (zlb (zV 3 (hN:=Tr.nd)) (zlb (zV 4 (hN:=Tr.nd)) zff))) (zr (zpc (zQ zzl (mv 4) zq) (zr (zK (zhc (zf zKb (zf (mv 3) zk))))) z8))) (zr (zK z8g))))
abbrev zRf:Yp:=top 20
abbrev zNc:List yG:=["web","laying","row","at"]
def TY:tu zYl zNc (zx zRf):=by walk_at "s"
def zym(T:Txt K mg){f:yf}{fd:yn}(B:FnAt K mg "is_push" zRf zNc f fd):tw P w K mg base CX0 1 f fd zNc (spM K 4 zLf):=by
 refine fnM B.fn TY rfl (λcdv A outer s H E hr=>⟨zGf,?_,λ_ _ _ _ _ e=>e⟩);have hu:=hr.units;exact(zm (zN 4 (zE (zE (mv 2) (mv 3)) zq) (hN:=TY.nd)) (zm (zpc (MW.mt (z2j (zQ zzl (mv 4) zq) (zOf (zQ z0u (mv 4) (zF zH T.tL zmb (zf (mv 1) zk)))))) (zr (zK zUl)) z8) (zm (zpc (MW.mt (z2j (zQ zue (zE (zE (mv 2) (mv 3)) zq) (zE (zE (mv 0) zq) (mv 4))) (zOf (zQ (zub hu) (zE (zE (mv 2) (mv 3)) zq) (zE (mv 1) (mv 4)))))) (zr (zK zUl)) z8) (zr (zK (zXb zue (mv 4) (mlc ["push"] [] (z3b (zrt (mv 2) zWt (zzp (mv 3)))) (λ_ _ _ _ _=>(zZ 0 (hN:=zY (by rfl)))) (λ_ _ _ _ _=>zAf) (λ_ _ _ _ _=>(zE (mv 0) zq)) zxc)))))))
abbrev zmf:Yp:=top 21
abbrev zKc:List yG:=["laying","key","row","at"]
def zWo:tu z2k zKc (zx zmf):=by walk_at "s"
def zIm(T:Txt K mg){f:yf}{fd:yn}(B:FnAt K mg "follows" zmf zKc f fd):tw P w K mg base CX0 1 f fd zKc (spM K 4 zof):=by
 refine fnM B.fn zWo rfl (λcdv A outer s H E hr=>⟨z3f,?_,λ_ _ _ _ _ e=>e⟩);have hu:=hr.units;exact(zm (zpc (zQ (zub hu) (mv 3) zq) (zr (zK (zXb (zub hu) (zE (zE (mv 2) zq) zq) (mv 1)))) z8) (zr (zK (zXb (zub hu) (zE (mv 0) (zE (zE (mv 2) (mv 3)) zq)) (zE (zE (mv 2) (zkb zJm (mv 3) zq)) zq)))))
abbrev zOh:Yp:=top 22
abbrev zDd:List yG:=["web","laying","key","row"]
def Tv:tu zNn zDd (zx zOh):=by walk_at "s"
def zxo(T:Txt K mg){zoq:yf}{zzn:yn}(z7j:FnAt K mg "fault" zdk zFe zoq zzn)(zAk:tw P w K mg base CX0 2 zoq zzn zFe (spM K 2 zHk)){zcl:yf}{zDj:yn}(z2f:FnAt K mg "is_push" zRf zNc zcl zDj)(zFg:tw P w K mg base CX0 1 zcl zDj zNc (spM K 4 zLf)){zel:yf}{zmj:yn}(zqg:FnAt K mg "follows" zmf zKc zel zmj)(zwg:tw P w K mg base CX0 1 zel zmj zKc (spM K 4 zof)){f:yf}{fd:yn}(B:FnAt K mg "pushed" zOh zDd f fd):tw P w K mg base CX0 3 f fd zDd (spM K 4 zph):=by
 refine fnM B.fn Tv rfl (λcdv A outer s H E hr=>⟨zvh,?_,λ_ _ _ _ _ e=>e⟩);have hu:=hr.units;exact(zm (zN 4 (zRe zXj T.Tz zhf (zf (mv 1) zk)) (hN:=Tv.nd)) (zm (zgc (zme T.tN zpb (mv 3)) (ztj (zlb (zV 5 (hN:=Tv.nd)) (zlb (zV 6 (hN:=Tv.nd)) zff))) (zm (zpc (zQs (MW.mt (z6n (zfh (tD z2f zFg hr (zf (mv 0) (zf (mv 1) (zf (mv 3) (zf (mv 5) zk)))))) (zQk (zfh (tD zqg zwg hr (zf (mv 1) (zf (mv 2) (zf (mv 3) (zf (mv 5) zk)))))))))) (zr zCk) z8) (zr (zjh (zE (mv 6) zq) (z6t (mv 4) (zE (mv 6) zq)))))) (zm (zpc (MW.mt (z2j (zQ (zub hu) (zF zH T.tL zmb (zf (mv 3) zk)) zq) (zOf (zQ zag (tD z7j zAk hr (zf (mv 0) (zf (mv 4) zk))) z8g)))) (zr zCk) z8) (zr (zK (mv 4))))))
abbrev z6d:Yp:=top 26
abbrev zWb:List yG:=["web","laying","keys"]
def tY:tu zTh zWb (zx z6d):=by walk_at "s"
def zck(T:Txt K mg){zgo:yf}{zJl:yn}(zKh:FnAt K mg "put_in" zBh zJd zgo zJl)(zJi:tw P w K mg base CX0 3 zgo zJl zJd (spM K 3 zyh)){zJn:yf}{zVl:yn}(zJh:FnAt K mg "pushed" zOh zDd zJn zVl)(zMi:tw P w K mg base CX0 3 zJn zVl zDd (spM K 4 zph)){f:yf}{fd:yn}(B:FnAt K mg "laid_more" z6d zWb f fd):tw P w K mg base CX0 4 f fd zWb (spM K 3 zPd):=by
 refine fnM B.fn tY rfl (λcdv A outer s H E hr=>⟨zQd,?_,λ_ _ _ _ _ e=>e⟩);have hu:=hr.units;exact(zm (zN 3 (zGd zk) (hN:=tY.nd)) (zm (zgc (z3b (mv 2)) (zV 4 (hN:=tY.nd)) (zm (zN 5 (tD zKh zJi hr (zf (mv 0) (zf (mv 1) (zf (mv 4) zk)))) (hN:=tY.nd)) (zr (zpc (zQ (zub hu) (zE (mv 5) zq) zKb) (zr (zN 1 (tD zJh zMi hr (zf (mv 0) (zf (mv 1) (zf (mv 4) (zf (zE (mv 5) zq) zk))))) (hN:=tY.nd))) (zr (zTd (z3k (mv 3) (zf (zE (mv 5) zq) zk)))))))) (zr (zK (zhc (zf (mv 1) (zf (zFp T.Tk zAd T.n_set zRs (mv 3)) zk)))))))
abbrev zFc:Yp:=top 27
abbrev zxb:List yG:=["web"]
def z6i:tu zlg zxb (zx zFc):=by walk_at "s"
def zYh(T:Txt K mg){zDi:yf}{z1g:yn}(zee:FnAt K mg "laid_more" z6d zWb zDi z1g)(zle:tw P w K mg base CX0 4 zDi z1g zWb (spM K 3 zPd)){f:yf}{fd:yn}(B:FnAt K mg "laid_at_all" zFc zxb f fd):tw P w K mg base CX0 5 f fd zxb (spM K 1 zCc):=by
 refine fnM B.fn z6i rfl (λcdv A outer s H E hr=>⟨zHc,?_,λ_ _ _ _ _ e=>e⟩);have hu:=hr.units;exact(zr (zK (tD zee zle hr (zf (mv 0) (zf (zkb ztd (zGd (zf z8g zk)) (zF zH T.tL zmb (zf (zE (mv 0) zq) zk))) (zf (zKi T.Tz zhf T.Te (zF zH T.tL zmb (zf (zE (mv 0) zq) zk))) zk))))))
abbrev z7d:Yp:=top 33
abbrev zUb:List yG:=["web","some"]
def TF:tu z5h zUb (zx z7d):=by walk_at "s"
def zwk(T:Txt K mg){zCd:yf}{zZc:yn}(zkc:FnAt K mg "is_crowd" zEd zCb zCd zZc)(zmc:tw P w K mg base CX0 2 zCd zZc zCb (spM K 2 zLc)){f:yf}{fd:yn}(B:FnAt K mg "spare_key" z7d zUb f fd):tw P w K mg base CX0 3 f fd zUb (spM K 2 z0c):=by
 refine fnM B.fn TF rfl (λcdv A outer s H E hr=>⟨zae,?_,λ_ _ _ _ _ e=>e⟩);have hu:=hr.units;exact(zm (zgc (z3b (mv 1)) (zV 2 (hN:=TF.nd)) (zr (zpc (zfh (tD zkc zmc hr (zf (mv 0) (zf (mlc ["other"] [2] (z3b (mv 1)) (λ_ _ _ _ _=>(zZ 0 (hN:=zY (by rfl)))) (λ_ _ _ _ _=>(z2g (zQ (z3e hu) (mv 0) (mv 1)))) (λ_ _ _ _ _=>(mv 0)) (z6b ⟨_,rfl,rfl⟩ zxc)) zk)))) (zr (zK (mv 2))) z8))) (zr (zK z8g)))
abbrev zCf:Yp:=top 34
abbrev zIc:List yG:=["web","some"]
def Tm:tu zlm zIc (zx zCf):=by walk_at "s"
def zrm(T:Txt K mg){zEi:yf}{z7g:yn}(zRc:FnAt K mg "spare_key" z7d zUb zEi z7g)(z5c:tw P w K mg base CX0 3 zEi z7g zUb (spM K 2 z0c)){f:yf}{fd:yn}(B:FnAt K mg "trimmed" zCf zIc f fd):tw P w K mg base CX0 4 f fd zIc (spM K 2 zjg):=by
 refine fnM B.fn Tm rfl (λcdv A outer s H E hr=>⟨zQf,?_,λ_ _ _ _ _ e=>e⟩);have hu:=hr.units;exact(zm (zN 2 (zRe zXj T.Tz zhf (zf (mv 1) zk)) (hN:=Tm.nd)) (zm (zN 3 (tD zRc z5c hr (zf (mv 0) (zf (mv 2) zk))) (hN:=Tm.nd)) (zm (zLh 100000 (zQ zag (mv 3) z8g) (zm (zTd (zCq (mv 2) (zf (mv 3) zk))) (zr (zN 3 (tD zRc z5c hr (zf (mv 0) (zf (mv 2) zk))) (hN:=Tm.nd))))) (zr (zK (mv 2))))))
abbrev zth:Yp:=top 35
abbrev zBd:List yG:=["web"]
def sr:tu zAn zBd (zx zth):=by walk_at "s"
def zXo(T:Txt K mg){z4f:yf}{z8e:yn}(zGc:FnAt K mg "laid_at_all" zFc zxb z4f z8e)(zpd:tw P w K mg base CX0 5 z4f z8e zxb (spM K 1 zCc)){znm:yf}{zyj:yn}(zVf:FnAt K mg "trimmed" zCf zIc znm zyj)(zyg:tw P w K mg base CX0 4 znm zyj zIc (spM K 2 zjg)){f:yf}{fd:yn}(B:FnAt K mg "fitted" zth zBd f fd):tw P w K mg base CX0 6 f fd zBd (spM K 1 zog):=by
 refine fnM B.fn sr rfl (λcdv A outer s H E hr=>⟨zHh,?_,λ_ _ _ _ _ e=>e⟩);have hu:=hr.units;exact(zm (zN 1 (tD zGc zpd hr (zf (mv 0) zk)) (hN:=sr.nd)) (zm (zpc (zQ (zub hu) (zE (mv 1) zq) (zGd zk)) (zr (zK (zhc (zf zKb (zf (zE (mv 1) zq) zk))))) z8) (zr (zK (zhc (zf zKb (zf (tD zVf zyg hr (zf (mv 0) (zf (zE (mv 1) zq) zk))) zk)))))))
abbrev zmd:Yp:=top 41
abbrev zIb:List yG:=["_law_web","_law_heard","_law_some"]
def tI:tu zch zIb (zx zmd):=by walk_at "s"
def z4i(T:Txt K mg){zCd:yf}{zZc:yn}(zkc:FnAt K mg "is_crowd" zEd zCb zCd zZc)(zmc:tw P w K mg base CX0 2 zCd zZc zCb (spM K 2 zLc)){zol:yf}{zsi:yn}(zhh:FnAt K mg "ways" z6l zke zol zsi)(z9e:tw P w K mg base CX0 4 zol zsi zke (spM K 1 zgg)){zVn:yf}{zRl:yn}(zRh:FnAt K mg "fitted" zth zBd zVn zRl)(z9h:tw P w K mg base CX0 6 zVn zRl zBd (spM K 1 zog)){f:yf}{fd:yn}(B:FnAt K mg "_law_whole" zmd zIb f fd):tw P w K mg base CX0 7 f fd zIb (spM K 3 zcd):=by
 refine fnM B.fn tI rfl (λcdv A outer s H E hr=>⟨zbd,?_,λ_ _ _ _ _ e=>e⟩);have hu:=hr.units;exact(zm (zN 3 (zGd zk) (hN:=tI.nd)) (zm (zN 4 (zGd zk) (hN:=tI.nd)) (zm (zgc (z3b (mv 1)) (zV 5 (hN:=tI.nd)) (zm (zN 3 (zkb zyb (mv 3) (zE (mv 5) zq)) (hN:=tI.nd)) (zr (zN 4 (zkb zyb (mv 4) (zE (mv 5) zq)) (hN:=tI.nd))))) (zm (zpc (MW.mt (z2j (zQ (z3e hu) (zF (zgf rfl) T.Tk zAd (zf (mv 3) zk)) (zKi T.Tz zhf T.Te (zF zH T.tL zmb (zf (zE (mv 0) zq) zk)))) (zOf (zQ (z3e hu) (zF (zgf rfl) T.Tk zAd (zf (mv 4) zk)) (zKi T.Tz zhf T.Te (zF zH T.tL zmb (zf (zE (mv 0) zq) zk))))))) (zr (zK zUl)) z8) (zm (zgc (zFs T.n_zip z6s (zf (mv 1) (zf (mv 2) zk))) (ztj (zlb (zV 5 (hN:=tI.nd)) (zlb (zV 6 (hN:=tI.nd)) zff))) (zr (zpc (zQ (z3e hu) (tD zkc zmc hr (zf (mv 0) (zf (zE (mv 5) zq) zk))) (zXb (zub hu) (mv 6) zKb)) (zr (zK zUl)) z8))) (zr (zK (zjw (zXb (zub hu) (zXb (zub hu) (zE (tD zRh z9h hr (zf (mv 0) zk)) zq) zKb) (zXb zue zKb (mv 2))) (zAs (zXb (zub hu) (zXb zPq (tD zhh z9e hr (zf (mv 0) zk)) zq) (zXb zue zKb (mv 2))))))))))))
abbrev zZm:Yp:=top 43
abbrev zao:List yG:=["_law_script"]
def Tc:tu zrv zao (zx zZm):=by walk_at "s"
def zHt(T:Txt K mg){zvj:yf}{zoi:yn}(zNe:FnAt K mg "_law_pen" zOe zic zvj zoi)(zef:tw P w K mg base CX0 1 zvj zoi zic (spM K 1 zEe)){zeh:yf}{ztf:yn}(z9c:FnAt K mg "_law_pairs" zfd zHb zeh ztf)(zUd:tw P w K mg base CX0 3 zeh ztf zHb (spM K 2 z3c)){zBe:yf}{zld:yn}(zUc:FnAt K mg "parts" zHg ztc zBe zld)(zrc:tw P w K mg base CX0 3 zBe zld ztc (spM K 1 zrd)){ztp:yf}{zPn:yn}(zQi:FnAt K mg "words" zbk zZe ztp zPn)(zIh:tw P w K mg base CX0 4 ztp zPn zZe (spM K 1 zai)){z4h:yf}{z9g:yn}(zOd:FnAt K mg "_law_more" zce z0b z4h z9g)(zxe:tw P w K mg base CX0 1 z4h z9g z0b (spM K 3 zde)){zWc:yf}{zwc:yn}(zfb:FnAt K mg "_law_take" zXc zob zWc zwc)(zdb:tw P w K mg base CX0 2 zWc zwc zob (spM K 2 zhb)){zol:yf}{zsi:yn}(zhh:FnAt K mg "ways" z6l zke zol zsi)(z9e:tw P w K mg base CX0 4 zol zsi zke (spM K 1 zgg)){z3g:yf}{zvf:yn}(z6c:FnAt K mg "_law_whole" zmd zIb z3g zvf)(z8d:tw P w K mg base CX0 7 z3g zvf zIb (spM K 3 zcd)){f:yf}{fd:yn}(B:FnAt K mg "law" zZm zao f fd):tw P w K mg base CX0 8 f fd zao (spM K 1 zcp):=by
 refine fnM B.fn Tc rfl (λcdv A outer s H E hr=>⟨zxs,?_,λ_ _ _ _ _ e=>e⟩);have hu:=hr.units;exact(zm (zN 1 (tD zNe zef hr (zf (mv 0) zk)) (hN:=Tc.nd)) (zm (zN 2 (tD z9c zUd hr (zf (mv 1) (zf zq zk))) (hN:=Tc.nd)) (zm (zN 3 (tD zUc zrc hr (zf (mv 2) zk)) (hN:=Tc.nd)) (zm (zN 4 (tD zQi zIh hr (zf (mv 2) zk)) (hN:=Tc.nd)) (zm (zpc (MW.mt (z2j (zQ (z3e hu) (zF zH T.tL zmb (zf (mv 3) zk)) (zF zH T.tL zmb (zf (mv 4) zk))) (zOf (zQs (zfh (tD z6c z8d hr (zf (mv 2) (zf (mv 3) (zf (mv 4) zk))))))))) (zr (zK zUl)) z8) (zm (zN 5 (zhc (zf (tD zfb zdb hr (zf (mv 1) (zf (zF zH T.tL zmb (zf (zE (mv 2) zq) zk)) zk))) (zf (tD zfb zdb hr (zf (mv 1) (zf (zF zH T.tL zmb (zf (zE (mv 2) zq) zk)) zk))) zk))) (hN:=Tc.nd)) (zm (zjh (tD zOd zxe hr (zf (mv 3) (zf (mv 4) (zf (mv 5) zk)))) (ztj (zlb (zV 6 (hN:=Tc.nd)) (zlb (zV 7 (hN:=Tc.nd)) zff)))) (zm (zN 8 (zhc (zf (zE (mv 2) zq) (zf (zkb zyb (zE (mv 2) zq) (zhc (zf (mv 5) zk))) zk))) (hN:=Tc.nd)) (zm (zgc (zFs T.n_zip z6s (zf (tD zUc zrc hr (zf (mv 8) zk)) (zf (tD zQi zIh hr (zf (mv 8) zk)) zk))) (ztj (zlb (zV 9 (hN:=Tc.nd)) (zlb (zV 10 (hN:=Tc.nd)) zff))) (zr (zpc (MW.mt (z2j (MW.mt (z6n (zQ (zub hu) (zE (mv 9) zq) (mv 6)) (zQk (zQ (z3e hu) (mv 10) (mv 7))))) (zOf (zQ (z3e hu) (zXb zVh (zE (mv 5) zq) (zE (mv 9) zq)) (zXb (zub hu) (zE (mv 9) zq) (mv 6)))))) (zr (zK zUl)) z8))) (zr (zK (zXb znw (tD zhh z9e hr (zf (mv 8) zk)) (zkb ztd zq (tD zhh z9e hr (zf (mv 2) zk)))))))))))))))
end
end P
namespace P
open PySem PySem.Spec PyProof.Rows L2 M
set_option maxHeartbeats 4000000
variable {R:List Nat}{K:List (List Nat)}{μ:Mem}{Q:D->Mem->Prop}{xs ds:List D}{i L l B m k a b s n N h nest old new e0 e1 v e:Nat}{J:M.Loc}{S T C ks:List Nat}{lay lay0:List (Option Nat)}{row:List (Nat×Nat)}{K' rows:List (List Nat)}
def zQm:M.cutD xs none (some (i:Int))=xs.take i:=by
 unfold M.cutD;rw[HT.sF,HT.sQ,List.drop_zero,Nat.sub_zero];rcases Nat.le_total i xs.length with h|h
 ·rw[Nat.min_eq_left h]
 ·rw[Nat.min_eq_right h,take_length,xf h]
def zir:M.cutD xs (some (i:Int)) none=xs.drop i:=by
 unfold M.cutD;rw[HT.sF,HT.sQ];rcases Nat.le_total i xs.length with h|h
 ·rw[Nat.min_eq_left h,xf (by simp)]
 ·rw[Nat.min_eq_right h,Nat.sub_self,List.take_zero,List.drop_eq_nil_of_le h]
local macro_rules | `(tactic| walk_at "w") => `(tactic| first
  | refine zu ?_ | refine zab ?_ | refine z4j ?_ | refine zqb ?_ | refine zmg ?_ | refine zkf ?_ | refine zjb ?_ | refine zhe ?_
  | refine zh rfl ?_ | refine w_c ?_ | refine zo ?_ | refine zw ?_ | refine zj ?_ | refine zy ?_ | refine zwe ?_ | refine zRg ?_ | refine z9v ?_ | refine zms ?_ | refine zRn ?_ | refine ztv ?_ | refine zzx ?_ | refine w_not ?_ | refine zzw ?_ | refine zSi ?_ | refine zEm ?_ | refine zPh ?_ | refine zQw ?_
  | refine zL ?_ | refine zGn ?_ | refine zdj ?_ | refine zGq ?_ | refine z2v ?_ | refine zDg ?_ | refine zwd ?_ | refine zhl ?_ | refine zVw ?_ | refine z3d ?_ | refine zrk ?_
  | refine zDf ?_ | refine zCu ?_ | refine zpk (by first | decide | omega) ?_ | refine zqr (by first | decide | omega) (by first | decide | omega) ?_ | refine zzk ?_ | refine znh ?_ | refine zcu ?_ | refine zKw ?_ | refine zor ?_ | refine zhx (by decide) (by decide) (by decide) ?_ | refine zEv ?_ | refine z9s ?_ | refine zUs ?_ | refine zgw ?_
  | refine zbc rfl ?_ | refine zjq rfl ?_ | refine zMm rfl ?_ | with_reducible refine ⟨_,rfl,?_⟩)
local macro_rules | `(tactic| walk_at "om") => `(tactic| first | omega | (simp only [length_map, length_range, Int.toNat_natCast, length_append, length_cons, List.length_nil] at *; omega) | (simp <;> omega))
structure WebA(L:Int)(rooms:List Int)(ks:List (List Int)):Prop where
 rl:1<=rooms.length/\rooms.length<=10
 rn:∀r∈rooms,0<=r
 kl:ks.length<=L
 kn:∀k∈ks,(2<=k.length/\k.length<=3)/\∀i∈k,0<=i/\i<rooms.length
def z7s{i:Int}(h0:0<=i)(h1:i<ds.length):∃d,d∈ds/\ds[i.toNat]?=some d/\atI ds i=some d:=by
 have hi:i.toNat<ds.length:=by omega
 refine⟨ds[i.toNat],getElem_mem hi,by simp[hi],?_⟩;have:=zyc (xs:=ds) (j:=i.toNat) (v:=ds[i.toNat]) (by simp[hi]);rw[Int.toNat_of_nonneg h0]at this;exact this
def Ta(ns:List Int)(μ:Mem)(l B:Nat):Prop:=∃(b:Bool)(k:Nat)(r:Int),k<=B/\μ[l]?=some (.lst [.fz (ns.map .int),.bl b,.int (k:Nat),.int r])
section
variable {ns:List Int}
def Ta.kb{μ μ':Mem}{L:List Nat}(h:Ta ns μ l B)(k:KB L μ μ')(hl:l∉L):Ta ns μ' l B:=by
 obtain⟨b,j,r,hj,e⟩:=h;exact⟨b,j,r,hj,k.at_ _ _ hl e⟩
def Ta.app{μ g:Mem}(h:Ta ns μ l B):Ta ns (μ++g) l B:=h.kb (L:=[]) (KB.refl.app) (by simp)
def Ta.keep{μ μ':Mem}(h:Ta ns μ l B)(k:tq μ μ'):Ta ns μ' l B:=h.kb (L:=[]) (KB.of_keep k) (by simp)
def Ta.lt(h:Ta ns μ l B):l<μ.length:=by
 obtain⟨b,j,r,hj,e⟩:=h;exact zJ e
def Ta.set{o:tE}(h:Ta ns μ l B)(hne:m≠l):Ta ns (μ.set m o) l B:=by
 obtain⟨b,j,r,hj,e⟩:=h;exact⟨b,j,r,hj,zT e hne⟩
def Ta.up{B':Nat}(h:Ta ns μ l B)(hb:B<=B'):Ta ns μ l B':=by
 obtain⟨b,j,r,hj,e⟩:=h;exact⟨b,j,r,by omega,e⟩
def zpt(q:∀μ',tq μ μ'->Ta ns μ' μ.length 0->μ'.length=μ.length+1->Q (.loc μ.length) μ'):WF zEe [.fz (ns.map .int)] μ Q:=by
 refine zDb rfl ?_;show WS zYe [some (.fz (ns.map .int))] μ _ _ _ _;unfold zYe;refine zqb (zRg (zj (zh rfl (zj (zzx (zo (zw (zj (zh rfl (zy (zbc rfl (w_c (znh ⟨_,rfl,λh=>?_,λh=>?_⟩)))))))))))))
 ·have h0:ns≠[]:=by
   rintro rfl;simp at h
  obtain⟨n,ns',rfl⟩:=List.exists_cons_of_ne_nil h0;refine zo (zo (zo (zh rfl (w_c (zPb rfl (zyc (j:=0) (v:=D.int n) rfl) (w_c (zpk (by omega) (w_c (znh ?_)))))))));exact zj (w_c (zj (w_c (zy (q _ .app ⟨_,0,0,yi _,zB⟩ (by simp))))))
 ·exact zj (w_c (zj (w_c (zy (q _ .app ⟨_,0,0,yi _,zB⟩ (by simp))))))
def zeq(hk:k<=1000000)(q:∀v:Int,Q (.int v) μ):WF z7c [.fz (ns.map .int),.int (k:Nat)] μ Q:=by
 refine zDb rfl ?_;show WS zdd [some (.fz (ns.map .int)),some (.int (k:Nat)),none,none,none] μ _ _ _ _;unfold zdd
 have mk:∀{i:Int},zkh i (k:Nat)=true:=λ{i}=>by
  unfold zkh;rw[decide_eq_true (show -(2^64)<((k:Nat):Int)/\((k:Nat):Int)<2^64 by omega)];simp
 have rest:∀c:Int,WS (zeb (zcc 3 (zz zKm (zz zif (zz zAh (zz zif (zz zif (zp 2) (zz zAh (fC (.int 40503)) (zp 1))) (fC (.int 1))) (fC (.int 48271))) (zz zAh (zp 1) (zp 1))) (fC (.int 2147483647)))) (zeb (zcc 4 (zz zKm (zz zif (zz zif (zz zAh (zp 3) (zp 3)) (zz zAh (fC (.int 69621)) (zp 3))) (zz zAh (fC (.int 31)) (zp 1))) (fC (.int 2147483629)))) (zdc (zz zKm (zz zif (zz zif (zz zAh (zp 4) (zp 4)) (zz zAh (fC (.int 16807)) (zp 4))) (zp 1)) (fC (.int 1073741789)))))) [some (.fz (ns.map .int)),some (.int (k:Nat)),some (.int c),none,none] μ (λ_ μ'=>Q .non μ') Q (λ_ _=>False) (λ_ _=>False):=λc=>by
  refine zu (zab (zo (zo (zo (zo (zo (zh rfl (zo (w_c (zh rfl (zNk mk (zDf (w_c (zDf (w_c (zNk (by unfold zkh;simp) (zo (zh rfl (zh rfl (zNk mk (zDf (w_c (zpk (by omega) ?_)))))))))))))))))))))));have h1:∀x:Int,0<=x%2147483647/\x%2147483647<2147483647:=λx=>⟨Int.emod_nonneg _ (by omega),xQ _ (by omega)⟩
  obtain⟨a1,b1⟩:=h1 ((c+40503*(k:Nat)+1)*48271+(k:Nat)*(k:Nat));generalize ((c+40503*((k:Nat):Int)+1)*48271+((k:Nat):Int)*((k:Nat):Int))%2147483647=x at a1 b1
  have mx:∀{i:Int},zkh i x=true:=λ{i}=>by
   unfold zkh;rw[decide_eq_true (show -(2^64)<x/\x<2^64 by omega)];simp
  refine zu (zab (zo (zo (zo (zo (zh rfl (zh rfl (zNk mx (zo (w_c (zh rfl (zNk mx (zDf (zo (w_c (zh rfl (zNk mk (zDf (w_c (zpk (by omega) ?_))))))))))))))))))));have h2:∀y:Int,0<=y%2147483629/\y%2147483629<2147483629:=λy=>⟨Int.emod_nonneg _ (by omega),xQ _ (by omega)⟩
  obtain⟨a2,b2⟩:=h2 (x*x+69621*x+31*(k:Nat));generalize (x*x+69621*x+31*((k:Nat):Int))%2147483629=y at a2 b2
  have my:∀{i:Int},zkh i y=true:=λ{i}=>by
   unfold zkh;rw[decide_eq_true (show -(2^64)<y/\y<2^64 by omega)];simp
  exact zqb (zo (zo (zo (zo (zh rfl (zh rfl (zNk my (zo (w_c (zh rfl (zNk my (zDf (zh rfl (zDf (w_c (zpk (by omega) (q _)))))))))))))))))
 refine zu (zab (w_c ?_));refine zu (zkf (zL (zo (zw (zj (zh rfl (zy (zbc rfl (w_c (zzk ⟨_,rfl,λh2=>?_,λh2=>zjb (rest _)⟩))))))))));have h2:=of_decide_eq_true h2;obtain⟨d,hm,_,ha⟩:=z7s (ds:=ns.map .int) (i:=(k:Nat)%((ns.map D.int).length:Int)) (Int.emod_nonneg _ (by omega)) (xQ _ h2);obtain⟨v,_,rfl⟩:=List.mem_map.mp hm;exact zab (zo (zh rfl (zo (zh rfl (zw (zj (zh rfl (zy (zbc rfl (zpk h2 (zPb rfl ha (rest _))))))))))))
def zPu{gs:FGs}{P:M.Loc->Mem->Prop}{a b c d:D}(e:μ[l]?=some (.lst [a,b,c,d]))(h:WGs gs [a,b,c,d] J μ P):WG (gTL 4 gs) (.loc l) J μ P:=by
 obtain⟨J1,μ1,e1,q⟩:=h;refine⟨J1,μ1,?_,q⟩;unfold gTL;dsimp only;rw[e];exact e1
def zsk{s:Int}(h:Ta ns μ l B)(hB:B<=1000000)(h0:0<s)(h1:s<1606938044258990275541962092341162602522202993782792835301376)
 (q:∀v μ',0<=v->v<s->KB [l] μ μ'->μ'.length=μ.length->Ta ns μ' l (B+1)->Q (.int v) μ'):WF zhb [.loc l,.int s] μ Q:=by
 obtain⟨b,k,r,hk,e⟩:=h;have hlt:=zJ e;refine zDb rfl ?_;show WS zNd [some (.loc l),some (.int s),none,none,none,none] μ _ _ _ _;unfold zNd;refine zu (z4j (zh rfl (zPu e (z3d (zwd (z3d (zwd (z3d (zwd (z3d (zwd (zrk ?_))))))))))));refine zu (z4j (zo (zh rfl (w_c (zDf ?_)))));refine zVt (zh rfl (w_c ⟨_,_,_,rfl,rfl,e,⟨by omega,by simp⟩,?_⟩));show WS _ _ (μ.set l (.lst [.fz (ns.map .int),.bl b,.int (((k:Nat):Int)+1),.int r])) _ _ _ _;have e2:(μ.set l (tE.lst [.fz (ns.map .int),.bl b,.int (((k:Nat):Int)+1),.int r]))[l]?=some (.lst [.fz (ns.map .int),.bl b,.int ((k+1:Nat):Int),.int r]):=zR e;have k2:KB [l] μ (μ.set l (tE.lst [.fz (ns.map .int),.bl b,.int (((k:Nat):Int)+1),.int r])):=KB.refl.set (.inl (by simp));have l2:(μ.set l (tE.lst [.fz (ns.map .int),.bl b,.int (((k:Nat):Int)+1),.int r])).length=μ.length:=by simp
 generalize μ.set l (tE.lst [.fz (ns.map .int),.bl b,.int (((k:Nat):Int)+1),.int r])=μ2 at e2 k2 l2;refine zu (zkf (zL (zh rfl ⟨_,rfl,λhb=>?_,λhb=>zjb ?_⟩)))
 ·refine zqb (zo (zw (zj (zh rfl (zj (zh rfl (zy ?_))))))) ;refine zeq (by omega) λv=>zh rfl (zpk h0 ?_);exact q _ _ (Int.emod_nonneg _ (by omega)) (xQ _ h0) k2 l2 ⟨b,k+1,r,by omega,e2⟩
 ·have last:∀r':Int,WS (zeb (zep (zz zYt (zp 5) (zp 1)) (gAt (zp 0) (fC (.int 3)))) (zdc (zz zKm (zp 5) (zp 1)))) [some (.loc l),some (.int s),some (.fz (ns.map .int)),some (.bl b),some (.int (k:Nat)),some (.int r')] μ2 (λ_ μ'=>Q .non μ') Q (λ_ _=>False) (λ_ _=>False):=λr'=>by
   refine zu (z4j (zo (zh rfl (zh rfl (zqr h0 h1 ?_)))));refine zVt (zh rfl (w_c ⟨_,_,_,rfl,rfl,e2,⟨by omega,by simp⟩,?_⟩));show WS _ _ (μ2.set l (.lst [.fz (ns.map .int),.bl b,.int ((k+1:Nat):Int),.int (r' / s)])) _ _ _ _;refine zqb (zo (zh rfl (zh rfl (zpk h0 ?_))));exact q _ _ (Int.emod_nonneg _ (by omega)) (xQ _ h0) (k2.trans (KB.refl.set (.inl (by simp)))) (by simp[l2]) ⟨b,k+1,r' / s,by omega,zR e2⟩
  refine zu (zkf (zL (zo (zo (zh rfl (w_c (zpk (by omega) (w_c (znh ⟨_,rfl,λhz=>?_,λhz=>zjb (last r)⟩)))))))));refine zu (zab (w_c ?_));refine zkf (zL (zo (zo (zo (zh rfl (w_c (zqr (by omega) (by omega) (w_c (zDf (zw (zj (zh rfl (zy (zbc rfl (zzk ⟨_,rfl,λh2=>?_,λh2=>zjb (last 0)⟩)))))))))))))));have h2:=of_decide_eq_true h2;obtain⟨d,hm,_,ha⟩:=z7s (ds:=ns.map .int) (i:=((k:Nat):Int) / 60+1) (by omega) h2;obtain⟨v,_,rfl⟩:=List.mem_map.mp hm;exact zab (zo (zh rfl (zo (zo (zh rfl (w_c (zqr (by omega) (by omega) (w_c (zDf (zPb rfl ha (last v)))))))))))
end
abbrev tn(ns:List Nat):D:=.tup (nat ns)
abbrev wn(R:List Nat)(K:List (List Nat)):D:=.tup [tn R,.tup (K.map tn)]
structure Wb(L:Nat)(R:List Nat)(K:List (List Nat)):Prop where
 rl:1<=R.length/\R.length<=10
 kl:K.length<=L
 kn:∀k∈K,(2<=k.length/\k.length<=3)/\∀h∈k,h<R.length
def Wb.key(w:Wb L R K){k:Nat}(h:k<K.length):(2<=(K.getD k []).length/\(K.getD k []).length<=3)/\∀x∈K.getD k [],x<R.length:=by
 have:K.getD k []=K[k]:=by simp[h]
 rw[this];exact w.kn _ (getElem_mem h)
def zvd(q:Q (tn R) μ):W2 gIx (wn R K) (.int 0) μ Q:=zPb rfl (show atI [tn R,.tup (K.map tn)] 0=some (tn R) from rfl) q
def zAc(q:Q (.tup (K.map tn)) μ):W2 gIx (wn R K) (.int 1) μ Q:=zPb rfl (show atI [tn R,.tup (K.map tn)] 1=some (.tup (K.map tn)) from rfl) q
def z6o(h:k<K.length)(q:Q (tn (K.getD k [])) μ):W2 gIx (.tup (K.map tn)) (.int k) μ Q :=
 zPb rfl (zyc (v:=tn (K.getD k [])) (by simp[h])) q
def zFv(h:k<R.length)(q:Q (.int (R.getD k 0:Nat)) μ):W2 gIx (tn R) (.int k) μ Q:=zPb rfl (zNh h) q
structure Td(R:List Nat)(K:List (List Nat))(lay:List (Option Nat)):Prop where
 len:lay.length=K.length
 home:∀k h,lay[k]?=some (some h)->h∈K.getD k []
 room:∀h,lay.count (some h)<=R.getD h 0
def z9i(K:List (List Nat))(S:List Nat):List Nat:=S.flatMap λk=>K.getD k []
def zHd(n:Nat)(K:List (List Nat))(S:List Nat):List Nat:=(yh n).filter λh=>decide (∃k∈S,h∈K.getD k [])
def zvo(R:List Nat)(N:List Nat):Nat:=(N.map λh=>R.getD h 0).sum
def zCe(w:Wb L R K)(h:Nat):h∈zHd R.length K S↔∃k∈S,h∈K.getD k []:=by
 unfold zHd;rw[mem_filter,mem_range,decide_eq_true_iff];constructor
 ·exact λq=>q.2
 ·rintro⟨k,hk,hh⟩;refine⟨?_,k,hk,hh⟩;rw[getD_eq_getElem?_getD]at hh
  cases e:K[k]? with
  |none=>rw[e]at hh;simp at hh
  |some x=>rw[e]at hh;exact(w.kn x (mem_of_getElem? e)).2 h hh
def z9r :∀h∈zHd n K S,h<n:=λh hh=>by
 have:=(List.mem_filter.mp hh).1;simpa using this
def zzr(n:Nat)(K:List (List Nat))(S:List Nat):(zHd n K S).Pairwise (· < ·):=List.pairwise_lt_range.filter _
def zZl(n:Nat)(K:List (List Nat))(S:List Nat):(zHd n K S).length<=n:=by
 unfold zHd;refine yB (length_filter_le _ _) ?_;simp
def zXi{L:Nat}{R:List Nat}{K:List (List Nat)}(w:Wb L R K):∀S:List Nat,(z9i K S).length<=3*S.length
 |[]=>by simp[z9i]
 |k::S=>by
  have ih:=zXi w S
  have h1:(K.getD k []).length<=3:=by
   rw[getD_eq_getElem?_getD]
   cases e:K[k]? with
   |none=>simp
   |some x=>exact(w.kn x (mem_of_getElem? e)).1.2
  unfold z9i at ih ⊢;rw[List.flatMap_cons,length_append,length_cons];omega
def zVc(R:List Nat)(K:List (List Nat))(S:List Nat):Bool:=decide (zvo R (zHd R.length K S)<S.length)
def z4o(w:Wb L R K)(hn:μ[n]?=some (.lst (nat S)))(hS:∀k∈S,k<K.length)(hl:S.length<=1000)
 (q:∀(l:Nat)(μ':Mem),tq μ μ'->μ.length<=l->μ'[l]?=some (.lst (nat (zHd R.length K S)))->Q (.loc l) μ'):WF zIe [wn R K,.loc n] μ Q:=by
 refine zDb rfl ?_;show WS zKe [some (wn R K),some (.loc n),none,none] μ _ _ _ _;unfold zKe
 repeat walk_at "w"
 have hnl:=zJ hn;refine zMd (zh rfl (.inr (.inr ⟨n,_,rfl,zI hn,?_⟩)));refine zzb (λm J μ'=>∃a:Option D,J=[some (wn R K),some (.loc n),some (.loc μ.length),a]/\tq μ μ'/\μ'[μ.length]?=some (.lst (nat (z9i K (S.take m))))) ⟨none,rfl,.app,by simp[z9i]⟩ (λm J μ' ⟨a,_,k,_⟩=>zW hn k) ?_ ?_
 ·rintro m x J μ1 hx ⟨a,rfl,k,hg⟩;rw[yj]at hx
  cases hy:S[m]? with
  |none=>rw[hy]at hx;cases hx
  |some kk=>
   rw[hy]at hx;cases hx;have hkk:=hS kk (mem_of_getElem? hy)
   walk_at "w"
   unfold zTg
   repeat walk_at "w"
   refine⟨μ.length,_,rfl,hg,?_⟩
   repeat walk_at "w"
   refine zAc ?_
   repeat walk_at "w"
   refine z6o hkk ?_
   repeat walk_at "w"
   have hfl:=zXi w (S.take m);have hks:=(w.key hkk).1;have htl:(S.take m).length<=1000:=yB (by simp;omega) hl;refine zRu hg (by simp only[length_map];omega) ?_;refine⟨_,rfl,λi o e=>zT (k i o e) (yV (zJ e)),?_⟩;rw[zR hg];have ht:S.take (m+1)=S.take m++[kk]:=by rw[take_succ,hy];rfl
   have e2:z9i K (S.take (m+1))=z9i K (S.take m)++K.getD kk []:=by
    unfold z9i;rw[ht,List.flatMap_append];simp
   rw[e2,z2b]
 ·rintro J μ1 ⟨a,rfl,k,hg⟩;rw[length_map,take_length]at hg
  have hmem:∀i:Int,i∈(zHd R.length K S).map (λ(k:Nat)=>(k:Int))↔i∈(z9i K S).map (λ(k:Nat)=>(k:Int)):=λi=>by
   simp only[mem_map];constructor
   ·rintro⟨h,hh,rfl⟩;obtain⟨k,hk,hh⟩:=(zCe w h).mp hh;exact⟨h,List.mem_flatMap.mpr ⟨k,hk,hh⟩,rfl⟩
   ·rintro⟨h,hh,rfl⟩;obtain⟨k,hk,hh⟩:=List.mem_flatMap.mp hh;exact⟨h,(zCe w h).mpr ⟨k,hk,hh⟩,rfl⟩
  have hpw:((zHd R.length K S).map (λ(k:Nat)=>(k:Int))).Pairwise (· < ·):=by
   rw[pairwise_map];exact(zzr R.length K S).imp λh=>by omega
  have hp:=zFk hmem hpw;have hsort:=zCn hmem hpw;have hfl:=zXi w S;have hrl:=w.rl;have hnl2:=zZl R.length K S;refine zqb (z2s (zh rfl ⟨_,(z9i K S).map (λ(k:Nat)=>(k:Int)),rfl,by rw[hg,map_map];rfl,by rw[length_map];omega,by rw[hp.length_eq,length_map];omega,?_⟩));rw[hsort,map_map];exact q _ _ k.to k.len zB
def zXp(hn:μ[n]?=some (.lst (nat S)))(hS:∀k∈S,k<R.length)(hl:S.length<=1000)
 (q:∀(μ':Mem),tq μ μ'->Q (.int (zvo R S:Nat)) μ'):WF z0f [wn R K,.loc n] μ Q:=by
 refine zDb rfl ?_;show WS zBf [some (wn R K),some (.loc n)] μ _ _ _ _;unfold zBf
 repeat walk_at "w"
 refine zMd (zh rfl (.inr (.inr ⟨n,_,rfl,hn,zfc (by simp;omega),?_⟩)));refine zZf (λ(k:Nat)=>D.int k) S (λk =>.int (R.getD k 0:Nat)) (λμ' k=>zW hn k) (λk hk μ' kp=>?_) (λμ' kp=>?_)
 ·have hkk:=hS k hk
  walk_at "w"
  unfold zCi
  repeat walk_at "w"
  refine zvd ?_
  repeat walk_at "w"
  exact zFv hkk ⟨rfl,kp,kp⟩
 ·repeat walk_at "w"
  refine zNs (S:=S.map λk=>R.getD k 0) (by rw[zB,zUk]) ?_;exact q _ kp.to
def zLj(w:Wb L R K)(hn:μ[n]?=some (.lst (nat S)))(hS:∀k∈S,k<K.length)(hl:S.length<=1000)
 (q:∀μ',tq μ μ'->Q (.bl (zVc R K S)) μ'):WF zLc [wn R K,.loc n] μ Q:=by
 refine zDb rfl ?_;show WS z1e [some (wn R K),some (.loc n)] μ _ _ _ _;unfold z1e
 repeat walk_at "w"
 refine z4o w hn hS hl λl μ1 k1 hl1 g1=>?_
 repeat walk_at "w"
 have hnl:=zZl R.length K S;have hrl:=w.rl;refine zXp g1 z9r (by omega) λμ2 k2=>?_
 repeat walk_at "w"
 refine zbc (zt (k2 _ _ (k1 _ _ hn))) ?_
 repeat walk_at "w"
 have:=q μ2 (k1.trans k2);unfold zVc at this;simp only[length_map,Int.ofNat_lt];exact this
def z8m(lay:List (Option Nat))(a:Option Nat):lay.count a=((yh lay.length).filter λk=>decide (lay.getD k none=a)).length:=by
 have e:lay=(yh lay.length).map λk=>lay.getD k none:=by
  refine ext_getElem? λi=>?_
  by_cases h:i<lay.length
  ·simp[h]
  ·simp[h]
 conv=>lhs;rw[e]
 rw[List.count,countP_map,xT]
 congr 1
 refine filter_congr λk _=>?_;simp only[YG];exact Bool.beq_eq_decide_eq _ _
def lyN(lay:List (Option Nat))(N:List Nat):List Nat:=(yh lay.length).filter λk=>decide (∃h∈N,lay.getD k none=some h)
def sA{N:List Nat}:k∈lyN lay N↔∃h∈N,lay.getD k none=some h:=by
 unfold lyN;rw[mem_filter,mem_range,decide_eq_true_iff];constructor
 ·exact λq=>q.2
 ·rintro⟨h,hh,e⟩;refine⟨?_,h,hh,e⟩;refine Nat.lt_of_not_le λhle=>?_;rw[getD_eq_getElem?_getD,Ym hle]at e;cases e
def ziv(lay:List (Option Nat))(N:List Nat):(lyN lay N).Nodup:=List.nodup_range.sublist filter_sublist
def zIf{α:Type}(p q:α->Bool)(h:∀x,p x=true->q x=false):∀l:List α,(l.filter λx=>p x||q x).length=(l.filter p).length+(l.filter q).length
 |[]=>rfl
 |x::l=>by
  have ih:=zIf p q h l
  cases hp:p x with
  |true=>simp[List.filter_cons,hp,h x hp,ih];omega
  |false=>
   cases hq:q x with
   |true=>simp[List.filter_cons,hp,hq,ih];omega
   |false=>simp[List.filter_cons,hp,hq,ih]
def zln{lay:List (Option Nat)}:∀{N:List Nat},N.Nodup->(lyN lay N).length=(N.map λh=>lay.count (some h)).sum
 |[],_=>by simp[lyN]
 |h::N,nd=>by
  obtain⟨h1,h2⟩:=List.nodup_cons.mp nd;rw[map_cons,sum_cons,<-zln h2,z8m]
  have:=zIf (λk=>decide (lay.getD k none=some h)) (λk=>decide (∃g∈N,lay.getD k none=some g)) (λk hk=>by
   have hk:=of_decide_eq_true hk;refine decide_eq_false ?_;rintro⟨g,hg,e⟩;rw[hk]at e;cases e;exact h1 hg) (yh lay.length)
  rw[show lyN lay N=(yh lay.length).filter λk=>decide (∃g∈N,lay.getD k none=some g) from rfl,<-this];unfold lyN
  congr 1
  refine filter_congr λk _=>?_;rw[<-Bool.decide_or];refine decide_eq_decide.mpr ?_;simp only[mem_cons];constructor
  ·rintro⟨g,rfl|hg,e⟩
   ·exact .inl e
   ·exact .inr ⟨g,hg,e⟩
  ·rintro(e|⟨g,hg,e⟩)
   ·exact⟨h,.inl rfl,e⟩
   ·exact⟨g,.inr hg,e⟩
def zEq{α:Type}{f g:α->Nat}:∀{l:List α},(∀x∈l,f x<=g x)->(l.map f).sum<=(l.map g).sum
 |[],_=>yi _
 |x::l,h=>by
  rw[map_cons,map_cons,sum_cons,sum_cons];have h1:=h x mem_cons_self;have h2:=zEq (l:=l) λy hy=>h y (mem_cons_of_mem _ hy);omega
def z1b{α:Type}[DecidableEq α]:∀{l m:List α},l.Nodup->(∀x∈l,x∈m)->l.length<=m.length
 |[],_,_,_=>Yl _
 |x::l,m,nd,h=>by
  obtain⟨h1,h2⟩:=List.nodup_cons.mp nd;have hx:=h x mem_cons_self;have ih:=z1b (l:=l) (m:=m.erase x) h2 λy hy=>(List.mem_erase_of_ne (by rintro rfl;exact h1 hy)).mpr (h y (mem_cons_of_mem _ hy));rw[List.length_erase_of_mem hx]at ih;have:=List.length_pos_of_mem hx;rw[length_cons];omega
def zbr(w:Wb L R K)(r:Td R K lay)(hd:T.Nodup)(hT:∀k∈T,k<K.length)(hall:∀k∈T,(lay.getD k none).isSome=true):zVc R K T=false:=by
 refine decide_eq_false ?_;have hN:(zHd R.length K T).Nodup:=List.nodup_range.sublist filter_sublist
 have h1:T.length<=(lyN lay (zHd R.length K T)).length:=z1b hd λk hk=>by
  rw[sA];have hs:=hall k hk
  cases e:lay.getD k none with
  |none=>rw[e]at hs;cases hs
  |some h=>
   refine⟨h,?_,rfl⟩;rw[zCe w];refine⟨k,hk,r.home k h ?_⟩;have hkl:k<lay.length:=by rw[r.len];exact hT k hk
   simp[hkl]at e;simp[hkl,e]
 rw[zln hN]at h1;have h2:((zHd R.length K T).map λh=>lay.count (some h)).sum<=zvo R (zHd R.length K T):=zEq λh _=>r.room h;omega
structure Ts(R:List Nat)(K:List (List Nat))(lay:List (Option Nat))(C:List Nat):Prop where
 keys:∀k∈C,k<K.length
 full:∀k∈C,∀h∈K.getD k [],R.getD h 0<=lay.count (some h)
 lies:∀k∈C,∀h∈K.getD k [],∀o,lay.getD o none=some h->o∈C
def Ts.nil:Ts R K lay []:=⟨by simp,by simp,by simp⟩
def Ts.app{E:List Nat}(a:Ts R K lay C)(b:Ts R K lay E):Ts R K lay (C++E):=by
 refine⟨λk hk=>?_,λk hk=>?_,λk hk h hh o e=>?_⟩
 ·rcases List.mem_append.mp hk with hk|hk
  ·exact a.keys k hk
  ·exact b.keys k hk
 ·rcases List.mem_append.mp hk with hk|hk
  ·exact a.full k hk
  ·exact b.full k hk
 ·rcases List.mem_append.mp hk with hk|hk
  ·exact mem_append_left _ (a.lies k hk h hh o e)
  ·exact mem_append_right _ (b.lies k hk h hh o e)
def Ts.congr{E:List Nat}(a:Ts R K lay C)(h:∀k,k∈E↔k∈C):Ts R K lay E :=
 ⟨λk hk=>a.keys k ((h k).mp hk),λk hk=>a.full k ((h k).mp hk),λk hk g hg o e=>(h o).mpr (a.lies k ((h k).mp hk) g hg o e)⟩
def zLo(w:Wb L R K)(s:Ts R K lay C)(hl:lay.length=K.length){k0:Nat}(hk0:k0∈C)(hn:lay.getD k0 none=none):zVc R K C=true:=by
 refine decide_eq_true ?_;have hN:(zHd R.length K C).Nodup:=List.nodup_range.sublist filter_sublist
 have h1:zvo R (zHd R.length K C)<=((zHd R.length K C).map λh=>lay.count (some h)).sum:=zEq λh hh=>by
  obtain⟨k,hk,hm⟩:=(zCe w h).mp hh;exact s.full k hk h hm
 rw[<-zln hN]at h1
 have h2:(k0::lyN lay (zHd R.length K C)).length<=C.length:=z1b (List.nodup_cons.mpr ⟨λhm=>(by
  obtain⟨h,_,e⟩:=sA.mp hm;rw[hn]at e;cases e),ziv _ _⟩) λx hx=>by
  rcases List.mem_cons.mp hx with rfl|hx
  ·exact hk0
  ·obtain⟨h,hh,e⟩:=sA.mp hx;obtain⟨k,hk,hm⟩:=(zCe w h).mp hh;exact s.lies k hk h hm x e
 rw[length_cons]at h2;omega
structure Tf(K:List (List Nat))(lay:List (Option Nat))(key:Nat)(row:List (Nat×Nat)):Prop where
 first:∃h r,row=(key,h)::r
 mem:∀p∈row,p.1<K.length/\p.2∈K.getD p.1 []/\lay.getD p.1 none≠some p.2
 link:∀i p q,row[i]?=some p->row[i+1]?=some q->lay.getD q.1 none=some p.2
 nd:(row.map (·.1)).Nodup
def zod(lay:List (Option Nat))(row:List (Nat×Nat)):List (Option Nat):=row.foldl (λl p=>l.set p.1 (some p.2)) lay
def zKf(row:List (Nat×Nat)):∀lay:List (Option Nat),(zod lay row).length=lay.length:=by
 induction row with
 |nil=>intro lay;rfl
 |cons p row ih=>intro lay;show(zod (lay.set p.1 (some p.2)) row).length=_;rw[ih];simp
def zSj(lay:List (Option Nat))(row:List (Nat×Nat))(p:Nat×Nat):zod lay (row++[p])=(zod lay row).set p.1 (some p.2):=by
 unfold zod;rw[List.foldl_append];rfl
def zFd :∀{lay:List (Option Nat)} {k:Nat},k∉row.map (·.1)->(zod lay row).getD k none=lay.getD k none:=by
 induction row with
 |nil=>intro lay k _;rfl
 |cons p row ih=>
  intro lay k hk;rw[map_cons,mem_cons,not_or]at hk;show(zod (lay.set p.1 (some p.2)) row).getD k none=_;rw[ih hk.2];simp only[getD_eq_getElem?_getD];rw[Yr (yE hk.1)]
def z1j(nd:(row.map (·.1)).Nodup):∀{lay:List (Option Nat)} {p:Nat×Nat},p∈row->p.1<lay.length->(zod lay row).getD p.1 none=some p.2:=by
 induction row with
 |nil=>intro lay p hp;cases hp
 |cons q row ih=>
  intro lay p hp hl;rw[map_cons,nodup_cons]at nd;show(zod (lay.set q.1 (some q.2)) row).getD p.1 none=_;rcases List.mem_cons.mp hp with rfl|hp
  ·rw[zFd nd.1];simp[hl]
  ·exact ih nd.2 hp (by simpa using hl)
def zql{a b:Option Nat}(hk:k<lay.length)(ha:lay.getD k none=a)(x:Option Nat):(lay.set k b).count x+(if a=x then 1 else 0)=lay.count x+(if b=x then 1 else 0):=by
 have e1:lay=lay.take k++a::lay.drop (k+1):=by
  have:lay[k]=a:=by simpa[hk] using ha
  rw[<-this,List.getElem_cons_drop,take_append_drop]
 have e2:lay.set k b=lay.take k++b::lay.drop (k+1):=by rw[List.set_eq_take_append_cons_drop,if_pos hk]
 rw[e2]
 conv=>rhs;rw[e1]
 rw[count_append,count_append,count_cons,count_cons];simp only[beq_iff_eq]
 split<;>split<;>omega
def zki{key:Nat}(r:Tf K lay key row)(hl:lay.length=K.length)(hkey:lay.getD key none=none):∀i,i<row.length->∀h:Nat,(zod lay (row.take (i+1))).count (some h)=lay.count (some h)+(if(row.getD i (0,0)).2=h then 1 else 0):=by
 intro i
 induction i with
 |zero=>
  intro hi h;obtain⟨h0,r0,e⟩:=r.first
  have hm:=r.mem (key,h0) (by rw[e];simp);subst e;have:=zql (lay:=lay) (k:=key) (b:=some h0) (by rw[hl];exact hm.1) hkey (some h);show(lay.set key (some h0)).count (some h)=_;simpa using this
 |succ i ih=>
  intro hi h;have ih:=ih (by omega) h;have hp:row[i]?=some row[i]:=by simp[show i<row.length by omega]
  have hq:row[i+1]?=some row[i+1]:=by simp[hi]
  have hlink:=r.link i _ _ hp hq;have hm:=r.mem row[i+1] (getElem_mem hi);have et:row.take (i+1+1)=row.take (i+1)++[row[i+1]]:=by simp
  have hnot:(row[i+1]).1∉(row.take (i+1)).map (·.1):=by
   intro hmem;have nd:=r.nd;rw[<-take_append_drop (i+1) row,map_append,nodup_append]at nd;refine nd.2.2 _ hmem _ ?_ rfl;refine List.mem_map.mpr ⟨row[i+1],?_,rfl⟩;rw[drop_eq_getElem_cons hi];exact mem_cons_self
  have hcur:(zod lay (row.take (i+1))).getD (row[i+1]).1 none=some (row[i]).2:=by rw[zFd hnot];exact hlink
  rw[et,zSj];have:=zql (lay:=zod lay (row.take (i+1))) (k:=(row[i+1]).1) (b:=some (row[i+1]).2) (by rw[zKf,hl];exact hm.1) hcur (some h);have e1:row.getD i (0,0)=row[i]:=by simp[show i<row.length by omega]
  have e2:row.getD (i+1) (0,0)=row[i+1]:=by simp[hi]
  rw[e1]at ih;rw[e2];simp only[Option.some.injEq]at this;omega
def zti{key:Nat}(rt:Td R K lay)(r:Tf K lay key row)(hkey:lay.getD key none=none)(hroom:lay.count (some (row.getD (row.length-1) (0,0)).2)<R.getD (row.getD (row.length-1) (0,0)).2 0):Td R K (zod lay row):=by
 have hpos:0<row.length:=by
  obtain⟨h,q,e⟩:=r.first
  rw[e];simp
 refine⟨by rw[zKf];exact rt.len,λk h e=>?_,λh=>?_⟩
 ·have e':(zod lay row).getD k none=some h:=by rw[getD_eq_getElem?_getD,e];rfl
  by_cases hk:k∈row.map (·.1)
  ·obtain⟨p,hp,rfl⟩:=List.mem_map.mp hk;have hm:=r.mem p hp;rw[z1j r.nd hp (by rw[rt.len];exact hm.1)]at e';cases e';exact hm.2.1
  ·rw[zFd hk]at e';refine rt.home k h ?_;rw[getD_eq_getElem?_getD]at e'
   cases q:lay[k]? with
   |none=>rw[q]at e';cases e'
   |some z=>rw[q]at e';exact congrArg some e'
 ·have:=zki r rt.len hkey (row.length-1) (by omega) h;rw[show row.length-1+1=row.length by omega,take_length]at this;rw[this];have hr:=rt.room h
  split
  ·rename_i e
   rw[e]at hroom;omega
  ·omega
def zEt{key:Nat}(s:Ts R K lay C)(r:Tf K lay key row)(hroom:lay.count (some (row.getD (row.length-1) (0,0)).2)<R.getD (row.getD (row.length-1) (0,0)).2 0) :
 ∀p∈row,∀k∈C,p.2∉K.getD k []:=by
 have key1:∀(j i:Nat),i+j+1=row.length->∀k∈C,(row.getD i (0,0)).2∉K.getD k []:=by
  intro j
  induction j with
  |zero=>
   intro i hi k hk hm;have:=s.full k hk _ hm;rw[show row.length-1=i by omega]at hroom;omega
  |succ j ih=>
   intro i hi k hk hm;have hp:row[i]?=some row[i]:=by simp[show i<row.length by omega]
   have hq:row[i+1]?=some row[i+1]:=by simp[show i+1<row.length by omega]
   have e1:row.getD i (0,0)=row[i]:=by simp[show i<row.length by omega]
   have e2:row.getD (i+1) (0,0)=row[i+1]:=by simp[show i+1<row.length by omega]
   rw[e1]at hm;have hin:=s.lies k hk _ hm _ (r.link i _ _ hp hq);refine ih (i+1) (by omega) _ hin ?_;rw[e2];exact(r.mem _ (getElem_mem _)).2.1
 intro p hp k hk;obtain⟨i,hi,rfl⟩:=List.mem_iff_getElem.mp hp;have:=key1 (row.length-1-i) i (by omega) k hk
 rwa [show row.getD i (0,0)=row[i] by simp[hi]]at this
def Ts.push{key:Nat}(s:Ts R K lay C)(rt:Td R K lay)(r:Tf K lay key row)(hkey:lay.getD key none=none)
 (hroom:lay.count (some (row.getD (row.length-1) (0,0)).2)<R.getD (row.getD (row.length-1) (0,0)).2 0):Ts R K (zod lay row) C:=by
 have hpos:0<row.length:=by
  obtain⟨h,q,e⟩:=r.first
  rw[e];simp
 have hout:=zEt s r hroom;refine⟨s.keys,λk hk h hh=>?_,λk hk h hh o e=>?_⟩
 ·have:=zki r rt.len hkey (row.length-1) (by omega) h;rw[show row.length-1+1=row.length by omega,take_length]at this;have h1:=s.full k hk h hh;omega
 ·by_cases ho:o∈row.map (·.1)
  ·obtain⟨p,hp,rfl⟩:=List.mem_map.mp ho;rw[z1j r.nd hp (by rw[rt.len];exact(r.mem p hp).1)]at e;cases e;exact absurd hh (hout p hp k hk)
  ·rw[zFd ho]at e;exact s.lies k hk h hh o e
def zGj(lay:List (Option Nat))(h:Nat):List Nat:=(yh lay.length).filter λk=>decide (lay.getD k none=some h)
def zit(R:List Nat)(lay:List (Option Nat)):List Int:=(yh R.length).map λh=>(R.getD h 0:Int)-(lay.count (some h):Nat)
def zHr(hn:μ[n]?=some (.lst (lay.map onD)))(hl:lay.length<=1000)(q:∀(l:Nat)(μ':Mem),tq μ μ'->μ.length<=l->μ'[l]?=some (.lst (nat (zGj lay h)))->Q (.loc l) μ'):WF zak [.loc n,.int h] μ Q:=by
 refine zDb rfl ?_;show WS ztk [some (.loc n),some (.int h)] μ _ _ _ _;unfold ztk
 repeat walk_at "w"
 refine z7f (zh rfl (.inr (.inr ⟨n,_,rfl,hn,zfc (by rw[zuc,length_map];omega),?_⟩)));rw[zSb onD lay none];refine zZd (λ(k:Nat) =>.tup [.int k,onD (lay.getD k none)]) (yh lay.length) (λ(k:Nat)=>D.int k) (λk=>decide (lay.getD k none=some h)) (λμ' k=>zW hn k) (λk hk μ' kp=>?_) (λμ' kp=>?_)
 ·repeat walk_at "w"
  refine zVo (α:=Option Nat) (lay.getD k none) (some h) ?_
  repeat walk_at "w"
  refine⟨rfl,kp,λ_=>?_⟩;unfold zam;exact zh rfl ⟨rfl,kp⟩
 ·exact q _ _ kp.to kp.len zB
def zjt(w:Wb L R K)(hn:μ[n]?=some (.lst (lay.map onD)))(q:∀(l:Nat)(μ':Mem),tq μ μ'->μ.length<=l->μ'[l]?=some (.lst ((zit R lay).map .int))->Q (.loc l) μ'):WF z0h [wn R K,.loc n] μ Q:=by
 have hrl:=w.rl;refine zDb rfl ?_;show WS zoj [some (wn R K),some (.loc n)] μ _ _ _ _;unfold zoj
 repeat walk_at "w"
 refine z7f ?_
 repeat walk_at "w"
 refine zvd (.inl ⟨_,rfl,zfc (by rw[zuc,length_map];omega),?_⟩);rw[zSb (λ(k:Nat)=>D.int k) R 0];refine zZf (λ(k:Nat) =>.tup [.int k,.int (R.getD k 0:Nat)]) (yh R.length) (λ(k:Nat)=>D.int ((R.getD k 0:Int)-(lay.count (some k):Nat))) (λ_ _=>rfl) (λk hk μ' kp=>?_) (λμ' kp=>?_)
 ·repeat walk_at "w"
  refine⟨_,_,rfl,kp _ _ hn,?_⟩
  repeat walk_at "w"
  refine ztq (kp _ _ hn) ?_
  repeat walk_at "w"
  exact⟨rfl,kp,kp⟩
 ·refine q _ _ kp.to kp.len ?_;rw[zB];unfold zit;rw[map_map];rfl
def zuk(K:List (List Nat))(ds:List D)(k:Nat):Bool:=!zmw (ds.getD k .non) && !((nat (K.getD k [])).any λy=>eqF y (ds.getD k .non))
def zIq(R:List Nat)(ds:List D)(h:Nat):Bool:=decide ((R.getD h 0:Nat)<(zgt ds h:Int))
def z0j(R:List Nat)(K:List (List Nat))(ds:List D):D:=match(yh K.length).find? (zuk K ds) with
 |some k =>.tup [.str "home",.int k]
 |none=>match(yh R.length).find? (zIq R ds) with
  |some h =>.tup [.str "room",.int h]
  |none =>.non
def z7r(w:Wb L R K)(hf:ds.all zec=true)(hn:μ[n]?=some (.lst ds))(q:∀(l:Nat)(μ':Mem),tq μ μ'->μ.length<=l->μ'[l]?=some (.lst (((yh R.length).map λh=>(R.getD h 0:Int)-(zgt ds h:Nat)).map .int))->Q (.loc l) μ'):WF z0h [wn R K,.loc n] μ Q:=by
 have hrl:=w.rl;refine zDb rfl ?_;show WS zoj [some (wn R K),some (.loc n)] μ _ _ _ _;unfold zoj
 repeat walk_at "w"
 refine z7f ?_
 repeat walk_at "w"
 refine zvd (.inl ⟨_,rfl,zfc (by rw[zuc,length_map];omega),?_⟩);rw[zSb (λ(k:Nat)=>D.int k) R 0];refine zZf (λ(k:Nat) =>.tup [.int k,.int (R.getD k 0:Nat)]) (yh R.length) (λ(k:Nat)=>D.int ((R.getD k 0:Int)-(zgt ds k:Nat))) (λ_ _=>rfl) (λk hk μ' kp=>?_) (λμ' kp=>?_)
 ·repeat walk_at "w"
  refine⟨_,_,rfl,kp _ _ hn,?_⟩
  repeat walk_at "w"
  refine zCp (kp _ _ hn) rfl hf ?_
  repeat walk_at "w"
  exact⟨rfl,kp,kp⟩
 ·refine q _ _ kp.to kp.len ?_;rw[zB,map_map];rfl
def zYr(hf:ds.all zec=true){k:Nat}{d:D}(h:ds[k]?=some d):zec d=true:=List.all_eq_true.mp hf d (mem_of_getElem? h)
def zsr(w:Wb L R K)(hf:ds.all zec=true)(hl:ds.length=K.length)(hn:μ[n]?=some (.lst ds))(q:∀(μ':Mem),tq μ μ'->Q (z0j R K ds) μ'):WF zHk [wn R K,.loc n] μ Q:=by
 have hrl:=w.rl;refine zDb rfl ?_;show WS zqk [some (wn R K),some (.loc n),none,none,none] μ _ _ _ _;unfold zqk;refine zu (zhe (z7f (zh rfl (.inr (.inr ⟨n,_,rfl,hn,?_⟩)))));refine zzb (λm J μ'=>∃a b:Option D,J=[some (wn R K),some (.loc n),a,b,none]/\μ'=μ/\∀j<m,zuk K ds j=false) ⟨_,_,rfl,rfl,by simp⟩ (λm J μ' h=>by obtain⟨_,_,_,rfl,_⟩:=h;exact zW hn .refl) ?_ ?_
 ·rintro m x J μ' hx ⟨a,b,rfl,rfl,hb⟩;obtain⟨y,hy,rfl⟩:=zgk hx;have hm:m<ds.length:=(List.getElem?_eq_some_iff.mp hy).1;have hfy:=zYr hf hy;have hgy:ds.getD m .non=y:=by rw[getD_eq_getElem?_getD,hy];rfl
  have hgo:zuk K ds m=false->∀j<m+1,zuk K ds j=false:=λh j hj=>by
   by_cases e:j=m
   ·subst e;exact h
   ·exact hb j (by omega)
  repeat walk_at "w"
  refine zwh hfy ?_
  repeat walk_at "w"
  refine⟨λh1=>?_,λh1=>⟨λhc=>(by cases hc),λ_=>?_⟩⟩
  ·repeat walk_at "w"
   refine zAc ?_
   repeat walk_at "w"
   refine z6o (by omega) ?_;refine zXh rfl hfy (zlk _) ?_
   repeat walk_at "w"
   refine⟨λh2=>?_,λh2=>?_⟩
   ·repeat walk_at "w"
    have hh:zuk K ds m=true:=by
     unfold zuk;rw[hgy,h1,h2];rfl
    have:=q μ' .refl;unfold z0j at this;rw[zQj hh (by omega) hb]at this;exact this
   ·repeat walk_at "w"
    refine⟨_,_,rfl,rfl,hgo ?_⟩;unfold zuk;rw[hgy,h2,Bool.and_false]
  ·repeat walk_at "w"
   refine⟨_,_,rfl,rfl,hgo ?_⟩;unfold zuk;rw[hgy,h1,Bool.false_and]
 ·rintro J μ' ⟨a,b,rfl,rfl,hb⟩;rw[zuc,hl]at hb;refine zu (zhe (z7f (zw (zj (zh rfl (zj (zh rfl (zy ?_))))))));refine z7r w hf hn λl μ1 k1 hl1 g1 =>.inr (.inr ⟨l,_,rfl,g1,?_⟩);rw[zSb D.int _ 0];refine zzb (λm J μ'=>∃a b c:Option D,J=[some (wn R K),some (.loc n),a,b,c]/\μ'=μ1/\∀j<m,zIq R ds j=false) ⟨_,_,_,rfl,rfl,by simp⟩ (λm J μ' h=>by obtain⟨_,_,_,_,rfl,_⟩:=h;exact zW g1 .refl) ?_ ?_
  ·rintro m x J μ2 hx ⟨a,b,c,rfl,rfl,hr⟩
   have hm:m<R.length:=by
    have:=(List.getElem?_eq_some_iff.mp hx).1;simpa using this
   have ex:x=.tup [.int m,.int ((R.getD m 0:Int)-(zgt ds m:Nat))]:=by
    rw[yj]at hx;simp[hm]at hx;rw[<-hx];simp[hm]
   subst ex
   repeat walk_at "w"
   have hdec:decide ((R.getD m 0:Int)-(zgt ds m:Nat)<0)=zIq R ds m:=by
    unfold zIq;exact decide_eq_decide.mpr (by omega)
   rw[hdec];refine⟨λh1=>?_,λh1=>?_⟩
   ·repeat walk_at "w"
    have:=q μ2 k1;unfold z0j at this;rw[zpe hb,zQj h1 hm hr]at this;exact this
   ·repeat walk_at "w"
    refine⟨_,_,_,rfl,rfl,λj hj=>?_⟩
    by_cases e:j=m
    ·subst e;exact h1
    ·exact hr j (by omega)
  ·rintro J μ2 ⟨a,b,c,rfl,rfl,hr⟩;simp only[length_map,length_range]at hr
   repeat walk_at "w"
   have:=q μ2 k1;unfold z0j at this;rw[zpe hb,zpe hr]at this;exact this
abbrev PT:=List (Nat×Nat×Option Nat)
def dkP(P:PT):List (Int×D):=P.map λp=>((p.1:Int),.tup [.int (p.2.1:Nat),onD p.2.2])
def z9n(P:PT):zui (dkP P)=nat (P.map (·.1)):=by
 unfold zui dkP;rw[map_map,zUk];rfl
def zmn(P:PT)(h:Nat):((dkP P).any λp=>decide (p.1=(h:Int)))=decide (h∈P.map (·.1)):=by
 refine zid ?_;unfold dkP;rw[any_map,any_eq_true];simp only[YG,decide_eq_true_iff,mem_map];constructor
 ·rintro⟨p,hp,e⟩;exact⟨p,hp,by omega⟩
 ·rintro⟨p,hp,e⟩;exact⟨p,hp,by omega⟩
def zBi{P:PT}:(zDc (dkP P) (h:Int)).isSome=decide (h∈P.map (·.1)):=by
 rw[<-zmn,xS];unfold zDc;rw[Option.isSome_map,List.find?_isSome,any_eq_true]
def zkt{P:PT}(nd:(P.map (·.1)).Nodup){p:Nat×Nat×Option Nat}(hp:p∈P):zDc (dkP P) (p.1:Int)=some (.tup [.int (p.2.1:Nat),onD p.2.2]):=by
 induction P with
 |nil=>cases hp
 |cons q P ih=>
  rw[map_cons,nodup_cons]at nd
  have e:zDc (dkP (q::P)) (p.1:Int)=if(q.1:Int)=p.1 then some (.tup [.int (q.2.1:Nat),onD q.2.2]) else zDc (dkP P) (p.1:Int):=by
   unfold zDc dkP;rw[map_cons,List.find?_cons]
   by_cases h:(q.1:Int)=p.1
   ·simp[h]
   ·simp[h]
  rw[e];rcases List.mem_cons.mp hp with rfl|hp
  ·rw[if_pos rfl]
  ·rw[if_neg,ih nd.2 hp];intro h;refine nd.1 (List.mem_map.mpr ⟨p,hp,by omega⟩)
def zDp{P:PT}{f:Option Nat}(hn:h∉P.map (·.1)):zlo (dkP P) (h:Int) (.tup [.int k,onD f])=dkP (P++[(h,k,f)]):=by
 unfold zlo;rw[zmn,decide_eq_false hn,if_neg yv];simp[dkP]
def zGu{P:PT}{f:Option Nat}(hn:h∈P.map (·.1))(ha:∀p∈P,p.2=(k,f)):zlo (dkP P) (h:Int) (.tup [.int k,onD f])=dkP P:=by
 unfold zlo;rw[zmn,decide_eq_true hn,if_pos rfl];unfold dkP;rw[map_map];refine map_congr_left λp hp=>?_;simp only[YG]
 split
 ·rw[ha p hp]
 ·rfl
structure Tree(R:List Nat)(K:List (List Nat))(lay:List (Option Nat))(key:Nat)(P:PT):Prop where
 nd:(P.map (·.1)).Nodup
 lt:∀p∈P,p.1<R.length
 ok:∀(i:Nat) p,P[i]?=some p->p.2.1<K.length/\p.1∈K.getD p.2.1 []/\((p.2.2=none/\p.2.1=key)\/∃(j:Nat)(q:Nat×Nat×Option Nat),j<i/\P[j]?=some q/\p.2.2=some q.1/\lay.getD p.2.1 none=some q.1)
def Tree.len{key:Nat}{P:PT}(t:Tree R K lay key P):P.length<=R.length:=by
 have:=z1b t.nd (m:=yh R.length) λx hx=>by
  obtain⟨p,hp,rfl⟩:=List.mem_map.mp hx;simpa using t.lt p hp
 simpa using this
def Tree.add{key:Nat}{P:PT}(t:Tree R K lay key P){h k:Nat}{f:Option Nat}(hn:h∉P.map (·.1))(hr:h<R.length)(hk:k<K.length)(hm:h∈K.getD k [])
 (hf:(f=none/\k=key)\/∃(j:Nat)(q:Nat×Nat×Option Nat),P[j]?=some q/\f=some q.1/\lay.getD k none=some q.1):Tree R K lay key (P++[(h,k,f)]):=by
 refine⟨?_,λp hp=>?_,λi p e=>?_⟩
 ·rw[map_append,nodup_append];refine⟨t.nd,by simp,λa ha b hb=>?_⟩;simp at hb;subst hb;exact λe=>hn (e▸ha)
 ·rcases List.mem_append.mp hp with hp|hp
  ·exact t.lt p hp
  ·rw[List.mem_singleton.mp hp];exact hr
 ·by_cases hi:i<P.length
  ·rw[yu hi]at e;obtain⟨h1,h2,h3⟩:=t.ok i p e;refine⟨h1,h2,?_⟩;rcases h3 with h3|⟨j,q,hj,eq,h4⟩
   ·exact .inl h3
   ·exact .inr ⟨j,q,hj,by rw[yu (by omega)];exact eq,h4⟩
  ·rw[yJ (by omega)]at e
   have hi0:i-P.length=0:=by
    have:=(List.getElem?_eq_some_iff.mp e).1;simp at this;omega
   rw[hi0]at e;have e:(h,k,f)=p:=by simpa using e
   subst e;refine⟨hk,hm,?_⟩;rcases hf with hf|⟨j,q,eq,h4⟩
   ·exact .inl hf
   ·have hj:=(List.getElem?_eq_some_iff.mp eq).1;exact .inr ⟨j,q,by omega,by rw[yu hj];exact eq,h4⟩
def z3p(d l:Nat)(μ ν:Mem):Prop:=∀i o,i≠d->i≠l->μ[i]?=some o->ν[i]?=some o
abbrev JPa(R:List Nat)(K:List (List Nat))(lay:List (Option Nat))(key n d l2 at_ o:Nat)(P0:PT)(ν:Mem):Nat->M.Loc->Mem->Prop:=λm J ν'=>∃(P:PT)(x:Option D),J=[some (wn R K),some (.loc n),some (.int key),some (.loc d),x,some (.loc l2),some (.int at_),some (.int o)]/\(∃E,P=P0++E)/\Tree R K lay key P/\(∀h∈(K.getD o []).take m,h∈P.map (·.1))/\z3p d l2 ν ν'/\ν'[d]?=some (.dct (dkP P))/\ν'[l2]?=some (.lst (nat (P.map (·.1))))
def zls{key d l2 at_ o:Nat}{P0:PT}{q:Nat×Nat×Option Nat}{x4:Option D}{ν:Mem}{nx:M.Loc->Mem->Prop}{rt:D->Mem->Prop}{bk ct:M.Loc->Mem->Prop}(w:Wb L R K)(t:Tree R K lay key P0)(ho:o<K.length)(hq:P0[at_]?=some q)(hlo:lay.getD o none=some q.1)
 (hl2:d<l2) (gd:ν[d]?=some (.dct (dkP P0))) (gl:ν[l2]?=some (.lst (nat (P0.map (·.1)))))
 (k:∀(P:PT)(x:Option D)(ν':Mem),(∃E,P=P0++E)->Tree R K lay key P->(∀h∈K.getD o [],h∈P.map (·.1))->z3p d l2 ν ν'->ν'[d]?=some (.dct (dkP P))->ν'[l2]?=some (.lst (nat (P.map (·.1))))->nx [some (wn R K),some (.loc n),some (.int key),some (.loc d),x,some (.loc l2),some (.int at_),some (.int o)] ν') :
 WS zWd [some (wn R K),some (.loc n),some (.int key),some (.loc d),x4,some (.loc l2),some (.int at_),some (.int o)] ν nx rt bk ct:=by
 unfold zWd;refine zhe (zMd (zo (zo (zh rfl (w_c (zAc (zh rfl (z6o ho (.inl ⟨_,rfl,?_⟩)))))))));refine zzb (JPa R K lay key n d l2 at_ o P0 ν) ⟨P0,_,rfl,⟨[],by simp⟩,t,by simp,λ_ _ _ _ e=>e,gd,gl⟩ (λ_ _ _ _=>rfl) ?_ ?_
 ·rintro m x J ν1 hx ⟨P,y,rfl,⟨E,hE⟩,tP,hm,k1,g1,g2⟩;rw[yj]at hx
  cases hy:(K.getD o [])[m]? with
  |none=>rw[hy]at hx;cases hx
  |some h=>
   rw[hy]at hx;cases hx;have hmem:=mem_of_getElem? hy;have htk:(K.getD o []).take (m+1)=(K.getD o []).take m++[h]:=by rw[take_succ,hy];rfl
   have hpl:=tP.len;have hrl:=w.rl
   have hat:(P.map (·.1))[at_]?=some q.1:=by
    have hlt:=(List.getElem?_eq_some_iff.mp hq).1;rw[hE,map_append,yu (by simpa using hlt),yj,hq];rfl
   refine zwd ?_;unfold zdg;refine zkf (zL (zo (zh rfl (zh rfl (zDn (zZj g1) ⟨_,rfl,λhb=>?_,λhb=>zjb ?_⟩)))))
   ·have hnew:h∉P.map (·.1):=by
     rw[zBi]at hb;simpa using hb
    refine zu (z4j (zwe (zj (zh rfl (zj (zo (zh rfl (zh rfl (zPb (zt g2) (zyc (v:=.int (q.1:Nat)) (by rw[yj,hat];rfl)) (zy ?_))))))))));refine zWq (zh rfl (zh rfl ⟨_,_,_,rfl,rfl,g1,by simp[dkP];omega,?_⟩));rw[show(D.tup [.int (o:Nat),.int (q.1:Nat)])=.tup [.int (o:Nat),onD (some q.1)] from rfl,zDp hnew];have g1':=zR (o':=tE.dct (dkP (P++[(h,o,some q.1)]))) g1;have g2':=zT (o':=tE.dct (dkP (P++[(h,o,some q.1)]))) g2 (by omega:d≠l2);refine zmg (zSi (zh rfl ⟨_,_,rfl,g2',?_⟩));refine zj (zh rfl (zy ?_));refine zCh g2' (by rw[length_map,length_map];omega) ?_
    have hatP:P[at_]?=some q:=by
     have hlt:=(List.getElem?_eq_some_iff.mp hq).1;rw[hE,yu hlt];exact hq
    refine⟨P++[(h,o,some q.1)],_,rfl,⟨E++[(h,o,some q.1)],by rw[hE];simp⟩,tP.add hnew ((w.key ho).2 h hmem) ho hmem (.inr ⟨at_,q,hatP,rfl,hlo⟩),λg hg=>?_,λi o' hi1 hi2 e'=>zT (zT (k1 i o' hi1 hi2 e') (yE hi1)) (yE hi2),zT g1' (by omega),?_⟩
    ·rw[htk]at hg;rw[map_append,mem_append];rcases List.mem_append.mp hg with hg|hg
     ·exact .inl (hm g hg)
     ·rw[List.mem_singleton.mp hg];exact .inr (by simp)
    ·rw[zR g2',map_append,z2b];rfl
   ·have hold:h∈P.map (·.1):=by
     rw[zBi]at hb;simpa using hb
    refine⟨P,_,rfl,⟨E,hE⟩,tP,λg hg=>?_,k1,g1,g2⟩;rw[htk]at hg;rcases List.mem_append.mp hg with hg|hg
    ·exact hm g hg
    ·rw[List.mem_singleton.mp hg];exact hold
 ·rintro J ν1 ⟨P,y,rfl,hE,tP,hm,k1,g1,g2⟩;rw[length_map,take_length]at hm;exact k P y ν1 hE tP hm k1 g1 g2
abbrev JPb(R:List Nat)(K:List (List Nat))(lay:List (Option Nat))(key n:Nat)(μ:Mem):Nat->M.Loc->Mem->Prop:=λm J ν=>∃(P:PT)(x:Option D),J=[some (wn R K),some (.loc n),some (.int key),some (.loc μ.length),x,none,none,none]/\Tree R K lay key P/\(∀p∈P,p.2=(key,none))/\(∀h∈(K.getD key []).take m,h∈P.map (·.1))/\tq μ ν/\ν[μ.length]?=some (.dct (dkP P))
abbrev JPc(R:List Nat)(K:List (List Nat))(lay:List (Option Nat))(key n:Nat)(μ ν1:Mem):Nat->M.Loc->Mem->Prop:=λm J ν=>∃(P:PT)(at_:Nat)(x y:Option D),m=R.length-at_/\at_<=P.length/\J=[some (wn R K),some (.loc n),some (.int key),some (.loc μ.length),x,some (.loc ν1.length),some (.int at_),y]/\Tree R K lay key P/\(∀h∈K.getD key [],h∈P.map (·.1))/\(∀(i:Nat) p,i<at_->P[i]?=some p->∀o,lay.getD o none=some p.1->∀h∈K.getD o [],h∈P.map (·.1))/\tq μ ν/\ν[μ.length]?=some (.dct (dkP P))/\ν[ν1.length]?=some (.lst (nat (P.map (·.1))))
abbrev JPd(R:List Nat)(K:List (List Nat))(lay:List (Option Nat))(key n:Nat)(μ ν1:Mem)(at_:Nat)(P:PT)(q0:Nat×Nat×Option Nat)(l4:Nat):Nat->M.Loc->Mem->Prop:=λj J ν=>∃(P':PT)(x y:Option D),J=[some (wn R K),some (.loc n),some (.int key),some (.loc μ.length),x,some (.loc ν1.length),some (.int at_),y]/\(∃E,P'=P++E)/\Tree R K lay key P'/\(∀o∈(zGj lay q0.1).take j,∀h∈K.getD o [],h∈P'.map (·.1))/\tq μ ν/\ν[μ.length]?=some (.dct (dkP P'))/\ν[ν1.length]?=some (.lst (nat (P'.map (·.1))))/\ν[l4]?=some (.lst (nat (zGj lay q0.1)))
def z6m{key:Nat}(w:Wb L R K)(hlen:lay.length=K.length)(hL:L<=1000)(hn:μ[n]?=some (.lst (lay.map onD)))(hk:key<K.length)
 (q:∀(P:PT)(d:Nat)(μ':Mem),Tree R K lay key P->(∀h∈K.getD key [],h∈P.map (·.1))->(∀p∈P,∀o,lay.getD o none=some p.1->∀h∈K.getD o [],h∈P.map (·.1))->tq μ μ'->μ.length<=d->μ'[d]?=some (.dct (dkP P))->Q (.loc d) μ'):WF zfe [wn R K,.loc n,.int key] μ Q:=by
 have hrl:=w.rl;have hkl:=w.kl;refine zDb rfl ?_;show WS z9d [some (wn R K),some (.loc n),some (.int key),none,none,none,none,none] μ _ _ _ _;unfold z9d;refine zu (zab (z9v (zu (zhe (zMd (zo (zo (zh rfl (w_c (zAc (zh rfl (z6o hk (.inl ⟨_,rfl,?_⟩))))))))))))) ;refine zzb (JPb R K lay key n μ) ⟨[],_,rfl,⟨by simp,by simp,λi p e=>by simp at e⟩,by simp,by simp,.app,zB⟩ (λ_ _ _ _=>rfl) ?_ ?_
 ·rintro m x J ν1 hx ⟨P,y,rfl,tP,ha,hm,k1,g1⟩;rw[yj]at hx
  cases hy:(K.getD key [])[m]? with
  |none=>rw[hy]at hx;cases hx
  |some h=>
   rw[hy]at hx;cases hx;have hmem:=mem_of_getElem? hy;have htk:(K.getD key []).take (m+1)=(K.getD key []).take m++[h]:=by rw[take_succ,hy];rfl
   have hpl:=tP.len;refine zwd ?_;unfold ztg;refine z4j (zwe (zj (zh rfl (zj (w_c (zy ?_))))));refine zWq (zh rfl (zh rfl ⟨_,_,_,rfl,rfl,g1,by simp[dkP];omega,?_⟩));rw[show(D.tup [.int (key:Nat),.non])=.tup [.int (key:Nat),onD none] from rfl];have kk:∀o':tE,tq μ (ν1.set μ.length o'):=λo' i o e=>zT (k1 i o e) (yV (zJ e))
   by_cases hin:h∈P.map (·.1)
   ·rw[zGu hin ha];refine⟨P,_,rfl,tP,ha,λg hg=>?_,kk _,zR g1⟩;rw[htk]at hg;rcases List.mem_append.mp hg with hg|hg
    ·exact hm g hg
    ·rw[List.mem_singleton.mp hg];exact hin
   ·rw[zDp hin];refine⟨P++[(h,key,none)],_,rfl,tP.add hin ((w.key hk).2 h hmem) hk hmem (.inl ⟨rfl,rfl⟩),λp hp=>?_,λg hg=>?_,kk _,zR g1⟩
    ·rcases List.mem_append.mp hp with hp|hp
     ·exact ha p hp
     ·rw[List.mem_singleton.mp hp]
    ·rw[htk]at hg;rw[map_append,mem_append];rcases List.mem_append.mp hg with hg|hg
     ·exact .inl (hm g hg)
     ·rw[List.mem_singleton.mp hg];exact .inr (by simp)
 ·rintro J ν1 ⟨P0,y,rfl,tP0,_,hm0,k1,g1⟩;rw[length_map,take_length]at hm0;refine zu (zab (zw (zj (zh rfl (zy (zDt (zZj g1) ?_))))));rw[z9n];have hl2:μ.length<ν1.length:=zJ g1;refine zu (zab (w_c (zu ?_)));refine zqi (JPc R K lay key n μ ν1) (m:=R.length) (by omega) ⟨P0,0,_,_,by simp,by simp,rfl,tP0,hm0,by simp,k1.to,zI g1,zB⟩ ?_;rintro m J ν2 ⟨P,at_,x,y,rfl,hat,rfl,tP,hkey,hcl,k2,g2,g3⟩;have hpl:=tP.len
  repeat walk_at "w"
  refine zbc (zt g3) ?_;refine zzk ⟨_,rfl,λh1=>?_,λh1=>?_⟩
  ·have h1:at_<P.length:=by
    have:=of_decide_eq_true h1;simp only[length_map]at this;omega
   have hq:P[at_]?=some P[at_]:=by simp[h1]
   generalize P[at_]=q0 at hq;have hat':(P.map (·.1))[at_]?=some q0.1:=by rw[yj,hq];rfl
   unfold zhg;refine zu (zhe (zMd (zw (zj (zh rfl (zj (zo (zh rfl (zh rfl (zPb (zt g3) (zyc (v:=.int (q0.1:Nat)) (by rw[yj,hat'];rfl)) (zy ?_)))))))))));refine zHr (h:=q0.1) (k2 _ _ hn) (by omega) λl4 ν4 k4 hl4 g4 =>.inr (.inr ⟨l4,_,rfl,g4,?_⟩);have hν2:=zJ g3;refine zzb (JPd R K lay key n μ ν1 at_ P q0 l4) ⟨P,_,_,rfl,⟨[],by simp⟩,tP,by simp,k2.trans k4,k4 _ _ g2,k4 _ _ g3,g4⟩ (λj J ν ⟨_,_,_,_,_,_,_,_,_,_,h⟩=>zW h .refl) ?_ ?_
   ·rintro j z J ν5 hz ⟨P',x',y',rfl,⟨E,hE⟩,tP',hdone,k5,g5,g6,g7⟩;rw[yj]at hz
    cases ho:(zGj lay q0.1)[j]? with
    |none=>rw[ho]at hz;cases hz
    |some o=>
     rw[ho]at hz;cases hz;have hom:=mem_of_getElem? ho;have hom':=List.mem_filter.mp hom;have hol:o<K.length:=by rw[<-hlen];simpa using hom'.1
     have hlo:=of_decide_eq_true hom'.2;have htk:(zGj lay q0.1).take (j+1)=(zGj lay q0.1).take j++[o]:=by rw[take_succ,ho];rfl
     have hq':P'[at_]?=some q0:=by rw[hE,yu h1];exact hq
     refine zwd ?_;have hl5:=zJ g6;refine zls w tP' hol hq' hlo hl2 g5 g6 λP'' x'' ν6 ⟨E',hE'⟩ tP'' hall k6 g8 g9=>⟨P'',_,_,rfl,⟨E++E',by rw[hE',hE,append_assoc]⟩,tP'',λo' ho' h hh=>?_,λi o' e'=>k6 i o' (yq (zJ e')) (by have:=zJ e';omega) (k5 i o' e'),g8,g9,k6 l4 _ (by omega) (by omega) g7⟩
     rw[htk]at ho';rcases List.mem_append.mp ho' with ho'|ho'
     ·rw[hE',map_append,mem_append];exact .inl (hdone o' ho' h hh)
     ·rw[List.mem_singleton.mp ho']at hh;exact hall h hh
   ·rintro J ν5 ⟨P',x',y',rfl,⟨E,hE⟩,tP',hdone,k5,g5,g6,g7⟩;rw[nat,length_map,take_length]at hdone;have hpl':=tP'.len;refine zuv rfl (w_c (zzv ?_));refine⟨R.length-(at_+1),by omega,P',at_+1,_,_,rfl,by rw[hE];simp;omega,rfl,tP',λh hh=>?_,λi p hi e o ho h hh=>?_,k5,g5,g6⟩
    ·rw[hE,map_append,mem_append];exact .inl (hkey h hh)
    ·by_cases hia:i<at_
     ·rw[hE,yu (by omega)]at e;rw[hE,map_append,mem_append];exact .inl (hcl i p hia e o ho h hh)
     ·have:i=at_:=by omega
      subst this;rw[hE,yu h1,hq]at e;cases e;refine hdone o ?_ h hh;refine List.mem_filter.mpr ⟨?_,decide_eq_true ho⟩;rw[mem_range];refine Nat.lt_of_not_le λhle=>?_;rw[getD_eq_getElem?_getD,Ym hle]at ho;cases ho
  ·refine zqb (zh rfl ?_)
   have h1:at_=P.length:=by
    have:=of_decide_eq_false h1;simp only[length_map]at this;omega
   refine q P _ ν2 tP hkey (λp hp o e h hh=>?_) k2 (yi _) g2;obtain⟨i,hi,rfl⟩:=List.mem_iff_getElem.mp hp;exact hcl i P[i] (by omega) (by simp[hi]) o e h hh
abbrev pD(p:Nat×Nat):D:=.tup [.int (p.1:Nat),.int (p.2:Nat)]
inductive Path(P:PT)(lay:List (Option Nat)):Nat->List (Nat×Nat)->Prop
 |one {i:Nat} {p:Nat×Nat×Option Nat} (e:P[i]?=some p):Path P lay i [(p.2.1,p.1)]
 |up {i j:Nat} {p q:Nat×Nat×Option Nat} {row:List (Nat×Nat)} (h:Path P lay i row) (e:P[i]?=some p) (eq:P[j]?=some q) (hj:j<i) (hf:p.2.2=some q.1) (hl:lay.getD p.2.1 none=some q.1):Path P lay j ((q.2.1,q.1)::row)
def Path.head{P:PT}(h:Path P lay i row):∃p r,P[i]?=some p/\row=(p.2.1,p.1)::r:=by
 cases h with
 |one e=>exact⟨_,_,e,rfl⟩
 |up h e eq hj hf hl=>exact⟨_,_,eq,rfl⟩
def Path.idx{P:PT}(h:Path P lay i row):∀x∈row,∃j p,i<=j/\P[j]?=some p/\x=(p.2.1,p.1):=by
 induction h with
 |one e=>intro x hx;rw[List.mem_singleton.mp hx];exact⟨_,_,yi _,e,rfl⟩
 |up h e eq hj hf hl ih=>
  intro x hx;rcases List.mem_cons.mp hx with rfl|hx
  ·exact⟨_,_,yi _,eq,rfl⟩
  ·obtain⟨m,p,hm,e',r⟩:=ih x hx;exact⟨m,p,by omega,e',r⟩
def Path.tail{P:PT}(h:Path P lay i row):∀x∈row.tail,∃j p,i<=j/\P[j]?=some p/\lay.getD x.1 none=some p.1:=by
 induction h with
 |one e=>intro x hx;cases hx
 |up h e eq hj hf hl ih=>
  intro x hx;obtain⟨p',r,e',er⟩:=h.head;rw[e]at e';cases e';rw[List.tail_cons,er]at hx;rcases List.mem_cons.mp hx with rfl|hx
  ·exact⟨_,_,yi _,eq,hl⟩
  ·obtain⟨m,p,hm,e',r⟩:=ih x (by rw[er];exact hx);exact⟨m,p,by omega,e',r⟩
def Path.link{P:PT}(h:Path P lay i row):∀n p q,row[n]?=some p->row[n+1]?=some q->lay.getD q.1 none=some p.2:=by
 induction h with
 |one e=>intro n p q _ e2;simp at e2
 |up h e eq hj hf hl ih=>
  intro n p q e1 e2
  cases n with
  |zero=>
   obtain⟨p',r,e',er⟩:=h.head;rw[e]at e';cases e';rw[er]at e2;simp at e1 e2;subst e1 e2;exact hl
  |succ n=>exact ih n p q (by simpa using e1) (by simpa using e2)
def zov{P:PT}(nd:(P.map (·.1)).Nodup){i j:Nat}{p q:Nat×Nat×Option Nat}(e1:P[i]?=some p)(e2:P[j]?=some q)(h:p.1=q.1):i=j:=by
 have h1:(P.map (·.1))[i]?=some p.1:=by rw[yj,e1];rfl
 have h2:(P.map (·.1))[j]?=some p.1:=by rw[yj,e2,h];rfl
 obtain⟨a,h1⟩:=List.getElem?_eq_some_iff.mp h1;obtain⟨b,h2⟩:=List.getElem?_eq_some_iff.mp h2;have pw:=List.pairwise_iff_getElem.mp nd;rcases Nat.lt_trichotomy i j with h|h|h
 ·exact absurd (h1.trans h2.symm) (pw i j a b h)
 ·exact h
 ·exact absurd (h2.trans h1.symm) (pw j i b a h)
def Path.ndk{P:PT}{key:Nat}(t:Tree R K lay key P)(hkey:lay.getD key none=none)(h:Path P lay i row):(row.map (·.1)).Nodup:=by
 induction h with
 |one e=>simp
 |@up i j p q row h e eq hj hf hl ih=>
  rw[map_cons,nodup_cons];refine⟨λhm=>?_,ih⟩;obtain⟨x,hx,ex⟩:=List.mem_map.mp hm;have ht:=(Path.up h e eq hj hf hl).tail x hx;obtain⟨m,p',hm',e',el⟩:=ht;rw[ex]at el;obtain⟨_,_,h3⟩:=t.ok j q eq;rcases h3 with ⟨_,h3⟩|⟨j',q',hj',eq',_,h4⟩
  ·simp only at el;rw[h3,hkey]at el;cases el
  ·simp only at el;rw[h4]at el;have:=zov t.nd eq' e' (by injection el);omega
def Path.ok{P:PT}{key:Nat}{p:Nat×Nat×Option Nat}(t:Tree R K lay key P)(hkey:lay.getD key none=none)(h:Path P lay i row)(e:P[i]?=some p)(hp:p.2.2=none):Tf K lay key row:=by
 refine⟨?_,λx hx=>?_,h.link,h.ndk t hkey⟩
 ·obtain⟨p',r,e',er⟩:=h.head;rw[e]at e';cases e';rcases(t.ok i p e).2.2 with ⟨_,h3⟩|⟨_,_,_,_,h3,_⟩
  ·exact⟨p.1,r,by rw[er,h3]⟩
  ·rw[hp]at h3;cases h3
 ·obtain⟨j,q,_,eq,rfl⟩:=h.idx x hx;obtain⟨h1,h2,h3⟩:=t.ok j q eq;refine⟨h1,h2,?_⟩;rcases h3 with ⟨_,h3⟩|⟨j',q',hj',eq',_,h4⟩
  ·simp only;rw[h3,hkey];exact λh=>by cases h
  ·simp only;rw[h4];intro h;have:=zov t.nd eq' eq (by injection h);omega
abbrev JRo(P:PT)(lay:List (Option Nat))(p0:Nat×Nat×Option Nat)(d:Nat)(μ:Mem):Nat->M.Loc->Mem->Prop:=λm J ν=>∃(acc:List (Nat×Nat)) (f:Option Nat),J=[some (.loc d),some (onD f),some (.loc μ.length)]/\tq μ ν/\ν[μ.length]?=some (.lst (acc.map pD))/\acc.length+m<=P.length /\
 ((f=none∧(∃ k,acc[0]?=some (k,p0.1))∧∃ i p,Path P lay i acc.reverse∧P[i]?=some p∧p.2.2=none) ∨
  (∃i p,m=i+1/\P[i]?=some p/\f=some p.1/\((acc=[]/\p=p0)\/((∃k,acc[0]?=some (k,p0.1))/\∃i' p',i<i'/\Path P lay i' acc.reverse/\P[i']?=some p'/\p'.2.2=some p.1/\lay.getD p'.2.1 none=some p.1))))
def zQr{key d i0:Nat}{p0:Nat×Nat×Option Nat}{P:PT}(t:Tree R K lay key P)(hR:R.length<=10)(hkey:lay.getD key none=none)(hd:zJb μ (.loc d)=some (dkP P))(hp0:P[i0]?=some p0)
 (q:∀(row:List (Nat×Nat)) (l:Nat) (μ':Mem),Tf K lay key row->(row.getD (row.length-1) (0,0)).2=p0.1->row.length<=P.length->tq μ μ'->μ.length<=l->μ'[l]?=some (.lst (row.map pD))->Q (.loc l) μ'):WF zoh [.loc d,.int p0.1] μ Q:=by
 have hpl:=t.len;refine zDb rfl ?_;show WS zMh [some (.loc d),some (.int p0.1),none] μ _ _ _ _;unfold zMh;refine zu (zab (zRg (zy (zu ?_))));have hi0:=(List.getElem?_eq_some_iff.mp hp0).1
 have hdk:∀{μ':Mem},tq μ μ'->zJb μ' (.loc d)=some (dkP P):=λ{μ'} kp=>by
  cases e:μ[d]? with
  |none=>simp[e]at hd
  |some o=>
   have e':=kp _ _ e;simp only[zJb,e]at hd;simp only[zJb,e'];exact hd
 refine zqi (JRo P lay p0 d μ) (m:=i0+1) (by omega)
  ⟨[],some p0.1,rfl,.app,zB,by simp;omega,.inr ⟨i0,p0,rfl,hp0,rfl,.inl ⟨rfl,rfl⟩⟩⟩ ?_
 rintro m J ν ⟨acc,f,rfl,kp,g,hlen,h⟩;refine zL (zo (zh rfl (w_c (zwh (zho _) ⟨_,rfl,λh1=>?_,λh1=>?_⟩))))
 ·rcases h with ⟨rfl,_⟩|⟨i,p,rfl,ep,rfl,h⟩
  ·cases h1
  ·have hlook:=zkt t.nd (mem_of_getElem? ep)
   have hnew:Path P lay i ((p.2.1,p.1)::acc.reverse):=by
    rcases h with ⟨rfl,rfl⟩|⟨_,i',p',hi',hpa,ep',hf,hl⟩
    ·exact .one ep
    ·exact .up hpa ep' ep hi' hf hl
   have hac:∃k,(acc++[(p.2.1,p.1)])[0]?=some (k,p0.1):=by
    rcases h with ⟨rfl,rfl⟩|⟨⟨k,hk⟩,_⟩
    ·exact⟨p.2.1,rfl⟩
    ·refine⟨k,?_⟩;rw[yu (List.getElem?_eq_some_iff.mp hk).1];exact hk
   unfold zJj;refine zu (zmg (zSi (zh rfl ⟨_,_,rfl,g,?_⟩)));refine zj (zwe (zj (zo (zo (zh rfl (zh rfl (zAv (hdk kp) hlook (w_c (zPb rfl rfl (zj (zh rfl (zy (zy ?_)))))))))))));refine zCh g (by rw[length_map];omega) ?_;have kp2:tq μ (ν.set μ.length (.lst (acc.map pD++[pD (p.2.1,p.1)]))):=λa o e=>zT (kp a o e) (yV (zJ e));refine zab (zo (zo (zh rfl (zh rfl (zAv (hdk kp2) hlook (w_c (zPb rfl rfl ?_)))))));obtain⟨_,_,h3⟩:=t.ok i p ep;rcases h3 with ⟨h3,_⟩|⟨j,q',hj,eq',h3,h4⟩
   ·refine⟨0,by omega,acc++[(p.2.1,p.1)],none,?_,kp2,?_,by rw[length_append];simp;omega,.inl ⟨rfl,hac,i,p,?_,ep,h3⟩⟩
    ·rw[h3];rfl
    ·rw[zR g,map_append];rfl
    ·rw[List.reverse_append];exact hnew
   ·refine⟨j+1,by omega,acc++[(p.2.1,p.1)],some q'.1,?_,kp2,?_,by rw[length_append];simp;omega,.inr ⟨j,q',rfl,eq',rfl,.inr ⟨hac,i,p,hj,?_,ep,h3,h4⟩⟩⟩
    ·rw[h3];rfl
    ·rw[zR g,map_append];rfl
    ·rw[List.reverse_append];exact hnew
 ·rcases h with ⟨rfl,⟨k,hk⟩,i,p,hpa,ep,hn⟩|⟨i,p,rfl,ep,rfl,h⟩
  ·refine zqb (zpw (zh rfl ⟨_,_,rfl,g,?_⟩));refine q acc.reverse _ _ (hpa.ok t hkey ep hn) ?_ (by rw[List.length_reverse];omega) kp.to kp.len ?_
   ·have h0:=(List.getElem?_eq_some_iff.mp hk).1
    have:acc.reverse[acc.reverse.length-1]?=some (k,p0.1):=by
     rw[List.length_reverse,List.getElem?_reverse (by omega),show acc.length-1-(acc.length-1)=0 by omega];exact hk
    rw[getD_eq_getElem?_getD,this];rfl
   ·rw[zB,List.map_reverse]
  ·cases h1
def zhw(P:PT)(lay:List (Option Nat))(key:Nat):List Nat:=(yh lay.length).filter λo=>decide (o=key)||decide (∃p∈P,lay.getD o none=some p.1)
def zyr{key:Nat}(w:Wb L R K)(hlen:lay.length=K.length)(hL:L<=1000)(hn:μ[n]?=some (.lst (lay.map onD)))(hk:key<K.length)(hkey:lay.getD key none=none)
 (q1:∀(row:List (Nat×Nat)) (l:Nat) (μ':Mem),Tf K lay key row->lay.count (some (row.getD (row.length-1) (0,0)).2)<R.getD (row.getD (row.length-1) (0,0)).2 0->row.length<=10->tq μ μ'->μ.length<=l->μ'[l]?=some (.lst (row.map pD))->Q (.tup [.str "put",.loc l]) μ')
 (q2:∀(S:List Nat)(l:Nat)(μ':Mem),S.Sublist (yh K.length)->key∈S->Ts R K lay S->tq μ μ'->μ.length<=l->μ'[l]?=some (.lst (nat S))->Q (.tup [.str "full",.loc l]) μ'):WF zyh [wn R K,.loc n,.int key] μ Q:=by
 have hrl:=w.rl;have hkl:=w.kl;refine zDb rfl ?_;show WS zSh [some (wn R K),some (.loc n),some (.int key),none,none,none] μ _ _ _ _;unfold zSh;refine zu (zab (zw (zj (zh rfl (zj (zh rfl (zj (zh rfl (zy ?_)))))))));refine z6m w hlen hL hn hk λP d μ1 t hhome hcl k1 hd g1=>?_;refine zu (zab (zw (zj (zh rfl (zj (zh rfl (zy ?_)))))));refine zjt w (k1 _ _ hn) λl2 μ2 k2 hl2 g2=>?_;have g1':=k2 _ _ g1;have hpl:=t.len;refine zu (zhe (zwu (zh rfl ⟨_,_,rfl,g1',?_⟩)));have hd1:d<μ1.length:=zJ g1;have kf:tq μ (μ2.set d (.dcf (dkP P))):=λi o e=>zT ((k1.trans k2) i o e) (by have:=zJ e;omega);have gd:=zR (o':=tE.dcf (dkP P)) g1';have gl:=zT (o':=tE.dcf (dkP P)) g2 (by omega:d≠l2);generalize μ2.set d (.dcf (dkP P))=μ3 at kf gd gl;rw[z9n];refine zzb (λm J ν=>∃x:Option D,J=[some (wn R K),some (.loc n),some (.int key),some (.loc d),some (.loc l2),x]/\ν=μ3/\∀(i:Nat) p,i<m->P[i]?=some p->R.getD p.1 0<=lay.count (some p.1)) ⟨_,rfl,rfl,by simp⟩ (λ_ _ _ _=>rfl) ?_ ?_
 ·rintro m x J ν hx ⟨y,rfl,rfl,hb⟩;rw[yj,yj]at hx
  cases ep:P[m]? with
  |none=>rw[ep]at hx;cases hx
  |some p=>
   rw[ep]at hx;cases hx;have hlt:=t.lt p (mem_of_getElem? ep);refine zwd ?_;unfold zHj;refine zkf (zL (zo (zo (zh rfl (zh rfl (zPb (zt gl) (zyc (v:=.int ((R.getD p.1 0:Int)-(lay.count (some p.1):Nat))) (by unfold zit;simp[hlt])) (w_c (zzk ⟨_,rfl,λh1=>?_,λh1=>?_⟩))))))))
   ·have h1:=of_decide_eq_true h1;refine zqb (zwe (zj (w_c (zj (zw (zj (zh rfl (zj (zh rfl (zy ?_))))))))));refine zQr t hrl.2 hkey (zKg gd) ep λrow l μ4 hrow hlast hrl4 k4 hl4 g4=>zy ?_;refine q1 row l μ4 hrow ?_ (by omega) (kf.trans k4) (by have:=kf.len;omega) g4;rw[hlast];omega
   ·have h1:=of_decide_eq_false h1;refine zjb ⟨_,rfl,rfl,λi p' hi e'=>?_⟩
    by_cases hm:i=m
    ·subst hm;rw[ep]at e';cases e';omega
    ·exact hb i p' (by omega) e'
 ·rintro J ν ⟨y,rfl,rfl,hb⟩;rw[nat,length_map,length_map]at hb
  have hfull:∀p∈P,R.getD p.1 0<=lay.count (some p.1):=λp hp=>by
   obtain⟨i,hi,rfl⟩:=List.mem_iff_getElem.mp hp;exact hb i P[i] hi (by simp[hi])
  refine zqb (zwe (zj (w_c (zj (zEm ?_)))));refine z7f (zh rfl (.inr (.inr ⟨n,_,rfl,kf _ _ hn,zfc (by rw[zuc,length_map];omega),?_⟩)));rw[zSb onD lay none];refine zZd (λ(k:Nat) =>.tup [.int k,onD (lay.getD k none)]) (yh lay.length) (λ(k:Nat)=>D.int k) (λo=>decide (o=key)||decide (∃p∈P,lay.getD o none=some p.1)) (λμ' k'=>zW (kf _ _ hn) k') (λk hk' μ' kp=>?_) (λμ' kp=>?_)
  ·have gd':=kp _ _ gd;refine zhl (z3d (zwd (z3d (zwd (zrk ?_)))));unfold zuj zlj;refine zdj (zL (zo (zh rfl (zh rfl (znh ⟨_,rfl,λh1=>?_,λh1=>?_⟩)))))
   ·have h1:k≠key:=by
     intro e;rw[e]at h1;simp at h1
    rw[decide_eq_false h1,Bool.false_or]
    cases e:lay.getD k none with
    |none=>
     refine zL (zo (zh rfl (zh rfl (z7v (zKg gd') ?_ ⟨_,rfl,?_,kp,λhb=>(by cases hb)⟩))))
     ·rw[List.all_eq_true];intro x hx;obtain⟨p,hp,rfl⟩:=List.mem_map.mp hx;have:=t.lt p hp;exact decide_eq_true (by simp only;omega)
     ·symm
      refine decide_eq_false ?_;rintro⟨p,_,e⟩;cases e
    |some h=>
     refine zL (zo (zh rfl (zh rfl (zaw (zKg gd') ⟨_,rfl,?_,kp,λhb=>zh rfl ⟨rfl,kp⟩⟩))));rw[zBi];refine decide_eq_decide.mpr ?_;rw[mem_map];constructor
     ·rintro⟨p,hp,rfl⟩;exact⟨p,hp,rfl⟩
     ·rintro⟨p,hp,e⟩;cases e;exact⟨p,hp,rfl⟩
   ·have h1:k=key:=by
     have:=beq_iff_eq.mp h1;omega
    rw[decide_eq_true h1,Bool.true_or];exact⟨rfl,kp,λ_=>zh rfl ⟨rfl,kp⟩⟩
  ·refine zy (q2 (zhw P lay key) _ _ ?_ ?_ ?_ (kf.trans kp.to) (kf.trans kp).len zB)
   ·rw[<-hlen];exact filter_sublist
   ·exact List.mem_filter.mpr ⟨by simpa[hlen] using hk,by simp⟩
   ·have hin:∀k∈zhw P lay key,∀h∈K.getD k [],∃p∈P,p.1=h:=λk hkm h hh=>by
     have hm:=(List.mem_filter.mp hkm).2;rw[xR,decide_eq_true_iff,decide_eq_true_iff]at hm;rcases hm with rfl|⟨p,hp,e⟩
     ·obtain⟨p,hp,e⟩:=List.mem_map.mp (hhome h hh);exact⟨p,hp,e⟩
     ·obtain⟨p',hp',e'⟩:=List.mem_map.mp (hcl p hp k e h hh);exact⟨p',hp',e'⟩
    refine⟨λk hkm=>?_,λk hkm h hh=>?_,λk hkm h hh o e=>?_⟩
    ·have:=(List.mem_filter.mp hkm).1;rw[<-hlen];simpa using this
    ·obtain⟨p,hp,rfl⟩:=hin k hkm h hh;exact hfull p hp
    ·obtain⟨p,hp,rfl⟩:=hin k hkm h hh;refine List.mem_filter.mpr ⟨?_,?_⟩
     ·rw[mem_range];refine Nat.lt_of_not_le λhle=>?_;rw[getD_eq_getElem?_getD,Ym hle]at e;cases e
     ·rw[xR];exact .inr (decide_eq_true ⟨p,hp,e⟩)
def zlv{ys:List D}(h:μ[n]?=some (.lst xs))(h2:μ[m]?=some (.lst ys))(hl:xs.length+ys.length<=1000000)(q:Q .non (μ.set n (.lst (xs++ys)))):WM z9t (.loc n) [.loc m] μ Q:=⟨_,_,by simp[h,h2,hl]<;>rfl,q⟩
def z6u(h:k<lay.length):atI (lay.map onD) (k:Int)=some (onD (lay.getD k none)):=zyc (by simp[h])
def zTo{p:Nat×Nat}(e:row[i]?=some p):atI (row.map pD) (i:Int)=some (pD p):=zyc (by rw[yj,e];rfl)
def zVq{key r:Nat}{p:Nat×Nat}(w:Wb L R K)(hlen:lay.length=K.length)(hn:μ[n]?=some (.lst (lay.map onD)))(hr:μ[r]?=some (.lst (row.map pD)))(hrl:row.length<=1000)(ok:Tf K lay key row)(e:row[i]?=some p)
 (q:∀μ',tq μ μ'->Q (.bl true) μ'):WF zLf [wn R K,.loc n,.loc r,.int i] μ Q:=by
 have hm:=ok.mem p (mem_of_getElem? e);have hi:=(List.getElem?_eq_some_iff.mp e).1;refine zDb rfl ?_;show WS zGf [some (wn R K),some (.loc n),some (.loc r),some (.int i),none] μ _ _ _ _;unfold zGf;refine zu (zab (zo (zo (zh rfl (zh rfl (zPb (zt hr) (zTo e) (w_c (zPb rfl rfl ?_))))))));refine zu (zkf (zdj (zL (zo (zh rfl (w_c (zzk ⟨_,rfl,λh1=>?_,λh1=>?_⟩)))))))
 case refine_2=>have:=of_decide_eq_true h1;omega
 refine zL (zo (zh rfl (zw (zj (zh rfl (zy (zbc (zt hn) (zzk ⟨_,rfl,λh2=>?_,λh2=>zjb ?_⟩))))))))
 ·have:=of_decide_eq_true h2;rw[length_map]at this;omega
 refine zu (zkf (zdj (zL (zo (zo (zo (zh rfl (zh rfl (zPb (zt hr) (zTo e) (w_c (zPb rfl rfl (zo (zo (zh rfl (w_c (zAc (zh rfl (z6o hm.1 (zxn rfl ⟨_,rfl,λh3=>?_,λh3=>?_⟩)))))))))))))))))))
 case refine_2=>rw[decide_eq_true hm.2.1]at h3;cases h3
 refine zL (zo (zo (zo (zh rfl (zh rfl (zPb (zt hr) (zTo e) (w_c (zPb rfl rfl (zo (zh rfl (zh rfl (zPb (zt hn) (z6u (by omega)) (zVo (α:=Option Nat) (some p.2) (lay.getD p.1 none) ⟨_,rfl,λh4=>?_,λh4=>zjb ?_⟩)))))))))))))
 ·exact absurd (of_decide_eq_true h4).symm hm.2.2
 refine zqb (zo (zh rfl (zEm (zMd (zRw (zh rfl (zms (zRn (zh rfl ⟨_,rfl,_,_,rfl,hr,.inr (.inr ⟨_,_,rfl,zB,?_,?_⟩)⟩)))))))))
 ·rw[zQm];exact zfc (by rw[length_take,length_map];omega)
 rw[zQm,<-List.map_take];refine zZf pD (row.take i) (λx =>.int (x.1:Nat)) (λμ' k=>zW zB k) (λx hx μ' kp=>?_) (λμ' kp=>?_)
 ·unfold zGi;exact zwd (zo (zh rfl (w_c (zPb rfl rfl ⟨rfl,kp,kp⟩))))
 ·have e2:((row.take i).map λx=>D.int (x.1:Nat))=nat ((row.take i).map (·.1)):=(zUk _ _).symm;rw[e2];refine zxn (zt zB) ?_
  have hnot:p.1∉(row.take i).map (·.1):=by
   intro hmem;have nd:=ok.nd;rw[<-take_append_drop i row,map_append,nodup_append]at nd;refine nd.2.2 _ hmem _ ?_ rfl;refine List.mem_map.mpr ⟨p,?_,rfl⟩;rw[drop_eq_getElem_cons hi,(List.getElem?_eq_some_iff.mp e).2];exact mem_cons_self
  rw[decide_eq_false hnot];exact q _ (tq.app.trans (kp.to))
def z0o{key r:Nat}{p:Nat×Nat}(hlen:lay.length=K.length)(hn:μ[n]?=some (.lst (lay.map onD)))(hr:μ[r]?=some (.lst (row.map pD)))(ok:Tf K lay key row)(e:row[i]?=some p)
 (q:Q (.bl true) μ):WF zof [.loc n,.int key,.loc r,.int i] μ Q:=by
 refine zDb rfl ?_;show WS z3f [some (.loc n),some (.int key),some (.loc r),some (.int i)] μ _ _ _ _;unfold z3f;refine zu (zkf (zL (zo (zh rfl (w_c (znh ⟨_,rfl,λh1=>?_,λh1=>zjb ?_⟩))))))
 ·obtain⟨h,r0,e0⟩:=ok.first
  refine zqb (zo (zo (zo (zh rfl (w_c (zPb (zt hr) (zTo (i:=0) (p:=(key,h)) (by rw[e0];rfl)) (w_c (zPb rfl rfl (zh rfl (znh ?_))))))))));rw[beq_self_eq_true];exact q
 ·cases i with
  |zero=>exact absurd h1 (by decide)
  |succ j=>
   have hj:j<row.length:=by
    have:=(List.getElem?_eq_some_iff.mp e).1;omega
   have ej:row[j]?=some row[j]:=by simp[hj]
   have hl:=ok.link j _ _ ej e;have hm:=ok.mem p (mem_of_getElem? e);refine zqb (zo (zo (zh rfl (zo (zo (zh rfl (zh rfl (zPb (zt hr) (zTo e) (w_c (zPb rfl rfl (zPb (zt hn) (z6u (by omega)) (zo (zo (zh rfl (zo (zh rfl (w_c (zCu ?_))))))))))))))))));rw[show((j+1:Nat):Int)-1=(j:Int) by omega];refine zPb (zt hr) (zTo ej) (w_c (zPb rfl rfl (zVo (α:=Option Nat) (lay.getD p.1 none) (some (row[j]).2) ?_)));rw[decide_eq_true hl];exact q
def zkn(r:Td R K lay):z0j R K (lay.map onD)=.non:=by
 unfold z0j;rw[zpe λk hk=>?_,zpe λh hh=>?_]
 ·unfold zIq;rw[zKq];have:=r.room h;exact decide_eq_false (by omega)
 ·unfold zuk
  have e:(lay.map onD).getD k .non=onD (lay.getD k none):=by
   have hk':k<lay.length:=by rw[r.len];exact hk
   simp[hk']
  rw[e]
  cases e2:lay.getD k none with
  |none=>rfl
  |some h=>
   have hm:h∈K.getD k []:=r.home k h (by
    have hk':k<lay.length:=by rw[r.len];exact hk
    simp[hk']at e2;simp[hk',e2])
   show(_ && !((nat (K.getD k [])).any λy=>eqF y (.int h)))=false;rw[z2m,decide_eq_true hm,Bool.not_true,Bool.and_false]
def zSv(lay:List (Option Nat))(k h:Nat):(lay.set k (some h)).map onD=(lay.map onD).set k (.int h):=List.map_set
def zLp{key r:Nat}(w:Wb L R K)(hL:L<=1000)(rt:Td R K lay)(hn:μ[n]?=some (.lst (lay.map onD)))(hr:μ[r]?=some (.lst (row.map pD)))(hrl:row.length<=1000)(ok:Tf K lay key row)(hkey:lay.getD key none=none)(hroom:lay.count (some (row.getD (row.length-1) (0,0)).2)<R.getD (row.getD (row.length-1) (0,0)).2 0)
 (q:∀(l:Nat)(μ':Mem),tq μ μ'->μ.length<=l->μ'[l]?=some (.lst ((zod lay row).map onD))->Q (.loc l) μ'):WF zph [wn R K,.loc n,.int key,.loc r] μ Q:=by
 have hkl:=w.kl;have hlen:=rt.len;refine zDb rfl ?_;show WS zvh [some (wn R K),some (.loc n),some (.int key),some (.loc r),none,none,none] μ _ _ _ _;unfold zvh;refine zu (zab (zw (zj (zh rfl (zy (zjq (zt hn) ?_))))));refine zu (zhe (z7f (zh rfl (.inr (.inr ⟨r,_,rfl,zI hr,?_⟩)))));refine zzb (λm J ν=>∃x y:Option D,J=[some (wn R K),some (.loc n),some (.int key),some (.loc r),some (.loc μ.length),x,y]/\tq μ ν/\ν[μ.length]?=some (.lst ((zod lay (row.take m)).map onD))) ⟨_,_,rfl,.app,zB⟩ (λm J ν ⟨_,_,_,k,_⟩=>zW hr k) ?_ ?_
 ·rintro m x J ν hx ⟨a,b,rfl,kp,g⟩;obtain⟨p,ep,rfl⟩:=zso hx;have hm:=ok.mem p (mem_of_getElem? ep);have htk:row.take (m+1)=row.take m++[p]:=by rw[take_succ,ep];rfl
  refine zhl (z3d (zwd (z3d (zwd (zrk ?_)))));unfold zgj;refine zu (zkf (zGq (zGn (zL (zw (zj (zh rfl (zj (zh rfl (zj (zh rfl (zj (zh rfl (zy ?_))))))))))))));refine zVq w hlen (kp _ _ hn) (kp _ _ hr) hrl ok ep λμ1 k1=>⟨_,rfl,λ_=>?_,λh=>(by cases h)⟩
  refine zL (zw (zj (zh rfl (zj (zh rfl (zj (zh rfl (zj (zh rfl (zy ?_))))))))));refine z0o hlen ((kp.trans k1) _ _ hn) ((kp.trans k1) _ _ hr) ok ep ⟨_,rfl,λh=>(by cases h),λ_=>zjb ?_⟩;refine z4j (zo (zh rfl (w_c (zPb rfl rfl ?_))));have g1:=k1 _ _ g;refine zVt (zh rfl (zo (zh rfl (w_c (zPb rfl rfl ⟨_,_,_,rfl,rfl,g1,?_,?_⟩)))))
  ·rw[length_map,zKf];omega
  ·refine⟨_,_,rfl,λi o e=>zT (k1 _ _ (kp i o e)) (yV (zJ e)),?_⟩;rw[zR g1,htk,zSj,zSv];rfl
 ·rintro J ν ⟨a,b,rfl,kp,g⟩;rw[zuc,length_map,take_length]at g
  have hpos:0<row.length:=by
   obtain⟨h,q,e⟩:=ok.first
   rw[e];simp
  refine zu (zkf (zdj (zL (zo (zw (zj (zh rfl (zy (zbc (zt (kp _ _ hr)) (w_c (znh ⟨_,rfl,λh1=>?_,λh1=>?_⟩)))))))))))
  case refine_2=>
   have:=beq_iff_eq.mp h1;rw[length_map]at this;omega
  have hr2:=zti rt ok hkey hroom;refine zL (zo (zw (zj (zh rfl (zj (zh rfl (zy ?_)))))));refine zsr w (zTp _) (by rw[length_map,zKf];exact hlen) g λμ1 k1=>?_;rw[zkn hr2];refine w_c (zwh rfl ⟨_,rfl,λh=>(by cases h),λ_=>zjb (zqb (zh rfl ?_))⟩);exact q _ _ (kp.trans k1) (yi _) (k1 _ _ g)
def zcf(S:List Nat)(k:Nat):List Nat:=S.filter λo=>!decide (o=k)
def z5b(R:List Nat)(K:List (List Nat))(S:List Nat):Option Nat:=S.find? λk=>zVc R K (zcf S k)
def zEg(h:z5b R K S=some k):k∈S:=List.mem_of_find?_eq_some h
def z5l(h:z5b R K S=some k):zVc R K (zcf S k)=true:=List.find?_some (p:=λk=>zVc R K (zcf S k)) h
def zxd(S:List Nat)(k:Nat):(zcf S k).Sublist S:=filter_sublist
def zLi(h:S.Nodup)(k:Nat):S.erase k=zcf S k:=by
 rw[h.erase_eq_filter];unfold zcf;refine filter_congr λx _=>?_
 by_cases e:x=k<;>simp[e]
def zhi(h:S.Nodup){k:Nat}(hk:k∈S):(zcf S k).length+1=S.length:=by
 rw[<-zLi h,List.length_erase_of_mem hk];have:=List.length_pos_of_mem hk;omega
def zYi(R:List Nat)(K:List (List Nat)):Nat->List Nat->List Nat
 |0,S=>S
 |n+1,S=>match z5b R K S with
  |none=>S
  |some k=>zYi R K n (zcf S k)
def zhm(R:List Nat)(K:List (List Nat))(S:List Nat):List Nat:=zYi R K S.length S
def zwo(h:z5b R K S=none):zhm R K S=S:=by
 unfold zhm
 cases S with
 |nil=>rfl
 |cons a S=>rw[length_cons,zYi,h]
def z9o(hd:S.Nodup)(h:z5b R K S=some k):zhm R K S=zhm R K (zcf S k):=by
 have h1:=zhi hd (zEg h);unfold zhm
 conv=>lhs;rw[<-h1,zYi,h]
def z7l{R:List Nat}{K:List (List Nat)}:∀(n:Nat)(S:List Nat),(zYi R K n S).Sublist S
 |0,S=>Xc _
 |n+1,S=>by
  unfold zYi
  cases z5b R K S with
  |none=>exact Xc _
  |some k=>exact(z7l n _).trans (zxd S k)
def zIl{R:List Nat}{K:List (List Nat)}:∀(n:Nat)(S:List Nat),S.Nodup->S.length<=n->z5b R K (zYi R K n S)=none
 |0,S,_,h=>by
  have:S=[]:=List.length_eq_zero_iff.mp (by omega);subst this;rfl
 |n+1,S,hd,h=>by
  unfold zYi
  cases e:z5b R K S with
  |none=>exact e
  |some k=>
   have:=zhi hd (zEg e);exact zIl n _ (hd.sublist (zxd S k)) (by omega)
def zHi{R:List Nat}{K:List (List Nat)}:∀(n:Nat)(S:List Nat),zVc R K S=true->zVc R K (zYi R K n S)=true
 |0,S,h=>h
 |n+1,S,h=>by
  unfold zYi
  cases e:z5b R K S with
  |none=>exact h
  |some k=>exact zHi n _ (z5l e)
def z1h(w:Wb L R K)(hn:μ[n]?=some (.lst (nat S)))(hS:∀k∈S,k<K.length)(hl:S.length<=1000)
 (q:∀μ',tq μ μ'->Q (onD (z5b R K S)) μ'):WF z0c [wn R K,.loc n] μ Q:=by
 refine zDb rfl ?_;show WS zae [some (wn R K),some (.loc n),none] μ _ _ _ _;unfold zae;refine zu (zhe (zMd (zh rfl (.inr (.inr ⟨n,_,rfl,hn,?_⟩)))));refine zzb (λm J μ'=>∃a:Option D,J=[some (wn R K),some (.loc n),a]/\tq μ μ'/\∀k∈S.take m,zVc R K (zcf S k)=false) ⟨_,rfl,.refl,by simp⟩ (λm J μ' ⟨a,_,k,_⟩=>zW hn k) ?_ ?_
 ·rintro m x J μ1 hx ⟨a,rfl,k1,hb⟩;rw[yj]at hx
  cases hy:S[m]? with
  |none=>rw[hy]at hx;cases hx
  |some kk=>
   rw[hy]at hx;cases hx;have ht:S.take (m+1)=S.take m++[kk]:=by rw[take_succ,hy];rfl
   refine zwd ?_;unfold zug;refine zkf (zL (zw (zj (zh rfl (zj (zEm ?_))))));refine zMd (zh rfl (.inr (.inr ⟨n,_,rfl,k1 _ _ hn,zfc (by rw[length_map];omega),?_⟩)));refine zZd (λ(k:Nat)=>D.int k) S (λ(k:Nat)=>D.int k) (λo=>!decide (o=kk)) (λμ' k'=>zW (k1 _ _ hn) k') (λj hj μ' kp=>?_) (λμ2 k2=>?_)
   ·repeat walk_at "w"
    refine⟨?_,kp,λ_=>?_⟩
    ·congr 1
     by_cases e:j=kk
     ·subst e;simp
     ·simp[e];omega
    ·unfold zqf;exact zh rfl ⟨rfl,kp⟩
   ·refine zy ?_;have hls:(zcf S kk).length<=S.length:=(zxd S kk).length_le;refine zLj w (S:=zcf S kk) zB (λk hk=>hS k ((zxd S kk).subset hk)) (by omega) λμ3 k3=>⟨_,rfl,λh1=>?_,λh1=>?_⟩
    ·refine zqb (zh rfl ?_);have:=q μ3 (k1.trans (k2.to.trans k3))
     have e:z5b R K S=some kk:=by
      unfold z5b;rw[List.find?_eq_some_iff_append];refine⟨h1,S.take m,S.drop (m+1),?_,λa ha=>by rw[hb a ha];rfl⟩;have hlt:=(List.getElem?_eq_some_iff.mp hy).1
      have e1:S.drop m=kk::S.drop (m+1):=by
       rw[drop_eq_getElem_cons hlt,(List.getElem?_eq_some_iff.mp hy).2]
      rw[<-e1,take_append_drop]
     rw[e]at this;exact this
    ·refine zjb ⟨_,rfl,k1.trans (k2.to.trans k3),λk hk=>?_⟩;rw[ht]at hk;rcases List.mem_append.mp hk with hk|hk
     ·exact hb k hk
     ·rw[List.mem_singleton.mp hk];exact h1
 ·rintro J μ1 ⟨a,rfl,k1,hb⟩;rw[length_map,take_length]at hb;refine zqb (w_c ?_);have:=q μ1 k1
  have e:z5b R K S=none:=by
   unfold z5b;rw[List.find?_eq_none];intro k hk;rw[hb k hk];exact yv
  rw[e]at this;exact this
def z1o(w:Wb L R K)(hn:μ[n]?=some (.lst (nat S)))(hS:∀k∈S,k<K.length)(hl:S.length<=1000)(hd:S.Nodup)
 (q:∀(l:Nat)(μ':Mem),tq μ μ'->μ.length<=l->μ'[l]?=some (.lst (nat (zhm R K S)))->Q (.loc l) μ'):WF zjg [wn R K,.loc n] μ Q:=by
 refine zDb rfl ?_;show WS zQf [some (wn R K),some (.loc n),none,none] μ _ _ _ _;unfold zQf;refine zu (zab (zw (zj (zh rfl (zy (zjq (zt hn) ?_))))));refine zu (zab (zw (zj (zh rfl (zj (zh rfl (zy ?_)))))));refine z1h w zB hS hl λμ1 k1=>?_;refine zu ?_;refine zqi (λm J μ'=>∃T:List Nat,m=T.length/\J=[some (wn R K),some (.loc n),some (.loc μ.length),some (onD (z5b R K T))]/\tq μ μ'/\μ'[μ.length]?=some (.lst (nat T))/\T.Sublist S/\zhm R K S=zhm R K T) (m:=S.length) (by omega) ⟨S,rfl,rfl,tq.app.trans k1,k1 _ _ zB,Xc _,rfl⟩ ?_;rintro m J μ' ⟨T,rfl,rfl,k2,g2,hT,ht⟩;have hTd:=hd.sublist hT;have hTl:=hT.length_le
 repeat walk_at "w"
 refine zwh (zho _) ⟨_,rfl,λh1=>?_,λh1=>?_⟩
 ·cases e:z5b R K T with
  |none=>rw[e]at h1;cases h1
  |some k=>
   have hk:=zEg e;have hle:=zhi hTd hk;unfold z2h;refine zu (zmg (zSi (zh rfl ⟨_,_,rfl,g2,?_⟩)));refine zj (zh rfl (zy ?_));refine zDq g2 hk ?_;rw[zLi hTd];refine zab (zw (zj (zh rfl (zj (zh rfl (zy ?_))))));have g3:=zR (o':=tE.lst (nat (zcf T k))) g2;refine z1h w g3 (λx hx=>hS x (hT.subset ((zxd T k).subset hx))) (by omega) λμ3 k3=>?_;exact⟨(zcf T k).length,by omega,zcf T k,rfl,rfl,λi o e'=>k3 _ _ (zT (k2 _ _ e') (yV (zJ e'))),k3 _ _ g3,(zxd T k).trans hT,by rw[ht,z9o hTd e]⟩
 ·refine zqb (zh rfl ?_)
  have e:z5b R K T=none:=by
   cases e:z5b R K T with
   |none=>rfl
   |some k=>rw[e]at h1;cases h1
  refine q _ _ k2 (yi _) ?_;rw[ht,zwo e];exact g2
def zXr{key:Nat}(ok:Tf K lay key row){k:Nat}(h:k∈row.map (·.1)):k=key\/(lay.getD k none).isSome=true:=by
 obtain⟨p,hp,rfl⟩:=List.mem_map.mp h;obtain⟨i,hi,rfl⟩:=List.mem_iff_getElem.mp hp
 cases i with
 |zero=>
  obtain⟨h,r,e⟩:=ok.first
  subst e;exact .inl rfl
 |succ j=>
  have:=ok.link j row[j] row[j+1] (by simp[show j<row.length by omega]) (by simp[hi]);exact .inr (by rw[this];rfl)
def zxi{key:Nat}(hlen:lay.length=K.length)(ok:Tf K lay key row){k:Nat}(h:k=key\/(lay.getD k none).isSome=true):((zod lay row).getD k none).isSome=true:=by
 by_cases hm:k∈row.map (·.1)
 ·obtain⟨p,hp,rfl⟩:=List.mem_map.mp hm;rw[z1j ok.nd hp (by rw[hlen];exact(ok.mem p hp).1)];rfl
 ·rcases h with rfl|h
  ·obtain⟨h,r,e⟩:=ok.first
   subst e;exact absurd (by simp) hm
  ·rw[zFd hm];exact h
def zPi{key:Nat}(ok:Tf K lay key row){k:Nat}(h:lay.getD k none=none)(hk:k≠key):(zod lay row).getD k none=none:=by
 rw[zFd λhm=>?_]
 ·exact h
 ·rcases zXr ok hm with e|e
  ·exact hk e
  ·rw[h]at e;cases e
def zJk{s:yG}(h:xN s=true):toP μ 8 (.str s)=some (.str s):=by
 show(bif xN s then some (PyData.str s) else none)=_;rw[h];rfl
def zqd{a b:yG}(q:Q (.bl (Yx (.str a) (.str b))) μ)(ha:xN a=true:=by decide +kernel)(hb:xN b=true:=by decide +kernel):W2 gEq (.str a) (.str b) μ Q:=z8w (zJk ha) (zJk hb) q
def zru{a b:yG}(q:Q (.bl (!PyData.eqv (.str a) (.str b))) μ)(ha:xN a=true:=by decide +kernel)(hb:xN b=true:=by decide +kernel):W2 gNe (.str a) (.str b) μ Q:=zox (zJk ha) (zJk hb) q
structure Done(R:List Nat)(K:List (List Nat))(lay0 lay:List (Option Nat))(ks C:List Nat):Prop where
 right:Td R K lay
 sO:Ts R K lay C
 old:∀k,(lay0.getD k none).isSome=true->(lay.getD k none).isSome=true
 non:∀k,k∉ks->lay0.getD k none=none->lay.getD k none=none
 all:∀k∈ks,(lay.getD k none).isSome=true\/(k∈C/\lay.getD k none=none)
 out:C≠[]->∃k∈C,k∈ks/\lay.getD k none=none
def Done.put{key:Nat}(d:Done R K lay0 lay ks C)(hk:key∉ks)(hkey:lay.getD key none=none)(ok:Tf K lay key row)
 (hroom:lay.count (some (row.getD (row.length-1) (0,0)).2)<R.getD (row.getD (row.length-1) (0,0)).2 0):Done R K lay0 (zod lay row) (ks++[key]) C:=by
 have hlen:=d.right.len;refine⟨zti d.right ok hkey hroom,d.sO.push d.right ok hkey hroom,λk h=>zxi hlen ok (.inr (d.old k h)),λk h h0=>?_,λk h=>?_,λhC=>?_⟩
 ·rw[mem_append,not_or]at h;exact zPi ok (d.non k h.1 h0) (by simpa using h.2)
 ·rcases List.mem_append.mp h with h'|h
  ·rcases d.all k h' with h1|⟨h1,h2⟩
   ·exact .inl (zxi hlen ok (.inr h1))
   ·exact .inr ⟨h1,zPi ok h2 (by rintro rfl;exact hk h')⟩
  ·rw[List.mem_singleton.mp h];exact .inl (zxi hlen ok (.inl rfl))
 ·obtain⟨k,h1,h2,h3⟩:=d.out hC;exact⟨k,h1,mem_append_left _ h2,zPi ok h3 (by rintro rfl;exact hk h2)⟩
def Done.full{key:Nat}(d:Done R K lay0 lay ks C)(hkey:lay.getD key none=none)(hS:key∈S)(s:Ts R K lay S):Done R K lay0 lay (ks++[key]) (C++S):=by
 refine⟨d.right,d.sO.app s,d.old,λk h h0=>?_,λk h=>?_,λhC=>⟨key,mem_append_right _ hS,by simp,hkey⟩⟩
 ·rw[mem_append,not_or]at h;exact d.non k h.1 h0
 ·rcases List.mem_append.mp h with h|h
  ·rcases d.all k h with h1|⟨h1,h2⟩
   ·exact .inl h1
   ·exact .inr ⟨mem_append_left _ h1,h2⟩
  ·rw[List.mem_singleton.mp h];exact .inr ⟨mem_append_right _ hS,hkey⟩
def zdp(m:Nat)(C:List Nat):List Nat:=(yh m).filter λk=>decide (k∈C)
def zXf(h:∀k∈C,k<m)(k:Nat):k∈zdp m C↔k∈C:=by
 unfold zdp;rw[mem_filter,mem_range,decide_eq_true_iff];exact⟨λq=>q.2,λq=>⟨h k q,q⟩⟩
def zKu{G:FE}(hC:∀k∈C,k<m)(hm:m<64)(hl:C.length<=4000)(h:WE G J μ λx μ1=>x=.loc n/\μ1[n]?=some (.lst (nat C))/\Q (.loc μ1.length) (μ1++[.lst (nat (zdp m C))])):WE (zko G) J μ Q:=by
 have hmem:∀i:Int,i∈(zdp m C).map (λ(k:Nat)=>(k:Int))↔i∈C.map (λ(k:Nat)=>(k:Int)):=λi=>by
  simp only[mem_map];constructor
  ·rintro⟨k,hk,rfl⟩;exact⟨k,(zXf hC k).mp hk,rfl⟩
  ·rintro⟨k,hk,rfl⟩;exact⟨k,(zXf hC k).mpr hk,rfl⟩
 have hpw:((zdp m C).map (λ(k:Nat)=>(k:Int))).Pairwise (· < ·):=by
  rw[pairwise_map];exact(List.pairwise_lt_range.filter _).imp λh=>by omega
 have hp:=zFk hmem hpw;have hsort:=zCn hmem hpw;have hsl:(zdp m C).length<=m:=by unfold zdp;simpa using(filter_sublist (l:=yh m) (p:=λk=>decide (k∈C))).length_le
 refine z2s (h.mono ?_);rintro x μ1 ⟨rfl,g,q⟩;refine⟨_,C.map (λ(k:Nat)=>(k:Int)),rfl,by rw[g,map_map];rfl,by rw[length_map];omega,by rw[hp.length_eq,length_map];omega,?_⟩;rw[hsort,map_map];exact q
abbrev JLm(R:List Nat)(K:List (List Nat))(lay0:List (Option Nat))(ks:List Nat)(n m:Nat)(μ:Mem):Nat->M.Loc->Mem->Prop:=λi J ν=>∃(lay:List (Option Nat)) (C:List Nat) (l:Nat) (x y:Option D),J=[some (wn R K),some (.loc l),some (.loc m),some (.loc μ.length),x,y]/\Done R K lay0 lay (ks.take i) C/\C.length<=i*K.length/\tq μ ν/\(l=n/\lay=lay0\/μ.length<l)/\ν[μ.length]?=some (.lst (nat C))/\ν[l]?=some (.lst (lay.map onD))
def zWm(w:Wb L R K)(hL:L<=60)(rt:Td R K lay0)(hn:μ[n]?=some (.lst (lay0.map onD)))(hm:μ[m]?=some (.lst (nat ks)))(hks:∀k∈ks,k<K.length)(hnd:ks.Nodup)(hnon:∀k∈ks,lay0.getD k none=none)
 (q:∀(lay:List (Option Nat)) (C:List Nat) (l l2:Nat) (μ':Mem),Done R K lay0 lay ks C->tq μ μ'->(l=n/\lay=lay0\/μ.length<=l)->μ.length<=l2->l≠l2->μ'[l]?=some (.lst (lay.map onD))->μ'[l2]?=some (.lst (nat (zdp K.length C)))->Q (.tup [.loc l,.loc l2]) μ'):WF zPd [wn R K,.loc n,.loc m] μ Q:=by
 have hkl:=w.kl
 have hkn:ks.length<=K.length:=by
  have:=z1b hnd (m:=yh K.length) λx hx=>by simpa using hks x hx
  simpa using this
 refine zDb rfl ?_;show WS zQd [some (wn R K),some (.loc n),some (.loc m),none,none,none] μ _ _ _ _;unfold zQd;refine zu (zab (zRg (zy (zu (zhe (zMd (zh rfl (.inr (.inr ⟨m,_,rfl,zI hm,?_⟩)))))))));have hnl:=zJ hn
 refine zzb (JLm R K lay0 ks n m μ)
  ⟨lay0,[],n,_,_,rfl,⟨rt,.nil,λ_ h=>h,λ_ _ h=>h,by simp,λh=>absurd rfl h⟩,by simp,.app,.inl ⟨rfl,rfl⟩,zB,zI hn⟩ (λi J ν ⟨_,_,_,_,_,_,_,_,k,_⟩=>zW hm k) ?_ ?_
 ·rintro i z J ν hz ⟨lay,C,l,x,y,rfl,d,hCl,kp,hl,gC,gl⟩;rw[yj]at hz
  cases ek:ks[i]? with
  |none=>rw[ek]at hz;cases hz
  |some key=>
   rw[ek]at hz;cases hz;have hkm:=mem_of_getElem? ek;have hil:=(List.getElem?_eq_some_iff.mp ek).1;have htk:ks.take (i+1)=ks.take i++[key]:=by rw[take_succ,ek];rfl
   have hkt:key∉ks.take i:=by
    intro hmem;have nd:=hnd;rw[<-take_append_drop i ks,nodup_append]at nd;refine nd.2.2 _ hmem _ ?_ rfl;rw[drop_eq_getElem_cons hil,(List.getElem?_eq_some_iff.mp ek).2];exact mem_cons_self
   have hkey:=d.non key hkt (hnon key hkm);have hCb:i*K.length<=60*60:=Nat.mul_le_mul (by omega) (by omega);refine zwd ?_;unfold zlf;refine zu (zab (zw (zj (zh rfl (zj (zh rfl (zj (zh rfl (zy ?_)))))))));refine zyr w d.right.len (by omega) gl (hks key hkm) hkey (λrow r μ1 ok hroom hrl k1 hr gr=>?_) (λS r μ1 hS hkS s k1 hr gr=>?_)
   ·refine zkf (zL (zo (zo (zh rfl (w_c (zPb rfl rfl (w_c (zqd ⟨_,rfl,λ_=>?_,λh=>absurd h (by decide +kernel)⟩))))))));refine zab (zw (zj (zh rfl (zj (zh rfl (zj (zh rfl (zj (zo (zh rfl (w_c (zPb rfl rfl (zy ?_)))))))))))));refine zLp w (by omega) d.right (k1 _ _ gl) gr (by omega) ok hkey hroom λl' μ2 k2 hl' g2=>?_;refine⟨zod lay row,C,l',_,_,rfl,by rw[htk];exact d.put hkt hkey ok hroom,by rw[Nat.succ_mul];omega,kp.trans (k1.trans k2),.inr ?_,(k1.trans k2) _ _ gC,g2⟩;have:=(kp.trans k1).len;have:=k1.len;have:=zJ gC;omega
   ·refine zkf (zL (zo (zo (zh rfl (w_c (zPb rfl rfl (w_c (zqd ⟨_,rfl,λh=>?_,λ_=>?_⟩))))))))
    ·exact absurd h (by decide +kernel)
    have hSl:S.length<=K.length:=by simpa using hS.length_le
    refine zmg (zSi (zh rfl ⟨_,_,rfl,k1 _ _ gC,?_⟩));refine zj (zo (zh rfl (w_c (zPb rfl rfl (zy ?_)))));refine zlv (k1 _ _ gC) gr (by simp only[length_map];omega) ?_;have hlt:=zJ gC;refine⟨lay,C++S,l,_,_,rfl,by rw[htk];exact d.full hkey hkS s,by rw[Nat.succ_mul,length_append];omega,λa o e=>zT (k1 _ _ (kp a o e)) (yV (zJ e)),hl,?_,zT (k1 _ _ gl) (by rcases hl with ⟨h,_⟩|h<;>omega)⟩;rw[zR (k1 _ _ gC),z2b]
 ·rintro J ν ⟨lay,C,l,x,y,rfl,d,hCl,kp,hl,gC,gl⟩;rw[length_map,take_length]at d;rw[length_map]at hCl;have hCb:ks.length*K.length<=60*60:=Nat.mul_le_mul (by omega) (by omega);refine zqb (zwe (zj (zh rfl (zj ?_))));refine zKu (n:=μ.length) (m:=K.length) d.sO.keys (by omega) (by omega) (zh rfl ⟨rfl,gC,zy ?_⟩);have:=zJ gl;exact q lay C l _ _ d kp.to (by rcases hl with h|h;exact .inl h;exact .inr (by omega)) kp.len (by omega) (zI gl) zB
def z4l(w:Wb L R K)(hL:L<=60)
 (q:∀(lay:List (Option Nat)) (C:List Nat) (l l2:Nat) (μ':Mem),Done R K (yg K.length none) lay (yh K.length) C->tq μ μ'->μ.length<=l->μ.length<=l2->l≠l2->μ'[l]?=some (.lst (lay.map onD))->μ'[l2]?=some (.lst (nat (zdp K.length C)))->Q (.tup [.loc l,.loc l2]) μ'):WF zCc [wn R K] μ Q:=by
 have hkl:=w.kl;refine zDb rfl ?_;show WS zHc [some (wn R K)] μ _ _ _ _;unfold zHc;refine zqb (zw (zj (zh rfl (zj (zo (zRg (zj (w_c (zy (zw (zj (zo (zh rfl (w_c (zAc (zy (zbc rfl ?_)))))))))))))))));refine zpv zB (by rw[length_map];omega) (by omega) (by simp) ?_;refine zj (zPh (zw (zj (zo (zh rfl (w_c (zAc (zy (zbc rfl ⟨_,rfl,?_,zy ?_⟩)))))))))
 ·rw[length_map];omega
 have e1:(yg (((K.map tn).length:Nat):Int).toNat [D.non]).flatten=(yg K.length (none:Option Nat)).map onD:=by
  rw[yX,length_map,List.map_replicate,List.flatten_replicate_singleton]
 rw[e1,yX,length_map]
 have hrep:∀k,(yg K.length (none:Option Nat)).getD k none=none:=λk=>by
  rw[getD_eq_getElem?_getD,Yn]
  split<;>rfl
 refine zWm (ks:=yh K.length) w hL ⟨by simp,λk h e=>?_,λh=>?_⟩ (zI zB) zB (by simp) nodup_range (λk _=>hrep k) λlay C l l2 μ' d k hl hl2 hne g g2=>?_
 ·rw[Yn]at e
  split at e
  ·cases e
  ·cases e
 ·rw[List.count_replicate];simp
 ·have k':=(tq.to (tq.to (tq.app (μ:=μ) (g:=[.lst [.non]])))).trans k;refine q lay C l l2 μ' d k' ?_ ?_ hne g g2
  ·rcases hl with ⟨rfl,_⟩|hl
   ·simp
   ·simp at hl;omega
  ·simp at hl2;omega
def zkp(w:Wb L R K)(hL:L<=60)
 (q1:∀(lay:List (Option Nat)) (l:Nat) (μ':Mem),Td R K lay->(∀k<K.length,(lay.getD k none).isSome=true)->tq μ μ'->μ.length<=l->μ'[l]?=some (.lst (lay.map onD))->Q (.tup [.str "fits",.loc l]) μ')
 (q2:∀(T:List Nat)(l:Nat)(μ':Mem),T.Sublist (yh K.length)->zVc R K T=true->z5b R K T=none->tq μ μ'->μ.length<=l->μ'[l]?=some (.lst (nat T))->Q (.tup [.str "crowd",.loc l]) μ'):WF zog [wn R K] μ Q:=by
 have hkl:=w.kl;refine zDb rfl ?_;show WS zHh [some (wn R K),none] μ _ _ _ _;unfold zHh;refine zu (zab (zw (zj (zh rfl (zy ?_)))));refine z4l w hL λlay C l l2 μ1 d k1 hl hl2 hne g g2=>?_;refine zu (zkf (zL (zo (zo (zh rfl (w_c (zPb rfl rfl (zRg (zy ?_)))))))));refine zft (α:=Nat) (zdp K.length C) [] (zI g2) zB ⟨_,rfl,λh1=>?_,λh1=>zjb ?_⟩
 ·have h1:=of_decide_eq_true h1;refine zqb (zwe (zj (w_c (zj (zo (zh rfl (w_c (zPb rfl rfl (zy ?_)))))))));refine q1 lay l _ d.right (λk hk=>?_) k1.to hl (zI g);rcases d.all k (by simpa using hk) with h|⟨h,_⟩
  ·exact h
  ·have:=(zXf d.sO.keys k).mpr h;rw[h1]at this;cases this
 ·have h1:=of_decide_eq_false h1
  have hC:C≠[]:=by
   rintro rfl;exact h1 (by unfold zdp;simp)
  obtain⟨k0,hk0,_,hn0⟩:=d.out hC;have hsub:(zdp K.length C).Sublist (yh K.length):=filter_sublist;have hcr:=zLo w (d.sO.congr (zXf d.sO.keys)) d.right.len ((zXf d.sO.keys k0).mpr hk0) hn0;have hsl:(zdp K.length C).length<=K.length:=by simpa using hsub.length_le
  have hnd:=List.nodup_range.sublist hsub;refine zqb (zwe (zj (w_c (zj (zw (zj (zh rfl (zj (zo (zh rfl (w_c (zPb rfl rfl (zy ?_)))))))))))));refine z1o w (zI g2) (λk hk=>by simpa using hsub.subset hk) (by omega) hnd λl3 μ3 k3 hl3 g3=>zy ?_;exact q2 _ l3 μ3 ((z7l _ _).trans hsub) (zHi _ _ hcr) (zIl _ _ hnd (yi _)) (k1.to.trans k3) (by have:=k1.len;simp at hl3;omega) g3
def zAp(R:List Nat)(K:List (List Nat)):Prop:=∃lay,Td R K lay/\∀k<K.length,(lay.getD k none).isSome=true
def zFn(w:Wb L R K)(hT:T.Sublist (yh K.length))(hc:zVc R K T=true):¬zAp R K:=by
 rintro⟨lay,r,h⟩;have hTk:∀k∈T,k<K.length:=λk hk=>by simpa using hT.subset hk
 have:=zbr w r (List.nodup_range.sublist hT) hTk λk hk=>h k (hTk k hk);rw[hc]at this;cases this
structure Sb(R:List Nat)(K:List (List Nat))(X:List Nat):Prop where
 len:X.length=K.length
 home:∀(i h:Nat)(k:List Nat),X[i]?=some h->K[i]?=some k->h∈k
 room:∀h,X.count h<=R.getD h 0
def zBo(X:List Nat)(h:Nat):(X.map some).count (some h)=X.count h:=by
 induction X with
 |nil=>rfl
 |cons x X ih=>
  rw[map_cons,count_cons,count_cons,ih]
  congr 1
def Sb.right{X:List Nat}(a:Sb R K X):Td R K (X.map some):=by
 have hl:=a.len;refine⟨by rw[length_map];exact hl,λk h e=>?_,λh=>by rw[zBo];exact a.room h⟩;rw[yj]at e
 cases ex:X[k]? with
 |none=>rw[ex]at e;cases e
 |some h'=>
  rw[ex]at e;cases e;have hk:=(List.getElem?_eq_some_iff.mp ex).1;have ek:K[k]?=some (K.getD k []):=by rw[getD_eq_getElem?_getD,yo (by omega)];rfl
  exact a.home k h _ ex ek
def zUm{X:List Nat}(h:k<X.length):((X.map some).getD k none).isSome=true:=by
 rw[getD_eq_getElem?_getD,yj,yo h];rfl
def Sb.fits{X:List Nat}(a:Sb R K X):zAp R K:=⟨_,a.right,λk hk=>zUm (by have:=a.len;omega)⟩
def zeo{kvs:List (Int×D)}(h:μ[n]?=some (.dct kvs)):zJb μ (.loc n)=some kvs:=by simp only[zJb,h]
def zIw{G ψ:FE}(h:WE G J (μ++[.dct []]) λx μ1=>WE ψ J μ1 λy μ2=>∃i,x=.int i/\μ2[μ.length]?=some (.dct [])/\Q (.loc μ.length) (μ2.set μ.length (.dct [(i,y)]))):WE (zvw G ψ) J μ Q:=by
 obtain⟨x,μ1,e1,y,μ2,e2,i,rfl,e3,q⟩:=h;exact⟨_,_,by simp only[zvw,e1,e2,e3,yr],q⟩
def dkB(N:List Nat):List (Int×D):=N.map λ(h:Nat)=>((h:Int),D.bl true)
def zWs(N:List Nat)(h:Nat):List Nat:=if h∈N then N else N++[h]
def zBu{N:List Nat}(nd:N.Nodup):(zWs N h).Nodup:=by
 unfold zWs
 split
 ·exact nd
 ·rename_i hn
  rw[nodup_append];refine⟨nd,by simp,λa ha b hb=>?_⟩;rw[List.mem_singleton.mp hb];rintro rfl;exact hn ha
def zyu(N:List Nat)(h:Nat):zlo (dkB N) (h:Int) (.bl true)=dkB (zWs N h):=by
 have ha:((dkB N).any λp=>decide (p.1=(h:Int)))=decide (h∈N):=by
  refine zid ?_;unfold dkB;rw[any_map,any_eq_true];simp only[YG,decide_eq_true_iff];constructor
  ·rintro⟨p,hp,e⟩;have:p=h:=by omega
   subst this;exact hp
  ·intro hm;exact⟨h,hm,rfl⟩
 unfold zlo zWs;rw[ha]
 by_cases hm:h∈N
 ·rw[decide_eq_true hm,if_pos rfl,if_pos hm];unfold dkB;rw[map_map];refine map_congr_left λp _=>?_;simp only[YG]
  split<;>rfl
 ·rw[decide_eq_false hm,if_neg yv,if_neg hm];simp[dkB]
def zQn{N:List Nat}:(zDc (dkB N) (h:Int)).isSome=decide (h∈N):=by
 refine zid ?_;unfold zDc dkB;rw[Option.isSome_map,List.find?_isSome];constructor
 ·rintro⟨p,hp,e⟩;obtain⟨k,hk,rfl⟩:=List.mem_map.mp hp;have e:=of_decide_eq_true e;have:k=h:=by omega
  rw[<-this];exact hk
 ·intro hm;exact⟨_,List.mem_map.mpr ⟨h,hm,rfl⟩,decide_eq_true rfl⟩
inductive Jn(K:List (List Nat))(a:Nat):Nat->Prop
 |refl:Jn K a a
 |step {b c:Nat}:Jn K a b->(∃k∈K,b∈k/\c∈k)->Jn K a c
def Jn.trans{c:Nat}(h1:Jn K a b)(h2:Jn K b c):Jn K a c:=by
 induction h2 with
 |refl=>exact h1
 |step _ e ih=>exact .step ih e
def Jn.symm(h:Jn K a b):Jn K b a:=by
 induction h with
 |refl=>exact .refl
 |step _ e ih=>
  obtain⟨k,hk,h1,h2⟩:=e;exact Jn.trans (.step .refl ⟨k,hk,h2,h1⟩) ih
def jnB(K:List (List Nat))(a b:Nat):Bool:=@decide (Jn K a b) (Yz _)
def tW:jnB K a b=true↔Jn K a b:=@decide_eq_true_iff _ (Yz _)
def zG(n:Nat)(K:List (List Nat))(a:Nat):List Nat:=(yh n).filter λb=>jnB K a b
def tz:b∈zG n K a↔b<n/\Jn K a b:=by
 unfold zG;rw[mem_filter,mem_range,tW]
def zPe(n:Nat)(K:List (List Nat))(a:Nat):(zG n K a).Pairwise (· < ·):=List.pairwise_lt_range.filter _
def zSd{a b:List Nat}(na:a.Nodup)(nb:b.Nodup)(h:∀x,x∈a↔x∈b):a.Perm b:=(List.perm_ext_iff_of_nodup na nb).mpr h
def zKr(h:μ[n]?=some (.dct (dkB S)))(hp:T.Perm S)(hT:T.Pairwise (· < ·))(hl:S.length<64)(q:Q (.loc μ.length) (μ++[.lst (nat T)])):WF zdl [.loc n] μ Q:=by
 have e0:(dkB S).map (·.1)=S.map λ(k:Nat)=>(k:Int):=by unfold dkB;rw[map_map];rfl
 have e2:nat T=(T.map λ(k:Nat)=>(k:Int)).map D.int:=by rw[map_map];rfl
 have e3:z8i (S.map λ(k:Nat)=>(k:Int))=T.map λ(k:Nat)=>(k:Int):=by
  refine zjc ((mergeSort_perm _ _).trans (hp.symm.map _)) (zBg _) ?_;rw[pairwise_map];exact hT.imp λh=>by omega
 have e4:(dkB S).length<64:=by unfold dkB;rw[length_map];exact hl
 refine⟨_,_,?_,q⟩;simp only[zdl,zeo h,yr];rw[decide_eq_true e4,cond_true,e0,e3,<-e2]
structure Jw(n:Nat)(K:List (List Nat))(a:Nat)(S T:List Nat):Prop where
 nd:S.Nodup
 lt:∀s∈S,s<n
 jn:∀s∈S,Jn K a s
 one:a∈S
 sub:∀t∈T,t∈S
def Jw.len(j:Jw n K a S T):S.length<=n:=by
 simpa using z1b (m:=yh n) j.nd λs hs=>List.mem_range.mpr (j.lt s hs)
def Cl(K:List (List Nat))(S:List Nat)(s:Nat):Prop:=∀c,(∃k∈K,s∈k/\c∈k)->c∈S
def zXl(w:Wb L R K)(hL:L<=60)(hn:nest<R.length)(q:∀(l:Nat)(μ':Mem),tq μ μ'->μ.length<=l->μ'[l]?=some (.lst (nat (zG R.length K nest)))->Q (.loc l) μ'):WF zoc [wn R K,.int (nest:Nat)] μ Q:=by
 have hkl:=w.kl;have hrl:=w.rl;refine zDb rfl ?_;show WS zXd [some (wn R K),some (.int (nest:Nat)),none,none,none,none,none] μ _ _ _ _;unfold zXd;refine zu (zab (zIw (zh rfl (w_c ⟨_,rfl,zB,?_⟩))));have gA0:((μ++[tE.dct []]).set μ.length (.dct [((nest:Nat),D.bl true)]))[μ.length]?=some (.dct (dkB [nest])):=zR zB;have kA0:KB [] μ ((μ++[tE.dct []]).set μ.length (.dct [((nest:Nat),D.bl true)])):=KB.refl.app.set (.inr (yi _));generalize (μ++[tE.dct []]).set μ.length (.dct [((nest:Nat),D.bl true)])=μ1 at gA0 kA0;generalize hA:μ.length=A at gA0;have hA1:=zJ gA0;refine zu (zab (zRg (zj (zh rfl (zy ?_)))));have gA1:(μ1++[tE.lst [D.int (nest:Nat)]])[A]?=some (.dct (dkB [nest])):=zI gA0;have gB1:(μ1++[tE.lst [D.int (nest:Nat)]])[μ1.length]?=some (.lst (nat [nest])):=zB;have k1:KB [] μ (μ1++[tE.lst [D.int (nest:Nat)]]):=kA0.app;have hAB:A≠μ1.length:=by omega
 have hB:A<=μ1.length:=by omega
 generalize μ1++[tE.lst [D.int (nest:Nat)]]=μ2 at gA1 gB1 k1;generalize μ1.length=B at gB1 hAB hB;clear gA0 kA0 hA1;refine zu ?_
 refine zqi (n:=100000) (m:=2*(R.length-1)+1) (λm J ν=>∃(S T:List Nat)(x y z:Option D),J=[some (wn R K),some (.int (nest:Nat)),some (.loc A),some (.loc B),x,y,z]/\m=2*(R.length-S.length)+T.length/\m<=100/\Jw R.length K nest S T/\(∀s∈S,s∉T->Cl K S s)/\KB [] μ ν/\ν[A]?=some (.dct (dkB S))/\ν[B]?=some (.lst (nat T))) (by omega)
  ⟨[nest],[nest],_,_,_,rfl,rfl,by omega,⟨by simp,λs hs=>by rw[List.mem_singleton.mp hs];exact hn,λs hs=>by rw[List.mem_singleton.mp hs];exact .refl,by simp,λt ht=>ht⟩,λs hs hno=>absurd hs hno,k1,gA1,gB1⟩ ?_
 rintro m J ν ⟨S,T,x,y,z,rfl,rfl,h100,jw,cl,kν,gA,gB⟩;refine zL (zo (zh rfl (zRg (zy (zEu T [] (zI gB) zB ⟨_,rfl,λhT=>?_,λhT=>?_⟩)))))
 ·have hT:T≠[]:=by simpa using hT
  obtain⟨T',h,rfl⟩:∃T' h,T=T'++[h]:=⟨T.dropLast,T.getLast hT,(List.dropLast_concat_getLast hT).symm⟩
  have gA2:(ν++[tE.lst []])[A]?=some (.dct (dkB S)):=zI gA;have gB2:(ν++[tE.lst []])[B]?=some (.lst (nat T'++[.int (h:Nat)])):=by rw[zI gB,z2b];rfl
  have k2:KB [] μ (ν++[tE.lst []]):=kν.app;show WS z2d _ _ _ _ _ _;generalize ν++[tE.lst []]=ν2 at gA2 gB2 k2;unfold z2d;refine zu (zab (zmt (zh rfl ⟨_,_,rfl,gB2,z2w gB2 ?_⟩)));have hhS:h∈S:=jw.sub h (by simp);have hlen:=jw.len;refine zhe (zMd (zo (zh rfl (w_c (zAc (.inl ⟨_,rfl,?_⟩))))))
  refine zzb (λi J ν=>∃(S1 T1:List Nat)(y z:Option D),J=[some (wn R K),some (.int (nest:Nat)),some (.loc A),some (.loc B),some (.int (h:Nat)),y,z]/\2*(R.length-S1.length)+T1.length+1<=2*(R.length-S.length)+(T'++[h]).length/\Jw R.length K nest S1 T1/\h∈S1/\(∀s∈S1,s∉T1->s≠h->Cl K S1 s)/\(∀k∈K.take i,h∈k->∀c∈k,c∈S1)/\KB [] μ ν/\ν[A]?=some (.dct (dkB S1))/\ν[B]?=some (.lst (nat T1)))
   ⟨S,T',_,_,rfl,by rw[length_append];exact yi _,⟨jw.nd,jw.lt,jw.jn,jw.one,λt ht=>jw.sub t (mem_append_left _ ht)⟩,hhS,λs hs hno hne=>cl s hs λhm=>by
    rcases List.mem_append.mp hm with hm|hm
    ·exact hno hm
    ·exact hne (List.mem_singleton.mp hm),by simp,k2.set (.inr (by omega)),zT gA2 (yE hAB),zR gB2⟩ (λ_ _ _ _=>rfl) ?_ ?_
  ·rintro i z0 J ν3 hz ⟨S1,T1,y,z,rfl,hm,j1,hh1,cl1,pr1,k3,gA3,gB3⟩;rw[yj]at hz
   cases er:K[i]? with
   |none=>rw[er]at hz;cases hz
   |some ks=>
    rw[er]at hz;cases hz;have hks:=mem_of_getElem? er;have hkn:=(w.kn ks hks).2;have htk:K.take (i+1)=K.take i++[ks]:=by rw[take_succ,er];rfl
    refine zwd ?_;unfold zJf;refine zhe (zMd (zh rfl (.inl ⟨_,rfl,?_⟩)))
    refine zzb (λj J ν=>∃(S1 T1:List Nat)(z:Option D),J=[some (wn R K),some (.int (nest:Nat)),some (.loc A),some (.loc B),some (.int (h:Nat)),some (tn ks),z]/\2*(R.length-S1.length)+T1.length+1<=2*(R.length-S.length)+(T'++[h]).length/\Jw R.length K nest S1 T1/\h∈S1/\(∀s∈S1,s∉T1->s≠h->Cl K S1 s)/\(∀k∈K.take i,h∈k->∀c∈k,c∈S1)/\(h∈ks->∀c∈ks.take j,c∈S1)/\KB [] μ ν/\ν[A]?=some (.dct (dkB S1))/\ν[B]?=some (.lst (nat T1)))
     ⟨S1,T1,_,rfl,hm,j1,hh1,cl1,pr1,by simp,k3,gA3,gB3⟩ (λ_ _ _ _=>rfl) ?_ ?_
    ·rintro j z0 J ν4 hz ⟨S2,T2,z,rfl,hm,j2,hh2,cl2,pr2,ps2,k4,gA4,gB4⟩;rw[yj]at hz
     cases ej:ks[j]? with
     |none=>rw[ej]at hz;cases hz
     |some o=>
      rw[ej]at hz;cases hz;have hom:=mem_of_getElem? ej;have hoR:=hkn o hom;have htj:ks.take (j+1)=ks.take j++[o]:=by rw[take_succ,ej];rfl
      have hl2:=j2.len;refine zwd ?_;unfold zzf;refine zkf (zGn (zL (zo (zh rfl (zh rfl (zzm (S:=ks) rfl ⟨_,rfl,λhin=>?_,λhin=>⟨λh=>(by cases h),λ_=>zjb ?_⟩⟩))))))
      ·have hin:h∈ks:=of_decide_eq_true hin;refine zL (zo (zh rfl (zh rfl (zDn (zeo gA4) ⟨_,rfl,λho=>?_,λho=>zjb ?_⟩))))
       ·rw[zQn]at ho;have ho:o∉S2:=by simpa using ho
        refine zu (z4j (w_c (zWq (zh rfl (zh rfl ⟨_,_,_,rfl,rfl,gA4,by unfold dkB;rw[length_map];omega,?_⟩)))));rw[zyu];have eS:zWs S2 o=S2++[o]:=by unfold zWs;rw[if_neg ho]
        have gB5:(ν4.set A (.dct (dkB (zWs S2 o))))[B]?=some (.lst (nat T2)):=zT gB4 hAB;have gA5:(ν4.set A (.dct (dkB (zWs S2 o))))[A]?=some (.dct (dkB (S2++[o]))):=by rw[zR gA4,eS]
        have hT2:T2.length<=1000000:=by omega
        refine zmg (zSi (zh rfl ⟨_,_,rfl,gB5,zj (zh rfl (zy (zCh gB5 (by rw[length_map];exact hT2) ?_)))⟩));have nd':(S2++[o]).Nodup:=eS▸zBu j2.nd
        have j3:Jw R.length K nest (S2++[o]) (T2++[o]):=by
         refine⟨nd',λs hs=>?_,λs hs=>?_,mem_append_left _ j2.one,λt ht=>?_⟩
         ·rcases List.mem_append.mp hs with hs|hs
          ·exact j2.lt s hs
          ·rw[List.mem_singleton.mp hs];exact hoR
         ·rcases List.mem_append.mp hs with hs|hs
          ·exact j2.jn s hs
          ·rw[List.mem_singleton.mp hs];exact .step (j2.jn h hh2) ⟨ks,hks,hin,hom⟩
         ·rcases List.mem_append.mp ht with ht|ht
          ·exact mem_append_left _ (j2.sub t ht)
          ·exact mem_append_right _ ht
        have hl3:=j3.len;refine⟨S2++[o],T2++[o],_,rfl,?_,j3,mem_append_left _ hh2,λs hs hno hne=>?_,λk hk hhk c hc=>mem_append_left _ (pr2 k hk hhk c hc),λ_ c hc=>?_,(k4.set (.inr (by omega))).set (.inr (by omega)),zT gA5 (yE hAB),by rw[zR gB5,z2b];rfl⟩
        ·rw[length_append]at hl3 ⊢;rw[length_append];simp only[length_singleton]at hl3 ⊢;simp only[length_append,length_singleton]at hm ⊢;omega
        ·rcases List.mem_append.mp hs with hs|hs
         ·intro c hc;exact mem_append_left _ (cl2 s hs (λht=>hno (mem_append_left _ ht)) hne c hc)
         ·exact absurd (mem_append_right _ hs) hno
        ·rw[htj]at hc;rcases List.mem_append.mp hc with hc|hc
         ·exact mem_append_left _ (ps2 hin c hc)
         ·exact mem_append_right _ hc
       ·rw[zQn]at ho;have ho:o∈S2:=by simpa using ho
        refine⟨S2,T2,_,rfl,hm,j2,hh2,cl2,pr2,λ_ c hc=>?_,k4,gA4,gB4⟩;rw[htj]at hc;rcases List.mem_append.mp hc with hc|hc
        ·exact ps2 hin c hc
        ·rw[List.mem_singleton.mp hc];exact ho
      ·have hin:h∉ks:=of_decide_eq_false hin;exact⟨S2,T2,_,rfl,hm,j2,hh2,cl2,pr2,λh'=>absurd h' hin,k4,gA4,gB4⟩
    ·rintro J ν4 ⟨S2,T2,z,rfl,hm,j2,hh2,cl2,pr2,ps2,k4,gA4,gB4⟩;rw[length_map,take_length]at ps2;refine⟨S2,T2,_,_,rfl,hm,j2,hh2,cl2,λk hk hhk c hc=>?_,k4,gA4,gB4⟩;rw[htk]at hk;rcases List.mem_append.mp hk with hk|hk
     ·exact pr2 k hk hhk c hc
     ·rw[List.mem_singleton.mp hk]at hhk hc;exact ps2 hhk c hc
  ·rintro J ν3 ⟨S1,T1,y,z,rfl,hm,j1,hh1,cl1,pr1,k3,gA3,gB3⟩;rw[length_map,take_length]at pr1;refine⟨_,by omega,S1,T1,_,_,_,rfl,rfl,by omega,j1,λs hs hno=>?_,k3,gA3,gB3⟩
   by_cases hsh:s=h
   ·subst hsh;rintro c ⟨k,hk,h1,h2⟩;exact pr1 k hk h1 c h2
   ·exact cl1 s hs hno hsh
 ·have hT:T=[]:=by simpa using hT
  subst hT
  have hin:∀{b},Jn K nest b->b∈S:=λ{b} h=>by
   induction h with
   |refl=>exact jw.one
   |step hb e ih=>exact cl _ ih (by simp) _ e
  have hall:∀b,b∈zG R.length K nest↔b∈S:=λb=>by
   rw[tz];constructor
   ·exact λh=>hin h.2
   ·exact λh=>⟨jw.lt b h,jw.jn b h⟩
  have hlen:=jw.len;refine zqb (zw (zj (zh rfl (zy (zKr (zI gA) (zSd (List.nodup_range.filter _) jw.nd hall) (zPe _ _ _) (by omega) ?_)))));have kk:tq μ ((ν++[tE.lst []])++[tE.lst (nat (zG R.length K nest))]):=λa o e=>zI (zI (kν.at_ _ _ (by simp) e));refine q _ _ kk ?_ zB;have:=kν.len;simp;omega
def zDh{ns:List Int}(h:Ta ns μ l B)(hB:B<=1000000)(h0:0<s)(h1:s<=1000)(q:∀(v:Nat)(μ':Mem),v<s->KB [l] μ μ'->Ta ns μ' l (B+1)->Q (.int (v:Nat)) μ'):WF zhb [.loc l,.int (s:Nat)] μ Q :=
 zsk h hB (by omega) (by omega) λv μ' a b k _ p=>by
  obtain⟨v,rfl⟩:=Int.eq_ofNat_of_zero_le a;exact q v μ' (by omega) k p
def nin1(h:l≠a):a∉[l]:=λhm=>h (List.mem_singleton.mp hm).symm
def up100(hB:B<=200000)(hk:k<=100):B+k<=1000000:=by omega
def zfu(xs:List D)(lo hi:Option Int):(M.cutD xs lo hi).length<=xs.length:=by
 unfold M.cutD;rw[length_take,List.length_drop];exact yB (Nat.min_le_right _ _) (Nat.sub_le _ _)
def zib(n:Nat)(K:List (List Nat))(a:Nat):List Nat:=(yh K.length).filter λk=>decide ((K.getD k []).getD 0 0∈zG n K a)
def zMp(h:0<ks.length)(q:Q (.int (ks.getD 0 0:Nat)) μ):W2 gIx (tn ks) (.int 0) μ Q:=zPb rfl (zNh h) q
def zxq(w:Wb L R K)(hL:L<=60)(hn:nest<R.length)(q:∀(a b:Nat)(μ':Mem),tq μ μ'->μ.length<=a->a<b->μ'[a]?=some (.lst (nat (zG R.length K nest)))->μ'[b]?=some (.lst (nat (zib R.length K nest)))->Q (.tup [.loc a,.loc b]) μ'):WF z8f [wn R K,.int (nest:Nat)] μ Q:=by
 have hkl:=w.kl;refine zDb rfl ?_;show WS zNf [some (wn R K),some (.int (nest:Nat)),none] μ _ _ _ _;unfold zNf;refine zu (zab (zw (zj (zh rfl (zj (zh rfl (zy ?_)))))));refine zXl w hL hn λa μ1 k1 ha ga=>?_;refine zqb (zwe (zj (zh rfl (zj (zEm (z7f (zo (zh rfl (w_c (zAc (.inl ⟨_,rfl,?_⟩)))))))))));rw[zSb tn K []];refine⟨zfc (by simp;omega),?_⟩;refine zZd (λ(k:Nat)=>D.tup [.int k,tn (K.getD k [])]) (yh K.length) (λ(k:Nat)=>D.int k) (λk=>decide ((K.getD k []).getD 0 0∈zG R.length K nest)) (λ_ _=>rfl) (λk hk μ2 k2=>?_) (λμ2 k2=>?_)
 ·have hk:k<K.length:=List.mem_range.mp hk;refine zhl (z3d (zwd (z3d (zwd (zrk ?_)))));unfold zNi zUi;exact zL (zo (zo (zh rfl (w_c (zMp (by have:=(w.key hk).1;omega) (zh rfl (zzm (zt (k2 _ _ ga)) ⟨_,rfl,rfl,k2,λ_=>zh rfl ⟨rfl,k2⟩⟩)))))))
 ·refine zy (q a μ2.length _ (k1.trans k2.to) ha ?_ (zI (k2 _ _ ga)) zB);exact zJ (k2 _ _ ga)
def zJt(μ:Mem)(lo:Nat)(n:Nat)(K:List (List Nat))(l:Nat)(P:List Nat):Prop:=∃xs:List (Nat×Nat),μ[l]?=some (.lst (xs.map λp=>D.tup [.loc p.1,.loc p.2]))/\xs.length=P.length/\lo<=l/\∀(i:Nat)(p:Nat×Nat)(a:Nat),xs[i]?=some p->P[i]?=some a->lo<=p.1/\lo<=p.2/\p.1≠l/\p.2≠l/\μ[p.1]?=some (.lst (nat (zG n K a)))/\μ[p.2]?=some (.lst (nat (zib n K a)))
def zA(n:Nat)(K:List (List Nat)):List Nat:=(yh n).filter λa=>decide ((zG n K a).getD 0 0=a)
def zsf(h:a<n):0<(zG n K a).length:=List.length_pos_of_mem (tz.mpr ⟨h,.refl⟩)
def zMk(w:Wb L R K)(hL:L<=60)(q:∀(l:Nat)(μ':Mem),tq μ μ'->zJt μ' μ.length R.length K l (zA R.length K)->Q (.loc l) μ'):WF zrd [wn R K] μ Q:=by
 have hkl:=w.kl;have hrl:=w.rl;refine zDb rfl ?_;show WS zhk [some (wn R K),none] μ _ _ _ _;unfold zhk;refine zu (zab (zEm (zDg (zj (zw (zj (zo (zh rfl (w_c (zvd (zy (zbc rfl (zy ⟨_,rfl,by omega,?_,zfc ?_,?_⟩)))))))))))))
 ·rw[length_map];omega
 ·simp;omega
 rw[yX,length_map];refine zRq (λi ys μ'=>tq μ μ'/\∃xs:List (Nat×Nat),ys=xs.map (λp=>D.tup [.loc p.1,.loc p.2])/\xs.length=i/\∀(j:Nat)(p:Nat×Nat),xs[j]?=some p->μ.length<=p.1/\μ.length<=p.2/\μ'[p.1]?=some (.lst (nat (zG R.length K j)))/\μ'[p.2]?=some (.lst (nat (zib R.length K j)))) ⟨.refl,[],rfl,rfl,by simp⟩ (λ_ _ _ _=>rfl) ?_ ?_
 ·rintro i x ys μ1 hx ⟨k1,xs,rfl,hl,hxs⟩;obtain⟨hi,rfl⟩:=z0n hx;refine zwd (z2v ⟨λ_=>?_,λhf=>(by cases hf)⟩);unfold z1l;refine zw (zj (zh rfl (zj (zh rfl (zy ?_)))));refine zxq w hL hi λa b μ2 k2 ha hab ga gb=>⟨k1.trans k2,xs++[(a,b)],by rw[map_append];rfl,by simp[hl],λj p hj=>?_⟩
  have hm1:=k1.len
  by_cases hjl:j<xs.length
  ·rw[yu hjl]at hj;obtain⟨h1,h2,h3,h4⟩:=hxs j p hj;exact⟨h1,h2,k2 _ _ h3,k2 _ _ h4⟩
  ·have hj2:=(List.getElem?_eq_some_iff.mp hj).1;rw[length_append,length_singleton]at hj2;have ej:j=xs.length:=by omega
   subst ej;rw[yJ (yi _),Nat.sub_self]at hj;cases hj;rw[hl];exact⟨by show μ.length<=a;omega,by show μ.length<=b;omega,ga,gb⟩
 rintro ys μ1 ⟨k1,xs,rfl,hl,hxs⟩;simp only[length_map,length_range]at hl;have hm1:=k1.len;have g1:(μ1++[tE.lst (xs.map λp=>D.tup [.loc p.1,.loc p.2])])[μ1.length]?=some (.lst (xs.map λp=>D.tup [.loc p.1,.loc p.2])):=zB;have k2:tq μ1 (μ1++[tE.lst (xs.map λp=>D.tup [.loc p.1,.loc p.2])]) :=.app;generalize hM:μ1++[tE.lst (xs.map λp=>D.tup [.loc p.1,.loc p.2])]=M2 at g1 k2;refine zqb (zEm (z7f (zh rfl (.inr (.inr ⟨μ1.length,_,rfl,g1,?_⟩)))));rw[zSb (λ(p:Nat×Nat)=>D.tup [.loc p.1,.loc p.2]) xs (0,0),hl];refine⟨zfc (by simp;omega),?_⟩;refine zZd (λ(k:Nat)=>D.tup [.int k,D.tup [.loc (xs.getD k (0,0)).1,.loc (xs.getD k (0,0)).2]]) (yh R.length) (λ(k:Nat)=>D.tup [.loc (xs.getD k (0,0)).1,.loc (xs.getD k (0,0)).2]) (λa=>decide ((zG R.length K a).getD 0 0=a)) (λμ' k=>zW g1 k) (λk hk μ3 k3=>?_) (λμ3 k3=>?_)
 ·have hk:k<R.length:=List.mem_range.mp hk;obtain⟨h1,h2,h3,h4⟩:=hxs k (xs.getD k (0,0)) (by rw[getD_eq_getElem?_getD,yo (by omega)];rfl);refine zhl (z3d (zwd (z3d (zwd (zrk ?_)))));unfold zrl z0l;exact zL (zo (zo (zo (zh rfl (w_c (zPb rfl rfl (w_c (zPb (zt (k3 _ _ (k2 _ _ h3))) (zNh (i:=0) (zsf hk)) (zh rfl (zVo (α:=Nat) ((zG R.length K k).getD 0 0) k ⟨_,rfl,rfl,k3,λ_=>zh rfl ⟨rfl,k3⟩⟩))))))))))
 ·refine q _ _ (k1.trans (k2.trans k3.to)) ⟨(zA R.length K).map λk=>xs.getD k (0,0),by rw[zB,map_map];rfl,by simp,by have:=k2.len;have:=k3.len;omega,λi p a e1 e2=>?_⟩;rw[yj,e2]at e1;cases e1
  have ha:a<R.length:=by
   have:=mem_of_getElem? e2;unfold zA at this;exact List.mem_range.mp (List.mem_filter.mp this).1
  obtain⟨h1,h2,h3,h4⟩:=hxs a (xs.getD a (0,0)) (by rw[getD_eq_getElem?_getD,yo (by omega)];rfl);have g3:=k3 _ _ (k2 _ _ h3);have g4:=k3 _ _ (k2 _ _ h4);exact⟨h1,h2,yq (zJ g3),yq (zJ g4),zI g3,zI g4⟩
def mem0{k:List Nat}(h:0<k.length):k.getD 0 0∈k:=by
 cases k with
 |nil=>cases h
 |cons a t=>exact mem_cons_self
def zlr{ns:List Int}(h:Ta ns μ l B)(hB:B<=100000)(hm:0<m)(hm31:m<=31)
 (q:∀N K μ',Wb (m-1) (yg N 1) K->(∀k∈K,k.length=2)->KB [l] μ μ'->Ta ns μ' l (B+1000)->Q (wn (yg N 1) K) μ'):WF z3c [.loc l,.int (m:Nat)] μ Q:=by
 have hB2:B<=200000:=yB hB (by decide);refine zDb rfl ?_;show WS zkd [some (.loc l),some (.int (m:Nat)),none,none,none] μ _ _ _ _;unfold zkd;refine zu (zab (zo (w_c (zw (zj (zh rfl (zj (w_c (zy ?_)))))))));refine zDh (s:=10) h (up100 (k:=0) hB2 (by decide)) (by decide) (by decide) λn0 μ1 b1 k1 p1=>zDf ?_;rw[show(1:Int)+(n0:Nat)=((1+n0:Nat):Int) from(Int.natCast_add 1 n0).symm];have h1:0<1+n0:=by omega
 have hN:1+n0<=10:=by omega
 clear b1;generalize 1+n0=N at h1 hN;have hlc:l≠μ1.length:=yq p1.lt;have hc:μ.length<=μ1.length:=k1.len;refine zu (zab (zRg (zy ?_)));have pa:=p1.app (g:=[tE.lst []]);have ka:KB [l] μ (μ1++[tE.lst []]):=k1.app;have ga:(μ1++[tE.lst []])[μ1.length]?=some (.lst []):=zB;generalize μ1++[tE.lst []]=νa at pa ka ga;generalize μ1.length=c at ga hlc hc;refine zu (zhe (zDg (zj (zw (zj (zh rfl (zj (zh rfl (zy ?_)))))))));refine zDh pa (up100 (k:=1) hB2 (by decide)) hm (yB hm31 (by decide)) λt νb b0 kb pb=>zy ⟨_,rfl,Int.natCast_nonneg _,by omega,?_⟩;rw[yX];have ht:t<=m-1:=by omega
 have ht30:t<=30:=by omega
 refine zzb (λi J ν=>∃(K:List (List Nat)) (y:Option D),J=[some (.loc l),some (.int (m:Nat)),some (.int (N:Nat)),some (.loc c),y]/\K.length=i/\(∀k∈K,k.length=2/\∀h∈k,h<N)/\KB [l] μ ν/\Ta ns ν l (B+2+2*i)/\ν[c]?=some (.lst (K.map tn)))
  ⟨[],_,rfl,rfl,by simp,ka.trans kb,pb,kb.at_ _ _ (nin1 hlc) ga⟩ (λ_ _ _ _=>rfl) ?_ ?_
 ·rintro i z0 J ν1 hz ⟨K,y,rfl,hKl,hK,kk,pp,gg⟩;obtain⟨hi,rfl⟩:=z0n hz;have hB1:B+2+2*i<=300000:=by omega
  refine zwd ?_;unfold z5e;refine zmg (zSi (zh rfl ⟨_,_,rfl,gg,?_⟩));refine zj (zwe (zj (zw (zj (zh rfl (zj (zh rfl (zy ?_))))))));refine zDh pp (yB hB1 (by decide)) h1 (yB hN (by decide)) λa ν2 b2 k2 p2=>zj (zw (zj (zh rfl (zj (zh rfl (zy ?_))))));refine zDh p2 (yB (Nat.add_le_add_right hB1 1) (by decide)) h1 (yB hN (by decide)) λb ν3 b3 k3 p3=>zy (zy ?_);have g3:=k3.at_ _ _ (nin1 hlc) (k2.at_ _ _ (nin1 hlc) gg);refine zCh g3 (by rw[length_map];omega) ?_;refine⟨K++[[a,b]],_,rfl,by rw[length_append,hKl];rfl,λk hk=>?_,(kk.trans (k2.trans k3)).set (.inr hc),(p3.set (yE hlc)).up (by omega),?_⟩
  ·rcases List.mem_append.mp hk with hk|hk
   ·exact hK k hk
   ·rw[List.mem_singleton.mp hk];refine⟨rfl,λh hh=>?_⟩;rcases List.mem_cons.mp hh with rfl|hh
    ·exact b2
    ·rw[List.mem_singleton.mp hh];exact b3
  ·rw[zR g3,map_append];rfl
 ·rintro J ν1 ⟨K,y,rfl,hKl,hK,kk,pp,gg⟩;simp only[length_map,length_range]at hKl pp;refine zqb (zwe (zj (zw (zj (zEm (zDg (zj (zh rfl (zy ⟨_,rfl,Int.natCast_nonneg _,by omega,zfc (by simp;omega),?_⟩)))))))));rw[yX];refine zZf (λ(k:Nat)=>D.int k) (yh N) (λ_ =>.int 1) (λ_ _=>rfl) (λk hk μ2 k2=>?_) (λμ2 k2=>?_)
  ·refine zwd ?_;unfold z4e;exact w_c ⟨rfl,k2,k2⟩
  ·refine zy (zMm (zt zB) (zj (zw (zj (zh rfl (zy (zMm (zt (zI (k2 _ _ gg))) (zy ?_))))))))
   have e:(yh N).map (λ_=>D.int 1)=nat (yg N 1):=by
    show _=(yg N 1).map _;rw[List.map_replicate,List.map_const',length_range];rfl
   rw[e];refine q N K _ ⟨by rw[length_replicate];exact⟨h1,hN⟩,by rw[hKl];exact ht,λk hk=>?_⟩ (λk hk=>(hK k hk).1) ((kk.trans (KB.of_keep k2)).app) (((pp.keep k2).app).up (by omega));obtain⟨h2,h3⟩:=hK k hk;rw[length_replicate,h2];exact⟨by decide,h3⟩
def zpf(hN:N<=1000)(hKl:K.length<=1000)(h2:∀k∈K,k.length=2)(q:∀μ',tq μ μ'->Q .non μ'):WF zGb [wn (yg N 1) K] μ Q:=by
 refine zDb rfl ?_;show WS zEc [some (wn (yg N 1) K)] μ _ _ _ _;unfold zEc;refine zkf (zdj (zL (zw (zj (zEm (zMd (zo (zh rfl (w_c (zvd (.inl ⟨_,rfl,zfc (by rw[length_map,length_replicate];omega),?_⟩)))))))))));refine zZf (λ(k:Nat)=>D.int k) (yg N 1) (λ_ =>.bl false) (λ_ _=>rfl) (λk hk μ2 k2=>?_) (λμ2 k2=>?_)
 ·refine zwd ?_;unfold zAe;rw[List.eq_of_mem_replicate hk];exact zo (zh rfl (w_c (zcu ⟨rfl,k2,k2⟩)))
 refine zy (zgv (bs:=(yg N 1).map λ_=>false) (by rw[zB,map_map];rfl) ?_);have e:(((yg N 1).map λ_=>false).any λb=>b)=false:=by simp
 rw[e];refine⟨_,rfl,λ_=>?_,λh=>(by cases h)⟩;refine zL (zw (zj (zEm (zMd (zo (zh rfl (w_c (zAc (.inl ⟨_,rfl,zfc (by rw[length_map];omega),?_⟩)))))))));refine zZf tn K (λ_ =>.bl false) (λ_ _=>rfl) (λk hk μ3 k3=>?_) (λμ3 k3=>?_)
 ·refine zwd ?_;unfold zye;refine zo (zw (zj (zh rfl (zy (zbc rfl (w_c (zcu ⟨?_,k3,k3⟩)))))));rw[length_map,h2 k hk];rfl
 refine zy (zgv (bs:=K.map λ_=>false) (by rw[zB,map_map];rfl) ?_);have e:((K.map λ_=>false).any λb=>b)=false:=by simp
 rw[e];exact⟨_,rfl,λh=>(by cases h),λ_=>zjb (q _ (k2.to.trans k3.to))⟩
def mem1{k:List Nat}(h:1<k.length):k.getD 1 0∈k:=by
 match k,h with
 |_::b::_,_=>exact mem_cons_of_mem _ mem_cons_self
def znp(n:Nat)(K:List (List Nat))(k:Nat):Prop:=Jn (K.eraseIdx k) ((K.getD k []).getD 0 0) ((K.getD k []).getD 1 0)
def zHm{key:Nat}(w:Wb L R K)(hL:L<=60)(hk:key<K.length)(q:∀(b:Bool)(μ':Mem),(b=true↔znp R.length K key)->tq μ μ'->Q (.bl b) μ'):WF zad [wn R K,.int (key:Nat)] μ Q:=by
 have hkl:=w.kl;obtain⟨⟨h2,h3⟩,hkn⟩:=w.key hk;refine zDb rfl ?_;show WS znd [some (wn R K),some (.int (key:Nat)),none,none] μ _ _ _ _;unfold znd;refine zu (zab (zo (zo (zh rfl (w_c (zAc (zh rfl (z6o hk ?_))))))))
 have cl:∀(lo hi:Option Int),(M.cutD (K.map tn) lo hi).length<=K.length:=λlo hi=>by
  have:=zfu (K.map tn) lo hi;rw[length_map]at this;exact this
 have d1:=cl none (some (key:Int));have d2:=cl (some ((key:Int)+1)) none;refine zu (zab (zwe (zj (zo (zh rfl (w_c (zvd (zj (zo (zCx (zo (zh rfl (w_c (zAc (zms (zRn (zh rfl ⟨_,rfl,_,rfl,?_⟩)))))))))))))))));refine zCx (zo (zh rfl (w_c (zAc (zRn (zo (zh rfl (w_c (zDf ⟨_,rfl,zms ⟨_,rfl,z3s (by omega) (zy ?_)⟩⟩)))))))));have f1:=zQm (xs:=K.map tn) (i:=key);have f2:=zir (xs:=K.map tn) (i:=key+1);have f3:(((key+1:Nat)):Int)=(key:Int)+1:=by omega
 rw[f3]at f2;rw[f1,f2,<-List.map_take,<-List.map_drop,<-map_append,<-List.eraseIdx_eq_take_drop_succ];have w2:Wb L R (K.eraseIdx key):=⟨w.rl,by rw[List.length_eraseIdx,if_pos hk];omega,λk hk=>w.kn k (List.mem_of_mem_eraseIdx hk)⟩
 have m0:(K.getD key []).getD 0 0<R.length:=hkn _ (mem0 (by omega));have m1:(K.getD key []).getD 1 0<R.length:=hkn _ (mem1 (by omega));refine zqb (zo (zo (zh rfl (w_c (zPb rfl (zNh (i:=1) (by omega)) (zw (zj (zh rfl (zj (zo (zh rfl (w_c (zMp (by omega) (zy ?_))))))))))))));refine zXl w2 hL m0 λl μ1 k1 hl g=>zzm (zt g) (q _ _ ?_ k1);rw[decide_eq_true_iff,tz];exact⟨λh=>h.2,λh=>⟨m1,h⟩⟩
def zas(K:List (List Nat))(k:Nat):Bool:=@decide (znp 0 K k) (Yz _)
def zdi(K:List (List Nat)):List Nat:=(yh K.length).filter λk=>zas K k
def zjo(w:Wb L (yg N 1) K)(hL:L<=60)(h2:∀k∈K,k.length=2)(q:∀(l:Nat)(μ':Mem),tq μ μ'->μ.length<=l->μ'[l]?=some (.lst (nat (zdi K)))->Q (.loc l) μ'):WF z0e [wn (yg N 1) K] μ Q:=by
 have hkl:=w.kl;have hrl:=w.rl;rw[length_replicate]at hrl;refine zDb rfl ?_;show WS zTe [some (wn (yg N 1) K)] μ _ _ _ _;unfold zTe;refine zu (zmg (zw (zj (zh rfl (zy ?_)))));refine zpf (by omega) (by omega) h2 λμ1 k1=>?_;refine zqb (zEm (zDg (zj (zw (zj (zo (zh rfl (w_c (zAc (zy (zbc rfl (zy ⟨_,rfl,Int.natCast_nonneg _,?_,zfc ?_,?_⟩))))))))))))
 ·rw[length_map];omega
 ·simp;omega
 rw[yX,length_map];refine zZd (λ(k:Nat)=>D.int k) (yh K.length) (λ(k:Nat)=>D.int k) (λk=>zas K k) (λ_ _=>rfl) (λk hk μ2 k2=>?_) (λμ2 k2=>?_)
 ·refine zwd ?_;unfold zbh z6g;refine zL (zw (zj (zh rfl (zj (zh rfl (zy ?_))))));refine zHm w hL (List.mem_range.mp hk) λb μ3 hb k3=>⟨b,rfl,?_,k2.trans k3,λ_=>zh rfl ⟨rfl,k2.trans k3⟩⟩
  have hb:b=true↔zas K k=true:=hb.trans (@decide_eq_true_iff _ (Yz _)).symm;exact Bool.eq_iff_iff.mpr hb
 ·exact q _ _ (k1.trans k2.to) (yB k1.len k2.len) zB
def Jn.mono{E E':List (List Nat)}(h:∀k∈E,k∈E')(j:Jn E a b):Jn E' a b:=by
 induction j with
 |refl=>exact .refl
 |step _ e ih=>
  obtain⟨k,hk,h1,h2⟩:=e;exact .step ih ⟨k,h k hk,h1,h2⟩
structure Mk(n:Nat)(E:List (List Nat))(M:List Nat):Prop where
 len:M.length=n
 lt:∀k∈E,∀x∈k,x<n
 iff:∀a b,a<n->b<n->(M.getD a 0=M.getD b 0↔Jn E a b)
def zgs(n:Nat):Mk n [] (yh n):=by
 refine⟨by simp,by simp,λa b ha hb=>?_⟩;have e:∀{x},x<n->(yh n).getD x 0=x:=λ{x} hx=>by rw[getD_eq_getElem?_getD,List.getElem?_range hx];rfl
 rw[e ha,e hb];constructor
 ·rintro rfl;exact .refl
 ·intro h
  cases h with
  |refl=>rfl
  |step _ e=>
   obtain⟨k,hk,_⟩:=e;cases hk
def reM(M:List Nat)(old new:Nat):List Nat:=M.map λm=>if m=old then new else m
def zig{M:List Nat}(h:a<M.length):(reM M old new).getD a 0=if M.getD a 0=old then new else M.getD a 0:=by
 unfold reM;rw[getD_eq_getElem?_getD,yj,getD_eq_getElem?_getD,yo h];rfl
def zlu{f:Nat}{E:List (List Nat)}{M:List Nat}(m:Mk n E M)(hf:f<n)(hh:h<n):Mk n (E++[[f,h]]) (reM M (M.getD h 0) (M.getD f 0)):=by
 have hl:=m.len;refine⟨by unfold reM;rw[length_map];exact hl,λk hk x hx=>?_,λa b ha hb=>?_⟩
 ·rcases List.mem_append.mp hk with hk|hk
  ·exact m.lt k hk x hx
  ·rw[List.mem_singleton.mp hk]at hx;rcases List.mem_cons.mp hx with rfl|hx
   ·exact hf
   ·rw[List.mem_singleton.mp hx];exact hh
 have mono:∀{a b},Jn E a b->Jn (E++[[f,h]]) a b:=λj=>j.mono λk hk=>mem_append_left _ hk;have fh:Jn (E++[[f,h]]) f h:=.step .refl ⟨[f,h],by simp,by simp,by simp⟩;constructor
 ·rw[zig (by omega),zig (by omega)];intro e
  split at e<;>split at e
  ·rename_i h1 h2
   exact mono ((m.iff a b ha hb).mp (h1.trans h2.symm))
  ·rename_i h1 h2
   exact(mono ((m.iff a h ha hh).mp h1)).trans (fh.symm.trans (mono ((m.iff f b hf hb).mp e)))
  ·rename_i h1 h2
   exact(mono ((m.iff a f ha hf).mp e)).trans (fh.trans (mono ((m.iff h b hh hb).mp h2.symm)))
  ·exact mono ((m.iff a b ha hb).mp e)
 ·intro j
  have:∀{c},Jn (E++[[f,h]]) a c->c<n/\(reM M (M.getD h 0) (M.getD f 0)).getD a 0=(reM M (M.getD h 0) (M.getD f 0)).getD c 0:=λ{c} j=>by
   induction j with
   |refl=>exact⟨ha,rfl⟩
   |step _ e ih=>
    obtain⟨hb,ih⟩:=ih;obtain⟨k,hk,h1,h2⟩:=e;rcases List.mem_append.mp hk with hk|hk
    ·have hc:=m.lt k hk _ h2;refine⟨hc,ih.trans ?_⟩;rw[zig (by omega),zig (by omega),(m.iff _ _ hb hc).mpr (.step .refl ⟨k,hk,h1,h2⟩)]
    ·rw[List.mem_singleton.mp hk]at h1 h2
     have ef:(reM M (M.getD h 0) (M.getD f 0)).getD f 0=M.getD f 0:=by
      rw[zig (by omega)];split<;>rfl
     have eh:(reM M (M.getD h 0) (M.getD f 0)).getD h 0=M.getD f 0:=by
      rw[zig (by omega),if_pos rfl]
     have one:∀{x},x∈[f,h]->x<n/\(reM M (M.getD h 0) (M.getD f 0)).getD x 0=M.getD f 0:=λ{x} hx=>by
      rcases List.mem_cons.mp hx with rfl|hx
      ·exact⟨hf,ef⟩
      ·rw[List.mem_singleton.mp hx];exact⟨hh,eh⟩
     exact⟨(one h2).1,ih.trans ((one h1).2.trans (one h2).2.symm)⟩
  exact(this j).2
def z4s{K:List (List Nat)}(hK:∀k,k∈K↔k∈K'\/k=[e0,e1]){a b:Nat}:Jn K a b↔Jn K' a b\/(Jn K' a e0/\Jn K' e1 b)\/(Jn K' a e1/\Jn K' e0 b):=by
 have mono:∀{a b},Jn K' a b->Jn K a b:=λj=>j.mono λk hk=>(hK k).mpr (.inl hk);have edge:Jn K e0 e1:=.step .refl ⟨[e0,e1],(hK _).mpr (.inr rfl),by simp,by simp⟩;constructor
 ·intro j
  induction j with
  |refl=>exact .inl .refl
  |@step b c _ e ih=>
   obtain⟨k,hk,h1,h2⟩:=e;rcases(hK k).mp hk with hk|rfl
   ·have s:∀{x},Jn K' x b->Jn K' x c:=λj =>.step j ⟨k,hk,h1,h2⟩;rcases ih with ih|⟨i1,i2⟩|⟨i1,i2⟩
    ·exact .inl (s ih)
    ·exact .inr (.inl ⟨i1,s i2⟩)
    ·exact .inr (.inr ⟨i1,s i2⟩)
   ·have hb:b=e0\/b=e1:=by simpa using h1
    have hc:c=e0\/c=e1:=by simpa using h2
    rcases hb with rfl|rfl<;>rcases hc with rfl|rfl
    ·exact ih
    ·rcases ih with ih|⟨i1,_⟩|⟨i1,_⟩
     ·exact .inr (.inl ⟨ih,.refl⟩)
     ·exact .inr (.inl ⟨i1,.refl⟩)
     ·exact .inl i1
    ·rcases ih with ih|⟨i1,_⟩|⟨i1,_⟩
     ·exact .inr (.inr ⟨ih,.refl⟩)
     ·exact .inl i1
     ·exact .inr (.inr ⟨i1,.refl⟩)
    ·exact ih
 ·rintro(h|⟨h1,h2⟩|⟨h1,h2⟩)
  ·exact mono h
  ·exact(mono h1).trans (edge.trans (mono h2))
  ·exact(mono h1).trans (edge.symm.trans (mono h2))
def zkl(ha:a<n):(zG n K a).getD 0 0=a↔∀b,b<n->Jn K a b->a<=b:=by
 obtain⟨c,t,ec⟩:=List.exists_cons_of_length_pos (zsf (K:=K) ha);have hpw:=zPe n K a;have hc:c∈zG n K a:=by rw[ec];exact mem_cons_self
 have haM:a∈zG n K a:=tz.mpr ⟨ha,.refl⟩;rw[ec,List.pairwise_cons]at hpw
 have hle:∀b∈zG n K a,c<=b:=λb hb=>by
  rw[ec]at hb;rcases List.mem_cons.mp hb with rfl|hb
  ·exact yi _
  ·exact Ys (hpw.1 b hb)
 rw[ec];show c=a↔_;constructor
 ·rintro rfl b hb j;exact hle b (tz.mpr ⟨hb,j⟩)
 ·intro h;have h1:=hle a haM;have h2:=tz.mp hc;have:=h c h2.1 h2.2;omega
def zRp{K:List (List Nat)}(h:∀a b,Jn K a b↔Jn K' a b):zG n K=zG n K':=by
 funext a
 unfold zG;refine filter_congr λb _=>?_;exact Bool.eq_iff_iff.mpr (tW.trans ((h a b).trans tW.symm))
def zJs(ha:a<n):∃r,r<n/\Jn K a r/\∀b,b<n->Jn K r b->r<=b:=by
 obtain⟨c,t,ec⟩:=List.exists_cons_of_length_pos (zsf (K:=K) ha);have hpw:=zPe n K a;have hc:c∈zG n K a:=by rw[ec];exact mem_cons_self
 rw[ec,List.pairwise_cons]at hpw;obtain⟨h1,h2⟩:=tz.mp hc;refine⟨c,h1,h2,λb hb j=>?_⟩;have hb':b∈zG n K a:=tz.mpr ⟨hb,h2.trans j⟩;rw[ec]at hb';rcases List.mem_cons.mp hb' with rfl|hb'
 ·exact yi _
 ·exact Ys (hpw.1 b hb')
def zQb:List Nat->Nat
 |[]=>1
 |x::xs=>x*zQb xs
def zal{xs ys:List Nat}(h:xs.Perm ys):zQb xs=zQb ys:=by
 induction h with
 |nil=>rfl
 |cons x _ ih=>show x*_=x*_;rw[ih]
 |swap x y l=>show y*(x*_)=x*(y*_);rw[<-Nat.mul_assoc,<-Nat.mul_assoc,Nat.mul_comm y x]
 |trans _ _ ih1 ih2=>rw[ih1,ih2]
def zUn(xs ys:List Nat):zQb (xs++ys)=zQb xs*zQb ys:=by
 induction xs with
 |nil=>show _=1*_;rw[Nat.one_mul];rfl
 |cons x xs ih=>show x*zQb (xs++ys)=x*zQb xs*zQb ys;rw[ih,Nat.mul_assoc]
def ztl{xs:List Nat}(h:∀x∈xs,x=1):zQb xs=1:=by
 induction xs with
 |nil=>rfl
 |cons x xs ih=>show x*zQb xs=1;rw[h x (by simp),ih λy hy=>h y (by simp[hy])]
def zqc{L:List Nat}{F φ:Nat->Nat}(h:∀x∈L,F x=φ x):zQb (L.map F)=zQb (L.map φ):=by rw[map_congr_left h]
def zQh{L:List Nat}(F:Nat->Nat)(hi:i∈L):zQb (L.map F)=F i*zQb ((L.erase i).map F):=by
 rw[zal ((List.perm_cons_erase hi).map F)];rfl
def zxr(F:Nat->Nat)(hi:i<n):∃p,∀φ:Nat->Nat,(∀x,x<n->x≠i->φ x=F x)->zQb ((yh n).map φ)=φ i*p:=by
 refine⟨zQb (((yh n).erase i).map F),λφ h=>?_⟩;rw[zQh φ (List.mem_range.mpr hi)]
 congr 1
 refine zqc λx hx=>?_;obtain⟨h1,h2⟩:=(List.nodup_range.mem_erase_iff).mp hx;exact h x (List.mem_range.mp h2) h1
def zCr{j:Nat}(F:Nat->Nat)(hi:i<n)(hj:j<n)(hne:i≠j):∃p,∀φ:Nat->Nat,(∀x,x<n->x≠i->x≠j->φ x=F x)->zQb ((yh n).map φ)=φ i*φ j*p:=by
 refine⟨zQb ((((yh n).erase i).erase j).map F),λφ h=>?_⟩;have hnd:=(nodup_range (n:=n)).erase i;rw[zQh φ (List.mem_range.mpr hi),zQh φ ((List.nodup_range.mem_erase_iff).mpr ⟨yE hne,List.mem_range.mpr hj⟩),Nat.mul_assoc]
 congr 2
 refine zqc λx hx=>?_;obtain⟨h1,h2⟩:=hnd.mem_erase_iff.mp hx;obtain⟨h3,h4⟩:=(List.nodup_range.mem_erase_iff).mp h2;exact h x (List.mem_range.mp h4) h3 h1
def gW(v e s:Nat)(l:Bool):Nat :=
 if v=0 then 1 else if e+1=v then(if s=0 then v else if s=1 then 1 else 0) else if e=v then(if s=0 then(if l then 1 else 2) else 0) else 0
def z9b{l:Bool}(h:e+1=v):gW v e s l=if s=0 then v else if s=1 then 1 else 0:=by
 unfold gW;rw[if_neg (by omega),if_pos h]
def zMb{l:Bool}(h:e=v)(h0:0<v):gW v e s l=if s=0 then(if l then 1 else 2) else 0:=by
 unfold gW;rw[if_neg (by omega),if_neg (by omega),if_pos h]
def zbb{l:Bool}(h:v<e)(h0:0<v):gW v e s l=0:=by
 unfold gW;rw[if_neg (by omega),if_neg (by omega),if_neg (by omega)]
def zOt{va ea sa vb eb sb:Nat}{la lb:Bool}(a0:0<va)(b0:0<vb)(ha:va<=ea+1)(hb:vb<=eb+1)(hla:la=true->va<=ea)(hlb:lb=true->vb<=eb) :
 gW va ea (sa+1) la*gW vb eb sb lb+gW va ea sa la*gW vb eb (sb+1) lb=gW (va+vb) (ea+eb+1) (sa+sb) (la||lb):=by
 have ta:ea+1=va\/ea=va\/va<ea:=by omega
 have tb:eb+1=vb\/eb=vb\/vb<eb:=by omega
 rcases ta with ta|ta|ta<;>rcases tb with tb|tb|tb
 ·rw[z9b ta,z9b tb,z9b ta,z9b tb,z9b (by omega)];rcases sa with _|sa<;>rcases sb with _|sb<;>simp<;>(try omega)
 ·have:la=false:=by cases la with|false=>rfl|true=>exact absurd (hla rfl) (by omega)
  subst this;rw[z9b ta,zMb tb b0,z9b ta,zMb tb b0,zMb (by omega) (by omega)];rcases sa with _|sa<;>rcases sb with _|sb<;>simp
 ·rw[zbb tb b0,zbb tb b0,zbb (v:=va+vb) (e:=ea+eb+1) (by omega) (by omega)];simp
 ·have:lb=false:=by cases lb with|false=>rfl|true=>exact absurd (hlb rfl) (by omega)
  subst this;rw[zMb ta a0,z9b tb,zMb ta a0,z9b tb,zMb (by omega) (by omega)];rcases sa with _|sa<;>rcases sb with _|sb<;>simp
 ·rw[zMb ta a0,zMb tb b0,zMb ta a0,zMb tb b0,zbb (by omega) (by omega)];simp
 ·rw[zbb tb b0,zbb tb b0,zbb (v:=va+vb) (e:=ea+eb+1) (by omega) (by omega)];simp
 ·rw[zbb ta a0,zbb ta a0,zbb (v:=va+vb) (e:=ea+eb+1) (by omega) (by omega)];simp
 ·rw[zbb ta a0,zbb ta a0,zbb (v:=va+vb) (e:=ea+eb+1) (by omega) (by omega)];simp
 ·rw[zbb ta a0,zbb ta a0,zbb (v:=va+vb) (e:=ea+eb+1) (by omega) (by omega)];simp
def z2t{l:Bool}(v0:0<v)(hv:v<=e+1)(hl:l=true->v<=e):gW v e (s+1) l+gW v e (s+1) l=gW v (e+1) s l:=by
 have t:e+1=v\/e=v\/v<e:=by omega
 rcases t with t|t|t
 ·have:l=false:=by cases l with|false=>rfl|true=>exact absurd (hl rfl) (by omega)
  subst this;rw[z9b t,zMb t v0];rcases s with _|s<;>simp
 ·rw[zMb t v0,zbb (by omega) v0];simp
 ·rw[zbb t v0,zbb (by omega) v0]
def zdt{l:Bool}(v0:0<v)(hv:v<=e+1):gW v e (s+1) l=gW v (e+1) s true:=by
 have t:e+1=v\/e=v\/v<e:=by omega
 rcases t with t|t|t
 ·rw[z9b t,zMb t v0];rcases s with _|s<;>simp
 ·rw[zMb t v0,zbb (by omega) v0];simp
 ·rw[zbb t v0,zbb (by omega) v0]
def zes{l:Bool}(v0:0<v)(hv:v<=e+1)(hs:0<s):gW v e (s+1) l=0:=by
 have t:e+1=v\/e=v\/v<e:=by omega
 rcases t with t|t|t
 ·rw[z9b t,if_neg (by omega),if_neg (by omega)]
 ·rw[zMb t v0,if_neg (by omega)]
 ·rw[zbb t v0]
def zzd(rows:List (List Nat))(U:List Nat):List (List Nat):=U.flatMap λh=>(rows.filter λr=>!decide (h∈r)).map λr=>r++[h]
def zSo(S r:List Nat):Bool:=S.all λs=>!decide (s∈r)
def z8j(rows:List (List Nat))(S:List Nat):Nat:=rows.countP (zSo S)
def zPl(S r:List Nat)(h:Nat):zSo S (r++[h])=(!decide (h∈S)&&zSo S r):=by
 rw[xS];unfold zSo;simp only[List.all_eq_true,yN,Bool.not_eq_true',decide_eq_false_iff_not,mem_append,List.mem_singleton,not_or];constructor
 ·intro q;exact⟨λhs=>(q h hs).2 rfl,λs hs=>(q s hs).1⟩
 ·rintro⟨q1,q2⟩ s hs;exact⟨q2 s hs,λe=>q1 (e▸hs)⟩
def zzu(rows:List (List Nat))(S:List Nat)(h:Nat):z8j (zzd rows [h]) S=if h∈S then 0 else z8j rows (h::S):=by
 unfold z8j zzd;rw[List.flatMap_singleton,countP_map,List.countP_filter]
 by_cases hs:h∈S
 ·rw[if_pos hs,List.countP_eq_zero];intro r _;rw[YG,zPl,decide_eq_true hs];simp
 ·rw[if_neg hs];refine countP_congr λr _=>?_;rw[YG,zPl,decide_eq_false hs];unfold zSo;rw[all_cons,Bool.not_false,Bool.true_and,Bool.and_comm]
def z0t(rows:List (List Nat))(S:List Nat)(h h':Nat):z8j (zzd rows [h,h']) S=z8j (zzd rows [h]) S+z8j (zzd rows [h']) S:=by
 unfold z8j zzd;simp only[List.flatMap_cons,List.flatMap_nil,append_nil,List.countP_append]
abbrev zOp(M:List Nat)(k:List Nat):Nat:=M.getD (k.getD 0 0) 0
def zre(k:List Nat):Bool:=decide (k.getD 0 0=k.getD 1 0)
abbrev eL(K:List (List Nat))(M:List Nat)(l:Nat):Nat:=(K.map (zOp M)).count l
abbrev sL(S M:List Nat)(l:Nat):Nat:=(S.map λv=>M.getD v 0).count l
abbrev lL(K:List (List Nat))(M:List Nat)(l:Nat):Nat:=((K.filter zre).map (zOp M)).count l
abbrev gK(K:List (List Nat))(M S:List Nat)(l:Nat):Nat:=gW (M.count l) (eL K M l) (sL S M l) (decide (0<lL K M l))
def zrh{σ:List Nat}(hne:new≠old):(reM σ old new).count l=if l=new then σ.count new+σ.count old else if l=old then 0 else σ.count l:=by
 induction σ with
 |nil=>simp[reM]
 |cons y σ ih=>
  have e:reM (y::σ) old new=(if y=old then new else y)::reM σ old new:=rfl;rw[e,count_cons,ih];simp only[count_cons,beq_iff_eq]
  by_cases h1:y=old
  ·subst h1
   by_cases h2:l=new
   ·subst h2;simp[yE hne];omega
   ·by_cases h3:l=y
    ·subst h3;simp[hne,h2]
    ·simp[h2,h3,yE h2,yE h3]
  ·by_cases h2:l=new
   ·subst h2;simp[h1];omega
   ·by_cases h3:l=old
    ·subst h3;simp[h1,h2]
    ·simp[h1,h2,h3]
def zXt(M:List Nat)(l:Nat):reM M l l=M:=by
 unfold reM
 conv=>rhs;rw[<-List.map_id M]
 refine map_congr_left λm _=>?_
 by_cases h:m=l
 ·rw[if_pos h];exact h.symm
 ·rw[if_neg h];rfl
def zhq{α:Type}{X:List α}{f:α->Nat}{M:List Nat}(h:∀x∈X,f x<M.length):(X.map λx=>(reM M old new).getD (f x) 0)=reM (X.map λx=>M.getD (f x) 0) old new:=by
 conv=>rhs;unfold reM
 rw[map_map];refine map_congr_left λx hx=>?_;rw[zig (h x hx)];rfl
def zzh{M:List Nat}(h:v<M.length):0<M.count (M.getD v 0):=by
 rw[List.count_pos_iff];rw[getD_eq_getElem?_getD,yo h];exact getElem_mem h
structure Cw(n:Nat)(K:List (List Nat))(M:List Nat)(rows:List (List Nat)):Prop where
 mks:Mk n K M
 lt:∀v,v<n->M.getD v 0<n
 two:∀k∈K,k.length=2
 tr:∀l,0<M.count l->M.count l<=eL K M l+1
 lp:∀l,0<lL K M l->M.count l<=eL K M l
 cn:∀S:List Nat,S.Nodup->(∀v∈S,v<n)->z8j rows S=zQb ((yh n).map (gK K M S))
def zWn(n:Nat):Cw n [] (yh n) [[]]:=by
 have e:∀{x},x<n->(yh n).getD x 0=x:=λ{x} hx=>by rw[getD_eq_getElem?_getD,List.getElem?_range hx];rfl
 refine⟨zgs n,λv h=>by rw[e h];exact h,by simp,λl h=>?_,λl h=>by simp[lL]at h,λS nd hS=>?_⟩
 ·have:=(nodup_range (n:=n)).count (a:=l);simp only[mem_range]at this;rw[this]
  split<;>omega
 ·have h1:z8j [[]] S=1:=by
   unfold z8j;rw[countP_cons,List.countP_nil];unfold zSo;simp
  rw[h1];refine(ztl λx hx=>?_).symm;obtain⟨l,hl,rfl⟩:=List.mem_map.mp hx
  have c1:(yh n).count l=1:=by
   rw[(nodup_range (n:=n)).count,if_pos hl]
  have c2:sL S (yh n) l<=1:=by
   have e2:(S.map λv=>(yh n).getD v 0)=S:=by
    conv=>rhs;rw[<-List.map_id S]
    exact map_congr_left λv hv=>e (hS v hv)
   show(S.map λv=>(yh n).getD v 0).count l<=1;rw[e2,nd.count]
   split<;>omega
  show gW _ _ _ _=1;rw[c1,z9b (by simp[eL])];have:sL S (yh n) l=0\/sL S (yh n) l=1:=by omega
  rcases this with h|h<;>rw[h]<;>rfl
def zSt{M:List Nat}(c:Cw n K M rows)(nd:S.Nodup)(hS:∀v∈S,v<n)(hh:h<n):z8j (zzd rows [h]) S=zQb ((yh n).map λl=>gW (M.count l) (eL K M l) (sL S M l+if M.getD h 0=l then 1 else 0) (decide (0<lL K M l))):=by
 rw[zzu]
 by_cases hm:h∈S
 ·rw[if_pos hm];have hl:=c.mks.len;rw[zQh (i:=M.getD h 0) _ (List.mem_range.mpr (c.lt h hh))];have hp:=zzh (M:=M) (v:=h) (by omega)
  have hs:0<sL S M (M.getD h 0):=by
   rw[List.count_pos_iff];exact List.mem_map.mpr ⟨h,hm,rfl⟩
  rw[if_pos rfl,zes hp (c.tr _ hp) hs,Nat.zero_mul]
 ·rw[if_neg hm,c.cn (h::S) (List.nodup_cons.mpr ⟨hm,nd⟩) (λv hv=>by
   rcases List.mem_cons.mp hv with rfl|hv
   ·exact hh
   ·exact hS v hv)]
  refine zqc λl _=>?_;show gW _ _ (sL (h::S) M l) _=_
  congr 1
  show((h::S).map λv=>M.getD v 0).count l=_;rw[map_cons,count_cons];simp only[beq_iff_eq]
def zZq{M U:List Nat}(c:Cw n K M rows)(ha:a<n)(hb:b<n)(h1:a=b->U=[a])(h2:a≠b->U=[a,b]\/U=[b,a]) :
 Cw n (K++[[a,b]]) (reM M (M.getD b 0) (M.getD a 0)) (zzd rows U):=by
 have hlen:=c.mks.len
 have hk0:∀k∈K,k.getD 0 0<M.length:=λk hk=>by
  have h2:=c.two k hk;rw[hlen];refine c.mks.lt k hk _ ?_;rw[getD_eq_getElem?_getD,yo (by omega)];exact getElem_mem _
 have pa:=zzh (M:=M) (v:=a) (by omega);have pb:=zzh (M:=M) (v:=b) (by omega);have la:=c.lt a ha;have lb:=c.lt b hb;have mk':=zlu c.mks ha hb
 have two':∀k∈K++[[a,b]],k.length=2:=λk hk=>by
  rcases List.mem_append.mp hk with hk|hk
  ·exact c.two k hk
  ·rw[List.mem_singleton.mp hk];rfl
 have cnU:∀S:List Nat,S.Nodup->(∀v∈S,v<n)->z8j (zzd rows U) S=if a=b then z8j (zzd rows [a]) S else z8j (zzd rows [a]) S+z8j (zzd rows [b]) S:=λS _ _=>by
  by_cases hab:a=b
  ·rw[if_pos hab,h1 hab]
  ·rw[if_neg hab];rcases h2 hab with e|e<;>rw[e,z0t]
   exact Nat.add_comm _ _
 have lpK:(K++[[a,b]]).filter zre=K.filter zre++if a=b then[[a,b]] else[]:=by
  rw[List.filter_append]
  congr 1
  by_cases hab:a=b
  ·rw[if_pos hab,List.filter_cons_of_pos (by simp[zre,hab])];rfl
  ·rw[if_neg hab,List.filter_cons_of_neg (by simp[zre,hab])];rfl
 by_cases hl:M.getD a 0=M.getD b 0
 ·-- both in one part
  rw[hl,zXt]at mk' ⊢
  have e1:∀l,eL (K++[[a,b]]) M l=eL K M l+if M.getD a 0=l then 1 else 0:=λl=>by
   show((K++[[a,b]]).map (zOp M)).count l=_;rw[map_append,count_append];show _+[M.getD a 0].count l=_;rw[List.count_singleton];simp only[beq_iff_eq]
  have l1:∀l,lL (K++[[a,b]]) M l=lL K M l+if a=b/\M.getD a 0=l then 1 else 0:=λl=>by
   show(((K++[[a,b]]).filter zre).map (zOp M)).count l=_;rw[lpK,map_append,count_append]
   congr 1
   by_cases hab:a=b
   ·rw[if_pos hab];show[M.getD a 0].count l=_;rw[List.count_singleton];simp[hab]
   ·simp[hab]
  refine⟨mk',c.lt,two',λl h=>?_,λl h=>?_,λS nd hS=>?_⟩
  ·have:=c.tr l h;rw[e1];omega
  ·rw[e1];rw[l1]at h
   by_cases hh:a=b/\M.getD a 0=l
   ·rw[if_pos hh.2];obtain⟨_,rfl⟩:=hh;exact c.tr _ pa
   ·rw[if_neg hh]at h;have:=c.lp l h;omega
  ·rw[cnU S nd hS];obtain⟨p,hp⟩:=zxr (n:=n) (i:=M.getD a 0) (gK K M S) la
   have hr:zQb ((yh n).map (gK (K++[[a,b]]) M S))=gW (M.count (M.getD a 0)) (eL K M (M.getD a 0)+1) (sL S M (M.getD a 0)) (decide (0<lL (K++[[a,b]]) M (M.getD a 0)))*p:=by
    rw[hp _ λx _ hx=>?_]
    ·show gW _ (eL (K++[[a,b]]) M (M.getD a 0)) _ _*p=_;rw[e1,if_pos rfl]
    ·show gW _ (eL (K++[[a,b]]) M x) _ (decide (0<lL (K++[[a,b]]) M x))=_;rw[e1,l1,if_neg (yE hx),if_neg (λq=>hx q.2.symm),xO,xO]
   have ht:∀h,h<n->M.getD h 0=M.getD a 0->z8j (zzd rows [h]) S=gW (M.count (M.getD a 0)) (eL K M (M.getD a 0)) (sL S M (M.getD a 0)+1) (decide (0<lL K M (M.getD a 0)))*p:=λh hh e=>by
    rw[zSt c nd hS hh,hp _ λx _ hx=>?_]
    ·rw[e,if_pos rfl]
    ·rw[e,if_neg (yE hx),xO]
   rw[hr,ht a ha rfl];have hta:=c.tr _ pa
   by_cases hab:a=b
   ·rw[if_pos hab,l1,if_pos ⟨hab,rfl⟩]
    congr 1
    rw[zdt pa hta];simp
   ·rw[if_neg hab,ht b hb hl.symm,l1,if_neg (λq=>hab q.1),xO,<-Nat.add_mul]
    congr 1
    refine z2t pa hta λq=>?_;exact c.lp _ (of_decide_eq_true q)
 ·-- two parts become one
  have hab:a≠b:=λe=>hl (by rw[e]);have hne:=hl;have v1:∀l,(reM M (M.getD b 0) (M.getD a 0)).count l=if l=M.getD a 0 then M.count (M.getD a 0)+M.count (M.getD b 0) else if l=M.getD b 0 then 0 else M.count l:=λl=>zrh hne
  have em:(K.map (zOp (reM M (M.getD b 0) (M.getD a 0))))=reM (K.map (zOp M)) (M.getD b 0) (M.getD a 0):=zhq (f:=λ(k:List Nat)=>k.getD 0 0) hk0
  have ea':(reM M (M.getD b 0) (M.getD a 0)).getD a 0=M.getD a 0:=by
   rw[zig (by omega),if_neg hne]
  have e1:∀l,eL (K++[[a,b]]) (reM M (M.getD b 0) (M.getD a 0)) l=if l=M.getD a 0 then eL K M (M.getD a 0)+eL K M (M.getD b 0)+1 else if l=M.getD b 0 then 0 else eL K M l:=λl=>by
   show((K++[[a,b]]).map (zOp (reM M (M.getD b 0) (M.getD a 0)))).count l=_;rw[map_append,count_append,em,zrh hne];show _+[(reM M (M.getD b 0) (M.getD a 0)).getD a 0].count l=_;rw[ea',List.count_singleton];simp only[beq_iff_eq]
   by_cases h:l=M.getD a 0
   ·rw[if_pos h,if_pos h,if_pos h.symm]
   ·rw[if_neg h,if_neg h,if_neg (yE h)];rfl
  have l1:∀l,lL (K++[[a,b]]) (reM M (M.getD b 0) (M.getD a 0)) l=if l=M.getD a 0 then lL K M (M.getD a 0)+lL K M (M.getD b 0) else if l=M.getD b 0 then 0 else lL K M l:=λl=>by
   show(((K++[[a,b]]).filter zre).map (zOp (reM M (M.getD b 0) (M.getD a 0)))).count l=_;rw[lpK,if_neg hab,append_nil];rw[show((K.filter zre).map (zOp (reM M (M.getD b 0) (M.getD a 0))))=reM ((K.filter zre).map (zOp M)) (M.getD b 0) (M.getD a 0) from zhq (f:=λ(k:List Nat)=>k.getD 0 0) λk hk=>hk0 k (List.mem_filter.mp hk).1];exact zrh hne
  have s1:∀S:List Nat,(∀v∈S,v<n)->∀l,sL S (reM M (M.getD b 0) (M.getD a 0)) l=if l=M.getD a 0 then sL S M (M.getD a 0)+sL S M (M.getD b 0) else if l=M.getD b 0 then 0 else sL S M l:=λS hS l=>by
   show(S.map λv=>(reM M (M.getD b 0) (M.getD a 0)).getD v 0).count l=_;rw[zhq (f:=λv=>v) λv hv=>by have:=hS v hv;omega];exact zrh hne
  have hta:=c.tr _ pa;have htb:=c.tr _ pb;refine⟨mk',λv hv=>?_,two',λl h=>?_,λl h=>?_,λS nd hS=>?_⟩
  ·rw[zig (by omega)]
   split
   ·exact la
   ·exact c.lt v hv
  ·rw[v1]at h ⊢;rw[e1]
   by_cases h3:l=M.getD a 0
   ·rw[if_pos h3,if_pos h3];omega
   ·rw[if_neg h3]at h ⊢;rw[if_neg h3]
    by_cases h4:l=M.getD b 0
    ·rw[if_pos h4]at h;omega
    ·rw[if_neg h4]at h ⊢;rw[if_neg h4];exact c.tr l h
  ·rw[l1]at h;rw[v1,e1]
   by_cases h3:l=M.getD a 0
   ·rw[if_pos h3]at h ⊢;rw[if_pos h3];have:0<lL K M (M.getD a 0)\/0<lL K M (M.getD b 0):=by omega
    rcases this with q|q
    ·have:=c.lp _ q;omega
    ·have:=c.lp _ q;omega
   ·rw[if_neg h3]at h ⊢;rw[if_neg h3]
    by_cases h4:l=M.getD b 0
    ·rw[if_pos h4];omega
    ·rw[if_neg h4]at h ⊢;rw[if_neg h4];exact c.lp l h
  ·rw[cnU S nd hS,if_neg hab];obtain⟨p,hp⟩:=zCr (n:=n) (gK K M S) la lb hne
   have ta:z8j (zzd rows [a]) S=gW (M.count (M.getD a 0)) (eL K M (M.getD a 0)) (sL S M (M.getD a 0)+1) (decide (0<lL K M (M.getD a 0)))*gW (M.count (M.getD b 0)) (eL K M (M.getD b 0)) (sL S M (M.getD b 0)) (decide (0<lL K M (M.getD b 0)))*p:=by
    rw[zSt c nd hS ha,hp _ λx _ hx _=>?_]
    ·rw[if_pos rfl,if_neg hne];rfl
    ·rw[if_neg (yE hx)];rfl
   have tb:z8j (zzd rows [b]) S=gW (M.count (M.getD a 0)) (eL K M (M.getD a 0)) (sL S M (M.getD a 0)) (decide (0<lL K M (M.getD a 0)))*gW (M.count (M.getD b 0)) (eL K M (M.getD b 0)) (sL S M (M.getD b 0)+1) (decide (0<lL K M (M.getD b 0)))*p:=by
    rw[zSt c nd hS hb,hp _ λx _ _ hx=>?_]
    ·rw[if_pos rfl,if_neg (yE hne)];rfl
    ·rw[if_neg (yE hx)];rfl
   rw[ta,tb,hp _ λx _ hx hy=>?_]
   ·rw[<-Nat.add_mul]
    congr 1
    show _=gW _ (eL (K++[[a,b]]) (reM M (M.getD b 0) (M.getD a 0)) (M.getD a 0)) (sL S (reM M (M.getD b 0) (M.getD a 0)) (M.getD a 0)) (decide (0<lL (K++[[a,b]]) (reM M (M.getD b 0) (M.getD a 0)) (M.getD a 0)))*gW _ (eL (K++[[a,b]]) (reM M (M.getD b 0) (M.getD a 0)) (M.getD b 0)) (sL S (reM M (M.getD b 0) (M.getD a 0)) (M.getD b 0)) (decide (0<lL (K++[[a,b]]) (reM M (M.getD b 0) (M.getD a 0)) (M.getD b 0)));rw[v1,e1,s1 S hS,l1,if_pos rfl,if_pos rfl,if_pos rfl,if_pos rfl];rw[v1,if_neg (yE hne),if_pos rfl];rw[show ∀e s l,gW 0 e s l=1 from λ_ _ _=>rfl,Nat.mul_one];rw[zOt pa pb hta htb (λq=>c.lp _ (of_decide_eq_true q)) (λq=>c.lp _ (of_decide_eq_true q))]
    congr 1
    rw[xS];simp only[xR,decide_eq_true_iff];omega
   ·show gW _ (eL (K++[[a,b]]) (reM M (M.getD b 0) (M.getD a 0)) x) (sL S (reM M (M.getD b 0) (M.getD a 0)) x) (decide (0<lL (K++[[a,b]]) (reM M (M.getD b 0) (M.getD a 0)) x))=_;rw[v1,e1,s1 S hS,l1,if_neg hx,if_neg hx,if_neg hx,if_neg hx,if_neg hy,if_neg hy,if_neg hy,if_neg hy]
def zZb{α:Type}:∀(l:List α)(i:Nat)(h:i<l.length),l.Perm (l[i]::l.eraseIdx i)
 |x::l,0,_ =>.refl _
 |x::l,i+1,h=>by
  have hi:i<l.length:=by simpa using h
  have:=zZb l i hi;show(x::l).Perm (l[i]::x::l.eraseIdx i);exact(this.cons x).trans (.swap _ _ _)
abbrev Ok2(n:Nat)(K:List (List Nat)):Prop:=∀k∈K,k.length=2/\∀x∈k,x<n
def zie{k:List Nat}(h:k.length=2):k=[k.getD 0 0,k.getD 1 0]:=by
 match k,h with
 |[a,b],_=>rfl
def zbt{n:Nat}{K:List (List Nat)}(hK:Ok2 n K):∀i,i<=K.length->∃M rows,Cw n (K.take i) M rows
 |0,_=>⟨_,_,zWn n⟩
 |i+1,h=>by
  obtain⟨M,rows,c⟩:=zbt hK i (by omega);have hi:i<K.length:=h;obtain⟨h2,hx⟩:=hK K[i] (getElem_mem hi);have e:=zie h2;have h0:K[i].getD 0 0<n:=hx _ (by rw[e];simp);have h1:K[i].getD 1 0<n:=hx _ (by rw[e];simp);have s:=zZq c h0 h1 (U:=if K[i].getD 0 0=K[i].getD 1 0 then[K[i].getD 0 0] else[K[i].getD 0 0,K[i].getD 1 0]) (λq=>if_pos q) (λq =>.inl (if_neg q));rw[<-e]at s;rw[take_add_one,yo hi,show(some K[i]).toList=[K[i]] from rfl];exact⟨_,_,s⟩
def eN(K:List (List Nat))(a:Nat):Nat:=K.countP λk=>jnB K a (k.getD 0 0)
def znn(hK:Ok2 n K){k:List Nat}(hk:k∈K):k.getD 0 0<n:=by
 obtain⟨h2,hx⟩:=hK k hk;exact hx _ (by rw[zie h2];simp)
def zMs{M:List Nat}(m:Mk n K M){a b:Nat}(ha:a<n)(hb:b<n):(M.getD b 0==M.getD a 0)=jnB K a b:=by
 rw[xS,beq_iff_eq,tW,eq_comm];exact m.iff a b ha hb
def zkj{M:List Nat}(m:Mk n K M){a:Nat}(ha:a<n):M.count (M.getD a 0)=(zG n K a).length:=by
 have hl:=m.len
 have e:M=(yh n).map λv=>M.getD v 0:=by
  refine ext_getElem? λi=>?_;rw[yj]
  by_cases hi:i<n
  ·rw[List.getElem?_range hi,yo (by omega)];show _=some (M.getD i 0);rw[getD_eq_getElem?_getD,yo (by omega)];rfl
  ·rw[Ym (by omega),Ym (by simp;omega)];rfl
 unfold zG;rw[<-xT,List.count_eq_countP]
 conv=>lhs;arg 2;rw[e]
 rw[countP_map];refine countP_congr λv hv=>?_;rw[YG,zMs m ha (List.mem_range.mp hv)]
def zCj{M:List Nat}(m:Mk n K M)(hK:Ok2 n K){a:Nat}(ha:a<n):eL K M (M.getD a 0)=eN K a:=by
 unfold eN;show(K.map (zOp M)).count _=_;rw[List.count_eq_countP,countP_map];refine countP_congr λk hk=>?_;rw[YG,zMs m ha (znn hK hk)]
def zds{M:List Nat}(m:Mk n K M)(hK:Ok2 n K){a:Nat}(ha:a<n):0<lL K M (M.getD a 0)↔∃k∈K,zre k=true/\Jn K a (k.getD 0 0):=by
 rw[List.count_pos_iff,mem_map];constructor
 ·rintro⟨k,hk,e⟩;obtain⟨h1,h2⟩:=List.mem_filter.mp hk;exact⟨k,h1,h2,(m.iff a _ ha (znn hK h1)).mp e.symm⟩
 ·rintro⟨k,h1,h2,j⟩;exact⟨k,List.mem_filter.mpr ⟨h1,h2⟩,((m.iff a _ ha (znn hK h1)).mpr j).symm⟩
def conn(hK:Ok2 n K){a:Nat}(ha:a<n):(zG n K a).length<=eN K a+1:=by
 obtain⟨M,rows,c⟩:=zbt hK K.length (yi _);rw[take_length]at c;have h:=c.tr (M.getD a 0) (zzh (by have:=c.mks.len;omega));rw[zkj c.mks ha,zCj c.mks hK ha]at h;exact h
def Jn.perm{K:List (List Nat)}(h:K.Perm K'){a b:Nat}:Jn K a b↔Jn K' a b:=⟨λj=>j.mono λ_ q=>h.mem_iff.mp q,λj=>j.mono λ_ q=>h.mem_iff.mpr q⟩
def sB:Jn ([e0,e1]::K) a b↔Jn K a b\/(Jn K a e0/\Jn K e1 b)\/(Jn K a e1/\Jn K e0 b):=z4s λk=>by rw[mem_cons,or_comm]
def zZk(h:Jn K e0 e1){a b:Nat}:Jn ([e0,e1]::K) a b↔Jn K a b:=by
 rw[sB];constructor
 ·rintro(j|⟨i,j⟩|⟨i,j⟩)
  ·exact j
  ·exact i.trans (h.trans j)
  ·exact i.trans (h.symm.trans j)
 ·exact .inl
def zbq{K:List (List Nat)}(h:K.Perm K')(a:Nat):eN K a=eN K' a:=by
 unfold eN;rw[h.countP_eq];refine countP_congr λk _=>?_;rw[tW,tW];exact Jn.perm h
def znq(h:Jn K e0 e1)(hj:Jn K a e0):eN ([e0,e1]::K) a=eN K a+1:=by
 unfold eN;rw[countP_cons,show[e0,e1].getD 0 0=e0 from rfl,if_pos (tW.mpr ((zZk h).mpr hj))]
 congr 1
 refine countP_congr λk _=>?_;rw[tW,tW];exact zZk h
def zco{x y:Nat}(hxy:x≠y):∀{K:List (List Nat)},(∀k∈K,k.length=2)->Jn K x y->∃k R,K.Perm (k::R)/\Jn ([x,y]::R) (k.getD 0 0) (k.getD 1 0)/\Jn K x (k.getD 0 0)
 |[],_,j=>by
  cases j with
  |refl=>exact absurd rfl hxy
  |step _ e=>
   obtain⟨k,hk,_⟩:=e;cases hk
 |k::R,h2,j=>by
  by_cases hR:Jn R x y
  ·obtain⟨k',R',hp,h1,h3⟩:=zco hxy (λq hq=>h2 q (by simp[hq])) hR;refine⟨k',k::R',(hp.cons k).trans (.swap _ _ _),h1.mono λq hq=>?_,h3.mono λq hq=>by simp[hq]⟩;rcases List.mem_cons.mp hq with rfl|hq
   ·simp
   ·simp[hq]
  ·have e:=zie (h2 k (by simp));generalize k.getD 0 0=e0 at e;generalize k.getD 1 0=e1 at e;subst e;refine⟨[e0,e1],R,.refl _,?_,?_⟩
   ·show Jn ([x,y]::R) e0 e1;have up:∀{a b},Jn R a b->Jn ([x,y]::R) a b:=λj=>j.mono λq hq=>by simp[hq]
    have ed:Jn ([x,y]::R) x y:=.step .refl ⟨[x,y],by simp,by simp,by simp⟩;rcases sB.mp j with q|⟨q1,q2⟩|⟨q1,q2⟩
    ·exact absurd q hR
    ·exact(up q1.symm).trans (ed.trans (up q2.symm))
    ·exact(up q2).trans (ed.symm.trans (up q1))
   ·show Jn ([e0,e1]::R) x e0;have up:∀{a b},Jn R a b->Jn ([e0,e1]::R) a b:=λj=>j.mono λq hq=>by simp[hq]
    have ed:Jn ([e0,e1]::R) e0 e1:=.step .refl ⟨[e0,e1],by simp,by simp,by simp⟩;rcases sB.mp j with q|⟨q1,q2⟩|⟨q1,q2⟩
    ·exact absurd q hR
    ·exact up q1
    ·exact(up q1).trans ed.symm
def z2c(h:i<K.length):K.getD i []=K[i]:=by
 rw[getD_eq_getElem?_getD,yo h];rfl
def z7(hK:Ok2 n K){a i:Nat}:i∈zib n K a↔∃h:i<K.length,Jn K a (K[i].getD 0 0):=by
 unfold zib;rw[mem_filter,mem_range,decide_eq_true_iff,tz];constructor
 ·rintro⟨h,h1,h2⟩;exact⟨h,by rw[z2c h]at h2;exact h2⟩
 ·rintro⟨h,h2⟩;rw[z2c h];exact⟨h,znn hK (getElem_mem h),h2⟩
def Tw:i∈zdi K↔∃h:i<K.length,Jn (K.eraseIdx i) (K[i].getD 0 0) (K[i].getD 1 0):=by
 unfold zdi zas znp;rw[mem_filter,mem_range,@decide_eq_true_iff _ (Yz _)];constructor
 ·rintro⟨h,j⟩;exact⟨h,by rw[z2c h]at j;exact j⟩
 ·rintro⟨h,j⟩;rw[z2c h];exact⟨h,j⟩
def z3r(hK:Ok2 n K){a:Nat}(ha:a<n)(he:eN K a=(zG n K a).length) :
 ((zib n K a).filter λk=>decide (k∈zdi K)).length=1↔∃k∈K,zre k=true/\Jn K a (k.getD 0 0):=by
 have hX:∀i,i∈(zib n K a).filter (λk=>decide (k∈zdi K))↔i∈zib n K a/\i∈zdi K:=λi=>by rw[mem_filter,decide_eq_true_iff]
 have hnd:((zib n K a).filter (λk=>decide (k∈zdi K))).Nodup:=(List.nodup_range.filter _).filter _;generalize (zib n K a).filter (λk=>decide (k∈zdi K))=X at hX hnd;constructor
 ·intro h1;obtain⟨i,rfl⟩:=List.length_eq_one_iff.mp h1;obtain⟨h2,h3⟩:=(hX i).mp (by simp);obtain⟨hi,j1⟩:=(z7 hK).mp h2;obtain⟨_,j2⟩:=Tw.mp h3;refine Classical.byContradiction λno=>?_;have hxy:K[i].getD 0 0≠K[i].getD 1 0:=λe=>no ⟨K[i],getElem_mem hi,decide_eq_true e,j1⟩;have hp:=zZb K i hi;obtain⟨k,R,hp2,j3,j4⟩:=zco hxy (λk hk=>(hK k (hp.mem_iff.mpr (by simp[hk]))).1) j2;obtain⟨i',hi',hne,e⟩:=List.mem_eraseIdx_iff_getElem.mp (hp2.mem_iff.mpr (mem_cons_self (a:=k)));have hp3:=zZb K i' hi'
  have hq:(K.eraseIdx i').Perm ([K[i].getD 0 0,K[i].getD 1 0]::R):=by
   rw[e]at hp3;rw[<-zie (hK K[i] (getElem_mem hi)).1];exact(hp3.symm.trans (hp.trans ((hp2.cons _).trans (.swap _ _ _)))).cons_inv
  have hm:i'∈[i]:=by
   refine(hX i').mpr ⟨(z7 hK).mpr ⟨hi',?_⟩,Tw.mpr ⟨hi',?_⟩⟩
   ·rw[e];exact j1.trans (j4.mono λq hq=>hp.mem_iff.mpr (by simp[hq]))
   ·rw[e];exact(Jn.perm hq).mpr j3
  exact hne (List.mem_singleton.mp hm)
 ·rintro⟨k,hk,hl,j⟩;obtain⟨i,hi,e⟩:=List.mem_iff_getElem.mp hk;have hk2:=zie (hK k hk).1;have hl:=of_decide_eq_true hl;have hi1:i∈X:=(hX i).mpr ⟨(z7 hK).mpr ⟨hi,by rw[e];exact j⟩,Tw.mpr ⟨hi,by rw[e,<-hl];exact .refl⟩⟩
  have all:∀i',i'∈X->i'=i:=λi' hm=>Classical.byContradiction λhne=>by
   obtain⟨h2,h3⟩:=(hX i').mp hm;obtain⟨hi',j1⟩:=(z7 hK).mp h2;obtain⟨_,j2⟩:=Tw.mp h3;have hp:=zZb K i' hi';have hk':=zie (hK K[i'] (getElem_mem hi')).1;have hmem:k∈K.eraseIdx i':=List.mem_eraseIdx_iff_getElem.mpr ⟨i,hi,yE hne,e⟩;have hp2:=List.perm_cons_erase hmem;generalize (K.eraseIdx i').erase k=R at hp2;generalize K[i']=k' at *;generalize k'.getD 0 0=x at *;generalize k'.getD 1 0=y at *;generalize k.getD 0 0=u at *;generalize k.getD 1 0=u' at *;subst hl;subst hk2;subst hk';have hR:∀{a b},Jn (K.eraseIdx i') a b↔Jn R a b:=λ{a b}=>(Jn.perm hp2).trans (zZk .refl);have hKR:∀{a b},Jn K a b↔Jn R a b:=λ{a b}=>(Jn.perm hp).trans ((zZk j2).trans hR)
   have e1:eN K a=eN R a+2:=by
    rw[zbq hp,znq j2 (hR.mpr (hKR.mp j1)),zbq hp2,znq .refl (hKR.mp j)]
   have hsub:∀q,q∈R->q∈K:=λq hq=>hp.mem_iff.mpr (mem_cons_of_mem _ (hp2.mem_iff.mpr (mem_cons_of_mem _ hq)));have h5:=conn (K:=R) (λq hq=>hK q (hsub q hq)) ha;rw[<-zRp (n:=n) (K:=K) (K':=R) λa b=>hKR]at h5;omega
  have:=zSd hnd (List.nodup_cons.mpr ⟨not_mem_nil,.nil⟩) λx=>⟨λh=>List.mem_singleton.mpr (all x h),λh=>by rw[List.mem_singleton.mp h];exact hi1⟩
  exact this.length_eq
def zpm(n:Nat)(K:List (List Nat))(a:Nat):Nat:=if(zib n K a).length+1=(zG n K a).length then(zG n K a).length else if(zib n K a).length=(zG n K a).length then(if((zib n K a).filter λk=>decide (k∈zdi K)).length=1 then 1 else 2) else 0
def zHn(hK:Ok2 n K)(a:Nat):(zib n K a).length=eN K a:=by
 have e:K=(yh K.length).map λi=>K.getD i []:=by
  refine ext_getElem? λi=>?_;rw[yj]
  by_cases hi:i<K.length
  ·rw[List.getElem?_range hi,yo hi];show _=some (K.getD i []);rw[z2c hi]
  ·rw[Ym (by omega),Ym (by simp;omega)];rfl
 have:eN K a=((yh K.length).map λi=>K.getD i []).countP λk=>jnB K a (k.getD 0 0):=by rw[<-e];rfl
 rw[this,countP_map];unfold zib;rw[<-xT];refine countP_congr λi hi=>?_;rw[decide_eq_true_iff,tz,YG,tW];have hi:=List.mem_range.mp hi;exact⟨λh=>h.2,λh=>⟨by rw[z2c hi];exact znn hK (getElem_mem hi),h⟩⟩
def zJv{M:List Nat}(c:Cw n K M rows)(hK:Ok2 n K){a:Nat}(ha:a<n):gK K M [] (M.getD a 0)=zpm n K a:=by
 have h0:0<(zG n K a).length:=zsf ha;have hc:=conn hK ha;unfold zpm;rw[zHn hK];show gW _ _ 0 _=_;rw[zkj c.mks ha,zCj c.mks hK ha];have t:eN K a+1=(zG n K a).length\/eN K a=(zG n K a).length\/(zG n K a).length<eN K a:=by omega
 rcases t with t|t|t
 ·rw[z9b t,if_pos rfl,if_pos t]
 ·rw[zMb t h0,if_pos rfl,if_neg (show ¬eN K a+1=(zG n K a).length by omega),if_pos t];have r:=z3r hK ha t;have l:=zds c.mks hK ha
  by_cases q:0<lL K M (M.getD a 0)
  ·rw[decide_eq_true q,if_pos rfl,if_pos (r.mpr (l.mp q))]
  ·rw[decide_eq_false q,if_neg yv,if_neg λh=>q (l.mpr (r.mp h))]
 ·rw[zbb t h0,if_neg (by omega),if_neg (by omega)]
def tH:a∈zA n K↔a<n/\∀b,b<n->Jn K a b->a<=b:=by
 unfold zA;rw[mem_filter,mem_range,decide_eq_true_iff];exact⟨λh=>⟨h.1,(zkl h.1).mp h.2⟩,λh=>⟨h.1,(zkl h.1).mpr h.2⟩⟩
def zyk{M:List Nat}(c:Cw n K M rows)(hK:Ok2 n K):rows.length=zQb ((zA n K).map (zpm n K)):=by
 have h0:rows.length=z8j rows []:=by
  exact(List.countP_eq_length.mpr λr _=>rfl).symm
 rw[h0,c.cn [] .nil (by simp)];have hl:=c.mks.len
 have inj:∀{a b},a∈zA n K->b∈zA n K->M.getD a 0=M.getD b 0->a=b:=λ{a b} h1 h2 e=>by
  obtain⟨a1,a2⟩:=tH.mp h1;obtain⟨b1,b2⟩:=tH.mp h2;have j:=(c.mks.iff a b a1 b1).mp e;exact Nat.le_antisymm (a2 b b1 j) (b2 a a1 j.symm)
 have ndl:(zA n K).Nodup:=List.nodup_range.filter _
 have nd:((zA n K).map λa=>M.getD a 0).Nodup:=by
  rw[List.nodup_iff_pairwise_ne,pairwise_map];rw[List.nodup_iff_pairwise_ne]at ndl;refine ndl.imp_of_mem λh1 h2 hne e=>hne (inj h1 h2 e)
 have hp:(yh n).Perm (((zA n K).map λa=>M.getD a 0)++(yh n).filter λl=>!decide (l∈(zA n K).map λa=>M.getD a 0)):=by
  refine(List.filter_append_perm (λl=>decide (l∈(zA n K).map λa=>M.getD a 0)) (yh n)).symm.trans (List.Perm.append_right _ ?_);refine zSd (List.nodup_range.filter _) nd λx=>?_;rw[mem_filter,mem_range,decide_eq_true_iff];refine⟨λh=>h.2,λh=>⟨?_,h⟩⟩;obtain⟨a,h1,rfl⟩:=List.mem_map.mp h;exact c.lt a (tH.mp h1).1
 rw[zal (hp.map _),map_append];rw[zUn,ztl (xs:=List.map _ (List.filter _ _)),Nat.mul_one,map_map]
 ·exact zqc λa h=>zJv c hK (tH.mp h).1
 ·intro x hx;obtain⟨l,h1,rfl⟩:=List.mem_map.mp hx;obtain⟨h2,h3⟩:=List.mem_filter.mp h1
  have:M.count l=0:=by
   rw[List.count_eq_zero];intro hm;obtain⟨v,hv,e⟩:=List.mem_iff_getElem.mp hm;have e2:M.getD v 0=l:=by rw[getD_eq_getElem?_getD,yo hv];exact e
   obtain⟨r,r1,r2,r3⟩:=zJs (n:=n) (K:=K) (a:=v) (by omega);have:l∈(zA n K).map λa=>M.getD a 0:=List.mem_map.mpr ⟨r,tH.mpr ⟨r1,r3⟩,by rw[<-e2];exact((c.mks.iff v r (by omega) r1).mpr r2).symm⟩;rw[decide_eq_true this]at h3;cases h3
  show gW (M.count l) _ _ _=1;rw[this];rfl
def zin(h:μ[n]?=some (.lst (nat S)))(hp:T.Perm S)(hT:T.Pairwise (· < ·))(hl:S.length<64)(q:Q (.loc μ.length) (μ++[.lst (nat T)])):WF z6h [.loc n] μ Q:=by
 have e1:nat S=(S.map λ(k:Nat)=>(k:Int)).map D.int:=by rw[map_map];rfl
 have e2:nat T=(T.map λ(k:Nat)=>(k:Int)).map D.int:=by rw[map_map];rfl
 have e3:z8i (S.map λ(k:Nat)=>(k:Int))=T.map λ(k:Nat)=>(k:Int):=by
  refine zjc ((mergeSort_perm _ _).trans (hp.symm.map _)) (zBg _) ?_;rw[pairwise_map];exact hT.imp λh=>by omega
 refine⟨_,_,?_,q⟩;simp only[z6h,h];rw[e1,zri,yr,length_map,decide_eq_true hl,cond_true,e3,<-e2]
def z5u{α:FA}{P:List D->(Mem->Bool)->Mem->Prop}(h:WA α J μ λds μ1=>∃x y u v o1 o2,ds=[x,y]/\zYs μ1 x=some (u,o1)/\zYs μ1 y=some (v,o2)/\P (zps u v) (λm=>o1 m&&o2 m) μ1):WI (zMv α) J μ P:=by
 obtain⟨ds,μ1,e1,x,y,u,v,o1,o2,rfl,h1,h2,q⟩:=h;exact⟨_,_,_,by simp only[zMv,e1,yr,h1,h2],q⟩
def zGh(h:μ[n]?=some (.lst xs)):zYs μ (.loc n)=some (xs,z1i n xs):=by
 simp only[zYs,h]
def z5j{α β:Type}(f:α->D)(g:β->D):∀(xs:List α)(ys:List β),zps (xs.map f) (ys.map g)=(xs.zip ys).map λp=>D.tup [f p.1,g p.2]
 |[],_=>rfl
 |_::_,[]=>rfl
 |x::xs,y::ys=>by
  show D.tup [f x,g y]::zps (xs.map f) (ys.map g)=_;rw[z5j f g xs ys];rfl
def zll{A B:List Nat}(ga:μ[a]?=some (.lst (nat A)))(gb:μ[b]?=some (.lst (nat B)))(q1:B.length+1=A.length->Q (.str "tree") μ)(q2:B.length=A.length->Q (.str "ring") μ)(q3:B.length+1≠A.length->B.length≠A.length->Q (.str "over") μ):WF zyd [.tup [.loc a,.loc b]] μ Q:=by
 refine zDb rfl ?_;show WS zwf [some (.tup [.loc a,.loc b])] μ _ _ _ _;unfold zwf;refine zu (zkf (zL (zo (zw (zj (zo (zh rfl (w_c (zPb rfl (show atI [D.loc a,D.loc b] 1=some (.loc b) from rfl) (zy (zbc (zt gb) (zo (zw (zj (zo (zh rfl (w_c (zPb rfl (show atI [D.loc a,D.loc b] 0=some (.loc a) from rfl) (zy (zbc (zt ga) (w_c (zCu (znh ⟨_,rfl,λh=>zqb (w_c (q1 ?_)),λh=>zjb ?_⟩)))))))))))))))))))))))
 ·rw[length_map,length_map,beq_iff_eq]at h;omega
 rw[length_map,length_map,beq_eq_false_iff_ne]at h;refine zu (zkf (zL (zo (zw (zj (zo (zh rfl (w_c (zPb rfl (show atI [D.loc a,D.loc b] 1=some (.loc b) from rfl) (zy (zbc (zt gb) (zw (zj (zo (zh rfl (w_c (zPb rfl (show atI [D.loc a,D.loc b] 0=some (.loc a) from rfl) (zy (zbc (zt ga) (znh ⟨_,rfl,λh2=>zqb (w_c (q2 ?_)),λh2=>zjb (zqb (w_c (q3 (by omega) ?_)))⟩))))))))))))))))))))
 ·rw[length_map,length_map,beq_iff_eq]at h2;omega
 ·rw[length_map,length_map,beq_eq_false_iff_ne]at h2;omega
def zJp(ga:μ[a]?=some (.lst (nat (zG n K v))))(gb:μ[b]?=some (.lst (nat (zib n K v))))(gl:μ[l]?=some (.lst (nat (zdi K))))(hb:(zib n K v).length<=1000)(q:∀μ',tq μ μ'->Q (.int (zpm n K v:Nat)) μ'):WF z5f [.tup [.loc a,.loc b],.loc l] μ Q:=by
 unfold zpm at q;refine zDb rfl ?_;show WS zng [some (.tup [.loc a,.loc b]),some (.loc l),none] μ _ _ _ _;unfold zng;refine zu (zab (zw (zj (zh rfl (zy ?_)))));refine zll ga gb (λh=>?_) (λh=>?_) (λh h'=>?_)
 ·rw[if_pos h]at q;refine zu (zkf (zL (zo (zh rfl (w_c (zqd ⟨_,rfl,λ_=>?_,λh=>absurd h (by decide +kernel)⟩))))));refine zqb (zw (zj (zo (zh rfl (w_c (zPb rfl (show atI [D.loc a,D.loc b] 0=some (.loc a) from rfl) (zy (zbc (zt ga) ?_))))))));rw[length_map];exact q μ .refl
 ·rw[if_neg (by omega),if_pos h]at q;refine zu (zkf (zL (zo (zh rfl (w_c (zqd ⟨_,rfl,λh=>absurd h (by decide +kernel),λ_=>zjb ?_⟩))))));refine zu (zkf (zL (zo (zh rfl (w_c (zqd ⟨_,rfl,λh=>absurd h (by decide +kernel),λ_=>zjb ?_⟩))))));refine zu (zkf (zL (zo (zw (zj (zEm (zMd (zo (zh rfl (w_c (zPb rfl (show atI [D.loc a,D.loc b] 1=some (.loc b) from rfl) (.inr (.inr ⟨b,_,rfl,gb,zfc ?_,?_⟩)))))))))))))
  ·rw[length_map];omega
  refine zZd (λ(k:Nat)=>D.int k) (zib n K v) (λ(k:Nat)=>D.int k) (λk=>decide (k∈zdi K)) (λμ' k=>zW gb k) (λk hk μ' kp=>?_) (λμ' kp=>?_)
  ·refine zwd ?_;unfold zZh z3h;exact zL (zo (zh rfl (zh rfl (zzm (zt (kp _ _ gl)) ⟨_,rfl,rfl,kp,λ_=>zh rfl ⟨rfl,kp⟩⟩))))
  ·refine zy (zbc (zt zB) (w_c (znh ⟨_,rfl,λh1=>?_,λh1=>zjb ?_⟩)))
   ·rw[length_map,beq_iff_eq]at h1;rw[if_pos (by omega)]at q;exact zqb (w_c (q _ kp.to))
   ·rw[length_map,beq_eq_false_iff_ne]at h1;rw[if_neg (by omega)]at q;exact zqb (w_c (q _ kp.to))
 ·rw[if_neg h,if_neg h']at q;refine zu (zkf (zL (zo (zh rfl (w_c (zqd ⟨_,rfl,λh=>absurd h (by decide +kernel),λ_=>zjb ?_⟩))))));refine zu (zkf (zL (zo (zh rfl (w_c (zqd ⟨_,rfl,λ_=>zqb (w_c (q μ .refl)),λh=>absurd h (by decide +kernel)⟩))))))
def zxv(hn:n<=10):zpm n K v<=10:=by
 have h:(zG n K v).length<=n:=by
  unfold zG;simpa using length_filter_le (λb=>jnB K v b) (yh n)
 unfold zpm
 split
 ·omega
 ·split
  ·split<;>omega
  ·omega
def zVm(w:Wb L (yg N 1) K)(hL:L<=60)(h2:∀k∈K,k.length=2)(q:∀μ',tq μ μ'->Q (.int (zQb ((zA N K).map (zpm N K)):Nat)) μ'):WF zgg [wn (yg N 1) K] μ Q:=by
 have hkl:=w.kl;have hrl:=w.rl;rw[length_replicate]at hrl;refine zDb rfl ?_;show WS zfo [some (wn (yg N 1) K),none,none,none] μ _ _ _ _;unfold zfo;refine zu (zab (zw (zj (zh rfl (zy ?_)))));refine zjo w hL h2 λl μ1 k1 hl g=>?_;refine zu (zab (w_c ?_));refine zu (zhe (zMd (zw (zj (zh rfl (zy ?_))))));refine zMk w hL λpl μ2 k2 pa=>?_;rw[length_replicate]at pa;obtain⟨xs,ex,hxs,_,hx⟩:=pa;refine .inr (.inr ⟨pl,_,rfl,ex,?_⟩);refine zzb (λi J ν=>tq μ2 ν/\∃d:Option D,J=[some (wn (yg N 1) K),some (.loc l),some (.int (zQb (((zA N K).take i).map (zpm N K)):Nat)),d]) ⟨.refl,_,rfl⟩ (λm J ν h=>zW ex h.1) ?_ ?_
 ·rintro i x J ν hi ⟨kν,d,rfl⟩;rw[yj]at hi
  cases ep:xs[i]? with
  |none=>rw[ep]at hi;cases hi
  |some p=>
   rw[ep]at hi;cases hi;have hil:=(List.getElem?_eq_some_iff.mp ep).1;obtain⟨a,ea⟩:∃a,(zA N K)[i]?=some a:=⟨_,yo (by omega)⟩
   obtain⟨_,_,_,_,g1,g2⟩:=hx i p a ep ea
   have hkk:(zib N K a).length<=1000:=by
    have:(zib N K a).length<=K.length:=by
     unfold zib;simpa using length_filter_le (λk=>decide ((K.getD k []).getD 0 0∈zG N K a)) (yh K.length)
    omega
   refine zwd ?_;unfold zTn;refine zuv rfl (zw (zj (zh rfl (zj (zh rfl (zy ?_))))));refine zJp (kν _ _ g1) (kν _ _ g2) (kν _ _ (k2 _ _ g)) hkk λμ3 k3=>?_;have hw:=zxv (n:=N) (K:=K) (v:=a) (by omega);refine zqv ⟨by omega,by omega⟩ ⟨kν.trans k3,some (.tup [.loc p.1,.loc p.2]),?_⟩;rw[take_add_one,ea,map_append,zUn];show _=[_,_,some (D.int ((_*(zpm N K a*1):Nat):Int)),_];rw[Nat.mul_one,Int.natCast_mul];rfl
 ·rintro J ν ⟨kν,d,rfl⟩;rw[length_map,hxs,take_length];exact zqb (zh rfl (q _ (k1.trans (k2.trans kν))))
def zsn(rows:List (List Nat)):∀U:List Nat,(zzd rows U).length<=U.length*rows.length
 |[]=>by simp[zzd]
 |h::U=>by
  have ih:=zsn rows U;unfold zzd at ih ⊢;rw[List.flatMap_cons,length_append,length_map,length_cons,Nat.succ_mul];have:=length_filter_le (λr=>!decide (h∈r)) rows;omega
def zsj(K:List (List Nat))(rows:List (List Nat)):Prop:=∀r∈rows,r.length=K.length/\r.Nodup/\∀(i h:Nat),r[i]?=some h->h∈K.getD i []
def zpq{U k:List Nat}(h:zsj K rows)(hU:∀x∈U,x∈k):zsj (K++[k]) (zzd rows U):=by
 intro r hr;unfold zzd at hr;obtain⟨x,hx,hr⟩:=List.mem_flatMap.mp hr;obtain⟨r0,hr0,rfl⟩:=List.mem_map.mp hr;obtain⟨hr0,hn⟩:=List.mem_filter.mp hr0;obtain⟨h1,h2,h3⟩:=h r0 hr0;have hn:x∉r0:=by simpa using hn
 refine⟨by simp[h1],List.nodup_append.mpr ⟨h2,by simp,λa ha b hb=>?_⟩,λi y e=>?_⟩
 ·rintro rfl;have:a=x:=by simpa using hb
  exact hn (this▸ha)
 ·by_cases hi:i<r0.length
  ·rw[yu hi]at e;have:=h3 i y e;rw[getD_eq_getElem?_getD]at this ⊢;rw[yu (by omega)];exact this
  ·have hlt:=(List.getElem?_eq_some_iff.mp e).1;rw[length_append,length_singleton]at hlt;have hi:i=r0.length:=by omega
   subst hi;rw[yJ (yi _),Nat.sub_self]at e;cases e;rw[getD_eq_getElem?_getD,h1,yJ (yi _),Nat.sub_self];exact hU _ hx
def z9p{M:List Nat}(c:Cw n K M rows)(ro:zsj K rows)(ha:a<n)(hb:b<n):∃M' rows',Cw n (K++[[a,b]]) M' rows'/\zsj (K++[[a,b]]) rows'/\rows'.length<=2*rows.length:=by
 have s:=zZq c ha hb (U:=if a=b then[a] else[a,b]) (λq=>if_pos q) (λq =>.inl (if_neg q));refine⟨_,_,s,zpq ro λx hx=>?_,?_⟩
 ·split at hx
  ·have:x=a:=by simpa using hx
   rw[this];simp
  ·exact hx
 ·refine yB (zsn rows _) (Nat.mul_le_mul_right _ ?_)
  split<;>simp
def zen{n:Nat}{K:List (List Nat)}(hK:Ok2 n K):∀i,i<=K.length->∃M rows,Cw n (K.take i) M rows/\zsj (K.take i) rows
 |0,_=>⟨_,_,zWn n,λr hr=>by
  have:r=[]:=by simpa using hr
  subst this;exact⟨by simp,by simp,λi h e=>by simp at e⟩⟩
 |i+1,h=>by
  obtain⟨M,rows,c,ro⟩:=zen hK i (by omega);have hi:i<K.length:=h;obtain⟨h2,hx⟩:=hK K[i] (getElem_mem hi);have e:=zie h2;have h0:K[i].getD 0 0<n:=hx _ (by rw[e];simp);have h1:K[i].getD 1 0<n:=hx _ (by rw[e];simp);obtain⟨M',rows',s,ro',_⟩:=z9p c ro h0 h1;rw[<-e]at s ro';rw[take_add_one,yo hi,show(some K[i]).toList=[K[i]] from rfl];exact⟨_,_,s,ro'⟩
def zzs(hK:Ok2 n K)(ro:zsj K rows)(h:0<rows.length):zAp (yg n 1) K:=by
 obtain⟨r,hr⟩:=List.exists_mem_of_length_pos h;obtain⟨h1,h2,h3⟩:=ro r hr;refine Sb.fits (X:=r) ⟨h1,λi h k e1 e2=>?_,λh=>?_⟩
 ·have:=h3 i h e1;rw[getD_eq_getElem?_getD,e2]at this;exact this
 ·have hc:r.count h<=1:=List.nodup_iff_count.mp h2 h
  by_cases hm:h∈r
  ·obtain⟨i,hi⟩:=List.mem_iff_getElem?.mp hm;have hil:=(List.getElem?_eq_some_iff.mp hi).1;have hh:=h3 i h hi;rw[getD_eq_getElem?_getD,yo (by omega)]at hh;have hlt:=(hK _ (getElem_mem (by omega))).2 h hh;rw[getD_eq_getElem?_getD,Yn,if_pos hlt];exact hc
  ·rw[List.count_eq_zero.mpr hm];exact Yl _
def zhn{f:Nat->List Nat}:∀{P:List Nat},P.Nodup->(∀a∈P,(f a).Nodup)->(∀a∈P,∀b∈P,∀x,x∈f a->x∈f b->a=b)->(P.flatMap f).Nodup
 |[],_,_,_=>by simp
 |a::P,nd,h1,h2=>by
  obtain⟨na,nP⟩:=List.nodup_cons.mp nd;rw[List.flatMap_cons,nodup_append];refine⟨h1 a (.head _),zhn nP (λb hb=>h1 b (.tail _ hb)) λb hb c hc=>h2 b (.tail _ hb) c (.tail _ hc),λx hx y hy e=>?_⟩;subst e;obtain⟨b,hb,hxb⟩:=List.mem_flatMap.mp hy;have:=h2 a (.head _) b (.tail _ hb) x hx hxb;exact na (this▸hb)
section
variable {n:Nat}{K:List (List Nat)}
def TZ:(zA n K).Nodup:=List.nodup_range.filter _
def zVe(ha:a∈zA n K)(hb:b∈zA n K)(h:Jn K a b):a=b:=by
 obtain⟨a1,a2⟩:=tH.mp ha;obtain⟨b1,b2⟩:=tH.mp hb;have:=a2 b b1 h;have:=b2 a a1 h.symm;omega
def zLe{x:Nat}(hx:x<n):∃a∈zA n K,Jn K a x:=by
 obtain⟨r,h1,h2,h3⟩:=zJs (K:=K) hx;exact⟨r,tH.mpr ⟨h1,h3⟩,h2.symm⟩
def zvm{P:List Nat}(hP:P.Sublist (zA n K)):(P.flatMap (zG n K)).Nodup :=
 zhn (TZ.sublist hP) (λa _=>(zPe n K a).imp λh e=>by omega) λa ha b hb x hx hy=>by
  obtain⟨_,j1⟩:=tz.mp hx;obtain⟨_,j2⟩:=tz.mp hy;exact zVe (hP.subset ha) (hP.subset hb) (j1.trans j2.symm)
def zNm(hK:Ok2 n K){P:List Nat}(hP:P.Sublist (zA n K)):(P.flatMap (zib n K)).Nodup :=
 zhn (TZ.sublist hP) (λa _=>List.nodup_range.filter _) λa ha b hb x hx hy=>by
  obtain⟨h,j1⟩:=(z7 hK).mp hx;obtain⟨_,j2⟩:=(z7 hK).mp hy;exact zVe (hP.subset ha) (hP.subset hb) (j1.trans j2.symm)
def zvs:(yh n).Perm ((zA n K).flatMap (zG n K)):=zSd nodup_range (zvm (Xc _)) λx=>by
 rw[mem_range,mem_flatMap];constructor
 ·intro hx;obtain⟨a,ha,j⟩:=zLe (K:=K) hx;exact⟨a,ha,tz.mpr ⟨hx,j⟩⟩
 ·rintro⟨a,_,h⟩;exact(tz.mp h).1
def z5r(hK:Ok2 n K):(yh K.length).Perm ((zA n K).flatMap (zib n K)):=zSd nodup_range (zNm hK (Xc _)) λx=>by
 rw[mem_range,mem_flatMap];constructor
 ·intro hx;obtain⟨a,ha,j⟩:=zLe (K:=K) (znn hK (getElem_mem hx));exact⟨a,ha,(z7 hK).mpr ⟨hx,j⟩⟩
 ·rintro⟨a,_,h⟩;exact((z7 hK).mp h).1
def zGt{x y:Nat}(h:Jn K x y)(hne:x≠y):∃k∈K,x∈k:=by
 induction h with
 |refl=>exact absurd rfl hne
 |@step b c _ e ih=>
  by_cases hb:x=b
  ·obtain⟨k,hk,h1,_⟩:=e;exact⟨k,hk,by rw[hb];exact h1⟩
  ·exact ih hb
def zBs(hK:Ok2 n K)(hi:i<K.length){x y:Nat}(hx:x∈K[i])(hy:y∈K[i])(h:Jn K a x):Jn K a y:=.step h ⟨K[i],getElem_mem hi,hx,hy⟩
def Sc{k:List Nat}(h:k.length=2):k.getD 0 0∈k:=by rw[zie h];simp
def z6p(hK:Ok2 n K){a:Nat}(h:zib n K a≠[]):zHd n K (zib n K a)=zG n K a:=by
 obtain⟨k0,hk0⟩:=List.exists_mem_of_ne_nil _ h;obtain⟨hk0l,j0⟩:=(z7 hK).mp hk0;have h2:=(hK _ (getElem_mem hk0l)).1;unfold zHd zG;refine filter_congr λx hx=>?_;have hx:=List.mem_range.mp hx;apply Bool.eq_iff_iff.mpr;rw[decide_eq_true_iff,tW];constructor
 ·rintro⟨k,hk,hm⟩;obtain⟨hkl,j⟩:=(z7 hK).mp hk;rw[z2c hkl]at hm;exact zBs hK hkl (Sc (hK _ (getElem_mem hkl)).1) hm j
 ·intro j
  have:∃i,∃hi:i<K.length,x∈K[i]:=by
   by_cases hne:x=K[k0].getD 0 0
   ·exact⟨k0,hk0l,by rw[hne];exact Sc h2⟩
   ·obtain⟨k,hk,hxk⟩:=zGt (j.symm.trans j0) hne;obtain⟨i,hi,rfl⟩:=List.mem_iff_getElem.mp hk;exact⟨i,hi,hxk⟩
  obtain⟨i,hi,hxi⟩:=this;refine⟨i,(z7 hK).mpr ⟨hi,zBs hK hi hxi (Sc (hK _ (getElem_mem hi)).1) j⟩,?_⟩;rw[z2c hi];exact hxi
def z1p{X:List Nat}(h:∀x∈X,x<n):zvo (yg n 1) X=X.length:=by
 unfold zvo
 induction X with
 |nil=>rfl
 |cons x X ih=>
  rw[map_cons,sum_cons,ih λy hy=>h y (.tail _ hy),length_cons,getD_eq_getElem?_getD,Yn,if_pos (h x (.head _))];show 1+_=_;omega
def z1c(hK:Ok2 n K){a:Nat}(ha:a<n):0<(zG n K a).length/\(zG n K a).length<=(zib n K a).length+1:=⟨zsf ha,by rw[zHn hK];exact conn hK ha⟩
def zFj(hK:Ok2 n K){a:Nat}(ha:a<n):zVc (yg n 1) K (zib n K a)=decide ((zG n K a).length<(zib n K a).length):=by
 obtain⟨h0,h1⟩:=z1c hK ha;unfold zVc;rw[length_replicate];apply decide_eq_decide.mpr
 by_cases he:zib n K a=[]
 ·rw[he];simp
 ·rw[z6p hK he,z1p λx hx=>(tz.mp hx).1]
end
def wtN(v e:Nat):Nat:=if e+1=v then 0 else if e=v then 1 else 2
def wd3(t:Nat):yG:=if t=0 then "tree" else if t=1 then "ring" else "over"
def zwn(v e:Nat):wtN v e<=2:=by
 unfold wtN
 split
 ·omega
 ·split<;>omega
def ziw(h:v<=e+1):wtN v (e+1)=min 2 (wtN v e+1):=by
 unfold wtN
 repeat' split
 all_goals omega
def zdw{v1 v2 e2:Nat}(h1:v1<=e1+1)(h2:v2<=e2+1):wtN (v1+v2) (e1+e2+1)=min 2 (wtN v1 e1+wtN v2 e2):=by
 unfold wtN
 repeat' split
 all_goals omega
def zqq(h:v<=e+1):wtN v e=2↔v<e:=by
 unfold wtN
 repeat' split
 all_goals omega
def z8n:∀{xs:List Nat},0<zQb xs↔∀x∈xs,0<x
 |[]=>by simp[zQb]
 |x::xs=>by
  have ih:=z8n (xs:=xs);show 0<x*zQb xs↔_;rw[List.forall_mem_cons,<-ih];constructor
  ·intro h;exact⟨Nat.pos_of_mul_pos_right h,Nat.pos_of_mul_pos_left h⟩
  ·rintro⟨h1,h2⟩;exact Nat.mul_pos h1 h2
section
variable {n:Nat}{K:List (List Nat)}
def wtA(n:Nat)(K:List (List Nat))(a:Nat):Nat:=wtN (zG n K a).length (zib n K a).length
def zYq(hK:Ok2 n K){a:Nat}(ha:a<n):0<zpm n K a↔wtA n K a≠2:=by
 obtain⟨h0,h1⟩:=z1c hK ha;unfold zpm wtA wtN
 repeat' split
 all_goals omega
def zLn(n:Nat)(K:List (List Nat)):Prop:=∃a∈zA n K,wtA n K a=2
def z5n(hK:Ok2 n K):0<zQb ((zA n K).map (zpm n K))↔¬zLn n K:=by
 rw[z8n];constructor
 ·rintro h ⟨a,ha,e⟩;exact(zYq hK (tH.mp ha).1).mp (h _ (List.mem_map.mpr ⟨a,ha,rfl⟩)) e
 ·intro h x hx;obtain⟨a,ha,rfl⟩:=List.mem_map.mp hx;exact(zYq hK (tH.mp ha).1).mpr λe=>h ⟨a,ha,e⟩
def zLq(w:Wb L (yg n 1) K)(hK:Ok2 n K):zAp (yg n 1) K↔¬zLn n K:=by
 constructor
 ·rintro f ⟨a,ha,e⟩;have hal:=(tH.mp ha).1;refine zFn w (T:=zib n K a) filter_sublist ?_ f;rw[zFj hK hal];exact decide_eq_true ((zqq (z1c hK hal).2).mp e)
 ·intro h;obtain⟨M,rows,c,ro⟩:=zen hK K.length (yi _);rw[take_length]at c ro;have e:=zyk c hK;have:=(z5n hK).mpr h;exact zzs hK ro (by omega)
def zyo(hK:Ok2 n K)(ha:a<n)(hb:b<n):zQb ((zA n (K++[[a,b]])).map (zpm n (K++[[a,b]])))<=2*zQb ((zA n K).map (zpm n K)):=by
 obtain⟨M,rows,c,ro⟩:=zen hK K.length (yi _);rw[take_length]at c ro;obtain⟨M',rows',c',ro',h⟩:=z9p c ro ha hb
 have hK':Ok2 n (K++[[a,b]]):=λk hk=>by
  rcases List.mem_append.mp hk with hk|hk
  ·exact hK k hk
  ·rw[List.mem_singleton.mp hk];exact⟨rfl,by simp[ha,hb]⟩
 rw[<-zyk c hK,<-zyk c' hK'];exact h
variable {e0 e1:Nat}
def zbn{x:Nat}:Jn (K++[[e0,e1]]) e0 x↔Jn K e0 x\/Jn K e1 x:=by
 rw[z4s (K':=K) (e0:=e0) (e1:=e1) λk=>by rw[mem_append,List.mem_singleton]];constructor
 ·rintro(h|⟨_,h⟩|⟨_,h⟩)
  ·exact .inl h
  ·exact .inr h
  ·exact .inl h
 ·rintro(h|h)
  ·exact .inl h
  ·exact .inr (.inl ⟨.refl,h⟩)
def zih(n:Nat)(K:List (List Nat))(e0 e1:Nat):List Nat:=(zA n K).filter λa=>decide (e0∈zG n K a)||decide (e1∈zG n K a)
def zli(h0:e0<n)(h1:e1<n){a:Nat}:a∈zih n K e0 e1↔a∈zA n K/\(Jn K a e0\/Jn K a e1):=by
 unfold zih;rw[mem_filter,xR,decide_eq_true_iff,decide_eq_true_iff,tz,tz];constructor
 ·rintro⟨h,q⟩;exact⟨h,q.elim (λq =>.inl q.2) λq =>.inr q.2⟩
 ·rintro⟨h,q⟩;exact⟨h,q.elim (λq =>.inl ⟨h0,q⟩) λq =>.inr ⟨h1,q⟩⟩
def z2l(h0:e0<n)(h1:e1<n):(zG n (K++[[e0,e1]]) e0).Perm ((zih n K e0 e1).flatMap (zG n K)):=by
 refine zSd ((zPe _ _ _).imp λh e=>by omega) (zvm filter_sublist) λx=>?_;rw[tz,zbn,mem_flatMap];constructor
 ·rintro⟨hx,j⟩;obtain⟨a,ha,ja⟩:=zLe (K:=K) hx;refine⟨a,(zli h0 h1).mpr ⟨ha,?_⟩,tz.mpr ⟨hx,ja⟩⟩;exact j.elim (λj =>.inl (ja.trans j.symm)) λj =>.inr (ja.trans j.symm)
 ·rintro⟨a,ha,hx⟩;obtain⟨h,j⟩:=tz.mp hx;obtain⟨_,q⟩:=(zli h0 h1).mp ha;exact⟨h,q.elim (λq =>.inl (q.symm.trans j)) λq =>.inr (q.symm.trans j)⟩
def z7q(hK:Ok2 n K)(h0:e0<n)(h1:e1<n):Ok2 n (K++[[e0,e1]]):=λk hk=>by
 rcases List.mem_append.mp hk with hk|hk
 ·exact hK k hk
 ·rw[List.mem_singleton.mp hk];exact⟨rfl,by simp[h0,h1]⟩
def zSp(hK:Ok2 n K)(h0:e0<n)(h1:e1<n):(zib n (K++[[e0,e1]]) e0).Perm ((zih n K e0 e1).flatMap (zib n K)++[K.length]):=by
 have hK':=z7q hK h0 h1
 have nd:((zih n K e0 e1).flatMap (zib n K)++[K.length]).Nodup:=by
  refine List.nodup_append.mpr ⟨zNm hK filter_sublist,by simp,λa ha b hb e=>?_⟩;obtain⟨p,_,hp⟩:=List.mem_flatMap.mp ha;obtain⟨hl,_⟩:=(z7 hK).mp hp;have:b=K.length:=by simpa using hb
  omega
 refine zSd (List.nodup_range.filter _) nd λx=>?_;rw[z7 hK',mem_append,mem_flatMap,List.mem_singleton];constructor
 ·rintro⟨hx,j⟩;rw[length_append,length_singleton]at hx
  by_cases hxl:x<K.length
  ·left
   rw[List.getElem_append_left hxl,zbn]at j;have hlt:=znn hK (getElem_mem hxl);obtain⟨a,ha,ja⟩:=zLe (K:=K) hlt;exact⟨a,(zli h0 h1).mpr ⟨ha,j.elim (λj =>.inl (ja.trans j.symm)) λj =>.inr (ja.trans j.symm)⟩,(z7 hK).mpr ⟨hxl,ja⟩⟩
  ·right
   omega
 ·rintro(⟨a,ha,hx⟩|rfl)
  ·obtain⟨hxl,j⟩:=(z7 hK).mp hx;obtain⟨_,q⟩:=(zli h0 h1).mp ha;refine⟨by rw[length_append];omega,?_⟩;rw[List.getElem_append_left hxl,zbn];exact q.elim (λq =>.inl (q.symm.trans j)) λq =>.inr (q.symm.trans j)
  ·refine⟨by simp,?_⟩;rw[List.getElem_append_right (yi _)];simp only[Nat.sub_self,List.getElem_cons_zero];exact .refl
def zBp(h0:e0<n)(h1:e1<n):(∃a∈zA n K,(zih n K e0 e1).Perm [a])\/∃a∈zA n K,∃b∈zA n K,(zih n K e0 e1).Perm [a,b]:=by
 obtain⟨a,ha,ja⟩:=zLe (K:=K) h0;obtain⟨b,hb,jb⟩:=zLe (K:=K) h1;have nd:(zih n K e0 e1).Nodup:=TZ.sublist filter_sublist
 have hm:∀x,x∈zih n K e0 e1↔x=a\/x=b:=λx=>by
  rw[zli h0 h1];constructor
  ·rintro⟨hx,j|j⟩
   ·exact .inl (zVe hx ha (j.trans ja.symm))
   ·exact .inr (zVe hx hb (j.trans jb.symm))
  ·rintro(rfl|rfl)
   ·exact⟨ha,.inl ja⟩
   ·exact⟨hb,.inr jb⟩
 by_cases e:a=b
 ·subst e;exact .inl ⟨a,ha,zSd nd (by simp) λx=>by rw[hm x];simp⟩
 ·exact .inr ⟨a,ha,b,hb,zSd nd (by simp[e]) λx=>by rw[hm x];simp⟩
def zkq(hK:Ok2 n K)(h0:e0<n)(h1:e1<n):wtA n (K++[[e0,e1]]) e0=min 2 (((zih n K e0 e1).map (wtA n K)).sum+if(zih n K e0 e1).length=1 then 1 else 0):=by
 unfold wtA;rw[(z2l h0 h1).length_eq,(zSp hK h0 h1).length_eq,length_append,List.length_flatMap,List.length_flatMap,length_singleton];rcases zBp (K:=K) h0 h1 with ⟨a,ha,p⟩|⟨a,ha,b,hb,p⟩
 ·have c:=(z1c hK (tH.mp ha).1).2;rw[(p.map _).sum_nat,(p.map λx=>(zib n K x).length).sum_nat,(p.map (λa=>wtN (zG n K a).length (zib n K a).length)).sum_nat,p.length_eq];simp only[map_cons,map_nil,sum_cons,List.sum_nil,length_singleton,if_pos,xO];exact ziw c
 ·have c:=(z1c hK (tH.mp ha).1).2;have d:=(z1c hK (tH.mp hb).1).2;rw[(p.map _).sum_nat,(p.map λx=>(zib n K x).length).sum_nat,(p.map (λa=>wtN (zG n K a).length (zib n K a).length)).sum_nat,p.length_eq];simp only[map_cons,map_nil,sum_cons,List.sum_nil,length_cons,List.length_nil,xO];rw[if_neg (by omega),xO];exact zdw c d
end
def PrB(μ:Mem)(n:Nat)(K:List (List Nat))(l:Nat)(xs:List (Nat×Nat))(P:List Nat):Prop:=μ[l]?=some (.lst (xs.map λp=>D.tup [.loc p.1,.loc p.2]))/\xs.length=P.length/\∀(i:Nat)(p:Nat×Nat)(a:Nat),xs[i]?=some p->P[i]?=some a->μ[p.1]?=some (.lst (nat (zG n K a)))/\μ[p.2]?=some (.lst (nat (zib n K a)))
def PrB.keep{μ μ':Mem}{xs:List (Nat×Nat)}{P:List Nat}(h:PrB μ n K l xs P)(k:tq μ μ'):PrB μ' n K l xs P :=
 ⟨k _ _ h.1,h.2.1,λi p a e1 e2=>⟨k _ _ (h.2.2 i p a e1 e2).1,k _ _ (h.2.2 i p a e1 e2).2⟩⟩
def zLb(n:Nat)(K:List (List Nat)):List yG:=(zA n K).map λa=>wd3 (wtA n K a)
def zKp(t:Nat):xN (wd3 t)=true:=by
 unfold wd3
 split
 ·decide +kernel
 ·split<;>decide +kernel
def zFr{t:Nat}(h:t<=2):Yx (.str (wd3 t)) (.str "over")=decide (t=2):=by
 have:t=0\/t=1\/t=2:=by omega
 rcases this with rfl|rfl|rfl<;>decide +kernel
def zpr(t:Nat):Yx (.str (wd3 t)) (.str (wd3 t))=true:=by
 unfold wd3
 split
 ·decide +kernel
 ·split<;>decide +kernel
def zEh:(zA n K).length<=n:=by
 unfold zA;simpa using length_filter_le (λa=>decide ((zG n K a).getD 0 0=a)) (yh n)
def zMn(w:Wb L (yg N 1) K)(hL:L<=60)(h2:∀k∈K,k.length=2)(q:∀(l:Nat)(μ':Mem),tq μ μ'->μ'[l]?=some (.lst ((zLb N K).map D.str))->Q (.loc l) μ'):WF zai [wn (yg N 1) K] μ Q:=by
 have hkl:=w.kl;have hrl:=w.rl;rw[length_replicate]at hrl;refine zDb rfl ?_;show WS zmk [some (wn (yg N 1) K)] μ _ _ _ _;unfold zmk;refine zu (zmg (zw (zj (zh rfl (zy ?_)))));refine zpf (by omega) (by omega) h2 λμ1 k1=>?_;refine zqb (zEm (zMd (zw (zj (zh rfl (zy ?_))))));refine zMk w hL λpl μ2 k2 pa=>?_;rw[length_replicate]at pa;obtain⟨xs,ex,hxs,_,hx⟩:=pa;have hP:=zEh (n:=N) (K:=K)
 have ez:xs.map (λp=>D.tup [.loc p.1,.loc p.2])=(xs.zip (zA N K)).map λz=>D.tup [.loc z.1.1,.loc z.1.2]:=by
  have e2:(xs.zip (zA N K)).map (λz=>D.tup [.loc z.1.1,.loc z.1.2])=((xs.zip (zA N K)).map Prod.fst).map λp=>D.tup [.loc p.1,.loc p.2]:=by rw[map_map];rfl
  rw[e2,List.map_fst_zip (by omega)]
 refine .inr (.inr ⟨pl,_,rfl,ex,zfc (by rw[length_map];omega),?_⟩);rw[ez]at ex ⊢;refine zZf (α:=(Nat×Nat)×Nat) (λz=>D.tup [.loc z.1.1,.loc z.1.2]) (xs.zip (zA N K)) (λz =>.str (wd3 (wtA N K z.2))) (λμ' k=>zW ex k) (λz hz μ' kp=>?_) (λμ' kp=>?_)
 ·obtain⟨i,hi⟩:=List.mem_iff_getElem?.mp hz;obtain⟨e1,e2⟩:=List.getElem?_zip_eq_some.mp hi;obtain⟨_,_,_,_,g1,g2⟩:=hx i z.1 z.2 e1 e2;refine zwd ?_;unfold zpl;refine zw (zj (zh rfl (zy ?_)));have e0:∀s:yG,s=wd3 (wtA N K z.2)->D.str s=D.str (wd3 (wtA N K z.2)):=λs h=>by rw[h]
  refine zll (kp _ _ g1) (kp _ _ g2) (λh=>⟨e0 _ ?_,kp,kp⟩) (λh=>⟨e0 _ ?_,kp,kp⟩) (λh h'=>⟨e0 _ ?_,kp,kp⟩)
  ·unfold wtA wtN;rw[if_pos h];rfl
  ·unfold wtA wtN;rw[if_neg (by omega),if_pos h];rfl
  ·unfold wtA wtN;rw[if_neg h,if_neg h'];rfl
 ·refine q _ _ (k1.trans (k2.trans kp.to)) ?_;rw[zB]
  congr 2
  unfold zLb;rw[map_map];have e2:(xs.zip (zA N K)).map (λz=>D.str (wd3 (wtA N K z.2)))=((xs.zip (zA N K)).map Prod.snd).map λa=>D.str (wd3 (wtA N K a)):=by rw[map_map];rfl
  rw[e2,List.map_snd_zip (by omega)];rfl
def zjl(w:Wb L (yg N 1) K)(hL:L<=60)(q:∀(l:Nat)(xs:List (Nat×Nat)) (μ':Mem),tq μ μ'->PrB μ' N K l xs (zA N K)->Q (.loc l) μ'):WF zrd [wn (yg N 1) K] μ Q:=by
 refine zMk w hL λpl μ2 k2 pa=>?_;rw[length_replicate]at pa;obtain⟨xs,ex,hxs,_,hx⟩:=pa;exact q pl xs μ2 k2 ⟨ex,hxs,λi p a e1 e2=>(hx i p a e1 e2).2.2.2.2⟩
section
variable {L N:Nat}{K:List (List Nat)}{hl sl:Nat}{xs:List (Nat×Nat)}{μ:Mem}{Q:D->Mem->Prop}
def zwt:((zLb n K).map D.str).any (λd=>eqF d (.str "over"))=true↔zLn n K:=by
 unfold zLb zLn;rw[map_map,any_map,any_eq_true];constructor
 ·rintro⟨a,ha,h⟩;refine⟨a,ha,?_⟩;have h:(wd3 (wtA n K a) == "over")=true:=h;have h:=beq_iff_eq.mp h
  have ht:wtA n K a=0\/wtA n K a=1\/wtA n K a=2:=by
   have:=zwn (zG n K a).length (zib n K a).length;unfold wtA;omega
  rcases ht with e|e|e
  ·rw[e]at h;exact absurd h (by decide +kernel)
  ·rw[e]at h;exact absurd h (by decide +kernel)
  ·exact e
 ·rintro⟨a,ha,h⟩;refine⟨a,ha,?_⟩;show(wd3 (wtA n K a) == "over")=true;rw[h];decide +kernel
def zOk(ss:List yG):(ss.map D.str).all zec=true:=by
 rw[List.all_map];exact List.all_eq_true.mpr λ_ _=>rfl
def zem{f:Nat->List Nat}{P:List Nat}(h:P[i]?=some a):(P.take (i+1)).flatMap f=(P.take i).flatMap f++f a:=by
 rw[take_add_one,h,List.flatMap_append];show _++List.flatMap f [a]=_;simp
def zcs(w:Wb L (yg N 1) K)(hL:L<=30)(hK:Ok2 N K)(pr:PrB μ N K hl xs (zA N K))(gs:μ[sl]?=some (.lst ((zLb N K).map D.str)))(q:∀μ',tq μ μ'->Q (.bl true) μ'):WF zcd [wn (yg N 1) K,.loc hl,.loc sl] μ Q:=by
 have hkl:=w.kl;have hrl:=w.rl;rw[length_replicate]at hrl;have h2:∀k∈K,k.length=2:=λk hk=>(hK k hk).1;have hP:=zEh (n:=N) (K:=K);obtain⟨ex,hxl,hx⟩:=pr;refine zDb rfl ?_;show WS zbd [some (wn (yg N 1) K),some (.loc hl),some (.loc sl),none,none,none,none] μ _ _ _ _;unfold zbd;refine zu (zab (zRg (zy ?_)));refine zu (zab (zRg (zy ?_)));have kab:tq μ ((μ++[tE.lst []])++[tE.lst []]):=tq.app.to;refine zu (zhe (zMd (zh rfl (.inr (.inr ⟨hl,_,rfl,kab _ _ ex,?_⟩)))))
 have lenA:∀i,(((zA N K).take i).flatMap (zG N K)).length<=N:=λi=>by
  have:=z1b (zvm (K:=K) (List.take_sublist i (zA N K))) (m:=yh N) λx hx=>by
   obtain⟨a,_,h⟩:=List.mem_flatMap.mp hx;exact List.mem_range.mpr (tz.mp h).1
  simpa using this
 have lenB:∀i,(((zA N K).take i).flatMap (zib N K)).length<=K.length:=λi=>by
  have:=z1b (zNm hK (List.take_sublist i (zA N K))) (m:=yh K.length) λx hx=>by
   obtain⟨a,_,h⟩:=List.mem_flatMap.mp hx;exact List.mem_range.mpr ((z7 hK).mp h).1
  simpa using this
 have lenC:∀a,(zG N K a).length<=N:=λa=>by
  unfold zG;simpa using length_filter_le (λb=>jnB K a b) (yh N)
 have lenK:∀a,(zib N K a).length<=K.length:=λa=>by
  unfold zib;simpa using length_filter_le (λk=>decide ((K.getD k []).getD 0 0∈zG N K a)) (yh K.length)
 refine zzb (λi J ν=>tq μ ν/\∃(a b:Nat)(x:Option D),J=[some (wn (yg N 1) K),some (.loc hl),some (.loc sl),some (.loc a),some (.loc b),x,none]/\ν[a]?=some (.lst (nat (((zA N K).take i).flatMap (zG N K))))/\ν[b]?=some (.lst (nat (((zA N K).take i).flatMap (zib N K))))) ⟨kab,_,_,_,rfl,zI zB,zB⟩ (λ_ _ _ h=>zW ex h.1) ?_ ?_
 ·rintro i x J ν hi ⟨kν,a,b,y,rfl,ga,gb⟩;rw[yj]at hi
  cases ep:xs[i]? with
  |none=>rw[ep]at hi;cases hi
  |some p=>
   rw[ep]at hi;cases hi;have hil:=(List.getElem?_eq_some_iff.mp ep).1;obtain⟨c,ec⟩:∃c,(zA N K)[i]?=some c:=⟨_,yo (by omega)⟩
   obtain⟨g1,g2⟩:=hx i p c ep ec;have la:=lenA i;have lb:=lenB i;have lc:=lenC c;have lk:=lenK c;refine zwd ?_;unfold z6e;refine zu (zab (zo (zh rfl (zo (zh rfl (w_c (zPb rfl rfl (zjp ga (kν _ _ g1) (by rw[length_map,length_map];omega) ?_))))))));refine zab (zo (zh rfl (zo (zh rfl (w_c (zPb rfl rfl (zjp (zI gb) (zI (kν _ _ g2)) (by rw[length_map,length_map];omega) ?_)))))));rw[<-z2b,<-z2b,<-zem ec,<-zem ec];exact⟨kν.to.to,_,_,_,rfl,zI zB,zB⟩
 rintro J ν ⟨kν,a,b,y,rfl,ga,gb⟩;rw[length_map,hxl,take_length]at ga gb;have la:=lenA N;have lb:=lenB N;rw[xf hP]at la lb;refine zu (zkf (zdj (zL (zo (zw (zj (zh rfl (zy (zin (T:=yh N) ga zvs xP (by omega) ?_)))))))));refine zPh (zw (zj (zo (zh rfl (w_c (zvd (zy (zbc rfl ⟨_,rfl,?_,?_⟩))))))))
 ·rw[length_map,length_replicate];omega
 rw[yX,length_map,length_replicate];refine zEu (α:=Nat) (yh N) (yh N) (zI zB) zB ⟨_,rfl,λ_=>?_,λh=>?_⟩
 case refine_2=>simp at h
 have kc:tq ν ((ν++[tE.lst (nat (yh N))])++[tE.lst ((yh N).map λ(k:Nat)=>D.int k)]):=tq.app.to;refine zL (zo (zw (zj (zh rfl (zy (zin (T:=yh K.length) (kc _ _ gb) (z5r hK) xP (by omega) ?_))))));refine zPh (zw (zj (zo (zh rfl (w_c (zAc (zy (zbc rfl ⟨_,rfl,?_,?_⟩))))))))
 ·rw[length_map];omega
 rw[yX,length_map];refine zEu (α:=Nat) (yh K.length) (yh K.length) (zI zB) zB ⟨_,rfl,λh=>?_,λ_=>zjb ?_⟩
 ·simp at h
 have kd:∀{g1 g2:tE},tq μ ((((ν++[tE.lst (nat (yh N))])++[tE.lst ((yh N).map λ(k:Nat)=>D.int k)])++[g1])++[g2]):=λ{g1 g2}=>((kν.trans kc).to).to;generalize h9:(((ν++[tE.lst (nat (yh N))])++[tE.lst ((yh N).map λ(k:Nat)=>D.int k)])++[tE.lst (nat (yh K.length))])++[tE.lst ((yh K.length).map λ(k:Nat)=>D.int k)]=μ2;have k2:tq μ μ2:=by rw[<-h9];exact kd
 clear h9 kd kc ga gb kν;refine zu (zhe (z5u (zj (zh rfl (zj (zh rfl (zy ⟨_,_,_,_,_,_,rfl,zGh (k2 _ _ ex),zGh (k2 _ _ gs),?_⟩)))))));rw[z5j (λp:Nat×Nat=>D.tup [.loc p.1,.loc p.2]) D.str xs (zLb N K)]
 have fin:∀(ν:Mem)(x5 x6:Option D),tq μ ν->WS (zdc (ztw (zz gEq (zz gEq (zz gIx (zD zog (zn (zp 0) zO)) (fC (.int 0))) (fC (.str "fits"))) (zz zge (fC (.str "over")) (zp 2))) (zz gEq (zz (z3j λi j=>decide (j<i)) (zD zgg (zn (zp 0) zO)) (fC (.int 0))) (zz zge (fC (.str "over")) (zp 2))))) [some (wn (yg N 1) K),some (.loc hl),some (.loc sl),some (.loc a),some (.loc b),x5,x6] ν (λ_ μ'=>Q .non μ') Q (λ_ _=>False) (λ_ _=>False):=λν x5 x6 kν=>by
  refine zqb (ztv (zo (zo (zo (zw (zj (zh rfl (zy ?_))))))))
  have after:∀(b1:Bool)(μ3:Mem),tq ν μ3->(b1=true↔zAp (yg N 1) K)->W2 gEq (.bl b1) (.bl (!((zLb N K).map D.str).any λd=>eqF d (.str "over"))) μ3 λx μ1=>∃b3,x=.bl b3/\(b3=true->WE (zz gEq (zz (z3j λi j=>decide (j<i)) (zD zgg (zn (zp 0) zO)) (fC (.int 0))) (zz zge (fC (.str "over")) (zp 2))) [some (wn (yg N 1) K),some (.loc hl),some (.loc sl),some (.loc a),some (.loc b),x5,x6] μ1 Q)/\(b3=false->Q (.bl false) μ1):=λb1 μ3 k3 hb1=>by
   have ho:=zwt (n:=N) (K:=K)
   have hb:b1 = !((zLb N K).map D.str).any λd=>eqF d (.str "over"):=by
    apply Bool.eq_iff_iff.mpr;rw[hb1,zLq w hK,Bool.not_eq_true',<-Bool.not_eq_true,ho]
   refine zVo (α:=Bool) _ _ ⟨_,rfl,λ_=>?_,λh=>absurd hb (of_decide_eq_false h)⟩;refine zo (zo (zw (zj (zh rfl (zy ?_)))));refine zVm w (by omega) h2 λμ4 k4=>w_c (zzk ?_);refine zo (w_c (zh rfl (zXh (zt (k4 _ _ (k3 _ _ (kν _ _ gs)))) rfl (zOk _) ?_)));have hw:=z5n hK
   have hb2:decide ((0:Int)<((zQb ((zA N K).map (zpm N K)):Nat):Int)) = !((zLb N K).map D.str).any λd=>eqF d (.str "over"):=by
    apply Bool.eq_iff_iff.mpr;rw[decide_eq_true_iff,Bool.not_eq_true',<-Bool.not_eq_true,ho,<-hw];omega
   refine zVo (α:=Bool) _ _ ?_;rw[hb2,decide_eq_true rfl];exact q _ (kν.trans (k3.trans k4))
  refine zkp w (by omega) (λlay l μ3 rt hall k3 _ _=>?_) (λS l μ3 hS hc _ k3 _ _=>?_)
  ·refine w_c (zPb rfl rfl (w_c (zqd ?_)));refine zo (w_c (zh rfl (zXh (zt (k3 _ _ (kν _ _ gs))) rfl (zOk _) ?_)));exact after (Yx (.str "fits") (.str "fits")) _ k3 ⟨λ_=>⟨lay,rt,hall⟩,λ_=>by decide +kernel⟩
  ·refine w_c (zPb rfl rfl (w_c (zqd ?_)));refine zo (w_c (zh rfl (zXh (zt (k3 _ _ (kν _ _ gs))) rfl (zOk _) ?_)));exact after (Yx (.str "crowd") (.str "fits")) _ k3 ⟨λh=>absurd h (by decide +kernel),λf=>absurd f (zFn w hS hc)⟩
 refine zzb (λi J ν=>tq μ ν/\∃x5 x6:Option D,J=[some (wn (yg N 1) K),some (.loc hl),some (.loc sl),some (.loc a),some (.loc b),x5,x6]) ⟨k2,_,_,rfl⟩ (λ_ _ _ h=>by rw[zW ex h.1,zW gs h.1];rfl) ?_ ?_
 ·rintro i x J ν hi ⟨kν,x5,x6,rfl⟩;rw[yj]at hi
  cases ez:(xs.zip (zLb N K))[i]? with
  |none=>rw[ez]at hi;cases hi
  |some z=>
   rw[ez]at hi;cases hi;obtain⟨e1,e2⟩:=List.getElem?_zip_eq_some.mp ez;unfold zLb at e2;rw[yj]at e2
   cases ec:(zA N K)[i]? with
   |none=>rw[ec]at e2;cases e2
   |some c=>
    rw[ec]at e2;have e2:wd3 (wtA N K c)=z.2:=by simpa using e2
    obtain⟨g1,g2⟩:=hx i z.1 c e1 ec;have hcn:=(tH.mp (mem_of_getElem? ec)).1;have lk:=lenK c;refine zhl (z3d (zwd (z3d (zwd (zrk ?_)))));rw[<-e2];unfold z7e;refine zkf (zL (zo (zw (zj (zh rfl (zj (zo (zh rfl (w_c (zPb rfl rfl (zy ?_)))))))))));refine zLj w (kν _ _ g2) (λk hk=>((z7 hK).mp hk).1) (by omega) λμ3 k3=>?_;refine zo (zh rfl (w_c (zqd ?_ (zKp _))))
    have hb:zVc (yg N 1) K (zib N K c)=Yx (.str (wd3 (wtA N K c))) (.str "over"):=by
     rw[zFj hK hcn,zFr (show wtA N K c<=2 from zwn _ _)];exact decide_eq_decide.mpr (zqq (z1c hK hcn).2).symm
    rw[hb];refine zTt (α:=Bool) _ _ ⟨_,rfl,λh=>?_,λ_=>zjb ⟨kν.trans k3,_,_,rfl⟩⟩;simp at h
 ·rintro J ν ⟨kν,x5,x6,rfl⟩;exact fin ν x5 x6 kν
end
def z7u{kvs:List (yG×D)}{i:yG}{d:D}(h:μ[n]?=some (.dts kvs))(h2:zDk kvs i=some d)(q:Q d μ):W2 zbp (.loc n) (.str i) μ Q:=⟨_,_,by simp only[zbp,h,h2,yr],q⟩
def znx{s1 s2 s3:yG}{i1 i2 i3:Int}(q:Q (.loc μ.length) (μ++[.dts [(s1,.int i1),(s2,.int i2),(s3,.int i3)]])):WE (z6w s1 s2 s3 i1 i2 i3) J μ Q:=⟨_,_,rfl,q⟩
def look3{t:Nat}(h:t<=2):zDk [("tree",.int 0),("ring",.int 1),("over",.int 2)] (wd3 t)=some (.int (t:Nat)):=by
 have:t=0\/t=1\/t=2:=by omega
 rcases this with rfl|rfl|rfl
 ·rfl
 ·rfl
 ·rfl
def zAq(P:List Nat)(c:Nat->Bool):((yh P.length).filter λi=>c (P.getD i 0)).map (λi=>P.getD i 0)=P.filter c:=by
 have e:P=(yh P.length).map λi=>P.getD i 0:=by
  refine ext_getElem? λi=>?_
  by_cases h:i<P.length
  ·simp[h]
  ·simp[h]
 conv=>rhs;rw[e,List.filter_map]
 rfl
def zsv{β:Type}(P:List Nat)(c:Nat->Bool)(f:Nat->β):((yh P.length).filter λi=>c (P.getD i 0)).map (λi=>f (P.getD i 0))=(P.filter c).map f:=by
 have:=congrArg (List.map f) (zAq P c);rw[map_map]at this;exact this
section
variable {L N:Nat}{K:List (List Nat)}{hl sl e0 e1:Nat}{xs:List (Nat×Nat)}{μ:Mem}{Q:D->Mem->Prop}
def zMt(hN:N<=10)(hkl:K.length<=60)(hK:Ok2 N K)(h0:e0<N)(h1:e1<N)(pr:PrB μ N K hl xs (zA N K))(gs:μ[sl]?=some (.lst ((zLb N K).map D.str)))(q:∀(l:Nat)(μ':Mem),tq μ μ'->μ'[l]?=some (.lst (nat (zG N (K++[[e0,e1]]) e0)))->Q (.tup [.loc l,.str (wd3 (wtA N (K++[[e0,e1]]) e0))]) μ'):WF zde [.loc hl,.loc sl,.tup [.int (e0:Nat),.int (e1:Nat)]] μ Q:=by
 have hP:=zEh (n:=N) (K:=K);obtain⟨ex,hxl,hx⟩:=pr;have hwl:(zLb N K).length=(zA N K).length:=by unfold zLb;simp
 have at1:∀i,i<(zA N K).length->∃p,xs[i]?=some p/\μ[p.1]?=some (.lst (nat (zG N K ((zA N K).getD i 0)))):=λi hi=>by
  have e1:xs[i]?=some xs[i]:=yo (by omega);have e2:(zA N K)[i]?=some ((zA N K).getD i 0):=by rw[getD_eq_getElem?_getD,yo hi];rfl
  exact⟨_,e1,(hx i _ _ e1 e2).1⟩
 obtain⟨cB,hcB⟩:∃cB:Nat->Bool,cB=λa=>decide (e0∈zG N K a)||decide (e1∈zG N K a):=⟨_,rfl⟩
 have hA:(zA N K).filter cB=zih N K e0 e1:=by rw[hcB];rfl
 refine zDb rfl ?_;show WS zRd [some (.loc hl),some (.loc sl),some (.tup [.int (e0:Nat),.int (e1:Nat)]),none,none,none,none,none] μ _ _ _ _;unfold zRd;refine zu (zab (zEm (zDg (zj (zw (zj (zh rfl (zy (zbc (zt ex) (zy ⟨_,rfl,by omega,by rw[length_map];omega,zfc (by simp;omega),?_⟩))))))))));rw[yX,length_map,hxl];refine zZd (λ(k:Nat)=>D.int k) (yh (zA N K).length) (λ(k:Nat)=>D.int k) (λi=>cB ((zA N K).getD i 0)) (λ_ _=>rfl) (λi hi μ' kp=>?_) (λμ1 k1=>?_)
 ·have hi:=List.mem_range.mp hi;obtain⟨p,ep,gp⟩:=at1 i hi;have hat:atI (xs.map λp=>D.tup [.loc p.1,.loc p.2]) (i:Int)=some (.tup [.loc p.1,.loc p.2]):=zyc (by rw[yj,ep];rfl);refine zwd ?_;unfold zcg zPf;refine zdj (zL (zo (zo (zh rfl (w_c (zPb rfl rfl (zo (zo (zh rfl (zh rfl (zPb (zt (kp _ _ ex)) hat (w_c (zPb rfl rfl (zzm (zt (kp _ _ gp)) ⟨_,rfl,λhb=>?_,λhb=>⟨?_,kp,λ_=>zh rfl ⟨rfl,kp⟩⟩⟩))))))))))))))
  ·refine zL (zo (zo (zh rfl (w_c (zPb rfl rfl (zo (zo (zh rfl (zh rfl (zPb (zt (kp _ _ ex)) hat (w_c (zPb rfl rfl (zzm (zt (kp _ _ gp)) ⟨_,rfl,?_,kp,λ_=>zh rfl ⟨rfl,kp⟩⟩)))))))))))));rw[hcB];show _=(decide _||decide _);rw[hb,Bool.false_or]
  ·rw[hcB];show _=(decide _||decide _);rw[hb,Bool.true_or]
 obtain⟨aL,haL⟩:∃aL,aL=(yh (zA N K).length).filter λi=>cB ((zA N K).getD i 0):=⟨_,rfl⟩
 rw[<-haL]
 have haLm:∀i∈aL,i<(zA N K).length:=λi hi=>by
  rw[haL]at hi;exact List.mem_range.mp (List.mem_filter.mp hi).1
 have hal:aL.length<=(zA N K).length:=by
  rw[haL];simpa using length_filter_le (λi=>cB ((zA N K).getD i 0)) (yh (zA N K).length)
 have hmap:∀{β:Type} (f:Nat->β),aL.map (λi=>f ((zA N K).getD i 0))=(zih N K e0 e1).map f:=λf=>by
  rw[haL,zsv,hA]
 have g1:(μ1++[tE.lst (nat aL)])[μ1.length]?=some (.lst (nat aL)):=zB;have k01:tq μ (μ1++[tE.lst (nat aL)]):=k1.to;generalize μ1++[tE.lst (nat aL)]=μ2 at g1 k01;generalize μ1.length=al at g1;refine zu (zab (znx ?_));have g2:(μ2++[tE.dts [("tree",.int 0),("ring",.int 1),("over",.int 2)]])[μ2.length]?=some (.dts [("tree",.int 0),("ring",.int 1),("over",.int 2)]):=zB;have g12:=zI (g:=[tE.dts [("tree",.int 0),("ring",.int 1),("over",.int 2)]]) g1;have k03:tq μ (μ2++[tE.dts [("tree",.int 0),("ring",.int 1),("over",.int 2)]]):=k01.to;generalize μ2++[tE.dts [("tree",.int 0),("ring",.int 1),("over",.int 2)]]=μ3 at g2 g12 k03;generalize μ2.length=wl at g2;refine zu (zab (zo (zw (zj (zEm (zMd (zh rfl (.inr (.inr ⟨al,_,rfl,g12,zfc (by rw[length_map];omega),?_⟩)))))))));refine zZf (λ(k:Nat)=>D.int k) aL (λi =>.int (wtA N K ((zA N K).getD i 0):Nat)) (λμ' k=>zW g12 k) (λi hi μ' kp=>?_) (λμ4 k4=>?_)
 ·have hi:=haLm i hi;refine zwd ?_;unfold zbg;refine zo (zh rfl (zo (zh rfl (zh rfl (zPb (zt (kp _ _ (k03 _ _ gs))) (zyc (v:=.str (wd3 (wtA N K ((zA N K).getD i 0)))) ?_) (z7u (kp _ _ g2) (look3 (zwn _ _)) ⟨rfl,kp,kp⟩))))));unfold zLb;rw[map_map,yj,yo hi,getD_eq_getElem?_getD,yo hi];rfl
 have e4:aL.map (λi=>D.int (wtA N K ((zA N K).getD i 0):Nat))=nat ((zih N K e0 e1).map (wtA N K)):=by
  rw[hmap λa=>D.int (wtA N K a:Nat),zUk]
 rw[e4];refine zy (zNs (S:=(zih N K e0 e1).map (wtA N K)) zB ?_);have k34:tq μ3 (μ4++[tE.lst (nat ((zih N K e0 e1).map (wtA N K)))]):=k4.to;generalize μ4++[tE.lst (nat ((zih N K e0 e1).map (wtA N K)))]=μ5 at k34;have k05:=k03.trans k34;refine zw (zj (zo (zw (zj (zh rfl (zy (zbc (zt (k34 _ _ g12)) (w_c (znh (zy (z9s (zDf ?_))))))))))))
 have htl:aL.length=(zih N K e0 e1).length:=by
  have:=congrArg List.length (hmap λa=>a);simpa using this
 rw[length_map,htl]
 have etot:((((zih N K e0 e1).map (wtA N K)).sum:Nat):Int)+(if((((zih N K e0 e1).length:Nat):Int)==1)=true then 1 else 0)=(((((zih N K e0 e1).map (wtA N K)).sum+if(zih N K e0 e1).length=1 then 1 else 0):Nat):Int):=by
  by_cases h:(zih N K e0 e1).length=1
  ·rw[if_pos h,if_pos (by rw[h];rfl)];omega
  ·rw[if_neg h,if_neg (by rw[beq_iff_eq];omega)];omega
 rw[etot];have hwm:=zkq hK h0 h1;generalize ((zih N K e0 e1).map (wtA N K)).sum+(if(zih N K e0 e1).length=1 then 1 else 0)=tot at hwm;refine zu (zab (zRg (zy ?_)));have k06:tq μ (μ5++[tE.lst []]):=k05.to;have g16:(μ5++[tE.lst []])[al]?=some (.lst (nat aL)):=zI (k34 _ _ g12);refine zu (zhe (zMd (zh rfl (.inr (.inr ⟨al,_,rfl,g16,?_⟩)))))
 have lenC:∀a,(zG N K a).length<=N:=λa=>by
  unfold zG;simpa using length_filter_le (λb=>jnB K a b) (yh N)
 refine zzb (λi J ν=>tq (μ5++[tE.lst []]) ν/\∃(a:Nat)(S:List Nat)(x:Option D),J=[some (.loc hl),some (.loc sl),some (.tup [.int (e0:Nat),.int (e1:Nat)]),some (.loc al),some (.loc wl),some (.int (tot:Nat)),some (.loc a),x]/\S=(aL.take i).flatMap (λj=>zG N K ((zA N K).getD j 0))/\S.length<=10*i/\ν[a]?=some (.lst (nat S))) ⟨.refl,_,[],_,rfl,rfl,by simp,zB⟩ (λ_ _ _ h=>zW g16 h.1) ?_ ?_
 ·rintro i x J ν hi ⟨kν,a,S,y,rfl,hS,hSl,ga⟩;rw[yj]at hi
  cases ej:aL[i]? with
  |none=>rw[ej]at hi;cases hi
  |some j=>
   rw[ej]at hi;cases hi;have hil:=(List.getElem?_eq_some_iff.mp ej).1;have hj:=haLm j (mem_of_getElem? ej);obtain⟨p,ep,gp⟩:=at1 j hj;have hat:atI (xs.map λp=>D.tup [.loc p.1,.loc p.2]) (j:Int)=some (.tup [.loc p.1,.loc p.2]):=zyc (by rw[yj,ep];rfl);have lc:=lenC ((zA N K).getD j 0);refine zwd ?_;unfold z9f;refine zab (zo (zh rfl (zo (zo (zh rfl (zh rfl (zPb (zt (kν _ _ (k06 _ _ ex))) hat (w_c (zPb rfl rfl (zjp ga (kν _ _ (k06 _ _ gp)) (by rw[length_map,length_map];omega) ?_))))))))));rw[<-z2b];refine⟨kν.to,_,_,_,rfl,?_,?_,zB⟩
   ·rw[hS,take_add_one,ej,List.flatMap_append];show _=_++List.flatMap _ [j];simp
   ·rw[length_append,Nat.mul_add];omega
 rintro J ν ⟨kν,a,S,y,rfl,hS,hSl,ga⟩;rw[length_map,take_length]at hS
 have hS2:S=(zih N K e0 e1).flatMap (zG N K):=by
  rw[hS,List.flatMap_def,List.flatMap_def,hmap (zG N K)]
 have hperm:=z2l (K:=K) h0 h1;rw[<-hS2]at hperm
 have hSN:S.length<=N:=by
  rw[<-hperm.length_eq];unfold zG;simpa using length_filter_le (λb=>jnB (K++[[e0,e1]]) e0 b) (yh N)
 refine zqb (zwe (zj (zw (zj (zh rfl (zy (zin (T:=zG N (K++[[e0,e1]]) e0) ga hperm (zPe _ _ _) (by omega) ?_)))))));refine zj (zo (zRg (zj (w_c (zj (w_c (zj (w_c (zy ?_)))))))));refine zw (zj (w_c (zj (zh rfl (zy (zUs ?_))))));have em:(if((tot:Nat):Int)<2 then((tot:Nat):Int) else 2)=((min 2 tot:Nat):Int):=by split<;>omega
 rw[em,<-hwm];refine zPb (zt zB) (show atI [D.str "tree",D.str "ring",D.str "over"] ((wtA N (K++[[e0,e1]]) e0:Nat):Int)=some (.str (wd3 (wtA N (K++[[e0,e1]]) e0))) from ?_) (zy ?_)
 ·have ht:wtA N (K++[[e0,e1]]) e0<=2:=zwn _ _;generalize wtA N (K++[[e0,e1]]) e0=t at ht;have:t=0\/t=1\/t=2:=by omega
  rcases this with rfl|rfl|rfl<;>rfl
 ·exact q _ _ (k06.trans (kν.to.to)) (zI zB)
end
def znu(h:Jn K a b):zG n K a=zG n K b:=by
 unfold zG;refine filter_congr λx _=>?_;apply Bool.eq_iff_iff.mpr;rw[tW,tW];exact⟨λz=>h.symm.trans z,λz=>h.trans z⟩
def zTu{ns:List Int}(h:Ta ns μ l B):∃(x:List D)(ys:List D),μ[l]?=some (.lst (.fz x::ys)):=by
 obtain⟨m,k,r,_,e⟩:=h;exact⟨_,_,e⟩
def zZr(ns:List Int)(_hn:ns.length<=63):∃μ',zcp [.fz (ns.map .int)] []=some (.bl true,μ'):=by
 have main:WF zcp [.fz (ns.map .int)] [] λd _=>d=.bl true:=by
  refine zDb rfl ?_;show WS zxs [some (.fz (ns.map .int)),none,none,none,none,none,none,none,none,none,none] [] _ _ _ _;unfold zxs;refine zu (zab (zw (zj (zh rfl (zy ?_)))));refine zpt λμ1 k1 p1 e1=>?_;generalize List.length ([]:Mem)=pn at p1;refine zu (zab (zw (zj (zh rfl (zj (w_c (zy ?_)))))));refine zlr (m:=17) p1 (by omega) (by omega) (by omega) λN K μ2 w h2 k2 p2=>?_;have hkl:K.length<=16:=by simpa using w.kl
  have hrl:=w.rl;rw[length_replicate]at hrl;have hK:Ok2 N K:=λk hk=>⟨h2 k hk,by simpa using(w.kn k hk).2⟩
  have hP:=zEh (n:=N) (K:=K);refine zu (zab (zw (zj (zh rfl (zy ?_)))));refine zjl w (by omega) λhl xs μ3 k3 pr=>?_;refine zu (zab (zw (zj (zh rfl (zy ?_)))));refine zMn w (by omega) h2 λsl μ4 k4 gs=>?_;have pr4:=pr.keep k4;have hwl:(zLb N K).length=(zA N K).length:=by unfold zLb;simp
  refine zu (zkf (zdj (zL (zo (zw (zj (zh rfl (zy (zbc (zt pr4.1) (zw (zj (zh rfl (zy (zbc (zt gs) ?_))))))))))))));rw[length_map,length_map,pr4.2.1,hwl];refine zTt (α:=Int) _ _ ⟨_,rfl,λ_=>?_,λh=>?_⟩
  case refine_2=>simp at h
  refine zGq (zL (zw (zj (zh rfl (zj (zh rfl (zj (zh rfl (zy ?_)))))))));refine zcs w (by omega) hK pr4 gs λμ5 k5=>⟨_,rfl,λh=>(by cases h),λ_=>zjb ?_⟩
  have p5:=p2.keep (k3.trans (k4.trans k5));have pr5:=pr4.keep k5;have hp5:=p5.lt;refine zu (zab (zwe (zj (zw (zj (zh rfl (zj (zw (zj (zo (zh rfl (w_c (zvd (zy (zbc rfl (zy ?_))))))))))))))));rw[length_map,length_replicate];refine zsk p5 (by omega) (by omega) (by omega) λv1 μ6 a1 b1 k6 _ p6=>?_;obtain⟨e0,rfl⟩:=Int.eq_ofNat_of_zero_le a1;refine zj (zw (zj (zh rfl (zj (zw (zj (zo (zh rfl (w_c (zvd (zy (zbc rfl (zy ?_)))))))))))));rw[length_map,length_replicate];refine zsk p6 (by omega) (by omega) (by omega) λv2 μ7 a2 b2 k7 _ p7=>zy ?_;obtain⟨e1',rfl⟩:=Int.eq_ofNat_of_zero_le a2;have h0:e0<N:=by omega
  have h1:e1'<N:=by omega
  have gg:∀{n:Nat} {ds:List D},(∀d∈ds,∀x,d≠.fz x)->μ5[n]?=some (.lst ds)->μ7[n]?=some (.lst ds):=λ{n ds} hd e=>by
   refine(k6.trans k7).at_ n _ ?_ e;rw[List.mem_singleton];intro hn;obtain⟨x,ys,ep⟩:=zTu p5;rw[hn,ep]at e;cases e;exact hd _ (.head _) _ rfl
  have nf1:∀d∈xs.map (λp=>D.tup [.loc p.1,.loc p.2]),∀x,d≠.fz x:=λd hd x e=>by
   obtain⟨a,_,rfl⟩:=List.mem_map.mp hd;cases e
  have nf2:∀{S:List Nat},∀d∈nat S,∀x,d≠.fz x:=λ{S} d hd x e=>by
   obtain⟨a,_,rfl⟩:=List.mem_map.mp hd;cases e
  have nf3:∀d∈(zLb N K).map D.str,∀x,d≠.fz x:=λd hd x e=>by
   obtain⟨a,_,rfl⟩:=List.mem_map.mp hd;cases e
  have pr7:PrB μ7 N K hl xs (zA N K):=⟨gg nf1 pr5.1,pr5.2.1,λi p a e1 e2=>⟨gg nf2 (pr5.2.2 i p a e1 e2).1,gg nf2 (pr5.2.2 i p a e1 e2).2⟩⟩
  have gs7:μ7[sl]?=some (.lst ((zLb N K).map D.str)):=gg nf3 (k5 _ _ gs);refine zu (z4j (zw (zj (zh rfl (zj (zh rfl (zj (zh rfl (zy ?_)))))))));refine zMt (by omega) (by omega) hK h0 h1 pr7 gs7 λnl μ8 k8 g8=>?_;refine zhl (z3d (zwd (z3d (zwd (zrk ?_)))));refine zu (zab (zwe (zj (zo (zh rfl (w_c (zvd (zj (zo (zo (zh rfl (w_c (zAc (zwe (zj (zh rfl (zy (z3s (by simp;omega) (zy ?_)))))))))))))))))))
  have ew:D.tup [tn (yg N 1),.tup (K.map tn++[.tup [.int (e0:Nat),.int (e1':Nat)]])]=wn (yg N 1) (K++[[e0,e1']]):=by
   show _=D.tup [tn (yg N 1),.tup ((K++[[e0,e1']]).map tn)];rw[map_append];rfl
  rw[ew];have hK':=z7q hK h0 h1;have w':Wb 17 (yg N 1) (K++[[e0,e1']]):=⟨by rw[length_replicate];exact hrl,by rw[length_append,length_singleton];omega,λk hk=>⟨by have:=(hK' k hk).1;omega,by rw[length_replicate];exact(hK' k hk).2⟩⟩
  have h2':∀k∈K++[[e0,e1']],k.length=2:=λk hk=>(hK' k hk).1;have htw:=zyo hK h0 h1;generalize hK2:K++[[e0,e1']]=K' at g8 hK' w' h2' htw;refine zu (zhe (z5u (zj (zw (zj (zh rfl (zy ?_)))))));refine zjl w' (by omega) λhl' xs' μ9 k9 pr9=>?_;refine zj (zw (zj (zh rfl (zy ?_))));refine zMn w' (by omega) h2' λsl' μa ka gsa=>zy ?_;have pra:=pr9.keep ka;refine⟨_,_,_,_,_,_,rfl,zGh pra.1,zGh gsa,?_⟩;rw[z5j (λp:Nat×Nat=>D.tup [.loc p.1,.loc p.2]) D.str xs' (zLb N K')];have ga8:=(k9.trans ka) _ _ g8;refine zzb (λi J ν=>tq μa ν/\∃x9 x10:Option D,J=[some (.fz (ns.map .int)),some (.loc pn),some (wn (yg N 1) K),some (.loc hl),some (.loc sl),some (.tup [.int (e0:Nat),.int (e1':Nat)]),some (.loc nl),some (.str (wd3 (wtA N K' e0))),some (wn (yg N 1) K'),x9,x10]) ⟨.refl,_,_,rfl⟩ (λ_ _ _ h=>by rw[zW pra.1 h.1,zW gsa h.1];rfl) ?_ ?_
  ·rintro i x J ν hi ⟨kν,x9,x10,rfl⟩;rw[yj]at hi
   cases ez:(xs'.zip (zLb N K'))[i]? with
   |none=>rw[ez]at hi;cases hi
   |some z=>
    rw[ez]at hi;cases hi;obtain⟨ex1,ex2⟩:=List.getElem?_zip_eq_some.mp ez;unfold zLb at ex2;rw[yj]at ex2
    cases ec:(zA N K')[i]? with
    |none=>rw[ec]at ex2;cases ex2
    |some c=>
     rw[ec]at ex2;have ex2:wd3 (wtA N K' c)=z.2:=by simpa using ex2
     obtain⟨gz1,gz2⟩:=pra.2.2 i z.1 c ex1 ec;have hcn:=(tH.mp (mem_of_getElem? ec)).1;have gz:=kν _ _ gz1;have gn:=kν _ _ ga8
     have hin:e0∈zG N K' c↔zG N K' c=zG N K' e0:=by
      constructor
      ·intro hm;obtain⟨_,j⟩:=tz.mp hm;exact znu j
      ·intro e;rw[e];exact tz.mpr ⟨h0,.refl⟩
     have hwt:zG N K' c=zG N K' e0->wtA N K' c=wtA N K' e0:=λe=>by
      unfold wtA zib;rw[e]
     refine zhl (z3d (zwd (z3d (zwd (zrk ?_)))));rw[<-ex2];unfold zTq
     have second:WT (zX (zz gNe (zz gIn (zz gIx (zp 5) (fC (.int 0))) (zz gIx (zp 9) (fC (.int 0)))) (zz gEq (zz gIx (zp 9) (fC (.int 0))) (zp 6)))) [some (.fz (ns.map .int)),some (.loc pn),some (wn (yg N 1) K),some (.loc hl),some (.loc sl),some (.tup [.int (e0:Nat),.int (e1':Nat)]),some (.loc nl),some (.str (wd3 (wtA N K' e0))),some (wn (yg N 1) K'),some (.tup [.loc z.1.1,.loc z.1.2]),some (.str (wd3 (wtA N K' c)))] ν λb μ'=>b=false/\μ'=ν:=by
      refine zL (zo (zo (zo (zh rfl (w_c (zPb rfl rfl (zo (zh rfl (w_c (zPb rfl rfl (zzm (zt gz) ?_)))))))))));refine zo (zo (zh rfl (w_c (zPb rfl rfl (zh rfl (zft (α:=Nat) (zG N K' c) (zG N K' e0) gz gn ?_))))));refine zTt (α:=Bool) _ _ ⟨_,rfl,?_,rfl⟩;have hd:decide (e0∈zG N K' c)=decide (zG N K' c=zG N K' e0):=decide_eq_decide.mpr hin;rw[hd,decide_eq_true rfl];rfl
     obtain⟨b2,μb2,s1,rfl,s2⟩:=second;subst s2;refine zkf (zdj (zGn (zL (zo (zo (zh rfl (w_c (zPb rfl rfl (zh rfl (zft (α:=Nat) (zG N K' c) (zG N K' e0) gz gn ⟨_,rfl,λhe=>?_,λhe=>⟨λ_=>⟨_,_,s1,λh=>(by cases h),λ_=>zjb ⟨kν,_,_,rfl⟩⟩,λh=>(by cases h)⟩⟩))))))))));refine zL (zo (zh rfl (zh rfl (zru ?_ (zKp _) (zKp _)))));rw[hwt (of_decide_eq_true he),zpr];exact⟨_,rfl,λ_=>⟨_,_,s1,λh=>(by cases h),λ_=>zjb ⟨kν,_,_,rfl⟩⟩,λh=>(by cases h)⟩
  ·rintro J ν ⟨kν,x9,x10,rfl⟩;refine zqb (zo (zw (zj (zh rfl (zy ?_)))));refine zVm w' (by omega) h2' λμb kb=>?_;refine zo (w_c (zw (zj (zh rfl (zy ?_)))));refine zVm w (by omega) h2 λμc kc=>zNk (by unfold zkh;simp) (zzk ?_);show D.bl _=D.bl true
   congr 1
   exact decide_eq_true (by omega)
 obtain⟨d,μ',e,rfl⟩:=main;exact⟨μ',e⟩
end P
namespace P
open PySem PySem.Spec PyProof.Rows L2 M
set_option maxHeartbeats 4000000
def ln1{α:Type}:∀{us:List α},us.length=1->∃a0,us=[a0]
 |[a0],_=>⟨a0,rfl⟩
def fa1{K:yx}{mg:yG->Option yb}{h:yW}{x p0:yG}{st:Yp}{f:yf}{fd:yn}(X:K.In h)(φ:h.Ns yD mg)(a:xW K yD x=some (some (.ref f)))(u:Fun K x x st f fd)
 (b:∀(kV doc pm:yb)(an:Option yf)(cdv ct a0:yb),bindArgs (W.fnOf x x (zzc st) (z8b st) (zx st) .none kV doc pm an cdv ct) ⟨[a0],[]⟩=pure [(p0,a0)]):FnAt K mg x st [p0] f fd :=
 ⟨u,W.mg_of X φ a,u.binds λkV doc pm an cdv ct us hl=>by obtain⟨a0,rfl⟩:=ln1 hl;exact b kV doc pm an cdv ct a0⟩
def ln2{α:Type}:∀{us:List α},us.length=2->∃a0 a1,us=[a0,a1]
 |[a0,a1],_=>⟨a0,a1,rfl⟩
def fa2{K:yx}{mg:yG->Option yb}{h:yW}{x p0 p1:yG}{st:Yp}{f:yf}{fd:yn}(X:K.In h)(φ:h.Ns yD mg)(a:xW K yD x=some (some (.ref f)))(u:Fun K x x st f fd)
 (b:∀(kV doc pm:yb)(an:Option yf)(cdv ct a0 a1:yb),bindArgs (W.fnOf x x (zzc st) (z8b st) (zx st) .none kV doc pm an cdv ct) ⟨[a0,a1],[]⟩=pure [(p0,a0),(p1,a1)]):FnAt K mg x st [p0,p1] f fd :=
 ⟨u,W.mg_of X φ a,u.binds λkV doc pm an cdv ct us hl=>by obtain⟨a0,a1,rfl⟩:=ln2 hl;exact b kV doc pm an cdv ct a0 a1⟩
def ln3{α:Type}:∀{us:List α},us.length=3->∃a0 a1 a2,us=[a0,a1,a2]
 |[a0,a1,a2],_=>⟨a0,a1,a2,rfl⟩
def fa3{K:yx}{mg:yG->Option yb}{h:yW}{x p0 p1 p2:yG}{st:Yp}{f:yf}{fd:yn}(X:K.In h)(φ:h.Ns yD mg)(a:xW K yD x=some (some (.ref f)))(u:Fun K x x st f fd)
 (b:∀(kV doc pm:yb)(an:Option yf)(cdv ct a0 a1 a2:yb),bindArgs (W.fnOf x x (zzc st) (z8b st) (zx st) .none kV doc pm an cdv ct) ⟨[a0,a1,a2],[]⟩=pure [(p0,a0),(p1,a1),(p2,a2)]):FnAt K mg x st [p0,p1,p2] f fd :=
 ⟨u,W.mg_of X φ a,u.binds λkV doc pm an cdv ct us hl=>by obtain⟨a0,a1,a2,rfl⟩:=ln3 hl;exact b kV doc pm an cdv ct a0 a1 a2⟩
def ln4{α:Type}:∀{us:List α},us.length=4->∃a0 a1 a2 a3,us=[a0,a1,a2,a3]
 |[a0,a1,a2,a3],_=>⟨a0,a1,a2,a3,rfl⟩
def fa4{K:yx}{mg:yG->Option yb}{h:yW}{x p0 p1 p2 p3:yG}{st:Yp}{f:yf}{fd:yn}(X:K.In h)(φ:h.Ns yD mg)(a:xW K yD x=some (some (.ref f)))(u:Fun K x x st f fd)
 (b:∀(kV doc pm:yb)(an:Option yf)(cdv ct a0 a1 a2 a3:yb),bindArgs (W.fnOf x x (zzc st) (z8b st) (zx st) .none kV doc pm an cdv ct) ⟨[a0,a1,a2,a3],[]⟩=pure [(p0,a0),(p1,a1),(p2,a2),(p3,a3)]):FnAt K mg x st [p0,p1,p2,p3] f fd :=
 ⟨u,W.mg_of X φ a,u.binds λkV doc pm an cdv ct us hl=>by obtain⟨a0,a1,a2,a3,rfl⟩:=ln4 hl;exact b kV doc pm an cdv ct a0 a1 a2 a3⟩
def all_of{l:W.OpenLaw}{w:yL}{K:yx}{h:yW}{mg:yG->Option yb}{fa:yf}(X:K.In h)(φ:h.Ns yD mg)(hfa:mg "law"=some (.ref fa))(e:Hd.obs K=Hd.good)
 : ∃fd:yn,(∀(s:yd)(v:yb),BindsTo s fd ⟨[v],[]⟩ [("_law_script",v)])/\∀base:yW,K.In base->base.Ns yD mg->tw l.prog w K mg base CX0 8 fa fd ["_law_script"] (spM K 1 zcp):=by
 have e_fn:=congrArg (·.1) e;have e_vv:=congrArg (·.2) e;obtain⟨⟨_,_,a0,u0⟩,e_fn⟩:=fnc e_fn;have zNe:FnAt K mg "_law_pen" zOe zic _ _:=fa1 X φ a0 u0 λ_ _ _ _ _ _ _=>rfl;obtain⟨⟨_,_,a1,u1⟩,e_fn⟩:=fnc e_fn;have zed:FnAt K mg "_law_mixed" zgd zFb _ _:=fa2 X φ a1 u1 λ_ _ _ _ _ _ _ _=>rfl;obtain⟨⟨_,_,a2,u2⟩,e_fn⟩:=fnc e_fn;have zfb:FnAt K mg "_law_take" zXc zob _ _:=fa2 X φ a2 u2 λ_ _ _ _ _ _ _ _=>rfl;obtain⟨⟨_,_,a3,u3⟩,e_fn⟩:=fnc e_fn;have z9c:FnAt K mg "_law_pairs" zfd zHb _ _:=fa2 X φ a3 u3 λ_ _ _ _ _ _ _ _=>rfl;obtain⟨⟨_,_,a4,u4⟩,e_fn⟩:=fnc e_fn;have zRb:FnAt K mg "joined_to" zSc znb _ _:=fa2 X φ a4 u4 λ_ _ _ _ _ _ _ _=>rfl;obtain⟨⟨_,_,a5,u5⟩,e_fn⟩:=fnc e_fn;have zuf:FnAt K mg "part_of" zrg zMc _ _:=fa2 X φ a5 u5 λ_ _ _ _ _ _ _ _=>rfl;obtain⟨⟨_,_,a6,u6⟩,e_fn⟩:=fnc e_fn;have zUc:FnAt K mg "parts" zHg ztc _ _:=fa1 X φ a6 u6 λ_ _ _ _ _ _ _=>rfl;obtain⟨⟨_,_,a7,u7⟩,e_fn⟩:=fnc e_fn;have zsb:FnAt K mg "check_pairs" z7b zcb _ _:=fa1 X φ a7 u7 λ_ _ _ _ _ _ _=>rfl;obtain⟨⟨_,_,a8,u8⟩,e_fn⟩:=fnc e_fn;have zQc:FnAt K mg "word_of" zqe zVb _ _:=fa1 X φ a8 u8 λ_ _ _ _ _ _ _=>rfl;obtain⟨⟨_,_,a9,u9⟩,e_fn⟩:=fnc e_fn;have zQi:FnAt K mg "words" zbk zZe _ _:=fa1 X φ a9 u9 λ_ _ _ _ _ _ _=>rfl;obtain⟨⟨_,_,a10,u10⟩,e_fn⟩:=fnc e_fn;have zOd:FnAt K mg "_law_more" zce z0b _ _:=fa3 X φ a10 u10 λ_ _ _ _ _ _ _ _ _=>rfl;obtain⟨⟨_,_,a11,u11⟩,e_fn⟩:=fnc e_fn;have zjd:FnAt K mg "is_on_ring" z8c zEb _ _:=fa2 X φ a11 u11 λ_ _ _ _ _ _ _ _=>rfl;obtain⟨⟨_,_,a12,u12⟩,e_fn⟩:=fnc e_fn;have zJe:FnAt K mg "on_rings" zHe zlc _ _:=fa1 X φ a12 u12 λ_ _ _ _ _ _ _=>rfl;obtain⟨⟨_,_,a13,u13⟩,e_fn⟩:=fnc e_fn;have zeg:FnAt K mg "ways_of" zEf zJc _ _:=fa2 X φ a13 u13 λ_ _ _ _ _ _ _ _=>rfl;obtain⟨⟨_,_,a14,u14⟩,e_fn⟩:=fnc e_fn;have zhh:FnAt K mg "ways" z6l zke _ _:=fa1 X φ a14 u14 λ_ _ _ _ _ _ _=>rfl;obtain⟨⟨_,_,a15,u15⟩,e_fn⟩:=fnc e_fn;have z1f:FnAt K mg "room_of" zyf zOc _ _:=fa2 X φ a15 u15 λ_ _ _ _ _ _ _ _=>rfl;obtain⟨⟨_,_,a16,u16⟩,e_fn⟩:=fnc e_fn;have z2e:FnAt K mg "homes_of" zUe znc _ _:=fa2 X φ a16 u16 λ_ _ _ _ _ _ _ _=>rfl;obtain⟨⟨_,_,a17,u17⟩,e_fn⟩:=fnc e_fn;have zkc:FnAt K mg "is_crowd" zEd zCb _ _:=fa2 X φ a17 u17 λ_ _ _ _ _ _ _ _=>rfl;obtain⟨⟨_,_,a18,u18⟩,e_fn⟩:=fnc e_fn;have zPk:FnAt K mg "lying" zjk zXe _ _:=fa2 X φ a18 u18 λ_ _ _ _ _ _ _ _=>rfl;obtain⟨⟨_,_,a19,u19⟩,e_fn⟩:=fnc e_fn;have zbe:FnAt K mg "pushes_to" zYd zYb _ _:=fa3 X φ a19 u19 λ_ _ _ _ _ _ _ _ _=>rfl;obtain⟨⟨_,_,a20,u20⟩,e_fn⟩:=fnc e_fn;have z7h:FnAt K mg "left" z8l zDe _ _:=fa2 X φ a20 u20 λ_ _ _ _ _ _ _ _=>rfl;obtain⟨⟨_,_,a21,u21⟩,e_fn⟩:=fnc e_fn;have zsh:FnAt K mg "row_to" zuh zLd _ _:=fa2 X φ a21 u21 λ_ _ _ _ _ _ _ _=>rfl;obtain⟨⟨_,_,a22,u22⟩,e_fn⟩:=fnc e_fn;have zKh:FnAt K mg "put_in" zBh zJd _ _:=fa3 X φ a22 u22 λ_ _ _ _ _ _ _ _ _=>rfl;obtain⟨⟨_,_,a23,u23⟩,e_fn⟩:=fnc e_fn;have z7j:FnAt K mg "fault" zdk zFe _ _:=fa2 X φ a23 u23 λ_ _ _ _ _ _ _ _=>rfl;obtain⟨⟨_,_,a24,u24⟩,e_fn⟩:=fnc e_fn;have z2f:FnAt K mg "is_push" zRf zNc _ _:=fa4 X φ a24 u24 λ_ _ _ _ _ _ _ _ _ _=>rfl;obtain⟨⟨_,_,a25,u25⟩,e_fn⟩:=fnc e_fn;have zqg:FnAt K mg "follows" zmf zKc _ _:=fa4 X φ a25 u25 λ_ _ _ _ _ _ _ _ _ _=>rfl;obtain⟨⟨_,_,a26,u26⟩,e_fn⟩:=fnc e_fn;have zJh:FnAt K mg "pushed" zOh zDd _ _:=fa4 X φ a26 u26 λ_ _ _ _ _ _ _ _ _ _=>rfl;obtain⟨⟨_,_,a27,u27⟩,e_fn⟩:=fnc e_fn;have zee:FnAt K mg "laid_more" z6d zWb _ _:=fa3 X φ a27 u27 λ_ _ _ _ _ _ _ _ _=>rfl;obtain⟨⟨_,_,a28,u28⟩,e_fn⟩:=fnc e_fn;have zGc:FnAt K mg "laid_at_all" zFc zxb _ _:=fa1 X φ a28 u28 λ_ _ _ _ _ _ _=>rfl;obtain⟨⟨_,_,a29,u29⟩,e_fn⟩:=fnc e_fn;have zRc:FnAt K mg "spare_key" z7d zUb _ _:=fa2 X φ a29 u29 λ_ _ _ _ _ _ _ _=>rfl;obtain⟨⟨_,_,a30,u30⟩,e_fn⟩:=fnc e_fn;have zVf:FnAt K mg "trimmed" zCf zIc _ _:=fa2 X φ a30 u30 λ_ _ _ _ _ _ _ _=>rfl;obtain⟨⟨_,_,a31,u31⟩,e_fn⟩:=fnc e_fn;have zRh:FnAt K mg "fitted" zth zBd _ _:=fa1 X φ a31 u31 λ_ _ _ _ _ _ _=>rfl;obtain⟨⟨_,_,a32,u32⟩,e_fn⟩:=fnc e_fn;have z6c:FnAt K mg "_law_whole" zmd zIb _ _:=fa3 X φ a32 u32 λ_ _ _ _ _ _ _ _ _=>rfl;obtain⟨⟨f33,oc33,od33,sl33,kV33,dc33,pm33,an33,cd33,ct33,a33,l33,c33,k33⟩,e_fn⟩:=fnl e_fn;have u33:=zXs (st:=zZm) l33 c33 k33;have zOw:FnAt K mg "law" zZm zao _ _:=fa1 X φ a33 u33 λ_ _ _ _ _ _ _=>rfl;have e:=hfa.symm.trans (W.mg_of X φ a33);cases e;obtain⟨z4w,e_vv⟩:=Yv e_vv;obtain⟨z9m,e_vv⟩:=Yv e_vv;obtain⟨zGw,e_vv⟩:=Yv e_vv;obtain⟨zpx,e_vv⟩:=Yv e_vv;obtain⟨zKv,e_vv⟩:=Yv e_vv;obtain⟨zdx,e_vv⟩:=Yv e_vv;obtain⟨zUt,e_vv⟩:=Yv e_vv;obtain⟨z5o,e_vv⟩:=Yv e_vv;obtain⟨zFw,e_vv⟩:=Yv e_vv;obtain⟨zGr,e_vv⟩:=Yv e_vv;obtain⟨zax,e_vv⟩:=Yv e_vv;obtain⟨zAt,e_vv⟩:=Yv e_vv;obtain⟨zfx,e_vv⟩:=Yv e_vv;have T:Txt K mg:=⟨YH X φ z4w,YH X φ z9m,YH X φ zGw,YH X φ zpx,YH X φ zKv,YH X φ zdx,YH X φ zUt,YH X φ z5o,YH X φ zFw,YH X φ zGr,YH X φ zax,YH X φ zAt,YH X φ zfx⟩
 refine⟨W.fnOf "law" "law" (zzc zZm) (z8b zZm) (zx zZm) .none kV33 dc33 pm33 an33 cd33 ct33,λs v =>.of_eq rfl,λbase _ _=>?_⟩;have zef:=z5k (P:=l.prog) (w:=w) (base:=base) T zNe;have z1d:=zZi (P:=l.prog) (w:=w) (base:=base) T zed;have zdb:=zvk T zed z1d zfb;have zUd:=zaj T zfb zdb z9c;have zTb:=zxk (P:=l.prog) (w:=w) (base:=base) T zRb;have zGg:=z5m T zRb zTb zuf;have zrc:=zVp T zuf zGg zUc;have zwb:=zmi (P:=l.prog) (w:=w) (base:=base) T zsb;have zPc:=zCm (P:=l.prog) (w:=w) (base:=base) T zQc;have zIh:=z3q T zsb zwb zQc zPc zUc zrc zQi;have zxe:=zSk (P:=l.prog) (w:=w) (base:=base) T zOd;have z4d:=z7i T zRb zTb zjd;have zaf:=z8k T zsb zwb zjd z4d zJe;have zJg:=zgn T zQc zPc zeg;have z9e:=zAr T zJe zaf zUc zrc zeg zJg zhh;have zzg:=zSm (P:=l.prog) (w:=w) (base:=base) T z1f;have zdf:=zom (P:=l.prog) (w:=w) (base:=base) T z2e;have zmc:=zil T z1f zzg z2e zdf zkc;have zWk:=zQq (P:=l.prog) (w:=w) (base:=base) T zPk;have zze:=zVk T zPk zWk zbe;have zOg:=zns (P:=l.prog) (w:=w) (base:=base) T z7h;have zyi:=z7o (P:=l.prog) (w:=w) (base:=base) T zsh;have zJi:=zio T zbe zze z7h zOg zsh zyi zKh;have zAk:=zuq T z7h zOg z7j;have zFg:=zym (P:=l.prog) (w:=w) (base:=base) T z2f;have zwg:=zIm (P:=l.prog) (w:=w) (base:=base) T zqg;have zMi:=zxo T z7j zAk z2f zFg zqg zwg zJh;have zle:=zck T zKh zJi zJh zMi zee;have zpd:=zYh T zee zle zGc;have z5c:=zwk T zkc zmc zRc;have zyg:=zrm T zRc z5c zVf;have z9h:=zXo T zGc zpd zVf zyg zRh;have z8d:=z4i T zkc zmc zhh z9e zRh z9h z6c;exact zHt T zNe zef z9c zUd zUc zrc zQi zIh zOd zxe zfb zdb zhh z9e z6c z8d zOw
def walk{l:W.OpenLaw}{q:yy}{loose:List yG}{XP:(yG->Option yb)->yW->Prop}{YP:yL->yW->Prop}{d:DefRec}{K:Params->yx}(hn:l.most=some 63)(hdf:d.params.defaults=[])
 (hY:∀(w:yL)(h:yW),YP w h->(K w.params).In h)
 (F:∀(w:yL)(mg:yG->Option yb)(fa:yf)(h:yW),(K w.params).In h->h.Ns yD mg->mg d.name=some (.ref fa) ->
  ∃fd:yn,(∀(s:yd)(u:yb),BindsTo s fd ⟨[u],[]⟩ [("_law_script",u)])/\∀base:yW,(K w.params).In base->base.Ns yD mg->tw l.prog w (K w.params) mg base CX0 8 fa fd ["_law_script"] (spM (K w.params) 1 zcp)) :
 W.WalkO q loose XP YP l.row.toRowW d [] (λf vs=>PySem.call f vs) :=
 L2.walk_of (n:=63) (k:=8) (x:="_law_script") (CX:=λ_=>CX0) (sp:=λw=>spM (K w.params) 1 zcp) hn (by decide) hdf (by first|exact⟨rfl,by decide,by decide,rfl⟩|exact⟨rfl,by decide,by decide⟩) hY F (λ_ _ a ns hl hO hS=>zVv (zZr ns hl) hO hS) λ_ _ _ _ _ z=>z
end P
open PySem PySem.W PyProof.Rows
set_option maxRecDepth 100000 in
set_option maxHeartbeats 0 in
theorem PySem.Challenge.cw_keynests_k36_whole_pairs_holds : PySem.Challenge.rw_keynests_k36_whole_pairs.Holds := by
 refine M.Sa (l:=xH) (q:=Hd.qv) (loose:=Hd.lse) (d:=Hd.dl) (obs:=Hd.obs) (good:=Hd.good) (N:=60000) Hd.hd1 Hd.hd2 Hd.hd3 Hd.hd4 Hd.hd5 Hd.hd6 Hd.hd7 ?hw λK e=>?_
 case hw=>w_witness2
 exact P.walk (l:=xH) (K:=λ_=>K) (by rfl) (by rfl) (λw h σ=>σ) λw mg fa h KX φ hmg=>P.all_of KX φ hmg e
