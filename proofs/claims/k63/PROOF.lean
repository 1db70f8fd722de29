import PyProof.Rows.All
import Lean
import KE.KTryDeep
import KE.IntBitsLaws
import KE.KIntText
import KE.KIsAll
import KE.KItem
import PySem.Challenge.RW_keynests_k63_texts_refused
set_option autoImplicit false
open List (all_eq_true all_map append_assoc append_nil cons_append filterMap_cons flatten_cons getD_eq_getElem?_getD getElem_mem length_append length_cons length_drop length_map length_range length_replicate lookup_cons mapM_cons map_append map_congr_left map_cons map_map map_nil mem_append mem_append_right mem_cons_of_mem mem_cons_self mem_of_getElem? nil_append replicate_succ size_toArray)
set_option maxRecDepth 100000
set_option linter.all false
set_option Elab.async false
open PySem renaming Value→ya,Shared→yb,Addr→yc,mainGlobals→ye,FuncData→yf,Str→yg,wpAny_bind→yh,starEach→yj,Expr→yt,Program→yu,wpAny→yw,wpAny_pure→yy,model→yz,sizeLine→yB,Around→yF,World→yI,cellsFrom→yL,mem_of_lookup→yM,Stmt→yQ,Heap→yS,bootBuiltins→yW,wpAny_mono→yX,backTo→Ye,eval→Yi,compareOp→Yj,wpAny_newObj_type→Yq,Obj→Yw,binaryOp→Yz,assignEach→YB,Pos→YD,wpAny_holding→YE,NameKind→YI,wpAny_truthy_bool→YK,foldedSetIterable→YL,attributeBase→YR,wpAny_field→YX,Scope→YZ,wpAny_execs_cons→xb,keywordEach→xj,PyData→xk,Keyword→xo,wpAny_setField→xt
open List.cons renaming inj→yd,injEq→yV
open Option renaming bind_some→yi,map_some→xn
open PySem.Heap renaming get?_push_of_some→yk,lt_size→ym,get?_push_size→yC,get?_update_other→yP,get?_update_self→Yl,size_push→xg
open List renaming replicate→yl,getElem?_append_right→yA,getElem?_append_left→yE,getElem?_eq_getElem→yG,getElem?_map→yO,getElem?_set_ne→yT,getElem?_set_self→Yb,range→Yp,getLast?_append→YJ,lookup→YT,drop_eq_getElem_cons→YV,getElem?_replicate→xf,take_of_length_le→xm
open PySem.NameKind renaming free→yn,cell→yH
open Nat renaming le_refl→yo,lt_of_lt_of_le→yp,le_trans→yq,ne_of_lt→yJ,lt_irrefl→Yh,zero_le→Yv,lt_of_le_of_lt→YC,ne_of_gt→YF,le_of_lt→YO,mul_le_mul→xh,le_of_not_lt→xv,lt_succ_self→xw
open PySem.W renaming Frag→yr,kitOne→yD,nsIn→yK,mg_of→Yt,ktsIn→Yy,hideAll→YA,mg_none_of→YQ,kia_one→xc,findIn→xq,Frag→xu
open PySem.Txt renaming join→yv,split→yx,slice→Yo
open Bool renaming and_eq_true→yN,false_ne_true→yR,false_and→xr
open Option.some renaming inj→yU
open PySem.Str renaming join→yY,length_append→YM
open PySem.Value renaming ref→yZ,none→Yk
open PySem.Obj renaming data_mapFields→Yc,isFreed_of_fields→Ys,mapFields→YS
open PySem.PyData renaming eqv→Yd,eqvAll→YH,strOk→xl,canLayAll0→xp
open Ne renaming symm→Yg
open PySem.F renaming excBase_ValueError→Ym
open ForInStep renaming yield→Yn
open PySem.Builtin.Str renaming occurrences→Yr,strKind→YW
open PySem.StrLaws renaming join_split→Yu,partsFrom→YY
open PyProof.Rows renaming slot_tuple_getitem→Yx
open PySem.Builtin.Tuple renaming tupleExact→YG
open False renaming elim→YN
open PySem.Builtin.Slice renaming slicePlaces→YU
open PySem.Challenge renaming rw_keynests_k63_texts_refused→xa
open Int renaming toNat→xi
noncomputable section
namespace M
open PySem PySem.W PyProof.Rows
def kOf(as:List yc)(h:yS):Frag:=as.filterMap λa=>(h.get? a).map λo=>(a,o)
def z1r(h:yS):Frag:=kOf (Yp h.objs.size) h
def zLr(s:yQ):Arguments:=match s with
 |.FunctionDef _ a _ _ _ _ _ _ _ _=>a
 |_=>{posonlyargs:=[],args:=[],vararg:=none,kwonlyargs:=[],kw_defaults:=[],kwarg:=none,defaults:=[]}
def zAr(s:yQ):List yQ:=match s with
 |.FunctionDef _ _ b _ _ _ _ _ _ _=>b
 |_=>[]
def zxo(s:yQ):YZ:=match s with
 |.FunctionDef _ _ _ _ _ _ sc _ _ _=>sc
 |_=>{kind:=.function,names:=[],isGenerator:=false,isCoroutine:=false }
def zav(s:yQ):YD:=match s with
 |.FunctionDef _ _ _ _ _ _ _ _ _ p=>p
 |_=>⟨0,0,0,0⟩
structure Tu where
 name:yg
 qual:yg
 params:Arguments
 body:FuncBody
 scope:YZ
 globals:yc
 closure:List (yg×yc)
 defaults:ya
 builtins:yc
 code:Bool
 keep:Bool
def zBm(K:Frag)(a:yc)(qual:yg):Option Tu:=match K.lookup a with
 |some ⟨_,_,.func fd,_⟩=>some ⟨fd.name,fd.qualname,fd.params,fd.body,fd.scope,fd.globals,fd.closure,fd.defaults,fd.builtins,codeIn K fd.code qual,keepIn K (.ref a)⟩
 |_=>none
def z9(K:Frag)(nm:yg):Option Tu:=match nsIn K ye nm with
 |some (some (.ref a))=>zBm K a nm
 |_=>none
def zmo(nm qual:yg)(st:yQ):Option Tu:=some ⟨nm,qual,zLr st,.stmts (zAr st),zxo st,ye,[],.none,builtinsNs,true,true⟩
def zfb(nm:yg)(st:yQ):Option Tu:=zmo nm nm st
def zyg(K:Frag)(nm:yg):Option Int:=match nsIn K ye nm with
 |some (some (.int i _))=>some i
 |_=>none
def zhk(K:Frag)(nm:yg):Option yg:=match nsIn K ye nm with
 |some (some (.str i _))=>some i
 |_=>none
def zzp{p q:yu}{loose:List yg}{α:Type}{Yf:yb->α}{y:α}{N:Nat}(h1:LeftO p q loose (λ_=>true) (λ_=>()) (λ_=>()) N)(h2:∀w,(openEnds treeTable p w N).map Yf=some y):LeftO p q loose (λ_=>true) Yf (λ_=>y) N:=λw=>by
 obtain⟨s,e,a⟩:=Option.map_eq_some_iff.mp (h1 w);obtain⟨s',e',b⟩:=Option.map_eq_some_iff.mp (h2 w);rw[e]at e';cases e';rw[e];show some (_,Yf s)=some (_,y);rw[b];exact congrArg (λz=>some (z.1,y)) a
end M
namespace Hd
open PySem PySem.Spec PyProof.Rows M
def top(i:Nat):yQ:=PySem.Challenge.pw_keynests_k63_texts_refused.main.body.getD i (.Pass ⟨0,0,0,0⟩)
def qv:yu:={PySem.Challenge.pw_keynests_k63_texts_refused with main:={PySem.Challenge.pw_keynests_k63_texts_refused.main with body:=[top 52]}}
def lse:List yg:=(PySem.Challenge.pw_keynests_k63_texts_refused.main.scope.names.map (·.1)).filter λx=>!(x == "law")
def dl:DefRec:={name:="law",params:=zLr (top 52),body:=zAr (top 52),scope:=zxo (top 52),pos:=zav (top 52)}
def obs(K:yr):List (Option Tu)×List (Option (Option ya))×List (Option Int)×List (Option yg)×List (Bool)×List (Option Bool):=([z9 K "_law_mixed",z9 K "_law_cell_at",z9 K "_law_pen",z9 K "_law_take",z9 K "_law_rule",z9 K "_law_web",z9 K "show_numbers",z9 K "show_rule",z9 K "show_homes",z9 K "show_web",z9 K "_law_bad_rule",z9 K "_law_bad_web",z9 K "check_text",z9 K "read_number",z9 K "read_numbers",z9 K "is_tuple",z9 K "is_number",z9 K "is_number_tuple",z9 K "are_rooms",z9 K "are_ways",z9 K "is_rule",z9 K "read_rule",z9 K "are_keys",z9 K "is_web",z9 K "read_nest",z9 K "read_homes",z9 K "read_web",z9 K "_law_asked",z9 K "_law_sign_right",z9 K "_law_sign",z9 K "law"],[yK K ye "ValueError",yK K ye "all",yK K ye "any",yK K ye "bool",yK K ye "int",yK K ye "isinstance",yK K ye "len",yK K ye "range",yK K ye "str",yK K ye "tuple",yK K ye "NoText",yK K ye "Twice",yK K ye "NoRule",yK K ye "NoRow",yK K ye "NoPush",yK K ye "NoPairs",yK K ye "NoKey",yK K ye "NoFit",yK K ye "Full",yK K ye "NestError",xq K (.ref 85) "__getattribute__",xq K (.ref 85) "__getattr__",xq K (.ref 85) "__class__",W.specialIn K (.builtin "object.__class__") "__get__"],[zyg K "DIVISOR",zyg K "MOST_NESTS",zyg K "MOST_ROOM",zyg K "MOST_KEYS",zyg K "MOST_FIGURES"],[zhk K "FIGURES",zhk K "LETTERS"],[Yy K 85 "BaseException",Yy K 61 "BaseException",Yy K 37 "BaseException",Yy K 97 "BaseException",Yy K 135 "BaseException",Yy K 49 "BaseException",Yy K 73 "BaseException",Yy K 154 "BaseException",Yy K 116 "BaseException",Yy K 24 "BaseException",W.excIn K 85 [.type "ValueError",.type "Exception",.type "BaseException",.type "object"] "ValueError.__new__",(W.clsIn K 85).isSome],[W.mroIn K 85 (.ref 24),W.mroIn K 85 (.type "BaseException"),W.mroIn K 85 (.type "object"),W.takesIn K (.builtin "object.__class__"),yD K (.type "NoneType") (.ref 85),yD K (.type "NoneType") (.type "ValueError"),yD K (.type "NoneType") (.ref 116),yD K (.type "NoneType") (.ref 154),yD K (.type "NoneType") (.ref 73),yD K (.type "NoneType") (.ref 49),yD K (.type "NoneType") (.ref 135),yD K (.type "NoneType") (.ref 97),yD K (.type "NoneType") (.ref 37),yD K (.type "NoneType") (.ref 61),yD K (.ref 85) (.ref 85),yD K (.ref 85) (.type "ValueError"),yD K (.ref 85) (.ref 116),yD K (.ref 85) (.ref 154),yD K (.ref 85) (.ref 73),yD K (.ref 85) (.ref 49),yD K (.ref 85) (.ref 135),yD K (.ref 85) (.ref 97),yD K (.ref 85) (.ref 37),yD K (.ref 85) (.ref 61)])
def good:List (Option Tu)×List (Option (Option ya))×List (Option Int)×List (Option yg)×List (Bool)×List (Option Bool):=([zfb "_law_mixed" (top 41),zfb "_law_cell_at" (top 42),zfb "_law_pen" (top 44),zfb "_law_take" (top 43),zfb "_law_rule" (top 46),zfb "_law_web" (top 45),zfb "show_numbers" (top 29),zfb "show_rule" (top 30),zfb "show_homes" (top 31),zfb "show_web" (top 32),zfb "_law_bad_rule" (top 50),zfb "_law_bad_web" (top 51),zfb "check_text" (top 36),zfb "read_number" (top 33),zfb "read_numbers" (top 34),zfb "is_tuple" (top 16),zfb "is_number" (top 15),zfb "is_number_tuple" (top 17),zfb "are_rooms" (top 18),zfb "are_ways" (top 19),zfb "is_rule" (top 20),zfb "read_rule" (top 37),zfb "are_keys" (top 23),zfb "is_web" (top 24),zfb "read_nest" (top 35),zfb "read_homes" (top 38),zfb "read_web" (top 39),zfb "_law_asked" (top 47),zfb "_law_sign_right" (top 49),zfb "_law_sign" (top 48),zfb "law" (top 52)],[some none,some none,some none,some none,some none,some none,some none,some none,some none,some none,some (some (.ref 85)),some (some (.ref 61)),some (some (.ref 37)),some (some (.ref 97)),some (some (.ref 135)),some (some (.ref 49)),some (some (.ref 73)),some (some (.ref 154)),some (some (.ref 116)),some (some (.ref 24)),some (some (.builtin "BaseException.__getattribute__")),some none,some (some (.builtin "object.__class__")),some (some (.builtin "getset_descriptor.__get__"))],[some 10007,some 10,some 9,some 30,some 60],[some "0123456789",some "abcdefghijklmnopqrstuvwxyz"],[true,true,true,true,true,true,true,true,true,true,true,true],[some true,some true,some true,some true,some false,some false,some false,some false,some false,some false,some false,some false,some false,some false,some true,some true,some false,some false,some false,some false,some false,some false,some false,some false])
set_option maxHeartbeats 0
def hd21:W.LeftO PySem.Challenge.rw_keynests_k63_texts_refused.prog qv lse (λ_=>true) (λ_=>()) (λ_=>()) 60000:=λw=>by kernel_rfl
def hd22:∀w,(W.openEnds treeTable PySem.Challenge.rw_keynests_k63_texts_refused.prog w 60000).map (λs=>obs (z1r s.heap))=some good:=λw=>by kernel_rfl
def hd2:W.LeftO PySem.Challenge.rw_keynests_k63_texts_refused.prog qv lse (λ_=>true) (λs=>obs (z1r s.heap)) (λ_=>good) 60000:=zzp hd21 hd22
def hd1:PySem.Challenge.rw_keynests_k63_texts_refused.wellSaid=true:=by kernel_rfl
def hd3:W.defOf qv PySem.Challenge.rw_keynests_k63_texts_refused.name=some (dl,[]):=by kernel_rfl
def hd4:PySem.Challenge.rw_keynests_k63_texts_refused.prog.theDef PySem.Challenge.rw_keynests_k63_texts_refused.name=some (dl.params,dl.body,dl.scope):=by kernel_rfl
def hd5:W.kwWritten? dl.params.kwonlyargs dl.params.kw_defaults=some []:=by kernel_rfl
def hd6:(W.chainsOk qv&&W.opensWell PySem.Challenge.rw_keynests_k63_texts_refused.prog&&(W.frees PySem.Challenge.rw_keynests_k63_texts_refused.row.toRowW&&PySem.Challenge.rw_keynests_k63_texts_refused.row.within.isEmpty))=true:=by kernel_rfl
def hd7:PySem.Challenge.rw_keynests_k63_texts_refused.prog.bare:=⟨rfl,rfl,rfl,rfl,rfl,by decide +kernel⟩
end Hd
namespace L2
open PySem PySem.Spec PyProof.Rows
abbrev Key:=Sum Int yg
def zks:Key->ya->Bool
 |.inl k,v=>Value.isInt k v
 |.inr x,v=>Value.isStrOf x v
def z1u(w:yI):Key->Int
 |.inl k=>hashInt k
 |.inr x=>hashStr w x
def zLb:∀{k:Key} {v:ya},zks k v=true->(∃i t,k=Sum.inl i/\v=Value.int i t)\/(∃x t,k=Sum.inr x/\v=Value.str x t)
 |.inl i,v,h=>by
  obtain⟨t,e⟩:=Value.isInt_shape (k:=i) (v:=v) h;exact .inl ⟨i,t,rfl,e⟩
 |.inr x,v,h=>by
  obtain⟨t,e⟩:=Value.isStrOf_shape (x:=x) (v:=v) h;exact .inr ⟨x,t,rfl,e⟩
def zjt(a b:Int):decide ((Sum.inl a:Key)=Sum.inl b)=(a==b):=by
 by_cases e:a=b
 ·subst e;simp
 ·have h:¬(Sum.inl a:Key)=Sum.inl b:=λq=>e (Sum.inl.inj q);rw[decide_eq_false h];exact(beq_eq_false_iff_ne.mpr e).symm
def zes(a b:yg):decide ((Sum.inr a:Key)=Sum.inr b)=decide (a=b):=by
 by_cases e:a=b
 ·subst e;simp
 ·have h:¬(Sum.inr a:Key)=Sum.inr b:=λq=>e (Sum.inr.inj q);rw[decide_eq_false h,decide_eq_false e]
def zTs(a:Int)(b:yg):decide ((Sum.inl a:Key)=Sum.inr b)=false:=decide_eq_false (λq=>nomatch q)
def zWr(a:yg)(b:Int):decide ((Sum.inr a:Key)=Sum.inl b)=false:=decide_eq_false (λq=>nomatch q)
def zco(prog:yu)(w:yI):PySem.KeyKind prog w Key where
 is:=zks
 hash:=z1u w
 inj:=λv a b ha hb=>by
  rcases zLb ha with ⟨i,t,rfl,rfl⟩|⟨x,t,rfl,rfl⟩
  ·rcases zLb hb with ⟨j,u,rfl,e⟩|⟨y,u,rfl,e⟩
   ·injection e with e1 _;rw[e1]
   ·exact nomatch e
  ·rcases zLb hb with ⟨j,u,rfl,e⟩|⟨y,u,rfl,e⟩
   ·exact nomatch e
   ·injection e with e1 _;rw[e1]
 byValue:=λk v h=>by
  rcases zLb h with ⟨i,t,rfl,rfl⟩|⟨x,t,rfl,rfl⟩<;>rfl
 pyHash:=λhv h=>by
  rcases zLb hv with ⟨i,t,rfl,rfl⟩|⟨x,t,rfl,rfl⟩
  ·exact wpAny_pyHash_int h
  ·exact wpAny_pyHash_str h
 eqBool:=λhu hv h=>by
  rcases zLb hu with ⟨i,t,rfl,rfl⟩|⟨x,t,rfl,rfl⟩
  ·rcases zLb hv with ⟨j,u,rfl,rfl⟩|⟨y,u,rfl,rfl⟩
   ·rw[zjt]at h;exact wpAny_eqBool_int h
   ·rw[zTs]at h;exact SeqAt.EqAt.int_str i t y u _ _ _ _ h
  ·rcases zLb hv with ⟨j,u,rfl,rfl⟩|⟨y,u,rfl,rfl⟩
   ·rw[zWr]at h;exact SeqAt.EqAt.str_int x t j u _ _ _ _ h
   ·rw[zes]at h;exact wpAny_eqBool_str h
 «strs»:=λk x t v h=>by
  rcases zLb h with ⟨i,u,rfl,e⟩|⟨y,u,rfl,e⟩
  ·exact nomatch e
  ·injection e with e1 _;subst e1;cases v<;>rfl
inductive V where
 |non|bl (b:Bool)|int (i:Int)|str (x:yg)|byt (b:Array UInt8)|flt (b:UInt64)|ref (a:yc)|ty (n:String)
 deriving DecidableEq
def RelV:V->ya->Prop
 |.non,u=>u=Yk
 |.bl b,u=>u=Value.bool b
 |.int i,u=>∃t,u=Value.int i t
 |.str x,u=>∃t,u=Value.str x t
 |.byt b,u=>∃t,u=Value.bytes b t
 |.flt b,u=>∃t,u=Value.float b t
 |.ref a,u=>u=yZ a
 |.ty n,u=>u=Value.type n
abbrev Vals:List V->List ya->Prop:=Paired RelV
def Vals.length{xs:List V}{us:List ya}(r:Vals xs us):xs.length=us.length:=Paired.length r
def Vals.get:∀{xs:List V} {us:List ya} {i:Nat} {x:V},Vals xs us->xs[i]?=some x->∃u,us[i]?=some u/\RelV x u
 |_,_,_,_,.nil,e=>by simp at e
 |_,_,0,_,.cons r _,e=>by simp at e;subst e;exact⟨_,rfl,r⟩
 |_,_,i+1,x,.cons _ t,e=>by
  obtain⟨u,h1,h2⟩:=Vals.get (i:=i) (x:=x) t (by simpa using e);exact⟨u,by simpa using h1,h2⟩
def Vals.set{x:V}{u:ya}(r:RelV x u):∀{xs:List V} {us:List ya} (i:Nat),Vals xs us->Vals (xs.set i x) (us.set i u)
 |_,_,_,.nil =>.nil
 |_,_,0,.cons _ t =>.cons r t
 |_,_,i+1,.cons q t =>.cons q (Vals.set r i t)
def Vals.append:∀{xs ys:List V} {us ws:List ya},Vals xs us->Vals ys ws->Vals (xs++ys) (us++ws)
 |_,_,_,_,.nil,s=>s
 |_,_,_,_,.cons r t,s =>.cons r (Vals.append t s)
def Vals.take:∀{xs:List V} {us:List ya} (n:Nat),Vals xs us->Vals (xs.take n) (us.take n)
 |_,_,0,_ =>.nil
 |_,_,_+1,.nil =>.nil
 |_,_,n+1,.cons r t =>.cons r (Vals.take n t)
def Vals.drop:∀{xs:List V} {us:List ya} (n:Nat),Vals xs us->Vals (xs.drop n) (us.drop n)
 |_,_,0,r=>r
 |_,_,_+1,.nil =>.nil
 |_,_,n+1,.cons _ t=>Vals.drop n t
def zEu:Option V->Option ya->Prop
 |some v,some u=>RelV v u
 |none,none=>True
 |_,_=>False
def KV{κ:Type}:List (κ×V)->List (κ×ya)->Prop:=Paired λ(p:κ×V) (q:κ×ya)=>p.1=q.1/\RelV p.2 q.2
def kV:Key->V
 |.inl i =>.int i
 |.inr x =>.str x
inductive HO where
 |lst (xs:List V)
 |tup (xs:List V)
 |dK (kvs:List (Key×V))|dT (kvs:List (List Key×V))
 |set (S:Int->Bool) (n:Nat)
 |ins (C dx:yc) (fs:List (yg×V))
 |own (x:yc)
 |xd (fs:List (yg×V))
 |met (f x:yc)
 |rng (lo hi:Int)
 |frz (o:Yw) (u:HO)
 |tbl (ps:Array ya)
 |ext (G:yS->Prop)
abbrev Hp:=yc->Option HO
def upd(H:Hp)(a:yc)(o:HO):Hp:=λb=>if b=a then some o else H b
def zW{H:Hp}{a:yc}{o:HO}:upd H a o a=some o:=by unfold upd;rw[if_pos rfl]
def zO{H:Hp}{a b:yc}{o:HO}(h:b≠a):upd H a o b=H b:=by unfold upd;rw[if_neg h]
def zy{H:Hp}{a b:yc}{o:HO}(h:H a=some o)(h':H b=none):a≠b:=by
 intro e;subst e;rw[h]at h';cases h'
section
variable (P:yu)(w:yI)
def tR(H:Hp)(h:yS)(a:yc):HO->Prop
 |.lst xs=>xs.length<=yB/\∃(its:List ya)(n:Nat),Vals xs its/\h.get? a=some {cls:=.type "list",data:=.seq its.toArray n }
 |.tup xs=>xs.length<=yB/\∃its:List ya,Vals xs its/\IsTup h a its.toArray
 |.dK kvs=>kvs.length<=yB/\(a==sysModules)=false/\∃vs,KV kvs vs/\h.DictOf (zco P w) a vs
 |.dT kvs=>kvs.length<=yB/\(a==sysModules)=false/\∃xs:List (List Key×yc×ya),
  Paired (λ(p:List Key×V) (q:List Key×yc×ya)=>p.1=q.1/\H q.2.1=some (.tup (p.1.map kV))/\RelV p.2 q.2.2) kvs xs /\
  ∃o es ep,h.get? a=some o/\o.ExactDict/\o.data=.dict es ep/\es.toList=xs.map (entryOfKey (tupleKind (zco P w)))/\(xs.map (·.1)).Nodup
 |.set S n=>h.SetOf (intKind P w) a S n
 |.ins C dx fs=>H dx=some (.own a)/\fs.length<=1000/\dx≠a/\h.get? a=some (W.instObj C dx) /\
  ∃mA,h.Ns1 dx mA/\(∀f,zEu (fs.lookup f) (mA f))/\PySem.Within mA (fs.map (·.1))
 |.own _=>∃o,h.get? a=some o
 |.xd fs=>∃mA,h.Ns1 a mA/\∀f,zEu (fs.lookup f) (mA f)
 |.rng lo hi=>∃t u v,h.get? a=some {cls:=.type "range",data:=.fields #[.int lo t,.int hi u,.int 1 v]}
 |.frz o u=>h.get? a=some o/\tR H h a u
 |.tbl ps=>h.get? a=some {cls:=.none,data:=.fields ps }
 |.met f x=>h.get? a=some (W.methodObj (.ref f) (.ref x))
 |.ext G=>G h/\(∃o,h.get? a=some o)/\∀h1 h2:yS,G h1->(∀o,h1.get? a=some o->h2.get? a=some o)->G h2
def HOk(H:Hp)(h:yS):Prop:=∀a o,H a=some o->tR P w H h a o
variable {P:yu}{w:yI}{H H':Hp}{h h':yS}{a:yc}{o:HO}
def tR.lt(x:tR P w H h a o):a<h.objs.size:=by
 cases o with
 |lst xs=>obtain⟨_,_,_,_,e⟩:=x;exact ym e
 |tup xs=>obtain⟨_,_,_,p⟩:=x;exact p.lt
 |dK kvs=>obtain⟨_,_,_,_,o,_,_,e,_⟩:=x;exact ym e
 |dT kvs=>obtain⟨_,_,_,_,o,_,_,e,_⟩:=x;exact ym e
 |set S n=>obtain⟨o,_,_,_,e,_⟩:=x;exact ym e
 |ins C dx fs=>obtain⟨_,_,_,e,_⟩:=x;exact ym e
 |own y=>obtain⟨_,e⟩:=x;exact ym e
 |xd fs=>obtain⟨_,⟨_,_,_,e,_⟩,_⟩:=x;exact ym e
 |rng lo hi=>obtain⟨_,_,_,e⟩:=x;exact ym e
 |frz ob u=>obtain⟨e,_⟩:=x;exact ym e
 |tbl ps=>exact ym (show h.get? a=some _ from x)
 |met f y=>exact ym (show h.get? a=some _ from x)
 |ext G=>obtain⟨_,⟨_,e⟩,_⟩:=x;exact ym e
def Paired.mapP{α β:Type}{F φ:α->β->Prop}:∀{l₁:List α} {l₂:List β},Paired F l₁ l₂->(∀a b,F a b->φ a b)->Paired φ l₁ l₂
 |_,_,.nil,_ =>.nil
 |_,_,.cons r t,f =>.cons (f _ _ r) (Paired.mapP t f)
def tR.stay(x:tR P w H h a o)(k:∀b u,(b=a\/H b=some (.own a))->h.get? b=some u->h'.get? b=some u)
 (ho:∀b,H b=some (.own a)->H' b=some (.own a)) (ht:∀b xs,H b=some (.tup xs)->H' b=some (.tup xs)):tR P w H' h' a o:=by
 induction o with
 |lst xs=>obtain⟨z,its,n,r,e⟩:=x;exact⟨z,its,n,r,k _ _ (.inl rfl) e⟩
 |tup xs=>obtain⟨z,its,r,ob,e,c⟩:=x;exact⟨z,its,r,ob,k _ _ (.inl rfl) e,c⟩
 |dK kvs=>obtain⟨z,y,vs,r,ob,es,ep,e,c⟩:=x;exact⟨z,y,vs,r,ob,es,ep,k _ _ (.inl rfl) e,c⟩
 |dT kvs=>
  obtain⟨z,y,xs,r,ob,es,ep,e,c⟩:=x;exact⟨z,y,xs,Paired.mapP r λp q z=>⟨z.1,ht _ _ z.2.1,z.2.2⟩,ob,es,ep,k _ _ (.inl rfl) e,c⟩
 |set S n=>obtain⟨ob,es,ep,t,e,c⟩:=x;exact⟨ob,es,ep,t,k _ _ (.inl rfl) e,c⟩
 |ins C dx fs=>
  obtain⟨d,z,ne,e,mA,⟨od,es,ep,e2,c⟩,r⟩:=x;exact⟨ho _ d,z,ne,k _ _ (.inl rfl) e,mA,⟨od,es,ep,k _ _ (.inr d) e2,c⟩,r⟩
 |own y=>obtain⟨ob,e⟩:=x;exact⟨ob,k _ _ (.inl rfl) e⟩
 |xd fs=>obtain⟨mA,⟨od,es,ep,e,c⟩,r⟩:=x;exact⟨mA,⟨od,es,ep,k _ _ (.inl rfl) e,c⟩,r⟩
 |rng lo hi=>obtain⟨t,u,v,e⟩:=x;exact⟨t,u,v,k _ _ (.inl rfl) e⟩
 |frz ob u ih=>obtain⟨e,q⟩:=x;exact⟨k _ _ (.inl rfl) e,ih q⟩
 |tbl ps=>
  have e:h.get? a=some {cls:=.none,data:=.fields ps }:=x;show h'.get? a=some {cls:=.none,data:=.fields ps };exact k a _ (.inl rfl) e
 |met f y=>
  have e:h.get? a=some (W.methodObj (.ref f) (.ref y)):=x;show h'.get? a=some (W.methodObj (.ref f) (.ref y));exact k a _ (.inl rfl) e
 |ext G=>obtain⟨p,⟨o,e⟩,st⟩:=x;exact⟨st _ _ p λo q=>k _ _ (.inl rfl) q,⟨o,k _ _ (.inl rfl) e⟩,st⟩
def HOk.lt(x:HOk P w H h)(e:H a=some o):a<h.objs.size:=(x a o e).lt
def HOk.fresh(x:HOk P w H h)(e:h.objs.size<=a):H a=none:=by
 cases q:H a with
 |none=>rfl
 |some u=>exact absurd (yp (x.lt q) e) (Yh _)
def HOk.kept(x:HOk P w H h)(k:∀b u,h.get? b=some u->h'.get? b=some u):HOk P w H h':=λa o e=>
 (x a o e).stay (λb u _ q=>k b u q) (λ_ q=>q) λ_ _ q=>q
def HOk.laid(x:HOk P w H h)(k:∀b u,h.get? b=some u->h'.get? b=some u)(hp:h.objs.size<=a)(new:tR P w (upd H a o) h' a o):HOk P w (upd H a o) h':=λb u e=>by
 have hn:=x.fresh hp
 by_cases hb:b=a
 ·subst hb;rw[zW]at e;cases e;exact new
 ·rw[zO hb]at e;exact(x b u e).stay (λc v _ q=>k c v q) (λc q=>by rw[zO (zy q hn)];exact q) λc xs q=>by rw[zO (zy q hn)];exact q
end
def Rd(H:Hp)(a:yc)(u:HO):Prop:=H a=some u\/∃o,H a=some (.frz o u)
def Rd.ok{P:yu}{w:yI}{H:Hp}{h:yS}{a:yc}{u:HO}(r:Rd H a u)(x:HOk P w H h):tR P w H h a u:=by
 rcases r with r|⟨o,r⟩
 ·exact x a u r
 ·obtain⟨_,q⟩:=x a _ r;exact q
def Mut:Option HO->Prop
 |some (.lst _)=>True
 |some (.dK _)=>True
 |some (.dT _)=>True
 |some (.set _ _)=>True
 |some (.ins _ _ _)=>True
 |some (.ext _)=>True
 |_=>False
section
variable {P:yu}{w:yI}{H:Hp}{h h':yS}{x e:yc}{o':HO}
def HOk.write(ok:HOk P w H h)(mu:Mut (H x))(he:e=x\/H e=some (.own x))(k:∀b u,b≠e->h.get? b=some u->h'.get? b=some u)(heo:∃u,h'.get? e=some u)
 (new:tR P w (upd H x o') h' x o'):HOk P w (upd H x o') h':=λb u q=>by
 have nown:∀c y,H c=some (.own y)->c≠x:=λc y r z=>by subst z;rw[r]at mu;exact mu
 have ntup:∀c xs,H c=some (.tup xs)->c≠x:=λc xs r z=>by subst z;rw[r]at mu;exact mu
 by_cases hb:b=x
 ·subst hb;rw[zW]at q;cases q;exact new
 ·rw[zO hb]at q
  by_cases hbe:b=e
  ·have q':H b=some (.own x):=by
    rcases he with z|z
    ·exact absurd (hbe.trans z) hb
    ·rw[hbe];exact z
   rw[q]at q';cases q';obtain⟨v,hv⟩:=heo;exact⟨v,by rw[hbe];exact hv⟩
  ·refine(ok b u q).stay (λc v hc r=>k c v ?_ r) (λc r=>by rw[zO (nown c b r)];exact r) λc xs r=>by rw[zO (ntup c xs r)];exact r
   rcases hc with rfl|hc
   ·exact hbe
   ·rintro rfl;rcases he with z|z
    ·exact nown c b hc z
    ·rw[hc]at z;cases z;exact hb rfl
end
structure Un(fs ex:List yc)(H H':Hp)(h h':yS):Prop where
 keep:∀b o,h.get? b=some o->H b=none->b∉fs->b∉ex->h'.get? b=some o
 slot:∀b o,h.get? b=some o->H b=none->b∈fs->b∉ex->∃sl,h'.get? b=some {o with slots:=sl }
 free:∀b o,h.get? b=some o->H b=none->b∉ex->H' b=none
 there:∀b o,h.get? b=some o->b∉ex->∃o',h'.get? b=some o'
 tups:∀b xs,H b=some (.tup xs)->H' b=some (.tup xs)
 Tp:∀b o u,H b=some (.frz o u)->H' b=some (.frz o u)
 Tq:∀b ps,H b=some (.tbl ps)->∃more,H' b=some (.tbl (ps++more))
section
variable {fs fs' ex ex':List yc}{H H1 H2:Hp}{h h1 h2 h':yS}{a x e:yc}{o:HO}
def Un.any(u:Un fs ex H H1 h h1){b:yc}{ob:Yw}(q:h.get? b=some ob)(n:H b=none)(hx:b∉ex):∃sl,h1.get? b=some {ob with slots:=sl }:=by
 by_cases hb:b∈fs
 ·exact u.slot b ob q n hb hx
 ·exact⟨ob.slots,u.keep b ob q n hb hx⟩
def Un.kept(k:∀b u,h.get? b=some u->h'.get? b=some u):Un fs ex H H h h' :=
 ⟨λb ob q _ _ _=>k b ob q,λb ob q _ _ _=>⟨ob.slots,k b ob q⟩,λ_ _ _ n _=>n,λb ob q _=>⟨ob,k b ob q⟩,λ_ _ q=>q,λ_ _ _ q=>q,λ_ ps q=>⟨#[],by rw[q];simp⟩⟩
def Un.refl:Un fs ex H H h h:=Un.kept λ_ _ q=>q
def Un.laid(k:∀b u,h.get? b=some u->h'.get? b=some u)(hp:h.objs.size<=a)(hn:H a=none):Un fs ex H (upd H a o) h h' where
 keep:=λb u q _ _ _=>k b u q
 slot:=λb u q _ _ _=>⟨u.slots,k b u q⟩
 free:=λb u q n _=>by rw[zO (yJ (yp (ym q) hp))];exact n
 there:=λb u q _=>⟨u,k b u q⟩
 tups:=λb xs q=>by rw[zO (zy q hn)];exact q
 Tp:=λb u xs q=>by rw[zO (zy q hn)];exact q
 Tq:=λb ps q=>⟨#[],by rw[zO (zy q hn),q];simp⟩
def Un.write(mu:Mut (H x))(he:e=x\/H e=some (.own x))(k:∀b u,b≠e->h.get? b=some u->h'.get? b=some u)(heo:∃u,h'.get? e=some u):Un fs ex H (upd H x o) h h':=by
 have hx:∀b,H b=none->b≠x:=λb n z=>by subst z;rw[n]at mu;exact mu
 have hb:∀b,H b=none->b≠e:=λb n z=>by
  subst z;rcases he with r|r
  ·exact hx b n r
  ·rw[n]at r;cases r
 have hm:∀b u,H b=some u->¬Mut (some u)->b≠x:=λb u q nm z=>by subst z;rw[q]at mu;exact nm mu
 refine⟨λb u q n _ _=>k b u (hb b n) q,λb u q n _ _=>⟨u.slots,k b u (hb b n) q⟩,λb u q n _=>by rw[zO (hx b n)];exact n,λb u q _=>?_,
  λb xs q=>by rw[zO (hm b _ q λz=>z)];exact q,λb u xs q=>by rw[zO (hm b _ q λz=>z)];exact q,λb ps q=>⟨#[],by rw[zO (hm b _ q λz=>z),q];simp⟩⟩
 by_cases hbe:b=e
 ·subst hbe;exact heo
 ·exact⟨u,k b u hbe q⟩
end
def trk(h:yS)(H:Hp):List yc:=(Yp h.objs.size).filter λa=>(H a).isSome
def z1p(h:yS)(H:Hp):yS:=YA h (trk h H)
def zho(h:yS)(H:Hp):(z1p h H).objs.size=h.objs.size:=W.hideAll_size _ _
def zkp{h:yS}{H:Hp}{b:yc}{o:Yw}(e:h.get? b=some o)(n:H b=none):(z1p h H).get? b=some o :=
 W.hideAll_get _ e λhm=>by
  have q:(H b).isSome=true:=(List.mem_filter.mp hm).2;rw[n]at q;simp at q
def zMq{h:yS}{H:Hp}{b:yc}{o:Yw}(e:(z1p h H).get? b=some o):h.get? b=some o/\H b=none:=by
 have e':h.get? b=some o:=W.of_hideAll (trk h H) e;refine⟨e',?_⟩
 cases q:H b with
 |none=>rfl
 |some x=>
  have hm:b∈trk h H:=List.mem_filter.mpr ⟨List.mem_range.mpr (ym e'),by simp[q]⟩;have z:(z1p h H).get? b=none:=W.hideAll_none (trk h H) hm;rw[z]at e;cases e
def zyr(g h:yS)(L:yc):List (yc×Yw):=(Yp h.objs.size).filterMap λa=>if a=L\/(g.get? a).isSome=true then none else(h.get? a).map λo=>(a,o)
def zpe(g h:yS)(L d:yc):List (yc×Yw):=(zyr g h L).filter λp=>decide (p.1≠d)
structure Mod(K:yr)(mg:yg->Option ya)(base:yS):Prop where
 kin:K.In base
 glob:base.Ns ye mg
 blt:∃mb,base.Ns builtinsNs mb/\∀x:yg,x≠"__name__"->mb x=yW x
 nolimit:base.NoLimit
structure Cx where
 prog:yu
 w:yI
 K:yr
 mg:yg->Option ya
 base:yS
 A:yF
 N:List yg
 s₀:yb
 H₀:Hp
 env:Env
 outer:List Env
 stack:List Env
 ex:List yc
 fn:yg->Bool
 calm:Bool
 pn:List (yc×Yw)
 xe:ya->yb->Prop
def frs(l:List Env):List yc:=l.filterMap (·.frame)
abbrev Cx.fs(X:Cx):List yc:=frs X.outer
def Vis(sc:YZ)(x:yg):Prop:=sc.names.lookup x=some .local\/sc.names.lookup x=some .cell\/sc.names.lookup x=some .free
def Loc(sc:YZ)(x:yg):Prop:=sc.names.lookup x=some .local\/sc.names.lookup x=some .cell
def z4u(env:Env)(h:yS)(m:yg->Option ya)(x:yg)(u:ya):Prop :=
 (env.kindOf x=some .local/\m x=some u)\/((env.kindOf x=some .cell\/env.kindOf x=some .free)/\∃c,env.cells.lookup x=some c/\h.IsCell c (some u))
structure Cx.Ok(X:Cx):Prop where
 mod:Mod X.K X.mg X.base
 kind:X.env.scope.kind=.function
 glob:X.env.globals=ye
 blt:X.env.builtins=builtinsNs
 above:X.s₀.heap.objs.size<=X.env.locals
 inj:∀x y c,X.env.cells.lookup x=some c->X.env.cells.lookup y=some c->x=y
 has:∀x,(X.env.kindOf x=some .cell\/X.env.kindOf x=some .free)->∃c,X.env.cells.lookup x=some c
 cab:∀x c,X.fn x=true->X.env.cells.lookup x=some c->X.s₀.heap.objs.size<=c
 hd:X.calm=true->X.A.handled=none
 frames:X.A.frames=some X.stack
 stk:X.stack=X.outer\/(X.stack=X.env::X.outer/\X.env.frame=some X.env.locals)
 exf:∀b∈X.ex,b≠X.env.locals/\∀x c,X.env.cells.lookup x=some c->c≠b
 bs:∀b o,X.base.get? b=some o->X.s₀.heap.get? b=some o/\X.H₀ b=none
 bsz:X.base.objs.size<=X.s₀.heap.objs.size
 sC:∀b o,X.base.get? b=some o->b∉X.ex
 sL:∀b∈X.ex,b∉X.fs
 Tx:X.s₀.heap.FunFrames X.base X.outer
 frf:∀b∈X.fs,X.H₀ b=none
structure Inv(X:Cx)(U:List (yc×Yw))(Y:List (Option V))(H:Hp)(s:yb):Prop where
 ok:X.Ok
 os:s.os=X.s₀.os
 bare:AllBare s.gens
 base:Un X.fs X.ex X.H₀ H X.s₀.heap s.heap
 loc:∃m,s.heap.Ns X.env.locals m/\∀(i:Nat)(x:yg)(v:V),X.N[i]?=some x->Y[i]?=some (some v)->Vis X.env.scope x->∃u,RelV v u/\z4u X.env s.heap m x u
 cell:∀x c,X.env.cells.lookup x=some c->∃v,s.heap.IsCell c v
 free:H X.env.locals=none
 freeC:∀x c,X.env.cells.lookup x=some c->H c=none
 pin:∀p∈X.pn++U,s.heap.get? p.1=some p.2/\H p.1=none/\p.1≠X.env.locals/\p.1∉X.fs/\∀v,p.2.data≠.cell v
 hok:HOk X.prog X.w H s.heap
 len:Y.length=X.N.length
section
variable {X:Cx}{U:List (yc×Yw)}{Y:List (Option V)}{H H':Hp}{s:yb}{h':yS}
def Cx.Ok.nofr(ok:X.Ok){b:yc}{o:Yw}(e:X.base.get? b=some o):b∉X.fs:=λhb=>by
 have:=(ok.Tx.mem hb).1;rw[e]at this;cases this
def Inv.bs(I:Inv X U Y H s):∀b o,X.base.get? b=some o->s.heap.get? b=some o/\H b=none:=λb o e=>
 ⟨I.base.keep b o (I.ok.bs b o e).1 (I.ok.bs b o e).2 (I.ok.nofr e) (I.ok.sC b o e),I.base.free b o (I.ok.bs b o e).1 (I.ok.bs b o e).2 (I.ok.sC b o e)⟩
def Inv.bk(I:Inv X U Y H s):∀b o,X.base.get? b=some o->s.heap.get? b=some o:=λb o e=>(I.bs b o e).1
def Inv.mod(I:Inv X U Y H s):Mod X.K X.mg X.base:=I.ok.mod
def Inv.kIn(I:Inv X U Y H s):X.K.In s.heap:=I.ok.mod.kin.keeps I.bk
def Inv.fr(I:Inv X U Y H s):∃m,Fr X.base X.env.locals s.heap m :=
 let ⟨m,hn,_⟩:=I.loc
 ⟨m,hn,I.bk,yq I.ok.bsz I.ok.above⟩
def Inv.lt(I:Inv X U Y H s):X.env.locals<s.heap.objs.size:=let ⟨_,hn,_⟩:=I.loc;hn.lt
def Inv.sz(I:Inv X U Y H s):X.s₀.heap.objs.size<=s.heap.objs.size:=yq I.ok.above (YO I.lt)
def Inv.nofs(I:Inv X U Y H s){a:yc}(h:s.heap.objs.size<=a):a∉X.fs:=λhb=>by
 obtain⟨_,o,ho,_⟩:=I.ok.Tx.mem hb;exact absurd (yp (ym ho) (yq I.sz h)) (Yh _)
def Inv.cne(I:Inv X U Y H s):∀x c,X.env.cells.lookup x=some c->c≠X.env.locals:=λx c e z=>by
 obtain⟨v,o,ho,hd⟩:=I.cell x c e;obtain⟨m,⟨o',es,ep,ho',hd',_⟩,_⟩:=I.loc;rw[z,ho']at ho;cases ho;rw[hd']at hd;cases hd
def Inv.Tx(I:Inv X U Y H s):s.heap.FunFrames X.base X.outer:=by
 have all:∀(l:List Env),(∀b∈frs l,b∈X.fs)->X.s₀.heap.FunFrames X.base l->s.heap.FunFrames X.base l:=by
  intro l
  induction l with
  |nil=>intro _ _;trivial
  |cons env r ih=>
   intro hs hl;obtain⟨hk,⟨L,o,hf,hn,ho,hd⟩,hr⟩:=hl;have hL:L∈X.fs:=hs L (by unfold frs;rw[filterMap_cons,hf];exact mem_cons_self);obtain⟨sl,e⟩:=I.base.slot L o ho (I.ok.frf L hL) hL λz=>I.ok.sL L z hL;exact⟨hk,⟨L,_,hf,hn,e,hd⟩,ih (λb hb=>hs b (by unfold frs;rw[filterMap_cons,hf];exact mem_cons_of_mem _ hb)) hr⟩
 exact all X.outer (λ_ hb=>hb) I.ok.Tx
def Inv.stack(I:Inv X U Y H s):s.heap.FunFrames X.base X.stack:=by
 rcases I.ok.stk with e|⟨e,hf⟩
 ·rw[e];exact I.Tx
 ·rw[e];obtain⟨m,hn,_⟩:=I.loc;refine .cons (by rw[I.ok.kind];decide) hf hn ?_ I.Tx;exact Heap.get?_none_of_le (yq I.ok.bsz I.ok.above)
def Inv.TV(I:Inv X U Y H s):∀b∈frs X.stack,b∈X.env.locals::X.fs:=λb hb=>by
 rcases I.ok.stk with e|⟨e,hf⟩
 ·rw[e]at hb;exact mem_cons_of_mem _ hb
 ·rw[e]at hb;unfold frs at hb;rw[filterMap_cons,hf]at hb;exact hb
def Inv.Te(I:Inv X U Y H s):∀b∈frs X.stack,H b=none:=λb hb=>by
 rcases List.mem_cons.mp (I.TV b hb) with e|hb
 ·rw[e];exact I.free
 ·obtain⟨_,o,ho,_⟩:=I.ok.Tx.mem hb;exact I.base.free b o ho (I.ok.frf b hb) λz=>I.ok.sL b z hb
def Inv.step{g':Array GenState}{t':Nat}{d':Drawn}{ch:List yc}(I:Inv X U Y H s)
 (hch:∀b∈ch,(b∈X.ex\/X.s₀.heap.objs.size<=b)/\b≠X.env.locals/\(∀x c,X.env.cells.lookup x=some c->c≠b)/\∀p∈X.pn++U,p.1≠b)
 (keep:∀b o,b≠X.env.locals->b∉X.fs->b∉ch->s.heap.get? b=some o->H b=none->h'.get? b=some o)
 (slot:∀b o,b≠X.env.locals->b∈X.fs->b∉ch->s.heap.get? b=some o->H b=none->∃sl,h'.get? b=some {o with slots:=sl }) (free:∀b o,b∉ch->s.heap.get? b=some o->H b=none->H' b=none)
 (there:∀b o,b∉ch->s.heap.get? b=some o->∃o',h'.get? b=some o')
 (tups:∀b xs,H b=some (.tup xs)->H' b=some (.tup xs)) (Tp:∀b o u,H b=some (.frz o u)->H' b=some (.frz o u)) (Tq:∀b ps,H b=some (.tbl ps)->∃more,H' b=some (.tbl (ps++more)))
 (ns:∀m,s.heap.Ns X.env.locals m->h'.Ns X.env.locals m) (hok:HOk X.prog X.w H' h') (hg:AllBare g') :
 Inv X U Y H' {s with heap:=h',gens:=g',drawn:=d',toks:=t' }:=by
 have neL:∀b o,X.s₀.heap.get? b=some o->b≠X.env.locals:=λb o e=>yJ (yp (ym e) I.ok.above)
 have neC:∀b o,X.s₀.heap.get? b=some o->b∉X.ex->b∉ch:=λb o e hx hb=>by
  rcases(hch b hb).1 with z|z
  ·exact hx z
  ·exact absurd (yp (ym e) z) (Yh _)
 have cellK:∀x c,X.env.cells.lookup x=some c->∀v,s.heap.IsCell c v->h'.IsCell c v:=λx c e v ⟨o,ho,hd⟩=>by
  have nch:c∉ch:=λz=>(hch c z).2.2.1 x c e rfl
  by_cases hc:c∈X.fs
  ·obtain⟨sl,q⟩:=slot c o (I.cne x c e) hc nch ho (I.freeC x c e);exact⟨_,q,hd⟩
  ·exact⟨o,keep c o (I.cne x c e) hc nch ho (I.freeC x c e),hd⟩
 refine⟨I.ok,I.os,hg,⟨λb o e n hb hx=>?_,λb o e n hb hx=>?_,λb o e n hx=>?_,λb o e hx=>?_,λb xs e=>tups b xs (I.base.tups b xs e),λb o xs e=>Tp b o xs (I.base.Tp b o xs e),λb ps e=>?_⟩,?_,λx c e=>?_,?_,λx c e=>?_,λp hp=>?_,hok,I.len⟩
 ·exact keep b o (neL b o e) hb (neC b o e hx) (I.base.keep b o e n hb hx) (I.base.free b o e n hx)
 ·obtain⟨sl,e1⟩:=I.base.slot b o e n hb hx;obtain⟨sl',e2⟩:=slot b _ (neL b o e) hb (neC b o e hx) e1 (I.base.free b o e n hx);exact⟨sl',e2⟩
 ·obtain⟨o',e1⟩:=I.base.there b o e hx;exact free b o' (neC b o e hx) e1 (I.base.free b o e n hx)
 ·obtain⟨o',e1⟩:=I.base.there b o e hx;exact there b o' (neC b o e hx) e1
 ·obtain⟨m1,e1⟩:=I.base.Tq b ps e;obtain⟨m2,e2⟩:=Tq b _ e1;exact⟨m1++m2,by rw[e2,Array.append_assoc]⟩
 ·obtain⟨m,hn,hl⟩:=I.loc;refine⟨m,ns m hn,λi x v e1 e2 e3=>?_⟩;obtain⟨u,r,l⟩:=hl i x v e1 e2 e3;refine⟨u,r,?_⟩;rcases l with l|⟨k,c,e,z⟩
  ·exact .inl l
  ·exact .inr ⟨k,c,e,cellK x c e _ z⟩
 ·obtain⟨v,z⟩:=I.cell x c e;exact⟨v,cellK x c e v z⟩
 ·obtain⟨m,⟨o,_,_,ho,_⟩,_⟩:=I.loc;exact free _ o (λz=>(hch _ z).2.1 rfl) ho I.free
 ·obtain⟨v,o,ho,hd⟩:=I.cell x c e;exact free c o (λz=>(hch c z).2.2.1 x c e rfl) ho (I.freeC x c e)
 ·obtain⟨e,n,ne,nf,d⟩:=I.pin p hp;have nch:p.1∉ch:=λz=>(hch p.1 z).2.2.2 p hp rfl;exact⟨keep p.1 p.2 ne nf nch e n,free p.1 p.2 nch e n,ne,nf,d⟩
def Inv.un{t':Nat}(I:Inv X U Y H s)(u:Un X.fs [] H H' s.heap h')(hok:HOk X.prog X.w H' h'):Inv X U Y H' {s with heap:=h',toks:=t' }:=by
 obtain⟨m,⟨o,es,ep,ho,r⟩,_⟩:=id I.loc;obtain⟨sl,hL⟩:=u.any ho I.free (by simp)
 exact I.step (g':=s.gens) (d':=s.drawn) (ch:=[]) (λ_ z=>nomatch z) (λb o _ hb _ e n=>u.keep b o e n hb (by simp)) (λb o _ hb _ e n=>u.slot b o e n hb (by simp)) (λb o _ e n=>u.free b o e n (by simp)) (λb o _ e=>u.there b o e (by simp)) u.tups u.Tp u.Tq (λm' hm=>by
  obtain⟨o',es',ep',ho',r'⟩:=hm;rw[ho]at ho';cases ho';exact⟨_,es',ep',hL,r'⟩) hok I.bare
def Inv.call{g':Array GenState}{t':Nat}{d':Drawn}{ch:List yc}(I:Inv X U Y H s)(u:Un (frs X.stack) ch H H' s.heap h')(hok:HOk X.prog X.w H' h')(hg:AllBare g')
 (hch:∀b∈ch,(b∈X.ex\/X.s₀.heap.objs.size<=b)/\b≠X.env.locals/\(∀x c,X.env.cells.lookup x=some c->c≠b)/\∀p∈X.pn++U,p.1≠b) :
 Inv X U Y H' {s with heap:=h',gens:=g',drawn:=d',toks:=t' }:=by
 obtain⟨m,⟨o,es,ep,ho,r⟩,_⟩:=id I.loc;obtain⟨sl,hL⟩:=u.any ho I.free λz=>(hch _ z).2.1 rfl
 exact I.step (ch:=ch) hch (λb o hL hb hc e n=>u.keep b o e n (λz=>(List.mem_cons.mp (I.TV b z)).elim hL hb) hc) (λb o _ _ hc e n=>u.any e n hc) (λb o hc e n=>u.free b o e n hc) (λb o hc e=>u.there b o e hc) u.tups u.Tp u.Tq (λm' hm=>by
  obtain⟨o',es',ep',ho',r'⟩:=hm;rw[ho]at ho';cases ho';exact⟨_,es',ep',hL,r'⟩) hok hg
def Inv.turned{t':Nat}{it:yc}(I:Inv X U Y H s)(k:∀b o,b≠it->s.heap.get? b=some o->h'.get? b=some o)(hn:H it=none)(hL:it≠X.env.locals)
 (h1:it∈X.ex\/X.s₀.heap.objs.size<=it) (h2:∀x c,X.env.cells.lookup x=some c->c≠it) (h3:∀p∈X.pn++U,p.1≠it):Inv X U Y H {s with heap:=h',toks:=t' }:=by
 have nit:∀b u,H b=some u->b≠it:=λb u e z=>by rw[z,hn]at e;cases e
 refine I.step (g':=s.gens) (d':=s.drawn) (ch:=[it]) (λb hb=>?_) (λb o _ _ hc e _=>k b o (λz=>hc (by simp[z])) e) (λb o _ _ hc e _=>⟨o.slots,k b o (λz=>hc (by simp[z])) e⟩) (λ_ _ _ _ n=>n)
  (λb o hc e=>⟨o,k b o (λz=>hc (by simp[z])) e⟩) (λ_ _ e=>e) (λ_ _ _ e=>e) (λb ps e=>⟨#[],by rw[e];simp⟩) (λm hm=>?_) (λb u e=>?_) I.bare
 ·have e:b=it:=by simpa using hb
  subst e;exact⟨h1,hL,h2,h3⟩
 ·obtain⟨o,es,ep,ho,r⟩:=hm;exact⟨o,es,ep,k _ o (Yg hL) ho,r⟩
 ·refine(I.hok b u e).stay (λc v hc q=>k c v ?_ q) (λ_ q=>q) λ_ _ q=>q;rcases hc with z|z
  ·rw[z];exact nit b u e
  ·exact nit c _ z
def Inv.tok(I:Inv X U Y H s)(t:Nat):Inv X U Y H {s with toks:=t }:=I.un (h':=s.heap) (t':=t) Un.refl I.hok
def Inv.kept{t':Nat}(I:Inv X U Y H s)(k:∀b u,s.heap.get? b=some u->h'.get? b=some u):Inv X U Y H {s with heap:=h',toks:=t' }:=I.un (Un.kept k) (I.hok.kept k)
def Inv.laid{a:yc}{o:HO}{t':Nat}(I:Inv X U Y H s)(k:∀b u,s.heap.get? b=some u->h'.get? b=some u)(hp:s.heap.objs.size<=a)(new:tR X.prog X.w (upd H a o) h' a o) :
 Inv X U Y (upd H a o) {s with heap:=h',toks:=t' }:=I.un (Un.laid k hp (I.hok.fresh hp)) (I.hok.laid k hp new)
def Inv.write{x e:yc}{o:HO}{t':Nat}(I:Inv X U Y H s)(mu:Mut (H x))(he:e=x\/H e=some (.own x))(k:∀b u,b≠e->s.heap.get? b=some u->h'.get? b=some u)(heo:∃u,h'.get? e=some u)
 (new:tR X.prog X.w (upd H x o) h' x o):Inv X U Y (upd H x o) {s with heap:=h',toks:=t' }:=I.un (Un.write mu he k heo) (I.hok.write mu he k heo new)
def Inv.weak{Y':List (Option V)}(I:Inv X U Y H s)(hl:Y'.length=Y.length)(w:∀(i:Nat) v,Y'[i]?=some (some v)->Y[i]?=some (some v)):Inv X U Y' H s :=
 ⟨I.ok,I.os,I.bare,I.base,let ⟨m,hn,hl'⟩:=I.loc;⟨m,hn,λi x v e1 e2 e3=>hl' i x v e1 (w i v e2) e3⟩,I.cell,I.free,I.freeC,I.pin,I.hok,hl.trans I.len⟩
def Inv.TK{sV:List (yc×Yw)}(I:Inv X U Y H s)(h:∀p∈sV,s.heap.get? p.1=some p.2/\H p.1=none/\p.1≠X.env.locals/\p.1∉X.fs/\∀v,p.2.data≠.cell v):Inv X sV Y H s :=
 ⟨I.ok,I.os,I.bare,I.base,I.loc,I.cell,I.free,I.freeC,λp hp=>(List.mem_append.mp hp).elim (λz=>I.pin p (List.mem_append_left _ z)) (h p),I.hok,I.len⟩
def zOj{N:List yg}(hN:N.Nodup){i j:Nat}{x:yg}(a:N[i]?=some x)(b:N[j]?=some x):i=j:=by
 obtain⟨h1,e1⟩:=List.getElem?_eq_some_iff.mp a;obtain⟨h2,e2⟩:=List.getElem?_eq_some_iff.mp b;exact(List.getElem_inj hN).mp (e1.trans e2.symm)
def zEn{M:Model}{A:yF}{E:ya->yb->Prop}{i:Nat}{x:yg}{v:V}{u:ya}{Q:Unit->yb->Prop}(I:Inv X U Y H s)(hN:X.N.Nodup)(hi:X.N[i]?=some x)(hx:Loc X.env.scope x)(r:RelV v u)
 (h:∀s',Inv X U (Y.set i (some v)) H s'->(∃a,Heap.SameBut a s.heap s'.heap/\(a=X.env.locals\/X.env.cells.lookup x=some a))->Q () s') (hf:X.fn x=true\/X.env.scope.names.lookup x=some .local:=by first|exact .inl rfl|exact .inr rfl|assumption):yw M A (storeName X.env x u) Q E s:=by
 obtain⟨m,hn,hl⟩:=id I.loc;have hcls:(X.env.scope.kind == .class||(X.env.scope.kind == .module&&X.env.locals != X.env.globals))=false:=by rw[I.ok.kind];rfl
 have hiσ:i<Y.length:=by rw[I.len];exact(List.getElem?_eq_some_iff.mp hi).1
 have cne:=I.cne
 have tracked:∀{a:yc} {h':yS},(∃o,s.heap.get? a=some o/\H a=none)->Heap.SameBut a s.heap h'->HOk X.prog X.w H h':=λ{a h'} ha hs b ob e=>by
  obtain⟨_,_,hfree⟩:=ha;refine(I.hok b ob e).stay (λc w' hc q=>(hs.2 c ?_).trans q) (λ_ q=>q) λ_ _ q=>q;rintro rfl;rcases hc with rfl|hc
  ·rw[hfree]at e;cases e
  ·rw[hfree]at hc;cases hc
 rcases hx with hk|hk
 ·refine wpAny_storeName_local hk hn (λh' hn' hs=>?_) hcls;obtain⟨oL,_,_,hoL,_⟩:=id hn;refine h _ ⟨I.ok,I.os,I.bare,⟨λb o e n hb hx=>?_,λb o e n hb hx=>?_,I.base.free,λb o e hx=>?_,I.base.tups,I.base.Tp,I.base.Tq⟩,⟨_,hn',λj y v' e1 e2 e3=>?_⟩,λy c e=>?_,I.free,I.freeC,λp hp=>?_,tracked ⟨oL,hoL,I.free⟩ hs,by simpa using I.len⟩ ⟨_,hs,.inl rfl⟩
  ·exact(hs.2 b (yJ (yp (ym e) I.ok.above))).trans (I.base.keep b o e n hb hx)
  ·obtain⟨sl,e1⟩:=I.base.slot b o e n hb hx;exact⟨sl,(hs.2 b (yJ (yp (ym e) I.ok.above))).trans e1⟩
  ·obtain⟨o',e1⟩:=I.base.there b o e hx;exact⟨o',(hs.2 b (yJ (yp (ym e) I.ok.above))).trans e1⟩
  ·by_cases hj:j=i
   ·subst hj;rw[hi]at e1;cases e1;rw[Yb hiσ]at e2;cases e2;exact⟨u,r,.inl ⟨hk,by simp⟩⟩
   ·rw[yT (Yg hj)]at e2;obtain⟨u',r',q⟩:=hl j y v' e1 e2 e3;refine⟨u',r',?_⟩;rcases q with ⟨k,e⟩|⟨k,c,e,z⟩
    ·refine .inl ⟨k,?_⟩;have:y≠x:=λe=>hj (zOj hN e1 (e▸hi));simp[this,e]
    ·exact .inr ⟨k,c,e,z.sameBut hs (cne y c e)⟩
  ·obtain⟨w',z⟩:=I.cell y c e;exact⟨w',z.sameBut hs (cne y c e)⟩
  ·obtain⟨e,n,ne,nf,d⟩:=I.pin p hp;exact⟨(hs.2 p.1 ne).trans e,n,ne,nf,d⟩
 ·have hfn:X.fn x=true:=by
   rcases hf with z|z
   ·exact z
   ·rw[z]at hk;cases hk
  obtain⟨c,hc⟩:=I.ok.has x (.inl hk);obtain⟨w',z⟩:=I.cell x c hc;refine wpAny_storeName_cell I.ok.kind hk hc z (λh' hc' hs=>?_);obtain⟨oc,hoc,hocd⟩:=id z;refine h {s with heap:=h' } ⟨I.ok,I.os,I.bare,⟨λb o e n hb hx=>?_,λb o e n hb hx=>?_,I.base.free,λb o e hx=>?_,I.base.tups,I.base.Tp,I.base.Tq⟩,⟨m,hn.sameBut hs (Yg (cne x c hc)),λj y v' e1 e2 e3=>?_⟩,λy c' e=>?_,I.free,I.freeC,λp hp=>?_,tracked ⟨oc,hoc,I.freeC x c hc⟩ hs,by simpa using I.len⟩ ⟨c,hs,.inr hc⟩
  ·exact(hs.2 b (yJ (yp (ym e) (I.ok.cab x c hfn hc)))).trans (I.base.keep b o e n hb hx)
  ·obtain⟨sl,e1⟩:=I.base.slot b o e n hb hx;exact⟨sl,(hs.2 b (yJ (yp (ym e) (I.ok.cab x c hfn hc)))).trans e1⟩
  ·obtain⟨o',e1⟩:=I.base.there b o e hx;exact⟨o',(hs.2 b (yJ (yp (ym e) (I.ok.cab x c hfn hc)))).trans e1⟩
  ·by_cases hj:j=i
   ·subst hj;rw[hi]at e1;cases e1;rw[Yb hiσ]at e2;cases e2;exact⟨u,r,.inr ⟨.inl hk,c,hc,hc'⟩⟩
   ·rw[yT (Yg hj)]at e2;obtain⟨u',r',q⟩:=hl j y v' e1 e2 e3;refine⟨u',r',?_⟩;rcases q with q|⟨k,c',e,z'⟩
    ·exact .inl q
    ·refine .inr ⟨k,c',e,z'.sameBut hs ?_⟩;rintro rfl;exact hj (zOj hN e1 (I.ok.inj _ _ _ e hc▸hi))
  ·by_cases hcc:c'=c
   ·subst hcc;exact⟨_,hc'⟩
   ·obtain⟨w2,z2⟩:=I.cell y c' e;exact⟨w2,z2.sameBut hs hcc⟩
  ·obtain⟨e,n,ne,nf,d⟩:=I.pin p hp;refine⟨(hs.2 p.1 ?_).trans e,n,ne,nf,d⟩;intro q;rw[q,hoc]at e;have q':oc=p.2:=yU e;exact d w' (by rw[<-q'];exact hocd)
def zPg{M:Model}{A:yF}{E:ya->yb->Prop}{i:Nat}{x:yg}{v:V}{u:ya}{Q:Unit->yb->Prop}(I:Inv X U Y H s)(hN:X.N.Nodup)(hi:X.N[i]?=some x)(hx:Loc X.env.scope x)(r:RelV v u)
 (h:∀s',Inv X U (Y.set i (some v)) H s'->Q () s') (hf:X.fn x=true\/X.env.scope.names.lookup x=some .local:=by first|exact .inl rfl|exact .inr rfl|assumption):yw M A (storeName X.env x u) Q E s :=
 zEn I hN hi hx r (λs' I' _=>h s' I') hf
def Inv.sW{s':yb}{ch:List yc}(I:Inv X U Y H s)(ho:s'.os=s.os)(u:Un (frs X.stack) ch H H' s.heap s'.heap)(hok:HOk X.prog X.w H' s'.heap)(hg:AllBare s'.gens)
 (hch:∀b∈ch,(b∈X.ex\/X.s₀.heap.objs.size<=b)/\b≠X.env.locals/\(∀x c,X.env.cells.lookup x=some c->c≠b)/\∀p∈X.pn++U,p.1≠b):Inv X U Y H' s':=by
 obtain⟨h',g',d',t',o'⟩:=s';have e:o'=s.os:=ho;subst e;exact I.call (g':=g') (t':=t') (d':=d') u hok hg hch
end
abbrev XK:=ya->Option yc->Hp->Prop
abbrev St:=List (Option V)
abbrev VK:=V->Hp->Prop
abbrev TE:=St->Hp->VK->Prop
abbrev TT:=St->Hp->(Bool->Hp->Prop)->Prop
abbrev TA:=St->Hp->(List V->Hp->Prop)->Prop
structure Ends where
 nx:St->Hp->Prop
 rt:VK
 bk:St->Hp->Prop:=λ_ _=>False
 ct:St->Hp->Prop:=λ_ _=>False
abbrev TS:=Ends->St->Hp->Prop
def EP(X:Cx)(U:List (yc×Yw))(Y:St)(Q:VK)(u:ya)(s':yb):Prop:=∃v H',Inv X U Y H' s'/\RelV v u/\Q v H'
def TP(X:Cx)(U:List (yc×Yw))(Y:St)(Q:Bool->Hp->Prop)(b:Bool)(s':yb):Prop:=∃H',Inv X U Y H' s'/\Q b H'
def AP(X:Cx)(U:List (yc×Yw))(Y:St)(Q:List V->Hp->Prop)(us:List ya)(s':yb):Prop:=∃vs H',Inv X U Y H' s'/\Vals vs us/\Q vs H'
def SP(X:Cx)(U:List (yc×Yw))(D:Ends)(f:Flow)(s':yb):Prop :=
 match f with
 |.next=>∃Y' H',Inv X U Y' H' s'/\D.nx Y' H'
 |.brk=>∃Y' H',Inv X U Y' H' s'/\D.bk Y' H'
 |.cont=>∃Y' H',Inv X U Y' H' s'/\D.ct Y' H'
 |.ret u=>∃v Y' H',Inv X U Y' H' s'/\RelV v u/\D.rt v H'
def PE(X:Cx)(e:yt)(t:TE):Prop :=
 ∀(U:List (yc×Yw)) (s:yb) (Y:St) (H:Hp) (Q:VK),Inv X U Y H s->t Y H Q->yw (yz X.prog X.w) X.A (Yi e X.env) (EP X U Y Q) X.xe s
def PT(X:Cx)(e:yt)(t:TT):Prop :=
 ∀(U:List (yc×Yw)) (s:yb) (Y:St) (H:Hp) (Q:Bool->Hp->Prop),Inv X U Y H s->t Y H Q->yw (yz X.prog X.w) X.A (isTrue e X.env (Yi e X.env)) (TP X U Y Q) X.xe s
def PW(X:Cx)(e:yt)(t:TT):Prop :=
 ∀(whole:Sem ya)(U:List (yc×Yw)) (s:yb) (Y:St) (H:Hp) (Q:Bool->Hp->Prop),Inv X U Y H s->t Y H Q->yw (yz X.prog X.w) X.A (isTrue e X.env whole) (TP X U Y Q) X.xe s
def PA(X:Cx)(es:List yt)(t:TA):Prop :=
 ∀(pos:YD)(U:List (yc×Yw)) (s:yb) (Y:St) (H:Hp) (Q:List V->Hp->Prop),Inv X U Y H s->t Y H Q->yw (yz X.prog X.w) X.A (spliced (Ye pos (yj es X.env))) (AP X U Y Q) X.xe s
def PS(X:Cx)(st:yQ)(t:TS):Prop :=
 ∀(U:List (yc×Yw)) (s:yb) (Y:St) (H:Hp) (D:Ends),Inv X U Y H s->t D Y H->yw (yz X.prog X.w) X.A (exec st X.env) (SP X U D) X.xe s
def PSs(X:Cx)(st:List yQ)(t:TS):Prop :=
 ∀(U:List (yc×Yw)) (s:yb) (Y:St) (H:Hp) (D:Ends),Inv X U Y H s->t D Y H->yw (yz X.prog X.w) X.A (execs st X.env) (SP X U D) X.xe s
def thn{α:Type}{t:Sem α}{Q Q':α->yb->Prop}{M:Model}{A:yF}{E:ya->yb->Prop}{s:yb}(h:yw M A t Q E s)(hQ:∀a s,Q a s->Q' a s):yw M A t Q' E s:=yX h hQ λ_ _ x=>x
section
variable {X:Cx}
def zTu(i:Nat):TE:=λY H Q=>∃v,Y[i]?=some (some v)/\Q v H
def tC(v:V):TE:=λ_ H Q=>Q v H
def zVr{i:Nat}{x:yg}{pos:YD}(hN:X.N[i]?=some x)(hv:Vis X.env.scope x)(hd:(x==("__debug__":yg))=false:=by decide)(hcd:(x==("__classdict__":yg))=false:=by decide):PE X (.Name x pos) (zTu i):=by
 intro U s Y H Q I h;obtain⟨v,e,h⟩:=h;obtain⟨m,hn,hl⟩:=I.loc;obtain⟨u,r,l⟩:=hl i x v hN e hv;have fin:EP X U Y Q u s:=⟨v,H,I,r,h⟩
 rcases l with ⟨hk,hm⟩|⟨hk,c,hc,hcell⟩
 ·exact wpAny_Name (wpAny_loadName_local I.ok.kind hk hn hm fin) hd
 ·rcases hk with hk|hk
  ·exact wpAny_Name (wpAny_loadName_cell I.ok.kind hk hc hcell fin) hd
  ·exact wpAny_Name (wpAny_loadName_free I.ok.kind hk hc hcell fin hcd) hd
def zUr{i j pos}:PE X (.Constant (.int i) j pos) (tC (.int i)):=λ_ _ _ H _ I h=>wpAny_Constant_int ⟨.int i,H,I.tok _,⟨_,rfl⟩,h⟩
def ziu{b j pos}:PE X (.Constant (.bool b) j pos) (tC (.bl b)):=λ_ _ _ H _ I h=>Constant_bool ⟨.bl b,H,I,rfl,h⟩
def zys{j pos}:PE X (.Constant .none j pos) (tC .non):=λ_ _ _ H _ I h=>Constant_none ⟨.non,H,I,rfl,h⟩
def zQs{x j pos}:PE X (.Constant (.str x) j pos) (tC (.str x)):=λ_ _ _ H _ I h=>Calls.Constant_str ⟨.str x,H,I.tok _,⟨_,rfl⟩,h⟩
def Gl(X:Cx)(x:yg):Prop:=X.env.kindOf x=some .globalImplicit
def zqk{E:ya->yb->Prop}{U:List (yc×Yw)}{s:yb}{Y:St}{H:Hp}{x:yg}{u:ya}{pos:YD}{Q:ya->yb->Prop}(I:Inv X U Y H s)(hg:Gl X x)(hm:X.mg x=some u)(h:Q u s)
 (hd:(x==("__debug__":yg))=false:=by decide):yw (yz X.prog X.w) X.A (Yi (.Name x pos) X.env) Q E s :=
 Calls.Name_function_global I.ok.kind hg (Calls.loadGlobal_global (by rw[I.ok.glob];exact I.mod.glob.keeps I.bk) hm h) hd
def zGm{E:ya->yb->Prop}{U:List (yc×Yw)}{s:yb}{Y:St}{H:Hp}{x:yg}{u:ya}{pos:YD}{Q:ya->yb->Prop}(I:Inv X U Y H s)(hg:Gl X x)(hm:X.mg x=none)(hv:yW x=some u)(h:Q u s)
 (hn:x≠"__name__":=by decide) (hd:(x==("__debug__":yg))=false:=by decide):yw (yz X.prog X.w) X.A (Yi (.Name x pos) X.env) Q E s:=by
 obtain⟨mb,h1,h2⟩:=I.mod.blt;exact Calls.Name_function_global I.ok.kind hg (Calls.loadGlobal_builtin (by rw[I.ok.glob];exact I.mod.glob.keeps I.bk) hm (by rw[I.ok.blt];exact h1.keeps I.bk) ((h2 x hn).trans hv) h) hd
def zNl{x:yg}{v:V}{u:ya}{pos:YD}(hg:Gl X x)(hm:X.mg x=some u)(r:RelV v u)(hd:(x==("__debug__":yg))=false:=by decide):PE X (.Name x pos) (tC v) :=
 λ_ _ _ H _ I h=>zqk I hg hm ⟨v,H,I,r,h⟩ hd
def zYq{x:yg}{v:V}{u:ya}{pos:YD}(hg:Gl X x)(hm:X.mg x=none)(hv:yW x=some u)(r:RelV v u)(hn:x≠"__name__":=by decide)(hd:(x==("__debug__":yg))=false:=by decide):PE X (.Name x pos) (tC v) :=
 λ_ _ _ H _ I h=>zGm I hg hm hv ⟨v,H,I,r,h⟩ hn hd
variable {a b:yt}{ta tb:TE}{pos:YD}
def se(b:yt){op:CmpOp}(h:op≠.In)(h2:op≠.NotIn):behindInMarks op b=false:=by
 have e1:(op==CmpOp.In)=false:=by cases op<;>first|rfl|exact absurd rfl h
 have e2:(op==CmpOp.NotIn)=false:=by cases op<;>first|rfl|exact absurd rfl h2
 cases b<;>simp[behindInMarks,e1,e2]
def tB(t:TE):TT:=λY H Q=>t Y H λx H1=>∃c,x=.bl c/\Q c H1
def zvt{e:yt}{t:TE}(h:PE X e t)(he:∀whole,isTrue e X.env whole=(do let v <-whole;standAt e.pos;holding [v] (truthy v)):=by intro _;rfl):PT X e (tB t):=by
 intro U s Y H Q I hw;refine isTrue_plain (thn (h U s Y H _ I hw) λv s1 ⟨x,H1,I1,r1,q1⟩=>?_) (he _);obtain⟨d,rfl,q⟩:=q1;cases r1;exact YK ⟨H1,I1,q⟩
variable {tA tB':TT}{zpe:List yt}
def zbv(t u:TT):TT:=λY H Q=>t Y H λc H1=>if c=true then u Y H1 Q else Q false H1
def tOr(t u:TT):TT:=λY H Q=>t Y H λc H1=>if c=true then Q true H1 else u Y H1 Q
def zfv(t:TT):TT:=λY H Q=>t Y H λc H1=>Q (!c) H1
def ztr(ha:PT X a tA):PW X (.BoolOp .And [a] pos) tA:=by
 intro wh U s Y H Q I h;refine isTrue_and (thn (ha U s Y H Q I h) λc s1 e=>?_)
 cases c with
 |true=>exact isTrue_and_nil e
 |false=>exact e
def znt(ha:PT X a tA):PW X (.BoolOp .Or [a] pos) tA:=by
 intro wh U s Y H Q I h;refine isTrue_or (thn (ha U s Y H Q I h) λc s1 e=>?_)
 cases c with
 |false=>exact isTrue_or_nil e
 |true=>exact e
def zls(ha:PT X a tA)(hb:PW X (.BoolOp .And (b::zpe) pos) tB'):PW X (.BoolOp .And (a::b::zpe) pos) (zbv tA tB'):=by
 intro wh U s Y H Q I h;refine isTrue_and (thn (ha U s Y H _ I h) λc s1 ⟨H1,I1,q1⟩=>?_)
 cases c with
 |true=>exact hb wh U s1 Y H1 Q I1 q1
 |false=>exact⟨H1,I1,q1⟩
def z1t(ha:PT X a tA)(hb:PW X (.BoolOp .Or (b::zpe) pos) tB'):PW X (.BoolOp .Or (a::b::zpe) pos) (tOr tA tB'):=by
 intro wh U s Y H Q I h;refine isTrue_or (thn (ha U s Y H _ I h) λc s1 ⟨H1,I1,q1⟩=>?_)
 cases c with
 |true=>exact⟨H1,I1,q1⟩
 |false=>exact hb wh U s1 Y H1 Q I1 q1
def zjs(ha:PT X a tA):PT X (.UnaryOp .Not a pos) (zfv tA):=by
 intro U s Y H Q I h;exact isTrue_not (ha U s Y H (λc H1=>Q (!c) H1) I h)
def zju(ta tb:TE):TE:=λY H Q=>ta Y H λx H1=>∃c,x=.bl c/\if c=true then tb Y H1 Q else Q (.bl false) H1
def z0t(ta:TE):TE:=λY H Q=>ta Y H λx H1=>∃c,x=.bl c/\Q (.bl (!c)) H1
def zbt{op}{t:TE}(h:PE X a t):PE X (.BoolOp op [a] pos) t:=λU s Y H Q I hw=>BoolOp_one (h U s Y H Q I hw)
def zdt(ha:PE X a ta)(hb:PE X (.BoolOp .And (b::zpe) pos) tb):PE X (.BoolOp .And (a::b::zpe) pos) (zju ta tb):=by
 intro U s Y H Q I h;refine BoolOp_and (thn (ha U s Y H _ I h) λv s1 ⟨x,H1,I1,r1,q1⟩=>?_);obtain⟨c,rfl,q1⟩:=q1;cases r1;refine YK ?_
 cases c with
 |true=>exact hb U s1 Y H1 Q I1 q1
 |false=>exact⟨.bl false,H1,I1,rfl,q1⟩
def zct(ha:PE X a ta):PE X (.UnaryOp .Not a pos) (z0t ta):=by
 intro U s Y H Q I h;refine UnaryOp_ (thn (ha U s Y H _ I h) λv s1 ⟨x,H1,I1,r1,q1⟩=>?_);obtain⟨c,rfl,q1⟩:=q1;cases r1;exact not_of (YK ⟨.bl (!c),H1,I1,rfl,q1⟩)
end
def SqL(K:yr)(H:Hp)(a:yc)(xs:List V):Prop :=
 Rd H a (.lst xs) \/
  ∃(o:Yw)(its:Array ya)(n:Nat),K.lookup a=some o/\o.cls=.type "list"/\o.dict=none/\o.data=.seq its n/\its.size<=yB/\Vals xs its.toList
def SqT(K:yr)(H:Hp)(a:yc)(xs:List V):Prop :=
 Rd H a (.tup xs) \/
  ∃(o:Yw)(its:Array ya)(n:Nat),K.lookup a=some o/\o.cls=.type "tuple"/\o.data=.seq its n/\its.size<=yB/\Vals xs its.toList
def z7u:ya->Option V
 |.none=>some .non
 |.bool b=>some (.bl b)
 |.int i _=>some (.int i)
 |.str x _=>some (.str x)
 |.bytes b _=>some (.byt b)
 |.float b _=>some (.flt b)
 |.ref a=>some (.ref a)
 |.type n=>some (.ty n)
 |_=>none
def RelV.abs{x:V}{u:ya}(r:RelV x u):z7u u=some x:=by
 cases x with
 |non=>cases r;rfl
 |bl _=>cases r;rfl
 |int _=>obtain⟨t,rfl⟩:=r;rfl
 |str _=>obtain⟨t,rfl⟩:=r;rfl
 |byt _=>obtain⟨t,rfl⟩:=r;rfl
 |flt _=>obtain⟨t,rfl⟩:=r;rfl
 |ref _=>cases r;rfl
 |ty _=>cases r;rfl
def RelV.inj{x y:V}{u:ya}(r:RelV x u)(q:RelV y u):x=y:=yU (r.abs.symm.trans q.abs)
def Vals.inj{xs ys:List V}{us:List ya}(h:Vals xs us):Vals ys us->xs=ys:=by
 induction h generalizing ys with
 |nil=>intro h;cases h;rfl
 |cons r _ ih=>
  intro h
  cases h with
  |cons r' t'=>rw[r.inj r',ih t']
section
variable {X:Cx}{U:List (yc×Yw)}{Y:St}{H:Hp}{s:yb}{a:yc}{xs ys:List V}
def SqL.of{K:yr}(h:H a=some (.lst xs)):SqL K H a xs:=.inl (.inl h)
def SqT.of{K:yr}(h:H a=some (.tup xs)):SqT K H a xs:=.inl (.inl h)
def Inv.list(I:Inv X U Y H s)(h:SqL X.K H a xs):∃its:List ya,Vals xs its/\PlainL s.heap a its.toArray/\xs.length<=yB:=by
 rcases h with h|⟨o,its,n,hk,hc,hd,hs,hz,r⟩
 ·obtain⟨z,its,n,r,e⟩:=h.ok I.hok;exact⟨its,r,⟨_,n,e,rfl,rfl,rfl⟩,z⟩
 ·refine⟨its.toList,r,⟨o,n,I.kIn a o hk,hc,hd,by simpa using hs⟩,?_⟩;have e:=r.length;simp only[Array.length_toList]at e;omega
def Inv.tuple(I:Inv X U Y H s)(h:SqT X.K H a xs):∃its:List ya,Vals xs its/\IsTup s.heap a its.toArray/\xs.length<=yB:=by
 rcases h with h|⟨o,its,n,hk,hc,hs,hz,r⟩
 ·obtain⟨z,its,r,p⟩:=h.ok I.hok;exact⟨its,r,p,z⟩
 ·refine⟨its.toList,r,⟨o,I.kIn a o hk,hc,n,by simpa using hs⟩,?_⟩;have e:=r.length;simp only[Array.length_toList]at e;omega
def Inv.sX(I:Inv X U Y H s)(h:SqL X.K H a xs)(h':SqL X.K H a ys):xs=ys:=by
 obtain⟨its,r,⟨o,n,e,_,_,d⟩,_⟩:=I.list h;obtain⟨its',r',⟨o',n',e',_,_,d'⟩,_⟩:=I.list h';rw[e]at e';cases e';rw[d]at d';injection d' with d1 _;have:its=its':=by simpa using congrArg Array.toList d1
 subst this;exact r.inj r'
def Inv.sM(I:Inv X U Y H s)(h:SqT X.K H a xs)(h':SqT X.K H a ys):xs=ys:=by
 obtain⟨its,r,⟨o,e,_,n,d⟩,_⟩:=I.tuple h;obtain⟨its',r',⟨o',e',_,n',d'⟩,_⟩:=I.tuple h';rw[e]at e';cases e';rw[d]at d';injection d' with d1 _;have:its=its':=by simpa using congrArg Array.toList d1
 subst this;exact r.inj r'
end
abbrev Cx.TJ(X:Cx)(E:ya->yb->Prop):Cx:={X with xe:=E }
abbrev Cx.nox(X:Cx):Cx:=X.TJ λ_ _=>False
def Cx.Ok.TJ{X:Cx}(ok:X.Ok)(E:ya->yb->Prop):(X.TJ E).Ok :=
 ⟨ok.mod,ok.kind,ok.glob,ok.blt,ok.above,ok.inj,ok.has,ok.cab,ok.hd,ok.frames,ok.stk,ok.exf,ok.bs,ok.bsz,ok.sC,ok.sL,ok.Tx,ok.frf⟩
def Cx.Ok.Tf{X:Cx}{E:ya->yb->Prop}(ok:(X.TJ E).Ok):X.Ok :=
 ⟨ok.mod,ok.kind,ok.glob,ok.blt,ok.above,ok.inj,ok.has,ok.cab,ok.hd,ok.frames,ok.stk,ok.exf,ok.bs,ok.bsz,ok.sC,ok.sL,ok.Tx,ok.frf⟩
section
variable {X:Cx}{U:List (yc×Yw)}{Y:St}{H:Hp}{s:yb}{E:ya->yb->Prop}
def Inv.TJ(I:Inv X U Y H s)(E:ya->yb->Prop):Inv (X.TJ E) U Y H s:=⟨I.ok.TJ E,I.os,I.bare,I.base,I.loc,I.cell,I.free,I.freeC,I.pin,I.hok,I.len⟩
def Inv.Tf(I:Inv (X.TJ E) U Y H s):Inv X U Y H s:=⟨I.ok.Tf,I.os,I.bare,I.base,I.loc,I.cell,I.free,I.freeC,I.pin,I.hok,I.len⟩
def SP.Tf{D:Ends}{f:Flow}{s':yb}(h:SP (X.TJ E) U D f s'):SP X U D f s':=by
 cases f with
 |next=>obtain⟨Y',H',I,q⟩:=h;exact⟨Y',H',I.Tf,q⟩
 |brk=>obtain⟨Y',H',I,q⟩:=h;exact⟨Y',H',I.Tf,q⟩
 |cont=>obtain⟨Y',H',I,q⟩:=h;exact⟨Y',H',I.Tf,q⟩
 |ret u=>obtain⟨v,Y',H',I,r,q⟩:=h;exact⟨v,Y',H',I.Tf,r,q⟩
def PSs.nox{st:List yQ}{t:TS}(h:PSs X.nox st t):PSs X st t:=λU s Y H D I hw=>
 yX (h U s Y H D (I.TJ _) hw) (λ_ _ q=>q.Tf) λ_ _ z=>YN z
variable {st:yQ}{zpe:List yQ}{t u:TS}{e:yt}{te:TE}{pos:YD}
def z8t:TS:=λD Y H=>D.nx Y H
def zFt(t u:TS):TS:=λD Y H=>t {D with nx:=u D } Y H
def zor:PSs X [] z8t:=λ_ _ Y H _ I h=>wpAny_execs_nil ⟨Y,H,I,h⟩
def zDp(h1:PS X st t)(h2:PSs X zpe u):PSs X (st::zpe) (zFt t u):=by
 intro U s Y H D I h;refine xb (thn (h1 U s Y H {D with nx:=u D } I h) λf s1 q=>?_)
 cases f with
 |next=>
  obtain⟨Y',H',I',q⟩:=q;exact h2 U s1 Y' H' D I' q
 |ret v=>exact q
 |brk=>exact q
 |cont=>exact q
def zvr(h1:PS X st t):PSs X [st] t:=by
 intro U s Y H D I h;refine xb (thn (h1 U s Y H D I h) λf s1 q=>?_)
 cases f with
 |next=>exact wpAny_execs_nil q
 |ret v=>exact q
 |brk=>exact q
 |cont=>exact q
def Inv.quiet{U:List (yc×Yw)}{Y:St}{H:Hp}{s:yb}(I:Inv X U Y H s):interactive X.env=false:=by simp[interactive,I.ok.kind]
def znu(te:TE):TS:=λD Y H=>te Y H λ_ H1=>D.nx Y H1
def zRn(he:PE X e te)(hs:swapsWith e none pos.line X.env=pure false:=by rfl):PS X (.Expr e pos) (znu te):=by
 intro U s Y H D I h;exact wpAny_Expr_any (thn (he U s Y H _ I h) λv s1 ⟨x,H1,I1,r1,q1⟩=>⟨Y,H1,I1,q1⟩) I.quiet hs
def zlv(te:TE):TS:=λD Y H=>te Y H D.rt
def zuq(he:PE X e te):PS X (.Return (some e) pos) (zlv te):=by
 intro U s Y H D I h;exact wpAny_Return_some (thn (he U s Y H _ I h) λv s1 ⟨x,H1,I1,r1,q1⟩=>⟨x,Y,H1,I1,r1,q1⟩)
def z2u(c:TT)(t u:TS):TS:=λD Y H=>c Y H λb H1=>if b=true then t D Y H1 else u D Y H1
def zwu{c:yt}{a b:List yQ}{tc:TT}(hc:PT X c tc)(ha:PSs X a t)(hb:PSs X b u):PS X (.If c a b pos) (z2u tc t u):=by
 intro U s Y H D I h;refine wpAny_If (thn (hc U s Y H _ I h) λd s1 ⟨H1,I1,q1⟩=>?_)
 cases d with
 |true=>exact ha U s1 Y H1 D I1 q1
 |false=>exact hb U s1 Y H1 D I1 q1
end
abbrev TG:=V->St->Hp->(St->Hp->Prop)->Prop
abbrev TGs:=List V->St->Hp->(St->Hp->Prop)->Prop
def PG(X:Cx)(target:yt)(t:TG):Prop :=
 ∀(U:List (yc×Yw)) (s:yb) (Y:St) (H:Hp) (v:V) (u:ya) (Q:St->Hp->Prop),Inv X U Y H s->RelV v u->t v Y H Q ->
  yw (yz X.prog X.w) X.A (assign target X.env u) (λ_ s'=>∃Y' H',Inv X U Y' H' s'/\Q Y' H') X.xe s
def PGs(X:Cx)(ts:List yt)(t:TGs):Prop :=
 ∀(U:List (yc×Yw)) (s:yb) (Y:St) (H:Hp) (vs:List V) (us:List ya) (Q:St->Hp->Prop),Inv X U Y H s->Vals vs us->t vs Y H Q ->
  yw (yz X.prog X.w) X.A (assignInOrder ((YB ts X.env).map (·.2)) us) (λ_ s'=>∃Y' H',Inv X U Y' H' s'/\Q Y' H') X.xe s
abbrev zDu:=V->V->V->Hp->(Hp->Prop)->Prop
def zUu(X:Cx)(t:zDu):Prop :=
 ∀(U:List (yc×Yw)) (s:yb) (Y:St) (H:Hp) (o i v:V) (ov iv u:ya) (Q:Hp->Prop),Inv X U Y H s->RelV o ov->RelV i iv->RelV v u->t o i v H Q ->
  yw (yz X.prog X.w) X.A (setItem ov iv u) (λ_ s'=>∃H',Inv X U Y H' s'/\Q H') X.xe s
section
variable {X:Cx}{pos:YD}
def znr(i:Nat):TG:=λv Y H Q=>Q (Y.set i (some v)) H
def zno{i:Nat}{x:yg}(hN:X.N.Nodup)(hi:X.N[i]?=some x)(hx:Loc X.env.scope x)(hf:X.fn x=true\/X.env.scope.names.lookup x=some .local:=by first|exact .inl rfl|exact .inr rfl|assumption):PG X (.Name x pos) (znr i):=by
 intro U s Y H v u Q I r h;exact wpAny_assign_Name (zPg I hN hi hx r (λs' I'=>⟨_,H,I',h⟩) hf)
def znv:TGs:=λvs Y H Q=>vs=[]/\Q Y H
def zgu(t:TG)(u:TGs):TGs:=λvs Y H Q=>∃v r,vs=v::r/\t v Y H λY' H'=>u r Y' H' Q
def zKr:PGs X [] znv:=by
 intro U s Y H vs us Q I r h;obtain⟨e,h⟩:=h;subst e;cases r;exact assignInOrder_nil ⟨Y,H,I,h⟩
def zRp{e:yt}{es:List yt}{t:TG}{u:TGs}(h1:PG X e t)(h2:PGs X es u)
 (hs:(YB (e::es) X.env).map (·.2)=assign e X.env::(YB es X.env).map (·.2):=by rfl):PGs X (e::es) (zgu t u):=by
 intro U s Y H vs us Q I r h;obtain⟨v,vr,e1,h⟩:=h;subst e1
 cases r with
 |cons r rr=>
  rw[hs];refine assignInOrder_cons (thn (h1 U s Y H _ _ _ I r h) λ_ s1 ⟨Y1,H1,I1,q1⟩=>?_);exact h2 U s1 Y1 H1 _ _ Q I1 rr q1
def zZq(to ti:TE)(t:zDu):TG:=λv Y H Q=>to Y H λo H1=>ti Y H1 λi H2=>t o i v H2 λH3=>Q Y H3
def zss{o i:yt}{to ti:TE}{t:zDu}(ho:PE X o to)(hi:PE X i ti)(hs:zUu X t)
 (ha:∀v,assign (.Subscript o i pos) X.env v=(do
  let ov <-holding [v] (Yi o X.env)
  let iv <-holding [v,ov] (Yi i X.env)
  standAt pos
  holding [v,ov,iv] (setItem ov iv v)
  release [v,ov,iv] []):=by intro _;rfl):PG X (.Subscript o i pos) (zZq to ti t):=by
 intro U s Y H v u Q I r h;rw[ha];refine yh (YE (thn (ho U s Y H _ I h) λov s1 ⟨x,H1,I1,r1,q1⟩=>?_));refine yh (YE (thn (hi U s1 Y H1 _ I1 q1) λiv s2 ⟨y,H2,I2,r2,q2⟩=>?_));refine yh (wpAny_standAt (yh (YE (thn (hs U s2 Y H2 x y v ov iv u _ I2 r1 r2 r q2) λ_ s3 ⟨H3,I3,q3⟩=>?_))));exact wpAny_release ⟨Y,H3,I3,q3⟩
def zsu(te:TE)(g:TG):TS:=λD Y H=>te Y H λx H1=>g x Y H1 D.nx
def zos{tg e:yt}{te:TE}{g:TG}(he:PE X e te)(hg:PG X tg g)(hs:swapsWithSole [tg] e pos.line X.env=pure false:=by rfl)(hw:swappedStores [tg] e X.env=pure none:=by rfl)
 (h1:(YB [tg] X.env).map (·.2)=[assign tg X.env]:=by rfl):PS X (.Assign [tg] e pos) (zsu te g):=by
 intro U s Y H D I h;refine wpAny_Assign_stores (thn (he U s Y H _ I h) λv s1 ⟨x,H1,I1,r1,q1⟩=>?_) hs hw;rw[h1];exact thn (hg U s1 Y H1 x v _ I1 r1 q1) λ_ s2 q=>q
def zeq{i:Nat}{x:yg}{e:yt}{te:TE}{pos':YD}(hN:X.N.Nodup)(hi:X.N[i]?=some x)(hx:Loc X.env.scope x)(he:PE X e te)(hs:swapsWith e (some (.Name x pos')) pos.line X.env=pure false:=by rfl)(hf:X.fn x=true\/X.env.scope.names.lookup x=some .local:=by first|exact .inl rfl|exact .inr rfl|assumption) :
 PS X (.Assign [.Name x pos'] e pos) (zsu te (znr i)):=by
 intro U s Y H D I h;refine wpAny_Assign_Name (thn (he U s Y H _ I h) λv s1 ⟨y,H1,I1,r1,q1⟩=>?_) hs;exact zPg I1 hN hi hx r1 (λs2 I2=>⟨_,H1,I2,q1⟩) hf
end
structure It where
 go:Nat->Hp->Prop
 yld:Nat->Hp->V->Hp->Prop
 stop:Nat->Hp->Prop
def z5o(X:Cx)(U:List (yc×Yw))(H:Hp)(b:yc):Prop :=
 H b=none/\b≠X.env.locals/\b∉X.fs/\(b∈X.ex\/X.s₀.heap.objs.size<=b)/\(∀x c,X.env.cells.lookup x=some c->c≠b)/\∀p∈X.pn++U,p.1≠b
def Inv.fpOk{X:Cx}{U:List (yc×Yw)}{Y:St}{H H':Hp}{s:yb}{b:yc}(I:Inv X U Y H s)(hb:s.heap.objs.size<=b)(hn:H' b=none):z5o X U H' b:=by
 refine⟨hn,YF (yp I.lt hb),I.nofs hb,.inr (yq I.sz hb),λx c e z=>?_,λp hp z=>?_⟩
 ·obtain⟨v,q⟩:=I.cell x c e;exact absurd (yp q.lt (by rw[z];exact hb)) (Yh _)
 ·exact absurd (yp (ym (I.pin p hp).1) (by rw[z];exact hb)) (Yh _)
structure Turn(P:yu)(w:yI)(K:yr)(tg:yt)(δ:It)(fp:List yc)(it:yc)(tn:Nat->yS->Prop):Prop where
 mem:it∈fp
 obj:∀i h,tn i h->∀b∈fp,∃o,h.get? b=some o/\∀v,o.data≠.cell v
 keep:∀i h h',tn i h->(∀b∈fp,∀o,h.get? b=some o->h'.get? b=some o)->tn i h'
 item:∀(X:Cx),X.prog=P->X.w=w->X.K=K->X.calm=true->∀(i:Nat)(U:List (yc×Yw)) (s:yb) (Y:St) (H:Hp) (E:ya->yb->Prop),Inv X U Y H s->(∀b∈fp,z5o X U H b)->tn i s.heap->δ.go i H ->
  yw (yz P w) X.A (pyNext (.ref it)) (λr s1=>∃u,r=some u /\
   yw (yz P w) X.A (letOwnedTupleGo tg (.ref it) u) (λ_ s2=>∃x H',Inv X U Y H' s2/\RelV x u/\δ.yld i H x H'/\tn (i+1) s2.heap/\∀b∈fp,H' b=none) E s1) E s
 done:∀(X:Cx),X.prog=P->X.w=w->X.K=K->X.calm=true->∀(i:Nat)(U:List (yc×Yw)) (s:yb) (Y:St) (H:Hp) (E:ya->yb->Prop),Inv X U Y H s->(∀b∈fp,z5o X U H b)->tn i s.heap->δ.stop i H ->
  yw (yz P w) X.A (pyNext (.ref it)) (λr s1=>r=none/\Inv X U Y H s1) E s
 self:∀(A:yF)(i:Nat)(s:yb)(Q:ya->yb->Prop)(E:ya->yb->Prop),tn i s.heap->Q (.ref it) s->yw (yz P w) A (pyIter (.ref it)) Q E s
abbrev TI:=St->Hp->(It->Hp->Prop)->Prop
def PIE(X:Cx)(U:List (yc×Yw))(Y:St)(tg:yt)(R:It->Hp->Prop)(itv:ya)(s2:yb):Prop :=
 ∃(it:yc)(fp:List yc)(tn:Nat->yS->Prop)(δ:It)(H':Hp),itv=.ref it/\Inv X U Y H' s2/\Turn X.prog X.w X.K tg δ fp it tn/\tn 0 s2.heap/\(∀b∈fp,z5o X U H' b)/\R δ H'
def PI(X:Cx)(tg iter:yt)(wi:TI):Prop :=
 ∀(U:List (yc×Yw)) (s:yb) (Y:St) (H:Hp) (R:It->Hp->Prop),Inv X U Y H s->wi Y H R ->
  yw (yz X.prog X.w) X.A (Yi iter X.env) (λv s1=>yw (yz X.prog X.w) X.A (pyIter v) (PIE X U Y tg R) X.xe s1) X.xe s
def zFp{M:Model}{A:yF}{E:ya->yb->Prop}{s:yb}{tg:yt}{it:yc}{u:ya}{o:Yw}{n:String}{vs:Array ya}{Q:Unit->yb->Prop}(ho:s.heap.get? it=some o)(hc:o.cls=.type n)(hd:o.data=.fields vs)
 (hn:["enumerate","zip","dict_itemiterator","dict_reverseitemiterator","odict_iterator","itertools.zip_longest","itertools.pairwise"].contains n=false) (hQ:Q () s):yw M A (letOwnedTupleGo tg (.ref it) u) Q E s:=by
 unfold letOwnedTupleGo
 cases tg<;>first
  |exact yy hQ
  |(cases u<;>first
   |exact yy hQ
   | (refine yh (wpAny_load ho ?_)
      rw[hc,hd];show yw M A (if(["enumerate","zip","dict_itemiterator","dict_reverseitemiterator","odict_iterator","itertools.zip_longest","itertools.pairwise"].contains n&&vs[0]?==some (rawInt _))=true then _ else _) Q E s;rw[if_neg (by intro h;rw[hn,xr]at h;cases h)];exact yy hQ))
def Itl(K:yr)(a:yc):It :=
 ⟨λi H=>∃xs x,SqL K H a xs/\xs[i]?=some x,λi H x H'=>H'=H/\∀xs,SqL K H a xs->xs[i]?=some x,λi H=>∃xs,SqL K H a xs/\xs.length<=i⟩
def Itt(K:yr)(a:yc):It :=
 ⟨λi H=>∃xs x,SqT K H a xs/\xs[i]?=some x,λi H x H'=>H'=H/\∀xs,SqT K H a xs->xs[i]?=some x,λi H=>∃xs,SqT K H a xs/\xs.length<=i⟩
def Itr(lo:Int)(n:Nat):It:=⟨λi _=>i<n,λi H x H'=>H'=H/\x=.int (lo+i),λi _=>n<=i⟩
def zBo{P:yu}{w:yI}{K:yr}{tg:yt}(a it:yc):Turn P w K tg (Itl K a) [it] it (λi h=>h.IsListIter it a i) where
 mem:=by simp
 obj:=λi h st b hb=>by
  have e:b=it:=by simpa using hb
  subst e;obtain⟨o,e,c,d⟩:=st;exact⟨o,e,λv z=>by rw[d]at z;cases z⟩
 keep:=λi h h' st k=>st.at λo e=>k it (by simp) o e
 item:=by
  intro X hP hw hK hc i U s Y H E I hf st hg;subst hP hw hK;obtain⟨xs,x,hq,hx⟩:=hg;obtain⟨its,rv,p,hz⟩:=I.list hq;obtain⟨u,hu,ru⟩:=rv.get hx;obtain⟨f0,f1,f2,f3,f4,f5⟩:=hf it (by simp);refine wpAny_pyNext_list_item st p.isList (x:=u) (by simpa using hu) λh' st' sb=>?_;have I1:Inv X U Y H {s with heap:=h' }:=I.turned (t':=s.toks) (λb o hb e=>(sb.2 b hb).trans e) f0 f1 f3 f4 f5;obtain⟨o,e,c,d⟩:=id st';exact⟨u,rfl,zFp (s:={s with heap:=h' }) e c d (by decide) ⟨x,H,I1,ru,⟨rfl,λys hy=>by rw[I.sX hy hq];exact hx⟩,st',λb hb=>(hf b hb).1⟩⟩
 done:=by
  intro X hP hw hK hc i U s Y H E I hf st hg;subst hP hw hK;obtain⟨xs,hq,hx⟩:=hg;obtain⟨its,rv,p,hz⟩:=I.list hq;obtain⟨f0,f1,f2,f3,f4,f5⟩:=hf it (by simp);have hl:=rv.length;exact wpAny_pyNext_list_end (I.ok.hd hc) st p.isList (by simp;omega) λh' eb=>⟨rfl,I.turned (t':=s.toks) (λb o hb e=>eb b o hb e) f0 f1 f3 f4 f5⟩
 self:=λ_ _ _ _ _ st h=>wpAny_pyIter_listiter st h
def zan{P:yu}{w:yI}{K:yr}{tg:yt}(a it:yc):Turn P w K tg (Itt K a) [it] it (λi h=>h.IsTupleIter it a i) where
 mem:=by simp
 obj:=λi h st b hb=>by
  have e:b=it:=by simpa using hb
  subst e;obtain⟨o,e,c,d⟩:=st;exact⟨o,e,λv z=>by rw[d]at z;cases z⟩
 keep:=λi h h' st k=>st.at λo e=>k it (by simp) o e
 item:=by
  intro X hP hw hK hc i U s Y H E I hf st hg;subst hP hw hK;obtain⟨xs,x,hq,hx⟩:=hg;obtain⟨its,rv,p,hz⟩:=I.tuple hq;obtain⟨u,hu,ru⟩:=rv.get hx;obtain⟨f0,f1,f2,f3,f4,f5⟩:=hf it (by simp);refine wpAny_pyNext_tuple_item st (show s.heap.IsTuple a its.toArray from p) (x:=u) (by simpa using hu) λh' st' sb=>?_;have I1:Inv X U Y H {s with heap:=h' }:=I.turned (t':=s.toks) (λb o hb e=>(sb.2 b hb).trans e) f0 f1 f3 f4 f5;obtain⟨o,e,c,d⟩:=id st';exact⟨u,rfl,zFp (s:={s with heap:=h' }) e c d (by decide) ⟨x,H,I1,ru,⟨rfl,λys hy=>by rw[I.sM hy hq];exact hx⟩,st',λb hb=>(hf b hb).1⟩⟩
 done:=by
  intro X hP hw hK hc i U s Y H E I hf st hg;subst hP hw hK;obtain⟨xs,hq,hx⟩:=hg;obtain⟨its,rv,p,hz⟩:=I.tuple hq;obtain⟨f0,f1,f2,f3,f4,f5⟩:=hf it (by simp);have hl:=rv.length;exact wpAny_pyNext_tuple_end (I.ok.hd hc) st (show s.heap.IsTuple a its.toArray from p) (by simp;omega) λh' eb=>⟨rfl,I.turned (t':=s.toks) (λb o hb e=>eb b o hb e) f0 f1 f3 f4 f5⟩
 self:=λ_ _ _ _ _ st h=>wpAny_pyIter_tupleiter st h
def zon{P:yu}{w:yI}{K:xu}{tg:yt}(it:yc)(lo:Int)(n:Nat):Turn P w K tg (Itr lo n) [it] it (λi h=>IsRangeIter h it (lo+(i:Nat)*1) ((n:Int)-(i:Nat)) 1) where
 mem:=by simp
 obj:=λi h st b hb=>by
  have e:b=it:=by simpa using hb
  subst e
  exact⟨_,st,λv z=>by
   have z':Data.fields _=Data.cell v:=z;cases z'⟩
 keep:=λi h h' st k=>k it (by simp) _ st
 item:=by
  intro X hP hw hK hc i U s Y H E I hf st hg;subst hP hw hK;obtain⟨f0,f1,f2,f3,f4,f5⟩:=hf it (by simp);have W:=Walks.range (prog:=X.prog) (w:=X.w) (I.ok.hd hc) it lo 1 n;refine W.item i s _ _ hg st λv h' tk hv st' kk=>?_;obtain⟨t,rfl⟩:=hv;have I1:Inv X U Y H {s with heap:=h',toks:=tk }:=I.turned (λb o hb e=>kk b o (by simpa using hb) e) f0 f1 f3 f4 f5;refine⟨_,rfl,zFp (s:={s with heap:=h',toks:=tk }) (n:="range_iterator") st' rfl rfl (by decide) ⟨.int (lo+i),H,I1,⟨t,?_⟩,⟨rfl,rfl⟩,st',λb hb=>(hf b hb).1⟩⟩;rw[Int.mul_one]
 done:=by
  intro X hP hw hK hc i U s Y H E I hf st hg;subst hP hw hK;obtain⟨f0,f1,f2,f3,f4,f5⟩:=hf it (by simp);exact wpAny_pyNext_range_end (I.ok.hd hc) st (by have:n<=i:=hg;omega) λh' eb=>⟨rfl,I.turned (t':=s.toks) (λb o hb e=>eb b o hb e) f0 f1 f3 f4 f5⟩
 self:=λ_ _ _ _ _ st h=>wpAny_pyIter_rangeiter st h
section
variable {X:Cx}{tg:yt}
def zVn(K:yr)(tl:TE):TI:=λY H R=>tl Y H λx H1=>∃a,x=.ref a/\(∃xs,SqL K H1 a xs)/\R (Itl K a) H1
def z5u(K:yr)(tl:TE):TI:=λY H R=>tl Y H λx H1=>∃a,x=.ref a/\(∃xs,SqT K H1 a xs)/\R (Itt K a) H1
def z0q{l:yt}{tl:TE}(hl:PE X l tl):PI X tg l (zVn X.K tl):=by
 intro U s Y H R I h;refine thn (hl U s Y H _ I h) λv s1 ⟨x,H1,I1,r1,q1⟩=>?_;obtain⟨a,e,⟨xs,hq⟩,q⟩:=q1;subst e;cases r1;obtain⟨its,rv,p,hz⟩:=I1.list hq;refine wpAny_pyIter_list p.isList ?_;refine⟨s1.heap.objs.size,[s1.heap.objs.size],_,_,H1,rfl,I1.kept (t':=s1.toks) λb o e=>yk _ e,zBo a _,⟨_,yC _ rfl,rfl,rfl⟩,λb hb=>?_,q⟩;have e:b=s1.heap.objs.size:=by simpa using hb
 subst e;exact I1.fpOk (yo _) (I1.hok.fresh (yo _))
def zFs{l:yt}{tl:TE}(hl:PE X l tl):PI X tg l (z5u X.K tl):=by
 intro U s Y H R I h;refine thn (hl U s Y H _ I h) λv s1 ⟨x,H1,I1,r1,q1⟩=>?_;obtain⟨a,e,⟨xs,hq⟩,q⟩:=q1;subst e;cases r1;obtain⟨its,rv,p,hz⟩:=I1.tuple hq;refine wpAny_pyIter_tuple (show s1.heap.IsTuple a its.toArray from p) ?_;refine⟨s1.heap.objs.size,[s1.heap.objs.size],_,_,H1,rfl,I1.kept (t':=s1.toks) λb o e=>yk _ e,zan a _,⟨_,yC _ rfl,rfl,rfl⟩,λb hb=>?_,q⟩;have e:b=s1.heap.objs.size:=by simpa using hb
 subst e;exact I1.fpOk (yo _) (I1.hok.fresh (yo _))
def zXp{U:List (yc×Yw)}{Y:St}{H:Hp}{s:yb}{R:It->Hp->Prop}{E:ya->yb->Prop}{lo hi:Int}{t u v:Tok}{tk:Nat}(I:Inv X U Y H s)(h1:-(2^62)<=lo)(h2:lo<2^62)(h3:-(2^62)<=hi)(h4:hi<2^62)
 (q:R (Itr lo (hi-lo).toNat) H):yw (yz X.prog X.w) X.A (pyIter (.ref s.heap.objs.size)) (PIE X U Y tg R) E {s with heap:=s.heap.push {cls:=.type "range",data:=.fields #[.int lo t,.int hi u,.int 1 v]},toks:=tk }:=by
 refine wpAny_pyIter_range (IsRange.new ..) (small_one h1 h2 h3 h4) ?_;have I1:Inv X U Y H {s with heap:=s.heap.push {cls:=.type "range",data:=.fields #[.int lo t,.int hi u,.int 1 v]},toks:=tk }:=I.kept λb o e=>yk _ e
 refine⟨(s.heap.push {cls:=.type "range",data:=.fields #[.int lo t,.int hi u,.int 1 v]}).objs.size,[(s.heap.push {cls:=.type "range",data:=.fields #[.int lo t,.int hi u,.int 1 v]}).objs.size],_,_,H,rfl,
  I1.kept (t':=tk) λb o e=>yk _ e,zon _ lo (hi-lo).toNat,?_,λb hb=>?_,q⟩
 ·have e1:lo+((0:Nat):Int)*1=lo:=by simp
  have e2:(((hi-lo).toNat:Nat):Int)-((0:Nat):Int)=Builtin.Range.rangeSize lo hi 1:=by rw[rangeSize_one];split<;>omega
  show IsRangeIter _ _ (lo+((0:Nat):Int)*1) ((((hi-lo).toNat:Nat):Int)-((0:Nat):Int)) 1;rw[e1,e2];exact yC _ rfl
 ·have e:b=(s.heap.push {cls:=.type "range",data:=.fields #[.int lo t,.int hi u,.int 1 v]}).objs.size:=by simpa using hb
  subst e;exact I1.fpOk (yo _) (I1.hok.fresh (yo _))
def zUt(ta:TA):TI:=λY H R=>ta Y H λvs H1=>∃j:Int,vs=[.int j]/\-(2^62)<=j/\j<2^62/\R (Itr 0 j.toNat) H1
def zPo{a:yt}{ta:TA}{p pos:YD}(hg:Gl X "range")(hm:X.mg "range"=none)(ha:PA X [a] ta)(hs:yj [a] X.env=[(false,Yi a X.env)]:=by rfl):PI X tg (.Call (.Name "range" p) [a] [] pos) (zUt ta):=by
 intro U s Y H R I h;refine Call_ (zGm I hg hm boot_range (PyProof.Rows.callWith_type1 (thn (ha pos U s Y H _ I h) λus s1 ⟨vs,H1,I1,r1,q1⟩=>?_) hs rfl));obtain⟨j,e,q1,q2,q⟩:=q1;subst e
 cases r1 with
 |cons r rr=>
  cases rr;obtain⟨t,rfl⟩:=r;exact call_range_1 (zXp I1 (by omega) (by omega) q1 q2 (by simpa using q))
def z6u(wi:TI)(g:TG)(tb:TS):TS:=λD Y H=>wi Y H λδ H1=>∃W:Nat->Nat->St->Hp->Prop,(∃m,W 0 m Y H1)/\∀i m Y H,W i m Y H ->
 (δ.stop i H/\D.nx Y H)\/(δ.go i H/\∃N:St->Hp->Prop,(∀Y' H',N Y' H'->∃m',m'<m/\W (i+1) m' Y' H')/\∀x H',δ.yld i H x H'->g x Y H' λY2 H2=>tb {D with nx:=N,ct:=N,bk:=D.nx } Y2 H2)
def zCj(fp:List yc)(h:yS):List (yc×Yw):=fp.filterMap λb=>(h.get? b).map λo=>(b,o)
def zId{fp:List yc}{h:yS}{b:yc}{o:Yw}(hb:b∈fp)(e:h.get? b=some o):(b,o)∈zCj fp h:=List.mem_filterMap.mpr ⟨b,hb,by rw[e];rfl⟩
def zZo{fp:List yc}{h:yS}{p:yc×Yw}(hp:p∈zCj fp h):p.1∈fp/\h.get? p.1=some p.2:=by
 obtain⟨b,hb,e⟩:=List.mem_filterMap.mp hp
 cases q:h.get? b with
 |none=>rw[q]at e;cases e
 |some o=>
  rw[q]at e;have e':(b,o)=p:=yU e;subst e';exact⟨hb,q⟩
def Inv.pinned{U:List (yc×Yw)}{Y:St}{H:Hp}{s:yb}{fp:List yc}(I:Inv X U Y H s)(hf:∀b∈fp,z5o X U H b)(ho:∀b∈fp,∃o,s.heap.get? b=some o/\∀v,o.data≠.cell v):Inv X (U++zCj fp s.heap) Y H s :=
 I.TK λp hp=>(List.mem_append.mp hp).elim (λz=>I.pin p (mem_append_right _ z)) λz=>by
  obtain⟨hb,e⟩:=zZo z;obtain⟨f0,f1,f2,_⟩:=hf p.1 hb;obtain⟨o,e',d⟩:=ho p.1 hb;rw[e]at e';cases e';exact⟨e,f0,f1,f2,d⟩
def Inv.Tc{U pl:List (yc×Yw)}{Y:St}{H:Hp}{s:yb}(I:Inv X (U++pl) Y H s):Inv X U Y H s:=I.TK λp hp=>I.pin p (mem_append_right _ (List.mem_append_left _ hp))
def zxt{iter:yt}{body:List yQ}{wi:TI}{g:TG}{tb:TS}{pos:YD}(hp:PassesOwn (yz X.prog X.w) X.A X.env X.xe)(hc:X.calm=true)(hi:PI X tg iter wi)(hg:PG X tg g)(hb:PSs X body tb)
 (hs:∀x,YL iter X.env x=pure x:=by intro _;rfl):PS X (.For tg iter body [] pos) (z6u wi g tb):=by
 intro U s Y H D I h;refine wpAny_For (thn (hi U s Y H _ I h) λv s1 h1=>thn h1 λitv s2 h2=>?_) hs;obtain⟨it,fp,tn,δ,H2,e,I2,T,st2,f2,W,⟨m0,w0⟩,turn⟩:=h2;subst e;have stat:∀{H':Hp},(∀b∈fp,H' b=none)->∀b∈fp,z5o X U H' b:=λhn b hb=>⟨hn b hb,(f2 b hb).2⟩
 refine codeAny_forLoop_any (λn s'=>∃i Y' H',Inv X U Y' H' s'/\tn i s'.heap/\(∀b∈fp,H' b=none)/\W i n Y' H') ?_ m0 ⟨0,Y,H2,I2,st2,λb hb=>(f2 b hb).1,w0⟩;rintro n s3 ⟨i,Y3,H3,I3,st3,fr3,w3⟩;rcases turn i n Y3 H3 w3 with ⟨stop,qn⟩|⟨go,N,hN,step⟩
 ·refine wpAny_passesOwn hp (thn (T.done X rfl rfl rfl hc i U s3 Y3 H3 X.xe I3 (stat fr3) st3 stop) λr s4 ⟨hr,I4⟩=>?_);subst hr;exact wpAny_execs_nil ⟨Y3,H3,I4,qn⟩
 ·refine wpAny_passesOwn hp (thn (T.item X rfl rfl rfl hc i U s3 Y3 H3 X.xe I3 (stat fr3) st3 go) λr s4 ⟨u,hr,h4⟩=>?_);subst hr;refine wpAny_passesOwn hp (thn h4 λ_ s5 ⟨x,H5,I5,r5,y5,st5,fr5⟩=>?_);have I5':=I5.pinned (stat fr5) (T.obj _ _ st5);refine wpAny_passesOwn hp (thn (hg _ s5 Y3 H5 x u _ I5' r5 (step x H5 y5)) λ_ s6 ⟨Y6,H6,I6,q6⟩=>?_);refine wpAny_passesOwn hp (thn (hb _ s6 Y6 H6 _ I6 q6) λf s7 q7=>?_)
  have again:∀{Y7:St} {H7:Hp},Inv X (U++zCj fp s5.heap) Y7 H7 s7->N Y7 H7->∃m,m<n/\∃i Y' H',Inv X U Y' H' s7/\tn i s7.heap/\(∀b∈fp,H' b=none)/\W i m Y' H':=λ{Y7 H7} I7 n7=>by
   obtain⟨m',hm,w7⟩:=hN Y7 H7 n7;refine⟨m',hm,i+1,Y7,H7,I7.Tc,T.keep _ _ _ st5 λb hb o e=>(I7.pin (b,o) (mem_append_right _ (mem_append_right _ (zId hb e)))).1,λb hb=>?_,w7⟩;obtain⟨o,e,d⟩:=T.obj _ _ st5 b hb;exact(I7.pin (b,o) (mem_append_right _ (mem_append_right _ (zId hb e)))).2.1
  cases f with
  |next=>obtain⟨Y7,H7,I7,n7⟩:=q7;exact again I7 n7
  |cont=>obtain⟨Y7,H7,I7,n7⟩:=q7;exact again I7 n7
  |brk=>obtain⟨Y7,H7,I7,q7⟩:=q7;exact⟨Y7,H7,I7.Tc,q7⟩
  |ret v=>obtain⟨x7,Y7,H7,I7,r7,q7⟩:=q7;exact⟨x7,Y7,H7,I7.Tc,r7,q7⟩
end
abbrev R2:=V->V->Hp->VK->Prop
def OpR(X:Cx)(f:ya->ya->Sem ya)(r:R2):Prop :=
 ∀(U:List (yc×Yw)) (s:yb) (Y:St) (H:Hp) (x y:V) (v u:ya) (Q:VK),Inv X U Y H s->RelV x v->RelV y u->r x y H Q ->
  yw (yz X.prog X.w) X.A (f v u) (EP X U Y Q) X.xe s
def z1l(X:Cx)(f:ya)(r:List V->Hp->VK->Prop):Prop :=
 ∀(U:List (yc×Yw)) (s:yb) (Y:St) (H:Hp) (xs:List V) (us:List ya) (Q:VK),Inv X U Y H s->Vals xs us->r xs H Q ->
  yw (yz X.prog X.w) X.A (call f us) (EP X U Y Q) X.xe s
def tOp(r:R2)(ta tb:TE):TE:=λY H Q=>ta Y H λx H1=>tb Y H1 λy H2=>r x y H2 Q
def rI(C:Int->Int->Prop)(g:Int->Int->V):R2:=λx y H Q=>∃i j,x=.int i/\y=.int j/\C i j/\Q (g i j) H
def rI0(g:Int->Int->V):R2:=λx y H Q=>∃i j,x=.int i/\y=.int j/\Q (g i j) H
section
variable {X:Cx}{a b c:yt}{ta tb tc:TE}{pos:YD}
def binT(ha:PE X a ta)(hb:PE X b tb){U:List (yc×Yw)}{s:yb}{Y:St}{H:Hp}{R:V->V->Hp->Prop}(I:Inv X U Y H s)
 (h:ta Y H λx H1=>tb Y H1 λy H2=>R x y H2) {Q:ya->yb->Prop} {f:ya->ya->Sem ya}
 (hf:∀v u s2 x y H2,Inv X U Y H2 s2->RelV x v->RelV y u->R x y H2->yw (yz X.prog X.w) X.A (f v u) Q X.xe s2) :
 yw (yz X.prog X.w) X.A (Yi a X.env) (λv s₁=>yw (yz X.prog X.w) X.A (Yi b X.env) (λu s₂=>yw (yz X.prog X.w) X.A (f v u) Q X.xe s₂) X.xe s₁) X.xe s:=by
 refine thn (ha U s Y H _ I h) λv s1 ⟨x,H1,I1,r1,q1⟩=>?_;refine thn (hb U s1 Y H1 _ I1 q1) λu s2 ⟨y,H2,I2,r2,q2⟩=>?_;exact hf v u s2 x y H2 I2 r1 r2 q2
def zfu{op:Operator}{r:R2}(ho:OpR X (Yz op) r)(ha:PE X a ta)(hb:PE X b tb):PE X (.BinOp a op b pos) (tOp r ta tb):=by
 intro U s Y H Q I h;exact wpAny_BinOp (binT ha hb I h λv u s2 x y H2 I2 rx ry q=>ho U s2 Y H2 x y v u Q I2 rx ry q)
def opI{f:ya->ya->Sem ya}{C:Int->Int->Prop}{g:Int->Int->Int}
 (rule:∀(i j:Int)(t u:Tok)(s:yb)(Q:ya->yb->Prop)(E:ya->yb->Prop),C i j->Q (.int (g i j) s.toks) {s with toks:=s.toks+1 }->yw (yz X.prog X.w) X.A (f (.int i t) (.int j u)) Q E s) :
 OpR X f (rI C λi j =>.int (g i j)):=by
 intro U s Y H x y v u Q I rx ry h;obtain⟨i,j,rfl,rfl,hc,q⟩:=h;obtain⟨t,rfl⟩:=rx;obtain⟨t',rfl⟩:=ry;exact rule i j t t' s _ _ hc ⟨.int (g i j),H,I.tok _,⟨_,rfl⟩,q⟩
def opB0{f:ya->ya->Sem ya}{g:Int->Int->Bool}
 (rule:∀(i j:Int)(t u:Tok)(s:yb)(Q:ya->yb->Prop)(E:ya->yb->Prop),Q (.bool (g i j)) s->yw (yz X.prog X.w) X.A (f (.int i t) (.int j u)) Q E s) :
 OpR X f (rI0 λi j =>.bl (g i j)):=by
 intro U s Y H x y v u Q I rx ry h;obtain⟨i,j,rfl,rfl,q⟩:=h;obtain⟨t,rfl⟩:=rx;obtain⟨t',rfl⟩:=ry;exact rule i j t t' s _ _ ⟨.bl (g i j),H,I,rfl,q⟩
def z4r:OpR X (Yz .Mod) (rI (λ_ j=>0<j) λi j =>.int (i%j)):=opI λi j _ _ _ _ _ hc q=>by
 have h1:(0:Int)<j:=hc;exact mod_int' (by omega) (by rw[Int.fmod_eq_emod_of_nonneg i (by omega)];exact q)
def zXn{U:List (yc×Yw)}{Y:St}{H:Hp}{s:yb}{Q:VK}{k k':Bool}(I:Inv X U Y H s)(q:Q (.bl k) H)(e:k=k'):EP X U Y Q (.bool k') s:=by
 subst e;exact⟨.bl k,H,I,rfl,q⟩
def zFu:OpR X (Yj .Lt) (rI0 λi j =>.bl (decide (i<j))):=opB0 λ_ _ _ _ _ _ _ q=>lt_int q
def zSt:OpR X (Yj .LtE) (rI0 λi j =>.bl (decide (i<=j))):=opB0 λ_ _ _ _ _ _ _ q=>le_int q
def ztu:OpR X (Yj .Gt) (rI0 λi j =>.bl (decide (j<i))):=opB0 λ_ _ _ _ _ _ _ q=>gt_int q
def z5i:OpR X (Yj .Is) (λx y H Q=>y=.non/\Q (.bl (decide (x=.non))) H):=by
 intro U s Y H x y v u Q I rx ry h;obtain⟨rfl,q⟩:=h;cases ry;refine is_none_gen (zXn I q ?_)
 cases x<;>first
  |(cases rx;rfl)
  |(obtain⟨t,rfl⟩:=rx;rfl)
def zfh:OpR X (Yj .IsNot) (λx y H Q=>y=.non/\Q (.bl (!decide (x=.non))) H):=by
 intro U s Y H x y v u Q I rx ry h;obtain⟨rfl,q⟩:=h;cases ry;refine isnot_none_gen (zXn I q ?_)
 cases x<;>first
  |(cases rx;rfl)
  |(obtain⟨t,rfl⟩:=rx;rfl)
def zNk:OpR X (Yj .NotIn) (λx y H Q=>∃i j,x=.str i/\y=.str j/\Q (.bl (!(!(Builtin.Str.occurrences j i 0 j.length 1).isEmpty))) H):=by
 intro U s Y H x y v u Q I rx ry h;obtain⟨i,j,rfl,rfl,q⟩:=h;obtain⟨t,rfl⟩:=rx;obtain⟨t',rfl⟩:=ry;exact notIn_str (zXn I q rfl)
def zEq{op:CmpOp}{r:R2}(ho:OpR X (Yj op) r)(ha:PE X a ta)(hb:PE X b tb)(hm:behindInMarks op b=false):PE X (.Compare a [op] [b] pos) (tOp r ta tb):=by
 intro U s Y H Q I h;exact wpAny_Compare1 (binT ha hb I h λv u s2 x y H2 I2 rx ry q=>ho U s2 Y H2 x y v u Q I2 rx ry q) hm
def zAu(t:TE):TT:=λY H Q=>t Y H λx H'=>∃k,x=.bl k/\Q k H'
def z1q{op:CmpOp}{r:R2}(ho:OpR X (Yj op) r)(ha:PE X a ta)(hb:PE X b tb)(hm:behindInMarks op b=false):PT X (.Compare a [op] [b] pos) (zAu (tOp r ta tb)):=by
 intro U s Y H Q I h
 refine wpAny_isTrue_Compare1 (thn (ha U s Y H _ I h) λv s1 ⟨x,H1,I1,r1,q1⟩=>thn (hb U s1 Y H1 _ I1 q1) λu s2 ⟨y,H2,I2,r2,q2⟩=>
  thn (ho U s2 Y H2 x y v u _ I2 r1 r2 q2) λc s3 ⟨z,H3,I3,r3,k,e,q3⟩=>?_) hm
 subst e;cases r3;exact YK ⟨H3,I3,q3⟩
def zNs(r r':R2)(ta tb tc:TE):TE:=λY H Q=>ta Y H λx H1=>tb Y H1 λy H2=>r x y H2 λz H3=>∃k,z=.bl k /\
 (if k=true then tc Y H3 λw' H4=>r' y w' H4 Q else Q (.bl false) H3)
def zrp{op op':CmpOp}{r r':R2}(ho:OpR X (Yj op) r)(ho':OpR X (Yj op') r')(ha:PE X a ta)(hb:PE X b tb)(hc:PE X c tc)
 (hm:lastMarks [op,op'] [b,c]=false:=by with_unfolding_all rfl):PE X (.Compare a [op,op'] [b,c] pos) (zNs r r' ta tb tc):=by
 intro U s Y H Q I h
 refine Compare_chain (thn (ha U s Y H _ I h) λv s1 ⟨x,H1,I1,r1,q1⟩=>chain_link (thn (hb U s1 Y H1 _ I1 q1) λu s2 ⟨y,H2,I2,r2,q2⟩=>
  thn (ho U s2 Y H2 x y v u _ I2 r1 r2 q2) λd s3 ⟨z,H3,I3,r3,k,e,q3⟩=>?_)) hm
 subst e;cases r3;refine YK ?_
 cases k with
 |false=>exact ite_ff ⟨.bl false,H3,I3,rfl,q3⟩
 |true=>exact ite_tt (chain_last (thn (hc U s3 Y H3 _ I3 q3) λw' s4 ⟨z',H4,I4,r4,q4⟩=>ho' U s4 Y H4 y z' u w' Q I4 r2 r4 q4))
def Tz:(yB:Nat)<2^63:=by rw[sizeLine_eq];decide
def zZm:OpR X (Yz .Add) (λx y H Q=>∃i j,x=.str i/\y=.str j/\i.length+j.length<=yB/\Q (.str (i++j)) H):=by
 intro U s Y H x y v u Q I rx ry h;obtain⟨i,j,rfl,rfl,hz,q⟩:=h;obtain⟨t,rfl⟩:=rx;obtain⟨t',rfl⟩:=ry;exact add_str (λt' tk=>⟨.str (i++j),H,I.tok _,⟨_,rfl⟩,q⟩) hz
def vals1{x:V}{us:List ya}(r:Vals [x] us):∃u,us=[u]/\RelV x u:=by
 cases r with
 |cons r1 r2=>cases r2;exact⟨_,rfl,r1⟩
def zPk:z1l X (.type "str") (λxs H Q=>∃i,xs=[.int i]/\i.natAbs.log2<1920/\Q (.str (toString i)) H):=by
 intro U s Y H xs us Q I r h;obtain⟨i,rfl,hz,q⟩:=h;obtain⟨u,rfl,t,rfl⟩:=vals1 r;exact PySem.P.str_of_int hz ⟨.str _,H,I.tok _,⟨_,rfl⟩,q⟩
end
structure ObjM(h:yS)(x dx C:yc)(mA:yg->Option ya):Prop where
 obj:h.get? x=some (W.instObj C dx)
 ns:h.Ns1 dx mA
 ne:dx≠x
def zBn{h:yS}{dx:yc}{mA:yg->Option ya}(n:h.Ns1 dx mA):∃od,h.get? dx=some od/\∀name,W.lookIn name od=some (mA name):=by
 obtain⟨o,es,ep,ho,hd,hk,_,hm⟩:=n;refine⟨o,ho,λname=>?_⟩;have e:=hm name;unfold nsFind findBy at e;rw[<-Array.find?_toList]at e;unfold W.lookIn;rw[hd];dsimp only
 split
 ·rename_i y q
  rw[q]at e;exact congrArg some e
 ·rename_i q
  rw[q]at e
  have a:es.toList.any (·.refKey)=false:=by
   rw[List.any_eq_false];intro y hy;obtain⟨z,t,hkey⟩:=hk y (Array.mem_toList_iff.mp hy);simp[DictEntry.refKey,hkey]
  have a':¬es.toList.any (·.refKey)=true:=by rw[a];exact yR
  rw[if_neg a'];exact congrArg some e
def ObjM.look{h:yS}{x dx C:yc}{mA:yg->Option ya}(I:ObjM h x dx C mA):∃od,W.InstAt h x (W.instObj C dx) C (some od)/\∀name,W.lookIn name od=some (mA name) :=
 let ⟨od,ho,hl⟩:=zBn I.ns
 ⟨od,⟨I.obj,rfl,rfl,ho⟩,hl⟩
section
variable {prog:yu}{w:yI}{A:yF}{E:ya->yb->Prop}{s:yb}{K:yr}{x dx C f:yc}{mA:yg->Option ya}{name:yg}{v:ya}
variable {P:yu}{H H':Hp}{h h':yS}{a:yc}{fs fs':List (yg×V)}
def zpr(hok:HOk P w H h)(e:H a=some (.ins C dx fs)):∃mA,ObjM h a dx C mA/\(∀f,zEu (fs.lookup f) (mA f))/\PySem.Within mA (fs.map (·.1))/\fs.length<=1000/\H dx=some (.own a):=by
 obtain⟨d,z,ne,ob,mA,n,r,q⟩:=(show tR P w H h a (.ins C dx fs) from hok a _ e)
 exact⟨mA,⟨ob,n,ne⟩,r,q,z,d⟩
end
structure Cls(K:yr)(C:yc):Prop where
 pg:W.plainGet K C Str.empty=true
 hd:W.hasDictIn K C=true
 po:W.plainOver K C=true
 sa:xq K (.ref C) "__setattr__"=some (some (.builtin "object.__setattr__"))
def Cls.get{K:yr}{C:yc}(c:Cls K C)(f:yg):W.plainGet K C f=true:=c.pg
structure Con(K:yr)(C:yc)(f:yg)(v:V)(u:ya):Prop where
 at_:xq K (.ref C) f=some (some u)
 rel:RelV v u
 get:W.specialIn K u "__get__"=some none
 cp:W.copiedNames.contains f=false
structure Meth(K:yr)(C:yc)(m:yg)(f:yc):Prop where
 at_:xq K (.ref C) m=some (some (.ref f))
 fn:W.isFn K (.ref f)=true
 kp:W.keepIn K (.ref f)=true
section
variable {X:Cx}{U:List (yc×Yw)}{Y:St}{H:Hp}{s:yb}{a C dx:yc}{fs:List (yg×V)}{f:yg}{v:V}{A:yF}{E:ya->yb->Prop}
variable {o e value:yt}{pos pos' tpos:YD}{ta tv:TE}
variable {Q:ya->yb->Prop}{c:ya}{b:Bool}
inductive TB(K:yr)(H:Hp):V->ya->Prop where
 |non:TB K H .non (.type "NoneType")
 |bl (x:Bool):TB K H (.bl x) (.type "bool")
 |int (i:Int):TB K H (.int i) (.type "int")
 |str (x:yg):TB K H (.str x) (.type "str")
 |flt (x:UInt64):TB K H (.flt x) (.type "float")
 |lst {a:yc} {xs:List V} (e:H a=some (.lst xs)):TB K H (.ref a) (.type "list")
 |frz {a:yc} {o:Yw} {xs:List V} (e:H a=some (.frz o (.lst xs))):TB K H (.ref a) (.type "list")
 |tup {a:yc} {xs:List V} (e:H a=some (.tup xs)):TB K H (.ref a) (.type "tuple")
 |dK {a:yc} {kvs:List (Key×V)} (e:H a=some (.dK kvs)):TB K H (.ref a) (.type "dict")
 |dT {a:yc} {kvs:List (List Key×V)} (e:H a=some (.dT kvs)):TB K H (.ref a) (.type "dict")
 |ins {a C dx:yc} {fs:List (yg×V)} (e:H a=some (.ins C dx fs)) (cl:Cls K C) (ha:xq K (.ref C) "__class__"=some (some (.builtin "object.__class__")))
  (hn:W.specialIn K (.builtin "object.__class__") "__get__"=some (some (.builtin "getset_descriptor.__get__"))) (htk:W.takesIn K (.builtin "object.__class__")=some true)
  (hm:W.mroIn K C (.type "object")=some true):TB K H (.ref a) (.ref C)
def z7n{x:V}{u t:ya}(I:Inv X U Y H s)(rx:RelV x u)(ty:TB X.K H x t)(e:yD X.K t c=some b)(h:∀tk,Q (.bool b) {s with toks:=tk }) :
 yw (yz X.prog X.w) A (call (.builtin "isinstance") [u,c]) Q E s:=by
 cases ty with
 |non=>cases (show u=Yk from rx);exact xc W.kitx_none I.kIn True.intro e (λz=>nomatch z) h
 |bl y=>cases (show u=Value.bool y from rx);exact xc W.kitx_bool I.kIn True.intro e (λz=>nomatch z) h
 |int i=>obtain⟨t,q⟩:=(show ∃t,u=Value.int i t from rx);cases q;exact xc W.kitx_int I.kIn True.intro e (λz=>nomatch z) h
 |str y=>obtain⟨t,q⟩:=(show ∃t,u=Value.str y t from rx);cases q;exact xc W.kitx_str I.kIn True.intro e (λz=>nomatch z) h
 |flt y=>obtain⟨t,q⟩:=(show ∃t,u=Value.float y t from rx);cases q;exact xc W.kitx_float I.kIn True.intro e (λz=>nomatch z) h
 |@lst a xs ea=>
  cases (show u=yZ a from rx);obtain⟨_,_,n,_,h1⟩:=(show tR X.prog X.w H s.heap a (.lst xs) from I.hok a _ ea)
  exact xc W.kitx_list I.kIn ⟨_,h1,rfl⟩ e (λz=>nomatch z) h
 |@frz a ob xs ea=>
  cases (show u=yZ a from rx);obtain⟨_,_,_,n,_,h1⟩:=(show tR X.prog X.w H s.heap a (.frz ob (.lst xs)) from I.hok a _ ea)
  exact xc W.kitx_list I.kIn ⟨_,h1,rfl⟩ e (λz=>nomatch z) h
 |@tup a xs ea=>
  cases (show u=yZ a from rx);obtain⟨_,_,_,p⟩:=(show tR X.prog X.w H s.heap a (.tup xs) from I.hok a _ ea)
  obtain⟨o,h1,h2,_⟩:=p;exact xc W.kitx_tuple I.kIn ⟨o,h1,h2⟩ e (λz=>nomatch z) h
 |@dK a kvs ea=>
  cases (show u=yZ a from rx);obtain⟨_,_,vs,_,p⟩:=(show tR X.prog X.w H s.heap a (.dK kvs) from I.hok a _ ea)
  obtain⟨o,es,ep,h1,h2,_⟩:=p;exact xc W.kitx_dict I.kIn ⟨o,h1,h2.1⟩ e (λz=>nomatch z) h
 |@dT a kvs ea=>
  cases (show u=yZ a from rx);obtain⟨_,_,xs,_,o,es,ep,h1,h2,_⟩:=(show tR X.prog X.w H s.heap a (.dT kvs) from I.hok a _ ea)
  exact xc W.kitx_dict I.kIn ⟨o,h1,h2.1⟩ e (λz=>nomatch z) h
 |@ins a C dx fs ea cl ha hn htk hm=>
  cases (show u=yZ a from rx);obtain⟨mA,μ,_⟩:=zpr I.hok ea;obtain⟨od,δ,_⟩:=μ.look;exact xc (W.kitx_own (cl.get _) cl.hd ha hn htk hm) I.kIn δ e (λz=>nomatch z) h
end
structure tW(k:Nat)(A:yF):Prop where
 hd:A.handled=none
 dp:A.depth+3*k+5<recursionLimit
 un:A.units+16*k+200<cLine
 gd:A.guards=some []
def tW.mono{j k:Nat}{A:yF}(r:tW k A)(h:j<=k):tW j A:=⟨r.hd,by have:=r.dp;omega,by have:=r.un;omega,r.gd⟩
def tW.deeper{k:Nat}{A:yF}(r:tW (k+1) A)(env:Env):tW k (A.deeper env) :=
 ⟨r.hd,by have:=r.dp;show A.depth+1+3*k+5<_;omega,by have:=r.un;show A.units+3+16*k+200<_;omega,r.gd⟩
def tW.depth{k:Nat}{A:yF}(r:tW k A):A.depth<recursionLimit:=by have:=r.dp;omega
def tW.units{k:Nat}{A:yF}(r:tW k A):A.units+64<cLine:=by have:=r.un;omega
def zov:TA:=λ_ H Q=>Q [] H
def zns(ta:TE)(tr:TA):TA:=λY H Q=>ta Y H λx H1=>tr Y H1 λxs H2=>Q (x::xs) H2
section
variable {X:Cx}{e:yt}{es:List yt}{te:TE}{t:TA}{pos:YD}
def zro:PA X [] zov:=λ_ _ _ _ H Q I h=>Calls.spliced_nil ⟨[],H,I,.nil,h⟩
def zjk(ha:PE X e te)(hr:PA X es t)(hs:yj (e::es) X.env=(false,Yi e X.env)::yj es X.env:=by rfl):PA X (e::es) (zns te t):=by
 intro pos U s Y H Q I h;rw[hs];show yw _ _ (spliced ((false,Yi e X.env)::Ye pos (yj es X.env))) _ _ s;refine Calls.spliced_cons (thn (ha U s Y H _ I h) λu s1 ⟨x,H1,I1,r1,q1⟩=>?_);exact thn (hr pos U s1 Y H1 _ I1 q1) λus s2 ⟨xs,H2,I2,r2,q2⟩=>⟨x::xs,H2,I2,.cons r1 r2,q2⟩
def zev(t:TA):TE:=λY H Q=>t Y H λxs H1=>xs.length<=yB/\∀p,H1 p=none->Q (.ref p) (upd H1 p (.tup xs))
def zWu(t:TA):TE:=λY H Q=>t Y H λxs H1=>xs.length<=yB/\∀p,H1 p=none->Q (.ref p) (upd H1 p (.lst xs))
def zrq{x1}(h:PA X es t):PE X (.Tuple es x1 pos) (zev t):=by
 intro U s Y H Q I hq;refine wpAny_Tuple_spliced (thn (h pos U s Y H _ I hq) λus s1 ⟨xs,H1,I1,r,z,q⟩=>⟨by rw[<-r.length];exact z,?_⟩);have hf:H1 s1.heap.objs.size=none:=I1.hok.fresh (yo _);refine⟨.ref s1.heap.objs.size,upd H1 s1.heap.objs.size (.tup xs),I1.laid (t':=s1.toks) (λb u e=>yk _ e) (yo _) ?_,rfl,q _ hf⟩;exact⟨z,us,r,⟨_,yC _ rfl,rfl,_,rfl⟩⟩
def zfs(h:PA X es t):PE X (.List es pos) (zWu t):=by
 intro U s Y H Q I hq;refine wpAny_List_spliced (thn (h pos U s Y H _ I hq) λus s1 ⟨xs,H1,I1,r,z,q⟩=>⟨by rw[<-r.length];exact z,?_⟩);have hf:H1 s1.heap.objs.size=none:=I1.hok.fresh (yo _);refine⟨.ref s1.heap.objs.size,upd H1 s1.heap.objs.size (.lst xs),I1.laid (t':=s1.toks) (λb u e=>yk _ e) (yo _) ?_,rfl,q _ hf⟩;exact⟨z,us,0,r,yC _ rfl⟩
end
abbrev Sp:=List V->Hp->VK->XK->Prop
abbrev CXT:=List Env->Hp->yb->XK->ya->yb->Prop
structure Env0(P:yu)(w:yI)(K:yr)(mg:yg->Option ya)(base:yS)(A:yF)(outer:List Env)(s:yb)(H:Hp):Prop where
 frames:A.frames=some outer
 mod:Mod K mg base
 bs:∀b o,base.get? b=some o->s.heap.get? b=some o/\H b=none
 bsz:base.objs.size<=s.heap.objs.size
 Tx:s.heap.FunFrames base outer
 frf:∀b∈frs outer,H b=none
 hok:HOk P w H s.heap
 bare:AllBare s.gens
def CE(outer:List Env)(P:yu)(w:yI)(H:Hp)(s:yb)(Q:VK)(u:ya)(s':yb):Prop :=
 ∃v H',s'.os=s.os/\AllBare s'.gens/\Un (frs outer) [] H H' s.heap s'.heap/\HOk P w H' s'.heap/\RelV v u/\Q v H'
def CR(CX:CXT)(outer:List Env)(P:yu)(w:yI)(H:Hp)(s:yb)(Q:VK)(E:XK)(r:Result)(s':yb):Prop :=
 match r with
 |.ok (.ret u)=>CE outer P w H s Q u s'
 |.ok _=>False
 |.error e=>CX outer H s E e s'
structure tw(P:yu)(w:yI)(K:yr)(mg:yg->Option ya)(base:yS)(CX:CXT)(k:Nat)(f:yc)(fd:yf)(ps:List yg)(sp:Sp):Prop where
 len:∀vs H Q E,sp vs H Q E->vs.length=ps.length
 run:∀(A:yF)(outer:List Env)(s:yb)(H:Hp)(args:Args)(us:List ya)(vs:List V)(Q:VK)(E:XK),tW k A->Env0 P w K mg base A outer s H->BindsTo s fd args (ps.zip us)->Vals vs us->sp vs H Q E ->
  codeAny (yz P w) A (.call (.ref f) args) (CR CX outer P w H s Q E) s
section
variable {X:Cx}{U:List (yc×Yw)}{Y:St}{H:Hp}{s s':yb}
def Inv.env0(I:Inv X U Y H s):Env0 X.prog X.w X.K X.mg X.base X.A X.stack s H :=
 ⟨I.ok.frames,I.ok.mod,I.bs,yq I.ok.bsz I.sz,I.stack,I.Te,I.hok,I.bare⟩
def Inv.after{Q:VK}{u:ya}(I:Inv X U Y H s)(h:CE X.stack X.prog X.w H s Q u s'):EP X U Y Q u s':=by
 obtain⟨v,H',os,bare,un,hok,r,q⟩:=h;obtain⟨hh,g,d,t,os'⟩:=s';obtain rfl:os'=s.os:=os;exact⟨v,H',I.call (h':=hh) (g':=g) (d':=d) (t':=t) (ch:=[]) un hok bare (λb z=>absurd z (by simp)),r,q⟩
end
def zws(sp:Sp)(dvs:List V)(E:XK)(t:TA):TE:=λY H Q=>t Y H λvs H1=>sp (vs++dvs) H1 Q E
def Binds(K:yr)(fd:yf)(ps:List yg)(ds:List ya):Prop :=
 ∀(s:yb)(us:List ya),K.In s.heap->(us++ds).length=ps.length->BindsTo s fd ⟨us,[]⟩ (ps.zip (us++ds))
def Binds.all{K:yr}{fd:yf}{ps:List yg}(h:∀us:List ya,us.length=ps.length->bindArgs fd ⟨us,[]⟩=pure (ps.zip us)):Binds K fd ps []:=λs us _ hl=>by
 rw[append_nil]at hl ⊢;exact .of_eq (h us hl)
def zal(CX:CXT)(X:Cx)(E:XK):Prop:=∀(U:List (yc×Yw)) (Y:St) (H:Hp) (s:yb) (e:ya) (s':yb),Inv X U Y H s->CX X.stack H s E e s'->X.xe e s'
section
variable {X:Cx}{CX:CXT}{k:Nat}{f C:yc}{fd:yf}{ps:List yg}{sp:Sp}{dvs:List V}{ds:List ya}{E:XK}{x m:yg}{p pos apos:YD}{e o:yt}{es:List yt}{ta:TE}{t:TA}
def zps{U:List (yc×Yw)}{Y:St}{H:Hp}{s:yb}{Q:VK}{us:List ya}{vs:List V}(F:tw X.prog X.w X.K X.mg X.base CX k f fd ps sp)(hr:tW k X.A)(hb:Binds X.K fd ps ds)(hd:Vals dvs ds)(hx:zal CX X E)
 (I:Inv X U Y H s) (r:Vals vs us) (h:sp (vs++dvs) H Q E):yw (yz X.prog X.w) X.A (call (.ref f) us) (EP X U Y Q) X.xe s:=by
 have r2:Vals (vs++dvs) (us++ds):=r.append hd;have hl:(us++ds).length=ps.length:=by rw[<-r2.length];exact F.len _ _ _ _ h
 refine wpAny_call (codeAny_mono (F.run X.A X.stack s H ⟨us,[]⟩ (us++ds) (vs++dvs) Q E hr I.env0 (hb s us I.kIn hl) r2 h) λr s' hq=>?_)
 cases r with
 |error e=>exact hx U Y H s e s' I hq
 |ok fl=>
  cases fl with
  |ret u=>exact I.after hq
  |next=>exact YN hq
  |brk=>exact YN hq
  |cont=>exact YN hq
def zZl(F:tw X.prog X.w X.K X.mg X.base CX k f fd ps sp)(hr:tW k X.A)(hg:Gl X x)(hm:X.mg x=some (.ref f))(hk:W.keepIn X.K (.ref f)=true)(hb:Binds X.K fd ps ds)(hd:Vals dvs ds)(hx:zal CX X E)
 (ha:PA X (e::es) t) (hdb:(x==("__debug__":yg))=false:=by decide) (he:yj (e::es) X.env=(false,Yi e X.env)::yj es X.env:=by rfl) (hpl:(Ye pos (yj es X.env)).any (·.1)=false:=by rfl) :
 PE X (.Call (.Name x p) (e::es) [] pos) (zws sp dvs E t):=by
 intro U s Y H Q I h;refine wpAny_Call_Name_kw (zqk I hg hm ?_ hdb);refine W.callWith_K (h₀:=X.base) I.ok.mod.kin hk (thn (ha pos U s Y H _ I h) λus s1 ⟨vs,H1,I1,r,q⟩=>⟨I1.kIn,?_⟩) he hpl;exact zps F hr hb hd hx I1 r q
structure Mk(K:yr)(C f:yc):Prop where
 makes:W.makesIn K C=true
 init:xq K (.ref C) "__init__"=some (some (.ref f))
 fn:W.isFn K (.ref f)=true
 kp:W.keepIn K (.ref C)=true
variable {ks:List yg}{kpos:YD}{kws:List xo}{te:TE}{tk:TA}{nm:Option yg}
structure KBinds(K:yr)(fd:yf)(ps ks:List yg)(g:List ya->List ya->List ya)(gV:List V->List V->List V):Prop where
 to:∀(s:yb)(us ws:List ya),K.In s.heap->(g us ws).length=ps.length->BindsTo s fd ⟨us,ks.zip ws⟩ (ps.zip (g us ws))
 rel:∀{vs:List V} {us:List ya} {zs:List V} {ws:List ya},Vals vs us->Vals zs ws->Vals (gV vs zs) (g us ws)
variable {g:List ya->List ya->List ya}{gV:List V->List V->List V}
end
structure tz(N P:List yg)(sc:YZ):Prop where
 kind:sc.kind=.function
 co:sc.isCoroutine=false
 gen:sc.isGenerator=false
 nd:N.Nodup
 pre:N.take P.length=P
 par:∀x∈P,sc.names.lookup x=some .local\/sc.names.lookup x=some .cell
 nofree:∀y∈sc.names,y.2≠.free
def zJk{kindOf:yg->Option YI}{x:yg}:∀{binds:List (yg×ya)} {m:yg->Option ya},(∀v,(x,v)∉binds)->bindL kindOf binds m x=m x
 |[],_,_=>rfl
 |(n,v)::r,m,h=>by
  unfold bindL;rw[zJk λw hw=>h w (mem_cons_of_mem _ hw)]
  split
  ·have:x≠n:=by rintro rfl;exact h v mem_cons_self
   simp[this]
  ·rfl
def zRk{kindOf:yg->Option YI}{x:yg}:∀{binds:List (yg×ya)} {m:yg->Option ya},(∀v,(x,v)∉binds)->bindC kindOf binds m x=m x
 |[],_,_=>rfl
 |(n,v)::r,m,h=>by
  unfold bindC;rw[zRk λw hw=>h w (mem_cons_of_mem _ hw)]
  split
  ·rfl
  ·have:x≠n:=by rintro rfl;exact h v mem_cons_self
   simp[this]
def zGk{kindOf:yg->Option YI}{x:yg}{v:ya}:∀{P:List yg} {vs:List ya} {i:Nat} {m:yg->Option ya},P.Nodup->P[i]?=some x->vs[i]?=some v->kindOf x=some .local ->
 bindL kindOf (P.zip vs) m x=some v
 |[],_,_,_,_,h,_,_=>by simp at h
 |_::_,[],_,_,_,_,h,_=>by simp at h
 |p::P,w::vs,0,m,nd,h1,h2,hk=>by
  simp at h1 h2;subst h1;subst h2;show bindL kindOf ((p,w)::P.zip vs) m p=_;unfold bindL;rw[zJk λv hv=>(List.nodup_cons.mp nd).1 (List.of_mem_zip hv).1,if_pos hk];simp
 |p::P,w::vs,i+1,m,nd,h1,h2,hk=>by
  show bindL kindOf ((p,w)::P.zip vs) m x=_;unfold bindL;exact zGk (i:=i) (List.nodup_cons.mp nd).2 (by simpa using h1) (by simpa using h2) hk
def zil{kindOf:yg->Option YI}{x:yg}{v:ya}:∀{P:List yg} {vs:List ya} {i:Nat} {m:yg->Option ya},P.Nodup->P[i]?=some x->vs[i]?=some v->kindOf x≠some .local ->
 bindC kindOf (P.zip vs) m x=some v
 |[],_,_,_,_,h,_,_=>by simp at h
 |_::_,[],_,_,_,_,h,_=>by simp at h
 |p::P,w::vs,0,m,nd,h1,h2,hk=>by
  simp at h1 h2;subst h1;subst h2;show bindC kindOf ((p,w)::P.zip vs) m p=_;unfold bindC;rw[zRk λv hv=>(List.nodup_cons.mp nd).1 (List.of_mem_zip hv).1,if_neg hk];simp
 |p::P,w::vs,i+1,m,nd,h1,h2,hk=>by
  show bindC kindOf ((p,w)::P.zip vs) m x=_;unfold bindC;exact zil (i:=i) (List.nodup_cons.mp nd).2 (by simpa using h1) (by simpa using h2) hk
def start(N:List yg)(vs:List V):St:=vs.map some++yl (N.length-vs.length) none
def zLn(CX:CXT)(P:yu)(w:yI)(K:yr)(mg:yg->Option ya)(base:yS)(N:List yg)(qual:yg)(scope:YZ)(f:yc)(cd:ya)(A:yF)(outer:List Env)(s:yb)(H:Hp)(E:XK):Cx where
 prog:=P
 w:=w
 K:=K
 mg:=mg
 base:=base
 A:=A.deeper (envOfC qual scope s.heap.objs.size f cd)
 N:=N
 s₀:=s
 H₀:=H
 env:=envOfC qual scope s.heap.objs.size f cd
 outer:=outer
 stack:=envOfC qual scope s.heap.objs.size f cd::outer
 ex:=[]
 calm:=true
 fn:=λ_=>true
 pn:=[]
 xe:=λe s'=>yw (yz P w) (A.deeper (envOfC qual scope s.heap.objs.size f cd)) (leaving (envOfC qual scope s.heap.objs.size f cd) e) (λ_ s''=>CX outer H s E e s'') (λe' s''=>CX outer H s E e' s'') s'
def zom{sc:YZ}{n:Nat}{x:yg}(h:sc.names.lookup x=some .cell):∃c,(yL n sc.names []).lookup x=some c:=by
 have q:=W.cellsFrom_some sc.names n [] (.inl h);exact Option.isSome_iff_exists.mp q
def zgo{CX:CXT}{P:yu}{w:yI}{K:yr}{mg:yg->Option ya}{base:yS}{N ps:List yg}{qual:yg}{scope:YZ}{f:yc}{cd:ya}{A:yF}{outer:List Env}{s s1:yb}{H:Hp}{E:XK}{us:List ya}{vs:List V}
 (S:tz N ps scope) (hd:A.handled=none) (e0:Env0 P w K mg base A outer s H) (hl:vs.length=ps.length) (r:Vals vs us)
 (x:InCallC s s.heap.objs.size (bindL (envOfC qual scope s.heap.objs.size f cd).kindOf (ps.zip us) λ_=>none) (yL (s.heap.objs.size+1) scope.names []) (bindC (envOfC qual scope s.heap.objs.size f cd).kindOf (ps.zip us) λ_=>none) s1) :
 Inv (zLn CX P w K mg base N qual scope f cd A outer s H E) [] (start N vs) H s1:=by
 have hpl:ps.length<=N.length:=by have:=congrArg List.length S.pre;rw[List.length_take]at this;omega
 obtain⟨h1,tk,rfl,hk⟩:=x.done;have noA:∀b:yc,b∉(zLn CX P w K mg base N qual scope f cd A outer s H E).ex:=λb z=>absurd (show b∈([]:List yc) from z) (by simp)
 refine⟨⟨e0.mod,S.kind,rfl,rfl,yo _,λy z c h1 h2=>?_,λy hy=>?_,λy c _ h=>?_,λ_=>hd,Around.frames_deeper e0.frames,.inr ⟨rfl,rfl⟩,λb z=>absurd z (noA b),e0.bs,e0.bsz,λb _ _=>noA b,λb z=>absurd z (noA b),e0.Tx,e0.frf⟩,
  rfl,e0.bare,Un.kept hk,⟨_,x.toInCall.ns,λi y v h1 h2 h3=>?_⟩,λy c h=>⟨_,x.cell y c h⟩,e0.hok.fresh (yo _),λy c h=>?_,λp hp=>absurd (show p∈([]:List (yc×Yw)) from hp) (by simp),e0.hok.kept hk,?_⟩
 ·exact name_of_addr x.apart (yM h1) (yM h2)
 ·have hy:scope.names.lookup y=some .cell\/scope.names.lookup y=some .free:=hy;rcases hy with hy|hy
  ·exact zom hy
  ·exact absurd rfl (S.nofree _ (yM hy))
 ·exact YO (x.above y c (yM h))
 ·have hi:i<vs.length:=by
   unfold start at h2
   by_cases hi:i<vs.length
   ·exact hi
   ·rw[yA (by simpa using hi)]at h2;rw[xf]at h2
    split at h2<;>cases h2
  have ha:vs[i]?=some v:=by
   unfold start at h2;rw[yE (by simpa using hi),yO]at h2
   cases e:vs[i]? with
   |none=>rw[e]at h2;cases h2
   |some a=>rw[e]at h2;cases h2;rfl
  obtain⟨u,hu,rv⟩:=r.get ha
  have hp:ps[i]?=some y:=by
   rw[<-S.pre,List.getElem?_take_of_lt (by omega)];exact h1
  have ndP:ps.Nodup:=by rw[<-S.pre];exact S.nd.sublist (List.take_sublist _ _)
  refine⟨u,rv,?_⟩;rcases S.par y (mem_of_getElem? hp) with k|k
  ·exact .inl ⟨k,zGk ndP hp hu k⟩
  ·obtain⟨c,e⟩:=zom (n:=s.heap.objs.size+1) k;refine .inr ⟨.inl k,c,e,?_⟩;have q:=x.cell y c e;rw[zil ndP hp hu (by show scope.names.lookup y≠_;rw[k];decide)]at q;exact q
 ·exact e0.hok.fresh (YO (x.above y c (yM h)))
 ·unfold start;show _=N.length;rw[length_append,length_map,length_replicate];omega
def zxs{CX:CXT}{P:yu}{w:yI}{K:yr}{mg:yg->Option ya}{base:yS}{k:Nat}{f:yc}{name qual:yg}{params:Arguments}{body:List yQ}{scope:YZ}{dV kV doc pm cdv ct oc:ya}{an od:Option yc}
 {osl:Array (Option ya)} {N ps:List yg} {sp:Sp} (lk:K.lookup f=some ⟨oc,od,.func (W.fnOf name qual params body scope dV kV doc pm an cdv ct),osl⟩) (hcd:W.codeIn K cdv qual=true) (S:tz N ps scope)
 (len:∀vs H Q E,sp vs H Q E->vs.length=ps.length)
 (hbody:∀(A:yF)(outer:List Env)(s:yb)(H:Hp)(vs:List V)(Q:VK)(E:XK),tW k (A.deeper (envOfC qual scope s.heap.objs.size f cdv))->sp vs H Q E ->
  ∃t,PSs (zLn CX P w K mg base N qual scope f cdv A outer s H E) body t/\t {nx:=λ_ H'=>Q .non H',rt:=Q } (start N vs) H) :
 tw P w K mg base CX (k+1) f (W.fnOf name qual params body scope dV kV doc pm an cdv ct) ps sp:=by
 refine⟨len,λA outer s H args us vs Q E hr e0 hb r hsp=>?_⟩;have hl:=len _ _ _ _ hsp;have KX:K.In s.heap:=e0.mod.kin.keeps λb o e=>(e0.bs b o e).1;have lim:s.heap.NoLimit:=e0.mod.nolimit.keeps λb o e=>(e0.bs b o e).1
 have hkind:∀y∈ps.zip us,scope.names.lookup y.1=some .local\/(scope.names.lookup y.1=some .cell/\((yL (s.heap.objs.size+1) scope.names []).lookup y.1).isSome=true):=λ⟨n,v⟩ hy=>by
  rcases S.par n (List.of_mem_zip hy).1 with q|q
  ·exact .inl q
  ·exact .inr ⟨q,W.cellsFrom_some _ _ _ (.inl q)⟩
 refine codeAny_call_function hr.depth (KX _ _ lk) rfl S.co S.gen rfl (W.codeRec_of KX hcd) (hb _ _ _ _ ?_);refine wpAny_newFunctionEnv_cells S.kind hkind λenv he s1 x=>?_;subst he;refine⟨lim.keeps x.toInCall.keep,codeAny_func ?_⟩;obtain⟨t,ht,hq⟩:=hbody A outer s H vs Q E (hr.deeper _) hsp;have I:Inv (zLn CX P w K mg base N qual scope f cdv A outer s H E) [] (start N vs) H s1:=zgo S hr.hd e0 hl r x;refine yX (ht [] s1 (start N vs) H _ I hq) (λfl s' hs=>?_) λe s' hs=>hs
 have fin:∀{Y':St} {H':Hp} {v:V} {u:ya},Inv (zLn CX P w K mg base N qual scope f cdv A outer s H E) [] Y' H' s'->RelV v u->Q v H'->CE outer P w H s Q u s' :=
  λ{Y' H' v u} δ rv q=>⟨v,H',δ.os,δ.bare,δ.base,δ.hok,rv,q⟩
 cases fl with
 |ret u=>
  obtain⟨v,Y',H',δ,rv,q⟩:=hs;exact fin δ rv q
 |next=>
  obtain⟨Y',H',δ,q⟩:=hs;exact fin (v:=V.non) (u:=Yk) δ rfl q
 |brk=>
  obtain⟨_,_,_,q⟩:=hs;exact YN q
 |cont=>
  obtain⟨_,_,_,q⟩:=hs;exact YN q
section
variable {X:Cx}{x:yg}{p pos:YD}{e:yt}{es:List yt}{t:TA}{id T:String}{r:List V->Hp->VK->Prop}
def tCB(r:List V->Hp->VK->Prop)(t:TA):TE:=λY H Q=>t Y H λvs H1=>r vs H1 Q
def zwp(hc:z1l X (.builtin id) r)(hg:Gl X x)(hm:X.mg x=none)(hv:yW x=some (.builtin id))(ha:PA X (e::es) t)(hn:x≠"__name__":=by decide)(hdb:(x==("__debug__":yg))=false:=by decide)
 (he:yj (e::es) X.env=(false,Yi e X.env)::yj es X.env:=by rfl) (hpl:(Ye pos (yj es X.env)).any (·.1)=false:=by rfl):PE X (.Call (.Name x p) (e::es) [] pos) (tCB r t):=by
 intro U s Y H Q I h;refine wpAny_Call_Name_kw (zGm I hg hm hv ?_ hn hdb);exact PyProof.Rows.callWith_builtin1 (thn (ha pos U s Y H _ I h) λus s1 ⟨vs,H1,I1,r1,q1⟩=>hc U s1 Y H1 vs us Q I1 r1 q1) he hpl
def zIk(hc:z1l X (.type T) r)(hg:Gl X x)(hm:X.mg x=none)(hv:yW x=some (.type T))(ha:PA X (e::es) t)(hn:x≠"__name__":=by decide)(hdb:(x==("__debug__":yg))=false:=by decide)
 (he:yj (e::es) X.env=(false,Yi e X.env)::yj es X.env:=by rfl) (hpl:(Ye pos (yj es X.env)).any (·.1)=false:=by rfl):PE X (.Call (.Name x p) (e::es) [] pos) (tCB r t):=by
 intro U s Y H Q I h;refine wpAny_Call_Name_kw (zGm I hg hm hv ?_ hn hdb);exact PyProof.Rows.callWith_type1 (thn (ha pos U s Y H _ I h) λus s1 ⟨vs,H1,I1,r1,q1⟩=>hc U s1 Y H1 vs us Q I1 r1 q1) he hpl
end
end L2
namespace HT
open PySem PyProof.Rows
section
open PySem.SeqAt
open PySem.AutoSeq1 (wpAny_loadPart')
open PySem.MeetsSeq PySem.MeetsSeq2 PySem.MeetsSeq3
end
section
variable {prog:yu}{w:yI}{A:yF}{E:ya->yb->Prop}{s:yb}
def cat_tup{t b:yc}{vs ws:List ya}{Q:ya->yb->Prop}(ht:IsTup s.heap t vs.toArray)(hb:IsTup s.heap b ws.toArray)(hv:vs≠[])
 (h1:ws=[]->Q (.ref t) s) (h2:ws≠[]->Q (.ref s.heap.objs.size) {s with heap:=s.heap.push {cls:=.type "tuple",data:=.seq (vs++ws).toArray }})
 (hsz:vs.length+ws.length<=yB):yw (yz prog w) A (Yz .Add (.ref t) (.ref b)) Q E s:=by
 obtain⟨⟨cls,dd,data,sl⟩,ho,hc,n,hd⟩:=id ht;obtain⟨⟨cls2,dd2,data2,sl2⟩,ho2,hc2,n2,hd2⟩:=id hb;simp only at hc hd hc2 hd2;subst hc hd hc2 hd2;have e:vs.toArray++ws.toArray=(vs++ws).toArray:=by simp
 by_cases hw:ws=[]
 ·exact concat_meets ⟨_,ho,rfl⟩ ⟨_,ho2,rfl⟩ noFill_tuple_add seq_tuple_add PySem.F.slot_tuple_add PySem.F.entry_tuple_add (PySem.F.args_tuple_add_2 _ _)
   (tuple_addW1 t b vs.toArray ws.toArray n n2 dd dd2 sl sl2 (by simpa using hv) (by simp[hw])) ⟨ho,ho2,h1 hw⟩
 ·refine concat_meets ⟨_,ho,rfl⟩ ⟨_,ho2,rfl⟩ noFill_tuple_add seq_tuple_add PySem.F.slot_tuple_add PySem.F.entry_tuple_add (PySem.F.args_tuple_add_2 _ _)
   (tuple_addW2 t b vs.toArray ws.toArray n n2 dd dd2 sl sl2 (by simpa using hv) (by simpa using hw) (by rw[size_toArray,size_toArray];exact hsz)) ⟨ho,ho2,?_⟩
  rw[e];exact h2 hw
def sIx(n d:Nat):Option Int->Nat
 |none=>d
 |some v=>if v<0 then(v+(n:Int)).toNat else min v.toNat n
def sY(n d:Nat):sIx n d none=d:=rfl
def sIx_nat(n d k:Nat):sIx n d (some (k:Int))=min k n:=by
 show(if(k:Int)<0 then((k:Int)+(n:Int)).toNat else min (k:Int).toNat n)=min k n;rw[if_neg (by omega),Int.toNat_natCast]
def zLs(n d:Nat)(hd:d<=n)(o:Option Int):sIx n d o<=n:=by
 cases o with
 |none=>exact hd
 |some v=>
  show(if v<0 then(v+(n:Int)).toNat else min v.toNat n)<=n
  by_cases hv:v<0
  ·rw[if_pos hv];omega
  ·rw[if_neg hv];exact Nat.min_le_right _ _
def zJo(v:Int)(n d:Nat):(if v<0 then max (v+(n:Int)) 0 else min v (n:Int))=((sIx n d (some v):Nat):Int):=by
 show(if v<0 then max (v+(n:Int)) 0 else min v (n:Int))=(((if v<0 then(v+(n:Int)).toNat else min v.toNat n):Nat):Int)
 by_cases hv:v<0
 ·simp only[if_pos hv];omega
 ·simp only[if_neg hv];omega
def z5m(lo hi:Option Int)(n:Nat):Builtin.Slice.sliceAdjust lo hi 1 (n:Int)=(((sIx n 0 lo:Nat):Int),((sIx n n hi:Nat):Int)):=by
 have h1:¬((1:Int)<0):=by omega
 unfold Builtin.Slice.sliceAdjust;simp only[h1,if_false];refine Prod.ext ?_ ?_
 ·cases lo with
  |none=>rfl
  |some v=>exact zJo v n 0
 ·cases hi with
  |none=>rfl
  |some v=>exact zJo v n n
def zfn(i j:Nat):YU (i:Int) (j:Int) 1=j-i:=by
 unfold YU;have h1:(1:Int)>0:=by omega
 simp only[h1,if_true,Int.ediv_one]
 split<;>omega
def z7i{v:ya}{o:Option Int}{Q:Option Int->yb->Prop}(p:IsPart v o)(h:Q o s):yw (yz prog w) A (Builtin.Slice.slicePartIndex v) Q E s:=by
 cases p with
 |none=>exact slicePart_none h
 |int i t=>exact slicePart_int h
def Th{sl:yc}{vl vu:ya}{lo hi:Option Int}{n:Nat}{Q:Int×Int×Nat->yb->Prop}(hs:s.heap.IsSliceOf sl vl vu .none)(pl:IsPart vl lo)(pu:IsPart vu hi)
 (h:Q (((sIx n 0 lo:Nat):Int),1,sIx n n hi-sIx n 0 lo) s):yw (yz prog w) A (Builtin.Slice.sliceApplied (.ref sl) (pure (n:Int))) Q E s:=by
 obtain⟨os,hos,hcs,hds⟩:=id hs;unfold Builtin.Slice.sliceApplied Builtin.Slice.sliceFields;refine yh (yh (YX hos hds (x:=vl) rfl (yh (YX hos hds (x:=vu) rfl (yh (YX hos hds (x:=.none) rfl (yy ?_)))))));refine yh (slicePart_none ?_);show yw _ _ (if((1:Int)==0)=true then _ else _) _ _ s;rw[if_neg (by decide)];refine yh (z7i pl (yh (z7i pu (yh (yy ?_)))));show yw _ _ (match Builtin.Slice.sliceAdjust lo hi 1 (n:Int) with|(lo,hi)=>pure (lo,(1:Int),YU lo hi 1)) _ _ s;rw[z5m lo hi n];show yw _ _ (pure (((sIx n 0 lo:Nat):Int),(1:Int),YU ((sIx n 0 lo:Nat):Int) ((sIx n n hi:Nat):Int) 1)) _ _ s;rw[zfn];exact yy h
def zup(xs:Array ya)(i k:Nat):((Yp k).filterMap λ(m:Nat)=>xs[((i:Int)+(m:Int)*1).toNat]?).toArray=((xs.toList.drop i).take k).toArray:=by
 have e:(λ(m:Nat)=>xs[((i:Int)+(m:Int)*1).toNat]?)=λm=>xs[i+m]?:=by
  funext m
  have:((i:Int)+(m:Int)*1).toNat=i+m:=by omega
  rw[this]
 rw[e];have:=pick_run xs i k;rw[List.filterMap_map]at this;have e2:((λx=>xs[x]?)∘λx=>i+x)=λm=>xs[i+m]?:=rfl;rw[e2]at this;rw[this]
def Tv{t sl:yc}{items:Array ya}{vl vu:ya}{lo hi:Option Int}{Q:ya->yb->Prop}(ht:IsTup s.heap t items)(hs:s.heap.IsSliceOf sl vl vu .none)(pl:IsPart vl lo)(pu:IsPart vu hi)
 (hw:¬(sIx items.size 0 lo=0/\sIx items.size items.size hi=items.size))
 (h:Q (.ref s.heap.objs.size) {s with heap:=s.heap.push {cls:=.type "tuple",data:=.seq ((items.toList.drop (sIx items.size 0 lo)).take (sIx items.size items.size hi-sIx items.size 0 lo)).toArray }})
 (hsz:items.size<=yB):yw (yz prog w) A (getItem (.ref t) (.ref sl)) Q E s:=by
 have htake:sizeOk (.seq ((items.toList.drop (sIx items.size 0 lo)).take (sIx items.size items.size hi-sIx items.size 0 lo)).toArray):=by
  show((items.toList.drop (sIx items.size 0 lo)).take (sIx items.size items.size hi-sIx items.size 0 lo)).toArray.size<=yB;rw[size_toArray,List.length_take,length_drop,Array.length_toList];omega
 have hj:sIx items.size items.size hi<=items.size:=zLs _ _ (yo _) hi;obtain⟨os,hos,hcs,hds⟩:=id hs;have hTs:s.TypeIs (.ref sl) "slice":=⟨os,hos,hcs⟩
 unfold getItem
 try with_reducible refine YE ?_
 first|refine yh (yy ?_)|skip
 refine yh (wpAny_sequenceKey ht.typeIs (by decide) ?_)
 refine yh (wpAny_callSpecial?_slot (name:=Str.ofString "__getitem__") ht.typeIs Yx
  (wpAny_call_entry Yx ht.typeIs entry_tuple_getitem ?_ (args_tuple_getitem _ _)))
 show yw _ _ (Builtin.Tuple.tupleItemsOf (.ref t) >>= _) _ _ s;refine yh (tupleItemsOf_ ht ?_);refine yh (wpAny_typeOf hTs ?_);rw[if_pos (by decide)];refine yh (Th hs pl pu ?_)
 have hno:¬((((sIx items.size 0 lo:Nat):Int)==0&&(1:Int)==1&&(sIx items.size items.size hi-sIx items.size 0 lo)==items.size)=true):=by
  intro q;rw[yN,yN]at q;have q1:((sIx items.size 0 lo:Nat):Int)=0:=eq_of_beq q.1.1;have q2:sIx items.size items.size hi-sIx items.size 0 lo=items.size:=eq_of_beq q.2;exact hw ⟨by omega,by omega⟩
 show yw _ _ (if(((sIx items.size 0 lo:Nat):Int)==0&&(1:Int)==1&&(sIx items.size items.size hi-sIx items.size 0 lo)==items.size)=true then _ else _) _ _ s;rw[if_neg hno,zup]
 first
  |exact yh (m:=YG _) (Yq (yy ⟨_,rfl,yy h⟩) htake)
  |exact yh (m:=YG _) (Yq (yh (yy (yy ⟨_,rfl,yy h⟩))) htake)
  |exact yh (yh (m:=YG _) (Yq (yy (yy ⟨_,rfl,yy h⟩)) htake))
  |exact yh (yh (m:=YG _) (Yq (yy ⟨_,rfl,yy h⟩) htake))
end
end HT
namespace L2
open PySem PySem.Spec PyProof.Rows
abbrev TO:=St->Hp->(Option Int->Hp->Prop)->Prop
def PO(X:Cx)(e:Option yt)(t:TO):Prop :=
 ∀(U:List (yc×Yw)) (s:yb) (Y:St) (H:Hp) (Q:Option Int->Hp->Prop),Inv X U Y H s->t Y H Q ->
  yw (yz X.prog X.w) X.A (evalPart e X.env) (λu s'=>∃o H',Inv X U Y H' s'/\IsPart u o/\Q o H') X.xe s
def z4q:TO:=λ_ H Q=>Q none H
def zYt(t:TE):TO:=λY H Q=>t Y H λx H1=>∃i,x=.int i/\Q (some i) H1
section
variable {X:Cx}{e:yt}{te:TE}{lo hi:Option yt}{tl th:TO}{pos p2:YD}
def zJr:PO X none z4q:=by
 intro U s Y H Q I h;rw[evalPart_none];exact yy ⟨none,H,I,.none,h⟩
def zrr(h:PE X e te):PO X (some e) (zYt te):=by
 intro U s Y H Q I hw;rw[evalPart_some];refine thn (h U s Y H _ I hw) λu s1 ⟨x,H1,I1,r1,q1⟩=>?_;obtain⟨i,rfl,q⟩:=q1;obtain⟨t,rfl⟩:=r1;exact⟨some i,H1,I1,.int i t,q⟩
def SlR(X:Cx)(r:V->Option Int->Option Int->Hp->VK->Prop):Prop :=
 ∀(U:List (yc×Yw)) (s:yb) (Y:St) (H:Hp) (x:V) (v vl vu:ya) (lo hi:Option Int) (sl:yc) (Q:VK),Inv X U Y H s->RelV x v->s.heap.IsSliceOf sl vl vu .none->IsPart vl lo->IsPart vu hi->r x lo hi H Q ->
  ∃T id,typeLookup (.type T) "__getitem__"=pure (some (.builtin id))/\s.TypeIs v T/\yw (yz X.prog X.w) X.A (getItem v (.ref sl)) (EP X U Y Q) X.xe s
def SlR.or{r r':V->Option Int->Option Int->Hp->VK->Prop}(h:SlR X r)(h':SlR X r'):SlR X (λx lo hi H Q=>r x lo hi H Q\/r' x lo hi H Q):=by
 intro U s Y H x v vl vu lo hi sl Q I rx hs pl pu q;rcases q with q|q
 ·exact h U s Y H x v vl vu lo hi sl Q I rx hs pl pu q
 ·exact h' U s Y H x v vl vu lo hi sl Q I rx hs pl pu q
def tSl(r:V->Option Int->Option Int->Hp->VK->Prop)(te:TE)(tl th:TO):TE:=λY H Q=>te Y H λx H1=>tl Y H1 λl H2=>th Y H2 λu H3=>r x l u H3 Q
def zem{r:V->Option Int->Option Int->Hp->VK->Prop}(hr:SlR X r)(he:PE X e te)(hl:PO X lo tl)(hu:PO X hi th):PE X (.Subscript e (.Slice lo hi none p2) pos) (tSl r te tl th):=by
 intro U s Y H Q I h;refine Subscript_ (thn (he U s Y H _ I h) λv s1 ⟨x,H1,I1,r1,q1⟩=>?_);refine wpAny_Slice (thn (hl U s1 Y H1 _ I1 q1) λvl s2 ⟨l,H2,I2,pl,q2⟩=>thn (hu U s2 Y H2 _ I2 q2) λvu s3 ⟨u,H3,I3,pu,q3⟩=>?_);rw[evalPart_none];refine yy ?_;have I4:Inv X U Y H3 {s3 with heap:=s3.heap.push {cls:=.type "slice",data:=.fields #[vl,vu,.none]}}:=I3.kept (t':=s3.toks) λb ob q=>yk _ q;obtain⟨T,id,hT,ht,hg⟩:=hr U {s3 with heap:=s3.heap.push {cls:=.type "slice",data:=.fields #[vl,vu,.none]}} Y H3 x v vl vu l u s3.heap.objs.size Q I4 r1 (Heap.IsSliceOf.new ..) pl pu q3;show yw (yz X.prog X.w) X.A (subscriptTail e (.Slice lo hi none p2) v (.ref s3.heap.objs.size)) (EP X U Y Q) X.xe {s3 with heap:=s3.heap.push {cls:=.type "slice",data:=.fields #[vl,vu,.none]}};exact tail_any (ops:=[.ref s3.heap.objs.size,v]) ht hT hg (by with_unfolding_all rfl)
def zCn(xs:List V)(lo hi:Option Int):List V:=(xs.drop (HT.sIx xs.length 0 lo)).take (HT.sIx xs.length xs.length hi-HT.sIx xs.length 0 lo)
def zwi(xs:List V)(lo hi:Option Int):(zCn xs lo hi).length<=xs.length:=by
 unfold zCn;rw[List.length_take,length_drop];omega
def zjv(K:yr):V->Option Int->Option Int->Hp->VK->Prop:=λx lo hi H Q=>∃a xs,x=.ref a/\SqT K H a xs /\
 ¬(HT.sIx xs.length 0 lo=0/\HT.sIx xs.length xs.length hi=xs.length)/\∀p,H p=none->Q (.ref p) (upd H p (.tup (zCn xs lo hi)))
def zet:SlR X (zjv X.K):=by
 intro U s Y H x v vl vu lo hi sl Q I rx hs pl pu h;obtain⟨a,xs,rfl,hx,hw,q⟩:=h;cases rx;obtain⟨its,r,ht,hz⟩:=I.tuple hx;have hlen:its.toArray.size=xs.length:=by rw[size_toArray];exact r.length.symm
 refine⟨"tuple",_,PyProof.Rows.slot_tuple_getitem.lookup,ht.typeIs,?_⟩;refine HT.Tv ht hs pl pu (by rw[hlen];exact hw) ?_ (by rw[hlen];exact hz);rw[hlen];refine⟨.ref s.heap.objs.size,_,I.laid (t':=s.toks) (o:=.tup (zCn xs lo hi)) (λb ob q=>yk _ q) (yo _) ?_,rfl,q _ (I.hok.fresh (yo _))⟩;exact⟨yq (zwi xs lo hi) hz,_,(r.drop (HT.sIx xs.length 0 lo)).take (HT.sIx xs.length xs.length hi-HT.sIx xs.length 0 lo),IsTup.new _ _⟩
def zzu(K:yr):R2:=λx y H Q=>∃a b xs ys,x=.ref a/\y=.ref b/\SqT K H a xs/\SqT K H b ys/\xs≠[]/\xs.length+ys.length<=yB /\
 (ys=[]->Q (.ref a) H)/\(ys≠[]->∀p,H p=none->Q (.ref p) (upd H p (.tup (xs++ys))))
def Vals.TL{xs:List V}{us:List ya}(r:Vals xs us):us=[]↔xs=[]:=by
 cases r with
 |nil=>simp
 |cons _ _=>simp
def z6q:OpR X (Yz .Add) (zzu X.K):=by
 intro U s Y H x y v u Q I rx ry h;obtain⟨a,b,xs,ys,rfl,rfl,ha,hb,hx,hz,q1,q2⟩:=h;cases rx;cases ry;obtain⟨its,r1,p1,_⟩:=I.tuple ha;obtain⟨its2,r2,p2,_⟩:=I.tuple hb;refine HT.cat_tup p1 p2 (λz=>hx (r1.TL.mp z)) (λz=>⟨.ref a,H,I,rfl,q1 (r2.TL.mp z)⟩) (λz=>?_) (by rw[<-r1.length,<-r2.length];exact hz);refine⟨.ref s.heap.objs.size,_,I.laid (t':=s.toks) (o:=.tup (xs++ys)) (λb ob q=>yk _ q) (yo _) ?_,rfl,q2 (λw=>z (r2.TL.mpr w)) _ (I.hok.fresh (yo _))⟩;exact⟨by rw[length_append];exact hz,_,r1.append r2,IsTup.new _ _⟩
end
def ixN(n:Nat)(i:Int):Option Nat:=if 0<=i then(if i<n then some i.toNat else none) else if -(n:Int)<=i then some (i+n).toNat else none
def atI{α:Type}(xs:List α)(i:Int):Option α:=(ixN xs.length i).bind λj=>xs[j]?
def zio{n:Nat}{i:Int}{j:Nat}(h:ixN n i=some j):seqIndex? i n=some j/\j<n/\-(n:Int)<=i/\i<n:=by
 unfold ixN at h
 by_cases h0:0<=i
 ·rw[if_pos h0]at h
  by_cases h1:i<n
  ·rw[if_pos h1]at h;have e:i.toNat=j:=yU h;exact⟨by rw[seqIndex_of h0 h1,e],by omega,by omega,h1⟩
  ·rw[if_neg h1]at h;cases h
 ·rw[if_neg h0]at h
  by_cases h1:-(n:Int)<=i
  ·rw[if_pos h1]at h;have e:(i+n).toNat=j:=yU h;exact⟨by rw[seqIndex_neg (by omega) h1,e],by omega,h1,by omega⟩
  ·rw[if_neg h1]at h;cases h
def z2l{α:Type}{xs:List α}{i:Int}{v:α}(h:atI xs i=some v):∃j,seqIndex? i xs.length=some j/\xs[j]?=some v/\j<xs.length/\-(xs.length:Int)<=i/\i<xs.length:=by
 unfold atI at h
 cases e:ixN xs.length i with
 |none=>rw[e]at h;cases h
 |some j=>
  rw[e]at h;obtain⟨h1,h2,h3,h4⟩:=zio e;exact⟨j,h1,h,h2,h3,h4⟩
def z9g{α:Type}{xs:List α}{j:Nat}{v:α}(h:xs[j]?=some v):atI xs (j:Int)=some v:=by
 have hj:j<xs.length:=(List.getElem?_eq_some_iff.mp h).1
 have e:ixN xs.length (j:Int)=some j:=by
  unfold ixN;rw[if_pos (by omega),if_pos (by omega)];simp
 unfold atI;rw[e];exact h
def zzl(b:yt):Prop:=∀o i,subscripted b false o i=operate [o,i] (getItem o i)
def IxR(X:Cx)(r:R2):Prop :=
 ∀(value slice:yt)(U:List (yc×Yw)) (s:yb) (Y:St) (H:Hp) (x y:V) (v u:ya) (Q:VK),Inv X U Y H s->RelV x v->RelV y u->r x y H Q ->
  subscripted slice false v u=operate [v,u] (getItem v u)->yw (yz X.prog X.w) X.A (subscriptTail value slice v u) (EP X U Y Q) X.xe s
def MtR(X:Cx)(id:String)(r:V->List V->Hp->VK->Prop):Prop :=
 ∀(U:List (yc×Yw)) (s:yb) (Y:St) (H:Hp) (x:V) (xs:List V) (v:ya) (us:List ya) (Q:VK),Inv X U Y H s->RelV x v->Vals xs us->r x xs H Q ->
  yw (yz X.prog X.w) X.A (call (.builtin id) (v::us)) (EP X U Y Q) X.xe s
section
variable {X:Cx}{a b:yt}{ta tb:TE}{pos:YD}
def IxR.or{r r':R2}(h:IxR X r)(h':IxR X r'):IxR X (λx y H Q=>r x y H Q\/r' x y H Q):=by
 intro value slice U s Y H x y v u Q I rx ry q hs;rcases q with q|q
 ·exact h value slice U s Y H x y v u Q I rx ry q hs
 ·exact h' value slice U s Y H x y v u Q I rx ry q hs
def zkt{r:R2}(hr:IxR X r)(ha:PE X a ta)(hb:PE X b tb)(hs:zzl b):PE X (.Subscript a b pos) (tOp r ta tb):=by
 intro U s Y H Q I h;exact Subscript_ (binT ha hb I h λv u s2 x y H2 I2 rx ry q=>hr a b U s2 Y H2 x y v u Q I2 rx ry q (hs _ _))
def zQu(K:yr):R2:=λx y H Q=>∃p xs i v,x=.ref p/\y=.int i/\SqL K H p xs/\atI xs i=some v/\Q v H
def z0u(K:yr):R2:=λx y H Q=>∃p xs i v,x=.ref p/\y=.int i/\SqT K H p xs/\atI xs i=some v/\Q v H
def zZu:R2:=λx y H Q=>∃z i c,x=.str z/\y=.int i/\z.length<=yB/\atI z.cps.toList i=some c/\Q (.str ⟨#[c]⟩) H
def ix_list:IxR X (zQu X.K):=by
 intro value slice U s Y H x y v u Q I rx ry h hs;obtain⟨p,xs,i,z,rfl,rfl,hq,he,q⟩:=h;cases rx;obtain⟨t,rfl⟩:=ry;obtain⟨its,r,pl,hz⟩:=I.list hq;obtain⟨j,h1,h2,h3,h4,h5⟩:=z2l he;obtain⟨w,ew,rw'⟩:=r.get h2;have hl:=r.length;have hn:=Tz;have fin:EP X U Y Q w s:=⟨z,H,I,rw',q⟩
 by_cases h0:0<=i
 ·have hj:i.toNat=j:=by
   rw[seqIndex_of h0 h5]at h1;exact yU h1
  exact item_listR pl.isList h0 (by omega) (by rw[hj];simpa using ew) fin hs
 ·have hj:(i+(its.toArray.size:Int)).toNat=j:=by
   rw[seqIndex_neg (by omega) h4]at h1;rw[size_toArray,<-hl];exact yU h1
  exact subscriptTail_builtinR (x:=w) pl.isList.typeIs slot_list_getitem.lookup
   (wpAny_getItem_list_neg (Q:=λr s'=>r=w/\EP X U Y Q r s') pl.isList (by omega) (by rw[size_toArray]<;>omega) (by omega) (by rw[hj];simpa using ew) ⟨rfl,fin⟩) hs
def ix_tup:IxR X (z0u X.K):=by
 intro value slice U s Y H x y v u Q I rx ry h hs;obtain⟨p,xs,i,z,rfl,rfl,hq,he,q⟩:=h;cases rx;obtain⟨t,rfl⟩:=ry;obtain⟨its,r,pl,hz⟩:=I.tuple hq;obtain⟨j,h1,h2,h3,h4,h5⟩:=z2l he;obtain⟨w,ew,rw'⟩:=r.get h2;have hl:=r.length;have hn:=Tz;have fin:EP X U Y Q w s:=⟨z,H,I,rw',q⟩
 exact subscriptTail_builtinR (x:=w) pl.typeIs slot_tuple_getitem.lookup
  (getItem_tuple (j:=j) (Q:=λr s'=>r=w/\EP X U Y Q r s') pl (by omega) (by omega) (by rw[size_toArray,<-hl];exact h1) (by simpa using ew) ⟨rfl,fin⟩) hs
def zzq:IxR X zZu:=by
 intro value slice U s Y H x y v u Q I rx ry h hs;obtain⟨z,i,c,rfl,rfl,hz,he,q⟩:=h;obtain⟨t,rfl⟩:=rx;obtain⟨t',rfl⟩:=ry;obtain⟨j,h1,h2,h3,h4,h5⟩:=z2l he;have hl:z.cps.toList.length=z.length:=by simp[Str.length]
 rw[hl]at h1 h4 h5;have hn:=Tz
 exact tail_any (typeIs_str s z t) slot_str_getitem.lookup (getItem_str (c:=c) (by
  have e1:decide (i < -(2^63:Int))=false:=decide_eq_false (by omega);have e2:decide (i≥2^63)=false:=decide_eq_false (by omega);rw[e1,e2,Bool.or_false]) (by rw[h1];simpa using h2) ⟨.str ⟨#[c]⟩,H,I.tok _,⟨_,rfl⟩,q⟩) hs
def rIx(K:yr):R2:=λx y H Q=>zQu K x y H Q\/z0u K x y H Q\/zZu x y H Q
def zfq:IxR X (rIx X.K):=ix_list.or (ix_tup.or zzq)
def z0m(its:List ya)(n j:Nat)(u:ya):Obj.mapSeq (·.setIfInBounds j u) {cls:=.type "list",data:=.seq its.toArray n } = {cls:=.type "list",data:=.seq (its.set j u).toArray n }:=by
 simp[Obj.mapSeq]
def Inv.lst{U:List (yc×Yw)}{Y:St}{H:Hp}{s:yb}{p:yc}{xs:List V}(I:Inv X U Y H s)(h:H p=some (.lst xs)) :
 ∃(its:List ya)(n:Nat),Vals xs its/\s.heap.get? p=some {cls:=.type "list",data:=.seq its.toArray n }/\xs.length<=yB:=by
 obtain⟨z,its,n,r,e⟩:=I.hok p _ h;exact⟨its,n,r,e,z⟩
def Inv.lstUpd{U:List (yc×Yw)}{Y:St}{H:Hp}{s:yb}{p:yc}{xs ys:List V}{its its':List ya}{n n':Nat}{f:Yw->Yw}(I:Inv X U Y H s)(h:H p=some (.lst xs))
 (ho:s.heap.get? p=some {cls:=.type "list",data:=.seq its.toArray n }) (hf:f {cls:=.type "list",data:=.seq its.toArray n } = {cls:=.type "list",data:=.seq its'.toArray n' }) (r:Vals ys its') (hz:ys.length<=yB) (t:Nat) :
 Inv X U Y (upd H p (.lst ys)) {s with heap:=s.heap.update p f,toks:=t }:=by
 have e:(s.heap.update p f).get? p=some {cls:=.type "list",data:=.seq its'.toArray n' }:=by
  rw[Yl f ho (by rw[hf]<;>rfl),hf]
 refine I.write (x:=p) (e:=p) (by rw[h];trivial) (.inl rfl) (λb u hb q=>(yP _ _ (Yg hb)).trans q) ⟨_,e⟩ ?_;exact⟨hz,its',n',r,e⟩
def zpu:V->V->V->Hp->(Hp->Prop)->Prop:=λo i v H Q=>∃p xs k j,o=.ref p/\i=.int k/\H p=some (.lst xs)/\ixN xs.length k=some j/\Q (upd H p (.lst (xs.set j v)))
def zhp:zUu X zpu:=by
 intro U s Y H o i v ov iv u Q I ro ri rv h;obtain⟨p,xs,k,j,rfl,rfl,hp,hj,q⟩:=h;cases ro;obtain⟨t,rfl⟩:=ri;obtain⟨its,n,r,ho,hz⟩:=I.lst hp;obtain⟨h1,h2,h3,h4⟩:=zio hj;have hl:=r.length;have hn:=Tz
 have I':Inv X U Y (upd H p (.lst (xs.set j v))) {s with heap:=s.heap.update p (Obj.mapSeq (·.setIfInBounds j u))} :=
  I.lstUpd hp ho (z0m its n j u) (r.set rv j) (by rw[List.length_set];exact hz) s.toks
 by_cases h0:0<=k
 ·have hk:k.toNat=j:=by
   rw[seqIndex_of h0 h4]at h1;exact yU h1
  exact W.ki_setAt ho h0 (by omega) (by rw[size_toArray,<-hl];exact h4) (by rw[hk];exact⟨_,I',q⟩)
 ·have hk:(k+(its.toArray.size:Int)).toNat=j:=by
   rw[seqIndex_neg (by omega) h3]at h1;rw[size_toArray,<-hl];exact yU h1
  exact W.ki_setBack ho (by omega) (by rw[size_toArray,<-hl];exact h3) (by omega) (by rw[hk];exact⟨_,I',q⟩)
def zdl(lo hi:Option Int)(n:Nat):(sliceBounds lo hi none n).1=((HT.sIx n 0 lo:Nat):Int)/\(sliceBounds lo hi none n).2.1=((HT.sIx n n hi:Nat):Int)/\(sliceBounds lo hi none n).2.2=1:=by
 refine⟨?_,?_,rfl⟩
 ·cases lo with
  |none=>simp[sliceBounds,HT.sIx]
  |some i=>
   simp only[sliceBounds,HT.sIx,Option.getD_none,show(1:Int)>0 by decide,if_true]
   by_cases h:i<0
   ·simp only[h,if_true]<;>omega
   ·simp only[h,if_false]<;>omega
 ·cases hi with
  |none=>simp[sliceBounds,HT.sIx]
  |some i=>
   simp only[sliceBounds,HT.sIx,Option.getD_none,show(1:Int)>0 by decide,if_true]
   by_cases h:i<0
   ·simp only[h,if_true]<;>omega
   ·simp only[h,if_false]<;>omega
def zok(its:List ya)(lo hi:Option Int):slicePick its.toArray lo hi none=((its.drop (HT.sIx its.length 0 lo)).take (HT.sIx its.length its.length hi-HT.sIx its.length 0 lo)).toArray:=by
 obtain⟨h1,h2,h3⟩:=zdl lo hi its.toArray.size;unfold slicePick;rw[h1,h2,h3];simp only[sliceRange_one,pick_run,size_toArray]<;>rfl
def z9u(K:yr):V->Option Int->Option Int->Hp->VK->Prop:=λx lo hi H Q=>∃a xs,x=.ref a/\SqL K H a xs/\∀p,H p=none->Q (.ref p) (upd H p (.lst (zCn xs lo hi)))
def zRq:SlR X (z9u X.K):=by
 intro U s Y H x v vl vu lo hi sl Q I rx hs pl pu h;obtain⟨a,xs,rfl,hx,q⟩:=h;cases rx;obtain⟨its,r,ht,hz⟩:=I.list hx;have hlen:=r.length;refine⟨"list",_,slot_list_getitem.lookup,ht.isList.typeIs,?_⟩;refine wpAny_getItem_list_slice ht.isList hs pl pu .none (by simp) ?_ (by rw[size_toArray]<;>omega);rw[zok,<-hlen];refine⟨.ref s.heap.objs.size,_,I.laid (t':=s.toks) (o:=.lst (zCn xs lo hi)) (λb ob q=>yk _ q) (yo _) ?_,rfl,q _ (I.hok.fresh (yo _))⟩;exact⟨yq (zwi xs lo hi) hz,_,0,(r.drop (HT.sIx xs.length 0 lo)).take (HT.sIx xs.length xs.length hi-HT.sIx xs.length 0 lo),yC _ rfl⟩
def zcl:z1l X (.builtin "len") (λxs H Q=>∃p ys,xs=[.ref p]/\(SqL X.K H p ys\/SqT X.K H p ys)/\Q (.int ys.length) H):=by
 intro U s Y H xs us Q I r h;obtain⟨p,ys,rfl,hq,q⟩:=h;obtain⟨u,rfl,rx⟩:=vals1 r;cases rx;have hn:=Tz;rcases hq with hq|hq
 ·obtain⟨its,r',pl,hz⟩:=I.list hq;have hlen:=r'.length;exact Calls.call_len_list pl.isList (by simp only[size_toArray]<;>omega) ⟨.int ys.length,H,I.tok _,⟨s.toks+1,by rw[size_toArray,hlen]⟩,q⟩
 ·obtain⟨its,r',pl,hz⟩:=I.tuple hq;have hlen:=r'.length;exact len_tuple pl (by simp only[size_toArray]<;>omega) ⟨.int ys.length,H,I.tok _,⟨s.toks+1,by rw[size_toArray,hlen]⟩,q⟩
def zCk:z1l X (.builtin "len") (λxs H Q=>∃z,xs=[.str z]/\z.length<=yB/\Q (.int z.length) H):=by
 intro U s Y H xs us Q I r h;obtain⟨z,rfl,hz,q⟩:=h;obtain⟨u,rfl,t,rfl⟩:=vals1 r;have hn:=Tz;exact len_str (by omega) ⟨.int z.length,H,I.tok _,⟨_,rfl⟩,q⟩
def zZe:z1l X (.type "tuple") (λxs H Q=>∃p ys,xs=[.ref p]/\((SqL X.K H p ys/\∀l,H l=none->Q (.ref l) (upd H l (.tup ys)))\/(SqT X.K H p ys/\Q (.ref p) H))):=by
 intro U s Y H xs us Q I r h;obtain⟨p,ys,rfl,h⟩:=h;obtain⟨u,rfl,rx⟩:=vals1 r;cases rx;rcases h with ⟨hq,q⟩|⟨hq,q⟩
 ·obtain⟨its,r',pl,hz⟩:=I.list hq;have hlen:=r'.length;refine call_tuple_list pl.isList (λh' kp=>?_) (by simp only[size_toArray]<;>omega);have I1:Inv X U Y H {s with heap:=h' }:=I.kept (t':=s.toks) kp
  have I2:Inv X U Y (upd H h'.objs.size (.tup ys)) {s with heap:=h'.push {cls:=.type "tuple",data:=.seq its.toArray }} :=
   I1.laid (t':=s.toks) (λb o e=>yk _ e) (yo _) (show tR X.prog X.w _ _ _ (.tup ys) from⟨hz,its,r',IsTup.new _ _⟩)
  exact⟨.ref h'.objs.size,_,I2,rfl,q _ (I1.hok.fresh (yo _))⟩
 ·obtain⟨its,r',pl,hz⟩:=I.tuple hq;exact call_tuple_same pl ⟨.ref p,H,I,rfl,q⟩
def tyV(K:yr)(T:String)(x:V)(H:Hp):Prop:=match x with
 |.str _=>T="str"
 |.int _=>T="int"
 |.ref p=>(T="list"/\∃xs,SqL K H p xs)\/(T="tuple"/\∃o,K.lookup p=some o/\o.cls=.type "tuple"/\o.dict=none) \/
  (T="dict"/\((∃kvs,H p=some (.dK kvs))\/∃kvs,H p=some (.dT kvs)))\/(T="set"/\∃S n,H p=some (.set S n))
 |_=>False
def zzs{U:List (yc×Yw)}{Y:St}{H:Hp}{s:yb}{T:String}{x:V}{v:ya}(I:Inv X U Y H s)(r:RelV x v)(ty:tyV X.K T x H) :
 s.TypeIs v T/\∀a,v=.ref a->∃ob,s.heap.get? a=some ob/\ob.dict=none:=by
 cases x with
 |str z=>
  obtain⟨t,rfl⟩:=r;cases (show T="str" from ty);exact⟨typeIs_str s z t,λ_ e=>nomatch e⟩
 |int i=>
  obtain⟨t,rfl⟩:=r;cases (show T="int" from ty);exact⟨typeIs_int s i t,λ_ e=>nomatch e⟩
 |ref p=>
  cases r;rcases ty with ⟨rfl,xs,hq⟩|⟨rfl,o,hk,hc,hd⟩|⟨rfl,hk⟩|⟨rfl,S,n,hk⟩
  ·obtain⟨its,_,pl,_⟩:=I.list hq;refine⟨pl.isList.typeIs,λa e=>?_⟩;cases e;obtain⟨o,n,e,c,hd,_⟩:=pl;exact⟨o,e,hd⟩
  ·refine⟨⟨o,I.kIn p o hk,hc⟩,λa e=>?_⟩;cases e;exact⟨o,I.kIn _ o hk,hd⟩
  ·have z:∃o,s.heap.get? p=some o/\o.ExactDict:=by
    rcases hk with ⟨kvs,hk⟩|⟨kvs,hk⟩
    ·obtain⟨_,_,_,_,o,_,_,e,ex,_⟩:=I.hok p _ hk;exact⟨o,e,ex⟩
    ·obtain⟨_,_,_,_,o,_,_,e,ex,_⟩:=I.hok p _ hk;exact⟨o,e,ex⟩
   obtain⟨o,e,ex⟩:=z;refine⟨⟨o,e,ex.1⟩,λa e2=>?_⟩;cases e2;exact⟨o,e,ex.2.1⟩
  ·obtain⟨o,_,_,_,e,ex,_⟩:=I.hok p _ hk;refine⟨⟨o,e,ex.1⟩,λa e2=>?_⟩;cases e2;exact⟨o,e,ex.2.1⟩
 |_=>exact YN ty
def tBM(K:yr)(T:String)(r:V->List V->Hp->VK->Prop)(to:TE)(t:TA):TE:=λY H Q=>to Y H λx H1=>tyV K T x H1/\t Y H1 λxs H2=>r x xs H2 Q
variable {o e:yt}{es:List yt}{to:TE}{t:TA}{name:yg}{apos cpos:YD}{T id:String}{r:V->List V->Hp->VK->Prop}
def zrt(pa:PlainAttrs T)(slot:Slot T name id)(hty:typeOf (.builtin id)=pure (.type "method_descriptor"))(hm:MtR X id r)(ho:PE X o to)(ha:PA X (e::es) t)
 (hbase:YR o name X.env (Yi o X.env)=Yi o X.env:=by rfl)
 (hfew:((Ye cpos (yj (e::es) X.env)).all (λx=>!x.1)&&(backToKw cpos (xj [] X.env)).all (λx=>x.1.isSome)
  && decide ((e::es).length+([]:List xo).length+(if([]:List xo).isEmpty then 0 else 1)<30))=true:=by rfl)
 (hline:(apos.endLine==cpos.line)=true:=by rfl) (hs:yj (e::es) X.env=(false,Yi e X.env)::yj es X.env:=by rfl) (hplain:(Ye cpos (yj es X.env)).any (·.1)=false:=by rfl) :
 PE X (.Call (.Attribute o name apos) (e::es) [] cpos) (tBM X.K T r to t):=by
 intro U s Y H Q I h;refine wpAny_Call_method_late hbase hfew hline rfl (thn (ho U s Y H _ I h) λv s1 ⟨x,H1,I1,r1,ty,q1⟩=>?_);obtain⟨h1,h2⟩:=zzs I1 r1 ty;refine⟨T,id,pa,slot,hty,h1,h2,?_⟩;have hA:=ha cpos U s1 Y H1 _ I1 q1;rw[hs]at hA ⊢;refine Calls.callWith_builtin (by show(false||(Ye cpos (yj es X.env)).any (·.1))=false;rw[hplain]<;>rfl) (Calls.evalArgs_plain ?_);exact thn hA λus s2 ⟨vs,H2,I2,r2,q2⟩=>hm U s2 Y H2 x vs v us Q I2 r1 r2 q2
end
def MtM(X:Cx)(id:String)(r:V->List V->Hp->VK->Prop):Prop :=
 ∀(U:List (yc×Yw)) (s:yb) (Y:St) (H:Hp) (x:V) (xs:List V) (v:ya) (us:List ya) (Q:VK),Inv X U Y H s->RelV x v->Vals xs us->r x xs H Q ->
  yw (yz X.prog X.w) X.A (call (.builtin id) (v::us)) (EP X U Y Q) X.xe s
def Vals.sZ{x:V}{xs:List V}{us:List ya}(h:Vals (x::xs) us):∃u ws,us=u::ws/\RelV x u/\Vals xs ws:=by
 cases h with
 |cons r t=>exact⟨_,_,rfl,r,t⟩
def Vals.unnil{us:List ya}(h:Vals [] us):us=[]:=by
 cases h;rfl
def Vals.one{x:V}{us:List ya}(h:Vals [x] us):∃u,us=[u]/\RelV x u:=by
 obtain⟨u,ws,e,r,t⟩:=h.sZ;exact⟨u,by rw[e,t.unnil],r⟩
def Vals.rep{xs:List V}{us:List ya}(h:Vals xs us):∀k:Nat,Vals (yl k xs).flatten (yl k us).flatten
 |0 =>.nil
 |k+1=>by
  rw[replicate_succ,replicate_succ,flatten_cons,flatten_cons];exact Vals.append h (Vals.rep h k)
def zFk(its:List ya):∀(k:Nat)(acc:List ya),
 List.foldl (λx1 x2=>x1++x2) acc.toArray (yl k its.toArray)=(acc++(yl k its).flatten).toArray
 |0,acc=>by simp
 |k+1,acc=>by
  have e:acc.toArray++its.toArray=(acc++its).toArray:=by simp
  have e2:(acc++its)++(yl k its).flatten=acc++(yl (k+1) its).flatten:=by
   rw[replicate_succ,flatten_cons,append_assoc]
  rw[<-e2,<-zFk its k (acc++its),<-e,replicate_succ,List.foldl_cons]
section
variable {X:Cx}{U:List (yc×Yw)}{Y:St}{H:Hp}{s:yb}{l b:yc}{xs ys zs:List V}
def Inv.lset{its its':List ya}{n:Nat}{f:Array ya->Array ya}{t':Nat}(I:Inv X U Y H s)(hH:H l=some (.lst xs))
 (e:s.heap.get? l=some {cls:=.type "list",data:=.seq its.toArray n }) (hf:f its.toArray=its'.toArray) (hv:Vals ys its') (hz:ys.length<=yB) :
 Inv X U Y (upd H l (.lst ys)) {s with heap:=s.heap.update l (Obj.mapSeq f),toks:=t' }:=by
 have q:=PySem.IsL.update e f;rw[hf]at q;refine I.write (x:=l) (e:=l) (by rw[hH];exact trivial) (.inl rfl) (λb' u hb hu=>(yP s.heap (Obj.mapSeq f) (Yg hb)).trans hu) ⟨_,q⟩ ?_;exact⟨hz,its',_,hv,q⟩
def Inv.lnew{its:List ya}{t':Nat}(I:Inv X U Y H s)(hv:Vals ys its)(hz:ys.length<=yB) :
 Inv X U Y (upd H s.heap.objs.size (.lst ys)) {s with heap:=s.heap.push {cls:=.type "list",data:=.seq its.toArray },toks:=t' } :=
 I.laid (λ_ _ q=>yk _ q) (yo _) ⟨hz,its,0,hv,yC _ rfl⟩
def Inv.fresh(I:Inv X U Y H s):H s.heap.objs.size=none:=I.hok.fresh (yo _)
def Inv.lstM(I:Inv X U Y H s)(hH:H l=some (.lst xs)):xs.length<=yB/\∃(its:List ya)(n:Nat),Vals xs its/\xs.length=its.length/\s.heap.get? l=some {cls:=.type "list",data:=.seq its.toArray n }:=by
 obtain⟨z,its,n,r,e⟩:=I.hok l _ hH;exact⟨z,its,n,r,r.length,e⟩
def Sa{n:Nat}(h:n<=yB):Builtin.List.listTooLong n=false:=by
 unfold Builtin.List.listTooLong;exact decide_eq_false (by omega)
def zdr:V->List V->Hp->VK->Prop:=λx vs H Q=>∃l xs y,x=.ref l/\vs=[y]/\H l=some (.lst xs)/\xs.length<yB/\Q .non (upd H l (.lst (xs++[y])))
def zKo:MtM X "list.append" zdr:=by
 intro U s Y H x vs v us Q I rx rv h;obtain⟨l,xs,y,rfl,rfl,hH,hz,q⟩:=h;cases rx;obtain⟨u,rfl,ru⟩:=rv.one;obtain⟨z,its,n,r,hl,e⟩:=I.lstM hH;refine call_meets F.slot_list_append ⟨_,e,rfl⟩ F.entry_list_append (F.args_list_append_2 _ _) (PySem.list_append l its.toArray n u (by rw[size_toArray];omega)) ⟨e,?_⟩;refine⟨.non,_,I.lset (its':=its++[u]) hH e (by simp) (r.append (.cons ru .nil)) ?_,rfl,q⟩;rw[length_append,List.length_singleton];omega
def zgv:R2:=λx y H Q=>∃l b xs zs,x=.ref l/\y=.ref b/\H l=some (.lst xs)/\H b=some (.lst zs)/\xs.length+zs.length<=yB/\∀p,H p=none->Q (.ref p) (upd H p (.lst (xs++zs)))
def zXs:OpR X (Yz .Add) zgv:=by
 intro U s Y H x y v u Q I rx ry h;obtain⟨l,b,xs,zs,rfl,rfl,hH,hB,hz,q⟩:=h;cases rx;cases ry;obtain⟨z,its,n,r,hl,e⟩:=I.lstM hH;obtain⟨z2,its2,n2,r2,hl2,e2⟩:=I.lstM hB;refine PySem.P.add_list e e2 ?_ (by rw[size_toArray,size_toArray];omega);have ea:its.toArray++its2.toArray=(its++its2).toArray:=by simp
 rw[ea];exact⟨.ref _,_,I.lnew (t':=s.toks) (r.append r2) (by rw[length_append];omega),rfl,q _ I.fresh⟩
def zcv:R2:=λx y H Q=>∃l k xs,x=.ref l/\y=.int k/\H l=some (.lst xs)/\-(2^63)<=k/\k<2^63/\xs.length*k.toNat<=yB /\
 ∀p,H p=none->Q (.ref p) (upd H p (.lst (yl k.toNat xs).flatten))
def zEo{α:Type}(xs:List α)(k:Nat):(yl k xs).flatten.length=k*xs.length:=by
 induction k with
 |zero=>simp
 |succ k ih=>rw[replicate_succ,flatten_cons,length_append,ih,Nat.succ_mul,Nat.add_comm]
def zat:OpR X (Yz .Mult) zcv:=by
 intro U s Y H x y v u Q I rx ry h;obtain⟨l,k,xs,rfl,rfl,hH,h1,h2,hz,q⟩:=h;cases rx;obtain⟨t,rfl⟩:=ry;obtain⟨z,its,n,r,hl,e⟩:=I.lstM hH;have hlen:its.toArray.size*k.toNat<=yB:=by rw[size_toArray,<-hl];exact hz
 have hcap:¬its.toArray.size*k.toNat>(2^63-1) / 8:=by
  have:(yB:Nat)<=(2^63-1) / 8:=by decide
  omega
 have hfit:¬(!Builtin.List.listFitsIndex k)=true:=by
  rw[fitsIndex_both h1 h2];exact yR
 have hlong:¬Builtin.List.listTooLong (its.toArray.size*k.toNat)=true:=by
  rw[Sa hlen];exact yR
 have hnew:List.foldl (λx1 x2=>x1++x2) #[] (yl (if its.toArray.isEmpty=true then 0 else k.toNat) its.toArray)=(yl k.toNat its).flatten.toArray:=by
  have f0:∀m:Nat,List.foldl (λx1 x2=>x1++x2) #[] (yl m its.toArray)=(yl m its).flatten.toArray:=λm=>by
   have:=zFk its m [];rw[nil_append]at this;exact this
  rw[f0]
  cases its with
  |nil=>simp
  |cons a r'=>rw[if_neg (by simp)]
 refine wpAny_binaryOp_repeat_ref (T:="list") (U:="int") (by decide) ⟨_,e,rfl⟩ (λs'=>typeIs_int s' k t) noFill_list_mul F.fills_int_mul F.slot_int_rmul repeat_list F.slot_int_index.lookup
  (call_meets F.slot_int_rmul (typeIs_int s k t) F.entry_int_rmul (F.args_int_rmul_2 _ _) (int___rmul___int_list k t l its.toArray n)
   ⟨e,rfl,⟨_,e,rfl⟩,call_meets F.slot_list_mul ⟨_,e,rfl⟩ F.entry_list_mul (F.args_list_mul_2 _ _) (AutoListH.list___mul___list_int_3 l its.toArray n k t hfit hcap hlong) ⟨e,?_⟩⟩)
 rw[hnew];exact⟨.ref _,_,I.lnew (t':=s.toks) (r.rep k.toNat) (by rw[zEo,Nat.mul_comm];exact hz),rfl,q _ I.fresh⟩
variable {prog:yu}{w:yI}{A:yF}{E:ya->yb->Prop}
end
end L2
namespace Att
open PySem PySem.W PySem.Calls PyProof.Rows
def zBi{P:Params}{h:yS}:∀(ns:List Int)(vs:List ya),WellAll P h vs (ns.map WData.int)->IntsAre vs ns:=by
 intro ns
 induction ns with
 |nil=>
  intro vs w;rw[map_nil]at w;cases w;exact .nil
 |cons n ns ih=>
  intro vs w;rw[map_cons]at w
  cases w with
  |cons a b=>
   cases a;exact .cons _ _ (ih _ b)
def zJn{l:OpenLaw}{n:Nat}(hn:l.most=some n){P:Params}{h:yS}{args:List WData}{vals:List ya}
 (hpre:l.row.toRowW.claim.pre args=true) (hwl:WellAll P h vals args) :
 ∃a vs ns,vals=[yZ a]/\args=[WData.list (ns.map WData.int)]/\h.get? a=some {cls:=.type "list",data:=.seq vs.toArray }/\IntsAre vs ns/\ns.length<=n:=by
 have hsh:WShape.hasAll [] args [.list .int]=true:=(pre_splitW hpre).1;have hc:l.pre.holds [] {args:=args } = true:=(pre_splitW hpre).2;obtain⟨d,r,rfl,h1,h2⟩:=hasAllW_cons hsh;obtain rfl:=hasAllW_nil h2;obtain⟨xs,rfl,h3⟩:=hasW_list h1;obtain⟨ns,rfl⟩:=items_int h3
 have hlen:ns.length<=n:=by
  unfold OpenLaw.pre at hc
  have h4:(WTm.not (.lt (.lit (.int (n:Int))) (.len (.arg 0)))).holds [] {args:=[.list (ns.map .int)]} = true:=by
   have h4:=(holds_andW hc).1;rw[hn]at h4;exact h4
  have h5:=condW_of h4 (w_not (w_lt w_lit (w_len_list (w_arg rfl))));rw[length_map]at h5;refine xv λq=>?_;have q':(n:Int)<((ns.length:Nat):Int):=by omega
  first
   |(rw[decide_eq_true q']at h5;exact absurd h5 (by decide))
   |(simp at h5;omega)
 cases hwl with
 |cons w1 w2=>
  cases w2
  cases w1 with
  |list ho hall=>exact⟨_,_,ns,rfl,rfl,ho,zBi ns _ hall,hlen⟩
def zOn(l:OpenLaw)(args:List WData):l.row.toRowW.claim.post args (.bool true) args=true :=
 postW_of (r:=l.row.toRowW) (X:=(true==true))
  (show WShape.has [] (.bool true) .bool=true by first|rfl|decide|simp[WShape.has,WShape.arms,WShape.armsAll])
  (show(WTm.eq .res (.lit (.bool true))).value [] {args:=args,res:=some (.bool true),after:=args } = some (.bool (true==true)) from w_eq_bool (w_res rfl) w_lit) rfl
def sf{l:OpenLaw}{n:Nat}{q:yu}{loose:List yg}{XP:(yg->Option ya)->yS->Prop}{YP:yI->yS->Prop}{d:DefRec}
 (hn:l.most=some n) (hdf:d.params.defaults=[])
 (call:∀(w:yI)(s₀ s₁:yb)(mg mb:yg->Option ya)(fa:yc)(o:Yw)(pm cd doc:ya)(a:yc)(vs:List ya)(ns:List Int),
  Ground q loose [] XP w s₀ mg mb s₁.heap->YP w s₁.heap ->
  s₁.heap.get? fa=some o->o.data=.func (docDef d.name d.params d.body d.scope pm cd doc)->s₁.heap.CodeRec cd d.name->mg d.name=some (.ref fa) ->
  s₁.heap.get? a=some {cls:=.type "list",data:=.seq vs.toArray }->IntsAre vs ns->ns.length<=n->s₁.gens = #[] ->
  codeAny (yz l.prog w) callerA (.call (.ref fa) ⟨[.ref a],[]⟩) (λr s'=>r=.ok (.ret (.bool true))/\OldK s₁.heap s'.heap/\s'.os=s₁.os/\AllBare s'.gens) s₁) :
 WalkO q loose XP YP l.row.toRowW d [] (λf vs=>PySem.call f vs):=by
 intro w s₀ s₁ mg mb φ σ fa o pm cd doc dV kV ho hd hcd hD hmg hg args vals as hpre hlay hrd hwl hlo;obtain rfl:dV=.none:=Dflts.none hD hdf;obtain rfl:kV=.none:=Dflts.noKw hD;obtain⟨a,vs,ns,rfl,rfl,hobj,hints,hlen⟩:=zJn hn hpre hwl;refine enter_call (codeAny_mono (call w s₀ s₁ mg mb fa o pm cd doc a vs ns φ σ ho (fd_plain hd) hcd hmg hobj hints hlen hg) λr s' hq=>?_);obtain⟨rfl,h2,h3,h4⟩:=hq;exact⟨.inl ⟨.bool true,.bool true,[],rfl,λ_=>rfl,.bool true,zOn l _,λ_=>⟨List.Pairwise.nil,λ_ hm=>(nomatch hm)⟩⟩,h2,h3,h4⟩
section
variable {prog:yu}{w:yI}{A:yF}{E:ya->yb->Prop}{s:yb}{K:Frag}
end
end Att
namespace L2
open PySem PySem.Spec PyProof.Rows
def z5k:∀{vs:List ya} {ns:List Int},IntsAre vs ns->Vals (ns.map V.int) vs
 |_,_,.nil =>.nil
 |_,_,.cons n t h =>.cons ⟨t,rfl⟩ (z5k h)
def zGt(H:Hp):Prop:=∀b,H b=none\/∃o xs,H b=some (.frz o (.lst xs))
def zSp{P:yu}{w:yI}{K:yr}{mg mb:yg->Option ya}{CX:CXT}{k:Nat}{fa a:yc}{fd:yf}{x:yg}{sp:Sp}{s₁:yb}{vs:List ya}{ns:List Int}
 (KX:K.In s₁.heap) (hns:s₁.heap.Ns ye mg) (hb:s₁.heap.Ns builtinsNs mb) (hbb:∀x:yg,x≠"__name__"->mb x=yW x) (hlim:s₁.heap.NoLimit) (hg:s₁.gens = #[])
 (ha:s₁.heap.get? a=some {cls:=.type "list",data:=.seq vs.toArray }) (hi:IntsAre vs ns) (hl:ns.length<=yB) (hr:tW k callerA)
 (F:∀base:yS,K.In base->base.Ns ye mg->tw P w K mg base CX k fa fd [x] sp) (hbind:∀(s:yb)(u:ya),BindsTo s fd ⟨[u],[]⟩ [(x,u)])
 (hsp:∀H:Hp,zGt H->SqL K H a (ns.map V.int)->sp [.ref a] H (λv _=>v=.bl true) λ_ _ _=>False)
 (hCX:∀H e s',CX [] H s₁ (λ_ _ _=>False) e s'->False) :
 codeAny (yz P w) callerA (.call (.ref fa) ⟨[.ref a],[]⟩) (λr s'=>r=.ok (.ret (.bool true))/\OldK s₁.heap s'.heap/\s'.os=s₁.os/\AllBare s'.gens) s₁:=by
 have rv:=z5k hi;have lenV:=hi.length
 have core:∀H:Hp,zGt H->SqL K H a (ns.map V.int)->HOk P w H s₁.heap->(∀b,H b≠none->b=a)->(H a≠none->K.lookup a=none) ->
  codeAny (yz P w) callerA (.call (.ref fa) ⟨[.ref a],[]⟩) (λr s'=>r=.ok (.ret (.bool true))/\OldK s₁.heap s'.heap/\s'.os=s₁.os/\AllBare s'.gens) s₁:=by
  intro H hO hS hok hA hK;have base_of:∀{b:yc} {o:Yw},s₁.heap.get? b=some o->H b=none->(z1p s₁.heap H).get? b=some o:=λe n=>zkp e n
  have noA:∀{b:yc} {o:Yw} {es:Array DictEntry} {ep:Nat},s₁.heap.get? b=some o->o.data=.dict es ep->H b=none:=λ{b o es ep} e d=>by
   cases q:H b with
   |none=>rfl
   |some u=>
    have e':b=a:=hA b (by rw[q];simp);subst e';rw[ha]at e;cases e;have d':Data.seq vs.toArray _=Data.dict es ep:=d;cases d'
  have nsK:∀{b:yc} {m:yg->Option ya},s₁.heap.Ns b m->(z1p s₁.heap H).Ns b m:=λ{b m} ⟨o,es,ep,e,d,r⟩=>⟨o,es,ep,base_of e (noA e d),d,r⟩
  have hKb:K.In (z1p s₁.heap H):=λb o e=>base_of (KX b o e) (by
   cases q:H b with
   |none=>rfl
   |some u=>
    have e':b=a:=hA b (by rw[q];simp);subst e';rw[hK (by rw[q];simp)]at e;cases e)
  have hM:Mod K mg (z1p s₁.heap H):=⟨hKb,nsK hns,⟨mb,nsK hb,hbb⟩,let ⟨mc,h1,h2⟩:=hlim;⟨mc,nsK h1,h2⟩⟩
  have e0:Env0 P w K mg (z1p s₁.heap H) callerA [] s₁ H:=⟨rfl,hM,λb o e=>zMq e,Nat.le_of_eq (zho _ _),trivial,λb hb=>absurd (show b∈([]:List yc) from hb) (by simp),hok,.of_eq hg⟩
  refine codeAny_mono ((F _ hKb (nsK hns)).run callerA [] s₁ H ⟨[.ref a],[]⟩ [.ref a] [.ref a] _ _ hr e0 (hbind s₁ (.ref a)) (.cons rfl .nil) (hsp H hO hS)) λr s' h=>?_
  cases r with
  |error e=>exact(hCX H e s' h).elim
  |ok fl=>
   cases fl with
   |next=>exact YN h
   |brk=>exact YN h
   |cont=>exact YN h
   |ret u=>
    obtain⟨v,H',os,bare,un,hok',r',q⟩:=h;have q':v=.bl true:=q;subst q';obtain rfl:u=Value.bool true:=r';refine⟨rfl,OldK.of_keep λb o e=>?_,os,bare⟩
    cases q:H b with
    |none=>exact un.keep b o e q (by intro z;exact absurd (show b∈([]:List yc) from z) (by simp)) (by simp)
    |some u=>
     rcases hO b with z|⟨ob,xs,z⟩
     ·rw[q]at z;cases z
     ·have z2:=un.Tp b ob _ z;obtain⟨e1,_⟩:=hok b _ z;obtain⟨e2,_⟩:=hok' b _ z2;rw[e]at e1;cases e1;exact e2
 cases hk:K.lookup a with
 |some o=>
  have e:=KX a o hk;rw[ha]at e;cases e;refine core (λ_=>none) (λ_ =>.inl rfl) (.inr ⟨_,vs.toArray,_,hk,rfl,rfl,rfl,by rw[size_toArray,lenV];exact hl,by simpa using rv⟩) (λb u z=>by have z':(none:Option HO)=some u:=z;cases z') (λb z=>absurd rfl z) λz=>absurd rfl z
 |none=>
  refine core (λb=>if b=a then some (.frz {cls:=.type "list",data:=.seq vs.toArray } (.lst (ns.map V.int))) else none) (λb=>?_) (.inl (.inr ⟨{cls:=.type "list",data:=.seq vs.toArray },if_pos rfl⟩)) (λb u z=>?_) (λb z=>?_) λ_=>hk
  ·by_cases hb:b=a
   ·exact .inr ⟨_,_,if_pos hb⟩
   ·exact .inl (if_neg hb)
  ·by_cases hb:b=a
   ·have z':=(if_pos hb).symm.trans z;cases z';subst hb;exact⟨ha,by rw[length_map];exact hl,vs,_,rv,ha⟩
   ·have z':=(if_neg hb).symm.trans z;cases z'
  ·by_cases hb:b=a
   ·exact hb
   ·exact absurd (if_neg hb) z
def walk_of{l:W.OpenLaw}{n k:Nat}{q:yu}{loose:List yg}{XP:(yg->Option ya)->yS->Prop}{YP:yI->yS->Prop}{d:DefRec}{K:Params->yr}{CX:yI->CXT}{sp:yI->Sp}{x:yg}
 (hn:l.most=some n) (hn2:n<=yB) (hdf:d.params.defaults=[]) (hr:tW k callerA)
 (hY:∀(w:yI)(h:yS),YP w h->(K w.params).In h)
 (F:∀(w:yI)(mg:yg->Option ya)(fa:yc)(h:yS),(K w.params).In h->h.Ns ye mg->mg d.name=some (.ref fa) ->
  ∃fd:yf,(∀(s:yb)(u:ya),BindsTo s fd ⟨[u],[]⟩ [(x,u)]) /\
   ∀base:yS,(K w.params).In base->base.Ns ye mg->tw l.prog w (K w.params) mg base (CX w) k fa fd [x] (sp w))
 (hsp:∀(w:yI)(H:Hp)(a:yc)(ns:List Int),ns.length<=n->zGt H->SqL (K w.params) H a (ns.map V.int)->sp w [.ref a] H (λv _=>v=.bl true) λ_ _ _=>False)
 (hCX:∀(w:yI)(H:Hp)(s:yb)(e:ya)(s':yb),CX w [] H s (λ_ _ _=>False) e s'->False) :
 W.WalkO q loose XP YP l.row.toRowW d [] (λf vs=>PySem.call f vs):=by
 refine Att.sf hn hdf λw s₀ s₁ mg mb fa o pm cd doc a vs ns φ σ ho hd hcd hmg hobj hints hlen hg=>?_;have KX:=hY w _ σ;obtain⟨fd,hb,hF⟩:=F w mg fa _ KX φ.T.g hmg;exact zSp KX φ.T.g φ.T.b φ.T.builtins φ.T.nolimit hg hobj hints (yq hlen hn2) hr hF hb (λH hO hS=>hsp w H a ns hlen hO hS) λH e s'=>hCX w H s₁ e s'
def zxd(s:yQ):Arguments:=match s with
 |.FunctionDef _ a _ _ _ _ _ _ _ _=>a
 |_=>{posonlyargs:=[],args:=[],vararg:=none,kwonlyargs:=[],kw_defaults:=[],kwarg:=none,defaults:=[]}
def zoc(s:yQ):List yQ:=match s with
 |.FunctionDef _ _ b _ _ _ _ _ _ _=>b
 |_=>[]
def zp(s:yQ):YZ:=match s with
 |.FunctionDef _ _ _ _ _ _ sc _ _ _=>sc
 |_=>{kind:=.function,names:=[],isGenerator:=false,isCoroutine:=false }
abbrev CX0:CXT:=λ_ _ _ _ _ _=>False
abbrev E0:XK:=λ_ _ _=>False
def pass0{X:Cx}:zal CX0 X E0:=λ_ _ _ _ _ _ _ h=>h.elim
structure Fun(K:yr)(x qual:yg)(st:yQ)(f:yc)(fd:yf):Prop where
 ex:∃(oc:ya)(od:Option yc)(kV doc pm:ya)(an:Option yc)(cdv ct:ya)(osl:Array (Option ya)),
  fd=W.fnOf x qual (zxd st) (zoc st) (zp st) .none kV doc pm an cdv ct/\K.lookup f=some ⟨oc,od,.func fd,osl⟩/\W.codeIn K cdv qual=true
 kp:W.keepIn K (.ref f)=true
section
variable {P:yu}{w:yI}{K:yr}{mg:yg->Option ya}{base:yS}
def Fun.ok{x qual:yg}{st:yQ}{f:yc}{fd:yf}{N ps:List yg}{k:Nat}{sp:Sp}(F:Fun K x qual st f fd)(S:tz N ps (zp st))(len:∀vs H Q E,sp vs H Q E->vs.length=ps.length)
 (hbody:∀(cdv:ya)(A:yF)(outer:List Env)(s:yb)(H:Hp)(vs:List V)(Q:VK)(E:XK),tW k (A.deeper (envOfC qual (zp st) s.heap.objs.size f cdv))->sp vs H Q E ->
  ∃t,PSs (zLn CX0 P w K mg base N qual (zp st) f cdv A outer s H E).nox (zoc st) t/\t {nx:=λ_ H'=>Q .non H',rt:=Q } (start N vs) H):tw P w K mg base CX0 (k+1) f fd ps sp:=by
 obtain⟨oc,od,kV,doc,pm,an,cdv,ct,osl,rfl,lk,hcd⟩:=F.ex;refine zxs lk hcd S len λA outer s H vs Q E hr hsp=>?_;obtain⟨t,h,q⟩:=hbody cdv A outer s H vs Q E hr hsp;exact⟨t,h.nox,q⟩
def Fun.binds{x qual:yg}{st:yQ}{f:yc}{fd:yf}{ps:List yg}(F:Fun K x qual st f fd)
 (h:∀(kV doc pm:ya)(an:Option yc)(cdv ct:ya)(us:List ya),us.length=ps.length->bindArgs (W.fnOf x qual (zxd st) (zoc st) (zp st) .none kV doc pm an cdv ct) ⟨us,[]⟩=pure (ps.zip us)):Binds K fd ps []:=by
 obtain⟨oc,od,kV,doc,pm,an,cdv,ct,osl,rfl,lk,hcd⟩:=F.ex;exact .all (h kV doc pm an cdv ct)
def zqq{x qual:yg}{st:yQ}{f:yc}{oc:ya}{od an:Option yc}{osl:Array (Option ya)}{kV doc pm cdv ct:ya}(l:K.lookup f=some ⟨oc,od,.func (W.fnOf x qual (zxd st) (zoc st) (zp st) .none kV doc pm an cdv ct),osl⟩)
 (c:W.codeIn K cdv qual=true) (k:W.keepIn K (.ref f)=true):Fun K x qual st f (W.fnOf x qual (zxd st) (zoc st) (zp st) .none kV doc pm an cdv ct):=⟨⟨oc,od,kV,doc,pm,an,cdv,ct,osl,rfl,l,c⟩,k⟩
end
def Tn{n:Nat}(h:n<=1000):n<yB:=YC h (by decide)
section
variable {X:Cx}
end
def sO{A B:Prop}(h:B):if false=true then A else B:=by
 rw[if_neg yR];exact h
def sD{A B:Prop}(h:A):if true=true then A else B:=by
 rw[if_pos rfl];exact h
def zpg(f:Array ya->Array ya)(o:Yw):(YS f o).dict=o.dict:=by
 unfold YS
 split<;>rfl
def Trc(B h:yS)(e:yc)(x:ya):Prop:=x=.none\/∃T oT ts y,x=.ref T/\B.get? T=none/\T≠e/\h.get? T=some oT/\oT.data=.fields ts/\ts[3]?=some y
structure Fly(B:yS)(l:List Env)(e:yc)(cls:ya)(dx:Option yc)(h:yS):Prop where
 st:B.StaysIn h
 new:B.get? e=none
 ff:h.FunFrames B l
 ob:∃oe vs x,h.get? e=some oe/\oe.cls=cls/\oe.dict=dx/\oe.data=.fields vs/\vs[1]?=some x/\Trc B h e x
section
variable {M:Model}{A:yF}{E:ya->yb->Prop}{s:yb}{B:yS}{l outer:List Env}{env:Env}{e L:yc}{cls:ya}{dx:Option yc}{Q:Unit->yb->Prop}
def Fly.recW{h:yS}{T:yc}{oT:Yw}{ts:Array ya}(F:Fly B l e cls dx h)(hb:B.get? T=none)(hT:h.get? T=some oT)(hd:oT.data=.fields ts)(g:Array ya->Array ya)
 (hob:∃oe vs x,(h.update T (YS g)).get? e=some oe/\oe.cls=cls/\oe.dict=dx/\oe.data=.fields vs/\vs[1]?=some x/\Trc B (h.update T (YS g)) e x) :
 Fly B l e cls dx (h.update T (YS g))/\h.UpToSlots (h.update T (YS g)):=by
 have other:∀b,b≠T->(h.update T (YS g)).get? b=h.get? b:=λb hb=>yP _ _ (Yg hb)
 have noR:∀b o,h.get? b=some o->(∀vs,o.data≠.fields vs)->b≠T:=λb o q hn z=>by
  rw[z,hT]at q;cases q;exact hn ts hd
 exact⟨⟨λb o q=>(other b λz=>by rw[z,hb]at q;cases q).trans (F.st b o q),F.new,F.ff.of_keeps λb o q hn=>⟨o,(other b (noR b o q hn)).trans q,rfl⟩,hob⟩,λb o q hn=>⟨o.slots,(other b (noR b o q hn)).trans q⟩⟩
def zBg(F:Fly B l e cls dx s.heap)(h:∀h',Fly B l e cls dx h'->s.heap.UpToSlots h'->Q () {s with heap:=h' }):yw M A (setFlight (.ref e) none) Q E s:=by
 obtain⟨oe,vs,x,he,hc,hx,hd,h1,tr⟩:=F.ob;unfold setFlight;refine yh (YX he hd h1 ?_);rcases tr with rfl|⟨T,oT,ts,y,rfl,hb,hne,hT,hdT,h3⟩
 ·rw[if_neg (by decide)];exact yy (h _ F (.refl _))
 ·rw[if_pos (show(yZ T != Yk)=true from by simp)];have h3':=(Array.getElem?_eq_some_iff.mp h3).1;refine xt hT hdT h3' ?_
  obtain⟨F',u⟩:=F.recW hb hT hdT (·.setIfInBounds 3 ((none:Option yc).elim Yk λf=>rawInt f))
   ⟨oe,vs,_,(yP _ _ hne).trans he,hc,hx,hd,h1,.inr ⟨T,_,_,.none,rfl,hb,hne,Yl _ hT (Ys (Yc hdT _)),Yc hdT _,by simp[h3']⟩⟩
  exact h _ F' u
def zYo{head:ya}{hadNext:Bool}(hfr:A.frames=some (env::outer))(hf:env.frame=some L)(F:Fly B (env::outer) e cls dx s.heap)(h:∀h',Fly B (env::outer) e cls dx h'->s.heap.UpToSlots h'->Q () {s with heap:=h' }) :
 yw M A (do let a <-frameOf env;let pl <-entryPlaceOf L hadNext;let b <-EntryCells.newEntry head a .none (rawInt L) .none pl;setField (.ref e) 1 b) Q E s:=by
 obtain⟨oe,vs,x,he,hc,hx,hd,h1,tr⟩:=F.ob;have hl:=F.ff
 have hene:e∉(env::outer).filterMap (·.frame):=λhm=>by
  obtain⟨_,o,ho,hnf⟩:=hl.mem hm;rw[he]at ho;cases ho;exact hnf vs hd
 refine yh (wpAny_frameOf_fun hfr hl hf λh₁ hs=>?_);refine yh (wpAny_entryPlaceOf λpl hpl=>?_);unfold EntryCells.newEntry newFields;refine yh (Yq ?_ (hpl.sizeOk5 _ _ _ _ _));generalize hts:([head,yZ L,Yk,rawInt L,Yk]++(if pl.isEmpty=true then yl 6 Yk else pl))=ts;have hts3:ts.toArray[3]?=some (rawInt L):=by rw[<-hts];simp
 have he₁:h₁.get? e=some oe:=(hs.2.1 e hene).trans he;have hn:h₁.objs.size≠e:=YF (ym he₁);have kb:B.StaysIn h₁:=λb o q=>(hs.2.1 b λhm=>by rw[(hl.mem hm).1]at q;cases q).trans (F.st b o q);have he₂:=yk (h:=h₁) {cls:=.type "traceback",dict:=none,data:=.fields ts.toArray } he₁;refine xt he₂ hd (Array.getElem?_eq_some_iff.mp h1).1 (h _ ?_ ?_)
 all_goals
  have keep:∀b o,b≠e->h₁.get? b=some o->((h₁.push {cls:=.type "traceback",dict:=none,data:=.fields ts.toArray }).update e (YS (·.setIfInBounds 1 (yZ h₁.objs.size)))).get? b=some o:=λb o hbe hb=>by
   rw[yP _ _ (Yg hbe)];exact yk _ hb
  have noR:∀b o,s.heap.get? b=some o->(∀vs,o.data≠.fields vs)->b≠e:=λb o q hn z=>by
   rw[z,he]at q;cases q;exact hn vs hd
 ·refine⟨λb o q=>keep b o (λz=>by rw[z,F.new]at q;cases q) (kb b o q),F.new,hl.of_keeps λb o q hn=>?_,?_⟩
  ·obtain⟨sl,z⟩:=hs.2.2 b o q;exact⟨_,keep b _ (noR b o q hn) z,rfl⟩
  ·have hd₃:=Yc hd (·.setIfInBounds 1 (yZ h₁.objs.size));refine⟨_,_,_,Yl _ he₂ (Ys hd₃),(Obj.cls_mapFields _ _).trans hc,(zpg _ _).trans hx,hd₃,by simp[(Array.getElem?_eq_some_iff.mp h1).1],.inr ⟨h₁.objs.size,{cls:=.type "traceback",dict:=none,data:=.fields ts.toArray },ts.toArray,rawInt L,rfl,kb.fresh,hn,?_,rfl,hts3⟩⟩;exact(yP _ _ (Yg hn)).trans (yC h₁ rfl)
 ·intro b o q hn;obtain⟨sl,z⟩:=hs.2.2 b o q;exact⟨sl,keep b _ (noR b o q hn) z⟩
def zGi(hfr:A.frames=some (env::outer))(hf:env.frame=some L)(F:Fly B (env::outer) e cls dx s.heap)(h:∀h',Fly B (env::outer) e cls dx h'->s.heap.UpToSlots h'->Q () {s with heap:=h' }) :
 yw M A (noteFrame (.ref e) env) Q E s:=by
 obtain⟨oe,vs,x,he,hc,hx,hd,h1,tr⟩:=F.ob;unfold noteFrame;simp only[hf];refine yh (YX he hd h1 ?_);rcases tr with rfl|⟨T,oT,ts,y,rfl,hb,hne,hT,hdT,h3⟩
 ·rw[if_neg (by decide)];exact zYo hfr hf F h
 ·rw[if_pos (show(yZ T != Yk)=true from by simp)];refine yh (YX hT hdT h3 ?_)
  by_cases hy:(y==rawInt L)=true
  ·rw[if_pos hy];exact yy (h _ F (.refl _))
  ·rw[if_neg hy];have h3':=(Array.getElem?_eq_some_iff.mp h3).1;refine yh (xt hT hdT h3' ?_)
   obtain⟨F',u⟩:=F.recW hb hT hdT (·.setIfInBounds 3 Yk)
    ⟨oe,vs,_,(yP _ _ hne).trans he,hc,hx,hd,h1,.inr ⟨T,_,_,.none,rfl,hb,hne,Yl _ hT (Ys (Yc hdT _)),Yc hdT _,by simp[h3']⟩⟩
   exact zYo hfr hf F' λh' F'' u'=>h h' F'' (u.trans u')
def zWo(hfr:A.frames=some (env::outer))(hf:env.frame=some L)(F:Fly B (env::outer) e cls dx s.heap)(h:∀h',Fly B outer e cls dx h'->s.heap.UpToSlots h'->Q () {s with heap:=h' }) :
 yw M A (leaving env (.ref e)) Q E s:=by
 unfold leaving;refine yh (zGi hfr hf F λh1 F1 u1=>?_);refine zBg (s:={s with heap:=h1 }) F1 λh2 F2 u2=>?_;exact h h2 ⟨F2.st,F2.new,F2.ff.2.2,F2.ob⟩ (u1.trans u2)
end
def tR.there{P:yu}{w:yI}{H:Hp}{h:yS}{a:yc}{o:HO}(x:tR P w H h a o):∃u,h.get? a=some u:=by
 cases o with
 |lst xs=>obtain⟨_,_,_,_,e⟩:=x;exact⟨_,e⟩
 |tup xs=>obtain⟨_,_,_,o,e,_⟩:=x;exact⟨_,e⟩
 |dK kvs=>obtain⟨_,_,_,_,o,_,_,e,_⟩:=x;exact⟨_,e⟩
 |dT kvs=>obtain⟨_,_,_,_,o,_,_,e,_⟩:=x;exact⟨_,e⟩
 |set S n=>obtain⟨o,_,_,_,e,_⟩:=x;exact⟨_,e⟩
 |ins C dx fs=>obtain⟨_,_,_,e,_⟩:=x;exact⟨_,e⟩
 |own y=>obtain⟨_,e⟩:=x;exact⟨_,e⟩
 |xd fs=>obtain⟨_,⟨_,_,_,e,_⟩,_⟩:=x;exact⟨_,e⟩
 |rng lo hi=>obtain⟨_,_,_,e⟩:=x;exact⟨_,e⟩
 |frz ob u=>obtain⟨e,_⟩:=x;exact⟨_,e⟩
 |tbl ps=>exact⟨_,(show h.get? a=some _ from x)⟩
 |met f y=>exact⟨_,(show h.get? a=some _ from x)⟩
 |ext G=>obtain⟨_,⟨_,e⟩,_⟩:=x;exact⟨_,e⟩
structure Cov(outer:List Env)(H':Hp)(h B:yS):Prop where
 tr:∀b o,H' b=some o->∃u,B.get? b=some u
 old:∀b o,h.get? b=some o->b∉frs outer->∃u,B.get? b=some u
structure si(P:yu)(w:yI)(outer:List Env)(H:Hp)(s:yb)(C:ya)(dx:Option yc)(H':Hp)(e:ya)(s':yb):Prop where
 os:s'.os=s.os
 bare:AllBare s'.gens
 un:Un (frs outer) [] H H' s.heap s'.heap
 hok:HOk P w H' s'.heap
 fly:∃a B,e=.ref a/\Fly B outer a C dx s'.heap/\Cov outer H' s.heap B
def CXq(P:yu)(w:yI):CXT:=λouter H s E e s'=>∃C dx H',si P w outer H s C dx H' e s'/\E C dx H'
section
variable {P:yu}{w:yI}{outer:List Env}{H H':Hp}{h0 h h' B base:yS}
def zLi(u:Un (frs outer) [] H H' h0 h)(c:Cov outer H' h0 B)(st:B.StaysIn h)(st':B.StaysIn h')(sm:h.UpToSlots h')(ff:h0.FunFrames base outer)(frf:∀b∈frs outer,H b=none):Un (frs outer) [] H H' h0 h' where
 keep:=λb o q n hb hx=>by
  obtain⟨v,hv⟩:=c.old b o q hb;have e1:=u.keep b o q n hb hx;have e2:=st b v hv;rw[e1]at e2;cases e2;exact st' b o hv
 slot:=λb o q n hb hx=>by
  obtain⟨sl,e1⟩:=u.slot b o q n hb hx;obtain⟨_,o',ho',hd⟩:=ff.mem hb;rw[q]at ho';cases ho';obtain⟨sl',e2⟩:=sm b _ e1 hd;exact⟨sl',e2⟩
 free:=u.free
 there:=λb o q hx=>by
  by_cases hb:b∈frs outer
  ·obtain⟨sl,e1⟩:=u.slot b o q (frf b hb) hb hx;obtain⟨_,o',ho',hd⟩:=ff.mem hb;rw[q]at ho';cases ho';obtain⟨sl',e2⟩:=sm b _ e1 hd;exact⟨_,e2⟩
  ·obtain⟨v,hv⟩:=c.old b o q hb;exact⟨v,st' b v hv⟩
 tups:=u.tups
 Tp:=u.Tp
 Tq:=u.Tq
def zSh(x:HOk P w H' h)(c:Cov outer H' h0 B)(st:B.StaysIn h)(st':B.StaysIn h'):HOk P w H' h':=λa o e=>by
 refine(x a o e).stay (λb u hb q=>?_) (λ_ q=>q) λ_ _ q=>q
 have hb:∃o',H' b=some o':=by
  rcases hb with rfl|hb
  ·exact⟨_,e⟩
  ·exact⟨_,hb⟩
 obtain⟨o',hb⟩:=hb;obtain⟨v,hv⟩:=c.tr b o' hb;have e2:=st b v hv;rw[q]at e2;cases e2;exact st' b u hv
variable {X:Cx}{U:List (yc×Yw)}{Y:St}{s s':yb}{C:ya}{a:yc}{dx:Option yc}
def Inv.fly{B h':yS}(I:Inv X U Y H s)(F:si X.prog X.w X.stack H s C dx H' (.ref a) s')(c:Cov X.stack H' s.heap B)(st:B.StaysIn s'.heap)(st':B.StaysIn h')(sm:s'.heap.UpToSlots h'){t':Nat}{d':Drawn} :
 Inv X U Y H' {s' with heap:=h',toks:=t',drawn:=d' } :=
 I.sW F.os (zLi F.un c st st' sm I.stack I.Te) (zSh F.hok c st st') F.bare λb z=>absurd z (by simp)
def Inv.madeX{h':yS}{vs:List ya}(I:Inv X U Y H s)(hm:Heap.MadeExcOf s.heap h' a C vs):si X.prog X.w X.stack H s C none H (.ref a) {s with heap:=h' }:=by
 have hin:∀env∈X.stack,∀b,env.frame=some b->b∈frs X.stack:=λenv he b hb=>List.mem_filterMap.mpr ⟨env,he,hb⟩;obtain⟨t,he,_,_⟩:=hm.there
 have hn:(YA s.heap (frs X.stack)).get? a=none:=by
  cases q:(YA s.heap (frs X.stack)).get? a with
  |none=>rfl
  |some o=>have:=W.of_hideAll _ q;rw[hm.new]at this;cases this
 refine⟨rfl,I.bare,Un.kept hm.keeps,I.hok.kept hm.keeps,a,YA s.heap (frs X.stack),rfl,⟨λb o q=>hm.keeps b o (W.of_hideAll _ q),hn,?_,⟨_,_,_,he,rfl,rfl,rfl,rfl,.inl rfl⟩⟩,?_⟩
 ·exact(W.funFrames_hide I.stack hin).of_keeps λb o hb _=>⟨o,hm.keeps b o hb,rfl⟩
 ·exact⟨λb o q=>by
   obtain⟨u,hu⟩:=(I.hok b o q).there;exact⟨u,W.hideAll_get _ hu λhm=>by rw[I.Te b hm]at q;cases q⟩,λb o q hb=>⟨o,W.hideAll_get _ q hb⟩⟩
end
def zXc(X:Cx)(C:ya)(dx:Option yc)(H':Hp):Prop:=∀U Y H s e s',Inv X U Y H s->si X.prog X.w X.stack H s C dx H' e s'->X.xe e s'
def passX{X:Cx}:zal (CXq X.prog X.w) X (zXc X):=λU Y H s e s' I ⟨C,dx,H',F,q⟩=>q U Y H s e s' I F
section
variable {P:yu}{w:yI}{K:yr}{mg:yg->Option ya}{base:yS}{N:List yg}{qual:yg}{scope:YZ}{f:yc}{cd:ya}{A:yF}{outer:List Env}{s:yb}{H H':Hp}{E:XK}{C:ya}{dx:Option yc}
def zGr{X:Cx}{U:List (yc×Yw)}{Y:St}{H1:Hp}{s1:yb}{B:yS}(I:Inv X U Y H1 s1)(hs:X.stack=X.env::X.outer)(hf:X.env.frame=some X.env.locals)(hex:X.ex=[])(c:Cov X.stack H' s1.heap B):Cov X.outer H' X.s₀.heap B where
 tr:=c.tr
 old:=λb o q hb=>by
  obtain⟨o1,e1⟩:=I.base.there b o q (by rw[hex];simp);refine c.old b o1 e1 ?_;rw[hs];unfold frs;rw[filterMap_cons,hf];intro hm;rcases List.mem_cons.mp hm with rfl|hm
  ·exact absurd (yp (ym q) I.ok.above) (Yh _)
  ·exact hb hm
def zcn(hE:E C dx H'):zXc (zLn (CXq P w) P w K mg base N qual scope f cd A outer s H E) C dx H':=by
 intro U Y H1 s1 e s' I F;have hf:(envOfC qual scope s.heap.objs.size f cd).frame=some (envOfC qual scope s.heap.objs.size f cd).locals:=rfl;obtain⟨a,B,rfl,fl,c⟩:=F.fly;refine zWo I.ok.frames hf fl λh'' fl' sm=>?_;have δ:Inv (zLn (CXq P w) P w K mg base N qual scope f cd A outer s H E) U Y H' {s' with heap:=h'' }:=I.fly F c fl.st fl'.st sm;exact⟨C,dx,H',⟨δ.os,δ.bare,δ.base,δ.hok,a,B,rfl,fl',zGr (X:=zLn (CXq P w) P w K mg base N qual scope f cd A outer s H E) I rfl rfl rfl c⟩,hE⟩
end
end L2
namespace M
open PySem PySem.Spec PyProof.Rows L2
inductive D where
 |non|bl (b:Bool)|int (i:Int)|str (x:yg)|ty (n:String)
  |tup (ds:List D)
  |fz (ds:List D)
  |loc (n:Nat)
  |own (c:yg)
inductive tI where
 |lst (ds:List D)
  |dct (kvs:List (Int×D))
  |dcf (kvs:List (Int×D))
  |exc (c:yg) (fs:List (yg×D))
  |ins (c:yg) (fs:List (yg×D))
abbrev Mem:=List tI
def zXm(a C:yc)(dx:Option yc):yS->Prop:=λh=>∃o vs,h.get? a=some o/\o.cls=.ref C/\o.dict=dx/\o.data=.fields vs
abbrev Loc:=List (Option D)
section
variable (K:yr)
def FzL(H:Hp)(a:yc)(vs:List V):Prop :=
 (∃o,H a=some (.frz o (.lst vs)))\/∃(o:Yw)(its:Array ya)(n:Nat),K.lookup a=some o/\o.cls=.type "list"/\o.dict=none/\o.data=.seq its n/\its.size<=yB/\Vals vs its.toList
mutual
def tu(Z:List yc)(H:Hp):D->V->Prop
 |.non,v=>v=.non
 |.bl b,v=>v=.bl b
 |.int i,v=>v=.int i
 |.str x,v=>v=.str x
 |.ty n,v=>v=.ty n
 |.tup ds,v=>∃a vs,v=.ref a/\H a=some (.tup vs)/\tf Z H ds vs
 |.fz ds,v=>∃a vs,v=.ref a/\FzL K H a vs/\tf Z H ds vs
 |.loc n,v=>∃a,v=.ref a/\Z[n]?=some a
 |.own c,v=>∃a,v=.ref a/\yK K ye c=some (some (.ref a))
def tf(Z:List yc)(H:Hp):List D->List V->Prop
 |[],vs=>vs=[]
 |d::ds,vs=>∃v r,vs=v::r/\tu Z H d v/\tf Z H ds r
end
def sj(Z:List yc)(H:Hp)(fs:List (yg×D))(dx:Option yc):Prop:=(fs=[]/\dx=none)\/∃p vs,dx=some p/\H p=some (.xd vs)/\vs.map (·.1)=fs.map (·.1)/\tf K Z H (fs.map (·.2)) (vs.map (·.2))
def sk(Z:List yc)(H:Hp)(a:yc):tI->Prop
 |.lst ds=>∃vs,H a=some (.lst vs)/\tf K Z H ds vs
 |.dct kvs=>∃vs,H a=some (.dK vs)/\vs.map (·.1)=kvs.map (λp=>Sum.inl p.1)/\tf K Z H (kvs.map (·.2)) (vs.map (·.2))
 |.dcf kvs=>∃o vs,H a=some (.frz o (.dK vs))/\vs.map (·.1)=kvs.map (λp=>Sum.inl p.1)/\tf K Z H (kvs.map (·.2)) (vs.map (·.2))
 |.exc c fs=>∃C dx,yK K ye c=some (some (.ref C))/\H a=some (.ext (zXm a C dx))/\sj K Z H fs dx
 |.ins c fs=>∃C dx vs,yK K ye c=some (some (.ref C))/\H a=some (.ins C dx vs)/\vs.map (·.1)=fs.map (·.1)/\tf K Z H (fs.map (·.2)) (vs.map (·.2))
structure tG(Z:List yc)(H:Hp)(O:Mem):Prop where
 nd:Z.Nodup
 len:Z.length=O.length
 at_:∀(n:Nat) a o,Z[n]?=some a->O[n]?=some o->sk K Z H a o
structure Ext(Z:List yc)(H:Hp)(Z':List yc)(H':Hp):Prop where
 pre:∃more,Z'=Z++more
 tup:∀a vs,H a=some (.tup vs)->H' a=some (.tup vs)
 frz:∀a o u,H a=some (.frz o u)->H' a=some (.frz o u)
 xd:∀a fs,H a=some (.xd fs)->H' a=some (.xd fs)
def sG(Z:List yc)(H:Hp)(Y:L2.St)(J:Loc):Prop:=∀(i:Nat) d,J[i]?=some (some d)->∃v,Y[i]?=some (some v)/\tu K Z H d v
end
section
variable {K:yr}{Z Z' Z'':List yc}{H H' H'':Hp}{O:Mem}{Y:L2.St}{J:Loc}
def Ext.refl:Ext Z H Z H:=⟨⟨[],by simp⟩,λ_ _ h=>h,λ_ _ _ h=>h,λ_ _ h=>h⟩
def Ext.trans(a:Ext Z H Z' H')(b:Ext Z' H' Z'' H''):Ext Z H Z'' H'':=by
 obtain⟨m,e⟩:=a.pre;obtain⟨m',e'⟩:=b.pre;exact⟨⟨m++m',by rw[e',e,append_assoc]⟩,λ_ _ h=>b.tup _ _ (a.tup _ _ h),λ_ _ _ h=>b.frz _ _ _ (a.frz _ _ _ h),λ_ _ h=>b.xd _ _ (a.xd _ _ h)⟩
def Ext.get(e:Ext Z H Z' H'){n:Nat}{a:yc}(h:Z[n]?=some a):Z'[n]?=some a:=by
 obtain⟨m,e⟩:=e.pre;rw[e,yE (List.getElem?_eq_some_iff.mp h).1];exact h
def Ext.fz(e:Ext Z H Z' H'){a:yc}{vs:List V}(h:FzL K H a vs):FzL K H' a vs:=by
 rcases h with ⟨o,h⟩|h
 ·exact .inl ⟨o,e.frz _ _ _ h⟩
 ·exact .inr h
mutual
def tu.ext(e:Ext Z H Z' H'):∀{d:D} {v:V},tu K Z H d v->tu K Z' H' d v
 |.non,_,h=>by unfold tu at h ⊢;exact h
 |.bl _,_,h=>by unfold tu at h ⊢;exact h
 |.int _,_,h=>by unfold tu at h ⊢;exact h
 |.str _,_,h=>by unfold tu at h ⊢;exact h
 |.ty _,_,h=>by unfold tu at h ⊢;exact h
 |.tup ds,_,h=>by
  unfold tu at h ⊢;obtain⟨a,vs,e1,e2,r⟩:=h;exact⟨a,vs,e1,e.tup _ _ e2,tf.ext e r⟩
 |.fz ds,_,h=>by
  unfold tu at h ⊢;obtain⟨a,vs,e1,e2,r⟩:=h;exact⟨a,vs,e1,e.fz e2,tf.ext e r⟩
 |.loc n,_,h=>by
  unfold tu at h ⊢;obtain⟨a,e1,e2⟩:=h;exact⟨a,e1,e.get e2⟩
 |.own c,_,h=>by unfold tu at h ⊢;exact h
def tf.ext(e:Ext Z H Z' H'):∀{ds:List D} {vs:List V},tf K Z H ds vs->tf K Z' H' ds vs
 |[],_,h=>by unfold tf at h ⊢;exact h
 |d::ds,_,h=>by
  unfold tf at h ⊢;obtain⟨v,r,e1,h1,h2⟩:=h;exact⟨v,r,e1,tu.ext e h1,tf.ext e h2⟩
end
def sG.ext(e:Ext Z H Z' H')(h:sG K Z H Y J):sG K Z' H' Y J:=λi d q=>
 let ⟨v,e1,r⟩:=h i d q
 ⟨v,e1,r.ext e⟩
def tf.length:∀{ds:List D} {vs:List V},tf K Z H ds vs->ds.length=vs.length
 |[],_,h=>by unfold tf at h;subst h;rfl
 |d::ds,_,h=>by
  unfold tf at h;obtain⟨v,r,e1,_,h2⟩:=h;subst e1;have:=tf.length h2;simp[this]
def tf.get:∀{ds:List D} {vs:List V} {i:Nat} {d:D},tf K Z H ds vs->ds[i]?=some d->∃v,vs[i]?=some v/\tu K Z H d v
 |[],_,_,_,_,q=>by simp at q
 |d::ds,_,0,d',h,q=>by
  unfold tf at h;obtain⟨v,r,e1,h1,_⟩:=h;subst e1;simp at q;subst q;exact⟨v,by simp,h1⟩
 |d::ds,_,i+1,d',h,q=>by
  unfold tf at h;obtain⟨v,r,e1,_,h2⟩:=h;subst e1;obtain⟨w,e2,h3⟩:=tf.get (i:=i) h2 (by simpa using q);exact⟨w,by simpa using e2,h3⟩
def tf.cons{d:D}{v:V}{ds:List D}{vs:List V}(h1:tu K Z H d v)(h2:tf K Z H ds vs):tf K Z H (d::ds) (v::vs):=by
 unfold tf;exact⟨v,vs,rfl,h1,h2⟩
def tf.nil:tf K Z H [] []:=by unfold tf;rfl
def tf.cons_inv{d:D}{ds:List D}{vs:List V}(h:tf K Z H (d::ds) vs):∃v r,vs=v::r/\tu K Z H d v/\tf K Z H ds r:=by
 unfold tf at h;exact h
def tf.nil_inv{vs:List V}(h:tf K Z H [] vs):vs=[]:=by unfold tf at h;exact h
def tf.append:∀{ds es:List D} {vs us:List V},tf K Z H ds vs->tf K Z H es us->tf K Z H (ds++es) (vs++us)
 |[],_,_,_,h,q=>by rw[h.nil_inv];exact q
 |d::ds,_,_,_,h,q=>by
  obtain⟨v,r,rfl,h1,h2⟩:=h.cons_inv;exact .cons h1 (tf.append h2 q)
def tf.take:∀{ds:List D} {vs:List V} (n:Nat),tf K Z H ds vs->tf K Z H (ds.take n) (vs.take n)
 |[],_,n,h=>by rw[h.nil_inv];simp[tf.nil]
 |d::ds,_,0,h=>by simp[tf.nil]
 |d::ds,_,n+1,h=>by
  obtain⟨v,r,rfl,h1,h2⟩:=h.cons_inv;simpa using tf.cons h1 (tf.take n h2)
def tf.drop:∀{ds:List D} {vs:List V} (n:Nat),tf K Z H ds vs->tf K Z H (ds.drop n) (vs.drop n)
 |[],_,n,h=>by rw[h.nil_inv];simp[tf.nil]
 |d::ds,_,0,h=>by simpa using h
 |d::ds,_,n+1,h=>by
  obtain⟨v,r,rfl,h1,h2⟩:=h.cons_inv;simpa using tf.drop n h2
def tf.set:∀{ds:List D} {vs:List V} {d:D} {v:V} (n:Nat),tu K Z H d v->tf K Z H ds vs->tf K Z H (ds.set n d) (vs.set n v)
 |[],_,_,_,n,_,h=>by rw[h.nil_inv];simp[tf.nil]
 |d::ds,_,_,_,0,q,h=>by
  obtain⟨v,r,rfl,h1,h2⟩:=h.cons_inv;simpa using tf.cons q h2
 |d::ds,_,_,_,n+1,q,h=>by
  obtain⟨v,r,rfl,h1,h2⟩:=h.cons_inv;simpa using tf.cons h1 (tf.set n q h2)
def tu.int_inv{i:Int}{v:V}(h:tu K Z H (.int i) v):v=.int i:=by unfold tu at h;exact h
def tu.tQ{i:Bool}{v:V}(h:tu K Z H (.bl i) v):v=.bl i:=by unfold tu at h;exact h
def tu.tL{v:V}(h:tu K Z H .non v):v=.non:=by unfold tu at h;exact h
def tu.str_inv{x:yg}{v:V}(h:tu K Z H (.str x) v):v=.str x:=by unfold tu at h;exact h
def tu.Sb{x:String}{v:V}(h:tu K Z H (.ty x) v):v=.ty x:=by unfold tu at h;exact h
def tu.tT{ds:List D}{v:V}(h:tu K Z H (.tup ds) v):∃a vs,v=.ref a/\H a=some (.tup vs)/\tf K Z H ds vs:=by unfold tu at h;exact h
def tu.TW{ds:List D}{v:V}(h:tu K Z H (.fz ds) v):∃a vs,v=.ref a/\FzL K H a vs/\tf K Z H ds vs:=by unfold tu at h;exact h
def tu.tJ{n:Nat}{v:V}(h:tu K Z H (.loc n) v):∃a,v=.ref a/\Z[n]?=some a:=by unfold tu at h;exact h
def tu.sH{c:yg}{v:V}(h:tu K Z H (.own c) v):∃a,v=.ref a/\yK K ye c=some (some (.ref a)):=by unfold tu at h;exact h
def tu.own{c:yg}{a:yc}(h:yK K ye c=some (some (.ref a))):tu K Z H (.own c) (.ref a):=by unfold tu;exact⟨a,rfl,h⟩
def tu.int{i:Int}:tu K Z H (.int i) (.int i):=by unfold tu;rfl
def tu.bl{i:Bool}:tu K Z H (.bl i) (.bl i):=by unfold tu;rfl
def tu.non:tu K Z H .non .non:=by unfold tu;rfl
def tu.str{x:yg}:tu K Z H (.str x) (.str x):=by unfold tu;rfl
def tu.ty{x:String}:tu K Z H (.ty x) (.ty x):=by unfold tu;rfl
def tu.tup{ds:List D}{a:yc}{vs:List V}(e:H a=some (.tup vs))(h:tf K Z H ds vs):tu K Z H (.tup ds) (.ref a):=by unfold tu;exact⟨a,vs,rfl,e,h⟩
def tu.fz{ds:List D}{a:yc}{vs:List V}(e:FzL K H a vs)(h:tf K Z H ds vs):tu K Z H (.fz ds) (.ref a):=by unfold tu;exact⟨a,vs,rfl,e,h⟩
def tu.loc{n:Nat}{a:yc}(e:Z[n]?=some a):tu K Z H (.loc n) (.ref a):=by unfold tu;exact⟨a,rfl,e⟩
def FzL.sq{a:yc}{vs:List V}(h:FzL K H a vs):SqL K H a vs:=by
 rcases h with h|h
 ·exact .inl (.inr h)
 ·exact .inr h
def sk.some{a:yc}{o:tI}(h:sk K Z H a o):∃u,H a=some u:=by
 cases o with
 |lst ds=>obtain⟨vs,e,_⟩:=h;exact⟨_,e⟩
 |dct kvs=>obtain⟨vs,e,_⟩:=h;exact⟨_,e⟩
 |dcf kvs=>obtain⟨o,vs,e,_⟩:=h;exact⟨_,e⟩
 |exc c fs=>obtain⟨C,dx,_,e,_⟩:=h;exact⟨_,e⟩
 |ins c fs=>obtain⟨C,dx,vs,_,e,_⟩:=h;exact⟨_,e⟩
def tG.mem_some(R:tG K Z H O){a:yc}(h:a∈Z):∃u,H a=some u:=by
 obtain⟨n,h1,e⟩:=List.mem_iff_getElem.mp h;have h2:n<O.length:=by rw[<-R.len];exact h1
 exact(R.at_ n a O[n] (by rw[yG h1,e]) (by simp[h2])).some
def sj.ext{fs:List (yg×D)}{dx:Option yc}(e:Ext Z H Z' H')(h:sj K Z H fs dx):sj K Z' H' fs dx:=by
 rcases h with h|⟨p,vs,e1,e2,e3,r⟩
 ·exact .inl h
 ·exact .inr ⟨p,vs,e1,e.xd _ _ e2,e3,r.ext e⟩
def sk.ext{a:yc}{o:tI}(e:Ext Z H Z' H')(h:sk K Z H a o)(s:H' a=H a):sk K Z' H' a o:=by
 cases o with
 |lst ds=>obtain⟨vs,q,r⟩:=h;exact⟨vs,s.trans q,r.ext e⟩
 |dct kvs=>obtain⟨vs,q,q2,r⟩:=h;exact⟨vs,s.trans q,q2,r.ext e⟩
 |dcf kvs=>obtain⟨o,vs,q,q2,r⟩:=h;exact⟨o,vs,s.trans q,q2,r.ext e⟩
 |exc c fs=>obtain⟨C,dx,n,q,r⟩:=h;exact⟨C,dx,n,s.trans q,r.ext e⟩
 |ins c fs=>obtain⟨C,dx,vs,n,q,q2,r⟩:=h;exact⟨C,dx,vs,n,s.trans q,q2,r.ext e⟩
def Ext.new{p:yc}{o:HO}(hp:H p=none):Ext Z H Z (upd H p o) :=
 ⟨⟨[],by simp⟩,λa vs e=>by rw[zO (zy e hp)];exact e,λa o u e=>by rw[zO (zy e hp)];exact e,λa fs e=>by rw[zO (zy e hp)];exact e⟩
def tG.other(R:tG K Z H O)(e:Ext Z H Z H')(s:∀a∈Z,H' a=H a):tG K Z H' O :=
 ⟨R.nd,R.len,λn a o h1 h2=>(R.at_ n a o h1 h2).ext e (s a (mem_of_getElem? h1))⟩
def tG.Tr(R:tG K Z H O){p:yc}{o:HO}(hp:H p=none):tG K Z (upd H p o) O :=
 R.other (Ext.new hp) λa ha=>by
  obtain⟨u,e⟩:=R.mem_some ha;exact zO (zy e hp)
def Ext.push{p:yc}{o:HO}(hp:H p=none):Ext Z H (Z++[p]) (upd H p o) :=
 ⟨⟨[p],rfl⟩,(Ext.new (Z:=Z) hp).tup,(Ext.new (Z:=Z) hp).frz,(Ext.new (Z:=Z) hp).xd⟩
def tG.push(R:tG K Z H O){p:yc}{o:HO}{lo:tI}(hp:H p=none)(h:sk K (Z++[p]) (upd H p o) p lo):tG K (Z++[p]) (upd H p o) (O++[lo]):=by
 refine⟨?_,by simp[R.len],λn a u h1 h2=>?_⟩
 ·rw[List.nodup_append];refine⟨R.nd,by simp,λa ha b hb=>?_⟩;simp at hb;subst hb;obtain⟨u,e⟩:=R.mem_some ha;exact zy e hp
 ·by_cases hn:n<Z.length
  ·rw[yE hn]at h1;rw[yE (by rw[<-R.len];exact hn)]at h2;have q:=R.at_ n a u h1 h2;obtain⟨z,e⟩:=q.some;exact q.ext (Ext.push hp) (zO (zy e hp))
  ·have hl:n<(Z++[p]).length:=(List.getElem?_eq_some_iff.mp h1).1;have e:n=Z.length:=by simp at hl;omega
   subst e;rw[yA (yo _)]at h1;rw[R.len,yA (yo _)]at h2;simp at h1 h2;subst h1 h2;exact h
def z8c{p:yc}(R:tG K Z H O):(Z++[p])[O.length]?=some p:=by
 rw[<-R.len];simp
def Ext.wr{p:yc}{o:HO}(hm:Mut (H p)):Ext Z H Z (upd H p o) :=
 ⟨⟨[],by simp⟩,λa vs e=>by rw[zO (by rintro rfl;rw[e]at hm;exact hm)];exact e,λa o u e=>by rw[zO (by rintro rfl;rw[e]at hm;exact hm)];exact e,λa fs e=>by rw[zO (by rintro rfl;rw[e]at hm;exact hm)];exact e⟩
def tG.wr(R:tG K Z H O){n:Nat}{p:yc}{o:HO}{lo:tI}(hm:Mut (H p))(hn:Z[n]?=some p)(h:sk K Z (upd H p o) p lo):tG K Z (upd H p o) (O.set n lo):=by
 have hlt:=(List.getElem?_eq_some_iff.mp hn).1;refine⟨R.nd,by simp[R.len],λm a u h1 h2=>?_⟩
 by_cases hmn:m=n
 ·subst hmn;rw[hn]at h1;cases h1;rw[Yb (by rw[<-R.len];exact hlt)]at h2;cases h2;exact h
 ·rw[yT (Yg hmn)]at h2
  have hap:a≠p:=by
   rintro rfl;obtain⟨x1,y1⟩:=List.getElem?_eq_some_iff.mp h1;obtain⟨x2,y2⟩:=List.getElem?_eq_some_iff.mp hn;exact hmn ((List.getElem_inj R.nd).mp (y1.trans y2.symm))
  exact(R.at_ m a u h1 h2).ext (Ext.wr hm) (zO hap)
end
abbrev FE:=Loc->Mem->Option (D×Mem)
abbrev FT:=Loc->Mem->Option (Bool×Mem)
abbrev FA:=Loc->Mem->Option (List D×Mem)
inductive Out where
 |next (J:Loc) (O:Mem)|ret (d:D) (O:Mem)|brk (J:Loc) (O:Mem)|cont (J:Loc) (O:Mem)
  |exc (c:yg) (fs:List (yg×D)) (O:Mem)
abbrev FS:=Loc->Mem->Option Out
section
variable (K:yr)
structure At(Z:List yc)(H:Hp)(Y:L2.St)(J:Loc)(O:Mem):Prop where
 st:sG K Z H Y J
 hp:tG K Z H O
 len:Y.length=J.length
def tM(G:FE):TE:=λY H Q=>∃Z J O d O',At K Z H Y J O/\G J O=some (d,O')/\∀Z' H' v,Ext Z H Z' H'->tG K Z' H' O'->tu K Z' H' d v->Q v H'
def tMT(G:FT):TT:=λY H Q=>∃Z J O b O',At K Z H Y J O/\G J O=some (b,O')/\∀Z' H',Ext Z H Z' H'->tG K Z' H' O'->Q b H'
def tMA(G:FA):TA:=λY H Q=>∃Z J O ds O',At K Z H Y J O/\G J O=some (ds,O')/\∀Z' H' vs,Ext Z H Z' H'->tG K Z' H' O'->tf K Z' H' ds vs->Q vs H'
def TD(W:XK)(Z:List yc)(H:Hp)(E:Ends):Out->Prop
 |.next J' O'=>∀Z' Y' H',Ext Z H Z' H'->At K Z' H' Y' J' O'->E.nx Y' H'
 |.brk J' O'=>∀Z' Y' H',Ext Z H Z' H'->At K Z' H' Y' J' O'->E.bk Y' H'
 |.cont J' O'=>∀Z' Y' H',Ext Z H Z' H'->At K Z' H' Y' J' O'->E.ct Y' H'
 |.ret d O'=>∀Z' v H',Ext Z H Z' H'->tG K Z' H' O'->tu K Z' H' d v->E.rt v H'
 |.exc c fs O'=>∀Z' H' C dx,PySem.W.nsIn K ye c=some (some (.ref C))->Ext Z H Z' H'->tG K Z' H' O'->sj K Z' H' fs dx->W (.ref C) dx H'
def tMS(W:XK)(ψ:FS):TS:=λE Y H=>∃Z J O o,At K Z H Y J O/\ψ J O=some o/\TD K W Z H E o
end
def ME(X:Cx)(e:yt)(G:FE):Prop:=PE X e (tM X.K G)
def MT(X:Cx)(e:yt)(G:FT):Prop:=PT X e (tMT X.K G)
def MW(X:Cx)(e:yt)(G:FT):Prop:=PW X e (tMT X.K G)
def MA(X:Cx)(es:List yt)(G:FA):Prop:=PA X es (tMA X.K G)
def MS(X:Cx)(st:yQ)(ψ:FS):Prop:=PS X st (tMS X.K (zXc X) ψ)
def MSs(X:Cx)(st:List yQ)(ψ:FS):Prop:=PSs X st (tMS X.K (zXc X) ψ)
abbrev FF:=List D->Mem->Option (D×Mem)
def spM(K:yr)(n:Nat)(F:FF):Sp:=λvs H Q _=>vs.length=n/\∃Z ds O d O',tf K Z H ds vs/\tG K Z H O/\F ds O=some (d,O')/\∀Z' H' v,Ext Z H Z' H'->tG K Z' H' O'->tu K Z' H' d v->Q v H'
def At.ext{K:yr}{Z Z':List yc}{H H':Hp}{Y:L2.St}{J:Loc}{O O':Mem}(a:At K Z H Y J O)(e:Ext Z H Z' H')(R:tG K Z' H' O'):At K Z' H' Y J O':=⟨a.st.ext e,R,a.len⟩
def zIe{X:Cx}{e:yt}{t:TE}{G:FE}(h:PE X e t)(w:∀Z J O Y H d O' Q,At X.K Z H Y J O->G J O=some (d,O')->(∀Z' H' v,Ext Z H Z' H'->tG X.K Z' H' O'->tu X.K Z' H' d v->Q v H')->t Y H Q):ME X e G :=
 by intro U s Y H Q I hh;obtain⟨Z,J,O,d,O',a,e,k⟩:=hh;exact h U s Y H Q I (w Z J O Y H d O' Q a e k)
def zqr{X:Cx}{e:yt}{t:TT}{G:FT}(h:PT X e t)(w:∀Z J O Y H b O' Q,At X.K Z H Y J O->G J O=some (b,O')->(∀Z' H',Ext Z H Z' H'->tG X.K Z' H' O'->Q b H')->t Y H Q):MT X e G :=
 by intro U s Y H Q I hh;obtain⟨Z,J,O,d,O',a,e,k⟩:=hh;exact h U s Y H Q I (w Z J O Y H d O' Q a e k)
def zmt{X:Cx}{e:yt}{t:TT}{G:FT}(h:PW X e t)(w:∀Z J O Y H b O' Q,At X.K Z H Y J O->G J O=some (b,O')->(∀Z' H',Ext Z H Z' H'->tG X.K Z' H' O'->Q b H')->t Y H Q):MW X e G :=
 λwh U s Y H Q I ⟨Z,J,O,d,O',a,e,k⟩=>h wh U s Y H Q I (w Z J O Y H d O' Q a e k)
def zKs{X:Cx}{e:List yt}{t:TA}{G:FA}(h:PA X e t)(w:∀Z J O Y H ds O' Q,At X.K Z H Y J O->G J O=some (ds,O')->(∀Z' H' vs,Ext Z H Z' H'->tG X.K Z' H' O'->tf X.K Z' H' ds vs->Q vs H')->t Y H Q):MA X e G :=
 λpos U s Y H Q I ⟨Z,J,O,d,O',a,e,k⟩=>h pos U s Y H Q I (w Z J O Y H d O' Q a e k)
def zXj{X:Cx}{e:yQ}{t:TS}{ψ:FS}(h:PS X e t)(w:∀Z J O Y H o E,At X.K Z H Y J O->ψ J O=some o->TD X.K (zXc X) Z H E o->t E Y H):MS X e ψ :=
 by intro U s Y H E I hh;obtain⟨Z,J,O,o,a,e,k⟩:=hh;exact h U s Y H E I (w Z J O Y H o E a e k)
def zvq{X:Cx}{e:List yQ}{t:TS}{ψ:FS}(h:PSs X e t)(w:∀Z J O Y H o E,At X.K Z H Y J O->ψ J O=some o->TD X.K (zXc X) Z H E o->t E Y H):MSs X e ψ :=
 by intro U s Y H E I hh;obtain⟨Z,J,O,o,a,e,k⟩:=hh;exact h U s Y H E I (w Z J O Y H o E a e k)
end M
namespace M
open PySem PySem.Spec PyProof.Rows L2
def ze{α β:Type}{o:Option α}{f:α->Option β}{b:β}(h:o.bind f=some b):∃a,o=some a/\f a=some b:=by
 cases o with
 |none=>cases h
 |some a=>exact⟨a,rfl,h⟩
section
variable {X:Cx}{a b c e:yt}{es:List yt}{G ψ χ:FE}{pos:YD}
@[simp] def zk(i:Nat):FE:=λJ O=>match J[i]? with
 |some (some d)=>some (d,O)
 |_=>none
@[simp] def fC(d:D):FE:=λ_ O=>some (d,O)
def z1s{i:Nat}{x:yg}(h:PE X (.Name x pos) (zTu i)):ME X (.Name x pos) (zk i) :=
 zIe h λZ J O Y H d O' Q A e k=>by
  unfold zk at e
  split at e
  ·rename_i d' hd
   cases e;obtain⟨v,hv,r⟩:=A.st i _ hd;exact⟨v,hv,k Z H v Ext.refl A.hp r⟩
  ·cases e
def zwq{v:V}{d:D}(h:PE X e (tC v))(r:∀Z H,tu X.K Z H d v):ME X e (fC d) :=
 zIe h λZ J O Y H d' O' Q A e k=>by
  cases e;exact k Z H v Ext.refl A.hp (r Z H)
def zh{i j}:ME X (.Constant (.int i) j pos) (fC (.int i)):=zwq zUr λ_ _ =>.int
def zYm{i j}:ME X (.Constant (.bool i) j pos) (fC (.bl i)):=zwq ziu λ_ _ =>.bl
def zjm{j}:ME X (.Constant .none j pos) (fC .non):=zwq zys λ_ _ =>.non
def zr{x j}:ME X (.Constant (.str x) j pos) (fC (.str x)):=zwq zQs λ_ _ =>.str
def mv(i:Nat){x:yg}(hN:X.N[i]?=some x:=by rfl)(hv:Vis X.env.scope x:=by first|exact Or.inl rfl|exact Or.inr (Or.inl rfl)|exact Or.inr (Or.inr rfl))(hd:(x==("__debug__":yg))=false:=by decide)
 (hcd:(x==("__classdict__":yg))=false:=by decide):ME X (.Name x pos) (zk i):=z1s (zVr hN hv hd hcd)
def zji{x:yg}{i:Int}(hm:∃t,X.mg x=some (.int i t))(hg:Gl X x:=by rfl)(hd:(x==("__debug__":yg))=false:=by decide):ME X (.Name x pos) (fC (.int i)) :=
 let ⟨t,ht⟩:=hm
 zwq (zNl (v:=V.int i) hg ht ⟨t,rfl⟩ hd) λ_ _ =>.int
def zuj{x:yg}{T:String}(hm:X.mg x=none)(hb:yW x=some (.type T))(hg:Gl X x:=by rfl)(hn:x≠"__name__":=by decide)(hd:(x==("__debug__":yg))=false:=by decide):ME X (.Name x pos) (fC (.ty T)) :=
 zwq (zYq (v:=V.ty T) hg hm hb (show L2.RelV (V.ty T) (Value.type T) from rfl) hn hd) λ_ _ =>.ty
abbrev φ2:=D->D->Mem->Option (D×Mem)
def rM(K:yr)(g:φ2):R2:=λx y H Q=>∃Z dx dy O d O',tu K Z H dx x/\tu K Z H dy y/\tG K Z H O/\g dx dy O=some (d,O')/\∀Z' H' v,Ext Z H Z' H'->tG K Z' H' O'->tu K Z' H' d v->Q v H'
def OpM(X:Cx)(f:ya->ya->Sem ya)(g:φ2):Prop:=OpR X f (rM X.K g)
def OpM.of{X:Cx}{f:ya->ya->Sem ya}{g:φ2}(h:∀(U:List (yc×Yw)) (s:yb) (Y:L2.St) (H:Hp) (x y:V) (v u:ya) (Q:VK),Inv X U Y H s->RelV x v->RelV y u->∀(Z:List yc)(dx dy:D)(O:Mem)(d:D)(O':Mem),tu X.K Z H dx x->tu X.K Z H dy y->tG X.K Z H O->g dx dy O=some (d,O')->(∀Z' H' v,Ext Z H Z' H'->tG X.K Z' H' O'->tu X.K Z' H' d v->Q v H')->yw (yz X.prog X.w) X.A (f v u) (EP X U Y Q) X.xe s):OpM X f g:=by
 intro U s Y H x y v u Q I rx ry hh;obtain⟨Z,dx,dy,O,d,O',r1,r2,R,e,k⟩:=hh;exact h U s Y H x y v u Q I rx ry Z dx dy O d O' r1 r2 R e k
@[simp] def zw(g:φ2)(G ψ:FE):FE:=λJ O=>(G J O).bind λp=>(ψ J p.2).bind λq=>g p.1 q.1 q.2
def z1m{g:φ2}{Z:List yc}{J:Loc}{O:Mem}{Y:L2.St}{H:Hp}{d:D}{O':Mem}{Q:VK}(A:At X.K Z H Y J O)(e:zw g G ψ J O=some (d,O'))
 (k:∀Z' H' v,Ext Z H Z' H'->tG X.K Z' H' O'->tu X.K Z' H' d v->Q v H'):tOp (rM X.K g) (tM X.K G) (tM X.K ψ) Y H Q:=by
 obtain⟨⟨x,O1⟩,e1,e⟩:=ze e;obtain⟨⟨y,O2⟩,e2,e⟩:=ze e;refine⟨Z,J,O,x,O1,A,e1,λZ1 H1 v x1 R1 r1=>?_⟩;refine⟨Z1,J,O1,y,O2,A.ext x1 R1,e2,λZ2 H2 u x2 R2 r2=>?_⟩;exact⟨Z2,x,y,O2,d,O',r1.ext x2,r2,R2,e,λZ3 H3 w x3 R3 r3=>k Z3 H3 w (x1.trans (x2.trans x3)) R3 r3⟩
def zt{op:Operator}{g:φ2}(ho:OpM X (Yz op) g)(ha:ME X a G)(hb:ME X b ψ):ME X (.BinOp a op b pos) (zw g G ψ) :=
 zIe (zfu ho ha hb) λ_ _ _ _ _ _ _ _ A e k=>z1m A e k
def z4k{op:CmpOp}{g:φ2}(ho:OpM X (Yj op) g)(ha:ME X a G)(hb:ME X b ψ)(hm:behindInMarks op b=false:=by first|exact se _ (by decide) (by decide)|rfl|with_unfolding_all rfl):ME X (.Compare a [op] [b] pos) (zw g G ψ) :=
 zIe (zEq ho ha hb hm) λ_ _ _ _ _ _ _ _ A e k=>z1m A e k
@[simp] def zRc(G:FE):FT:=λJ O=>(G J O).bind λp=>match p.1 with
 |.bl b=>some (b,p.2)
 |_=>none
def zzm{J:Loc}{O O':Mem}{b:Bool}(h:zRc G J O=some (b,O')):G J O=some (.bl b,O'):=by
 obtain⟨⟨x,O1⟩,e1,e⟩:=ze h;dsimp only at e
 split at e
 ·cases e;exact e1
 ·cases e
def ztd{op:CmpOp}{g:φ2}(ho:OpM X (Yj op) g)(ha:ME X a G)(hb:ME X b ψ)(hm:behindInMarks op b=false:=by first|exact se _ (by decide) (by decide)|rfl|with_unfolding_all rfl):MT X (.Compare a [op] [b] pos) (zRc (zw g G ψ)) :=
 zqr (z1q ho ha hb hm) λZ J O Y H b O' Q A e k=>z1m (Q:=λx H'=>∃k,x=.bl k/\Q k H') A (zzm e) λZ' H' v x R r=>⟨b,r.tQ,k Z' H' x R⟩
@[simp] def z7f:φ2:=λx y O=>match x,y with
 |.int i,.int j=>some (.int (i+j),O)
 |.tup as,.tup bs=>bif decide (as.length+bs.length<=1000000) then some (.tup (as++bs),O) else none
 |.loc l,.loc m=>match O[l]?,O[m]? with
  |some (.lst as),some (.lst bs)=>bif decide (as.length+bs.length<=1000000) then some (.loc O.length,O++[.lst (as++bs)]) else none
  |_,_=>none
 |_,_=>none
@[simp] def zZq:φ2:=λx y O=>match x,y with
 |.int i,.int j=>some (.int (i-j),O)
 |_,_=>none
def zel(i j:Int):Bool:=decide (-(2^64)<i/\i<2^64)||decide (-(2^64)<j/\j<2^64)||(decide (i.natAbs<2^1000)&&decide (j.natAbs<2^1000))
def zvp{i j:Int}(h:zel i j=true):IntMulOk i j:=by
 unfold zel at h;rw[Bool.or_eq_true,Bool.or_eq_true,yN]at h;rcases h with (h|h)|⟨h1,h2⟩
 ·have h:=of_decide_eq_true h;exact .of_left (intBits_le_64 h.1 h.2)
 ·have h:=of_decide_eq_true h;exact .of_right (intBits_le_64 h.1 h.2)
 ·exact .of_le (m:=1000) (n:=1000) (intBits_le (of_decide_eq_true h1)) (intBits_le (of_decide_eq_true h2)) (by decide)
def zPi:φ2:=λx y O=>match x,y with
 |.int i,.int j=>bif zel i j then some (.int (i*j),O) else none
 |.tup ds,.int n=>bif decide (2<=n/\n<=1000/\0<ds.length/\ds.length<=1000) then some (.tup (yl n.toNat ds).flatten,O) else none
 |.loc l,.int n=>match O[l]? with
  |some (.lst ds)=>bif decide (n<=1000/\-(2^62)<=n/\ds.length<=1000) then some (.loc O.length,O++[.lst (yl n.toNat ds).flatten]) else none
  |_=>none
 |_,_=>none
@[simp] def zmn:φ2:=λx y O=>match x,y with
 |.int i,.int j=>bif decide (0<j) then some (.int (i%j),O) else none
 |_,_=>none
@[simp] def zQr:φ2:=λx y O=>match x,y with
 |.int i,.int j=>bif decide (0<j/\j<1606938044258990275541962092341162602522202993782792835301376) then some (.int (i / j),O) else none
 |_,_=>none
def zRu:φ2:=λx y O=>match x,y with
 |.int i,.int j=>bif decide (0<=j/\j<=100000/\i.natAbs<1606938044258990275541962092341162602522202993782792835301376) then some (.int (i^j.toNat),O) else none
 |_,_=>none
def zK{α:Type}{c:Bool}{o:Option α}{x:α}(h:(bif c then o else none)=some x):c=true/\o=some x:=by
 cases c with
 |true=>exact⟨rfl,h⟩
 |false=>cases h
def zUl{f:ya->ya->Sem ya}{g:φ2}{C:Int->Int->Prop}{h:Int->Int->Int}(o:OpR X f (rI C λi j =>.int (h i j)))
 (w:∀x y O d O',g x y O=some (d,O')->∃i j,x=.int i/\y=.int j/\C i j/\d=.int (h i j)/\O'=O):OpM X f g:=by
 refine OpM.of λU s Y H x y v u Q I rx ry Z dx dy O d O' r1 r2 R e k=>?_;obtain⟨i,j,rfl,rfl,hc,rfl,rfl⟩:=w _ _ _ _ _ e;refine o U s Y H x y v u Q I rx ry ⟨i,j,r1.int_inv,r2.int_inv,hc,?_⟩;exact k Z H _ Ext.refl R .int
def zSn:OpM X (Yz .Sub) zZq:=zUl (C:=λ_ _=>True) (h:=λi j=>i-j) (opI λ_ _ _ _ _ _ _ _ q=>sub_int q) λx y O d O' e=>by
 unfold zZq at e
 split at e
 ·cases e;exact⟨_,_,rfl,rfl,trivial,rfl,rfl⟩
 ·cases e
def zne:OpM X (Yz .Mod) zmn:=zUl (h:=λi j=>i%j) z4r λx y O d O' e=>by
 unfold zmn at e
 split at e
 ·obtain⟨h1,e⟩:=zK e;cases e;have h2:=of_decide_eq_true h1;exact⟨_,_,rfl,rfl,h2,rfl,rfl⟩
 ·cases e
def zGs(i j:Int):Prop:=0<j/\j<1606938044258990275541962092341162602522202993782792835301376
def zGp:OpR X (Yz .FloorDiv) (rI zGs λi j =>.int (i / j)):=opI λi j _ _ _ _ _ hc q=>by
 have h1:(0:Int)<j:=hc.1;have h2:j<1606938044258990275541962092341162602522202993782792835301376:=hc.2;refine floordiv_int (by omega) (by rw[Int.fdiv_eq_ediv_of_nonneg i (by omega)];exact q) (.inl (PyProof.noPylong_of_log2 ?_));have:j.natAbs.log2<200:=(Nat.log2_lt (by omega)).mpr (by rw[show 2^200=1606938044258990275541962092341162602522202993782792835301376 from rfl];omega);omega
def zGl:OpM X (Yz .FloorDiv) zQr:=zUl (C:=zGs) (h:=λi j=>i / j) zGp λx y O d O' e=>by
 unfold zQr at e
 split at e
 ·obtain⟨h1,e⟩:=zK e;cases e;have h2:=of_decide_eq_true h1;exact⟨_,_,rfl,rfl,h2,rfl,rfl⟩
 ·cases e
@[simp] def zFm(p:Int->Int->Bool):φ2:=λx y O=>match x,y with
 |.int i,.int j=>some (.bl (p i j),O)
 |_,_=>none
def zXl{f:ya->ya->Sem ya}{p:Int->Int->Bool}(o:OpR X f (rI0 λi j =>.bl (p i j))):OpM X f (zFm p):=by
 refine OpM.of λU s Y H x y v u Q I rx ry Z dx dy O d O' r1 r2 R e k=>?_;unfold zFm at e
 split at e
 ·cases e;exact o U s Y H x y v u Q I rx ry ⟨_,_,r1.int_inv,r2.int_inv,k Z H _ Ext.refl R .bl⟩
 ·cases e
def zBt:OpM X (Yj .Lt) (zFm λi j=>decide (i<j)):=zXl zFu
def zwm:OpM X (Yj .LtE) (zFm λi j=>decide (i<=j)):=zXl zSt
def zwo:OpM X (Yj .Gt) (zFm λi j=>decide (j<i)):=zXl ztu
@[simp] def zim(g g':φ2)(G ψ χ:FE):FE:=λJ O=>(G J O).bind λp=>(ψ J p.2).bind λq=>(g p.1 q.1 q.2).bind λr=>match r.1 with
 |.bl true=>(χ J r.2).bind λt=>g' q.1 t.1 t.2
 |.bl false=>some (.bl false,r.2)
 |_=>none
def zrm{op op':CmpOp}{g g':φ2}(ho:OpM X (Yj op) g)(ho':OpM X (Yj op') g')(ha:ME X a G)(hb:ME X b ψ)(hc:ME X c χ)
 (hm:lastMarks [op,op'] [b,c]=false:=by with_unfolding_all rfl):ME X (.Compare a [op,op'] [b,c] pos) (zim g g' G ψ χ) :=
 zIe (zrp ho ho' ha hb hc hm) λZ J O Y H d O' Q A e k=>by
  obtain⟨⟨x,O1⟩,e1,e⟩:=ze e;obtain⟨⟨y,O2⟩,e2,e⟩:=ze e;obtain⟨⟨z,O3⟩,e3,e⟩:=ze e;refine⟨Z,J,O,x,O1,A,e1,λZ1 H1 v x1 R1 r1=>?_⟩;refine⟨Z1,J,O1,y,O2,A.ext x1 R1,e2,λZ2 H2 u x2 R2 r2=>?_⟩;refine⟨Z2,x,y,O2,z,O3,r1.ext x2,r2,R2,e3,λZ3 H3 w x3 R3 r3=>?_⟩;dsimp only at e
  split at e
  ·rename_i hz
   refine⟨true,r3.tQ,sD ?_⟩;obtain⟨⟨t,O4⟩,e4,e⟩:=ze e;refine⟨Z3,J,O3,t,O4,A.ext (x1.trans (x2.trans x3)) R3,e4,λZ4 H4 w' x4 R4 r4=>?_⟩;exact⟨Z4,y,t,O4,d,O',r2.ext (x3.trans x4),r4,R4,e,λZ5 H5 w5 x5 R5 r5=>k Z5 H5 w5 (x1.trans (x2.trans (x3.trans (x4.trans x5)))) R5 r5⟩
  ·cases e;exact⟨false,r3.tQ,sO (k Z3 H3 _ (x1.trans (x2.trans x3)) R3 .bl)⟩
  ·cases e
@[simp] def zzk(G ψ:FE):FE:=λJ O=>(G J O).bind λp=>match p.1 with
 |.bl true=>ψ J p.2
 |.bl false=>some (.bl false,p.2)
 |_=>none
@[simp] def fOr(G ψ:FE):FE:=λJ O=>(G J O).bind λp=>match p.1 with
 |.bl false=>ψ J p.2
 |.bl true=>some (.bl true,p.2)
 |_=>none
@[simp] def zHt(G:FE):FE:=λJ O=>(G J O).bind λp=>match p.1 with
 |.bl b=>some (.bl (!b),p.2)
 |_=>none
def zCf{op}(h:ME X a G):ME X (.BoolOp op [a] pos) G:=zbt h
def zNd{zpe:List yt}(ha:ME X a G)(hb:ME X (.BoolOp .And (b::zpe) pos) ψ):ME X (.BoolOp .And (a::b::zpe) pos) (zzk G ψ) :=
 zIe (zdt ha hb) λZ J O Y H d O' Q A e k=>by
  obtain⟨⟨x,O1⟩,e1,e⟩:=ze e;refine⟨Z,J,O,x,O1,A,e1,λZ1 H1 v x1 R1 r1=>?_⟩;dsimp only at e
  split at e
  ·exact⟨true,r1.tQ,sD ⟨Z1,J,O1,d,O',A.ext x1 R1,e,λZ2 H2 w x2 R2 r2=>k Z2 H2 w (x1.trans x2) R2 r2⟩⟩
  ·cases e;exact⟨false,r1.tQ,sO (k Z1 H1 _ x1 R1 .bl)⟩
  ·cases e
def zcq(ha:ME X a G):ME X (.UnaryOp .Not a pos) (zHt G) :=
 zIe (zct ha) λZ J O Y H d O' Q A e k=>by
  obtain⟨⟨x,O1⟩,e1,e⟩:=ze e;refine⟨Z,J,O,x,O1,A,e1,λZ1 H1 v x1 R1 r1=>?_⟩;dsimp only at e
  split at e
  ·rename_i q
   cases e;exact⟨q,r1.tQ,k Z1 H1 _ x1 R1 .bl⟩
  ·cases e
@[simp] def z2q(G ψ:FT):FT:=λJ O=>(G J O).bind λp=>bif p.1 then ψ J p.2 else some (false,p.2)
@[simp] def zis(G ψ:FT):FT:=λJ O=>(G J O).bind λp=>bif p.1 then some (true,p.2) else ψ J p.2
@[simp] def z4m(G:FT):FT:=λJ O=>(G J O).bind λp=>some (!p.1,p.2)
def zAj{G:FE}(h:ME X a G)(he:∀whole,isTrue a X.env whole=(do let v <-whole;standAt a.pos;holding [v] (truthy v)):=by intro _;rfl):MT X a (zRc G) :=
 zqr (zvt h he) λZ J O Y H b O' Q A e k=>⟨Z,J,O,.bl b,O',A,zzm e,λZ' H' v x R r=>⟨b,r.tQ,k Z' H' x R⟩⟩
def MW.mt{G:FT}(h:MW X a G):MT X a G:=h _
def zkr{G:FT}(h:MT X a G):MW X (.BoolOp .And [a] pos) G:=ztr h
def zyq{G:FT}(h:MT X a G):MW X (.BoolOp .Or [a] pos) G:=znt h
def z8r{G ψ:FT}{zpe:List yt}(ha:MT X a G)(hb:MW X (.BoolOp .And (b::zpe) pos) ψ):MW X (.BoolOp .And (a::b::zpe) pos) (z2q G ψ) :=
 zmt (zls ha hb) λZ J O Y H b O' Q A e k=>by
  obtain⟨⟨x,O1⟩,e1,e⟩:=ze e;refine⟨Z,J,O,x,O1,A,e1,λZ1 H1 x1 R1=>?_⟩
  cases x with
  |true=>exact sD ⟨Z1,J,O1,b,O',A.ext x1 R1,e,λZ2 H2 x2 R2=>k Z2 H2 (x1.trans x2) R2⟩
  |false=>
   cases e;exact sO (k Z1 H1 x1 R1)
def zNr{G ψ:FT}{zpe:List yt}(ha:MT X a G)(hb:MW X (.BoolOp .Or (b::zpe) pos) ψ):MW X (.BoolOp .Or (a::b::zpe) pos) (zis G ψ) :=
 zmt (z1t ha hb) λZ J O Y H b O' Q A e k=>by
  obtain⟨⟨x,O1⟩,e1,e⟩:=ze e;refine⟨Z,J,O,x,O1,A,e1,λZ1 H1 x1 R1=>?_⟩
  cases x with
  |false=>exact sO ⟨Z1,J,O1,b,O',A.ext x1 R1,e,λZ2 H2 x2 R2=>k Z2 H2 (x1.trans x2) R2⟩
  |true=>
   cases e;exact sD (k Z1 H1 x1 R1)
def zHm{G:FT}(ha:MT X a G):MT X (.UnaryOp .Not a pos) (z4m G) :=
 zqr (zjs ha) λZ J O Y H b O' Q A e k=>by
  obtain⟨⟨x,O1⟩,e1,e⟩:=ze e;cases e;exact⟨Z,J,O,x,O1,A,e1,λZ1 H1 x1 R1=>k Z1 H1 x1 R1⟩
structure MAn(X:Cx)(es:List yt)(G:FA):Prop where
 ma:MA X es G
 len:∀J O ds O',G J O=some (ds,O')->ds.length=es.length
@[simp] def zx:FA:=λ_ O=>some ([],O)
@[simp] def zd(G:FE)(ψ:FA):FA:=λJ O=>(G J O).bind λp=>(ψ J p.2).bind λq=>some (p.1::q.1,q.2)
def zc:MAn X [] zx:=⟨zKs zro λZ J O Y H ds O' Q A e k=>by
 cases e;exact k Z H [] Ext.refl A.hp .nil,λ_ _ _ _ e=>by cases e;rfl⟩
def zVs:yt->Bool
 |.Starred ..=>false
 |_=>true
def zwd{e:yt}{es:List yt}{env:Env}(h:zVs e=true):yj (e::es) env=(false,Yi e env)::yj es env:=by
 cases e<;>first|rfl|cases h
def za{G:FE}{ψ:FA}(ha:ME X e G)(hr:MAn X es ψ)(hs:yj (e::es) X.env=(false,Yi e X.env)::yj es X.env:=by exact zwd rfl):MAn X (e::es) (zd G ψ) :=
 ⟨zKs (zjk ha hr.ma hs) λZ J O Y H ds O' Q A e k=>by
  obtain⟨⟨x,O1⟩,e1,e⟩:=ze e;obtain⟨⟨y,O2⟩,e2,e⟩:=ze e;cases e;refine⟨Z,J,O,x,O1,A,e1,λZ1 H1 v x1 R1 r1=>?_⟩;refine⟨Z1,J,O1,y,O2,A.ext x1 R1,e2,λZ2 H2 u x2 R2 r2=>?_⟩;exact k Z2 H2 _ (x1.trans x2) R2 (.cons (r1.ext x2) r2),λJ O ds O' e=>by
  obtain⟨⟨x,O1⟩,e1,e⟩:=ze e;obtain⟨⟨y,O2⟩,e2,e⟩:=ze e;cases e;have:=hr.len _ _ _ _ e2;simp[this]⟩
@[simp] def zxq(G:FA):FE:=λJ O=>(G J O).bind λp=>some (.tup p.1,p.2)
@[simp] def z4f(G:FA):FE:=λJ O=>(G J O).bind λp=>some (.loc p.2.length,p.2++[.lst p.1])
def zLk{x1}{G:FA}(h:MAn X es G)(hn:es.length<=1000:=by decide):ME X (.Tuple es x1 pos) (zxq G) :=
 zIe (zrq h.ma) λZ J O Y H d O' Q A e k=>by
  obtain⟨⟨x,O1⟩,e1,e⟩:=ze e;cases e;refine⟨Z,J,O,x,O1,A,e1,λZ1 H1 vs x1 R1 r1=>⟨?_,λp hp=>?_⟩⟩
  ·rw[<-r1.length,h.len _ _ _ _ e1];exact YO (Tn hn)
  ·exact k Z1 _ _ (x1.trans (Ext.new hp)) (R1.Tr hp) (.tup zW (r1.ext (Ext.new hp)))
def zTb{G:FA}(h:MAn X es G)(hn:es.length<=1000:=by decide):ME X (.List es pos) (z4f G) :=
 zIe (zfs h.ma) λZ J O Y H d O' Q A e k=>by
  obtain⟨⟨x,O1⟩,e1,e⟩:=ze e;cases e;refine⟨Z,J,O,x,O1,A,e1,λZ1 H1 vs x1 R1 r1=>⟨?_,λp hp=>?_⟩⟩
  ·rw[<-r1.length,h.len _ _ _ _ e1];exact YO (Tn hn)
  ·exact k _ _ _ (x1.trans (Ext.push hp)) (R1.push hp ⟨vs,zW,r1.ext (Ext.push hp)⟩) (.loc (z8c R1))
@[simp] def zv(F:FF)(G:FA):FE:=λJ O=>(G J O).bind λp=>F p.1 p.2
def zVq{k n:Nat}{f:yc}{fd:yf}{ps:List yg}{F:FF}{x:yg}{p:YD}{G:FA}(φ:tw X.prog X.w X.K X.mg X.base CX0 k f fd ps (spM X.K n F))(hr:tW k X.A)(hm:X.mg x=some (.ref f))(hk:W.keepIn X.K (.ref f)=true)(hb:Binds X.K fd ps [])
 (ha:MAn X (e::es) G) (hn:(e::es).length=n:=by rfl) (hg:Gl X x:=by rfl) (hdb:(x==("__debug__":yg))=false:=by decide) (he:yj (e::es) X.env=(false,Yi e X.env)::yj es X.env:=by exact zwd rfl) (hpl:(Ye pos (yj es X.env)).any (·.1)=false:=by rfl) :
 ME X (.Call (.Name x p) (e::es) [] pos) (zv F G) :=
 zIe (zZl φ hr hg hm hk hb .nil pass0 ha.ma hdb he hpl) λZ J O Y H d O' Q A e k=>by
  obtain⟨⟨x,O1⟩,e1,e⟩:=ze e;refine⟨Z,J,O,x,O1,A,e1,λZ1 H1 vs x1 R1 r1=>?_⟩;show spM X.K n F (vs++[]) H1 Q E0;rw[append_nil];exact⟨by rw[<-r1.length,ha.len _ _ _ _ e1];exact hn,Z1,x,O1,d,O',r1,R1,e,λZ2 H2 v x2 R2 r2=>k Z2 H2 v (x1.trans x2) R2 r2⟩
abbrev GL:=List D->Mem->Option (D×Mem)
def rCM(K:yr)(g:GL):List V->Hp->VK->Prop:=λvs H Q=>∃Z ds O d O',tf K Z H ds vs/\tG K Z H O/\g ds O=some (d,O')/\∀Z' H' v,Ext Z H Z' H'->tG K Z' H' O'->tu K Z' H' d v->Q v H'
def tS(X:Cx)(f:ya)(g:GL):Prop:=z1l X f (rCM X.K g)
def tS.of{X:Cx}{f:ya}{g:GL}(h:∀(U:List (yc×Yw)) (s:yb) (Y:L2.St) (H:Hp) (xs:List V) (us:List ya) (Q:VK),Inv X U Y H s->Vals xs us->∀(Z:List yc)(ds:List D)(O:Mem)(d:D)(O':Mem),tf X.K Z H ds xs->tG X.K Z H O->g ds O=some (d,O')->(∀Z' H' v,Ext Z H Z' H'->tG X.K Z' H' O'->tu X.K Z' H' d v->Q v H')->yw (yz X.prog X.w) X.A (call f us) (EP X U Y Q) X.xe s):tS X f g:=by
 intro U s Y H xs us Q I r hh;obtain⟨Z,ds,O,d,O',r1,R,e,k⟩:=hh;exact h U s Y H xs us Q I r Z ds O d O' r1 R e k
def zYu{g:GL}{G:FA}{Z:List yc}{J:Loc}{O:Mem}{Y:L2.St}{H:Hp}{d:D}{O':Mem}{Q:VK}(A:At X.K Z H Y J O)(e:zv g G J O=some (d,O'))
 (k:∀Z' H' v,Ext Z H Z' H'->tG X.K Z' H' O'->tu X.K Z' H' d v->Q v H'):tCB (rCM X.K g) (tMA X.K G) Y H Q:=by
 obtain⟨⟨x,O1⟩,e1,e⟩:=ze e;exact⟨Z,J,O,x,O1,A,e1,λZ1 H1 vs x1 R1 r1=>⟨Z1,x,O1,d,O',r1,R1,e,λZ2 H2 v x2 R2 r2=>k Z2 H2 v (x1.trans x2) R2 r2⟩⟩
def zP{g:GL}{id:String}{x:yg}{p:YD}{G:FA}(hc:tS X (.builtin id) g)(hm:X.mg x=none)(hv:yW x=some (.builtin id))(ha:MAn X (e::es) G)(hg:Gl X x:=by rfl)(hn:x≠"__name__":=by decide)(hdb:(x==("__debug__":yg))=false:=by decide)
 (he:yj (e::es) X.env=(false,Yi e X.env)::yj es X.env:=by exact zwd rfl) (hpl:(Ye pos (yj es X.env)).any (·.1)=false:=by rfl):ME X (.Call (.Name x p) (e::es) [] pos) (zv g G) :=
 zIe (zwp hc hg hm hv ha.ma hn hdb he hpl) λ_ _ _ _ _ _ _ _ A e k=>zYu A e k
def z5e{g:GL}{T:String}{x:yg}{p:YD}{G:FA}(hc:tS X (.type T) g)(hm:X.mg x=none)(hv:yW x=some (.type T))(ha:MAn X (e::es) G)(hg:Gl X x:=by rfl)(hn:x≠"__name__":=by decide)(hdb:(x==("__debug__":yg))=false:=by decide)
 (he:yj (e::es) X.env=(false,Yi e X.env)::yj es X.env:=by exact zwd rfl) (hpl:(Ye pos (yj es X.env)).any (·.1)=false:=by rfl):ME X (.Call (.Name x p) (e::es) [] pos) (zv g G) :=
 zIe (zIk hc hg hm hv ha.ma hn hdb he hpl) λ_ _ _ _ _ _ _ _ A e k=>zYu A e k
variable {K:yr}{Z:List yc}{H:Hp}{O:Mem}
@[simp] def items(O:Mem):D->Option (List D)
 |.tup ds=>some ds
 |.fz ds=>some ds
 |.loc n=>match O[n]? with
  |some (.lst ds)=>some ds
  |_=>none
 |_=>none
def zkl{d:D}{v:V}{ds:List D}(R:tG K Z H O)(r:tu K Z H d v)(e:items O d=some ds):∃p vs,v=.ref p/\(SqL K H p vs\/SqT K H p vs)/\tf K Z H ds vs:=by
 unfold items at e
 split at e
 ·cases e;obtain⟨a,vs,e1,e2,q⟩:=r.tT;exact⟨a,vs,e1,.inr (SqT.of e2),q⟩
 ·cases e;obtain⟨a,vs,e1,e2,q⟩:=r.TW;exact⟨a,vs,e1,.inl e2.sq,q⟩
 ·split at e
  ·rename_i h
   cases e;obtain⟨a,e1,e2⟩:=r.tJ;obtain⟨vs,e3,q⟩:=R.at_ _ _ _ e2 h;exact⟨a,vs,e1,.inl (SqL.of e3),q⟩
  ·cases e
 ·cases e
@[simp] def gIx:φ2:=λx y O=>match y with
 |.int i=>(items O x).bind λds=>(atI ds i).bind λd=>some (d,O)
 |_=>none
def zer{K:yr}{Z:List yc}{H:Hp}{ds:List D}{vs:List V}{i:Int}{d:D}(r:tf K Z H ds vs)(e:atI ds i=some d):∃v,atI vs i=some v/\tu K Z H d v:=by
 unfold atI at e ⊢;rw[r.length]at e;obtain⟨j,e1,e2⟩:=ze e;obtain⟨v,e3,q⟩:=r.get e2;exact⟨v,by rw[e1];exact e3,q⟩
def ixM:IxR X (rM X.K gIx):=by
 intro value slice U s Y H x y v u Q I rx ry ⟨Z,dx,dy,O,d,O',r1,r2,R,e,k⟩ hs;unfold gIx at e
 split at e
 ·obtain⟨ds,e1,e⟩:=ze e;obtain⟨d',e2,e⟩:=ze e;cases e;obtain⟨p,vs,rfl,hq,rr⟩:=zkl R r1 e1;obtain⟨w,e3,q⟩:=zer rr e2;rcases hq with hq|hq
  ·exact zfq value slice U s Y H _ y v u Q I rx ry (.inl ⟨p,vs,_,w,rfl,r2.int_inv,hq,e3,k Z H w Ext.refl R q⟩) hs
  ·exact zfq value slice U s Y H _ y v u Q I rx ry (.inr (.inl ⟨p,vs,_,w,rfl,r2.int_inv,hq,e3,k Z H w Ext.refl R q⟩)) hs
 ·cases e
def z4b(ha:ME X a G)(hb:ME X b ψ)(hs:zzl b:=by exact λ_ _=>rfl):ME X (.Subscript a b pos) (zw gIx G ψ) :=
 zIe (zkt ixM ha hb hs) λ_ _ _ _ _ _ _ _ A e k=>z1m A e k
@[simp] def zVo:GL:=λds O=>match ds with
 |[d]=>(items O d).bind λxs=>some (.int xs.length,O)
 |_=>none
def znd:tS X (.builtin "len") zVo:=by
 refine tS.of λU s Y H xs us Q I r Z ds O d O' r1 R e k=>?_;unfold zVo at e
 split at e
 ·obtain⟨ds,e1,e⟩:=ze e;cases e;obtain⟨v,rr,rfl,q1,q2⟩:=r1.cons_inv;have q2:=q2.nil_inv;subst q2;obtain⟨p,vs,rfl,hq,rr⟩:=zkl R q1 e1;exact zcl U s Y H _ us Q I r ⟨p,vs,rfl,hq,k Z H _ Ext.refl R (by rw[rr.length];exact .int)⟩
 ·cases e
@[simp] def z4t:GL:=λds O=>match ds with
 |[d]=>(items O d).bind λxs=>some (.loc O.length,O++[.lst xs])
 |_=>none
@[simp] def zod:GL:=λds O=>match ds with
 |[.tup xs]=>some (.tup xs,O)
 |[d]=>(items O d).bind λxs=>some (.tup xs,O)
 |_=>none
def zJb:tS X (.type "tuple") zod:=by
 refine tS.of λU s Y H xs us Q I r Z ds O d O' r1 R e k=>?_
 have key:∃x ys,ds=[x]/\items O x=some ys/\d=.tup ys/\O'=O:=by
  unfold zod at e
  split at e
  ·cases e;exact⟨_,_,rfl,rfl,rfl,rfl⟩
  ·obtain⟨ds,e1,e⟩:=ze e;cases e;exact⟨_,_,rfl,e1,rfl,rfl⟩
  ·cases e
 obtain⟨x,ys,rfl,e1,rfl,rfl⟩:=key;obtain⟨v,rr,rfl,q1,q2⟩:=r1.cons_inv;have q2:=q2.nil_inv;subst q2
 cases x with
 |tup zs=>
  cases e1;obtain⟨a,vs,rfl,e2,q⟩:=q1.tT;exact zZe U s Y H _ us Q I r ⟨a,vs,rfl,.inr ⟨SqT.of e2,k Z H _ Ext.refl R q1⟩⟩
 |fz zs=>
  cases e1;obtain⟨a,vs,rfl,e2,q⟩:=q1.TW;exact zZe U s Y H _ us Q I r ⟨a,vs,rfl,.inl ⟨e2.sq,λl hl=>k Z _ _ (Ext.new hl) (R.Tr hl) (.tup zW (q.ext (Ext.new hl)))⟩⟩
 |loc n=>
  unfold items at e1;dsimp only at e1
  split at e1
  ·rename_i h
   cases e1;obtain⟨a,rfl,e2⟩:=q1.tJ;obtain⟨vs,e3,q⟩:=R.at_ _ _ _ e2 h;exact zZe U s Y H _ us Q I r ⟨a,vs,rfl,.inl ⟨SqL.of e3,λl hl=>k Z _ _ (Ext.new hl) (R.Tr hl) (.tup zW (q.ext (Ext.new hl)))⟩⟩
  ·cases e1
 |_=>cases e1
end
def zyk{prog:yu}{w:yI}{A:yF}{R:Result->yb->Prop}{s:yb}{elt target iter:yt}{ifs:List yt}{scope:YZ}{pos:YD}{it acc:ya}{env:Env}(I:Nat->yb->Prop)
 (turn:∀n s,I n s->yw (yz prog w) A (pyNext it) (λr s₁=>match r with
  |none=>R (.ok .next) s₁
  |some v=>yw (yz prog w) A (letOwnedTupleGo target it v) (λ_ s₁'=>yw (yz prog w) A (assign target env v) (λ_ s₂=>
   yw (yz prog w) A (forIn ifs true λc r=>if r=true then do let ok <-isTrue c env (Yi c env);pure (Yn ok) else pure (Yn r)) (λok s₃=>
    if ok=true then yw (yz prog w) A (Yi elt env) (λx s₄=>
     yw (yz prog w) A (call (.builtin "list.append") [acc,x]) (λ_ s₅=>∃m,m<n/\I m s₅) (λ_ _=>False) s₄) (λ_ _=>False) s₃
    else ∃m,m<n/\I m s₃) (λ_ _=>False) s₂) (λ_ _=>False) s₁') (λ_ _=>False) s₁) (λ_ _=>False) s)
 (n:Nat) (h:I n s) :
 codeAny (yz prog w) A (.compLoop (.ListComp elt [⟨target,iter,ifs,0⟩] scope pos) 0 it acc env) R s:=by
 refine codeAny_loop rfl I (λn s hI=>?_) n h;show yw _ A ((compTurn (.ListComp elt [⟨target,iter,ifs,0⟩] scope pos) 0 it acc env).onRaise (λx=>do noteFrame x env;theTreesLotGoes x)) _ _ s;refine wpAny_noted ?_;rw[compTurn_list];refine yh (wpAny_standAt (yh (yX (turn n s hI) (λr s₁ h₁=>?_) λ_ _ h'=>h'.elim)))
 cases r with
 |none=>exact yy h₁
 |some v=>
  refine yh (yX h₁ (λ_ s₁' h₁=>?_) λ_ _ h'=>h'.elim);refine yh (yX h₁ (λ_ s₂ h₂=>yh (yX h₂ (λok s₃ h₃=>?_) λ_ _ h'=>h'.elim)) λ_ _ h'=>h'.elim)
  cases ok with
  |false=>exact yy ⟨rfl,h₃⟩
  |true=>
   exact yh (yh (yX h₃ (λx s₄ h₄=>yh (yX h₄ (λ_ s₅ h₅=>yy (yy ⟨rfl,h₅⟩)) λ_ _ h'=>h'.elim)) λ_ _ h'=>h'.elim))
def zcb(cells:List (yg×yc)):List (yg×YI)->List (yg×yc)->List (yg×yc)
 |[],acc=>acc
 |(n,k)::r,acc=>zcb cells r (if k == .free then(match cells.lookup n with|some c=>(n,c)::acc|none=>acc) else acc)
def zuh{env:Env}:∀(names:List (yg×YI)) (acc:List (yg×yc)),(∀x∈names,x.2=.free->∃c,env.cells.lookup x.1=some c) ->
 (forIn names acc λ(x:yg×YI) (cs:List (yg×yc))=>(match x with|(name,kind)=>if kind == .free then do let c <-cellOf env name;pure (Yn ((name,c)::cs)) else pure (Yn cs):Sem (ForInStep (List (yg×yc)))))=(pure (zcb env.cells names acc):Sem (List (yg×yc)))
 |[],acc,_=>rfl
 |(n,k)::r,acc,h=>by
  have ih:=λacc'=>zuh r acc' λx hx=>h x (mem_cons_of_mem _ hx);rw[List.forIn_cons]
  by_cases hk:k=.free
  ·subst hk;obtain⟨c,hc⟩:=h (n,.free) mem_cons_self rfl;have e:cellOf env n=pure c:=by unfold cellOf;rw[hc]
   have:zcb env.cells ((n,yn)::r) acc=zcb env.cells r ((n,c)::acc):=by
    show zcb env.cells r (if(yn==yn)=true then(match env.cells.lookup n with|some c=>(n,c)::acc|none=>acc) else acc)=_;rw[hc];rfl
   rw[this,<-ih];show((do let c <-cellOf env n;pure (Yn ((n,c)::acc))) >>= _:Sem _)=_;rw[e];rfl
  ·have hb:(k==yn)=false:=by simpa using hk
   have:zcb env.cells ((n,k)::r) acc=zcb env.cells r acc:=by
    show zcb env.cells r (if(k==yn)=true then _ else acc)=_;rw[hb];rfl
   rw[this,<-ih];simp only[hb,Bool.false_eq_true,if_false];rfl
def zrj{scope:YZ}{env:Env}(h:∀x∈scope.names,x.2=.free->∃c,env.cells.lookup x.1=some c):closureFor scope env=pure (zcb env.cells scope.names []):=by
 have e:=zuh (env:=env) scope.names [] h;unfold closureFor;show(forIn scope.names [] _ >>= λr=>pure r:Sem _)=_;rw[show(forIn scope.names ([]:List (yg×yc)) λ(x:yg×YI) (r:List (yg×yc))=>(match x with|(name,kind)=>if kind == .free then do let c <-cellOf env name;pure (Yn ((name,c)::r)) else pure (Yn r):Sem (ForInStep (List (yg×yc)))))=pure (zcb env.cells scope.names []) from e];rfl
def zMh{cells:List (yg×yc)}{x:yg}{c:yc}:∀(names:List (yg×YI)) (acc:List (yg×yc)),(zcb cells names acc).lookup x=some c->acc.lookup x=some c\/cells.lookup x=some c
 |[],_,h =>.inl h
 |(n,k)::r,acc,h=>by
  rcases zMh r _ h with q|q
  ·by_cases hk:(k==yn)=true
   ·rw[if_pos hk]at q
    cases e:cells.lookup n with
    |none=>rw[e]at q;exact .inl q
    |some a=>
     rw[e]at q;simp only[lookup_cons]at q
     by_cases hx:(x==n)=true
     ·rw[hx]at q;have hx':x=n:=by simpa using hx
      subst hx';cases q;exact .inr e
     ·have hx':(x==n)=false:=by simpa using hx
      rw[hx']at q;exact .inl q
   ·rw[if_neg hk]at q;exact .inl q
  ·exact .inr q
def zMn{cells:List (yg×yc)}{x:yg}:∀(names:List (yg×YI)) (acc:List (yg×yc)),(acc.lookup x).isSome=true->((zcb cells names acc).lookup x).isSome=true
 |[],_,h=>h
 |(n,k)::r,acc,h=>by
  refine zMn r _ ?_
  by_cases hk:(k==yn)=true
  ·rw[if_pos hk]
   cases e:cells.lookup n with
   |none=>exact h
   |some a=>
    simp only[lookup_cons]
    by_cases hx:(x==n)=true
    ·rw[hx];rfl
    ·have hx':(x==n)=false:=by simpa using hx
     rw[hx'];exact h
  ·rw[if_neg hk];exact h
def ziq{cells:List (yg×yc)}{x:yg}{c:yc}(hc:cells.lookup x=some c):∀(names:List (yg×YI)) (acc:List (yg×yc)),(x,yn)∈names->((zcb cells names acc).lookup x).isSome=true
 |[],_,h=>by cases h
 |(n,k)::r,acc,h=>by
  rcases List.mem_cons.mp h with h|h
  ·cases h;refine zMn r _ ?_;rw[if_pos (by rfl),hc];simp[lookup_cons]
  ·exact ziq hc r _ h
def cxC(X:Cx)(own:List yg)(fr:List Nat)(scope:YZ)(cl:List (yg×yc))(C:yc)(s₀:yb)(H₀:Hp)(fp:List yc):Cx :=
 {X with N:=own++fr.map λi=>X.N.getD i Str.empty,s₀:=s₀,H₀:=H₀,env:=compEnvC scope cl C X.env,outer:=X.stack,ex:=fp,fn:=λx=>scope.names.lookup x==some .cell,xe:=λ_ _=>False }
def σC(n:Nat)(fr:List Nat)(Y:L2.St):L2.St:=yl n none++fr.map λi=>(Y[i]?).getD none
def zWp(Y Y':L2.St):Prop:=Y'.length=Y.length/\∀(i:Nat) v,Y[i]?=some (some v)->Y'[i]?=some (some v)
def PF(X:Cx)(ifs:List yt)(t:TT):Prop:=∀(U:List (yc×Yw)) (s:yb) (Y:L2.St) (H:Hp) (Q:Bool->Hp->Prop),Inv X U Y H s->t Y H Q ->
 yw (yz X.prog X.w) X.A (forIn ifs true λc r=>if r=true then do let ok <-isTrue c X.env (Yi c X.env);pure (Yn ok) else pure (Yn r)) (TP X U Y Q) X.xe s
def zft{X:Cx}:PF X [] (λY H Q=>Q true H):=λU s Y H Q I h=>wpAny_tests_nil ⟨H,I,h⟩
def tLC(n:Nat)(fr:List Nat)(wi:TI)(g:TG)(tc:TT)(te:TE):TE:=λY H Q=>wi Y H λδ H1=>∃W:Nat->Nat->List V->Hp->Prop,(∃m,W 0 m [] H1)/\∀i m ys H,W i m ys H ->
 (δ.stop i H/\∀p,H p=none->Q (.ref p) (upd H p (.lst ys))) \/
 (δ.go i H/\ys.length<yB/\∀x H',δ.yld i H x H'->g x (σC n fr Y) H' λY2 H2=>zWp (σC n fr Y) Y2/\tc Y2 H2 λb H3=>
  if b=true then te Y2 H3 λy H4=>∃m',m'<m/\W (i+1) m' (ys++[y]) H4 else ∃m',m'<m/\W (i+1) m' ys H3)
section
variable {X:Cx}{own:List yg}{fr:List Nat}{scope:YZ}{U:List (yc×Yw)}{Y:L2.St}{H:Hp}{s:yb}
def zoe{env:Env}{x:yg}{k:YI}:∀{names:List (yg×YI)},(names.map λ(n,k)=>if(k==yn&&env.scope.kind == .function&&env.kindOf n==some .cell) then(n,yH) else(n,k)).lookup x=some k ->
 (k=.cell\/k=.free)->(x,yn)∈names\/(x,yH)∈names
 |[],h,_=>by simp at h
 |(n,k')::r,h,hk=>by
  rw[map_cons]at h
  by_cases hx:x=n
  ·subst hx
   by_cases hb:(k'==yn&&env.scope.kind == .function&&env.kindOf x==some .cell)=true
   ·have:k'=.free:=by
     simp only[yN,beq_iff_eq]at hb;exact hb.1.1
    subst this;exact .inl mem_cons_self
   ·have h2:((x,k')::r.map λ(n,k)=>if(k==yn&&env.scope.kind == .function&&env.kindOf n==some .cell) then(n,yH) else(n,k)).lookup x=some k:=by
     have e:(if(k'==yn&&env.scope.kind == .function&&env.kindOf x==some .cell)=true then(x,yH) else(x,k'))=(x,k'):=if_neg hb;rw[<-e];exact h
    simp only[lookup_cons,beq_self_eq_true]at h2;cases h2;rcases hk with rfl|rfl
    ·exact .inr mem_cons_self
    ·exact .inl mem_cons_self
  ·have hx':(x==n)=false:=by simpa using hx
   have h2:(r.map λ(n,k)=>if(k==yn&&env.scope.kind == .function&&env.kindOf n==some .cell) then(n,yH) else(n,k)).lookup x=some k:=by
    by_cases hb:(k'==yn&&env.scope.kind == .function&&env.kindOf n==some .cell)=true
    ·have e:(if(k'==yn&&env.scope.kind == .function&&env.kindOf n==some .cell)=true then(n,yH) else(n,k'))=(n,yH):=if_pos hb;have h3:((n,yH)::r.map λ(n,k)=>if(k==yn&&env.scope.kind == .function&&env.kindOf n==some .cell) then(n,yH) else(n,k)).lookup x=some k:=by rw[<-e];exact h
     simpa only[lookup_cons,hx'] using h3
    ·have e:(if(k'==yn&&env.scope.kind == .function&&env.kindOf n==some .cell)=true then(n,yH) else(n,k'))=(n,k'):=if_neg hb;have h3:((n,k')::r.map λ(n,k)=>if(k==yn&&env.scope.kind == .function&&env.kindOf n==some .cell) then(n,yH) else(n,k)).lookup x=some k:=by rw[<-e];exact h
     simpa only[lookup_cons,hx'] using h3
   rcases zoe h2 hk with q|q
   ·exact .inl (mem_cons_of_mem _ q)
   ·exact .inr (mem_cons_of_mem _ q)
def znh{env:Env}{x:yg}:∀{names:List (yg×YI)},names.lookup x=some .free ->
 (names.map λ(n,k)=>if(k==yn&&env.scope.kind == .function&&env.kindOf n==some .cell) then(n,yH) else(n,k)).lookup x=some .cell \/
 (names.map λ(n,k)=>if(k==yn&&env.scope.kind == .function&&env.kindOf n==some .cell) then(n,yH) else(n,k)).lookup x=some .free
 |[],h=>by simp at h
 |(n,k')::r,h=>by
  rw[map_cons]
  by_cases hx:x=n
  ·subst hx;simp only[lookup_cons,beq_self_eq_true]at h;cases h
   by_cases hb:(yn==yn&&env.scope.kind == .function&&env.kindOf x==some .cell)=true
   ·have e:(if(yn==yn&&env.scope.kind == .function&&env.kindOf x==some .cell)=true then(x,yH) else(x,yn))=(x,yH):=if_pos hb
    left
    show YT x ((if(yn==yn&&env.scope.kind == .function&&env.kindOf x==some .cell)=true then(x,yH) else(x,yn))::_)=_;rw[e];simp[lookup_cons]
   ·have e:(if(yn==yn&&env.scope.kind == .function&&env.kindOf x==some .cell)=true then(x,yH) else(x,yn))=(x,yn):=if_neg hb
    right
    show YT x ((if(yn==yn&&env.scope.kind == .function&&env.kindOf x==some .cell)=true then(x,yH) else(x,yn))::_)=_;rw[e];simp[lookup_cons]
  ·have hx':(x==n)=false:=by simpa using hx
   simp only[lookup_cons,hx']at h;have ih:=znh (env:=env) h
   have step:∀k,(r.map λ(n,k)=>if(k==yn&&env.scope.kind == .function&&env.kindOf n==some .cell) then(n,yH) else(n,k)).lookup x=some k ->
    YT x ((if(k'==yn&&env.scope.kind == .function&&env.kindOf n==some .cell)=true then(n,yH) else(n,k'))::(r.map λ(n,k)=>if(k==yn&&env.scope.kind == .function&&env.kindOf n==some .cell) then(n,yH) else(n,k)))=some k:=λk hk=>by
     by_cases hb:(k'==yn&&env.scope.kind == .function&&env.kindOf n==some .cell)=true
     ·rw[if_pos hb];simpa only[lookup_cons,hx'] using hk
     ·rw[if_neg hb];simpa only[lookup_cons,hx'] using hk
   rcases ih with ih|ih
   ·exact .inl (step _ ih)
   ·exact .inr (step _ ih)
def zci{b:yc}(I:Inv X U Y H s)(h1:b≠X.env.locals)(h2:b∉X.fs):b∉frs X.stack:=λz=>
 (List.mem_cons.mp (I.TV b z)).elim h1 h2
def σC_get{n:Nat}{i:Nat}{v:V}(h:(σC n fr Y)[i]?=some (some v)):n<=i/\∃j,fr[i-n]?=some j/\Y[j]?=some (some v):=by
 unfold σC at h
 by_cases hi:i<n
 ·rw[yE (by simpa using hi),xf]at h
  split at h<;>cases h
 ·have hi:n<=i:=xv hi;rw[yA (by simpa using hi),length_replicate,yO]at h
  cases e:fr[i-n]? with
  |none=>rw[e]at h;cases h
  |some j=>
   rw[e]at h;refine⟨hi,j,rfl,?_⟩;have h':(Y[j]?).getD none=some v:=yU h
   cases e2:Y[j]? with
   |none=>rw[e2]at h';cases h'
   |some o=>rw[e2]at h';exact congrArg some h'
def z6i:∀(names:List (yg×YI)) (n:Nat) (acc:List (yg×yc)),yL n names acc=yL n names []++acc
 |[],n,acc=>rfl
 |(x,k)::r,n,acc=>by
  unfold yL
  split
  ·rw[z6i r (n+1) ((x,n)::acc),z6i r (n+1) [(x,n)]];simp
  ·exact z6i r n acc
def zai:∀(names:List (yg×YI)) (n:Nat) (x:yg) (c:yc),(x,c)∈yL n names []->n<=c/\(x,yH)∈names
 |[],n,x,c,h=>by cases h
 |(y,k)::r,n,x,c,h=>by
  unfold yL at h
  split at h
  ·rename_i hk
   rw[z6i]at h;rcases List.mem_append.mp h with h|h
   ·obtain⟨h1,h2⟩:=zai r (n+1) x c h;exact⟨Nat.le_of_succ_le h1,mem_cons_of_mem _ h2⟩
   ·have e:(x,c)=(y,n):=by simpa using h
    cases e;rw[beq_iff_eq.mp hk];exact⟨yo _,mem_cons_self⟩
  ·obtain⟨h1,h2⟩:=zai r n x c h;exact⟨h1,mem_cons_of_mem _ h2⟩
def zdk{names:List (yg×YI)}{n:Nat}{acc:List (yg×yc)}{x:yg}{c:yc}(h:(yL n names acc).lookup x=some c):(yL n names []).lookup x=some c\/((yL n names []).lookup x=none/\acc.lookup x=some c):=by
 rw[z6i,List.lookup_append]at h
 cases e:(yL n names []).lookup x with
 |none=>rw[e]at h;exact .inr ⟨rfl,h⟩
 |some d=>rw[e]at h;exact .inl h
def zUq{names:List (yg×YI)}{n:Nat}{x:yg}(hn:∀y∈names,names.lookup y.1=some y.2)(h:(x,yn)∈names):(yL n names []).lookup x=none:=by
 cases e:(yL n names []).lookup x with
 |none=>rfl
 |some c=>
  have h1:=hn _ (zai _ _ _ _ (yM e)).2;have h2:=hn _ h;rw[h1]at h2;cases h2
def z8l{fp:List yc}{D C:yc}{lo:Nat}{h1:yS}{t:Nat}{mC:yg->Option ya}{oD:Yw}(I:Inv X U Y H s)(hf:∀b∈fp,z5o X U H b)(hfl:∀b∈fp,b<s.heap.objs.size)
 (hk:scope.kind=.function) (hnm:∀y∈scope.names,scope.names.lookup y.1=some y.2) (hfree:∀x∈scope.names,x.2=.free->(X.env.kindOf x.1=some .cell\/X.env.kindOf x.1=some .free))
 (hfr:∀i∈fr,∃x,X.N[i]?=some x/\scope.names.lookup x=some .free) (hlo:C<lo) (hOC:CellsOk h1 lo (yL lo scope.names []))
 (old:∀b o,s.heap.get? b=some o->h1.get? b=some o) (hD:s.heap.objs.size<=D) (hC:s.heap.objs.size<=C) (hDC:D≠C) (hDlo:D<lo) (eD:h1.get? D=some oD) (dD:∀v,oD.data≠.cell v) (nC:h1.Ns C mC) :
 Inv (cxC X own fr scope (yL lo scope.names (zcb X.env.cells scope.names [])) C s H fp) (U++[(D,oD)]) (σC own.length fr Y) H {s with heap:=h1,toks:=t }:=by
 have cl1:∀x c,(zcb X.env.cells scope.names []).lookup x=some c->X.env.cells.lookup x=some c:=λx c e=>by
  rcases zMh _ _ e with q|q
  ·cases q
  ·exact q
 have clH:∀x,(x,yn)∈scope.names->∃c,(yL lo scope.names (zcb X.env.cells scope.names [])).lookup x=some c/\X.env.cells.lookup x=some c:=λx hx=>by
  obtain⟨c,hc⟩:=I.ok.has x (hfree _ hx rfl);obtain⟨c',hc'⟩:=Option.isSome_iff_exists.mp (ziq hc scope.names [] hx);exact⟨c',by rw[z6i,List.lookup_append,zUq hnm hx];exact hc',cl1 _ _ hc'⟩
 have two:∀x c,(yL lo scope.names (zcb X.env.cells scope.names [])).lookup x=some c->((yL lo scope.names []).lookup x=some c/\lo<=c)\/X.env.cells.lookup x=some c:=λx c e=>by
  rcases zdk e with q|⟨_,q⟩
  ·exact .inl ⟨q,(zai _ _ _ _ (yM q)).1⟩
  ·exact .inr (cl1 _ _ q)
 have oldc:∀x c,X.env.cells.lookup x=some c->c<s.heap.objs.size:=λx c e=>by
  obtain⟨v,o,ho,_⟩:=I.cell x c e;exact ym ho
 have hslo:s.heap.objs.size<=lo:=yq hC (YO hlo)
 refine⟨⟨I.ok.mod,hk,I.ok.glob,I.ok.blt,hC,λx y c e1 e2=>?inj,λx hx=>?_,λx c hx e=>?cab,I.ok.hd,I.ok.frames,.inl rfl,λb hb=>⟨?_,λx c e=>?exf⟩,I.bs,yq I.ok.bsz I.sz,λb o e hb=>?_,λb hb=>?_,I.stack,I.Te⟩,
  rfl,I.bare,Un.kept old,⟨mC,nC,λi x v h1 h2 h3=>?_⟩,λx c e=>?cell,I.hok.fresh hC,λx c e=>?freeC,λp hp=>?_,I.hok.kept old,?_⟩
 case inj=>
  rcases two x c e1 with ⟨q1,l1⟩|q1
  ·rcases two y c e2 with ⟨q2,_⟩|q2
   ·exact name_of_addr hOC.apart (yM q1) (yM q2)
   ·exact absurd (yp (oldc y c q2) (yq hslo l1)) (Yh _)
  ·rcases two y c e2 with ⟨_,l2⟩|q2
   ·exact absurd (yp (oldc x c q1) (yq hslo l2)) (Yh _)
   ·exact I.ok.inj x y c q1 q2
 case cab=>
  have hx:(scope.names.lookup x==some .cell)=true:=hx;obtain⟨d,hd⟩:=Option.isSome_iff_exists.mp (W.cellsFrom_some scope.names lo [] (.inl (beq_iff_eq.mp hx)));rcases zdk (show(yL lo scope.names (zcb X.env.cells scope.names [])).lookup x=some c from e) with q|⟨q,_⟩
  ·exact yq hslo (zai _ _ _ _ (yM q)).1
  ·rw[q]at hd;cases hd
 case exf=>
  rcases two x c e with ⟨_,l⟩|q
  ·exact YF (yp (hfl b hb) (yq hslo l))
  ·exact(hf b hb).2.2.2.2.1 x c q
 case cell=>
  rcases two x c e with ⟨q,_⟩|q
  ·exact⟨none,(hOC.empty x c (yM q)).1⟩
  ·obtain⟨v,o,ho,hd⟩:=I.cell x c q;exact⟨v,o,old _ _ ho,hd⟩
 case freeC=>
  rcases two x c e with ⟨_,l⟩|q
  ·exact I.hok.fresh (yq hslo l)
  ·exact I.freeC x c q
 ·have hx':(relabel scope X.env).names.lookup x=some .cell\/(relabel scope X.env).names.lookup x=some .free:=hx
  have hm:(x,yn)∈scope.names\/(x,yH)∈scope.names:=by
   rcases hx' with h|h
   ·exact zoe (env:=X.env) h (.inl rfl)
   ·exact zoe (env:=X.env) h (.inr rfl)
  rcases hm with hm|hm
  ·obtain⟨c,e,_⟩:=clH x hm;exact⟨c,e⟩
  ·exact Option.isSome_iff_exists.mp (W.cellsFrom_some scope.names lo _ (.inl (hnm _ hm)))
 ·exact yJ (yp (hfl b hb) hC)
 ·rcases(hf b hb).2.2.2.1 with z|z
  ·exact I.ok.sC b o e z
  ·exact absurd (yp (ym e) (yq I.ok.bsz z)) (Yh _)
 ·exact zci I (hf b hb).2.1 (hf b hb).2.2.1
 ·obtain⟨hi,j,e1,e2⟩:=σC_get h2;have hjm:j∈fr:=mem_of_getElem? e1;obtain⟨y,ey,ly⟩:=hfr j hjm
  have hxy:x=y:=by
   have h1':(own++fr.map λi=>X.N.getD i Str.empty)[i]?=some x:=h1;rw[yA hi,yO,e1]at h1';have h1'':X.N.getD j Str.empty=x:=yU h1';rw[getD_eq_getElem?_getD,ey]at h1'';exact h1''.symm
  subst hxy;have hm:(x,yn)∈scope.names:=yM ly
  have hv:Vis X.env.scope x:=by
   rcases hfree _ hm rfl with q|q
   ·exact .inr (.inl q)
   ·exact .inr (.inr q)
  obtain⟨m,hn,hl⟩:=id I.loc;obtain⟨u,ru,q⟩:=hl j x v ey e2 hv;obtain⟨c,c1,c2⟩:=clH x hm;refine⟨u,ru,.inr ⟨znh (env:=X.env) ly,c,c1,?_⟩⟩;rcases q with ⟨k,_⟩|⟨k,c',e',z⟩
  ·rcases hfree _ hm rfl with q|q
   ·rw[show X.env.kindOf (x,yn).1=X.env.kindOf x from rfl,k]at q;cases q
   ·rw[show X.env.kindOf (x,yn).1=X.env.kindOf x from rfl,k]at q;cases q
  ·rw[c2]at e';cases e';obtain⟨o,ho,hd⟩:=z;exact⟨o,old _ _ ho,hd⟩
 ·have hp':p∈X.pn++(U++[(D,oD)]):=hp;rw[<-append_assoc]at hp';rcases List.mem_append.mp hp' with hp'|hp'
  ·obtain⟨a1,a2,a3,a4,a5⟩:=I.pin p hp';exact⟨old _ _ a1,a2,yJ (yp (ym a1) hC),zci I a3 a4,a5⟩
  ·have:p=(D,oD):=by simpa using hp'
   subst this;refine⟨eD,I.hok.fresh hD,hDC,λz=>?_,dD⟩;rcases List.mem_cons.mp (I.TV _ z) with z|z
   ·exact absurd (yp I.lt (z▸hD)) (Yh _)
   ·exact I.nofs hD z
 ·show(σC own.length fr Y).length=(own++fr.map λi=>X.N.getD i Str.empty).length;unfold σC;simp
end
def HOk.sI{P:yu}{w:yI}{H:Hp}{h:yS}{a:yc}{o:HO}(x:HOk P w H h)(hn:H a=none)(new:tR P w (upd H a o) h a o):HOk P w (upd H a o) h:=λb u e=>by
 by_cases hb:b=a
 ·subst hb;rw[zW]at e;cases e;exact new
 ·rw[zO hb]at e;exact(x b u e).stay (λc v _ q=>q) (λc q=>by rw[zO (zy q hn)];exact q) λc xs q=>by rw[zO (zy q hn)];exact q
def HOk.sameBut{P:yu}{w:yI}{H:Hp}{h h':yS}{a:yc}(x:HOk P w H h)(hn:H a=none)(sb:Heap.SameBut a h h'):HOk P w H h':=λb u e=>
 (x b u e).stay (λc v hc q=>(sb.2 c (by
  rintro rfl;rcases hc with rfl|hc
  ·rw[hn]at e;cases e
  ·rw[hn]at hc;cases hc)).trans q) (λ_ q=>q) λ_ _ q=>q
def sJ{M:Model}{A:yF}{E:ya->yb->Prop}{s:yb}{scope:YZ}{globals:yc}{cl:List (yg×yc)}{qual:yg}{env:Env}{Q:Env->yb->Prop}
 (hQ:Q (newEnv scope s.heap.objs.size globals (yL (s.heap.objs.size+1) scope.names cl) qual none .none (some env) builtinsNs) {s with heap:=pushCells (s.heap.push {cls:=.type "dict",data:=.dict #[]}) scope.names }) :
 yw M A (newFunctionEnv scope globals cl [] qual none .none (some env)) Q E s:=by
 simp only[newFunctionEnv,Option.isSome_some,if_true];refine yh (wpAny_alloc ?_);refine yh (wpAny_layCells _ (λname kind cells=>by cases hkc:kind==yH<;>simp[hkc]) _ _ _ _ ?_);rw[show({s with heap:=s.heap.push {cls:=.type "dict",data:=.dict #[]}}:yb).heap.objs.size=s.heap.objs.size+1 from xg ..];refine yh ?_;rw[List.forIn_nil];exact yy (yy hQ)
section
variable {X:Cx}{own:List yg}{fr:List Nat}{scope:YZ}
structure TX(X:Cx)(U:List (yc×Yw))(Y:L2.St)(H:Hp)(ys:List V)(D C:yc)(s:yb):Prop where
 inv:Inv X U Y (upd H D (.lst ys)) s
 free:H D=none
 freeC:upd H D (.lst ys) C=none
 own:∃m,s.heap.Ns C m
 notL:C≠X.env.locals
 young:X.s₀.heap.objs.size<=C
 notCell:∀x c,X.env.cells.lookup x=some c->c≠C
 notPin:∀p∈X.pn++U,p.1≠C
def zmr{elt tg iter:yt}{ifs:List yt}{pos:YD}{g:TG}{tc:TT}{te:TE}{U:List (yc×Yw)}{Y:L2.St}{s2:yb}{Qn:List V->Hp->Prop}{itv:ya}{RR:ya->yc->Result->yb->Prop}(own:List yg)(fr:List Nat)(hc:X.calm=true)
 (hg:∀cl C s₀ H₀ fp,PG (cxC X own fr scope cl C s₀ H₀ fp) tg g) (hq:∀cl C s₀ H₀ fp,PF (cxC X own fr scope cl C s₀ H₀ fp) ifs tc) (he:∀cl C s₀ H₀ fp,PE (cxC X own fr scope cl C s₀ H₀ fp) elt te)
 (hk:scope.kind=.function) (hnm:∀y∈scope.names,scope.names.lookup y.1=some y.2)
 (hfree:∀x∈scope.names,x.2=.free->(X.env.kindOf x.1=some .cell\/X.env.kindOf x.1=some .free)) (hfr:∀i∈fr,∃x,X.N[i]?=some x/\scope.names.lookup x=some .free)
 (h2:PIE X U Y tg (λδ H1=>∃W:Nat->Nat->List V->Hp->Prop,(∃m,W 0 m [] H1)/\∀i m ys H,W i m ys H ->
  (δ.stop i H/\Qn ys H)\/(δ.go i H/\ys.length<yB/\∀x H',δ.yld i H x H'->g x (σC own.length fr Y) H' λY2 H2=>zWp (σC own.length fr Y) Y2/\tc Y2 H2 λb H3=>
   if b=true then te Y2 H3 λy H4=>∃m',m'<m/\W (i+1) m' (ys++[y]) H4 else ∃m',m'<m/\W (i+1) m' ys H3)) itv s2)
 (fin:∀ys H D C s4,Qn ys H->TX X U Y H ys D C s4->RR (.ref D) C (.ok .next) s4) :
 yw (yz X.prog X.w) X.A (newList []) (λacc s₃=>yw (yz X.prog X.w) X.A (newFunctionEnv scope X.env.globals (zcb X.env.cells scope.names []) [] X.env.qual none .none (some X.env)) (λcenv s₄=>
  codeAny (yz X.prog X.w) X.A (.compStart (.ListComp elt [⟨tg,iter,ifs,0⟩] scope pos) 0 itv acc {cenv with scope:=relabel scope X.env }) (RR acc cenv.locals) s₄) X.xe s₃) X.xe s2:=by
 obtain⟨it,fp,tn,δ,H2,e,I2,T,st2,f2,W,⟨m0,w0⟩,turn⟩:=h2;subst e
 have hfl:∀b∈fp,b<s2.heap.objs.size:=λb hb=>by
  obtain⟨o,e,_⟩:=T.obj _ _ st2 b hb;exact ym e
 refine Yq (sJ ?_);dsimp only;generalize hH2:s2.heap.push {cls:=.type "list",dict:=none,data:=.seq ([]:List ya).toArray } = φ2;have hC:φ2.objs.size=s2.heap.objs.size+1:=by rw[<-hH2,xg]
 have hDC:s2.heap.objs.size≠φ2.objs.size:=by rw[hC];exact yJ (xw _)
 have hCle:s2.heap.objs.size<=φ2.objs.size:=by rw[hC];exact Nat.le_succ _
 have below:∀b,b<s2.heap.objs.size->b≠φ2.objs.size/\b≠s2.heap.objs.size:=λb hb=>⟨by rw[hC];exact yJ (Nat.lt_succ_of_lt hb),yJ hb⟩
 have hns₁:(pushCells (φ2.push {cls:=.type "dict",data:=.dict #[]}) scope.names).Ns φ2.objs.size (λ_=>none):=(Heap.Ns.new φ2 (.type "dict")).keeps λb o e=>pushCells_keeps _ _ _ _ e
 have hok₁:CellsOk (pushCells (φ2.push {cls:=.type "dict",data:=.dict #[]}) scope.names) (φ2.objs.size+1) (yL (φ2.objs.size+1) scope.names []):=by
  have:=cellsFrom_ok scope.names (φ2.push {cls:=.type "dict",data:=.dict #[]}) (φ2.objs.size+1) [] ⟨λ_ _ hm=>(nomatch hm),List.Pairwise.nil⟩ (by rw[xg];exact yo _);rw[xg]at this;exact this
 have hk₁:∀b o,φ2.get? b=some o->(pushCells (φ2.push {cls:=.type "dict",data:=.dict #[]}) scope.names).get? b=some o:=λb o e=>pushCells_keeps _ _ _ _ (yk _ e);generalize pushCells (φ2.push {cls:=.type "dict",data:=.dict #[]}) scope.names=h₁ at hns₁ hok₁ hk₁ ⊢;have old:∀b o,s2.heap.get? b=some o->h₁.get? b=some o:=λb o e=>hk₁ b o (hH2▸yk _ e);have hacc:h₁.get? s2.heap.objs.size=some {cls:=.type "list",data:=.seq ([]:List ya).toArray 0 }:=hk₁ _ _ (hH2▸yC _ rfl);generalize hXC:cxC X own fr scope (yL (φ2.objs.size+1) scope.names (zcb X.env.cells scope.names [])) φ2.objs.size s2 H2 fp=XC;have eenv:compEnvC scope (yL (φ2.objs.size+1) scope.names (zcb X.env.cells scope.names [])) φ2.objs.size X.env=XC.env:=by rw[<-hXC];rfl
 have eprog:XC.prog=X.prog:=by rw[<-hXC];rfl
 have ew:XC.w=X.w:=by rw[<-hXC];rfl
 have eA:XC.A=X.A:=by rw[<-hXC];rfl
 have eK:XC.K=X.K:=by rw[<-hXC];rfl
 have ecalm:XC.calm=true:=by rw[<-hXC];exact hc
 have exe:XC.xe=λ_ _=>False:=by rw[<-hXC];rfl
 have eloc:XC.env.locals=φ2.objs.size:=by rw[<-hXC];rfl
 have eex:XC.ex=fp:=by rw[<-hXC];rfl
 have efs:XC.fs=frs X.stack:=by rw[<-hXC];rfl
 have es0:XC.s₀=s2:=by rw[<-hXC];rfl
 have eH0:XC.H₀=H2:=by rw[<-hXC];rfl
 have epn:XC.pn=X.pn:=by rw[<-hXC];rfl
 have ecells:∀x c,XC.env.cells.lookup x=some c->X.env.cells.lookup x=some c\/φ2.objs.size<c:=λx c e=>by
  rw[<-hXC]at e;rcases zdk (show(yL (φ2.objs.size+1) scope.names (zcb X.env.cells scope.names [])).lookup x=some c from e) with q|⟨_,q⟩
  ·exact .inr (zai _ _ _ _ (yM q)).1
  ·rcases zMh _ _ q with q|q
   ·cases q
   ·exact .inl q
 have hg':PG XC tg g:=hXC▸hg _ _ _ _ _;have hq':PF XC ifs tc:=hXC▸hq _ _ _ _ _;have he':PE XC elt te:=hXC▸he _ _ _ _ _
 have fpok:∀{H':Hp} {pl:List (yc×Yw)},(∀b∈fp,H' b=none)->(∀p∈pl,p.1=s2.heap.objs.size)->∀b∈fp,z5o XC (U++pl) H' b:=λ{H' pl} hn hpl b hb=>by
  obtain⟨_,f2,f3,f4,f5,f6⟩:=f2 b hb;refine⟨hn b hb,by rw[eloc];exact(below b (hfl b hb)).1,by rw[efs];exact zci I2 f2 f3,.inl (by rw[eex];exact hb),λx c e=>?c5,λp hp=>?_⟩
  case c5=>
   rcases ecells x c e with q|q
   ·exact f5 x c q
   ·exact YF (yp (hfl b hb) (yq hCle (YO q)))
  rw[epn,<-append_assoc]at hp;rcases List.mem_append.mp hp with hp|hp
  ·exact f6 p hp
  ·rw[hpl p hp];exact Yg (below b (hfl b hb)).2
 have loop:∀s₃:yb,s₃ = {s2 with heap:=h₁ } ->
  codeAny (yz X.prog X.w) X.A (.compLoop (.ListComp elt [⟨tg,iter,ifs,0⟩] scope pos) 0 (.ref it) (.ref s2.heap.objs.size) (compEnvC scope (yL (φ2.objs.size+1) scope.names (zcb X.env.cells scope.names [])) φ2.objs.size X.env))
   (RR (.ref s2.heap.objs.size) φ2.objs.size) s₃:=by
  rintro s₃ rfl;have I0:=z8l (own:=own) (fr:=fr) (t:=s2.toks) (lo:=φ2.objs.size+1) I2 f2 hfl hk hnm hfree hfr (xw _) hok₁ old (yo _) hCle hDC (Nat.lt_succ_of_le hCle) hacc (by intro v z;cases z) hns₁;rw[hXC]at I0
  refine zyk (λn s'=>∃(i:Nat)(ys:List V)(its:Array ya)(k:Nat)(H':Hp),Inv XC (U++[(s2.heap.objs.size,({cls:=.type "list",data:=.seq its k }:Yw))]) (σC own.length fr Y) H' s'/\Vals ys its.toList/\ys.length<=yB/\tn i s'.heap/\(∀b∈fp,H' b=none)/\W i n ys H') ?_ m0
   ⟨0,[],#[],0,H2,I0,.nil,Yv _,T.keep _ _ _ st2 (λb hb o e=>old b o e),λb hb=>(f2 b hb).1,w0⟩
  rintro n s3 ⟨i,ys,its,kk,H3,I3,rv,hz,st3,fr3,w3⟩
  have pl1:∀p∈[(s2.heap.objs.size,({cls:=.type "list",data:=.seq its kk }:Yw))],p.1=s2.heap.objs.size:=λp hp=>by
   rw[List.mem_singleton.mp hp]
  rcases turn i n ys H3 w3 with ⟨stop,qn⟩|⟨go,hlt,step⟩
  ·have td:=T.done XC eprog ew eK ecalm i _ s3 _ H3 (λ_ _=>False) I3 (fpok fr3 pl1) st3 stop;rw[eA]at td;refine thn td λr s4 ⟨hr,I4⟩=>?_;subst hr;obtain⟨m,hn,_⟩:=id I4.loc;rw[eloc]at hn;obtain⟨p1,p2,p3,p4,p5⟩:=I4.pin (s2.heap.objs.size,_) (mem_append_right _ (mem_append_right _ mem_cons_self));have hnC:H3 φ2.objs.size=none:=by have:=I4.free;rw[eloc]at this;exact this
   have hokf:HOk X.prog X.w (upd H3 s2.heap.objs.size (.lst ys)) s4.heap:=by
    refine HOk.sI (by have:=I4.hok;rw[eprog,ew]at this;exact this) p2 ⟨hz,its.toList,kk,rv,by simpa using p1⟩
   have u0:Un (frs X.stack) fp H2 H3 s2.heap s4.heap:=by
    have:=I4.base;rw[efs,eex,es0,eH0]at this;exact this
   have u1:Un (frs X.stack) fp H2 (upd H3 s2.heap.objs.size (.lst ys)) s2.heap s4.heap:=by
    have bd:∀b o,s2.heap.get? b=some o->b≠s2.heap.objs.size:=λb o e=>(below b (ym e)).2;refine⟨u0.keep,u0.slot,λb o e n hx=>by rw[zO (bd b o e)];exact u0.free b o e n hx,u0.there,λb xs e=>?_,λb o u e=>?_,λb ps e=>?_⟩
    ·have q:=u0.tups b xs e;rw[zO (zy q p2)];exact q
    ·have q:=u0.Tp b o u e;rw[zO (zy q p2)];exact q
    ·obtain⟨more,q⟩:=u0.Tq b ps e;exact⟨more,by rw[zO (zy q p2)];exact q⟩
   have os4:s4.os=s2.os:=by have:=I4.os;rw[es0]at this;exact this
   have IF:Inv X U Y (upd H3 s2.heap.objs.size (.lst ys)) {s2 with heap:=s4.heap,gens:=s4.gens,drawn:=s4.drawn,toks:=s4.toks } :=
    I2.call (h':=s4.heap) (ch:=fp) u1 hokf I4.bare λb hb=>by
     obtain⟨_,f2,f3,f4,f5,f6⟩:=f2 b hb;exact⟨f4,f2,f5,f6⟩
   have es:s4 = {s2 with heap:=s4.heap,gens:=s4.gens,drawn:=s4.drawn,toks:=s4.toks }:=by
    obtain⟨a1,a2,a3,a4,a5⟩:=s4;have:a5=s2.os:=os4;subst this;rfl
   rw[<-es]at IF;refine fin ys H3 _ _ s4 qn ⟨IF,p2,by rw[zO (Yg hDC)];exact hnC,⟨m,hn⟩,Yg (below _ I2.lt).1,yq I2.sz hCle,λx c e=>?_,λp hp=>?_⟩
   ·obtain⟨v,o,ho,_⟩:=I2.cell x c e;exact(below c (ym ho)).1
   ·exact(below p.1 (ym (I2.pin p hp).1)).1
  ·have td:=T.item XC eprog ew eK ecalm i _ s3 _ H3 (λ_ _=>False) I3 (fpok fr3 pl1) st3 go;rw[eA]at td;refine thn td λr s4 ⟨u,hr,h4⟩=>?_;subst hr;refine thn h4 λ_ s5 ⟨x,H5,I5,r5,y5,st5,fr5⟩=>?_;have I5':=I5.pinned (fpok fr5 pl1) (T.obj _ _ st5);have hgw:=hg' _ s5 _ H5 x u _ I5' r5 (step x H5 y5);rw[exe,eprog,ew,eA]at hgw;rw[eenv];refine thn hgw λ_ s6 ⟨Y6,H6,I6,⟨hsl,hsub⟩,q6⟩=>?_;have hqw:=hq' _ s6 Y6 H6 _ I6 q6;rw[exe,eprog,ew,eA]at hqw;refine thn hqw λok s7 ⟨H7,I7,q7⟩=>?_
   have back:∀{H8:Hp} {s8:yb},Inv XC (U++[(s2.heap.objs.size,({cls:=.type "list",data:=.seq its kk }:Yw))]++zCj fp s5.heap) Y6 H8 s8 ->
    Inv XC (U++[(s2.heap.objs.size,({cls:=.type "list",data:=.seq its kk }:Yw))]) (σC own.length fr Y) H8 s8/\tn (i+1) s8.heap/\∀b∈fp,H8 b=none:=λ{H8 s8} I8=>by
    refine⟨I8.Tc.weak hsl.symm hsub,T.keep _ _ _ st5 λb hb o e=>(I8.pin (b,o) (mem_append_right _ (mem_append_right _ (zId hb e)))).1,λb hb=>?_⟩;obtain⟨o,e,d⟩:=T.obj _ _ st5 b hb;exact(I8.pin (b,o) (mem_append_right _ (mem_append_right _ (zId hb e)))).2.1
   cases ok with
   |false=>
    have q7':∃m',m'<n/\W (i+1) m' ys H7:=by simpa using q7
    rw[if_neg yR];obtain⟨m',hm,w7⟩:=q7';obtain⟨δ1,δ2,δ3⟩:=back I7;exact⟨m',hm,i+1,ys,its,kk,H7,δ1,rv,hz,δ2,δ3,w7⟩
   |true=>
    rw[if_pos rfl]at q7 ⊢;have hew:=he' _ s7 Y6 H7 _ I7 q7;rw[exe,eprog,ew,eA]at hew;refine thn hew λy s8 ⟨vy,H8,I8,r8,m',hm,w8⟩=>?_;obtain⟨δ1,δ2,δ3⟩:=back I8;obtain⟨p1,p2,p3,p4,p5⟩:=δ1.pin (s2.heap.objs.size,_) (mem_append_right _ (mem_append_right _ mem_cons_self));have hil:its.size=ys.length:=by rw[rv.length];simp
    refine append_at (hsz:=by rw[hil];exact hz) p1 λh9 sb9 e9=>?_;have Df:s2.heap.objs.size∉fp:=λz=>absurd (hfl _ z) (Yh _);have δ0:Inv XC U (σC own.length fr Y) H8 s8:=δ1.Tc
    have δ9:Inv XC U (σC own.length fr Y) H8 {s8 with heap:=h9 }:=by
     refine δ0.turned (t':=s8.toks) (it:=s2.heap.objs.size) (λb o hb e=>(sb9.2 b hb).trans e) p2 p3 (.inr (by rw[es0];exact yo _)) (λx c e z=>?_) (λp hp z=>?_)
     ·rcases ecells x c e with q|q
      ·obtain⟨v,o,ho,_⟩:=I2.cell x c q;exact(below c (ym ho)).2 z
      ·exact YF (YC hCle q) z
     ·rw[epn]at hp;exact(below p.1 (ym (I2.pin p hp).1)).2 z
    refine⟨m',hm,i+1,ys++[vy],its.push y,kk+1,H8,δ9.TK λp hp=>?_,?_,by simp;exact hlt,T.keep _ _ _ δ2 (λb hb o e=>(sb9.2 b (λz=>Df (z▸hb))).trans e),δ3,w8⟩
    ·rcases List.mem_append.mp hp with hp|hp
     ·exact δ9.pin p (mem_append_right _ hp)
     ·have e:=List.mem_singleton.mp hp;subst e;exact⟨e9,p2,p3,p4,by intro v z;cases z⟩
    ·rw[Array.toList_push];exact rv.append (.cons r8 .nil)
 exact codeAny_compStart_list (loop _ rfl) (T.self X.A 0 _ _ _ (T.keep _ _ _ st2 λb hb o e=>old b o e) (loop _ rfl))
def TX.gone{U:List (yc×Yw)}{Y:L2.St}{H:Hp}{ys:List V}{D C:yc}{s:yb}(w:TX X U Y H ys D C s){h':yS}(sb:Heap.SameBut C s.heap h'):Inv X U Y (upd H D (.lst ys)) {s with heap:=h' } :=
 w.inv.turned (t':=s.toks) (λb o hb e=>(sb.2 b hb).trans e) w.freeC (Yg (Yg w.notL)) (.inr w.young) w.notCell w.notPin
def zau{elt tg iter:yt}{ifs:List yt}{pos:YD}{wi:TI}{g:TG}{tc:TT}{te:TE}(own:List yg)(fr:List Nat)(hc:X.calm=true)(hi:PI X tg iter wi)
 (hg:∀cl C s₀ H₀ fp,PG (cxC X own fr scope cl C s₀ H₀ fp) tg g) (hq:∀cl C s₀ H₀ fp,PF (cxC X own fr scope cl C s₀ H₀ fp) ifs tc) (he:∀cl C s₀ H₀ fp,PE (cxC X own fr scope cl C s₀ H₀ fp) elt te)
 (hk:scope.kind=.function) (hnm:∀y∈scope.names,scope.names.lookup y.1=some y.2)
 (hfree:∀x∈scope.names,x.2=.free->(X.env.kindOf x.1=some .cell\/X.env.kindOf x.1=some .free)) (hfr:∀i∈fr,∃x,X.N[i]?=some x/\scope.names.lookup x=some .free)
 (hs:∀x,YL iter X.env x=pure x:=by intro _;rfl):PE X (.ListComp elt [⟨tg,iter,ifs,0⟩] scope pos) (tLC own.length fr wi g tc te):=by
 intro U s Y H Q I h;rw[eval_ListComp];have hclos:closureFor scope X.env=pure (zcb X.env.cells scope.names []):=zrj λx hx e=>I.ok.has x.1 (hfree x hx e);refine wpAny_comprehension_free (use:=none) rfl hs hclos hk (λx hx e=>by rw[hnm x hx,e]) ?_;show yw _ _ (Yi iter X.env) _ _ s;refine thn (hi U s Y H _ I h) λv s1 h1=>thn h1 λitv s2 h2=>?_;refine zmr (RR:=λacc C=>compPost (yz X.prog X.w) X.A X.xe none (EP X U Y Q) acc C) own fr hc hg hq he hk hnm hfree hfr h2 λys H3 D C s4 q w=>?_;obtain⟨m,hn⟩:=w.own;exact⟨m,hn,λh' sb=>⟨.ref D,_,w.gone sb,rfl,q D w.free⟩⟩
variable {K:yr}{Z Z1:List yc}{H H1:Hp}
def TD.ext{W:XK}{E:Ends}{o:Out}(h:TD K W Z H E o)(x:Ext Z H Z1 H1):TD K W Z1 H1 E o:=by
 cases o with
 |next J O=>exact λZ' Y' H' x' A=>h Z' Y' H' (x.trans x') A
 |brk J O=>exact λZ' Y' H' x' A=>h Z' Y' H' (x.trans x') A
 |cont J O=>exact λZ' Y' H' x' A=>h Z' Y' H' (x.trans x') A
 |ret d O=>exact λZ' v H' x' R r=>h Z' v H' (x.trans x') R r
 |exc c fs O=>exact λZ' H' C dx hc x' R r=>h Z' H' C dx hc (x.trans x') R r
def At.set{Y:L2.St}{J:Loc}{O:Mem}{d:D}{v:V}(A:At K Z H Y J O)(r:tu K Z H d v)(i:Nat):At K Z H (Y.set i (some v)) (J.set i (some d)) O:=by
 refine⟨λj d' e=>?_,A.hp,by simp[A.len]⟩
 by_cases hj:j=i
 ·subst hj
  have hl:j<J.length:=by
   have:=(List.getElem?_eq_some_iff.mp e).1;simpa using this
  rw[Yb hl]at e;cases e;exact⟨v,by rw[Yb (by rw[A.len];exact hl)],r⟩
 ·rw[yT (Yg hj)]at e;obtain⟨u,e1,q⟩:=A.st j d' e;exact⟨u,by rw[yT (Yg hj)];exact e1,q⟩
variable {a b c e:yt}{es:List yt}{G ψ χ:FE}{pos:YD}{st:yQ}{zpe:List yQ}
@[simp] def z1d:FS:=λJ O=>some (.next J O)
@[simp] def znb(p q:FS):FS:=λJ O=>match p J O with
 |some (.next J' O')=>q J' O'
 |o=>o
def zNb:MSs X [] z1d:=zvq zor λZ J O Y H o E A e k=>by
 cases e;exact k Z Y H Ext.refl A
def zu{p:FS}(h:MS X st p):MSs X [st] p:=zvr h
def zi{p q:FS}(h1:MS X st p)(h2:MSs X zpe q):MSs X (st::zpe) (znb p q) :=
 zvq (zDp h1 h2) λZ J O Y H o E A e k=>by
  unfold znb at e;show tMS X.K (zXc X) p {E with nx:=tMS X.K (zXc X) q E } Y H
  cases ep:p J O with
  |none=>rw[ep]at e;cases e
  |some op=>
   rw[ep]at e;refine⟨Z,J,O,op,A,ep,?_⟩
   cases op with
   |next J' O'=>exact λZ' Y' H' x' A'=>⟨Z',J',O',o,A',e,k.ext x'⟩
   |brk J' O'=>cases e;exact k
   |cont J' O'=>cases e;exact k
   |ret d O'=>cases e;exact k
   |exc C fs O'=>cases e;exact k
@[simp] def zje(G:FE):FS:=λJ O=>(G J O).bind λp=>some (.ret p.1 p.2)
def z0(h:ME X e G):MS X (.Return (some e) pos) (zje G):=zXj (zuq h) λZ J O Y H o E A e k=>by
 obtain⟨⟨x,O1⟩,e1,e⟩:=ze e;cases e;exact⟨Z,J,O,x,O1,A,e1,λZ' H' v x' R r=>k Z' v H' x' R r⟩
@[simp] def z0l(G:FE):FS:=λJ O=>(G J O).bind λp=>some (.next J p.2)
def zWl(h:ME X e G)(hs:swapsWith e none pos.line X.env=pure false:=by rfl):MS X (.Expr e pos) (z0l G):=zXj (zRn h hs) λZ J O Y H o E A e k=>by
 obtain⟨⟨x,O1⟩,e1,e⟩:=ze e;cases e;exact⟨Z,J,O,x,O1,A,e1,λZ' H' v x' R r=>k Z' Y H' x' (A.ext x' R)⟩
@[simp] def zlc(i:Nat)(G:FE):FS:=λJ O=>(G J O).bind λp=>some (.next (J.set i (some p.1)) p.2)
def zC{x:yg}{pos':YD}(i:Nat)(he:ME X e G)(hN:X.N.Nodup:=by first|assumption|decide)(hi:X.N[i]?=some x:=by rfl)(hx:L2.Loc X.env.scope x:=by first|exact Or.inl rfl|exact Or.inr rfl)(hs:swapsWith e (some (.Name x pos')) pos.line X.env=pure false:=by rfl)
 (hf:X.fn x=true\/X.env.scope.names.lookup x=some .local:=by first|exact .inl rfl|exact .inr rfl|assumption):MS X (.Assign [.Name x pos'] e pos) (zlc i G):=zXj (zeq hN hi hx he hs hf) λZ J O Y H o E A e k=>by
 obtain⟨⟨x,O1⟩,e1,e⟩:=ze e;cases e;exact⟨Z,J,O,x,O1,A,e1,λZ' H' v x' R r=>k Z' _ H' x' ((A.ext x' R).set r i)⟩
@[simp] def sIf(c:FT)(p q:FS):FS:=λJ O=>(c J O).bind λt=>bif t.1 then p J t.2 else q J t.2
def z6e{s1 s2:List yQ}{t:FT}{p q:FS}(hc:MT X c t)(h1:MSs X s1 p)(h2:MSs X s2 q):MS X (.If c s1 s2 pos) (sIf t p q):=zXj (zwu hc h1 h2) λZ J O Y H o E A e k=>by
 obtain⟨⟨x,O1⟩,e1,e⟩:=ze e;refine⟨Z,J,O,x,O1,A,e1,λZ' H' x' R=>?_⟩
 cases x with
 |true=>exact sD ⟨Z',J,O1,o,A.ext x' R,e,k.ext x'⟩
 |false=>exact sO ⟨Z',J,O1,o,A.ext x' R,e,k.ext x'⟩
abbrev FG:=D->Loc->Mem->Option (Loc×Mem)
abbrev FGs:=List D->Loc->Mem->Option (Loc×Mem)
def tMG(K:yr)(g:FG):TG:=λv Y H Q=>∃Z J O d J' O',At K Z H Y J O/\tu K Z H d v/\g d J O=some (J',O')/\∀Z' Y' H',Ext Z H Z' H'->At K Z' H' Y' J' O'->Q Y' H'
def zkv(K:yr)(g:FGs):TGs:=λvs Y H Q=>∃Z J O ds J' O',At K Z H Y J O/\tf K Z H ds vs/\g ds J O=some (J',O')/\∀Z' Y' H',Ext Z H Z' H'->At K Z' H' Y' J' O'->Q Y' H'
def MG(X:Cx)(t:yt)(g:FG):Prop:=PG X t (tMG X.K g)
def MGs(X:Cx)(t:List yt)(g:FGs):Prop:=PGs X t (zkv X.K g)
def mg_of{t:yt}{tt:TG}{g:FG}(h:PG X t tt)(w:∀Z J O d J' O' v Y H Q,At X.K Z H Y J O->tu X.K Z H d v->g d J O=some (J',O')->(∀Z' Y' H',Ext Z H Z' H'->At X.K Z' H' Y' J' O'->Q Y' H')->tt v Y H Q):MG X t g :=
 by intro U s Y H v u Q I r hh;obtain⟨Z,J,O,d,J',O',A,q,e,k⟩:=hh;exact h U s Y H v u Q I r (w Z J O d J' O' v Y H Q A q e k)
def zgq{t:List yt}{tt:TGs}{g:FGs}(h:PGs X t tt)(w:∀Z J O d J' O' v Y H Q,At X.K Z H Y J O->tf X.K Z H d v->g d J O=some (J',O')->(∀Z' Y' H',Ext Z H Z' H'->At X.K Z' H' Y' J' O'->Q Y' H')->tt v Y H Q):MGs X t g :=
 by intro U s Y H v u Q I r hh;obtain⟨Z,J,O,d,J',O',A,q,e,k⟩:=hh;exact h U s Y H v u Q I r (w Z J O d J' O' v Y H Q A q e k)
@[simp] def gN(i:Nat):FG:=λd J O=>some (J.set i (some d),O)
def zei{x:yg}(i:Nat)(hN:X.N.Nodup:=by first|assumption|decide)(hi:X.N[i]?=some x:=by rfl)(hx:L2.Loc X.env.scope x:=by first|exact Or.inl rfl|exact Or.inr rfl)(hf:X.fn x=true\/X.env.scope.names.lookup x=some .local:=by first|exact .inl rfl|exact .inr rfl|assumption):MG X (.Name x pos) (gN i) :=
 mg_of (zno hN hi hx hf) λZ J O d J' O' v Y H Q A q e k=>by
  cases e;exact k Z _ H Ext.refl (A.set q i)
@[simp] def zPp:FGs:=λds J O=>match ds with
 |[]=>some (J,O)
 |_=>none
@[simp] def zTk(g:FG)(gs:FGs):FGs:=λds J O=>match ds with
 |d::r=>(g d J O).bind λp=>gs r p.1 p.2
 |_=>none
def zlr:MGs X [] zPp:=zgq zKr λZ J O ds J' O' vs Y H Q A q e k=>by
 unfold zPp at e
 split at e
 ·cases e;exact⟨q.nil_inv,k Z Y H Ext.refl A⟩
 ·cases e
def zJm{g:FG}{gs:FGs}(h1:MG X e g)(h2:MGs X es gs)(hs:(YB (e::es) X.env).map (·.2)=assign e X.env::(YB es X.env).map (·.2):=by rfl):MGs X (e::es) (zTk g gs) :=
 zgq (zRp h1 h2 hs) λZ J O ds J' O' vs Y H Q A q e k=>by
  unfold zTk at e
  split at e
  ·obtain⟨⟨J1,O1⟩,e1,e⟩:=ze e;obtain⟨v,r,rfl,q1,q2⟩:=q.cons_inv;refine⟨v,r,rfl,Z,J,O,_,J1,O1,A,q1,e1,λZ1 Y1 H1 x1 A1=>?_⟩;exact⟨Z1,J1,O1,_,J',O',A1,q2.ext x1,e,λZ2 Y2 H2 x2 A2=>k Z2 Y2 H2 (x1.trans x2) A2⟩
  ·cases e
@[simp] def gT(n:Nat)(gs:FGs):FG:=λd J O=>match d with
 |.tup ds=>bif ds.length==n then gs ds J O else none
 |_=>none
@[simp] def gAt(G ψ:FE):FG:=λd J O=>(G J O).bind λp=>(ψ J p.2).bind λq=>match p.1,q.1 with
 |.loc n,.int i=>match q.2[n]? with
  |some (.lst ds)=>(ixN ds.length i).bind λj=>some (J,q.2.set n (.lst (ds.set j d)))
  |_=>none
 |_,_=>none
def z2s{o i:yt}(ho:ME X o G)(hi:ME X i ψ)(ha:∀v,assign (.Subscript o i pos) X.env v=(do
 let ov <-holding [v] (Yi o X.env)
 let iv <-holding [v,ov] (Yi i X.env)
 standAt pos
 holding [v,ov,iv] (setItem ov iv v)
 release [v,ov,iv] []):=by intro _;rfl):MG X (.Subscript o i pos) (gAt G ψ) :=
 mg_of (zss ho hi zhp ha) λZ J O d J' O' v Y H Q A q e k=>by
  obtain⟨⟨x,O1⟩,e1,e⟩:=ze e;obtain⟨⟨y,O2⟩,e2,e⟩:=ze e;refine⟨Z,J,O,x,O1,A,e1,λZ1 H1 v1 x1 R1 r1=>?_⟩;refine⟨Z1,J,O1,y,O2,A.ext x1 R1,e2,λZ2 H2 v2 x2 R2 r2=>?_⟩;dsimp only at e
  split at e
  ·split at e
   ·rename_i hm
    obtain⟨j,e3,e⟩:=ze e;cases e;obtain⟨ad,rfl,hr⟩:=(r1.ext x2).tJ;obtain⟨vs,hv,q3⟩:=R2.at_ _ _ _ hr hm;have hmu:Mut (H2 ad):=by rw[hv];trivial
    refine⟨ad,vs,_,j,rfl,r2.int_inv,hv,by rw[<-q3.length];exact e3,?_⟩;have xx:=x1.trans x2;have R3:=R2.wr (o:=.lst (vs.set j v)) (lo:=.lst _) hmu hr ⟨_,zW,tf.ext (Ext.wr hmu) (q3.set j (q.ext xx))⟩;exact k Z2 Y _ (xx.trans (Ext.wr hmu)) (A.ext (xx.trans (Ext.wr hmu)) R3)
   ·cases e
  ·cases e
@[simp] def zSr(G:FE)(g:FG):FS:=λJ O=>(G J O).bind λp=>(g p.1 J p.2).bind λq=>some (.next q.1 q.2)
def z1n{tg:yt}{g:FG}(he:ME X e G)(hg:MG X tg g)(hs:swapsWithSole [tg] e pos.line X.env=pure false:=by rfl)(hw:swappedStores [tg] e X.env=pure none:=by rfl)
 (h1:(YB [tg] X.env).map (·.2)=[assign tg X.env]:=by rfl):MS X (.Assign [tg] e pos) (zSr G g):=zXj (zos he hg hs hw h1) λZ J O Y H o E A e k=>by
 obtain⟨⟨x,O1⟩,e1,e⟩:=ze e;obtain⟨⟨J1,O2⟩,e2,e⟩:=ze e;cases e;refine⟨Z,J,O,x,O1,A,e1,λZ1 H1 v1 x1 R1 r1=>?_⟩;exact⟨Z1,J,O1,x,J1,O2,A.ext x1 R1,r1,e2,λZ2 Y2 H2 x2 A2=>k Z2 Y2 H2 (x1.trans x2) A2⟩
abbrev FI:=Loc->Mem->Option (List D×(Mem->Bool)×Mem)
structure ItIs(K:yr)(δ:It)(Z:List yc)(H:Hp)(ds:List D)(ok:Mem->Bool):Prop where
 go:∀Z' H' O' (i:Nat),Ext Z H Z' H'->tG K Z' H' O'->ok O'=true->i<ds.length->δ.go i H'
 yld:∀Z' H' O' (i:Nat) x H'' d,Ext Z H Z' H'->tG K Z' H' O'->ok O'=true->ds[i]?=some d->δ.yld i H' x H''->Ext Z' H' Z' H''/\tG K Z' H'' O'/\tu K Z' H'' d x
 stop:∀Z' H' O',Ext Z H Z' H'->tG K Z' H' O'->ok O'=true->δ.stop ds.length H'
def tMI(K:yr)(G:FI):TI:=λY H R=>∃Z J O ds ok O',At K Z H Y J O/\G J O=some (ds,ok,O')/\∀Z' H' δ,Ext Z H Z' H'->tG K Z' H' O'->ItIs K δ Z' H' ds ok->R δ H'
def MI(X:Cx)(tg iter:yt)(G:FI):Prop:=PI X tg iter (tMI X.K G)
def zop{tg it:yt}{t:TI}{G:FI}(h:PI X tg it t)(w:∀Z J O Y H ds ok O' R,At X.K Z H Y J O->G J O=some (ds,ok,O')->(∀Z' H' δ,Ext Z H Z' H'->tG X.K Z' H' O'->ItIs X.K δ Z' H' ds ok->R δ H')->t Y H R):MI X tg it G :=
 by intro U s Y H R I hh;obtain⟨Z,J,O,ds,ok,O',A,e,k⟩:=hh;exact h U s Y H R I (w Z J O Y H ds ok O' R A e k)
@[simp] def yes:Mem->Bool:=λ_=>true
@[simp] def zPf(G:FA):FI:=λJ O=>(G J O).bind λp=>match p.1 with
 |[.int j]=>bif decide (-(2^62)<=j/\j<2^62) then some ((Yp j.toNat).map λ(k:Nat) =>.int k,yes,p.2) else none
 |_=>none
def z6f{tg:yt}{p:YD}{G:FA}(hm:X.mg "range"=none)(ha:MAn X [a] G)(hg:Gl X "range":=by rfl)(hs:yj [a] X.env=[(false,Yi a X.env)]:=by rfl):MI X tg (.Call (.Name "range" p) [a] [] pos) (zPf G) :=
 zop (zPo hg hm ha.ma hs) λZ J O Y H ds ok O' R A e k=>by
  obtain⟨⟨x,O1⟩,e1,e⟩:=ze e;refine⟨Z,J,O,x,O1,A,e1,λZ1 H1 v1 x1 R1 r1=>?_⟩;dsimp only at e
  split at e
  ·rename_i j
   obtain⟨h1,e⟩:=zK e;have h2:=of_decide_eq_true h1;cases e;obtain⟨w,r,rfl,q1,q2⟩:=r1.cons_inv;refine⟨j,by rw[q1.int_inv,q2.nil_inv],h2.1,h2.2,k Z1 H1 _ x1 R1 ⟨λZ' H' O' i _ _ _ h=>by rw[length_map,length_range]at h;exact h,λZ' H' O' i x H'' d _ RR _ e ⟨y1,y2⟩=>⟨y1▸Ext.refl,y1▸RR,?_⟩,λZ' H' O' _ _ _=>by show j.toNat<=_;simp⟩⟩;rw[yO]at e
   cases e3:(Yp j.toNat)[i]? with
   |none=>rw[e3]at e;cases e
   |some m=>
    rw[e3]at e
    have hmi:m=i:=by
     obtain⟨w1,w2⟩:=List.getElem?_eq_some_iff.mp e3;simpa using w2.symm
    subst hmi;have e':D.int (m:Nat)=d:=yU e;subst e';rw[y2,show(0:Int)+(m:Nat)=(m:Int) by omega];exact .int
  ·cases e
def z3r{K:yr}{Z:List yc}{H:Hp}{a:yc}{vs:List V}{ds:List D}(h:H a=some (.tup vs))(r:tf K Z H ds vs):ItIs K (Itt K a) Z H ds yes:=by
 refine⟨λZ' H' O' i x R _ hi=>?_,λZ' H' O' i x H'' d x' R _ e ⟨y1,y2⟩=>⟨y1▸Ext.refl,y1▸R,y1▸?_⟩,λZ' H' O' x R _=>⟨vs,SqT.of (x.tup _ _ h),by rw[r.length];exact yo _⟩⟩
 ·have hi':i<vs.length:=by rw[<-r.length];exact hi
  exact⟨vs,vs[i],SqT.of (x.tup _ _ h),by simp[hi']⟩
 ·have q:=y2 vs (SqT.of (x'.tup _ _ h));obtain⟨w,e1,rr⟩:=(r.ext x').get e;rw[q]at e1;cases e1;exact rr
@[simp] def ztq(G:FE):FI:=λJ O=>(G J O).bind λp=>match p.1 with
 |.tup ds=>some (ds,yes,p.2)
 |_=>none
def zit{tg:yt}(h:ME X a G):MI X tg a (ztq G) :=
 zop (zFs h) λZ J O Y H ds ok O' R A e k=>by
  obtain⟨⟨x,O1⟩,e1,e⟩:=ze e;refine⟨Z,J,O,x,O1,A,e1,λZ1 H1 v1 x1 R1 r1=>?_⟩;dsimp only at e
  split at e
  ·cases e;obtain⟨a,vs,rfl,e2,q2⟩:=r1.tT;exact⟨a,rfl,⟨vs,SqT.of e2⟩,k Z1 H1 _ x1 R1 (z3r e2 q2)⟩
  ·cases e
def zQm(n:Nat)(ds:List D):Mem->Bool:=λO=>@decide (O[n]?=some (.lst ds)) (Classical.propDecidable _)
def TU{n:Nat}{ds:List D}{O:Mem}:zQm n ds O=true↔O[n]?=some (.lst ds):=by
 unfold zQm;exact @decide_eq_true_iff _ (Classical.propDecidable _)
def zVn(G:FE):FI:=λJ O=>(G J O).bind λp=>match p.1 with
 |.fz ds=>some (ds,yes,p.2)
 |.loc n=>match p.2[n]? with
  |some (.lst ds)=>some (ds,zQm n ds,p.2)
  |_=>none
 |_=>none
def zmq{K:yr}{Z:List yc}{H:Hp}{a:yc}{ds:List D}{ok:Mem->Bool}(h:∀Z' H' O',Ext Z H Z' H'->tG K Z' H' O'->ok O'=true->∃vs,SqL K H' a vs/\tf K Z' H' ds vs):ItIs K (Itl K a) Z H ds ok:=by
 refine⟨λZ' H' O' i x R o hi=>?_,λZ' H' O' i x H'' d x' R o e ⟨y1,y2⟩=>⟨y1▸Ext.refl,y1▸R,y1▸?_⟩,λZ' H' O' x R o=>?_⟩
 ·obtain⟨vs,s,r⟩:=h Z' H' O' x R o;have hi':i<vs.length:=by rw[<-r.length];exact hi
  exact⟨vs,vs[i],s,by simp[hi']⟩
 ·obtain⟨vs,s,r⟩:=h Z' H' O' x' R o;have q:=y2 vs s;obtain⟨w,e1,rr⟩:=r.get e;rw[q]at e1;cases e1;exact rr
 ·obtain⟨vs,s,r⟩:=h Z' H' O' x R o;exact⟨vs,s,by rw[r.length];exact yo _⟩
def zun{tg:yt}(h:ME X a G):MI X tg a (zVn G) :=
 zop (z0q h) λZ J O Y H ds ok O' R A e k=>by
  obtain⟨⟨x,O1⟩,e1,e⟩:=ze e;refine⟨Z,J,O,x,O1,A,e1,λZ1 H1 v1 x1 R1 r1=>?_⟩;dsimp only at e
  split at e
  ·cases e;obtain⟨a,vs,rfl,e2,q2⟩:=r1.TW;exact⟨a,rfl,⟨vs,e2.sq⟩,k Z1 H1 _ x1 R1 (zmq λZ' H' O' x _ _=>⟨vs,(x.fz e2).sq,q2.ext x⟩)⟩
  ·split at e
   ·rename_i hm
    cases e;obtain⟨a,rfl,e2⟩:=r1.tJ;obtain⟨vs,e3,q3⟩:=R1.at_ _ _ _ e2 hm;refine⟨a,rfl,⟨vs,SqL.of e3⟩,k Z1 H1 _ x1 R1 (zmq λZ' H' O'' x R' o=>?_)⟩;obtain⟨vs',e4,q4⟩:=R'.at_ _ _ _ (x.get e2) (TU.mp o);exact⟨vs',SqL.of e4,q4⟩
   ·cases e
  ·cases e
def zbh(g:FG)(body:FS)(ok:Mem->Bool):List D->FS
 |[],J,O=>bif ok O then some (.next J O) else none
 |x::xs,J,O=>bif ok O then(g x J O).bind λp=>match body p.1 p.2 with
  |some (.next J' O')=>zbh g body ok xs J' O'
  |some (.cont J' O')=>zbh g body ok xs J' O'
  |some (.brk J' O')=>some (.next J' O')
  |some (.ret d O')=>some (.ret d O')
  |some (.exc C fs O')=>some (.exc C fs O')
  |none=>none
  else none
@[simp] def z3q(i:FI)(g:FG)(body:FS):FS:=λJ O=>(i J O).bind λp=>zbh g body p.2.1 p.1 J p.2.2
def zpo{tg iter:yt}{body:List yQ}{i:FI}{g:FG}{p:FS}(hi:MI X tg iter i)(hg:MG X tg g)(hb:MSs X body p)(hx:PassesOwn (yz X.prog X.w) X.A X.env X.xe:=by first|exact PassesOwn.never|exact PassesOwn.leaving)(hc:X.calm=true:=by rfl)
 (hs:∀x,YL iter X.env x=pure x:=by intro _;rfl):MS X (.For tg iter body [] pos) (z3q i g p) :=
 zXj (zxt hx hc hi hg hb hs) λZ J O Y H o E A e k=>by
  obtain⟨⟨ds,ok,O1⟩,e1,e⟩:=ze e;refine⟨Z,J,O,ds,ok,O1,A,e1,λZ1 H1 δ x1 R1 II=>?_⟩;refine⟨λi m Y' H'=>∃Z' J' O',Ext Z1 H1 Z' H'/\At X.K Z' H' Y' J' O'/\i<=ds.length/\m=ds.length-i/\zbh g p ok (ds.drop i) J' O'=some o,⟨_,Z1,J,O1,Ext.refl,A.ext x1 R1,Yv _,rfl,e⟩,?_⟩;rintro i m Y' H' ⟨Z',J',O',x',A',hi,rfl,ef⟩
  by_cases hlt:i<ds.length
  ·right
   have hd:ds.drop i=ds[i]::ds.drop (i+1):=YV hlt;rw[hd]at ef;unfold zbh at ef;obtain⟨hok,ef⟩:=zK ef;obtain⟨⟨J2,O2⟩,e2,ef⟩:=ze ef;refine⟨II.go Z' H' O' i x' A'.hp hok hlt,λY3 H3=>∃Z3 J3 O3,Ext Z1 H1 Z3 H3/\At X.K Z3 H3 Y3 J3 O3/\zbh g p ok (ds.drop (i+1)) J3 O3=some o,λY3 H3 ⟨Z3,J3,O3,x3,A3,e3⟩=>⟨ds.length-(i+1),by omega,Z3,J3,O3,x3,A3,hlt,rfl,e3⟩,λx H'' y=>?_⟩;obtain⟨xe,Re,rx⟩:=II.yld Z' H' O' i x H'' ds[i] x' A'.hp hok (by simp[hlt]) y;have x':=x'.trans xe;refine⟨Z',J',O',ds[i],J2,O2,A'.ext xe Re,rx,e2,λZ4 Y4 H4 x4 A4=>?_⟩
   cases eb:p J2 O2 with
   |none=>rw[eb]at ef;cases ef
   |some ob=>
    rw[eb]at ef;refine⟨Z4,J2,O2,ob,A4,eb,?_⟩;have x5:=x'.trans x4
    cases ob with
    |next J6 O6=>exact λZ6 Y6 H6 x6 A6=>⟨Z6,J6,O6,x5.trans x6,A6,ef⟩
    |cont J6 O6=>exact λZ6 Y6 H6 x6 A6=>⟨Z6,J6,O6,x5.trans x6,A6,ef⟩
    |brk J6 O6=>cases ef;exact(k.ext x1).ext x5
    |ret d O6=>cases ef;exact(k.ext x1).ext x5
    |exc C fs O6=>cases ef;exact(k.ext x1).ext x5
  ·left
   have e0:i=ds.length:=by omega
   subst e0;rw[List.drop_length]at ef;unfold zbh at ef;obtain⟨hok,ef⟩:=zK ef;cases ef;exact⟨II.stop Z' H' O' x' A'.hp hok,k Z' Y' H' (x1.trans x') A'⟩
end
def z3o(g:FG)(c:FT)(G:FE)(ok:Mem->Bool)(J:Loc):List D->List D->Mem->Option (D×Mem)
 |[],ys,O=>bif ok O then some (.loc O.length,O++[.lst ys]) else none
 |x::xs,ys,O=>bif ok O then(g x J O).bind λp=>(c p.1 p.2).bind λt=>bif t.1 then(G p.1 t.2).bind λq=>z3o g c G ok J xs (ys++[q.1]) q.2 else z3o g c G ok J xs ys t.2 else none
@[simp] def δC(n:Nat)(fr:List Nat)(J:Loc):Loc:=yl n none++fr.map λi=>(J[i]?).getD none
@[simp] def few(ds:List D):Bool:=decide (ds.length<=1000000)
@[simp] def fLC(n:Nat)(fr:List Nat)(i:FI)(g:FG)(c:FT)(G:FE):FE:=λJ O=>(i J O).bind λp=>bif few p.1 then z3o g c G p.2.1 (δC n fr J) p.1 [] p.2.2 else none
def MF(X:Cx)(ifs:List yt)(c:FT):Prop:=PF X ifs (tMT X.K c)
@[simp] def zhl:FT:=λ_ O=>some (true,O)
def zjf{X:Cx}:MF X [] zhl:=by intro U s Y H Q I hh;obtain⟨Z,J,O,b,O',A,e,k⟩:=hh;exact zft U s Y H Q I (by cases e;exact k Z H Ext.refl A.hp)
def At.δC{K:yr}{Z:List yc}{H:Hp}{Y:L2.St}{J:Loc}{O:Mem}(A:At K Z H Y J O)(n:Nat)(fr:List Nat):At K Z H (σC n fr Y) (M.δC n fr J) O:=by
 refine⟨λi d e=>?_,A.hp,by unfold σC M.δC;simp⟩;unfold M.δC at e;unfold σC
 by_cases hi:i<n
 ·rw[yE (by simpa using hi),xf]at e
  split at e<;>cases e
 ·have hi:n<=i:=xv hi;rw[yA (by simpa using hi),length_replicate,yO]at e;rw[yA (by simpa using hi),length_replicate,yO]
  cases e1:fr[i-n]? with
  |none=>rw[e1]at e;cases e
  |some j=>
   rw[e1]at e;have e2:(J[j]?).getD none=some d:=yU e
   have e3:J[j]?=some (some d):=by
    cases q:J[j]? with
    |none=>rw[q]at e2;cases e2
    |some z=>rw[q]at e2;exact congrArg some e2
   obtain⟨v,hv,r⟩:=A.st j d e3;exact⟨v,by rw[xn,hv];rfl,r⟩
def zZr(n:Nat)(Y Y':L2.St):Prop:=Y'.length=Y.length/\∀(i:Nat),n<=i->Y'[i]?=Y[i]?
def tGc(K:yr)(n:Nat)(g:FG):TG:=λv Y H Q=>∃Z J O d J' O',At K Z H Y J O/\tu K Z H d v/\g d J O=some (J',O')/\∀Z' Y' H',Ext Z H Z' H'->At K Z' H' Y' J' O'->zZr n Y Y'->Q Y' H'
def MGc(X:Cx)(n:Nat)(t:yt)(g:FG):Prop:=PG X t (tGc X.K n g)
section
variable {X:Cx}{e:yt}{es:List yt}{pos:YD}{n:Nat}
def zHb{x:yg}(i:Nat)(hin:i<n:=by decide)(hN:X.N.Nodup:=by first|assumption|decide)(hi:X.N[i]?=some x:=by rfl)(hx:L2.Loc X.env.scope x:=by first|exact Or.inl rfl|exact Or.inr rfl)(hf:X.fn x=true\/X.env.scope.names.lookup x=some .local:=by first|exact .inl rfl|exact .inr rfl|assumption):MGc X n (.Name x pos) (gN i) :=
 by intro U s Y H v u Q I r hh;obtain⟨Z,J,O,d,J',O',A,q,e,k⟩:=hh;exact zno hN hi hx hf U s Y H v u Q I r (by
  cases e;exact k Z _ H Ext.refl (A.set q i) ⟨by simp,λj hj=>yT (by omega)⟩)
end
def zol{n:Nat}{fr:List Nat}{Y Y':L2.St}(f:zZr n (σC n fr Y) Y'):zWp (σC n fr Y) Y':=by
 refine⟨f.1,λi v e=>?_⟩;obtain⟨hi,_⟩:=σC_get e;rw[f.2 i hi];exact e
def tZ:1000000<yB:=by rw[sizeLine_eq];decide
def ziv{K:yr}{n:Nat}{fr:List Nat}{i:FI}{g:FG}{c:FT}{G:FE}{Z:List yc}{J:Loc}{O:Mem}{Y:L2.St}{H:Hp}{d:D}{O':Mem}{Q:VK}(A:At K Z H Y J O)(e:fLC n fr i g c G J O=some (d,O'))
 (k:∀Z' H' v,Ext Z H Z' H'->tG K Z' H' O'->tu K Z' H' d v->Q v H'):tLC n fr (tMI K i) (tGc K n g) (tMT K c) (tM K G) Y H Q:=by
 obtain⟨⟨ds,ok,O1⟩,e1,e⟩:=ze e;obtain⟨hfew,e⟩:=zK e;have hfew:ds.length<=1000000:=of_decide_eq_true hfew;refine⟨Z,J,O,ds,ok,O1,A,e1,λZ1 H1 δ x1 R1 II=>?_⟩;refine⟨λi m ys H'=>∃Z' es O2,Ext Z1 H1 Z' H'/\tG K Z' H' O2/\tf K Z' H' es ys/\es.length<=i/\i<=ds.length/\m=ds.length-i/\z3o g c G ok (δC n fr J) (ds.drop i) es O2=some (d,O'),⟨_,Z1,[],O1,Ext.refl,R1,.nil,Yv _,Yv _,rfl,e⟩,?_⟩;rintro i m ys H' ⟨Z',es,O2,x',R',re,hel,hi,rfl,ef⟩
 by_cases hlt:i<ds.length
 ·right
  have hd:ds.drop i=ds[i]::ds.drop (i+1):=YV hlt;rw[hd]at ef;unfold z3o at ef;obtain⟨hok,ef⟩:=zK ef;obtain⟨⟨J2,O3⟩,e2,ef⟩:=ze ef;obtain⟨⟨b,O4⟩,e3,ef⟩:=ze ef;refine⟨II.go Z' H' O2 i x' R' hok hlt,?_,λx H'' y=>?_⟩
  ·rw[<-re.length];exact YC (yq hel (yq hi hfew)) tZ
  ·obtain⟨xe,Re,rx⟩:=II.yld Z' H' O2 i x H'' ds[i] x' R' hok (by simp[hlt]) y;have x':=x'.trans xe;have re:=re.ext xe;have A':At K Z' H'' (σC n fr Y) (δC n fr J) O2:=((A.ext x1 R1).ext x' Re).δC n fr;refine⟨Z',_,O2,ds[i],J2,O3,A',rx,e2,λZ4 Y4 H4 x4 A4 f4=>⟨zol f4,?_⟩⟩;refine⟨Z4,J2,O3,b,O4,A4,e3,λZ5 H5 x5 R5=>?_⟩
   cases b with
   |false=>exact sO ⟨ds.length-(i+1),by omega,Z5,es,O4,x'.trans (x4.trans x5),R5,re.ext (x4.trans x5),by omega,hlt,rfl,ef⟩
   |true=>
    obtain⟨⟨y,O6⟩,e4,ef⟩:=ze ef;refine sD ⟨Z5,J2,O4,y,O6,A4.ext x5 R5,e4,λZ6 H6 v x6 R6 r6=>?_⟩;exact⟨ds.length-(i+1),by omega,Z6,es++[y],O6,x'.trans (x4.trans (x5.trans x6)),R6,(re.ext (x4.trans (x5.trans x6))).append (.cons r6 .nil),by simp;exact hel,hlt,rfl,ef⟩
 ·left
  have e0:i=ds.length:=by omega
  subst e0;rw[List.drop_length]at ef;unfold z3o at ef;obtain⟨hok,ef⟩:=zK ef;cases ef;refine⟨II.stop Z' H' O2 x' R' hok,λp hp=>?_⟩;exact k _ _ _ (x1.trans (x'.trans (Ext.push hp))) (R'.push hp ⟨ys,zW,re.ext (Ext.push hp)⟩) (.loc (z8c R'))
def zMt{X:Cx}{scope:YZ}{elt tg iter:yt}{ifs:List yt}{pos:YD}{i:FI}{g:FG}{c:FT}{G:FE}(own:List yg)(fr:List Nat)(hi:MI X tg iter i)
 (hg:∀cl C s₀ H₀ fp,MGc (cxC X own fr scope cl C s₀ H₀ fp) own.length tg g) (hq:∀cl C s₀ H₀ fp,MF (cxC X own fr scope cl C s₀ H₀ fp) ifs c) (he:∀cl C s₀ H₀ fp,ME (cxC X own fr scope cl C s₀ H₀ fp) elt G)
 (hc:X.calm=true:=by rfl) (hk:scope.kind=.function:=by rfl) (hnm:∀y∈scope.names,scope.names.lookup y.1=some y.2:=by decide)
 (hfree:∀x∈scope.names,x.2=.free->(X.env.kindOf x.1=some .cell\/X.env.kindOf x.1=some .free):=by decide) (hfr:∀i∈fr,∃x,X.N[i]?=some x/\scope.names.lookup x=some .free)
 (hs:∀x,YL iter X.env x=pure x:=by intro _;rfl):ME X (.ListComp elt [⟨tg,iter,ifs,0⟩] scope pos) (fLC own.length fr i g c G) :=
 zIe (zau (wi:=tMI X.K i) (g:=tGc X.K own.length g) (tc:=tMT X.K c) (te:=tM X.K G) own fr hc hi (λcl C s₀ H₀ fp=>hg cl C s₀ H₀ fp) (λcl C s₀ H₀ fp=>hq cl C s₀ H₀ fp) (λcl C s₀ H₀ fp=>he cl C s₀ H₀ fp) hk hnm hfree hfr hs) λZ J O Y H d O' Q A e k=>ziv A e k
def toP(O:Mem):Nat->D->Option xk
 |0,_=>none
 |n+1,d=>match d with
  |.non=>some .none
  |.bl b=>some (.bool b)
  |.int i=>some (.int i)
  |.str x=>bif xl x then some (.str x) else none
  |.ty _=>none
  |.own _=>none
  |.tup ds=>(ds.mapM (toP O n)).bind λps=>some (.tuple ps)
  |.fz ds=>(ds.mapM (toP O n)).bind λps=>some (.list ps)
  |.loc k=>match O[k]? with
   |some (.lst ds)=>(ds.mapM (toP O n)).bind λps=>some (.list ps)
   |_=>none
def zxh{f:D->Option xk}{ps:List xk}(h:([]:List D).mapM f=some ps):ps=[]:=by
 simp at h;exact h
def z0g{f:D->Option xk}{d:D}{ds:List D}{ps:List xk}(h:(d::ds).mapM f=some ps):∃p r,f d=some p/\ds.mapM f=some r/\ps=p::r:=by
 rw[mapM_cons]at h;obtain⟨p,e1,h⟩:=ze h;obtain⟨r,e2,h⟩:=ze h;cases h;exact⟨p,r,e1,e2,rfl⟩
def zfj{f:D->Option xk}{m:Nat}(hf:∀d p,f d=some p->p.canLay0=true/\p.depth<=m):∀{ds:List D} {ps:List xk},ds.mapM f=some ps->xp ps=true/\PyData.depthAll ps<=m
 |[],ps,h=>by rw[zxh h];exact⟨rfl,Yv _⟩
 |d::ds,ps,h=>by
  obtain⟨p,r,e1,e2,rfl⟩:=z0g h;obtain⟨h1,h2⟩:=hf d p e1;obtain⟨h3,h4⟩:=zfj hf e2;refine⟨?_,?_⟩
  ·simp only[xp,h1,h3,Bool.and_true]
  ·simp only[PyData.depthAll];omega
def zIi{O:Mem}:∀(n:Nat)(d:D)(p:xk),toP O n d=some p->p.canLay0=true/\p.depth<=n
 |0,d,p,h=>by cases h
 |n+1,d,p,h=>by
  have seq:∀{ds:List D} {c:List xk->xk},(∀ps,(c ps).canLay0=xp ps)->(∀ps,(c ps).depth=PyData.depthAll ps+1)->((ds.mapM (toP O n)).bind λps=>some (c ps))=some p->p.canLay0=true/\p.depth<=n+1:=λ{ds c} h1 h2 h=>by
   obtain⟨ps,e1,e2⟩:=ze h;cases e2;obtain⟨q1,q2⟩:=zfj (zIi n) e1;exact⟨by rw[h1];exact q1,by rw[h2];omega⟩
  unfold toP at h
  cases d with
  |non=>cases h;exact⟨rfl,Yv _⟩
  |bl b=>cases h;exact⟨rfl,Yv _⟩
  |int b=>cases h;exact⟨rfl,Yv _⟩
  |str x=>
   obtain⟨h1,h2⟩:=zK h;cases h2;exact⟨h1,Yv _⟩
  |ty _=>cases h
  |own _=>cases h
  |tup ds=>exact seq (λ_=>rfl) (λ_=>rfl) h
  |fz ds=>exact seq (λ_=>rfl) (λ_=>rfl) h
  |loc k=>
   dsimp only at h
   split at h
   ·exact seq (λ_=>rfl) (λ_=>rfl) h
   ·cases h
section
variable {X:Cx}{U:List (yc×Yw)}{Y:L2.St}{H:Hp}{s:yb}{Z:List yc}{O:Mem}
def zNg{f:D->Option xk}(hf:∀d p v u,f d=some p->tu X.K Z H d v->RelV v u->∃as,Reads s.heap u p as):∀{ds:List D} {ps:List xk} {vs:List V} {us:List ya},ds.mapM f=some ps->tf X.K Z H ds vs->Vals vs us->∃as,ReadsAll s.heap us ps as
 |[],ps,vs,us,h,r,q=>by
  rw[zxh h];rw[r.nil_inv]at q;cases q;exact⟨[],.nil⟩
 |d::ds,ps,vs,us,h,r,q=>by
  obtain⟨p,pr,e1,e2,rfl⟩:=z0g h;obtain⟨v,vr,rfl,r1,r2⟩:=r.cons_inv
  cases q with
  |cons q1 q2=>
   obtain⟨a1,h1⟩:=hf _ _ _ _ e1 r1 q1;obtain⟨a2,h2⟩:=zNg hf e2 r2 q2;exact⟨_,.cons h1 h2⟩
def zRe(I:Inv X U Y H s)(R:tG X.K Z H O):∀(n:Nat)(d:D)(p:xk)(v:V)(u:ya),toP O n d=some p->tu X.K Z H d v->RelV v u->∃as,Reads s.heap u p as
 |0,d,p,v,u,h,_,_=>by cases h
 |n+1,d,p,v,u,h,r,q=>by
  unfold toP at h
  cases d with
  |non=>cases h;rw[r.tL]at q;cases q;exact⟨_,.none⟩
  |bl b=>cases h;rw[r.tQ]at q;cases q;exact⟨_,.bool b⟩
  |int b=>cases h;rw[r.int_inv]at q;obtain⟨t,rfl⟩:=q;exact⟨_,.int b t⟩
  |str x=>
   obtain⟨h1,h2⟩:=zK h;cases h2;rw[r.str_inv]at q;obtain⟨t,rfl⟩:=q;exact⟨_,.str x t⟩
  |ty _=>cases h
  |own _=>cases h
  |tup ds=>
   obtain⟨ps,e1,e2⟩:=ze h;cases e2;obtain⟨a,vs,rfl,e3,rr⟩:=r.tT;cases q;obtain⟨its,rv,⟨o,ho,hc,k,hd⟩,_⟩:=I.tuple (SqT.of e3);obtain⟨as,ha⟩:=zNg (zRe I R n) e1 rr rv;exact⟨_,reads_tuple_at ho hc hd (by simpa using ha)⟩
  |fz ds=>
   obtain⟨ps,e1,e2⟩:=ze h;cases e2;obtain⟨a,vs,rfl,e3,rr⟩:=r.TW;cases q;obtain⟨its,rv,⟨o,k,ho,hc,_,hd⟩,_⟩:=I.list e3.sq;obtain⟨as,ha⟩:=zNg (zRe I R n) e1 rr rv;exact⟨_,reads_list_at ho hc hd (by simpa using ha)⟩
  |loc k=>
   dsimp only at h
   split at h
   ·rename_i hm
    obtain⟨ps,e1,e2⟩:=ze h;cases e2;obtain⟨a,rfl,e2⟩:=r.tJ;obtain⟨vs,e3,rr⟩:=R.at_ _ _ _ e2 hm;cases q;obtain⟨its,rv,⟨o,k,ho,hc,_,hd⟩,_⟩:=I.list (SqL.of (K:=X.K) e3);obtain⟨as,ha⟩:=zNg (zRe I R n) e1 rr rv;exact⟨_,reads_list_at ho hc hd (by simpa using ha)⟩
   ·cases h
end
def gEq:φ2:=λx y O=>(toP O 8 x).bind λp=>(toP O 8 y).bind λq=>some (.bl (Yd p q),O)
def gNe:φ2:=λx y O=>(toP O 8 x).bind λp=>(toP O 8 y).bind λq=>some (.bl (!PyData.eqv p q),O)
def zXg{O:Mem}{d:D}{p:xk}(h:toP O 8 d=some p):SeqAt.shaped p=true:=by
 obtain⟨h1,h2⟩:=zIi 8 d p h;unfold SeqAt.shaped;rw[h1,decide_eq_true (by omega)];rfl
section
variable {X:Cx}{a b c e:yt}{es:List yt}{G ψ χ:FE}{pos:YD}
def zmf(hu:X.A.units+64<cLine):OpM X (Yj .Eq) gEq:=by
 refine OpM.of λU s Y H x y v u Q I rx ry Z dx dy O d O' r1 r2 R e k=>?_;obtain⟨p,e1,e⟩:=ze e;obtain⟨q,e2,e⟩:=ze e;cases e;obtain⟨as,h1⟩:=zRe I R 8 dx p x v e1 r1 rx;obtain⟨bs,h2⟩:=zRe I R 8 dy q y u e2 r2 ry;exact eq_dataH h1 h2 (zXg e1) (zXg e2) hu ⟨.bl _,H,I,rfl,k Z H _ Ext.refl R .bl⟩
def zMs(hu:X.A.units+64<cLine):OpM X (Yj .NotEq) gNe:=by
 refine OpM.of λU s Y H x y v u Q I rx ry Z dx dy O d O' r1 r2 R e k=>?_;obtain⟨p,e1,e⟩:=ze e;obtain⟨q,e2,e⟩:=ze e;cases e;obtain⟨as,h1⟩:=zRe I R 8 dx p x v e1 r1 rx;obtain⟨bs,h2⟩:=zRe I R 8 dy q y u e2 r2 ry;exact ne_dataH h1 h2 (zXg e1) (zXg e2) hu ⟨.bl _,H,I,rfl,k Z H _ Ext.refl R .bl⟩
@[simp] def gIs:φ2:=λx y O=>match x,y with
 |.bl i,.bl j=>some (.bl (i==j),O)
 |.non,.non=>some (.bl true,O)
 |.bl _,.non=>some (.bl false,O)
 |.int _,.non=>some (.bl false,O)
 |.str _,.non=>some (.bl false,O)
 |.tup _,.non=>some (.bl false,O)
 |.loc _,.non=>some (.bl false,O)
 |_,_=>none
@[simp] def zjl:φ2:=λx y O=>match x,y with
 |.bl i,.bl j=>some (.bl (i != j),O)
 |.non,.non=>some (.bl false,O)
 |.bl _,.non=>some (.bl true,O)
 |.int _,.non=>some (.bl true,O)
 |.str _,.non=>some (.bl true,O)
 |.tup _,.non=>some (.bl true,O)
 |.loc _,.non=>some (.bl true,O)
 |_,_=>none
def z0s:OpM X (Yj .Is) gIs:=by
 refine OpM.of λU s Y H x y v u Q I rx ry Z dx dy O d O' r1 r2 R e k=>?_;unfold gIs at e
 split at e<;>cases e
 ·rw[r1.tQ]at rx;rw[r2.tQ]at ry;cases rx;cases ry;exact is_bool ⟨.bl _,H,I,rfl,k Z H _ Ext.refl R .bl⟩
 ·exact z5i U s Y H x y v u Q I rx ry ⟨r2.tL,by rw[r1.tL];exact k Z H _ Ext.refl R .bl⟩
 ·exact z5i U s Y H x y v u Q I rx ry ⟨r2.tL,by rw[r1.tQ];exact k Z H _ Ext.refl R .bl⟩
 ·exact z5i U s Y H x y v u Q I rx ry ⟨r2.tL,by rw[r1.int_inv];exact k Z H _ Ext.refl R .bl⟩
 ·exact z5i U s Y H x y v u Q I rx ry ⟨r2.tL,by rw[r1.str_inv];exact k Z H _ Ext.refl R .bl⟩
 ·exact z5i U s Y H x y v u Q I rx ry ⟨r2.tL,by obtain⟨a,vs,rfl,_⟩:=r1.tT;exact k Z H _ Ext.refl R .bl⟩
 ·exact z5i U s Y H x y v u Q I rx ry ⟨r2.tL,by obtain⟨a,rfl,_⟩:=r1.tJ;exact k Z H _ Ext.refl R .bl⟩
def zxk:OpM X (Yj .IsNot) zjl:=by
 refine OpM.of λU s Y H x y v u Q I rx ry Z dx dy O d O' r1 r2 R e k=>?_;unfold zjl at e
 split at e<;>cases e
 ·rw[r1.tQ]at rx;rw[r2.tQ]at ry;cases rx;cases ry;exact isnot_bool ⟨.bl _,H,I,rfl,k Z H _ Ext.refl R .bl⟩
 ·exact zfh U s Y H x y v u Q I rx ry ⟨r2.tL,by rw[r1.tL];exact k Z H _ Ext.refl R .bl⟩
 ·exact zfh U s Y H x y v u Q I rx ry ⟨r2.tL,by rw[r1.tQ];exact k Z H _ Ext.refl R .bl⟩
 ·exact zfh U s Y H x y v u Q I rx ry ⟨r2.tL,by rw[r1.int_inv];exact k Z H _ Ext.refl R .bl⟩
 ·exact zfh U s Y H x y v u Q I rx ry ⟨r2.tL,by rw[r1.str_inv];exact k Z H _ Ext.refl R .bl⟩
 ·exact zfh U s Y H x y v u Q I rx ry ⟨r2.tL,by obtain⟨a,vs,rfl,_⟩:=r1.tT;exact k Z H _ Ext.refl R .bl⟩
 ·exact zfh U s Y H x y v u Q I rx ry ⟨r2.tL,by obtain⟨a,rfl,_⟩:=r1.tJ;exact k Z H _ Ext.refl R .bl⟩
inductive Ty where
 |non|bl|int|str|tup|lst|dict
 deriving DecidableEq
@[simp] def zPn(O:Mem):D->Option Ty
 |.non=>some .non
 |.bl _=>some .bl
 |.int _=>some .int
 |.str _=>some .str
 |.tup _=>some .tup
 |.loc n=>match O[n]? with
  |some (.lst _)=>some .lst
  |some (.dct _)=>some .dict
  |_=>none
 |_=>none
@[simp] def Ty.name:Ty->String
 |.non=>"NoneType" | .bl=>"bool" | .int=>"int" | .str=>"str" | .tup=>"tuple" | .lst=>"list" | .dict=>"dict"
@[simp] def zoq:Ty->Ty->Bool
 |.bl,.int=>true
 |.non,.non=>true
 |.bl,.bl=>true
 |.int,.int=>true
 |.str,.str=>true
 |.tup,.tup=>true
 |.lst,.lst=>true
 |.dict,.dict=>true
 |_,_=>false
@[simp] def zMm(c:Ty):GL:=λds O=>match ds with
 |[x,.ty n]=>bif n==c.name then(zPn O x).bind λt=>some (.bl (zoq t c),O) else none
 |_=>none
def zar{K:yr}{Z:List yc}{H:Hp}{O:Mem}{x:D}{v:V}{t:Ty}(R:tG K Z H O)(r:tu K Z H x v)(e:zPn O x=some t):TB K H v (.type t.name):=by
 cases x with
 |non=>cases e;rw[r.tL];exact .non
 |bl b=>cases e;rw[r.tQ];exact .bl b
 |int b=>cases e;rw[r.int_inv];exact .int b
 |str b=>cases e;rw[r.str_inv];exact .str b
 |tup ds=>cases e;obtain⟨a,vs,rfl,e2,_⟩:=r.tT;exact .tup e2
 |loc n=>
  unfold zPn at e;dsimp only at e
  split at e
  ·rename_i hm;cases e;obtain⟨a,rfl,e2⟩:=r.tJ;obtain⟨vs,e3,_⟩:=R.at_ _ _ _ e2 hm;exact .lst e3
  ·rename_i hm;cases e;obtain⟨a,rfl,e2⟩:=r.tJ;obtain⟨vs,e3,_⟩:=R.at_ _ _ _ e2 hm;exact .dK e3
  ·cases e
 |_=>cases e
def zrs(K:yr)(t c:Ty):yD K (.type t.name) (.type c.name)=some (zoq t c):=by
 cases t<;>cases c<;>first|rfl|decide +kernel
def zvf(c:Ty):tS X (.builtin "isinstance") (zMm c):=by
 refine tS.of λU s Y H xs us Q I r Z ds O d O' r1 R e k=>?_;unfold zMm at e
 split at e
 ·obtain⟨hn,e⟩:=zK e;obtain⟨t,e1,e⟩:=ze e;cases e;obtain⟨v,rr,rfl,q1,q2⟩:=r1.cons_inv;obtain⟨v2,rr2,rfl,q3,q4⟩:=q2.cons_inv;rw[q4.nil_inv,q3.Sb,beq_iff_eq.mp hn]at r
  cases r with
  |cons ra rb=>
   cases rb with
   |cons rc rd=>
    cases rd;cases rc;exact z7n I ra (zar R q1 e1) (zrs X.K t c) λtk=>⟨.bl _,H,I.tok tk,rfl,k Z H _ Ext.refl R .bl⟩
 ·cases e
@[simp] def zLu:D->Bool
 |.bl _=>true
 |_=>false
@[simp] def blB:D->Bool
 |.bl b=>b
 |_=>false
@[simp] def zPr:GL:=λds O=>match ds with
 |[.loc n]=>match O[n]? with
  |some (.lst xs)=>bif xs.all zLu then some (.bl (xs.all blB),O) else none
  |_=>none
 |_=>none
def zXh(hc:X.calm=true):tS X (.builtin "all") zPr:=by
 refine tS.of λU s Y H xs us Q I r Z ds O d O' r1 R e k=>?_;unfold zPr at e
 split at e
 ·split at e
  ·rename_i n _ ys hm
   obtain⟨hb,e⟩:=zK e;cases e;obtain⟨v,rr,rfl,q1,q2⟩:=r1.cons_inv;obtain⟨a,rfl,e2⟩:=q1.tJ;obtain⟨vs,e3,q3⟩:=R.at_ _ _ _ e2 hm;rw[q2.nil_inv]at r;obtain⟨u,rfl,ru⟩:=vals1 r;cases ru;obtain⟨its,rv,pl,hz⟩:=I.list (SqL.of (K:=X.K) e3);have hlt:a<s.heap.objs.size:=by obtain⟨_,_,e,_⟩:=pl;exact ym e
   refine call_all_walk (wpAny_pyIter_list pl.isList ?_);refine⟨_,_,_,_,_,_,λi=>blB (ys.getD i .non),rfl,Walks.list (A:=X.A.in1) (I.ok.hd hc) s.heap.objs.size a (yJ hlt) its.toArray,⟨⟨_,yC _ rfl,rfl,rfl⟩,pl.isList.push _⟩,?_,λh' tk hk=>?_⟩
   ·intro i w s' Q' E' hP hQ;have hi:its[i]?=some w:=by simpa using hP
    have hil:i<ys.length:=by
     have h1:=(List.getElem?_eq_some_iff.mp hi).1;rw[q3.length,rv.length];exact h1
    have hyi:ys[i]?=some ys[i]:=by simp[hil]
    obtain⟨vv,ev,rvv⟩:=q3.get hyi;obtain⟨ww,ew,rww⟩:=rv.get ev;rw[hi]at ew;cases ew;have hall:=List.all_eq_true.mp hb ys[i] (getElem_mem hil)
    have hQ':Q' (blB ys[i]) s':=by
     have e:ys.getD i .non=ys[i]:=by rw[getD_eq_getElem?_getD,hyi];rfl
     rw[<-e];exact hQ
    cases hyb:ys[i] with
    |bl b=>
     rw[hyb]at rvv hQ';rw[rvv.tQ]at rww;cases rww;exact YK hQ'
    |_=>rw[hyb]at hall;cases hall
   ·have hsz:its.toArray.size=ys.length:=by rw[q3.length,rv.length];simp
    have eall:((Yp its.toArray.size).all λi=>blB (ys.getD i .non))=ys.all blB:=by
     rw[hsz,Bool.eq_iff_iff,all_eq_true,all_eq_true];constructor
     ·intro h y hy;obtain⟨i,hi,rfl⟩:=List.mem_iff_getElem.mp hy;have:=h i (by simpa using hi);rw[getD_eq_getElem?_getD,show ys[i]?=some ys[i] by simp[hi]]at this;exact this
     ·intro h i hi;have hi':i<ys.length:=by simpa using hi
      rw[getD_eq_getElem?_getD,show ys[i]?=some ys[i] by simp[hi']];exact h ys[i] (getElem_mem hi')
    rw[eall];have I1:Inv X U Y H {s with heap:=s.heap.push {cls:=.type "list_iterator",data:=.fields #[.ref a,.int 0 0]}}:=I.kept (t':=s.toks) λb o e=>yk _ e;have hfr:=I1.hok;refine⟨.bl _,H,I.kept (h':=h') (t':=tk) λb o e=>hk b o (by simpa using yJ (ym e)) (yk _ e),rfl,k Z H _ Ext.refl R .bl⟩
  ·cases e
 ·cases e
end
@[simp] def zrd:Option Out->Option (D×Mem)
 |some (.ret d O)=>some (d,O)
 |some (.next _ O)=>some (.non,O)
 |_=>none
@[simp] def zM(N:List yg)(ds:List D):Loc:=ds.map some++yl (N.length-ds.length) none
def zCm{K:yr}{Z:List yc}{H:Hp}{O:Mem}{N:List yg}{ds:List D}{vs:List V}(r:tf K Z H ds vs)(R:tG K Z H O):At K Z H (L2.start N vs) (zM N ds) O:=by
 refine⟨λi d e=>?_,R,by unfold L2.start zM;simp[r.length]⟩;unfold zM at e;unfold L2.start
 by_cases hi:i<ds.length
 ·rw[yE (by simpa using hi),yO]at e
  cases e1:ds[i]? with
  |none=>rw[e1]at e;cases e
  |some d'=>
   rw[e1]at e;cases e;obtain⟨v,e2,q⟩:=r.get e1;refine⟨v,?_,q⟩;rw[yE (by simpa[<-r.length] using hi),yO,e2];rfl
 ·rw[yA (by simpa using hi),xf]at e
  split at e<;>cases e
def fnM{P:yu}{w:yI}{K:yr}{mg:yg->Option ya}{base:yS}{x qual:yg}{st:yQ}{f:yc}{fd:yf}{N ps:List yg}{k n:Nat}{F:FF}(φ:Fun K x qual st f fd)(S:tz N ps (zp st))(hn:ps.length=n)
 (hbody:∀(cdv:ya)(A:yF)(outer:List Env)(s:yb)(H:Hp)(E:XK),tW k (A.deeper (envOfC qual (zp st) s.heap.objs.size f cdv)) ->
  ∃p,MSs (zLn CX0 P w K mg base N qual (zp st) f cdv A outer s H E).nox (zoc st) p/\∀ds O d O',ds.length=n->F ds O=some (d,O')->zrd (p (zM N ds) O)=some (d,O')) :
 tw P w K mg base CX0 (k+1) f fd ps (spM K n F):=by
 refine φ.ok S (λvs H Q E h=>by rw[hn];exact h.1) (λcdv A outer s H vs Q E hr h=>?_);obtain⟨p,hp,hF⟩:=hbody cdv A outer s H E hr;refine⟨_,hp,?_⟩;obtain⟨hl,Z,ds,O,d,O',r,R,e,k⟩:=h;have e':=hF ds O d O' (by rw[r.length];exact hl) e
 cases eo:p (zM N ds) O with
 |none=>rw[eo]at e';cases e'
 |some o=>
  rw[eo]at e';refine⟨Z,zM N ds,O,o,zCm r R,eo,?_⟩
  cases o with
  |ret d2 O2=>cases e';exact λZ' v H' x' R' r'=>k Z' H' v x' R' r'
  |next J2 O2=>cases e';exact λZ' Y' H' x' A'=>k Z' H' .non x' A'.hp .non
  |brk _ _=>cases e'
  |cont _ _=>cases e'
  |exc _ _ _=>cases e'
def zdq(sc inner:YZ):Bool:=(inner.kind == .function)&&inner.names.all (λy=>inner.names.lookup y.1==some y.2) &&
 inner.names.all λx=>x.2 != .free||sc.names.lookup x.1==some .cell||sc.names.lookup x.1==some .free
def zll{sc inner:YZ}(h:zdq sc inner=true):inner.kind=.function:=by
 unfold zdq at h;simp only[yN,beq_iff_eq]at h;exact h.1.1
def zNo{sc inner:YZ}(h:zdq sc inner=true):∀y∈inner.names,inner.names.lookup y.1=some y.2:=by
 unfold zdq at h;simp only[yN]at h;intro y hy;exact beq_iff_eq.mp (List.all_eq_true.mp h.1.2 y hy)
def zKk{sc inner:YZ}(h:zdq sc inner=true):∀x∈inner.names,x.2=.free->(sc.names.lookup x.1=some .cell\/sc.names.lookup x.1=some .free):=by
 unfold zdq at h;simp only[yN]at h;intro y hy e;have:=List.all_eq_true.mp h.2 y hy;simpa[e] using this
def zKb{N:List yg}(h:decide N.Nodup=true):N.Nodup:=of_decide_eq_true h
def zCc{P:Nat->Prop}:∀i∈([]:List Nat),P i:=λi h=>nomatch h
def zzg{P:Nat->Prop}{i:Nat}{l:List Nat}(h:P i)(r:∀j∈l,P j):∀j∈i::l,P j:=λj hj=>by
 rcases List.mem_cons.mp hj with rfl|hj
 ·exact h
 ·exact r j hj
section
variable {X:Cx}{a b c e:yt}{es:List yt}{G ψ χ:FE}{pos:YD}
def mlc{scope:YZ}{elt tg iter:yt}{ifs:List yt}{i:FI}{g:FG}{ct:FT}(own:List yg)(fr:List Nat)(hi:MI X tg iter i)
 (hg:∀cl C s₀ H₀ fp,MGc (cxC X own fr scope cl C s₀ H₀ fp) own.length tg g) (hq:∀cl C s₀ H₀ fp,MF (cxC X own fr scope cl C s₀ H₀ fp) ifs ct) (he:∀cl C s₀ H₀ fp,ME (cxC X own fr scope cl C s₀ H₀ fp) elt G)
 (hfr:∀i∈fr,∃x,X.N[i]?=some x/\scope.names.lookup x=some .free) (hok:zdq X.env.scope scope=true:=by rfl) (hc:X.calm=true:=by rfl) (hs:∀x,YL iter X.env x=pure x:=by intro _;rfl) :
 ME X (.ListComp elt [⟨tg,iter,ifs,0⟩] scope pos) (fLC own.length fr i g ct G) :=
 zMt own fr hi hg hq he hc (zll hok) (zNo hok) (zKk hok) hfr hs
structure FnAt(K:yr)(mg:yg->Option ya)(x:yg)(st:yQ)(ps:List yg)(f:yc)(fd:yf):Prop where
 fn:Fun K x x st f fd
 at_:mg x=some (.ref f)
 bd:Binds K fd ps []
def tx{k j n:Nat}{st:yQ}{f:yc}{fd:yf}{ps:List yg}{F:FF}{x:yg}{p:YD}{G:FA}(B:FnAt X.K X.mg x st ps f fd)(φ:tw X.prog X.w X.K X.mg X.base CX0 j f fd ps (spM X.K n F))(hr:tW k X.A)
 (ha:MAn X (e::es) G) (hj:j<=k:=by decide) (hn:(e::es).length=n:=by rfl) (hg:Gl X x:=by rfl) (hdb:(x==("__debug__":yg))=false:=by decide) (he:yj (e::es) X.env=(false,Yi e X.env)::yj es X.env:=by exact zwd rfl) (hpl:(Ye pos (yj es X.env)).any (·.1)=false:=by rfl) :
 ME X (.Call (.Name x p) (e::es) [] pos) (zv F G):=zVq φ (hr.mono hj) B.at_ B.fn.kp B.bd ha hn hg hdb he hpl
def cat0{prog:yu}{w:yI}{A:yF}{E:ya->yb->Prop}{s:yb}{t b:yc}{vs ws:List ya}{Q:ya->yb->Prop}(ht:IsTup s.heap t vs.toArray)(hb:IsTup s.heap b ws.toArray)(hv:vs=[])(h:Q (.ref b) s) :
 yw (yz prog w) A (Yz .Add (.ref t) (.ref b)) Q E s:=by
 obtain⟨⟨cls,dd,data,sl⟩,ho,hc,n,hd⟩:=id ht;obtain⟨⟨cls2,dd2,data2,sl2⟩,ho2,hc2,n2,hd2⟩:=id hb;simp only at hc hd hc2 hd2;subst hc hd hc2 hd2;refine concat_meets ⟨_,ho,rfl⟩ ⟨_,ho2,rfl⟩ noFill_tuple_add seq_tuple_add PySem.F.slot_tuple_add PySem.F.entry_tuple_add (PySem.F.args_tuple_add_2 _ _) (tuple_addW0 t b vs.toArray ws.toArray n n2 dd dd2 sl sl2 (by rw[hv];rfl)) ⟨ho,ho2,h⟩
def z4:OpM X (Yz .Add) z7f:=by
 refine OpM.of λU s Y H x y v u Q I rx ry Z dx dy O d O' r1 r2 R e k=>?_;unfold z7f at e
 split at e
 ·cases e;rw[r1.int_inv]at rx;rw[r2.int_inv]at ry;obtain⟨t,rfl⟩:=rx;obtain⟨t',rfl⟩:=ry;exact add_int ⟨.int _,H,I.tok _,⟨_,rfl⟩,k Z H _ Ext.refl R .int⟩
 ·rename_i as bs
  obtain⟨h1,e⟩:=zK e;have h1:=of_decide_eq_true h1;cases e;obtain⟨a1,vs,rfl,e1,q1⟩:=r1.tT;obtain⟨a2,ws,rfl,e2,q2⟩:=r2.tT;have hm:=tZ;have hl1:=q1.length;have hl2:=q2.length
  by_cases hv:vs=[]
  ·cases rx;cases ry;obtain⟨its,rv,p1,_⟩:=I.tuple (SqT.of (K:=X.K) e1);obtain⟨its2,rv2,p2,_⟩:=I.tuple (SqT.of (K:=X.K) e2);refine cat0 p1 p2 (rv.TL.mpr hv) ⟨.ref a2,H,I,rfl,k Z H _ Ext.refl R ?_⟩;have ha:as=[]:=by rw[hv]at hl1;exact List.length_eq_zero_iff.mp hl1
   rw[ha,nil_append];exact r2
  ·refine z6q U s Y H _ _ v u Q I rx ry ⟨a1,a2,vs,ws,rfl,rfl,SqT.of e1,SqT.of e2,hv,by omega,λhw=>?_,λ_ p hp=>?_⟩
   ·have hb:bs=[]:=by rw[hw]at hl2;exact List.length_eq_zero_iff.mp hl2
    rw[hb,append_nil]at k;exact k Z H _ Ext.refl R r1
   ·exact k Z _ _ (Ext.new hp) (R.Tr hp) (.tup zW ((q1.append q2).ext (Ext.new hp)))
 ·split at e
  ·rename_i hm1 hm2
   obtain⟨h1,e⟩:=zK e;have h1:=of_decide_eq_true h1;cases e;obtain⟨a1,rfl,e1⟩:=r1.tJ;obtain⟨a2,rfl,e2⟩:=r2.tJ;obtain⟨vs,e3,q1⟩:=R.at_ _ _ _ e1 hm1;obtain⟨ws,e4,q2⟩:=R.at_ _ _ _ e2 hm2;have hm:=tZ;have hl1:=q1.length;have hl2:=q2.length;exact zXs U s Y H _ _ v u Q I rx ry ⟨a1,a2,vs,ws,rfl,rfl,e3,e4,by omega,λp hp=>k _ _ _ (Ext.push hp) (R.push hp ⟨_,zW,(q1.append q2).ext (Ext.push hp)⟩) (.loc (z8c R))⟩
  ·cases e
 ·cases e
def zQi:fillsNumberSlot (.type "tuple") "mul"=pure false :=
 PyProof.Rows.fillsNumberSlot_seq (id:="tuple.__mul__") (r:=some (.builtin "tuple.__rmul__")) PySem.F.slot_tuple_mul.lookup (by decide +kernel) PySem.F.slot_tuple_rmul.lookup (by decide +kernel)
def zgn:seqRepeat? (.type "tuple")=pure (some (.builtin "tuple.__mul__")):=by
 unfold seqRepeat?;rw[PyProof.Rows.seqSlot_of (T:="tuple") (name:="__mul__") (id:="tuple.__mul__") PySem.F.slot_tuple_mul.lookup (by decide +kernel),PyProof.Rows.seqSlot_of (T:="tuple") (name:="__rmul__") (id:="tuple.__rmul__") PySem.F.slot_tuple_rmul.lookup (by decide +kernel)];rfl
def zgh(i:Int)(t:Tok)(l:yc)(items:Array ya)(n:Nat)(dd:Option yc)(sl:Array (Option ya)) :
 Meets (Builtin.«int.__rmul__» ⟨[.int i t,.ref l],[]⟩) (λ_ R s=>s.heap.get? l=some {cls:=.type "tuple",dict:=dd,data:=.seq items n,slots:=sl }/\R (.ok (.ret Value.notImplemented)) s) :=
 .of_wp λprog w A R s h=>by
  obtain⟨hp,g,d,tk,os⟩:=s;obtain⟨hl,h⟩:=h
  wp_walk
  exact⟨_,rfl,h⟩
def zWj(l:yc)(items:Array ya)(n:Nat)(dd:Option yc)(sl:Array (Option ya))(i:Int)(t:Tok)(h2:2<=i)(h3:i<=1000)(h4:items.isEmpty=false)(h5:items.size<=1000)
 (hsz:((yl i.toNat items).foldl (λx1 x2=>x1++x2) #[]).size<=yB) :
 Meets (Builtin.«tuple.__mul__» ⟨[.ref l,.int i t],[]⟩) (λ_ R s=>s.heap.get? l=some {cls:=.type "tuple",dict:=dd,data:=.seq items n,slots:=sl } /\
  R (.ok (.ret (yZ s.heap.objs.size))) {s with heap:=s.heap.push {cls:=Value.type "tuple",data:=Data.seq ((yl i.toNat items).foldl (λx1 x2=>x1++x2) #[])},toks:=s.toks }) :=
 .of_wp λprog w A R s h=>by
  obtain⟨hp,g,d,tk,os⟩:=s;obtain⟨hl,h⟩:=h;have f1:=AutoSeq1.idx_int
  have c1:¬((decide (i < -(2^63))||decide (i≥2^63))=true):=by
   rw[decide_eq_false (by omega),decide_eq_false (by omega)];exact yR
  have c2:¬((items.isEmpty||i==1)=true):=by
   rw[h4,show(i==1)=false by simp;omega];exact yR
  have c3:¬((decide (i<=0)||items.isEmpty)=true):=by
   rw[h4,decide_eq_false (by omega)];exact yR
  have c4:¬((items.size:Int)*i>(2^63-1) / 8):=by
   have h6:(items.size:Int)*i<=1000*1000:=Int.mul_le_mul (by omega) h3 (by omega) (by omega);omega
  have c5:¬(Builtin.Tuple.tupleTooMany ((items.size:Int)*i)=true):=by
   have h6:(items.size:Int)*i<=1000*1000:=Int.mul_le_mul (by omega) h3 (by omega) (by omega);have hz:(yB:Int)=16777216:=by rw[sizeLine_eq];rfl
   unfold Builtin.Tuple.tupleTooMany;rw[decide_eq_false (by omega)];exact yR
  wp_walk using wpAny_loadPart' hl
  rw[if_neg c1]
  wp_walk using wpAny_loadPart' hl
  rw[if_neg c2];dsimp only;rw[if_neg c3,if_neg c4,if_neg c5];refine yh (m:=YG _) (Yq (yy ⟨_,rfl,h⟩) hsz)
def zbj(its:List ya):∀(n:Nat)(acc:List ya),List.foldl (λx1 x2=>x1++x2) acc.toArray (yl n its.toArray)=(acc++(yl n its).flatten).toArray
 |0,acc=>by simp
 |n+1,acc=>by
  rw[replicate_succ,List.foldl_cons,List.append_toArray,zbj its n,replicate_succ,flatten_cons,append_assoc]
def zOl{K:yr}{Z:List yc}{H:Hp}{ds:List D}{vs:List V}(r:tf K Z H ds vs):∀n:Nat,tf K Z H (yl n ds).flatten (yl n vs).flatten
 |0 =>.nil
 |n+1=>by
  rw[replicate_succ,replicate_succ,flatten_cons,flatten_cons];exact r.append (zOl r n)
def zKj{vs:List V}{us:List ya}(r:Vals vs us):∀n:Nat,Vals (yl n vs).flatten (yl n us).flatten
 |0 =>.nil
 |n+1=>by
  rw[replicate_succ,replicate_succ,flatten_cons,flatten_cons];exact r.append (zKj r n)
def zSc:OpM X (Yz .Mult) zPi:=by
 refine OpM.of λU s Y H x y v u Q I rx ry Z dx dy O d O' r1 r2 R e k=>?_;unfold zPi at e
 split at e
 ·obtain⟨h1,e⟩:=zK e;cases e;rw[r1.int_inv]at rx;rw[r2.int_inv]at ry;obtain⟨t,rfl⟩:=rx;obtain⟨t',rfl⟩:=ry;exact mul_int ⟨.int _,H,I.tok _,⟨_,rfl⟩,k Z H _ Ext.refl R .int⟩ (zvp h1)
 ·rename_i ds i
  obtain⟨h1,e⟩:=zK e;have h1:=of_decide_eq_true h1;obtain⟨h2,h3,h4,h5⟩:=h1;cases e;obtain⟨a1,vs,rfl,e1,q1⟩:=r1.tT;rw[r2.int_inv]at ry;cases rx;obtain⟨t,rfl⟩:=ry;obtain⟨its,rv,⟨⟨cls,dd,data,sl⟩,ho,hc,n,hd⟩,hz⟩:=I.tuple (SqT.of (K:=X.K) e1);simp only at hc hd;subst hc hd;have hl:its.length=ds.length:=by rw[q1.length,rv.length]
  have hlen:((yl i.toNat vs).flatten).length<=yB:=by
   rw[zEo];have hm:=tZ;have h6:i.toNat*vs.length<=1000*1000:=xh (by omega) (by rw[<-q1.length];exact h5);omega
  have e2:=zbj its i.toNat [];rw[nil_append]at e2
  have hsz:((yl i.toNat its.toArray).foldl (λx1 x2=>x1++x2) #[]).size<=yB:=by
   rw[show(#[]:Array ya)=([]:List ya).toArray from rfl,e2,size_toArray,<-(zKj rv i.toNat).length];exact hlen
  refine wpAny_binaryOp_repeat_ref (T:="tuple") (U:="int") (by decide) ⟨_,ho,rfl⟩ (λs'=>typeIs_int s' i t) zQi PySem.F.fills_int_mul PySem.F.slot_int_rmul zgn PySem.F.slot_int_index.lookup
   (call_meets PySem.F.slot_int_rmul (typeIs_int s i t) PySem.F.entry_int_rmul (PySem.F.args_int_rmul_2 _ _) (zgh i t a1 its.toArray n dd sl)
    ⟨ho,rfl,⟨_,ho,rfl⟩,call_meets PySem.F.slot_tuple_mul ⟨_,ho,rfl⟩ PySem.F.entry_tuple_mul (PySem.F.args_tuple_mul_2 _ _) (zWj a1 its.toArray n dd sl i t h2 h3 (by rw[List.isEmpty_toArray,List.isEmpty_eq_false_iff_exists_mem];exact⟨_,getElem_mem (by omega:0<its.length)⟩) (by rw[size_toArray,hl];exact h5) hsz) ⟨ho,?_⟩⟩)
  rw[show(#[]:Array ya)=([]:List ya).toArray from rfl,e2];have hf:=I.hok.fresh (yo s.heap.objs.size);refine⟨.ref s.heap.objs.size,_,I.laid (t':=s.toks) (o:=.tup (yl i.toNat vs).flatten) (λb ob q=>yk _ q) (yo _) ?_,rfl,k Z _ _ (Ext.new hf) (R.Tr hf) (.tup zW ((zOl q1 i.toNat).ext (Ext.new hf)))⟩;exact⟨hlen,_,zKj rv i.toNat,IsTup.new _ _⟩
 ·rename_i l n
  split at e
  ·rename_i ds hm
   obtain⟨h1,e⟩:=zK e;have h1:=of_decide_eq_true h1;obtain⟨h2,h3,h4⟩:=h1;cases e;obtain⟨a1,rfl,ea⟩:=r1.tJ;obtain⟨vs,e3,q3⟩:=R.at_ _ _ _ ea hm;refine zat U s Y H _ _ v u Q I rx ry ⟨a1,n,vs,rfl,r2.int_inv,e3,by omega,by omega,?_,λp hp=>k _ _ _ (Ext.push hp) (R.push hp ⟨_,zW,(zOl q3 n.toNat).ext (Ext.push hp)⟩) (.loc (z8c R))⟩;have hmi:=tZ;have h6:vs.length*n.toNat<=1000*1000:=xh (by rw[<-q3.length];exact h4) (by omega);omega
  ·cases e
 ·cases e
abbrev FO:=Loc->Mem->Option (Option Int×Mem)
def tMO(K:yr)(G:FO):TO:=λY H Q=>∃Z J O o O',At K Z H Y J O/\G J O=some (o,O')/\∀Z' H',Ext Z H Z' H'->tG K Z' H' O'->Q o H'
def MO(X:Cx)(e:Option yt)(G:FO):Prop:=PO X e (tMO X.K G)
@[simp] def pNo:FO:=λ_ O=>some (none,O)
@[simp] def znm(G:FE):FO:=λJ O=>(G J O).bind λp=>match p.1 with
 |.int i=>some (some i,p.2)
 |_=>none
def cutD(xs:List D)(lo hi:Option Int):List D:=(xs.drop (HT.sIx xs.length 0 lo)).take (HT.sIx xs.length xs.length hi-HT.sIx xs.length 0 lo)
@[simp] def fSl(G:FE)(lo hi:FO):FE:=λJ O=>(G J O).bind λp=>(lo J p.2).bind λl=>(hi J l.2).bind λh=>match p.1 with
 |.tup ds=>some (.tup (cutD ds l.1 h.1),h.2)
 |.loc n=>match h.2[n]? with
  |some (.lst ds)=>some (.loc h.2.length,h.2++[.lst (cutD ds l.1 h.1)])
  |_=>none
 |_=>none
end
def z0o{prog:yu}{w:yI}{A:yF}{E:ya->yb->Prop}{s:yb}{t sl:yc}{items:Array ya}{vl vu:ya}{lo hi:Option Int}{Q:ya->yb->Prop}(ht:IsTup s.heap t items)(hs:s.heap.IsSliceOf sl vl vu .none)(pl:IsPart vl lo)(pu:IsPart vu hi)
 (hw:HT.sIx items.size 0 lo=0/\HT.sIx items.size items.size hi=items.size) (h:Q (.ref t) s):yw (yz prog w) A (getItem (.ref t) (.ref sl)) Q E s:=by
 obtain⟨os,hos,hcs,hds⟩:=id hs;have hTs:s.TypeIs (.ref sl) "slice":=⟨os,hos,hcs⟩
 unfold getItem
 try with_reducible refine YE ?_
 first|refine yh (yy ?_)|skip
 refine yh (wpAny_sequenceKey ht.typeIs (by decide) ?_)
 refine yh (wpAny_callSpecial?_slot (name:=Str.ofString "__getitem__") ht.typeIs Yx
  (wpAny_call_entry Yx ht.typeIs entry_tuple_getitem ?_ (args_tuple_getitem _ _)))
 show yw _ _ (Builtin.Tuple.tupleItemsOf (.ref t) >>= _) _ _ s;refine yh (tupleItemsOf_ ht ?_);refine yh (wpAny_typeOf hTs ?_);rw[if_pos (by decide)];refine yh (HT.Th hs pl pu ?_)
 have hyes:(((HT.sIx items.size 0 lo:Nat):Int)==0&&(1:Int)==1&&(HT.sIx items.size items.size hi-HT.sIx items.size 0 lo)==items.size)=true:=by
  rw[hw.1,hw.2];simp
 show yw _ _ (if(((HT.sIx items.size 0 lo:Nat):Int)==0&&(1:Int)==1&&(HT.sIx items.size items.size hi-HT.sIx items.size 0 lo)==items.size)=true then _ else _) _ _ s;rw[if_pos hyes];refine yh (m:=Builtin.Tuple.tupleIsExact _) ?_;unfold Builtin.Tuple.tupleIsExact;refine yh (wpAny_typeOf ht.typeIs (yy ?_));rw[if_pos (by decide)];exact yh (wpAny_rule (yy ⟨_,rfl,yy h⟩))
section
variable {X:Cx}{a b c e:yt}{es:List yt}{G ψ χ:FE}{pos p2:YD}{lo hi:Option yt}
def rSl(K:yr):V->Option Int->Option Int->Hp->VK->Prop:=λx lo hi H Q=>∃a xs,x=.ref a/\H a=some (.tup xs) /\
 ((HT.sIx xs.length 0 lo=0/\HT.sIx xs.length xs.length hi=xs.length)->Q (.ref a) H)/\∀p,H p=none->Q (.ref p) (upd H p (.tup (zCn xs lo hi)))
def zAt:SlR X (rSl X.K):=by
 intro U s Y H x v vl vu lo hi sl Q I rx hs pl pu h;obtain⟨a,xs,rfl,hx,h1,h2⟩:=h
 by_cases hw:HT.sIx xs.length 0 lo=0/\HT.sIx xs.length xs.length hi=xs.length
 ·cases rx;obtain⟨its,r,ht,hz⟩:=I.tuple (SqT.of (K:=X.K) hx);have hlen:its.toArray.size=xs.length:=by rw[size_toArray];exact r.length.symm
  exact⟨"tuple",_,PyProof.Rows.slot_tuple_getitem.lookup,ht.typeIs,z0o ht hs pl pu (by rw[hlen];exact hw) ⟨.ref a,H,I,rfl,h1 hw⟩⟩
 ·exact zet U s Y H _ v vl vu lo hi sl Q I rx hs pl pu ⟨a,xs,rfl,SqT.of hx,hw,h2⟩
def zqi:MO X none pNo:=by intro U s Y H Q I hh;obtain⟨Z,J,O,o,O',A,e,k⟩:=hh;exact zJr U s Y H Q I (by cases e;exact k Z H Ext.refl A.hp)
def zRf(h:ME X e G):MO X (some e) (znm G):=by intro U s Y H Q I hh;obtain⟨Z,J,O,o,O',A,e,k⟩:=hh;exact zrr h U s Y H Q I (by
 obtain⟨⟨x,O1⟩,e1,e⟩:=ze e;refine⟨Z,J,O,x,O1,A,e1,λZ1 H1 v x1 R1 r1=>?_⟩;dsimp only at e
 split at e
 ·cases e;exact⟨_,r1.int_inv,k Z1 H1 x1 R1⟩
 ·cases e)
def zLl{K:yr}{Z:List yc}{H:Hp}{ds:List D}{vs:List V}{lo hi:Option Int}(r:tf K Z H ds vs):tf K Z H (cutD ds lo hi) (zCn vs lo hi):=by
 unfold cutD zCn;rw[r.length];exact(r.drop _).take _
def zmp{l h:FO}(he:ME X e G)(hl:MO X lo l)(hu:MO X hi h):ME X (.Subscript e (.Slice lo hi none p2) pos) (fSl G l h) :=
 zIe (zem (SlR.or zAt zRq) he hl hu) λZ J O Y H d O' Q A e k=>by
  obtain⟨⟨x,O1⟩,e1,e⟩:=ze e;obtain⟨⟨o1,O2⟩,e2,e⟩:=ze e;obtain⟨⟨o2,O3⟩,e3,e⟩:=ze e;refine⟨Z,J,O,x,O1,A,e1,λZ1 H1 v x1 R1 r1=>?_⟩;refine⟨Z1,J,O1,o1,O2,A.ext x1 R1,e2,λZ2 H2 x2 R2=>?_⟩;refine⟨Z2,J,O2,o2,O3,A.ext (x1.trans x2) R2,e3,λZ3 H3 x3 R3=>?_⟩;dsimp only at e
  split at e
  ·cases e;obtain⟨a,vs,rfl,ea,q⟩:=(r1.ext (x2.trans x3)).tT;have xx:=x1.trans (x2.trans x3);refine .inl ⟨a,vs,rfl,ea,λhw=>k Z3 H3 _ xx R3 (.tup ea ?_),λp hp=>k Z3 _ _ (xx.trans (Ext.new hp)) (R3.Tr hp) (.tup zW ((zLl q).ext (Ext.new hp)))⟩
   have e4:zCn vs o1 o2=vs:=by
    unfold zCn;rw[hw.1,hw.2,Nat.sub_zero,List.drop_zero,List.take_length]
   have:=zLl (lo:=o1) (hi:=o2) q;rw[e4]at this;exact this
  ·split at e
   ·rename_i hm
    cases e;obtain⟨a,rfl,ea⟩:=(r1.ext (x2.trans x3)).tJ;obtain⟨vs,ev,q⟩:=R3.at_ _ _ _ ea hm;have xx:=x1.trans (x2.trans x3);exact .inr ⟨a,vs,rfl,SqL.of ev,λp hp=>k _ _ _ (xx.trans (Ext.push hp)) (R3.push hp ⟨_,zW,(zLl q).ext (Ext.push hp)⟩) (.loc (z8c R3))⟩
   ·cases e
  ·cases e
@[simp] def zdv(G:FE):FE:=λJ O=>(G J O).bind λp=>match p.1 with
 |.int i=>some (.int (-i),p.2)
 |_=>none
def big{U:List (yc×Yw)}{Y:L2.St}{H:Hp}{s:yb}(I:Inv X U Y H s):sysModules<s.heap.objs.size:=by
 have h:ye<s.heap.objs.size:=(I.mod.glob.keeps I.bk).lt;exact Nat.lt_trans (by decide) h
@[simp] def z5t:FE:=λ_ O=>some (.loc O.length,O++[.dct []])
def zwt:ME X (.Dict [] [] pos) z5t:=by
 intro U s Y H Q I hh;obtain⟨Z,J,O,d,O',A,e,k⟩:=hh;cases e;have hf:=I.hok.fresh (yo s.heap.objs.size);refine wpAny_Dict_empty ⟨.ref s.heap.objs.size,_,I.laid (a:=s.heap.objs.size) (o:=.dK []) (t':=s.toks) (λ_ _ q=>yk _ q) (yo _) ?_,rfl,k _ _ _ (Ext.push hf) (A.hp.push hf ⟨[],zW,rfl,.nil⟩) (.loc (z8c A.hp))⟩;exact⟨Yv _,beq_eq_false_iff_ne.mpr (Yg (yJ (big I))),[],.nil,Heap.DictOf.new _⟩
abbrev GM:=D->List D->Mem->Option (D×Mem)
@[simp] def zAl(g:GM)(G:FE)(ψ:FA):FE:=λJ O=>(G J O).bind λp=>match p.1 with
 |.loc n=>match p.2[n]? with
  |some (.lst _)=>(ψ J p.2).bind λq=>g (.loc n) q.1 q.2
  |_=>none
 |_=>none
@[simp] def ztf:GM:=λx ds O=>match x,ds with
 |.loc n,[d]=>match O[n]? with
  |some (.lst xs)=>bif decide (xs.length<=1000000) then some (.non,O.set n (.lst (xs++[d]))) else none
  |_=>none
 |_,_=>none
def MtG(X:Cx)(id:String)(g:GM):Prop:=MtR X id λx xs H Q=>∃Z dx ds O d O',tu X.K Z H dx x/\tf X.K Z H ds xs/\tG X.K Z H O/\g dx ds O=some (d,O')/\∀Z' H' v,Ext Z H Z' H'->tG X.K Z' H' O'->tu X.K Z' H' d v->Q v H'
def MtG.of{X:Cx}{id:String}{g:GM}(h:∀(U:List (yc×Yw)) (s:yb) (Y:L2.St) (H:Hp) (x:V) (xs:List V) (v:ya) (us:List ya) (Q:VK),Inv X U Y H s->RelV x v->Vals xs us->∀(Z:List yc)(dx:D)(ds:List D)(O:Mem)(d:D)(O':Mem),tu X.K Z H dx x->tf X.K Z H ds xs->tG X.K Z H O->g dx ds O=some (d,O')->(∀Z' H' v,Ext Z H Z' H'->tG X.K Z' H' O'->tu X.K Z' H' d v->Q v H')->yw (yz X.prog X.w) X.A (call (.builtin id) (v::us)) (EP X U Y Q) X.xe s):MtG X id g:=by
 intro U s Y H x xs v us Q I rx rs hh;obtain⟨Z,dx,ds,O,d,O',r1,r2,R,e,k⟩:=hh;exact h U s Y H x xs v us Q I rx rs Z dx ds O d O' r1 r2 R e k
def zMr{o:yt}{ψ:FA}{name:yg}{id:String}{g:GM}{apos:YD}(slot:Slot "list" name id)(hty:typeOf (.builtin id)=pure (.type "method_descriptor"))(hm:MtG X id g)(ho:ME X o G)(ha:MAn X (e::es) ψ)
 (hbase:YR o name X.env (Yi o X.env)=Yi o X.env:=by rfl)
 (hfew:((Ye pos (yj (e::es) X.env)).all (λx=>!x.1)&&(backToKw pos (xj [] X.env)).all (λx=>x.1.isSome)
  && decide ((e::es).length+([]:List xo).length+(if([]:List xo).isEmpty then 0 else 1)<30))=true:=by rfl)
 (hline:(apos.endLine==pos.line)=true:=by rfl) (hs:yj (e::es) X.env=(false,Yi e X.env)::yj es X.env:=by rfl) (hplain:(Ye pos (yj es X.env)).any (·.1)=false:=by rfl) :
 ME X (.Call (.Attribute o name apos) (e::es) [] pos) (zAl g G ψ) :=
 zIe (zrt PySem.F.plainAttrs_list slot hty hm ho ha.ma hbase hfew hline hs hplain) λZ J O Y H d O' Q A e k=>by
  obtain⟨⟨x,O1⟩,e1,e⟩:=ze e;refine⟨Z,J,O,x,O1,A,e1,λZ1 H1 v x1 R1 r1=>?_⟩;dsimp only at e
  split at e
  ·split at e
   ·rename_i hm'
    obtain⟨⟨ds,O2⟩,e2,e⟩:=ze e;obtain⟨a,rfl,ea⟩:=r1.tJ;obtain⟨vs,e3,q3⟩:=R1.at_ _ _ _ ea hm';refine⟨.inl ⟨rfl,vs,SqL.of e3⟩,Z1,J,O1,ds,O2,A.ext x1 R1,e2,λZ2 H2 vs2 x2 R2 r2=>?_⟩;exact⟨Z2,_,ds,O2,d,O',r1.ext x2,r2,R2,e,λZ3 H3 v3 x3 R3 r3=>k Z3 H3 v3 (x1.trans (x2.trans x3)) R3 r3⟩
   ·cases e
  ·cases e
def zen:MtG X "list.append" ztf:=by
 refine MtG.of λU s Y H x xs v us Q I rx rs Z dx ds O d O' r1 r2 R e k=>?_;unfold ztf at e
 split at e
 ·split at e
  ·rename_i hm
   obtain⟨h1,e⟩:=zK e;have h1:=of_decide_eq_true h1;cases e;obtain⟨a,rfl,ea⟩:=r1.tJ;obtain⟨vs,e3,q3⟩:=R.at_ _ _ _ ea hm;obtain⟨w,r,rfl,q1,q2⟩:=r2.cons_inv;rw[q2.nil_inv]at rs;have hl:=q3.length;have hmi:=tZ;have hmu:Mut (H a):=by rw[e3];trivial
   refine zKo U s Y H _ _ v us Q I rx rs ⟨a,vs,w,rfl,rfl,e3,by omega,?_⟩;exact k Z _ _ (Ext.wr hmu) (R.wr hmu ea ⟨_,zW,tf.ext (Ext.wr hmu) (q3.append (.cons q1 .nil))⟩) .non
  ·cases e
 ·cases e
def zmi{o:yt}{ψ:FA}{apos:YD}(ho:ME X o G)(ha:MAn X (e::es) ψ)
 (hbase:YR o "append" X.env (Yi o X.env)=Yi o X.env:=by rfl)
 (hfew:((Ye pos (yj (e::es) X.env)).all (λx=>!x.1)&&(backToKw pos (xj [] X.env)).all (λx=>x.1.isSome)
  && decide ((e::es).length+([]:List xo).length+(if([]:List xo).isEmpty then 0 else 1)<30))=true:=by rfl)
 (hline:(apos.endLine==pos.line)=true:=by rfl) (hs:yj (e::es) X.env=(false,Yi e X.env)::yj es X.env:=by rfl) (hplain:(Ye pos (yj es X.env)).any (·.1)=false:=by rfl) :
 ME X (.Call (.Attribute o "append" apos) (e::es) [] pos) (zAl ztf G ψ):=zMr PySem.F.slot_list_append PySem.F.type_list_append zen ho ha hbase hfew hline hs hplain
end
end M
namespace M
open PySem
def RS(xs:Array Nat):Prop:=xs.toList.Pairwise (· < ·)
structure TOk(L:Bool)(t:SetTable):Prop where
 rs:RS t.place
 nd:t.dummies = #[]
 led:t.led=L
section
variable {prog:yu}{w:yI}{A:yF}{E:ya->yb->Prop}{s:yb}
variable {it a:yc}{es:Array (Int×ya)}{ep i:Nat}{t:SetTable}{Q:Option ya->yb->Prop}
variable {I:yc}
end
end M
namespace M
open PySem PyProof.Rows
section
variable {prog:yu}{w:yI}{A:yF}{E:ya->yb->Prop}{s:yb}{a:yc}
variable {R:Result->yb->Prop}{I:yc}{fp wr:List yc}{n:Nat}{P:Nat->ya->Prop}{St:Nat->yS->Prop}
end
end M
namespace M
open PySem PySem.Spec PyProof.Rows L2
section
variable {X:Cx}{U:List (yc×Yw)}{Y:L2.St}{H:Hp}{s s':yb}
variable {a b c e:yt}{es:List yt}{G ψ χ:FE}{pos pos2 p1 p2:YD}
variable {prog:yu}{w:yI}{A:yF}{E:ya->yb->Prop}
@[simp] def zek(G:FE):FI:=λJ O=>(G J O).bind λp=>match p.1 with
 |.tup ds=>some (ds,yes,p.2)
 |.fz ds=>some (ds,yes,p.2)
 |.loc n=>match p.2[n]? with
  |some (.lst ds)=>some (ds,zQm n ds,p.2)
  |_=>none
 |_=>none
def zSf{tg:yt}(h:ME X a G):MI X tg a (zek G):=by
 intro U s Y H R I hh;obtain⟨Z,J,O,ds,ok,O',A,e,k⟩:=hh
 cases e1:G J O with
 |none=>unfold zek at e;rw[e1]at e;cases e
 |some p=>
  obtain⟨x,O1⟩:=p
  cases x with
  |tup zs=>exact zit h U s Y H R I ⟨Z,J,O,ds,ok,O',A,by unfold zek at e;unfold ztq;rw[e1]at e ⊢;exact e,k⟩
  |fz zs=>exact zun h U s Y H R I ⟨Z,J,O,ds,ok,O',A,by unfold zek at e;unfold zVn;rw[e1]at e ⊢;exact e,k⟩
  |loc n=>exact zun h U s Y H R I ⟨Z,J,O,ds,ok,O',A,by unfold zek at e;unfold zVn;rw[e1]at e ⊢;exact e,k⟩
  |_=>unfold zek at e;rw[e1]at e;cases e
end
def zwn{K:yr}{h:yS}{C:yc}{bmB:List ya}{newId:String}(X:K.In h)(q:W.excIn K C bmB newId=true) :
 ∃bm N nm qn bs hdct sn sub ab col dd k0 k1 k2 k3 k5 mN,h.get? C=some (excClassObj nm qn C N bs bm hdct sn sub ab col dd k0 k1 k2 k3 k5 newId)/\h.Ns N mN/\mN "__init__"=none/\OwnTail h bmB bm:=by
 unfold W.excIn at q
 split at q
 ·rename_i dd cd sl ho
  split at q
  ·rename_i C' bm k0 k1 k2 k3 n k5 hm hs
   simp only[yN,beq_iff_eq,Bool.not_eq_true']at q;obtain⟨⟨⟨⟨⟨rfl,rfl⟩,hdel⟩,ht⟩,hok⟩,hni⟩:=q;obtain⟨nm,bs,mro,ns,qn,hd,sn,sub,ab,col,del⟩:=cd;dsimp only at hm hdel hok hni;subst hm hdel
   have hsl:sl = #[k0,k1,k2,k3,some (.builtin n),k5]:=by
    obtain⟨l⟩:=sl;simp only at hs;rw[hs]
   subst hsl;exact⟨bm,ns,nm,qn,bs,hd,sn,sub,ab,col,dd,k0,k1,k2,k3,k5,_,X _ _ ho,.of_isNs (W.isNs_of_in X hok),W.nsMap_none_of_in X hok hni,W.tail_of_in X ht⟩
  ·cases q
 ·cases q
section
variable {X:Cx}{e:yt}{es:List yt}{pos np cpos:YD}{x:yg}{C:yc}{B newId initId:String}{bmB:List ya}
@[simp] def zNf(c:yg)(G:FA):FS:=λJ O=>(G J O).bind λp=>some (.exc c [] p.2)
def zcg{G:FA}(hn:yK X.K ye x=some (some (.ref C)))(q:W.excIn X.K C bmB newId=true)(FB:ExcBaseFacts B newId initId bmB)(ha:MAn X (e::es) G)(hl:(e::es).length<=1000:=by decide)(hh:X.calm=true:=by rfl)(hg:Gl X x:=by rfl)
 (he:yj (e::es) X.env=(false,Yi e X.env)::yj es X.env:=by exact zwd rfl) (hpl:(Ye cpos (yj es X.env)).any (·.1)=false:=by rfl) (hdb:(x==("__debug__":yg))=false:=by decide) :
 MS X (.Raise (some (.Call (.Name x np) (e::es) [] cpos)) none pos) (zNf x G):=by
 intro U s Y H D I ⟨Z,J,O,o,A,eo,k⟩;obtain⟨⟨ds,O1⟩,e1,eo⟩:=ze eo;cases eo;obtain⟨bm,N,nm,qn,bs,hdct,sn,sub,ab,col,dd,k0,k1,k2,k3,k5,mN,hC,hN,hni,T⟩:=zwn I.mod.kin q
 have hpl':(Ye cpos (yj (e::es) X.env)).any (·.1)=false:=by
  rw[he];show(false||(Ye cpos (yj es X.env)).any (·.1))=false;rw[hpl];rfl
 refine wpAny_Raise_call_subT (C:=C) (nm:=nm) (q:=qn) (N:=N) (bs:=bs) (bm:=bm) (hdct:=hdct) (sn:=sn) (sub:=sub) (ab:=ab) (col:=col) (dd:=dd) (k0:=k0) (k1:=k1) (k2:=k2) (k3:=k3) (k5:=k5)
  FB (mN:=mN) (T.hasType FB.hasBase) (I.ok.hd hh) hpl' hni (zqk I hg (Yt I.mod.kin I.mod.glob hn) ⟨rfl,?_⟩ hdb)
 have h:=ha.ma cpos U s Y H (λvs H'=>vs.length<=yB/\zXc X (.ref C) none H') I ⟨Z,J,O,ds,O1,A,e1,λZ' H' vs x' R r=>⟨by
  rw[<-r.length,ha.len _ _ _ _ e1];exact YO (Tn hl),k Z' H' C none hn x' R (.inl ⟨rfl,rfl⟩)⟩⟩
 rw[he]at h ⊢;refine Calls.evalArgs_plain (yX h (λus s2 h2=>?_) λ_ _ y=>y);obtain⟨vs,H',I',r,hl,hw⟩:=h2;exact⟨rfl,by rw[<-r.length];exact hl,I'.bk _ _ hC,hN.keeps I'.bk,T.keeps I'.bk,λh' a hm=>hw U Y H' s2 (.ref a) _ I' (I'.madeX hm)⟩
end
inductive RO where
 |ok (d:D) (O:Mem)
 |exc (c:yg) (fs:List (yg×D)) (O:Mem)
abbrev FX:=List D->Mem->Option RO
def ROk(K:yr)(Z:List yc)(H:Hp)(Q:VK)(E:XK):RO->Prop
 |.ok d O'=>∀Z' H' v,Ext Z H Z' H'->tG K Z' H' O'->tu K Z' H' d v->Q v H'
 |.exc c fs O'=>∀Z' H' C dx,yK K ye c=some (some (.ref C))->Ext Z H Z' H'->tG K Z' H' O'->sj K Z' H' fs dx->E (.ref C) dx H'
def ROk.ext{K:yr}{Z Z1:List yc}{H H1:Hp}{Q:VK}{E:XK}{r:RO}(h:ROk K Z H Q E r)(x:Ext Z H Z1 H1):ROk K Z1 H1 Q E r:=by
 cases r with
 |ok d O=>exact λZ' H' v x' R r=>h Z' H' v (x.trans x') R r
 |exc c fs O=>exact λZ' H' C dx hc x' R r=>h Z' H' C dx hc (x.trans x') R r
def spX(K:yr)(n:Nat)(F:FX):Sp:=λvs H Q E=>vs.length=n/\∃Z ds O r,tf K Z H ds vs/\tG K Z H O/\F ds O=some r/\ROk K Z H Q E r
@[simp] def zVp:Option Out->Option RO
 |some (.ret d O)=>some (.ok d O)
 |some (.next _ O)=>some (.ok .non O)
 |some (.exc c fs O)=>some (.exc c fs O)
 |_=>none
def fnX{P:yu}{w:yI}{K:yr}{mg:yg->Option ya}{base:yS}{x qual:yg}{st:yQ}{f:yc}{fd:yf}{N ps:List yg}{k n:Nat}{F:FX}(φ:Fun K x qual st f fd)(S:tz N ps (zp st))(hn:ps.length=n)
 (hbody:∀(cdv:ya)(A:yF)(outer:List Env)(s:yb)(H:Hp)(E:XK),tW k (A.deeper (envOfC qual (zp st) s.heap.objs.size f cdv)) ->
  ∃p,MSs (zLn (CXq P w) P w K mg base N qual (zp st) f cdv A outer s H E) (zoc st) p/\∀ds O r,ds.length=n->F ds O=some r->zVp (p (zM N ds) O)=some r) :
 tw P w K mg base (CXq P w) (k+1) f fd ps (spX K n F):=by
 obtain⟨oc,od,kV,doc,pm,an,cdv,ct,osl,rfl,lk,hcd⟩:=φ.ex;refine zxs lk hcd S (λvs H Q E h=>by rw[hn];exact h.1) λA outer s H vs Q E hr h=>?_;obtain⟨p,hp,hF⟩:=hbody cdv A outer s H E hr;refine⟨_,hp,?_⟩;obtain⟨hl,Z,ds,O,r,rv,R,e,hk⟩:=h;have e':=hF ds O r (by rw[rv.length];exact hl) e
 cases eo:p (zM N ds) O with
 |none=>rw[eo]at e';cases e'
 |some o=>
  rw[eo]at e';refine⟨Z,zM N ds,O,o,zCm rv R,eo,?_⟩
  cases o with
  |ret d2 O2=>cases e';exact λZ' v H' x' R' r'=>hk Z' H' v x' R' r'
  |next J2 O2=>cases e';exact λZ' Y' H' x' A'=>hk Z' H' .non x' A'.hp .non
  |exc c fs O2=>cases e';exact λZ' H' C dx hc x' R' r'=>zcn (hk Z' H' C dx hc x' R' r')
  |brk _ _=>cases e'
  |cont _ _=>cases e'
section
variable {X:Cx}{e:yt}{es:List yt}{pos p spos:YD}{x:yg}{k j n:Nat}{st:yQ}{f:yc}{fd:yf}{ps:List yg}{F:FX}{G:FA}
def passF{P:yu}{w:yI}:zal (CXq P w) X E0:=λ_ _ _ _ _ _ _ ⟨_,_,_,_,q⟩=>q.elim
@[simp] def zMu:Option RO->Option (D×Mem)
 |some (.ok d O)=>some (d,O)
 |_=>none
def z7o{r:Option RO}{d:D}{O:Mem}(h:zMu r=some (d,O)):r=some (.ok d O):=by
 cases r with
 |none=>cases h
 |some r=>cases r<;>cases h;rfl
@[simp] def zvm(F:FX)(G:FA):FE:=λJ O=>(G J O).bind λp=>zMu (F p.1 p.2)
def Sc(B:FnAt X.K X.mg x st ps f fd)(φ:tw X.prog X.w X.K X.mg X.base (CXq X.prog X.w) j f fd ps (spX X.K n F))(hr:tW k X.A)
 (ha:MAn X (e::es) G) (hj:j<=k:=by decide) (hn:(e::es).length=n:=by rfl) (hg:Gl X x:=by rfl) (hdb:(x==("__debug__":yg))=false:=by decide) (he:yj (e::es) X.env=(false,Yi e X.env)::yj es X.env:=by exact zwd rfl) (hpl:(Ye pos (yj es X.env)).any (·.1)=false:=by rfl) :
 ME X (.Call (.Name x p) (e::es) [] pos) (zvm F G) :=
 zIe (zZl φ (hr.mono hj) hg B.at_ B.fn.kp B.bd .nil passF ha.ma hdb he hpl) λZ J O Y H d O' Q A eo kk=>by
  obtain⟨⟨ds,O1⟩,e1,eo⟩:=ze eo;refine⟨Z,J,O,ds,O1,A,e1,λZ1 H1 vs x1 R1 r1=>?_⟩;show spX X.K n F (vs++[]) H1 Q E0;rw[append_nil];exact⟨by rw[<-r1.length,ha.len _ _ _ _ e1];exact hn,Z1,ds,O1,.ok d O',r1,R1,z7o eo,λZ2 H2 v x2 R2 r2=>kk Z2 H2 v (x1.trans x2) R2 r2⟩
def tCX(K:xu)(W:XK)(n:Nat)(F:FX)(G:FA):TE:=zws (spX K n F) [] W (tMA K G)
def zvo{K:xu}{W:XK}{Z:List yc}{J:Loc}{O:Mem}{Y:L2.St}{H:Hp}{Q:VK}{ds:List D}{O1:Mem}{r:RO}(A:At K Z H Y J O)(e1:G J O=some (ds,O1))(hl:ds.length=n)(e2:F ds O1=some r)(h:ROk K Z H Q W r):tCX K W n F G Y H Q :=
 ⟨Z,J,O,ds,O1,A,e1,λZ1 H1 vs x1 R1 r1=>by
  show spX K n F (vs++[]) H1 Q W;rw[append_nil];exact⟨by rw[<-r1.length];exact hl,Z1,ds,O1,r,r1,R1,e2,h.ext x1⟩⟩
def z2r(B:FnAt X.K X.mg x st ps f fd)(φ:tw X.prog X.w X.K X.mg X.base (CXq X.prog X.w) j f fd ps (spX X.K n F))(hr:tW k X.A)
 (ha:MAn X (e::es) G) (hj:j<=k:=by decide) (hg:Gl X x:=by rfl) (hdb:(x==("__debug__":yg))=false:=by decide) (he:yj (e::es) X.env=(false,Yi e X.env)::yj es X.env:=by exact zwd rfl) (hpl:(Ye pos (yj es X.env)).any (·.1)=false:=by rfl) :
 PE X (.Call (.Name x p) (e::es) [] pos) (tCX X.K (zXc X) n F G):=zZl φ (hr.mono hj) hg B.at_ B.fn.kp B.bd .nil passX ha.ma hdb he hpl
@[simp] def zst(F:FX)(G:FA)(g:D->Loc->Mem->Out):FS:=λJ O=>(G J O).bind λp=>match F p.1 p.2 with
 |some (.ok d O')=>some (g d J O')
 |some (.exc c fs O')=>some (.exc c fs O')
 |none=>none
def zkm{g:D->Loc->Mem->Out}{J:Loc}{O:Mem}{o:Out}(h:zst F G g J O=some o):∃ds O1 r,G J O=some (ds,O1)/\F ds O1=some r/\o=match r with
 |.ok d O'=>g d J O'
 |.exc c fs O' =>.exc c fs O':=by
 obtain⟨⟨ds,O1⟩,e1,h⟩:=ze h;refine⟨ds,O1,?_⟩
 cases e2:F ds O1 with
 |none=>rw[e2]at h;cases h
 |some r=>
  rw[e2]at h
  cases r with
  |ok d O'=>cases h;exact⟨_,e1,rfl,rfl⟩
  |exc c fs O'=>cases h;exact⟨_,e1,rfl,rfl⟩
@[simp] def z6l(F:FX)(G:FA):FS:=zst F G λ_ J O =>.next J O
def zum(B:FnAt X.K X.mg x st ps f fd)(φ:tw X.prog X.w X.K X.mg X.base (CXq X.prog X.w) j f fd ps (spX X.K n F))(hr:tW k X.A)
 (ha:MAn X (e::es) G) (hj:j<=k:=by decide) (hn:(e::es).length=n:=by rfl) (hg:Gl X x:=by rfl) (hdb:(x==("__debug__":yg))=false:=by decide) (he:yj (e::es) X.env=(false,Yi e X.env)::yj es X.env:=by exact zwd rfl) (hpl:(Ye pos (yj es X.env)).any (·.1)=false:=by rfl)
 (hs:swapsWith (.Call (.Name x p) (e::es) [] pos) none spos.line X.env=pure false:=by rfl):MS X (.Expr (.Call (.Name x p) (e::es) [] pos) spos) (z6l F G) :=
 zXj (zRn (z2r B φ hr ha hj hg hdb he hpl) hs) λZ J O Y H o E A eo kk=>by
  obtain⟨ds,O1,r,e1,e2,rfl⟩:=zkm eo;refine zvo A e1 ((ha.len _ _ _ _ e1).trans hn) e2 ?_
  cases r with
  |ok d O'=>exact λZ' H' v x' R r=>kk Z' Y H' x' (A.ext x' R)
  |exc c fs O'=>exact kk
end
end M
namespace L2
open PySem PySem.Spec PyProof.Rows
section
variable {X:Cx}{U:List (yc×Yw)}{Y:St}{H:Hp}{s:yb}
def z0j{M:Model}{A:yF}{E:ya->yb->Prop}{i:Nat}{x:yg}{pos:YD}{Q:Unit->yb->Prop}(I:Inv X U Y H s)(hN:X.N.Nodup)(hi:X.N[i]?=some x)(hk:X.env.scope.names.lookup x=some .local)
 (h:∀s',Inv X U (Y.set i none) H s'->Q () s'):yw M A (do bindName X.env x .none;unbindBehindTheSuite X.env x pos) Q E s:=by
 obtain⟨m,hn,hl⟩:=id I.loc;have hcls:(X.env.scope.kind == .class||(X.env.scope.kind == .module&&X.env.locals != X.env.globals))=false:=by rw[I.ok.kind];rfl
 have hiσ:i<Y.length:=by rw[I.len];exact(List.getElem?_eq_some_iff.mp hi).1
 refine wpAny_nameGoes_keeps hk hn hcls λh' v hn' hs=>?_;have old:∀b o,X.s₀.heap.get? b=some o->b≠X.env.locals:=λb o e=>yJ (yp (ym e) I.ok.above)
 have hok:HOk X.prog X.w H h':=λb ob e=>by
  refine(I.hok b ob e).stay (λc w' hc q=>(hs.2 c ?_).trans q) (λ_ q=>q) λ_ _ q=>q;rintro rfl;rcases hc with rfl|hc
  ·rw[I.free]at e;cases e
  ·rw[I.free]at hc;cases hc
 refine h _ ⟨I.ok,I.os,I.bare,⟨λb o e n hb hx=>(hs.2 b (old b o e)).trans (I.base.keep b o e n hb hx),λb o e n hb hx=>?_,I.base.free,λb o e hx=>?_,I.base.tups,I.base.Tp,I.base.Tq⟩,⟨_,hn',λj y v' e1 e2 e3=>?_⟩,λy c e=>?_,I.free,I.freeC,λp hp=>?_,hok,by simpa using I.len⟩
 ·obtain⟨sl,e1⟩:=I.base.slot b o e n hb hx;exact⟨sl,(hs.2 b (old b o e)).trans e1⟩
 ·obtain⟨o',e1⟩:=I.base.there b o e hx;exact⟨o',(hs.2 b (old b o e)).trans e1⟩
 ·by_cases hj:j=i
  ·subst hj;rw[Yb hiσ]at e2;cases e2
  ·rw[yT (Yg hj)]at e2;obtain⟨u',r',q⟩:=hl j y v' e1 e2 e3;refine⟨u',r',?_⟩;rcases q with ⟨k,e⟩|⟨k,c,e,z⟩
   ·refine .inl ⟨k,?_⟩;have:y≠x:=λe=>hj (zOj hN e1 (e▸hi));simp[this,e]
   ·exact .inr ⟨k,c,e,z.sameBut hs (I.cne y c e)⟩
 ·obtain⟨w',z⟩:=I.cell y c e;exact⟨w',z.sameBut hs (I.cne y c e)⟩
 ·obtain⟨p1,p2,p3,p4,p5⟩:=I.pin p hp;exact⟨(hs.2 p.1 p3).trans p1,p2,p3,p4,p5⟩
abbrev Cx.suite(X:Cx)(v:ya):Cx:={X with A:=X.A.mark (some v),calm:=false,xe:=λ_ _=>False }
def Inv.suite(I:Inv X U Y H s)(v:ya):Inv (X.suite v) U Y H s :=
 ⟨⟨I.ok.mod,I.ok.kind,I.ok.glob,I.ok.blt,I.ok.above,I.ok.inj,I.ok.has,I.ok.cab,λz=>absurd z (by simp),I.ok.frames,I.ok.stk,I.ok.exf,I.ok.bs,I.ok.bsz,I.ok.sC,I.ok.sL,I.ok.Tx,I.ok.frf⟩,
  I.os,I.bare,I.base,I.loc,I.cell,I.free,I.freeC,I.pin,I.hok,I.len⟩
def Inv.TM{v:ya}(ok:X.Ok)(I:Inv (X.suite v) U Y H s):Inv X U Y H s :=
 ⟨ok,I.os,I.bare,I.base,I.loc,I.cell,I.free,I.freeC,I.pin,I.hok,I.len⟩
def HOk.sI{P:yu}{w:yI}{h:yS}{a:yc}{o:HO}(x:HOk P w H h)(hn:H a=none)(new:tR P w (upd H a o) h a o):HOk P w (upd H a o) h:=λb u e=>by
 by_cases hb:b=a
 ·subst hb;rw[zW]at e;cases e;exact new
 ·rw[zO hb]at e;exact(x b u e).stay (λc v _ q=>q) (λc q=>by rw[zO (zy q hn)];exact q) λc xs q=>by rw[zO (zy q hn)];exact q
variable {M:Model}{A:yF}{E:ya->yb->Prop}{h:yS}{g:Array GenState}{d:Drawn}{t:Nat}{os:OsState}
def z1i{nm q:yg}{C N:yc}{bs bm:List ya}{hdct:Bool}{sn:List yg}{sub:List ya}{ab:Bool}{col:Option Bool}{dd:Option yc}{k0 k1 k2 k3 k5:Option ya}{newId:String}
 {nm' q':yg} {C' N':yc} {bs' bm':List ya} {hdct':Bool} {sn':List yg} {sub':List ya} {ab':Bool} {col':Option Bool} {dd':Option yc} {k0' k1' k2' k3' k5':Option ya} {newId':String} {e:yc} {oe:Yw} {b:Bool} {Q:Bool->yb->Prop}
 (hC:h.get? C=some (excClassObj nm q C N bs bm hdct sn sub ab col dd k0 k1 k2 k3 k5 newId)) (hC':h.get? C'=some (excClassObj nm' q' C' N' bs' bm' hdct' sn' sub' ab' col' dd' k0' k1' k2' k3' k5' newId'))
 (he:h.get? e=some oe) (hcls:oe.cls=.ref C) (hbase:bm'.contains (.type "BaseException")=true) (hb:(yZ C::bm).contains (.ref C')=b) (hq:Q b ⟨h,g,d,t,os⟩):yw M A (excMatches (.ref e) (.ref C')) Q E ⟨h,g,d,t,os⟩:=by
 have hcB:(yZ C'::bm').contains (.type "BaseException")=true:=by rw[List.contains_cons,hbase,Bool.or_true]
 have f:=tc_notTuple;unfold excMatches
 cases b with
 |true=>
  repeat (first|(with_reducible refine wpAny_loadPart_at he ?_;rw[hcls])|with_reducible refine wpAny_loadPart_at hC' ?_|(with_reducible refine wpAny_isSubtype_exc hC' ?_;rw[hcB])|(with_reducible refine wpAny_isSubtype_exc hC ?_;rw[hb])|wp_step)
  exact hq
 |false=>
  repeat (first|(with_reducible refine wpAny_loadPart_at he ?_;rw[hcls])|with_reducible refine wpAny_loadPart_at hC' ?_|(with_reducible refine wpAny_isSubtype_exc hC' ?_;rw[hcB])|(with_reducible refine wpAny_isSubtype_exc hC ?_;rw[hb])|wp_step)
  exact hq
end
def zLq{K:yr}{h:yS}{C:yc}{v:ya}{b:Bool}{nm q:yg}{N:yc}{bs bm:List ya}{hdct:Bool}{sn:List yg}{sub:List ya}{ab:Bool}{col:Option Bool}{dd:Option yc}{k0 k1 k2 k3 k5:Option ya}{newId:String}(X:K.In h)(e:W.mroIn K C v=some b)
 (hC:h.get? C=some (excClassObj nm q C N bs bm hdct sn sub ab col dd k0 k1 k2 k3 k5 newId)):(yZ C::bm).contains v=b:=by
 obtain⟨cd,a,z⟩:=Option.bind_eq_some_iff.mp e;unfold W.clsIn at a
 split at a
 ·rename_i ho
  cases a;have:=X _ _ ho;rw[hC]at this;cases this
  split at z
  ·cases z
  ·cases z;rfl
 ·cases a
end L2
namespace M
open PySem PySem.Spec PyProof.Rows L2
def XP(X:Cx)(U:List (yc×Yw))(Y:L2.St)(W:XK)(e:ya)(s':yb):Prop:=∃H1 s1 C dx H',Inv X U Y H1 s1/\si X.prog X.w X.stack H1 s1 C dx H' e s'/\W C dx H'
def PX1(X:Cx)(st:yQ)(ψ:FS):Prop:=∀(U:List (yc×Yw)) (s:yb) (Y:L2.St) (H:Hp) (D:Ends) (W:XK),Inv X U Y H s->tMS X.K W ψ D Y H->yw (yz X.prog X.w) X.A (exec st X.env) (SP X U D) (XP X U Y W) s
def PX(X:Cx)(sts:List yQ)(ψ:FS):Prop:=∀(U:List (yc×Yw)) (s:yb) (Y:L2.St) (H:Hp) (D:Ends) (W:XK),Inv X U Y H s->tMS X.K W ψ D Y H->yw (yz X.prog X.w) X.A (execs sts X.env) (SP X U D) (XP X U Y W) s
section
variable {X:Cx}{c e:yt}{es:List yt}{pos p spos:YD}{x:yg}{k j n:Nat}{st:yQ}{f:yc}{fd:yf}{ps:List yg}{F:FX}{G:FA}
def zJs{ψ:FS}(h:PX1 X st ψ):PX X [st] ψ:=by
 intro U s Y H D W I q;refine xb (thn (h U s Y H D W I q) λf s1 q=>?_)
 cases f with
 |next=>exact wpAny_execs_nil q
 |ret v=>exact q
 |brk=>exact q
 |cont=>exact q
end
abbrev FH:=yg->List (yg×D)->FS
def Cau(X:Cx)(U:List (yc×Yw))(Y:L2.St)(C:ya)(dx:Option yc)(H':Hp)(a:yc)(s':yb):Prop:=∃H1 s1,Inv X U Y H1 s1/\si X.prog X.w X.stack H1 s1 C dx H' (.ref a) s'
def z3n{P:yu}{w:yI}{outer:List Env}{H H':Hp}{s s':yb}{C:ya}{dx:Option yc}{a:yc}{B base h2:yS}(F:si P w outer H s C dx H' (.ref a) s')(c:Cov outer H' s.heap B)(st:B.StaysIn s'.heap)(fl:Fly B outer a C dx h2)(sm:s'.heap.UpToSlots h2)
 (ff:s.heap.FunFrames base outer) (frf:∀b∈frs outer,H b=none):si P w outer H s C dx H' (.ref a) {s' with heap:=h2 } :=
 ⟨F.os,F.bare,zLi F.un c st fl.st sm ff frf,zSh F.hok c st fl.st,a,B,rfl,fl,c⟩
def MH(X:Cx)(hs:List ExceptHandler)(η:FH):Prop :=
 ∀U Y C c fs dx H' a s' Z J O o D,Cau X U Y (.ref C) dx H' a s'->yK X.K ye c=some (some (.ref C))->sj X.K Z H' fs dx->At X.K Z H' Y J O->η c fs J O=some o->TD X.K (zXc X) Z H' D o ->
  yw (yz X.prog X.w) X.A (handleBy (.ref a) X.env hs) (SP X U D) X.xe s'
@[simp] def zzt:FH:=λ_ _ _ _=>none
def zTq{X:Cx}{hs:List ExceptHandler}:MH X hs zzt:=λ_ _ _ _ _ _ _ _ _ _ _ _ _ _ _ _ _ _ e _=>by cases e
@[simp] def z4o(p:FS)(η:FH):FS:=λJ O=>match p J O with
 |some (.exc c fs O')=>η c fs J O'
 |o=>o
def zSs{X:Cx}{body:List yQ}{h0:ExceptHandler}{hs:List ExceptHandler}{pos:YD}{p:FS}{η:FH}(hb:PX X body p)(hh:MH X (h0::hs) η)(hst:X.stack=X.env::X.outer:=by rfl)(hfm:X.env.frame=some X.env.locals:=by rfl):MS X (.Try body (h0::hs) [] [] pos) (z4o p η):=by
 intro U s Y H D I ⟨Z,J,O,o,A,eo,kk⟩
 have calm:∀o',p J O=some o'->(∀c fs O',o'≠.exc c fs O')->yw (yz X.prog X.w) X.A (exec (.Try body (h0::hs) [] [] pos) X.env) (SP X U D) X.xe s:=λo' ep hne=>by
  have eo':o'=o:=by
   unfold z4o at eo;rw[ep]at eo
   cases o' with
   |exc c fs O'=>exact absurd rfl (hne c fs O')
   |next _ _=>cases eo;rfl
   |ret _ _=>cases eo;rfl
   |brk _ _=>cases eo;rfl
   |cont _ _=>cases eo;rfl
  subst eo';refine wpAny_Try_except (yX (hb U s Y H D E0 I ⟨Z,J,O,o',A,ep,?_⟩) (λfl s1 q=>?_) λe s1 ⟨_,_,_,_,_,_,_,z⟩=>z.elim)
  ·cases o' with
   |exc c fs O'=>exact absurd rfl (hne c fs O')
   |next _ _=>exact kk
   |ret _ _=>exact kk
   |brk _ _=>exact kk
   |cont _ _=>exact kk
  ·cases fl with
   |next=>exact wpAny_execs_nil q
   |ret v=>exact q
   |brk=>exact q
   |cont=>exact q
 cases ep:p J O with
 |none=>unfold z4o at eo;rw[ep]at eo;cases eo
 |some o'=>
  cases o' with
  |next _ _=>exact calm _ ep (by intros;simp)
  |ret _ _=>exact calm _ ep (by intros;simp)
  |brk _ _=>exact calm _ ep (by intros;simp)
  |cont _ _=>exact calm _ ep (by intros;simp)
  |exc c fs O'=>
   have eo:η c fs J O'=some o:=by unfold z4o at eo;rw[ep]at eo;exact eo
   refine wpAny_Try_except (yX (hb U s Y H {nx:=λ_ _=>False,rt:=λ_ _=>False } (λCv dx H'=>∃C Z',Cv=.ref C/\yK X.K ye c=some (some (.ref C))/\Ext Z H Z' H'/\tG X.K Z' H' O'/\sj X.K Z' H' fs dx) I
    ⟨Z,J,O,_,A,ep,λZ' H' C dx hc x' R r=>⟨C,Z',rfl,hc,x',R,r⟩⟩) (λfl s1 q=>?_) λe s1 q=>?_)
   ·cases fl with
    |next=>obtain⟨_,_,_,z⟩:=q;exact z.elim
    |ret v=>obtain⟨_,_,_,_,_,z⟩:=q;exact z.elim
    |brk=>obtain⟨_,_,_,z⟩:=q;exact z.elim
    |cont=>obtain⟨_,_,_,z⟩:=q;exact z.elim
   ·obtain⟨H1,s2,Cv,dx,H',I1,F,C,Z',rfl,hc,x',R,rX⟩:=q;obtain⟨a,B,rfl,fl,cov⟩:=F.fly;have fl':Fly B (X.env::X.outer) a (.ref C) dx s1.heap:=by rw[<-hst];exact fl
    have hfr:X.A.frames=some (X.env::X.outer):=by rw[<-hst];exact I.ok.frames
    refine zGi hfr hfm fl' λh2 fl2 sm2=>zBg (s:={s1 with heap:=h2 }) fl2 λh3 fl3 sm3=>?_;rw[<-hst]at fl3;exact hh U Y C c fs dx H' a {s1 with heap:=h3 } Z' J O' o D ⟨H1,s2,I1,z3n (h2:=h3) F cov fl.st fl3 (sm2.trans sm3) I1.stack I1.Te⟩ hc rX (A.ext x' R) eo (kk.ext x')
@[simp] def zyo(i:Nat):Option Out->Option Out
 |some (.next J O)=>some (.next (J.set i none) O)
 |some (.ret d O)=>some (.ret d O)
 |some (.brk J O)=>some (.brk (J.set i none) O)
 |some (.cont J O)=>some (.cont (J.set i none) O)
 |_=>none
@[simp] def hAs(i:Nat)(tb:List (yg×Bool))(q:FS)(η:FH):FH:=λc fs J O=>match tb.lookup c with
 |some true=>zyo i (q (J.set i (some (.loc O.length))) (O++[.exc c fs]))
 |some false=>η c fs J O
 |none=>none
def TY(K:yr)(D0:yc)(tb:List (yg×Bool)):Prop:=∀c b,tb.lookup c=some b->∀C,yK K ye c=some (some (.ref C))->Yy K C "BaseException"=true/\W.mroIn K C (.ref D0)=some b
def At.unset{K:yr}{Z:List yc}{H:Hp}{Y:L2.St}{J:Loc}{O:Mem}(A:At K Z H Y J O)(i:Nat):At K Z H (Y.set i none) (J.set i none) O:=by
 refine⟨λj d' e=>?_,A.hp,by simp[A.len]⟩
 by_cases hj:j=i
 ·subst hj
  have hl:j<J.length:=by
   have:=(List.getElem?_eq_some_iff.mp e).1;simpa using this
  rw[Yb hl]at e;cases e
 ·rw[yT (Yg hj)]at e;obtain⟨u,e1,q⟩:=A.st j d' e;exact⟨u,by rw[yT (Yg hj)];exact e1,q⟩
def zBu{X:Cx}{d n:yg}{D0:yc}{b0:yQ}{suite:List yQ}{pos np:YD}{zpe:List ExceptHandler}{q:FS}{η:FH}(i:Nat)(tb:List (yg×Bool))(hd:yK X.K ye d=some (some (.ref D0)))(hk:Yy X.K D0 "BaseException"=true)(ht:TY X.K D0 tb)
 (hq:∀v,MSs (X.suite v) (b0::suite) q) (hr:MH X zpe η) (hg:Gl X d:=by rfl) (hN:X.N.Nodup:=by first|assumption|decide) (hi:X.N[i]?=some n:=by rfl) (hl:X.env.scope.names.lookup n=some .local:=by rfl) (hdb:(d==("__debug__":yg))=false:=by decide) :
 MH X (.ExceptHandler (some (.Name d np)) (some n) (b0::suite) pos::zpe) (hAs i tb q η):=by
 intro U Y C c fs dx H' a s' Z J O o D hcau hc hX A eo kk;obtain⟨H1,s1,I1,F⟩:=hcau;obtain⟨a',B,ea,fl,cov⟩:=F.fly;cases ea;have δ:Inv X U Y H' s':=I1.fly F cov fl.st fl.st (.refl _);obtain⟨oe,vs,y,he,hcl,hdx,hfd,h1,tr⟩:=fl.ob
 cases hb:tb.lookup c with
 |none=>unfold hAs at eo;rw[hb]at eo;cases eo
 |some b=>
  obtain⟨kC,mC⟩:=ht c b hb C hc;obtain⟨nm,qn,N,bs,bm,hdct,sn,sub,ab,col,dd,k0,k1,k2,k3,k5,newId,hC,_,_⟩:=W.kts_cls δ.kIn kC;obtain⟨nm',qn',N',bs',bm',hdct',sn',sub',ab',col',dd',k0',k1',k2',k3',k5',newId',hC',hbase',_⟩:=W.kts_cls δ.kIn hk;refine wpAny_handleBy_cons (codeAny_handlers_test (zqk (X:=X.suite (.ref a)) (δ.suite (.ref a)) hg (Yt δ.mod.kin δ.mod.glob hd) ?_ hdb)) (by intro z;cases z);obtain⟨hh,g,dr,tk,os⟩:=s';refine z1i hC hC' he hcl hbase' (zLq δ.kIn mC hC) ?_
  cases b with
  |false=>
   unfold hAs at eo;rw[hb]at eo;exact hr U Y C c fs dx H' a _ Z J O o D ⟨H1,s1,I1,F⟩ hc hX A eo kk
  |true=>
   unfold hAs at eo;rw[hb]at eo;refine codeAny_handlers_suite_as (zBg (s:=⟨hh,g,dr,tk,os⟩) fl λh2 fl2 sm2=>?_)
   have hna:H' a=none:=by
    cases z:H' a with
    |none=>rfl
    |some u=>obtain⟨w,hw⟩:=cov.tr a u z;rw[fl.new]at hw;cases hw
   have hold:∀b o,s1.heap.get? b=some o->b≠a:=λb o ho z=>by
    subst z
    by_cases hm:b∈frs X.stack
    ·obtain⟨_,o',ho',hnf⟩:=fl.ff.mem hm;rw[he]at ho';cases ho';exact hnf _ hfd
    ·obtain⟨w,hw⟩:=cov.old b o ho hm;rw[fl.new]at hw;cases hw
   have u2:=zLi F.un cov fl.st fl2.st sm2 I1.stack I1.Te;have ok2:=zSh F.hok cov fl.st fl2.st;obtain⟨oe2,vs2,y2,he2,hcl2,hdx2,hfd2,_,_⟩:=fl2.ob
   have δ3:Inv X U Y (upd H' a (.ext (zXm a C dx))) ⟨h2,g,dr,tk,os⟩:=by
    refine I1.sW (s':=⟨h2,g,dr,tk,os⟩) (ch:=[]) F.os ⟨u2.keep,u2.slot,λb o e1 e2 e3=>?_,u2.there,λb xs z=>?_,λb ob u z=>?_,λb ps z=>?_⟩ (ok2.sI hna ⟨⟨oe2,vs2,he2,hcl2,hdx2,hfd2⟩,⟨_,he2⟩,λx1 x2 z1 z2=>?_⟩) F.bare λb z=>absurd z (by simp)
    ·rw[zO (hold b o e1)];exact u2.free b o e1 e2 e3
    ·have:=u2.tups b xs z;rw[zO (zy this hna)];exact this
    ·have:=u2.Tp b ob u z;rw[zO (zy this hna)];exact this
    ·obtain⟨m,this⟩:=u2.Tq b ps z;exact⟨m,by rw[zO (zy this hna)];exact this⟩
    ·obtain⟨o1,v1,w1,w2⟩:=z1;exact⟨o1,v1,z2 _ w1,w2⟩
   refine zPg (X:=X.suite (.ref a)) (v:=.ref a) (u:=.ref a) (δ3.suite (.ref a)) hN hi (.inl hl) rfl (λs3 I3=>?_) (.inr hl)
   have A3:At X.K (Z++[a]) (upd H' a (.ext (zXm a C dx))) (Y.set i (some (.ref a))) (J.set i (some (.loc O.length))) (O++[.exc c fs]) :=
    (A.ext (Ext.push hna) (A.hp.push (o:=.ext (zXm a C dx)) (lo:=.exc c fs) hna ⟨C,dx,hc,zW,hX.ext (Ext.push hna)⟩)).set (.loc (z8c A.hp)) i
   cases eq:q (J.set i (some (.loc O.length))) (O++[.exc c fs]) with
   |none=>rw[eq]at eo;cases eo
   |some o'=>
    rw[eq]at eo;have kk':=kk.ext (Ext.push (o:=.ext (zXm a C dx)) hna);refine yX (hq (.ref a) U s3 _ _ {nx:=λY' H2=>D.nx (Y'.set i none) H2,rt:=D.rt,bk:=λY' H2=>D.bk (Y'.set i none) H2,ct:=λY' H2=>D.ct (Y'.set i none) H2 } I3 ⟨_,_,_,o',A3,eq,?_⟩) (λf4 s4 hs4=>?_) λ_ _ z=>z.elim
    ·cases o' with
     |next J' O'=>cases eo;exact λZ' Y' H2 x2 A2=>kk' Z' _ H2 x2 (A2.unset i)
     |brk J' O'=>cases eo;exact λZ' Y' H2 x2 A2=>kk' Z' _ H2 x2 (A2.unset i)
     |cont J' O'=>cases eo;exact λZ' Y' H2 x2 A2=>kk' Z' _ H2 x2 (A2.unset i)
     |ret d' O'=>cases eo;exact kk'
     |exc _ _ _=>cases eo
    ·cases f4 with
     |next=>obtain⟨Y4,H4,I4,z⟩:=hs4;exact z0j (I4.TM δ.ok) hN hi hl λs5 I5=>⟨_,H4,I5,z⟩
     |brk=>obtain⟨Y4,H4,I4,z⟩:=hs4;exact z0j (I4.TM δ.ok) hN hi hl λs5 I5=>⟨_,H4,I5,z⟩
     |cont=>obtain⟨Y4,H4,I4,z⟩:=hs4;exact z0j (I4.TM δ.ok) hN hi hl λs5 I5=>⟨_,H4,I5,z⟩
     |ret u=>obtain⟨v4,Y4,H4,I4,r4,z⟩:=hs4;exact z0j (I4.TM δ.ok) hN hi hl λs5 I5=>⟨v4,_,H4,I5,r4,z⟩
end M
namespace PySem.W
open PySem PySem.Spec PySem.Calls PyProof.Rows
structure so(K:Frag)(C:yc):Prop where
 cl:(clsIn K C).isSome=true
 ga:findIn K (.ref C) "__getattribute__"=some (some (.builtin "BaseException.__getattribute__"))
 gk:findIn K (.ref C) "__getattr__"=some none
 be:mroIn K C (.type "BaseException")=some true
 ha:findIn K (.ref C) "__class__"=some (some (.builtin "object.__class__"))
 hn:specialIn K (.builtin "object.__class__") "__get__"=some (some (.builtin "getset_descriptor.__get__"))
 tk:takesIn K (.builtin "object.__class__")=some true
 hm:mroIn K C (.type "object")=some true
def zPl{K:Frag}{C:yc}{odo:Option Yw}{name:yg}{a g:ya}(hc:(clsIn K C).isSome=true)(ha:findIn K (.ref C) name=some (some a))(hg:specialIn K a "__get__"=some (some g))(ht:takesIn K a=some true):findObj K C odo name=some (.bind g a):=by
 obtain⟨cd,hc⟩:=Option.isSome_iff_exists.mp hc;unfold findObj;rw[hc,yi,ha,yi];simp[hg,ht]
section
variable {prog:yu}{w:yI}{A:yF}{E:ya->yb->Prop}{s:yb}{K:Frag}{x D:yc}{ox:Yw}{odo:Option Yw}
def z1o{M:Model}{nameV:ya}{Q:Unit->yb->Prop}(X:K.In s.heap)(I:InstAt s.heap x ox D odo)(c:so K D)(hq:Q () s):yw M A (checkBuiltinCall "BaseException.__getattribute__" ⟨[.ref x,nameV],[]⟩) Q E s:=by
 have hk:builtinKind "BaseException.__getattribute__"=some .slot:=by decide +kernel
 have hsplit:splitId "BaseException.__getattribute__"=some ("BaseException","__getattribute__"):=by decide +kernel
 have ha:=F.args_bexc_ga (.ref x) nameV;have L0:=I.type (M:=M);have L1:=looks_mroIn (M:=M) X c.be;obtain⟨hh,g,d,t,os⟩:=s;simp only[checkBuiltinCall,hk,hsplit];refine yh ?_
 ·unfold isInstance
  repeat (first|with_reducible refine L0.at ?_|with_reducible refine L1.at ?_|wp_step)
  exact hq
def zlo{tk:Tok}{Q:Fin->yb->Prop}(X:K.In s.heap)(I:InstAt s.heap x ox D odo)(c:so K D)(hq:Q (.done (.ret (.ref D))) s):yw (yz prog w) A (Builtin.«object.__getattribute__» ⟨[.ref x,.str "__class__" tk],[]⟩) Q E s:=by
 have L0:=I.type (M:=yz prog w);have L1:=looks_find (M:=yz prog w) X I (zPl c.cl c.ha c.hn c.tk);obtain⟨hh,g,d,t,os⟩:=s
 repeat (any_goals (first|assumption|with_reducible refine L0.at ?_|with_reducible refine L1.at ?_|wp_step))
 refine class_get (s:=⟨hh,g,d,t,os⟩) (ox:=ox) (od:=odo) X I c.hm ?_
 repeat (any_goals (first|assumption|wp_step))
def zRo{Q:Option ya->yb->Prop}(X:K.In s.heap)(I:InstAt s.heap x ox D odo)(c:so K D)(h:Q (some (.ref D)) {s with toks:=s.toks+1 }):yw (yz prog w) A (getAttr? (.ref x) "__class__") Q E s:=by
 have L0:=I.type (M:=yz prog w);have L1:=looks_findIn (M:=yz prog w) X c.ga;have L2:=looks_findIn (M:=yz prog w) X c.gk;have f3:=F.excAttr_ValueError.ga.bind (.ref x);have hx2:(Value.builtin "BaseException.__getattribute__" == Value.builtin "object.__getattribute__")=false:=by decide +kernel
 have hx1:(onTheHeap (yZ D)&&Value.builtin "BaseException.__getattribute__" == Value.builtin "object.__getattribute__")=false:=by rw[hx2];rfl
 obtain⟨hh,g,d,t,os⟩:=s;unfold getAttr? getAttrBy? getAttrBy
 repeat (any_goals (first|assumption|with_reducible refine L0.at ?_|with_reducible refine L1.at ?_|with_reducible refine L2.at ?_|wp_step))
 refine codeAny_call_builtin F.excAttr_ValueError.ga.plain F.entry_bexc_ga (z1o (s:=⟨hh,g,d,t+1,os⟩) X I c (zlo (s:=⟨hh,g,d,t+1,os⟩) X I c ?_))
 repeat (any_goals (first|assumption|wp_step))
end
def Sd{K:Frag}{x D:yc}(c:so K D):KitX K (.ref x) (.ref D) (λh=>∃ox odo,InstAt h x ox D odo) where
 ty:=λ_ _ _ ⟨_,_,I⟩=>I.type
 it:=λ_ _ X _=>by
  obtain⟨cdD,hcD⟩:=Option.isSome_iff_exists.mp c.cl;unfold clsIn at hcD
  split at hcD
  ·rename_i c' d' cd' sl' ho
   intro A' Q' E' s' k q;unfold isType loadHead;exact yh (wpAny_loadPart (k _ _ (X _ _ ho)) (yy q))
  ·cases hcD
 ne:=λh tp dd its n sl X htp=>by
  obtain⟨cdD,hcD⟩:=Option.isSome_iff_exists.mp c.cl;refine Bool.eq_false_iff.mpr λq=>?_;have e:D=tp:=Value.ref.inj (beq_iff_eq.mp q);subst e;unfold clsIn at hcD
  split at hcD
  ·rename_i c' d' cd' sl' ho
   have z:=(X _ _ ho).symm.trans htp;cases z
  ·cases hcD
 ca:=λ{prog w A E Q s} X ⟨ox,odo,I⟩ k=>zRo X I c k
end PySem.W
namespace M
open PySem PySem.Spec PyProof.Rows L2
section
variable {X:Cx}
def zAf{x:yg}{a:yc}{pos:YD}(hn:yK X.K ye x=some (some (.ref a)))(hm:X.mg x=some (.ref a))(hg:Gl X x:=by rfl)(hd:(x==("__debug__":yg))=false:=by decide):ME X (.Name x pos) (fC (.own x)) :=
 zwq (zNl (v:=V.ref a) hg hm rfl hd) λ_ _ =>.own hn
@[simp] def zsl(O:Mem):D->Option (Option yg)
 |.non=>some none
 |.loc n=>match O[n]? with
  |some (.exc c _)=>some (some c)
  |_=>none
 |_=>none
inductive CN where
 |own (c:yg)
 |ty (n:String)
 deriving DecidableEq
abbrev Kit:=List ((Option yg×CN)×Bool)
def zAp(K:yr):CN->ya->Prop
 |.own d,v=>∃a,yK K ye d=some (some (.ref a))/\v=.ref a
 |.ty n,v=>v=.type n
structure tK(K:yr)(tb:Kit):Prop where
 non:∀d b v,tb.lookup (none,d)=some b->zAp K d v->yD K (.type "NoneType") v=some b
 ask:∀c d b,tb.lookup (some c,d)=some b->∀C,yK K ye c=some (some (.ref C))->W.so K C
 exc:∀c d b v,tb.lookup (some c,d)=some b->zAp K d v->∀C,yK K ye c=some (some (.ref C))->yD K (.ref C) v=some b
@[simp] def zEt:D->Option (CN)
 |.own c=>some (.own c)
 |.ty n=>some (.ty n)
 |_=>none
@[simp] def zRr(tb:Kit)(k:Option yg)(c:D):Option Bool:=(zEt c).bind λd=>tb.lookup (k,d)
def zKi(tb:Kit)(k:Option yg):List D->Option Bool
 |[]=>some false
 |c::r=>match zRr tb k c with
  |some true=>some true
  |some false=>zKi tb k r
  |none=>none
@[simp] def zUn(tb:Kit):GL:=λds O=>match ds with
 |[x,.tup (c::cs)]=>(zsl O x).bind λk=>(zKi tb k (c::cs)).bind λb=>some (.bl b,O)
 |[x,c]=>(zsl O x).bind λk=>(zRr tb k c).bind λb=>some (.bl b,O)
 |_=>none
def zKn{K:yr}{Z:List yc}{H:Hp}{c:D}{v:V}{u:ya}{d:CN}(r:tu K Z H c v)(q:RelV v u)(e:zEt c=some d):zAp K d u:=by
 cases c with
 |own c=>cases e;obtain⟨a,rfl,h⟩:=r.sH;cases q;exact⟨a,h,rfl⟩
 |ty n=>cases e;rw[r.Sb]at q;cases q;rfl
 |_=>cases e
def zhm{U:List (yc×Yw)}{Y:L2.St}{H:Hp}{s:yb}{Z:List yc}{O:Mem}{x:D}{v:V}{u:ya}{k:Option yg}{tb:Kit}(I:Inv X U Y H s)(R:tG X.K Z H O)(r:tu X.K Z H x v)(q:RelV v u)(e:zsl O x=some k)(T:tK X.K tb)(hne:∃d b,tb.lookup (k,d)=some b) :
 ∃(t:ya)(P:yS->Prop),W.KitX X.K u t P/\P s.heap/\u≠.builtin "__main__.__loader__#opaque"/\∀d b w,tb.lookup (k,d)=some b->zAp X.K d w->yD X.K t w=some b:=by
 cases x with
 |non=>cases e;rw[r.tL]at q;cases q;exact⟨_,_,W.kitx_none,trivial,(λz=>nomatch z),λd b w h1 h2=>T.non d b w h1 h2⟩
 |loc n=>
  unfold zsl at e;dsimp only at e
  split at e
  ·rename_i c fs hm
   cases e;obtain⟨a,rfl,e2⟩:=r.tJ;cases q;obtain⟨C,dx,hn,hH,hX⟩:=R.at_ _ _ _ e2 hm;obtain⟨⟨o,vs,h1,h2,h3,h4⟩,_,_⟩:=(show tR X.prog X.w H s.heap a (.ext (zXm a C dx)) from I.hok a _ hH)
   have inst:∃ox odo,W.InstAt s.heap a ox C odo:=by
    rcases hX with ⟨_,rfl⟩|⟨p,ws,rfl,hp,_,_⟩
    ·exact⟨o,none,h1,h2,by unfold W.notCls;rw[h4],by rw[h3];trivial⟩
    ·obtain⟨u,hu⟩:=(I.hok p _ hp).there;exact⟨o,some u,h1,h2,by unfold W.notCls;rw[h4],by rw[h3];exact hu⟩
   obtain⟨d,b,h5⟩:=hne;exact⟨.ref C,_,W.Sd (T.ask c d b h5 C hn),inst,(λz=>nomatch z),λd b w h1 h2=>T.exc c d b w h1 h2 C hn⟩
  ·cases e
 |_=>cases e
def znl{K:yr}{Z:List yc}{H:Hp}{tb:Kit}{k:Option yg}{t:ya}(hk:∀d b w,tb.lookup (k,d)=some b->zAp K d w->yD K t w=some b):∀{cs:List D} {vs:List V} {us:List ya} {b:Bool},tf K Z H cs vs->Vals vs us->zKi tb k cs=some b->W.kitAny K t us=some b
 |[],_,_,b,r,q,e=>by
  rw[r.nil_inv]at q;cases q;cases e;rfl
 |c::cs,_,_,b,r,q,e=>by
  obtain⟨v,vs,rfl,r1,r2⟩:=r.cons_inv
  cases q with
  |cons q1 q2=>
   unfold zKi at e
   cases e1:zRr tb k c with
   |none=>rw[e1]at e;cases e
   |some b1=>
    rw[e1]at e;obtain⟨d,e2,e3⟩:=ze e1;have h1:=hk d b1 _ e3 (zKn r1 q1 e2);unfold W.kitAny;rw[h1]
    cases b1 with
    |true=>exact e
    |false=>exact znl hk r2 q2 e
def zdi{tb:Kit}(T:tK X.K tb):tS X (.builtin "isinstance") (zUn tb):=by
 refine tS.of λU s Y H xs us Q I r Z ds O d O' r1 R e k=>?_;unfold zUn at e
 split at e
 ·rename_i x c cs
  obtain⟨kd,e1,e⟩:=ze e;obtain⟨b,e2,e⟩:=ze e;cases e;obtain⟨v,rr,rfl,q1,q2⟩:=r1.cons_inv;obtain⟨v2,rr2,rfl,q3,q4⟩:=q2.cons_inv;rw[q4.nil_inv]at r
  cases r with
  |cons ra rb=>
   cases rb with
   |cons rc rd=>
    cases rd;obtain⟨a,vs,rfl,e3,rt⟩:=q3.tT;cases rc
    have hne:∃d b,tb.lookup (kd,d)=some b:=by
     unfold zKi at e2
     cases e4:zRr tb kd c with
     |none=>rw[e4]at e2;cases e2
     |some b1=>obtain⟨d,_,e5⟩:=ze e4;exact⟨d,b1,e5⟩
    obtain⟨t,P,ρ,hp,hu,hk⟩:=zhm I R q1 ra e1 T hne;obtain⟨its,rv,⟨o,ho,hc,n,hd⟩,_⟩:=I.tuple (SqT.of e3);obtain⟨oc,od,odt,osl⟩:=o;cases hc;cases hd;exact W.kia_tup ρ I.kIn hp ho (znl hk rt rv e2) hu λtk=>⟨.bl _,H,I.tok tk,rfl,k Z H _ Ext.refl R .bl⟩
 ·rename_i x c _
  obtain⟨kd,e1,e⟩:=ze e;obtain⟨b,e2,e⟩:=ze e;cases e;obtain⟨v,rr,rfl,q1,q2⟩:=r1.cons_inv;obtain⟨v2,rr2,rfl,q3,q4⟩:=q2.cons_inv;rw[q4.nil_inv]at r
  cases r with
  |cons ra rb=>
   cases rb with
   |cons rc rd=>
    cases rd;obtain⟨d,e4,e5⟩:=ze e2;obtain⟨t,P,ρ,hp,hu,hk⟩:=zhm I R q1 ra e1 T ⟨d,b,e5⟩;exact xc ρ I.kIn hp (hk d b _ e5 (zKn q3 rc e4)) hu λtk=>⟨.bl _,H,I.tok tk,rfl,k Z H _ Ext.refl R .bl⟩
 ·cases e
variable {K:yr}{D0:yc}{tb:List (yg×Bool)}{kt:Kit}
def TY.nil:TY K D0 []:=λc b h=>by cases h
def TY.cons{c:yg}{C:yc}{b:Bool}(hc:yK K ye c=some (some (.ref C)))(k:Yy K C "BaseException"=true)(m:W.mroIn K C (.ref D0)=some b)(r:TY K D0 tb):TY K D0 ((c,b)::tb):=λc' b' h C' hC'=>by
 unfold YT at h
 split at h
 ·rename_i e
  cases h;rw[beq_iff_eq.mp e,hc]at hC';cases hC';exact⟨k,m⟩
 ·exact r c' b' h C' hC'
def tK.nil:tK K []:=⟨λ_ _ _ h=>by(cases h),λ_ _ _ h=>by(cases h),λ_ _ _ _ h=>by(cases h)⟩
def tK.none{d:CN}{b:Bool}(h:∀v,zAp K d v->yD K (.type "NoneType") v=some b)(r:tK K kt):tK K (((Option.none,d),b)::kt) where
 non:=λd' b' v e q=>by
  unfold YT at e
  split at e
  ·rename_i z
   cases e;have z:=beq_iff_eq.mp z;cases z;exact h v q
  ·exact r.non d' b' v e q
 ask:=λc d' b' e=>by
  unfold YT at e
  split at e
  ·rename_i z
   have z:=beq_iff_eq.mp z;cases z
  ·exact r.ask c d' b' e
 exc:=λc d' b' v e=>by
  unfold YT at e
  split at e
  ·rename_i z
   have z:=beq_iff_eq.mp z;cases z
  ·exact r.exc c d' b' v e
def tK.some{c:yg}{C:yc}{d:CN}{b:Bool}(hc:yK K ye c=Option.some (Option.some (.ref C)))(a:W.so K C)(h:∀v,zAp K d v->yD K (.ref C) v=Option.some b)(r:tK K kt):tK K (((Option.some c,d),b)::kt) where
 non:=λd' b' v e=>by
  unfold YT at e
  split at e
  ·rename_i z
   have z:=beq_iff_eq.mp z;cases z
  ·exact r.non d' b' v e
 ask:=λc' d' b' e C' hC'=>by
  unfold YT at e
  split at e
  ·rename_i z
   have z:=beq_iff_eq.mp z;cases z;rw[hc]at hC';cases hC';exact a
  ·exact r.ask c' d' b' e C' hC'
 exc:=λc' d' b' v e q C' hC'=>by
  unfold YT at e
  split at e
  ·rename_i z
   cases e;have z:=beq_iff_eq.mp z;cases z;rw[hc]at hC';cases hC';exact h v q
  ·exact r.exc c' d' b' v e q C' hC'
def zsb{d:yg}{a:yc}{P:ya->Prop}(h:yK K ye d=some (some (.ref a)))(p:P (.ref a)):∀v,zAp K (.own d) v->P v:=λv ⟨a',h',e⟩=>by
 rw[h]at h';cases h';rw[e];exact p
def zGo{n:String}{P:ya->Prop}(p:P (.type n)):∀v,zAp K (.ty n) v->P v:=λv e=>by
 cases e;exact p
end
structure MSsl(X:Cx)(sts:List yQ)(ψ:FS):Prop where
 h:MSs X sts ψ
end M
namespace PySem
open Sem (wp)
section
variable {prog:yu}{w:yI}{A:yF}{E:ya->yb->Prop}{h:yS}{g:Array GenState}{d:Drawn}{t:Nat}{os:OsState}
variable {nm q:yg}{C N fI:yc}{bs bm bmB:List ya}{hdct:Bool}{sn:List yg}{sub:List ya}{ab:Bool}{col:Option Bool}{dd:Option yc}{k0 k1 k2 k3 k5:Option ya}{B newId initId:String}
variable {s:yb}{env:Env}
variable {nm q:yg}{C N fI:yc}{bs bm bmB:List ya}{hdct:Bool}{sn:List yg}{sub:List ya}{ab:Bool}{col:Option Bool}{dd:Option yc}{k0 k1 k2 k3 k5:Option ya}{B newId initId:String}
end
end PySem
namespace PySem
open Sem (wp)
section
variable {prog:yu}{w:yI}{A:yF}{E:ya->yb->Prop}{h:yS}{g:Array GenState}{d:Drawn}{t:Nat}{os:OsState}
variable {nm q:yg}{C N:yc}{bs bm bmB:List ya}{hdct:Bool}{sn:List yg}{sub:List ya}{ab:Bool}{col:Option Bool}{dd:Option yc}{k0 k1 k2 k3 k5:Option ya}{B newId initId:String}
end
end PySem
namespace PySem.W
open PySem PySem.Spec PySem.Calls PyProof.Rows
open Builtin Builtin.ObjectAttr
abbrev bmV:List ya:=[.type "ValueError",.type "Exception",.type "BaseException",.type "object"]
section
variable {prog:yu}{w:yI}{A:yF}{E:ya->yb->Prop}{s:yb}{K:Frag}{x C:yc}{ox:Yw}{name:yg}{v:ya}{cd:ClassData}
variable {D:yc}{odo:Option Yw}
end
end PySem.W
namespace L2
open PySem PySem.Spec PyProof.Rows
section
variable {P:yu}{w:yI}{fs ex:List yc}{H H':Hp}{h h':yS}{e:yc}{G:yS->Prop}
end
end L2
namespace M
open PySem PySem.Spec PyProof.Rows L2
structure ExcI(K:yr)(C NE fI:yc)(f:yg):Prop where
 ob:∃nm q N bs sn sub ab col dd k0 k1 k2 k3 k5,K.lookup C=some (excClassObj nm q C N bs (.ref NE::W.bmV) true sn sub ab col dd k0 k1 k2 k3 k5 "ValueError.__new__")
 ini:xq K (.ref C) "__init__"=some (some (.ref fI))
 fn:W.typeIn K (.ref fI)=some (.type "function")
 ne:W.excIn K NE W.bmV "ValueError.__new__"=true
 sa:xq K (.ref C) "__setattr__"=some (some (.builtin "object.__setattr__"))
 at_:xq K (.ref C) f=some none
 gt:W.specialIn K (.ref NE) "__getattribute__"=some (some (.builtin "type.__getattribute__"))
 rd:W.readsIn K NE (.type "type")=true
 fc:W.findCls K (.ref NE) (.type "type") "__init__"=some (.val (.builtin "ValueError.__init__"))
section
variable {X:Cx}{v o value:yt}{e:yt}{es:List yt}{tv ta:TE}{t:TA}{C NE fI:yc}{f:yg}{np apos pos pos' p1 p2 p3 p4:YD}{x1 x2:yg}{j1 j2:Nat}
variable {x:yg}{cpos:YD}{k:Nat}{fd:yf}{ps:List yg}{G:FA}
end
structure AtC(K:yr)(c f:yg):Prop where
 ok:∀C,yK K ye c=some (some (.ref C))->W.so K C/\xq K (.ref C) f=some none/\W.hasDictIn K C=true
structure IniAt(K:yr)(mg:yg->Option ya)(c f qual:yg)(st:yQ)(ps:List yg)(C NE fI:yc)(fd:yf):Prop where
 nm:yK K ye c=some (some (.ref C))
 ne:mg "NestError"=some (.ref NE)
 ex:ExcI K C NE fI f
 fn:Fun K "__init__" qual st fI fd
 bd:Binds K fd ps []
def zBq(ns:List Int):Prop:=ns.length<=100/\∀n∈ns,n.natAbs<1606938044258990275541962092341162602522202993782792835301376
section
variable {X:Cx}{v:yt}{tv:TE}{p1 p2 p4:YD}{x1:yg}{j1:Nat}
end
instance smallDec(ns:List Int):Decidable (zBq ns):=by unfold zBq;exact inferInstance
section
variable {X:Cx}{x:yg}{e:yt}{np cpos pos:YD}{C NE fI:yc}{f:yg}{k:Nat}{fd:yf}{ps:List yg}{G:FA}
variable {a b c:yt}{es:List yt}{G ψ χ:FE}{pos2 p1 p2:YD}
def zDn(G:FE):FE:=λJ O=>(G J O).bind λp=>match p.1 with
 |.int j=>bif decide (-(2^62)<=j/\j<=1000000) then some (.loc p.2.length,p.2++[.lst ((Yp j.toNat).map λ(k:Nat) =>.int k)]) else none
 |_=>none
@[simp] def zKt:GL:=λds O=>match ds with
 |[.loc n]=>match O[n]? with
  |some (.lst xs)=>bif xs.all zLu then some (.bl (xs.any blB),O) else none
  |_=>none
 |_=>none
def zvn(hc:X.calm=true):tS X (.builtin "any") zKt:=by
 refine tS.of λU s Y H xs us Q I r Z ds O d O' r1 R e k=>?_;unfold zKt at e
 split at e
 ·split at e
  ·rename_i n _ ys hm
   obtain⟨hb,e⟩:=zK e;cases e;obtain⟨v,rr,rfl,q1,q2⟩:=r1.cons_inv;obtain⟨a,rfl,e2⟩:=q1.tJ;obtain⟨vs,e3,q3⟩:=R.at_ _ _ _ e2 hm;rw[q2.nil_inv]at r;obtain⟨u,rfl,ru⟩:=vals1 r;cases ru;obtain⟨its,rv,pl,hz⟩:=I.list (SqL.of (K:=X.K) e3);have hlt:a<s.heap.objs.size:=by obtain⟨_,_,e,_⟩:=pl;exact ym e
   refine call_any_walk (wpAny_pyIter_list pl.isList ?_);refine⟨_,_,_,_,_,_,λi=>blB (ys.getD i .non),rfl,Walks.list (A:=X.A.in1) (I.ok.hd hc) s.heap.objs.size a (yJ hlt) its.toArray,⟨⟨_,yC _ rfl,rfl,rfl⟩,pl.isList.push _⟩,?_,λh' tk hk=>?_⟩
   ·intro i w s' Q' E' hP hQ;have hi:its[i]?=some w:=by simpa using hP
    have hil:i<ys.length:=by
     have h1:=(List.getElem?_eq_some_iff.mp hi).1;rw[q3.length,rv.length];exact h1
    have hyi:ys[i]?=some ys[i]:=by simp[hil]
    obtain⟨vv,ev,rvv⟩:=q3.get hyi;obtain⟨ww,ew,rww⟩:=rv.get ev;rw[hi]at ew;cases ew;have hall:=List.all_eq_true.mp hb ys[i] (getElem_mem hil)
    have hQ':Q' (blB ys[i]) s':=by
     have e:ys.getD i .non=ys[i]:=by rw[getD_eq_getElem?_getD,hyi];rfl
     rw[<-e];exact hQ
    cases hyb:ys[i] with
    |bl b=>
     rw[hyb]at rvv hQ';rw[rvv.tQ]at rww;cases rww;exact YK hQ'
    |_=>rw[hyb]at hall;cases hall
   ·have hsz:its.toArray.size=ys.length:=by rw[q3.length,rv.length];simp
    have eall:((Yp its.toArray.size).any λi=>blB (ys.getD i .non))=ys.any blB:=by
     rw[hsz,Bool.eq_iff_iff,List.any_eq_true,List.any_eq_true];constructor
     ·rintro⟨i,hi,h⟩;have hi':i<ys.length:=by simpa using hi
      rw[getD_eq_getElem?_getD,show ys[i]?=some ys[i] by simp[hi']]at h;exact⟨_,getElem_mem hi',h⟩
     ·rintro⟨y,hy,h⟩;obtain⟨i,hi,rfl⟩:=List.mem_iff_getElem.mp hy;refine⟨i,by simpa using hi,?_⟩;rw[getD_eq_getElem?_getD,show ys[i]?=some ys[i] by simp[hi]];exact h
    rw[eall];refine⟨.bl _,H,I.kept (h':=h') (t':=tk) λb o e=>hk b o (by simpa using yJ (ym e)) (yk _ e),rfl,k Z H _ Ext.refl R .bl⟩
  ·cases e
 ·cases e
@[simp] def zSu:GL:=λds O=>match ds with
 |[.int i]=>some (.int i,O)
 |[.bl b]=>some (.int (if b then 1 else 0),O)
 |_=>none
@[simp] def zVt:GL:=λds O=>match ds with
 |[.int i,.int j]=>some (.int (if j<i then j else i),O)
 |_=>none
@[simp] def z9t:GL:=λds O=>match ds with
 |[.int i,.int j]=>some (.int (if j>i then j else i),O)
 |_=>none
@[simp] def fIf(c:FT)(G ψ:FE):FE:=λJ O=>(c J O).bind λp=>bif p.1 then G J p.2 else ψ J p.2
variable {prog:yu}{w:yI}{A:yF}{E:ya->yb->Prop}{s:yb}
variable {U:List (yc×Yw)}{Y:L2.St}{H:Hp}
end
end M
namespace L2
open PySem PySem.Spec PyProof.Rows
section
variable {κ:Type}[DecidableEq κ]
end
end L2
namespace M
open PySem PySem.Spec PyProof.Rows L2
section
variable {K:yr}{Z:List yc}{H:Hp}{O:Mem}
variable {X:Cx}{a b c e:yt}{es:List yt}{G ψ χ:FE}{pos:YD}
variable {tg:yt}
variable {prog:yu}{w:yI}{A:yF}{E:ya->yb->Prop}{s:yb}
variable {pos2 p1 p2:YD}
variable {te:TE}{stp:yt}{ts:TO}
def zjj{it t:yc}{items:Array ya}(hne:t≠it):∀(n i:Nat)(s:yb)(Q:List ya->yb->Prop),s.heap.IsListIter it t i->s.heap.IsList t items->i+n<=items.size ->
 (∀h',h'.IsListIter it t (i+n)->Heap.SameBut it s.heap h'->Q ((items.toList.drop i).take n) {s with heap:=h' })->yw (yz prog w) A (draw (.ref it) n) Q E s
 |0,i,s,Q,hit,_,_,hQ=>by
  show yw _ _ (pure []) Q E s;exact yy (by simpa using hQ s.heap hit (Heap.SameBut.refl ..))
 |n+1,i,s,Q,hit,ht,hle,hQ=>by
  have hlt:i<items.size:=by omega
  show yw _ _ (pyNext (.ref it) >>= _) Q E s;refine yh (wpAny_pyNext_list_item hit ht (x:=items[i]) (by simp[hlt]) λh₁ hit₁ hs₁=>?_);refine yh (YE (zjj hne n (i+1) _ _ hit₁ (ht.extBut hs₁.extBut hne) (by omega) λh₂ hit₂ hs₂=>yy ?_));have hd:items.toList.drop i=items[i]::items.toList.drop (i+1):=by simp[YV,hlt]
  have:=hQ h₂ (by rw[show i+(n+1)=i+1+n by omega];exact hit₂) (hs₁.trans hs₂);rw[hd,List.take_succ_cons]at this;exact this
def zlh{t:yc}{items:Array ya}{Q:List ya->yb->Prop}(hh:A.handled=none)(ht:s.heap.IsList t items)
 (hQ:∀h',Heap.ExtBut s.heap.objs.size s.heap h'->Q items.toList {s with heap:=h' }):yw (yz prog w) A (unpackItems (.ref t) items.size none) Q E s:=by
 have hlt:t≠s.heap.objs.size:=by obtain⟨o,ho,_⟩:=ht;exact yJ (ym ho)
 unfold unpackItems;refine yh ?_
 ·unfold notIterableAtAll;refine yh (wpAny_specialOf ht.typeIs PySem.slot_list_iter.lookup ?_);refine yy ?_;simp only[Bool.false_eq_true,if_false];refine yh (YE (wpAny_pyIter_list ht ?_));refine yh (YE (zjj hlt items.size 0 _ _ ⟨_,yC _ rfl,rfl,rfl⟩ (ht.push _) (by omega) λh₁ hit₁ hs₁=>?_))
  have hall:List.take items.size (List.drop 0 items.toList)=items.toList:=by
   rw[List.drop_zero];exact xm (by simp)
  rw[hall];rw[if_neg (by simp)];have ht₁:h₁.IsList t items:=(ht.push _).extBut hs₁.extBut hlt;refine yh (YE (wpAny_pyNext_list_end hh hit₁ ht₁ (by simp) λh₂ he₂=>?_));simp only[Option.isSome_none,Bool.false_eq_true,if_false];refine yy (hQ h₂ λb o hb e=>he₂ b o hb (hs₁.extBut b o hb (yk _ e)))
def zhh{env:Env}{elts:List yt}{x1}{pos:YD}{t:yc}{items:Array ya}{Q:Unit->yb->Prop}(hh:A.handled=none)(ht:s.heap.IsList t items)
 (hn:(YB elts env).length=items.size) (hstar:(YB elts env).findIdx? (·.1)=none)
 (h:∀h',Heap.ExtBut s.heap.objs.size s.heap h'->yw (yz prog w) A (assignInOrder ((YB elts env).map (·.2)) items.toList) Q E {s with heap:=h' }) :
 yw (yz prog w) A (assign (.Tuple elts x1 pos) env (.ref t)) Q E s:=by
 rw[assign_Tuple];refine yh (wpAny_standAt ?_);unfold unpack;rw[hn,hstar];exact yh (YE (zlh hh ht h))
def zeu(K:yr)(n:Nat)(t:TGs):TG:=λv Y H Q=>∃a xs,v=.ref a/\SqL K H a xs/\xs.length=n/\t xs Y H Q
def z7q{es:List yt}{k:Nat}{t:TGs}{n:Nat}(hc:X.calm=true)(h:PGs X es t)
 (hn:(YB es X.env).length=n:=by rfl) (hst:(YB es X.env).findIdx? (·.1)=none:=by rfl):PG X (.Tuple es k pos) (zeu X.K n t):=by
 intro U s Y H v u Q I r hw;obtain⟨a,xs,e1,hq,hl,hw⟩:=hw;subst e1;cases r;obtain⟨its,rv,pl,hz⟩:=I.list hq;refine zhh (I.ok.hd hc) pl.isList (by simp[hn,<-hl,rv.length]) hst λh' hx=>?_;have I1:Inv X U Y H {s with heap:=h' }:=I.kept (t':=s.toks) λb o e=>hx b o (yJ (ym e)) e;exact h U _ Y H xs _ Q I1 (by simpa using rv) hw
def gTL(n:Nat)(gs:FGs):FG:=λd J O=>match d with
 |.loc l=>match O[l]? with
  |some (.lst ds)=>bif ds.length==n then gs ds J O else none
  |_=>none
 |_=>none
def zbr{es:List yt}{k n:Nat}{gs:FGs}(h:MGs X es gs)(hc:X.calm=true:=by rfl)(hn:(YB es X.env).length=n:=by rfl)(hst:(YB es X.env).findIdx? (·.1)=none:=by rfl):MG X (.Tuple es k pos) (gTL n gs) :=
 mg_of (z7q hc h hn hst) λZ J O d J' O' v Y H Q A q e k=>by
  unfold gTL at e
  split at e
  ·split at e
   ·rename_i hm
    obtain⟨h1,e⟩:=zK e;obtain⟨a,rfl,ea⟩:=q.tJ;obtain⟨vs,e3,q2⟩:=A.hp.at_ _ _ _ ea hm;exact⟨a,vs,rfl,SqL.of e3,by rw[<-q2.length];exact beq_iff_eq.mp h1,Z,J,O,_,J',O',A,q2,e,k⟩
   ·cases e
  ·cases e
end
end M
namespace M
open PySem PyProof.Rows
section
variable {prog:yu}{w:yI}{A:yF}{E:ya->yb->Prop}{s:yb}
end
end M
namespace M
open PySem PySem.Spec PyProof.Rows L2
section
variable {X:Cx}{U:List (yc×Yw)}{Y:L2.St}{H:Hp}{s s':yb}
variable {a b c e:yt}{es:List yt}{G ψ χ:FE}{pos pos2 p1 p2:YD}
variable {prog:yu}{w:yI}{A:yF}{E:ya->yb->Prop}{T:String}{r d:yc}{n:Nat}{P:Nat->ya->Prop}{OK:yS->Prop}
variable {o:yt}{ψ:FA}{apos:YD}{c f m:yg}
structure MethAt(K:yr)(c m qual:yg)(st:yQ)(ps:List yg)(C f:yc)(fd:yf):Prop where
 nm:yK K ye c=some (some (.ref C))
 cl:Cls K C
 me:Meth K C m f
 fn:Fun K m qual st f fd
 bd:Binds K fd ps []
variable {C g:yc}{fd:yf}{ps:List yg}{qual:yg}{st:yQ}{CX:CXT}{sp:Sp}{E:XK}{j k n:Nat}{F:FF}{FXm:FX}
end
structure MakeAt(K:yr)(mg:yg->Option ya)(c:yg)(st:yQ)(ps:List yg)(C f:yc)(fd:yf):Prop where
 nm:yK K ye c=some (some (.ref C))
 mgc:mg c=some (.ref C)
 mkc:Mk K C f
 fn:Fun K "__init__" (c ++ ".__init__") st f fd
 bd:Binds K fd ps []
section
variable {X:Cx}{e:yt}{es:List yt}{ψ:FA}{pos p:YD}{c:yg}{C g:yc}{fd:yf}{ps:List yg}{st:yQ}{j k n:Nat}{F:FF}
variable {a b:yt}{G ψ:FE}
@[simp] def zH:φ2:=λx y O=>match x,y with
 |.str a,.str b=>bif decide (a.length+b.length<=1000000) then some (.str (a++b),O) else none
 |_,_=>none
def zj:OpM X (Yz .Add) zH:=by
 refine OpM.of λU s Y H x y v u Q I rx ry Z dx dy O d O' r1 r2 R e k=>?_;unfold zH at e
 split at e
 ·obtain⟨h0,e⟩:=zK e;have h0:=of_decide_eq_true h0;cases e;exact zZm U s Y H x y v u Q I rx ry ⟨_,_,r1.str_inv,r2.str_inv,yq h0 (by decide),k Z H _ Ext.refl R .str⟩
 ·cases e
@[simp] def zQj:GL:=λds O=>match ds with
 |[.str a]=>bif decide (a.length<=1000000) then some (.int a.length,O) else none
 |_=>none
def zve:tS X (.builtin "len") zQj:=by
 refine tS.of λU s Y H xs us Q I r Z ds O d O' r1 R e k=>?_;unfold zQj at e
 split at e
 ·obtain⟨h1,e⟩:=zK e;have h1:=of_decide_eq_true h1;cases e;obtain⟨v,rr,rfl,q1,q2⟩:=r1.cons_inv;have q2:=q2.nil_inv;subst q2;exact zCk U s Y H _ us Q I r ⟨_,by rw[q1.str_inv],yq h1 (by decide),k Z H _ Ext.refl R .int⟩
 ·cases e
@[simp] def zYh:φ2:=λx y O=>match x,y with
 |.str a,.str b=>some (.bl (Builtin.Str.occurrences b a 0 b.length 1).isEmpty,O)
 |_,_=>none
def zBj:OpM X (Yj .NotIn) zYh:=by
 refine OpM.of λU s Y H x y v u Q I rx ry Z dx dy O d O' r1 r2 R e k=>?_;unfold zYh at e
 split at e
 ·cases e;exact zNk U s Y H x y v u Q I rx ry ⟨_,_,r1.str_inv,r2.str_inv,by rw[Bool.not_not];exact k Z H _ Ext.refl R .bl⟩
 ·cases e
@[simp] def zqp:φ2:=λx y O=>match x,y with
 |.str z,.int i=>bif decide (z.length<=1000000) then(atI z.cps.toList i).bind λc=>some (.str ⟨#[c]⟩,O) else none
 |_,_=>none
def ixMS:IxR X (rM X.K zqp):=by
 intro value slice U s Y H x y v u Q I rx ry ⟨Z,dx,dy,O,d,O',r1,r2,R,e,k⟩ hs;unfold zqp at e
 split at e
 ·obtain⟨h0,e⟩:=zK e;have h0:=of_decide_eq_true h0;obtain⟨c,e1,e⟩:=ze e;cases e;exact zzq value slice U s Y H _ y v u Q I rx ry ⟨_,_,c,r1.str_inv,r2.int_inv,yq h0 (by decide),e1,k Z H _ Ext.refl R .str⟩ hs
 ·cases e
def ztm(ha:ME X a G)(hb:ME X b ψ)(hs:zzl b:=by exact λ_ _=>rfl):ME X (.Subscript a b pos) (zw zqp G ψ) :=
 zIe (zkt ixMS ha hb hs) λ_ _ _ _ _ _ _ _ A e k=>z1m A e k
@[simp] def zYn:GL:=λds O=>match ds with
 |[.int i]=>bif decide (i.natAbs.log2<1920) then some (.str (toString i),O) else none
 |_=>none
def z6m:tS X (.type "str") zYn:=by
 refine tS.of λU s Y H xs us Q I r Z ds O d O' r1 R e k=>?_;unfold zYn at e
 split at e
 ·obtain⟨h1,e⟩:=zK e;have h1:=of_decide_eq_true h1;cases e;obtain⟨v,rr,rfl,q1,q2⟩:=r1.cons_inv;have q2:=q2.nil_inv;subst q2;exact zPk U s Y H _ us Q I r ⟨_,by rw[q1.int_inv],h1,k Z H _ Ext.refl R .str⟩
 ·cases e
end
end M
namespace M
open PySem PySem.Spec PyProof.Rows L2 PySem.Builtin PySem.Builtin.Str
def z2j{X:Cx}{x y:yg}{pos:YD}(hm:∃t,X.mg x=some (.str y t))(hg:Gl X x:=by rfl)(hd:(x==("__debug__":yg))=false:=by decide):ME X (.Name x pos) (fC (.str y)):=by
 obtain⟨t,h⟩:=hm;exact zwq (zNl (v:=V.str y) hg h ⟨t,rfl⟩ hd) λ_ _ =>.str
section
variable {X:Cx}{e:yt}{es:List yt}{G:FE}{pos:YD}
@[simp] def zEb(g:GM)(G:FE)(ψ:FA):FE:=λJ O=>(G J O).bind λp=>match p.1 with
 |.str x=>(ψ J p.2).bind λq=>g (.str x) q.1 q.2
 |_=>none
def z1j{o:yt}{ψ:FA}{name:yg}{id:String}{g:GM}{apos:YD}(slot:Slot "str" name id)(hty:typeOf (.builtin id)=pure (.type "method_descriptor"))(hm:MtG X id g)(ho:ME X o G)(ha:MAn X (e::es) ψ)
 (hbase:YR o name X.env (Yi o X.env)=Yi o X.env:=by rfl)
 (hfew:((Ye pos (yj (e::es) X.env)).all (λx=>!x.1)&&(backToKw pos (xj [] X.env)).all (λx=>x.1.isSome)
  && decide ((e::es).length+([]:List xo).length+(if([]:List xo).isEmpty then 0 else 1)<30))=true:=by rfl)
 (hline:(apos.endLine==pos.line)=true:=by rfl) (hs:yj (e::es) X.env=(false,Yi e X.env)::yj es X.env:=by rfl) (hplain:(Ye pos (yj es X.env)).any (·.1)=false:=by rfl) :
 ME X (.Call (.Attribute o name apos) (e::es) [] pos) (zEb g G ψ) :=
 zIe (zrt PySem.F.plainAttrs_str slot hty hm ho ha.ma hbase hfew hline hs hplain) λZ J O Y H d O' Q A e k=>by
  obtain⟨⟨x,O1⟩,e1,e⟩:=ze e;refine⟨Z,J,O,x,O1,A,e1,λZ1 H1 v x1 R1 r1=>?_⟩;dsimp only at e
  split at e
  ·obtain⟨⟨ds,O2⟩,e2,e⟩:=ze e;have ev:=r1.str_inv;subst ev;refine⟨rfl,Z1,J,O1,ds,O2,A.ext x1 R1,e2,λZ2 H2 vs2 x2 R2 r2=>?_⟩;exact⟨Z2,_,ds,O2,d,O',.str,r2,R2,e,λZ3 H3 v3 x3 R3 r3=>k Z3 H3 v3 (x1.trans (x2.trans x3)) R3 r3⟩
  ·cases e
def zVu:D->Option yg
 |.str x=>some x
 |_=>none
def zOo:List D->Option (List yg)
 |[]=>some []
 |d::ds=>(zVu d).bind λx=>(zOo ds).bind λxs=>some (x::xs)
@[simp] theorem zDk:∀ys:List yg,zOo (ys.map D.str)=some ys
 |[]=>rfl
 |y::ys=>by
  have:=zDk ys;show(zOo (ys.map D.str)).bind _=_;rw[this];rfl
def zVk:∀{ds:List D} {ys:List yg},zOo ds=some ys->ds=ys.map D.str
 |[],ys,h=>by cases h;rfl
 |d::ds,ys,h=>by
  obtain⟨x,e1,h⟩:=ze (show(zVu d).bind _=_ from h);obtain⟨xs,e2,h⟩:=ze h;cases h;rw[zVk e2];cases d<;>cases e1
  rfl
def zlm{K:yr}{Z:List yc}{H:Hp}:∀{ys:List yg} {vs:List V},tf K Z H (ys.map D.str) vs->vs=ys.map V.str
 |[],vs,r=>r.nil_inv
 |i::ns,vs,r=>by
  obtain⟨v,q,rfl,h1,h2⟩:=r.cons_inv;rw[h1.str_inv,zlm h2];rfl
def zbm{K:yr}{Z:List yc}{H:Hp}:∀{ys:List yg},tf K Z H (ys.map D.str) (ys.map V.str)
 |[] =>.nil
 |_::_ =>.cons .str zbm
def z9i:∀{ys:List yg} {us:List ya},Vals (ys.map V.str) us->StrsAre us ys
 |[],us,h=>by rw[h.unnil];exact .nil
 |y::ys,us,h=>by
  obtain⟨u,ws,rfl,r,t⟩:=h.sZ;obtain⟨k,rfl⟩:=r;exact .cons y k (z9i t)
def zAh:∀{l:List (yg×Tok)},Vals ((l.map (·.1)).map V.str) (strValues l)
 |[] =>.nil
 |(y,t)::l =>.cons ⟨t,rfl⟩ zAh
@[simp] def znf:GM:=λx ds O=>match x,ds with
 |.str z,[.loc n]=>match O[n]? with
  |some (.lst xs)=>(zOo xs).bind λys=>bif decide ((ys.map (·.length)).sum+ys.length*z.length<=1000000) then some (.str (yv z ys),O) else none
  |_=>none
 |_,_=>none
def zEp:MtG X "str.join" znf:=by
 refine MtG.of λU s Y H x xs v us Q I rx rs Z dx ds O d O' r1 r2 R e k=>?_;unfold znf at e
 split at e
 ·split at e
  ·rename_i hm
   obtain⟨ys,e2,e⟩:=ze e;obtain⟨h1,e⟩:=zK e;have h1:=of_decide_eq_true h1;cases e;have ev:=r1.str_inv;subst ev;obtain⟨t,rfl⟩:=rx;obtain⟨w,r,rfl,q1,q2⟩:=r2.cons_inv;rw[q2.nil_inv]at rs;obtain⟨a,rfl,ea⟩:=q1.tJ;rw[zVk e2]at hm;obtain⟨vs,e3,q3⟩:=R.at_ _ _ _ ea hm;rw[zlm q3]at e3;obtain⟨u,rfl,ru⟩:=vals1 rs;cases ru;obtain⟨its,rv,pl,hz⟩:=I.list (SqL.of (K:=X.K) e3);exact join_list pl.isList (z9i (by simpa using rv)) (yq h1 (by decide)) λt' k'=>⟨.str _,H,I.tok _,⟨t',rfl⟩,k Z H _ Ext.refl R .str⟩
  ·cases e
 ·cases e
def zke{o:yt}{ψ:FA}{apos:YD}(ho:ME X o G)(ha:MAn X (e::es) ψ)
 (hbase:YR o "join" X.env (Yi o X.env)=Yi o X.env:=by rfl)
 (hfew:((Ye pos (yj (e::es) X.env)).all (λx=>!x.1)&&(backToKw pos (xj [] X.env)).all (λx=>x.1.isSome)
  && decide ((e::es).length+([]:List xo).length+(if([]:List xo).isEmpty then 0 else 1)<30))=true:=by rfl)
 (hline:(apos.endLine==pos.line)=true:=by rfl) (hs:yj (e::es) X.env=(false,Yi e X.env)::yj es X.env:=by rfl) (hplain:(Ye pos (yj es X.env)).any (·.1)=false:=by rfl) :
 ME X (.Call (.Attribute o "join" apos) (e::es) [] pos) (zEb znf G ψ):=z1j PySem.F.slot_str_join PySem.F.type_str_join zEp ho ha hbase hfew hline hs hplain
def zpp{prog:yu}{w:yI}{A:yF}{E:ya->yb->Prop}{s:yb}{x y:yg}{t u:Tok}{Q:ya->yb->Prop}(hy:(y.length==0)=false)
 (hq:∀l k,l.map (·.1)=yx x y->Q (.ref s.heap.objs.size) {s with heap:=s.heap.push {cls:=.type "list",data:=.seq (strValues l).toArray },toks:=k })
 (hsz:x.length<=yB) (hsz2:(partsBetween x (occurrences x y 0 x.length (x.length+1)) y.length).length<=yB) :
 yw (yz prog w) A (call (.builtin "str.split") [.str x t,.str y u]) Q E s:=by
 cases h1:(decide (x.length<y.length)||decide (strKind x<strKind y))
 ·cases hf:(occurrences x y 0 x.length (x.length+1)).isEmpty
  ·refine call_meets F.slot_str_split (typeIs_str _ _ _) F.entry_str_split (F.args_str_split_2 _ _) (meets_str_split_sep x y t u h1 hy hf hsz hsz2) ?_;show wants Q E _ {s with toks:=_,heap:=s.heap.push {cls:=.type "list",data:=.seq (strsFrom s.toks (partsBetween x (occurrences x y 0 x.length (x.length+1)) y.length)).toArray }};rw[strsFrom_eq];exact hq (numbered s.toks _) _ ((numbered_texts _ _).trans ((if_neg (ne_true_of_eq_false h1)).trans (if_neg (ne_true_of_eq_false hf))).symm)
  ·exact call_meets F.slot_str_split (typeIs_str _ _ _) F.entry_str_split (F.args_str_split_2 _ _) (meets_str_split_not_found x y t u h1 hy hf)
    (hq [(x,t)] s.toks ((if_neg (ne_true_of_eq_false h1)).trans (if_pos hf)).symm)
 ·exact call_meets F.slot_str_split (typeIs_str _ _ _) F.entry_str_split (F.args_str_split_2 _ _) (meets_str_split_cannot_occur x y t u h1) (hq [(x,t)] s.toks (if_pos h1).symm)
def zoh(x:yg)(w:Nat):∀(cuts:List Nat)(a:Nat),(YY x w a cuts).length=cuts.length+1
 |[],a=>rfl
 |c::r,a=>by
  show(YY x w _ r).length+1=_;rw[zoh x w r];rfl
def zLo(x y:yg):(partsBetween x (occurrences x y 0 x.length (x.length+1)) y.length).length<=x.length+2:=by
 rw[StrLaws.partsBetween_eq,zoh];have:=StrLaws.occ_length_le x y 0 x.length (x.length+1);omega
@[simp] def zgf:GM:=λx ds O=>match x,ds with
 |.str z,[.str y]=>bif decide (z.length<=1000000/\1<=y.length) then some (.loc O.length,O++[.lst ((yx z y).map D.str)]) else none
 |_,_=>none
def z5n:MtG X "str.split" zgf:=by
 refine MtG.of λU s Y H x xs v us Q I rx rs Z dx ds O d O' r1 r2 R e k=>?_;unfold zgf at e
 split at e
 ·rename_i z y
  obtain⟨h1,e⟩:=zK e;obtain⟨h1,h2⟩:=of_decide_eq_true h1;cases e;have ev:=r1.str_inv;subst ev;obtain⟨t,rfl⟩:=rx;obtain⟨w,r,rfl,q1,q2⟩:=r2.cons_inv;rw[q2.nil_inv,q1.str_inv]at rs;obtain⟨u,rfl,ru⟩:=vals1 rs;obtain⟨t',rfl⟩:=ru;have hmi:(1000000:Nat)+2<=yB:=by decide
  have hp:=zLo z y;refine zpp (by simp;omega) (λl k' hl=>?_) (by omega) (by omega);have hf:H s.heap.objs.size=none:=I.hok.fresh (yo _);have hw:=split_weight z y h2;have hll:((l.map (·.1)).map V.str).length<=yB:=by rw[length_map,hl];omega
  have I1:Inv X U Y (upd H s.heap.objs.size (.lst ((l.map (·.1)).map V.str))) {s with heap:=s.heap.push {cls:=.type "list",data:=.seq (strValues l).toArray },toks:=k' } :=
   I.laid (t':=k') (λb u e=>yk _ e) (yo _) ⟨hll,strValues l,0,zAh,yC _ rfl⟩
  refine⟨.ref s.heap.objs.size,_,I1,rfl,?_⟩;rw[hl];exact k _ _ _ (Ext.push hf) (R.push hf ⟨_,zW,zbm⟩) (.loc (z8c R))
 ·cases e
def zXe{o:yt}{ψ:FA}{apos:YD}(ho:ME X o G)(ha:MAn X (e::es) ψ)
 (hbase:YR o "split" X.env (Yi o X.env)=Yi o X.env:=by rfl)
 (hfew:((Ye pos (yj (e::es) X.env)).all (λx=>!x.1)&&(backToKw pos (xj [] X.env)).all (λx=>x.1.isSome)
  && decide ((e::es).length+([]:List xo).length+(if([]:List xo).isEmpty then 0 else 1)<30))=true:=by rfl)
 (hline:(apos.endLine==pos.line)=true:=by rfl) (hs:yj (e::es) X.env=(false,Yi e X.env)::yj es X.env:=by rfl) (hplain:(Ye pos (yj es X.env)).any (·.1)=false:=by rfl) :
 ME X (.Call (.Attribute o "split" apos) (e::es) [] pos) (zEb zgf G ψ):=z1j PySem.F.slot_str_split PySem.F.type_str_split z5n ho ha hbase hfew hline hs hplain
@[simp] def zuo:GM:=λx ds O=>match x,ds with
 |.str z,[.str y]=>some (.int (Txt.find z y),O)
 |_,_=>none
def zsp:MtG X "str.find" zuo:=by
 refine MtG.of λU s Y H x xs v us Q I rx rs Z dx ds O d O' r1 r2 R e k=>?_;unfold zuo at e
 split at e
 ·cases e;have ev:=r1.str_inv;subst ev;obtain⟨t,rfl⟩:=rx;obtain⟨w,r,rfl,q1,q2⟩:=r2.cons_inv;rw[q2.nil_inv,q1.str_inv]at rs;obtain⟨u,rfl,ru⟩:=vals1 rs;obtain⟨t',rfl⟩:=ru;exact SC.find ⟨.int _,H,I.tok _,⟨_,rfl⟩,k Z H _ Ext.refl R .int⟩
 ·cases e
def zSq{o:yt}{ψ:FA}{apos:YD}(ho:ME X o G)(ha:MAn X (e::es) ψ)
 (hbase:YR o "find" X.env (Yi o X.env)=Yi o X.env:=by rfl)
 (hfew:((Ye pos (yj (e::es) X.env)).all (λx=>!x.1)&&(backToKw pos (xj [] X.env)).all (λx=>x.1.isSome)
  && decide ((e::es).length+([]:List xo).length+(if([]:List xo).isEmpty then 0 else 1)<30))=true:=by rfl)
 (hline:(apos.endLine==pos.line)=true:=by rfl) (hs:yj (e::es) X.env=(false,Yi e X.env)::yj es X.env:=by rfl) (hplain:(Ye pos (yj es X.env)).any (·.1)=false:=by rfl) :
 ME X (.Call (.Attribute o "find" apos) (e::es) [] pos) (zEb zuo G ψ):=z1j PySem.F.slot_str_find PySem.F.type_str_find zsp ho ha hbase hfew hline hs hplain
@[simp] def z7m:GL:=λds O=>match ds with
 |[.str x]=>bif decide (x.length<=640) then(intText? x).bind λn=>some (.int n,O) else none
 |_=>none
def zOm:tS X (.type "int") z7m:=by
 refine tS.of λU s Y H xs us Q I r Z ds O d O' r1 R e k=>?_;unfold z7m at e
 split at e
 ·obtain⟨h1,e⟩:=zK e;have h1:=of_decide_eq_true h1;obtain⟨n,e1,e⟩:=ze e;cases e;obtain⟨v,rr,rfl,q1,q2⟩:=r1.cons_inv;rw[q2.nil_inv,q1.str_inv]at r;obtain⟨u,rfl,ru⟩:=vals1 r;obtain⟨t',rfl⟩:=ru;exact W.KIN.call_text e1 h1 ⟨.int _,H,I.tok _,⟨_,rfl⟩,k Z H _ Ext.refl R .int⟩
 ·cases e
def Its(x:yg):It:=⟨λi _=>i<x.cps.size,λi H v H'=>H'=H/\∃c,x.cps[i]?=some c/\v=.str ⟨#[c]⟩,λi _=>x.cps.size<=i⟩
def zap{P:yu}{w:yI}{K:yr}{tg:yt}(it:yc)(x:yg)(t:Tok):Turn P w K tg (Its x) [it] it (λi h=>h.IsStrIter it "str_ascii_iterator" x t i) where
 mem:=by simp
 obj:=λi h st b hb=>by
  have e:b=it:=by simpa using hb
  subst e;obtain⟨o,e,c,d⟩:=st;exact⟨o,e,λv z=>by rw[d]at z;cases z⟩
 keep:=λi h h' st k=>let ⟨o,ho,r⟩:=st;⟨o,k it (by simp) o ho,r⟩
 item:=by
  intro X hP hw hK hc i U s Y H E I hf st hg;subst hP hw hK;obtain⟨f0,f1,f2,f3,f4,f5⟩:=hf it (by simp);have hg:i<x.cps.size:=hg;refine wpAny_pyNext_ascii_item st (c:=x.cps[i]) (by simp[hg]) λh' st' sb=>?_;have I1:Inv X U Y H {s with heap:=h',toks:=s.toks+1 }:=I.turned (λb o hb e=>(sb.2 b hb).trans e) f0 f1 f3 f4 f5;obtain⟨o,e,c,d⟩:=id st';exact⟨_,rfl,zFp (s:={s with heap:=h',toks:=s.toks+1 }) e c d (by decide) ⟨.str ⟨#[x.cps[i]]⟩,H,I1,⟨_,rfl⟩,⟨rfl,_,by simp[hg],rfl⟩,st',λb hb=>(hf b hb).1⟩⟩
 done:=by
  intro X hP hw hK hc i U s Y H E I hf st hg;subst hP hw hK;obtain⟨f0,f1,f2,f3,f4,f5⟩:=hf it (by simp);have hg:x.cps.size<=i:=hg;exact wpAny_pyNext_ascii_end (I.ok.hd hc) st (by simp;omega) λh' eb=>⟨rfl,I.turned (t':=s.toks) (λb o hb e=>eb b o hb e) f0 f1 f3 f4 f5⟩
 self:=λ_ _ _ _ _ st h=>wpAny_pyIter_striter_ascii st h
def z2t(tl:TE):TI:=λY H R=>tl Y H λv H1=>∃x:yg,v=.str x/\x.cps.all (· < 128)=true/\R (Its x) H1
def zBs{tg l:yt}{tl:TE}(hl:PE X l tl):PI X tg l (z2t tl):=by
 intro U s Y H R I h;refine thn (hl U s Y H _ I h) λv s1 ⟨x,H1,I1,r1,q1⟩=>?_;obtain⟨z,e,ha,q⟩:=q1;subst e;obtain⟨t,rfl⟩:=r1;refine wpAny_pyIter_ascii ha ?_;refine⟨s1.heap.objs.size,[s1.heap.objs.size],_,_,H1,rfl,I1.kept (t':=s1.toks) λb o e=>yk _ e,zap _ z t,⟨_,yC _ rfl,rfl,rfl⟩,λb hb=>?_,q⟩;have e:b=s1.heap.objs.size:=by simpa using hb
 subst e;exact I1.fpOk (yo _) (I1.hok.fresh (yo _))
def zhj(x:yg):List D:=x.cps.toList.map λc =>.str ⟨#[c]⟩
@[simp] def zDt(G:FE):FI:=λJ O=>(G J O).bind λp=>match p.1 with
 |.str x=>bif x.cps.all (· < 128) then some (zhj x,yes,p.2) else none
 |_=>none
def zgs{tg a:yt}(h:ME X a G):MI X tg a (zDt G) :=
 zop (zBs h) λZ J O Y H ds ok O' R A e k=>by
  obtain⟨⟨x,O1⟩,e1,e⟩:=ze e;refine⟨Z,J,O,x,O1,A,e1,λZ1 H1 v1 x1 R1 r1=>?_⟩;dsimp only at e
  split at e
  ·rename_i z
   obtain⟨h1,e⟩:=zK e;cases e;refine⟨z,r1.str_inv,h1,k Z1 H1 _ x1 R1 ⟨λZ' H' O' i _ _ _ h=>by show i<z.cps.size;simpa[zhj] using h,λZ' H' O' i x H'' d _ RR _ e ⟨y1,c,y2,y3⟩=>⟨y1▸Ext.refl,y1▸RR,?_⟩,λZ' H' O' _ _ _=>by simp[Its,zhj]⟩⟩;rw[y3];unfold zhj at e;rw[yO,Array.getElem?_toList,y2]at e;cases e;exact .str
  ·cases e
end
end M
namespace M
open PySem PySem.Spec PySem.Builtin PySem.Builtin.Str PyProof.Rows L2
section
variable {X:Cx}{a b e:yt}{es:List yt}{G ψ:FE}{pos:YD}
end
end M
namespace M
open PySem PySem.Spec PySem.Builtin PySem.Builtin.Str PyProof.Rows L2
section
variable {X:Cx}{a b e:yt}{es:List yt}{G ψ:FE}{pos:YD}
end
end M
namespace M
open PySem PySem.Spec PySem.Builtin PySem.Builtin.Str PyProof.Rows L2
section
variable {X:Cx}
variable {prog:yu}{w:yI}{A:yF}{E:ya->yb->Prop}{s:yb}{l:yc}
end
end M
namespace M
open PySem PySem.Spec PyProof.Rows L2
section
variable {prog:yu}{w:yI}{A:yF}{R:Result->yb->Prop}{I:yc}{fp wr:List yc}{n:Nat}{P:Nat->ya->Prop}{St:Nat->yS->Prop}
variable {E:ya->yb->Prop}{s:yb}
variable {P:yu}{K:yr}{mg:yg->Option ya}{base:yS}{x qual:yg}{st:yQ}{f:yc}{fd:yf}{N ps:List yg}{k:Nat}
variable {X:Cx}{e:yt}{es:List yt}{G ψ:FE}{pos:YD}
section
variable {K:yr}{Z:List yc}{H H':Hp}
end
variable {o:yt}{ψ:FA}{apos:YD}{c m:yg}{C g:yc}{j:Nat}{FXm:FX}
end
end M
namespace L2
open PySem PySem.Spec PyProof.Rows
def Tbk(e:yc)(h:yS):Prop:=∃oe vs T,h.get? e=some oe/\oe.data=.fields vs/\vs[1]?=some (.ref T)
section
variable {M:Model}{A:yF}{E:ya->yb->Prop}{s:yb}{B:yS}{l outer:List Env}{env:Env}{e L:yc}{cls:ya}{dx:Option yc}{Q:Unit->yb->Prop}
def z4l{fo:Option yc}(F:Fly B l e cls dx s.heap)(h:∀h',Fly B l e cls dx h'->s.heap.UpToSlots h'->Q () {s with heap:=h' }):yw M A (setFlight (.ref e) fo) Q E s:=by
 obtain⟨oe,vs,x,he,hc,hx,hd,h1,tr⟩:=F.ob;unfold setFlight;refine yh (YX he hd h1 ?_);rcases tr with rfl|⟨T,oT,ts,y,rfl,hb,hne,hT,hdT,h3⟩
 ·rw[if_neg (by decide)];exact yy (h _ F (.refl _))
 ·rw[if_pos (show(yZ T != Yk)=true from by simp)];have h3':=(Array.getElem?_eq_some_iff.mp h3).1;refine xt hT hdT h3' ?_
  obtain⟨F',u⟩:=F.recW hb hT hdT (·.setIfInBounds 3 (fo.elim Yk λf=>rawInt f))
   ⟨oe,vs,_,(yP _ _ hne).trans he,hc,hx,hd,h1,.inr ⟨T,_,_,fo.elim Yk λf=>rawInt f,rfl,hb,hne,Yl _ hT (Ys (Yc hdT _)),Yc hdT _,by simp[h3']⟩⟩
  exact h _ F' u
def zjo{head:ya}{hadNext:Bool}(hfr:A.frames=some (env::outer))(hf:env.frame=some L)(F:Fly B (env::outer) e cls dx s.heap)(h:∀h',Fly B (env::outer) e cls dx h'->s.heap.UpToSlots h'->Tbk e h'->Q () {s with heap:=h' }) :
 yw M A (do let a <-frameOf env;let pl <-entryPlaceOf L hadNext;let b <-EntryCells.newEntry head a .none (rawInt L) .none pl;setField (.ref e) 1 b) Q E s:=by
 obtain⟨oe,vs,x,he,hc,hx,hd,h1,tr⟩:=F.ob;have hl:=F.ff
 have hene:e∉(env::outer).filterMap (·.frame):=λhm=>by
  obtain⟨_,o,ho,hnf⟩:=hl.mem hm;rw[he]at ho;cases ho;exact hnf vs hd
 refine yh (wpAny_frameOf_fun hfr hl hf λh₁ hs=>?_);refine yh (wpAny_entryPlaceOf λpl hpl=>?_);unfold EntryCells.newEntry newFields;refine yh (Yq ?_ (hpl.sizeOk5 _ _ _ _ _));generalize hts:([head,yZ L,Yk,rawInt L,Yk]++(if pl.isEmpty=true then yl 6 Yk else pl))=ts;have hts3:ts.toArray[3]?=some (rawInt L):=by rw[<-hts];simp
 have he₁:h₁.get? e=some oe:=(hs.2.1 e hene).trans he;have hn:h₁.objs.size≠e:=YF (ym he₁);have kb:B.StaysIn h₁:=λb o q=>(hs.2.1 b λhm=>by rw[(hl.mem hm).1]at q;cases q).trans (F.st b o q);have he₂:=yk (h:=h₁) {cls:=.type "traceback",dict:=none,data:=.fields ts.toArray } he₁;have hd₃:=Yc hd (·.setIfInBounds 1 (yZ h₁.objs.size));refine xt he₂ hd (Array.getElem?_eq_some_iff.mp h1).1 (h _ ?_ ?_ ⟨_,_,h₁.objs.size,Yl _ he₂ (Ys hd₃),hd₃,by simp[(Array.getElem?_eq_some_iff.mp h1).1]⟩)
 all_goals
  have keep:∀b o,b≠e->h₁.get? b=some o->((h₁.push {cls:=.type "traceback",dict:=none,data:=.fields ts.toArray }).update e (YS (·.setIfInBounds 1 (yZ h₁.objs.size)))).get? b=some o:=λb o hbe hb=>by
   rw[yP _ _ (Yg hbe)];exact yk _ hb
  have noR:∀b o,s.heap.get? b=some o->(∀vs,o.data≠.fields vs)->b≠e:=λb o q hn z=>by
   rw[z,he]at q;cases q;exact hn vs hd
 ·refine⟨λb o q=>keep b o (λz=>by rw[z,F.new]at q;cases q) (kb b o q),F.new,hl.of_keeps λb o q hn=>?_,?_⟩
  ·obtain⟨sl,z⟩:=hs.2.2 b o q;exact⟨_,keep b _ (noR b o q hn) z,rfl⟩
  ·refine⟨_,_,_,Yl _ he₂ (Ys hd₃),(Obj.cls_mapFields _ _).trans hc,(zpg _ _).trans hx,hd₃,by simp[(Array.getElem?_eq_some_iff.mp h1).1],.inr ⟨h₁.objs.size,{cls:=.type "traceback",dict:=none,data:=.fields ts.toArray },ts.toArray,rawInt L,rfl,kb.fresh,hn,?_,rfl,hts3⟩⟩;exact(yP _ _ (Yg hn)).trans (yC h₁ rfl)
 ·intro b o q hn;obtain⟨sl,z⟩:=hs.2.2 b o q;exact⟨sl,keep b _ (noR b o q hn) z⟩
def ztl(hfr:A.frames=some (env::outer))(hf:env.frame=some L)(F:Fly B (env::outer) e cls dx s.heap)(h:∀h',Fly B (env::outer) e cls dx h'->s.heap.UpToSlots h'->Tbk e h'->Q () {s with heap:=h' }) :
 yw M A (noteFrame (.ref e) env) Q E s:=by
 obtain⟨oe,vs,x,he,hc,hx,hd,h1,tr⟩:=F.ob;unfold noteFrame;simp only[hf];refine yh (YX he hd h1 ?_);rcases tr with rfl|⟨T,oT,ts,y,rfl,hb,hne,hT,hdT,h3⟩
 ·rw[if_neg (by decide)];exact zjo hfr hf F h
 ·rw[if_pos (show(yZ T != Yk)=true from by simp)];refine yh (YX hT hdT h3 ?_)
  by_cases hy:(y==rawInt L)=true
  ·rw[if_pos hy];exact yy (h _ F (.refl _) ⟨oe,vs,T,he,hd,h1⟩)
  ·rw[if_neg hy];have h3':=(Array.getElem?_eq_some_iff.mp h3).1;refine yh (xt hT hdT h3' ?_)
   obtain⟨F',u⟩:=F.recW hb hT hdT (·.setIfInBounds 3 Yk)
    ⟨oe,vs,_,(yP _ _ hne).trans he,hc,hx,hd,h1,.inr ⟨T,_,_,.none,rfl,hb,hne,Yl _ hT (Ys (Yc hdT _)),Yc hdT _,by simp[h3']⟩⟩
   exact zjo hfr hf F' λh' F'' u'=>h h' F'' (u.trans u')
def zdp{α:Type}{what:String}{cenv:Env}{Q:α->yb->Prop}(F:Fly B l e cls dx s.heap)(t:Tbk e s.heap)(h:∀h',Fly B l e cls dx h'->s.heap.UpToSlots h'->E (.ref e) {s with heap:=h' }):yw M A (PySem.passOn what (.ref e) cenv:Sem α) Q E s:=by
 obtain⟨oe,vs,T,he,hd,h1⟩:=t;unfold PySem.passOn;refine yh (YX he hd h1 ?_);rw[if_neg (show ¬((yZ T==Yk)=true) from yR)];exact yh (z4l F λh' F' u=>wpAny_throw (h h' F' u))
def zyn{h h' B:yS}{C:yc}(sb:Heap.SameBut C h h'):∀{l:List Env},h.FunFrames B l->C∉frs l->h'.FunFrames (YA B [C]) l
 |[],_,_=>trivial
 |env::l,⟨hk,⟨L,o,hf,hn,ho,hd⟩,hr⟩,hc=>by
  have hL:L≠C:=λz=>hc (by unfold frs;rw[filterMap_cons,hf,z];exact mem_cons_self);refine⟨hk,⟨L,o,hf,?_,(sb.2 L hL).trans ho,hd⟩,zyn sb hr λz=>hc ?_⟩
  ·cases q:(YA B [C]).get? L with
   |none=>rfl
   |some u=>rw[W.of_hideAll _ q]at hn;cases hn
  ·unfold frs at z ⊢;rw[filterMap_cons,hf];exact mem_cons_of_mem _ z
def hid{h:yS}{C b:yc}{o:Yw}(q:(YA h [C]).get? b=some o):b≠C/\h.get? b=some o:=by
 refine⟨λz=>?_,W.of_hideAll _ q⟩;rw[z,W.hideAll_none _ (by simp)]at q;cases q
def zdo{h:yS}{C b:yc}{o:Yw}(q:h.get? b=some o)(hb:b≠C):(YA h [C]).get? b=some o:=W.hideAll_get _ q (by simpa using hb)
end
end L2
namespace M
open PySem PySem.Spec PyProof.Rows L2
abbrev cxX(X:Cx)(own:List yg)(fr:List Nat)(scope:YZ)(cl:List (yg×yc))(C:yc)(s₀:yb)(H₀:Hp)(fp:List yc)(XE:ya->yb->Prop):Cx:={cxC X own fr scope cl C s₀ H₀ fp with xe:=XE }
section
variable {X:Cx}{own:List yg}{fr:List Nat}{scope:YZ}
def zoo{U:List (yc×Yw)}{Y:L2.St}{H2:Hp}{s2:yb}{fp:List yc}{cl:List (yg×yc)}{C:yc}{use:Option (ya->Sem Unit)}{Q:ya->yb->Prop}{acc:ya}(I2:Inv X U Y H2 s2)(f2:∀b∈fp,z5o X U H2 b)(hC:s2.heap.objs.size<=C)(hst:X.stack=X.env::X.outer)(hfm:X.env.frame=some X.env.locals)
 {K:ya} {dx:Option yc} {H':Hp} (hw:zXc X K dx H'):zXc (cxX X own fr scope cl C s2 H2 fp λe s'=>notedBy (yz X.prog X.w) X.A (compEnvC scope cl C X.env) (λe s''=>compPost (yz X.prog X.w) X.A X.xe use Q acc C (.error e) s'') e s') K dx H':=by
 intro sV Y' H s e s' I F;obtain⟨a,B,rfl,fl,cov⟩:=F.fly;have hfr:X.A.frames=some (X.env::X.outer):=by rw[<-hst];exact I2.ok.frames
 have fl:Fly B (X.env::X.outer) a K dx s'.heap:=by rw[<-hst];exact fl
 show yw _ X.A (noteFrame (.ref a) X.env) _ _ s';refine ztl hfr hfm fl λh1 fl1 sm1 tb1=>?_;have flA:Fly B X.stack a K dx s'.heap:=by rw[hst];exact fl
 have flB:Fly B X.stack a K dx h1:=by rw[hst];exact fl1
 have δ:=I.fly (t':=s'.toks) (d':=s'.drawn) F cov flA.st flB.st sm1;obtain⟨m,hm,_⟩:=id δ.loc;have hm:h1.Ns C m:=hm;have hCf:C∉frs X.stack:=zci I2 (YF (yp I2.lt hC)) (I2.nofs hC);have hHC:H' C=none:=δ.free;have hHC0:H C=none:=I.free
 have hBC:∃u,B.get? C=some u:=by
  obtain⟨m0,⟨o,_,_,ho,_⟩,_⟩:=id I.loc;exact cov.old C o ho hCf
 obtain⟨uC,hBC⟩:=hBC
 have hac:a≠C:=λz=>by
  have:=fl.new;rw[z,hBC]at this;cases this
 refine⟨m,hm,λh2 sb cenv hcl=>?_⟩
 have fl2:Fly (YA B [C]) X.stack a K dx h2:=by
  refine⟨λb o q=>?_,?_,zyn sb flB.ff hCf,?_⟩
  ·obtain⟨hb,q⟩:=hid q;exact(sb.2 b hb).trans (flB.st b o q)
  ·cases q:(YA B [C]).get? a with
   |none=>rfl
   |some u=>
    have:=(hid q).2;rw[flB.new]at this;cases this
  ·obtain⟨oe,vs,x,he,hc,hx,hd,h1',tr⟩:=flB.ob;refine⟨oe,vs,x,(sb.2 a hac).trans he,hc,hx,hd,h1',?_⟩;rcases tr with rfl|⟨T,oT,ts,y,rfl,hb,hne,hT,hdT,h3⟩
   ·exact .inl rfl
   ·have hTC:T≠C:=λz=>by rw[z,hBC]at hb;cases hb
    refine .inr ⟨T,oT,ts,y,rfl,?_,hne,(sb.2 T hTC).trans hT,hdT,h3⟩
    cases q:(YA B [C]).get? T with
    |none=>rfl
    |some u=>rw[(hid q).2]at hb;cases hb
 have tb2:Tbk a h2:=by
  obtain⟨oe,vs,T,he,hd,h1'⟩:=tb1;exact⟨oe,vs,T,(sb.2 a hac).trans he,hd,h1'⟩
 refine zdp (s:={s' with heap:=h2 }) fl2 tb2 λh3 fl3 sm3=>?_;have u0:Un (frs X.stack) fp H2 H s2.heap s.heap:=I.base
 have Is:Inv X U Y H s:=I2.sW (s':=s) (ch:=fp) I.os u0 I.hok I.bare λb hb=>by
  obtain⟨_,f2,f3,f4,f5,f6⟩:=f2 b hb;exact⟨f4,f2,f5,f6⟩
 have I0:Inv X U Y H {s with heap:=YA s.heap [C]}:=by
  refine Is.turned (t':=s.toks) (it:=C) (λb o hb q=>zdo q hb) hHC0 (YF (yp I2.lt hC)) (.inr (yq I2.sz hC)) (λx c e z=>?_) (λp hp z=>?_)
  ·obtain⟨v,o,ho,_⟩:=I2.cell x c e;rw[z]at ho;exact absurd (yp (ym ho) hC) (Yh _)
  ·have:=ym (I2.pin p hp).1;rw[z]at this;exact absurd (yp this hC) (Yh _)
 have u1:Un (frs X.stack) [] H H' s.heap h1:=zLi F.un cov flA.st flB.st sm1 I.stack I.Te
 have us:Un (frs X.stack) [] H H' (YA s.heap [C]) h2:=by
  refine⟨λb o q n hb hx=>?_,λb o q n hb hx=>?_,λb o q n hx=>u1.free b o (hid q).2 n hx,λb o q hx=>?_,u1.tups,u1.Tp,u1.Tq⟩
  ·obtain⟨hbC,q⟩:=hid q;exact(sb.2 b hbC).trans (u1.keep b o q n hb hx)
  ·obtain⟨hbC,q⟩:=hid q;obtain⟨sl,z⟩:=u1.slot b o q n hb hx;exact⟨sl,(sb.2 b hbC).trans z⟩
  ·obtain⟨hbC,q⟩:=hid q;obtain⟨o',z⟩:=u1.there b o q hx;exact⟨o',(sb.2 b hbC).trans z⟩
 have covs:Cov X.stack H' (YA s.heap [C]) (YA B [C]):=by
  refine⟨λb o q=>?_,λb o q hb=>?_⟩
  ·obtain⟨u,hu⟩:=cov.tr b o q;exact⟨u,zdo hu λz=>by rw[z,hHC]at q;cases q⟩
  ·obtain⟨hbC,q⟩:=hid q;obtain⟨u,hu⟩:=cov.old b o q hb;exact⟨u,zdo hu hbC⟩
 have hk2:HOk X.prog X.w H' h2:=HOk.sameBut δ.hok hHC sb;exact hw U Y H {s with heap:=YA s.heap [C]} _ _ I0 ⟨F.os,F.bare,zLi us covs fl2.st fl3.st sm3 I0.stack I0.Te,zSh hk2 covs fl2.st fl3.st,a,_,rfl,fl3,covs⟩
def z3j{prog:yu}{w:yI}{A:yF}{R:Result->yb->Prop}{s:yb}{elt target iter:yt}{ifs:List yt}{scope:YZ}{pos:YD}{it acc:ya}{env:Env}{XE:ya->yb->Prop}(hX:∀e s',XE e s'->notedBy (yz prog w) A env (λe s''=>R (.error e) s'') e s')(I:Nat->yb->Prop)
 (turn:∀n s,I n s->yw (yz prog w) A (pyNext it) (λr s₁=>match r with
  |none=>R (.ok .next) s₁
  |some v=>yw (yz prog w) A (letOwnedTupleGo target it v) (λ_ s₁'=>yw (yz prog w) A (assign target env v) (λ_ s₂=>
   yw (yz prog w) A (forIn ifs true λc r=>if r=true then do let ok <-isTrue c env (Yi c env);pure (Yn ok) else pure (Yn r)) (λok s₃=>
    if ok=true then yw (yz prog w) A (Yi elt env) (λx s₄=>
     yw (yz prog w) A (call (.builtin "list.append") [acc,x]) (λ_ s₅=>∃m,m<n/\I m s₅) (λ_ _=>False) s₄) XE s₃
    else ∃m,m<n/\I m s₃) XE s₂) XE s₁') (λ_ _=>False) s₁) (λ_ _=>False) s)
 (n:Nat) (h:I n s) :
 codeAny (yz prog w) A (.compLoop (.ListComp elt [⟨target,iter,ifs,0⟩] scope pos) 0 it acc env) R s:=by
 refine codeAny_loop rfl I (λn s hI=>?_) n h;show yw _ A ((compTurn (.ListComp elt [⟨target,iter,ifs,0⟩] scope pos) 0 it acc env).onRaise (λx=>do noteFrame x env;theTreesLotGoes x)) _ _ s;refine wpAny_noted ?_;rw[compTurn_list];refine yh (wpAny_standAt (yh (yX (turn n s hI) (λr s₁ h₁=>?_) λ_ _ h'=>h'.elim)))
 cases r with
 |none=>exact yy h₁
 |some v=>
  refine yh (yX h₁ (λ_ s₁' h₁=>?_) λ_ _ h'=>h'.elim);refine yh (yX h₁ (λ_ s₂ h₂=>yh (yX h₂ (λok s₃ h₃=>?_) λe s h'=>hX e s h')) λe s h'=>hX e s h')
  cases ok with
  |false=>exact yy ⟨rfl,h₃⟩
  |true=>
   exact yh (yh (yX h₃ (λx s₄ h₄=>yh (yX h₄ (λ_ s₅ h₅=>yy (yy ⟨rfl,h₅⟩)) λ_ _ h'=>h'.elim)) λe s h'=>hX e s h'))
end
def _root_.L2.Inv.xe{X:Cx}{U:List (yc×Yw)}{Y:L2.St}{H:Hp}{s:yb}(I:Inv X U Y H s)(XE:ya->yb->Prop):Inv {X with xe:=XE } U Y H s :=
 ⟨⟨I.ok.mod,I.ok.kind,I.ok.glob,I.ok.blt,I.ok.above,I.ok.inj,I.ok.has,I.ok.cab,I.ok.hd,I.ok.frames,I.ok.stk,I.ok.exf,I.ok.bs,I.ok.bsz,I.ok.sC,I.ok.sL,I.ok.Tx,I.ok.frf⟩,I.os,I.bare,I.base,I.loc,I.cell,I.free,I.freeC,I.pin,I.hok,I.len⟩
section
variable {X:Cx}{own:List yg}{fr:List Nat}{scope:YZ}
def zlp{elt tg iter:yt}{ifs:List yt}{pos:YD}{g:TG}{tc:TT}{te:TE}{U:List (yc×Yw)}{Y:L2.St}{s2:yb}{Qn:List V->Hp->Prop}{itv:ya}{use:Option (ya->Sem Unit)}{QQ:ya->yb->Prop}(own:List yg)(fr:List Nat)(hc:X.calm=true)(hst:X.stack=X.env::X.outer)(hfm:X.env.frame=some X.env.locals)
 (hg:∀cl C s₀ H₀ fp XE,PG (cxX X own fr scope cl C s₀ H₀ fp XE) tg g) (hq:∀cl C s₀ H₀ fp XE,PF (cxX X own fr scope cl C s₀ H₀ fp XE) ifs tc) (he:∀cl C s₀ H₀ fp XE,(∀K dx H',zXc X K dx H'->zXc (cxX X own fr scope cl C s₀ H₀ fp XE) K dx H')->PE (cxX X own fr scope cl C s₀ H₀ fp XE) elt te)
 (hk:scope.kind=.function) (hnm:∀y∈scope.names,scope.names.lookup y.1=some y.2)
 (hfree:∀x∈scope.names,x.2=.free->(X.env.kindOf x.1=some .cell\/X.env.kindOf x.1=some .free)) (hfr:∀i∈fr,∃x,X.N[i]?=some x/\scope.names.lookup x=some .free)
 (h2:PIE X U Y tg (λδ H1=>∃W:Nat->Nat->List V->Hp->Prop,(∃m,W 0 m [] H1)/\∀i m ys H,W i m ys H ->
  (δ.stop i H/\Qn ys H)\/(δ.go i H/\ys.length<yB/\∀x H',δ.yld i H x H'->g x (σC own.length fr Y) H' λY2 H2=>zWp (σC own.length fr Y) Y2/\tc Y2 H2 λb H3=>
   if b=true then te Y2 H3 λy H4=>∃m',m'<m/\W (i+1) m' (ys++[y]) H4 else ∃m',m'<m/\W (i+1) m' ys H3)) itv s2)
 (fin:∀ys H D C s4,Qn ys H->TX X U Y H ys D C s4->compPost (yz X.prog X.w) X.A X.xe use QQ (.ref D) C (.ok .next) s4) :
 yw (yz X.prog X.w) X.A (newList []) (λacc s₃=>yw (yz X.prog X.w) X.A (newFunctionEnv scope X.env.globals (zcb X.env.cells scope.names []) [] X.env.qual none .none (some X.env)) (λcenv s₄=>
  codeAny (yz X.prog X.w) X.A (.compStart (.ListComp elt [⟨tg,iter,ifs,0⟩] scope pos) 0 itv acc {cenv with scope:=relabel scope X.env }) (compPost (yz X.prog X.w) X.A X.xe use QQ acc cenv.locals) s₄) X.xe s₃) X.xe s2:=by
 obtain⟨it,fp,tn,δ,H2,e,I2,T,st2,f2,W,⟨m0,w0⟩,turn⟩:=h2;subst e
 have hfl:∀b∈fp,b<s2.heap.objs.size:=λb hb=>by
  obtain⟨o,e,_⟩:=T.obj _ _ st2 b hb;exact ym e
 refine Yq (sJ ?_);dsimp only;generalize hH2:s2.heap.push {cls:=.type "list",dict:=none,data:=.seq ([]:List ya).toArray } = φ2;have hC:φ2.objs.size=s2.heap.objs.size+1:=by rw[<-hH2,xg]
 have hDC:s2.heap.objs.size≠φ2.objs.size:=by rw[hC];exact yJ (xw _)
 have hCle:s2.heap.objs.size<=φ2.objs.size:=by rw[hC];exact Nat.le_succ _
 have below:∀b,b<s2.heap.objs.size->b≠φ2.objs.size/\b≠s2.heap.objs.size:=λb hb=>⟨by rw[hC];exact yJ (Nat.lt_succ_of_lt hb),yJ hb⟩
 have hns₁:(pushCells (φ2.push {cls:=.type "dict",data:=.dict #[]}) scope.names).Ns φ2.objs.size (λ_=>none):=(Heap.Ns.new φ2 (.type "dict")).keeps λb o e=>pushCells_keeps _ _ _ _ e
 have hok₁:CellsOk (pushCells (φ2.push {cls:=.type "dict",data:=.dict #[]}) scope.names) (φ2.objs.size+1) (yL (φ2.objs.size+1) scope.names []):=by
  have:=cellsFrom_ok scope.names (φ2.push {cls:=.type "dict",data:=.dict #[]}) (φ2.objs.size+1) [] ⟨λ_ _ hm=>(nomatch hm),List.Pairwise.nil⟩ (by rw[xg];exact yo _);rw[xg]at this;exact this
 have hk₁:∀b o,φ2.get? b=some o->(pushCells (φ2.push {cls:=.type "dict",data:=.dict #[]}) scope.names).get? b=some o:=λb o e=>pushCells_keeps _ _ _ _ (yk _ e);generalize pushCells (φ2.push {cls:=.type "dict",data:=.dict #[]}) scope.names=h₁ at hns₁ hok₁ hk₁ ⊢;have old:∀b o,s2.heap.get? b=some o->h₁.get? b=some o:=λb o e=>hk₁ b o (hH2▸yk _ e);have hacc:h₁.get? s2.heap.objs.size=some {cls:=.type "list",data:=.seq ([]:List ya).toArray 0 }:=hk₁ _ _ (hH2▸yC _ rfl);have hwc:∀K dx H',zXc X K dx H'->zXc (cxX X own fr scope (yL (φ2.objs.size+1) scope.names (zcb X.env.cells scope.names [])) φ2.objs.size s2 H2 fp λe s'=>notedBy (yz X.prog X.w) X.A (compEnvC scope (yL (φ2.objs.size+1) scope.names (zcb X.env.cells scope.names [])) φ2.objs.size X.env) (λe s''=>compPost (yz X.prog X.w) X.A X.xe use QQ (.ref s2.heap.objs.size) φ2.objs.size (.error e) s'') e s') K dx H':=λK dx H' hw=>zoo I2 f2 hCle hst hfm hw;generalize hXE:(λe s'=>notedBy (yz X.prog X.w) X.A (compEnvC scope (yL (φ2.objs.size+1) scope.names (zcb X.env.cells scope.names [])) φ2.objs.size X.env) (λe s''=>compPost (yz X.prog X.w) X.A X.xe use QQ (.ref s2.heap.objs.size) φ2.objs.size (.error e) s'') e s')=XE at hwc;have he0:=he _ _ _ _ _ XE hwc;generalize hXC:cxX X own fr scope (yL (φ2.objs.size+1) scope.names (zcb X.env.cells scope.names [])) φ2.objs.size s2 H2 fp XE=XC at he0;have eenv:compEnvC scope (yL (φ2.objs.size+1) scope.names (zcb X.env.cells scope.names [])) φ2.objs.size X.env=XC.env:=by rw[<-hXC];rfl
 have eprog:XC.prog=X.prog:=by rw[<-hXC];rfl
 have ew:XC.w=X.w:=by rw[<-hXC];rfl
 have eA:XC.A=X.A:=by rw[<-hXC];rfl
 have eK:XC.K=X.K:=by rw[<-hXC];rfl
 have ecalm:XC.calm=true:=by rw[<-hXC];exact hc
 have exe:XC.xe=XE:=by rw[<-hXC]
 have eloc:XC.env.locals=φ2.objs.size:=by rw[<-hXC];rfl
 have eex:XC.ex=fp:=by rw[<-hXC];rfl
 have efs:XC.fs=frs X.stack:=by rw[<-hXC];rfl
 have es0:XC.s₀=s2:=by rw[<-hXC];rfl
 have eH0:XC.H₀=H2:=by rw[<-hXC];rfl
 have epn:XC.pn=X.pn:=by rw[<-hXC];rfl
 have ecells:∀x c,XC.env.cells.lookup x=some c->X.env.cells.lookup x=some c\/φ2.objs.size<c:=λx c e=>by
  rw[<-hXC]at e;rcases zdk (show(yL (φ2.objs.size+1) scope.names (zcb X.env.cells scope.names [])).lookup x=some c from e) with q|⟨_,q⟩
  ·exact .inr (zai _ _ _ _ (yM q)).1
  ·rcases zMh _ _ q with q|q
   ·cases q
   ·exact .inl q
 have hg':PG XC tg g:=hXC▸hg _ _ _ _ _ XE;have hq':PF XC ifs tc:=hXC▸hq _ _ _ _ _ XE;have he':PE XC elt te:=he0
 have fpok:∀{H':Hp} {pl:List (yc×Yw)},(∀b∈fp,H' b=none)->(∀p∈pl,p.1=s2.heap.objs.size)->∀b∈fp,z5o XC (U++pl) H' b:=λ{H' pl} hn hpl b hb=>by
  obtain⟨_,f2,f3,f4,f5,f6⟩:=f2 b hb;refine⟨hn b hb,by rw[eloc];exact(below b (hfl b hb)).1,by rw[efs];exact zci I2 f2 f3,.inl (by rw[eex];exact hb),λx c e=>?c5,λp hp=>?_⟩
  case c5=>
   rcases ecells x c e with q|q
   ·exact f5 x c q
   ·exact YF (yp (hfl b hb) (yq hCle (YO q)))
  rw[epn,<-append_assoc]at hp;rcases List.mem_append.mp hp with hp|hp
  ·exact f6 p hp
  ·rw[hpl p hp];exact Yg (below b (hfl b hb)).2
 have loop:∀s₃:yb,s₃ = {s2 with heap:=h₁ } ->
  codeAny (yz X.prog X.w) X.A (.compLoop (.ListComp elt [⟨tg,iter,ifs,0⟩] scope pos) 0 (.ref it) (.ref s2.heap.objs.size) (compEnvC scope (yL (φ2.objs.size+1) scope.names (zcb X.env.cells scope.names [])) φ2.objs.size X.env))
   (compPost (yz X.prog X.w) X.A X.xe use QQ (.ref s2.heap.objs.size) φ2.objs.size) s₃:=by
  rintro s₃ rfl;have I0:=z8l (own:=own) (fr:=fr) (t:=s2.toks) (lo:=φ2.objs.size+1) I2 f2 hfl hk hnm hfree hfr (xw _) hok₁ old (yo _) hCle hDC (Nat.lt_succ_of_le hCle) hacc (by intro v z;cases z) hns₁;have I0:=I0.xe XE;rw[show{cxC X own fr scope (yL (φ2.objs.size+1) scope.names (zcb X.env.cells scope.names [])) φ2.objs.size s2 H2 fp with xe:=XE } = XC from hXC]at I0
  refine z3j (XE:=XE) (λe s' h=>by rw[<-hXE]at h;exact h) (λn s'=>∃(i:Nat)(ys:List V)(its:Array ya)(k:Nat)(H':Hp),Inv XC (U++[(s2.heap.objs.size,({cls:=.type "list",data:=.seq its k }:Yw))]) (σC own.length fr Y) H' s'/\Vals ys its.toList/\ys.length<=yB/\tn i s'.heap/\(∀b∈fp,H' b=none)/\W i n ys H') ?_ m0
   ⟨0,[],#[],0,H2,I0,.nil,Yv _,T.keep _ _ _ st2 (λb hb o e=>old b o e),λb hb=>(f2 b hb).1,w0⟩
  rintro n s3 ⟨i,ys,its,kk,H3,I3,rv,hz,st3,fr3,w3⟩
  have pl1:∀p∈[(s2.heap.objs.size,({cls:=.type "list",data:=.seq its kk }:Yw))],p.1=s2.heap.objs.size:=λp hp=>by
   rw[List.mem_singleton.mp hp]
  rcases turn i n ys H3 w3 with ⟨stop,qn⟩|⟨go,hlt,step⟩
  ·have td:=T.done XC eprog ew eK ecalm i _ s3 _ H3 (λ_ _=>False) I3 (fpok fr3 pl1) st3 stop;rw[eA]at td;refine thn td λr s4 ⟨hr,I4⟩=>?_;subst hr;obtain⟨m,hn,_⟩:=id I4.loc;rw[eloc]at hn;obtain⟨p1,p2,p3,p4,p5⟩:=I4.pin (s2.heap.objs.size,_) (mem_append_right _ (mem_append_right _ mem_cons_self));have hnC:H3 φ2.objs.size=none:=by have:=I4.free;rw[eloc]at this;exact this
   have hokf:HOk X.prog X.w (upd H3 s2.heap.objs.size (.lst ys)) s4.heap:=by
    refine HOk.sI (by have:=I4.hok;rw[eprog,ew]at this;exact this) p2 ⟨hz,its.toList,kk,rv,by simpa using p1⟩
   have u0:Un (frs X.stack) fp H2 H3 s2.heap s4.heap:=by
    have:=I4.base;rw[efs,eex,es0,eH0]at this;exact this
   have u1:Un (frs X.stack) fp H2 (upd H3 s2.heap.objs.size (.lst ys)) s2.heap s4.heap:=by
    have bd:∀b o,s2.heap.get? b=some o->b≠s2.heap.objs.size:=λb o e=>(below b (ym e)).2;refine⟨u0.keep,u0.slot,λb o e n hx=>by rw[zO (bd b o e)];exact u0.free b o e n hx,u0.there,λb xs e=>?_,λb o u e=>?_,λb ps e=>?_⟩
    ·have q:=u0.tups b xs e;rw[zO (zy q p2)];exact q
    ·have q:=u0.Tp b o u e;rw[zO (zy q p2)];exact q
    ·obtain⟨more,q⟩:=u0.Tq b ps e;exact⟨more,by rw[zO (zy q p2)];exact q⟩
   have os4:s4.os=s2.os:=by have:=I4.os;rw[es0]at this;exact this
   have IF:Inv X U Y (upd H3 s2.heap.objs.size (.lst ys)) {s2 with heap:=s4.heap,gens:=s4.gens,drawn:=s4.drawn,toks:=s4.toks } :=
    I2.call (h':=s4.heap) (ch:=fp) u1 hokf I4.bare λb hb=>by
     obtain⟨_,f2,f3,f4,f5,f6⟩:=f2 b hb;exact⟨f4,f2,f5,f6⟩
   have es:s4 = {s2 with heap:=s4.heap,gens:=s4.gens,drawn:=s4.drawn,toks:=s4.toks }:=by
    obtain⟨a1,a2,a3,a4,a5⟩:=s4;have:a5=s2.os:=os4;subst this;rfl
   rw[<-es]at IF;refine fin ys H3 _ _ s4 qn ⟨IF,p2,by rw[zO (Yg hDC)];exact hnC,⟨m,hn⟩,Yg (below _ I2.lt).1,yq I2.sz hCle,λx c e=>?_,λp hp=>?_⟩
   ·obtain⟨v,o,ho,_⟩:=I2.cell x c e;exact(below c (ym ho)).1
   ·exact(below p.1 (ym (I2.pin p hp).1)).1
  ·have td:=T.item XC eprog ew eK ecalm i _ s3 _ H3 (λ_ _=>False) I3 (fpok fr3 pl1) st3 go;rw[eA]at td;refine thn td λr s4 ⟨u,hr,h4⟩=>?_;subst hr;refine thn h4 λ_ s5 ⟨x,H5,I5,r5,y5,st5,fr5⟩=>?_;have I5':=I5.pinned (fpok fr5 pl1) (T.obj _ _ st5);have hgw:=hg' _ s5 _ H5 x u _ I5' r5 (step x H5 y5);rw[exe,eprog,ew,eA]at hgw;rw[eenv];refine thn hgw λ_ s6 ⟨Y6,H6,I6,⟨hsl,hsub⟩,q6⟩=>?_;have hqw:=hq' _ s6 Y6 H6 _ I6 q6;rw[exe,eprog,ew,eA]at hqw;refine thn hqw λok s7 ⟨H7,I7,q7⟩=>?_
   have back:∀{H8:Hp} {s8:yb},Inv XC (U++[(s2.heap.objs.size,({cls:=.type "list",data:=.seq its kk }:Yw))]++zCj fp s5.heap) Y6 H8 s8 ->
    Inv XC (U++[(s2.heap.objs.size,({cls:=.type "list",data:=.seq its kk }:Yw))]) (σC own.length fr Y) H8 s8/\tn (i+1) s8.heap/\∀b∈fp,H8 b=none:=λ{H8 s8} I8=>by
    refine⟨I8.Tc.weak hsl.symm hsub,T.keep _ _ _ st5 λb hb o e=>(I8.pin (b,o) (mem_append_right _ (mem_append_right _ (zId hb e)))).1,λb hb=>?_⟩;obtain⟨o,e,d⟩:=T.obj _ _ st5 b hb;exact(I8.pin (b,o) (mem_append_right _ (mem_append_right _ (zId hb e)))).2.1
   cases ok with
   |false=>
    have q7':∃m',m'<n/\W (i+1) m' ys H7:=by simpa using q7
    rw[if_neg yR];obtain⟨m',hm,w7⟩:=q7';obtain⟨δ1,δ2,δ3⟩:=back I7;exact⟨m',hm,i+1,ys,its,kk,H7,δ1,rv,hz,δ2,δ3,w7⟩
   |true=>
    rw[if_pos rfl]at q7 ⊢;have hew:=he' _ s7 Y6 H7 _ I7 q7;rw[exe,eprog,ew,eA]at hew;refine thn hew λy s8 ⟨vy,H8,I8,r8,m',hm,w8⟩=>?_;obtain⟨δ1,δ2,δ3⟩:=back I8;obtain⟨p1,p2,p3,p4,p5⟩:=δ1.pin (s2.heap.objs.size,_) (mem_append_right _ (mem_append_right _ mem_cons_self));have hil:its.size=ys.length:=by rw[rv.length];simp
    refine append_at (hsz:=by rw[hil];exact hz) p1 λh9 sb9 e9=>?_;have Df:s2.heap.objs.size∉fp:=λz=>absurd (hfl _ z) (Yh _);have δ0:Inv XC U (σC own.length fr Y) H8 s8:=δ1.Tc
    have δ9:Inv XC U (σC own.length fr Y) H8 {s8 with heap:=h9 }:=by
     refine δ0.turned (t':=s8.toks) (it:=s2.heap.objs.size) (λb o hb e=>(sb9.2 b hb).trans e) p2 p3 (.inr (by rw[es0];exact yo _)) (λx c e z=>?_) (λp hp z=>?_)
     ·rcases ecells x c e with q|q
      ·obtain⟨v,o,ho,_⟩:=I2.cell x c q;exact(below c (ym ho)).2 z
      ·exact YF (YC hCle q) z
     ·rw[epn]at hp;exact(below p.1 (ym (I2.pin p hp).1)).2 z
    refine⟨m',hm,i+1,ys++[vy],its.push y,kk+1,H8,δ9.TK λp hp=>?_,?_,by simp;exact hlt,T.keep _ _ _ δ2 (λb hb o e=>(sb9.2 b (λz=>Df (z▸hb))).trans e),δ3,w8⟩
    ·rcases List.mem_append.mp hp with hp|hp
     ·exact δ9.pin p (mem_append_right _ hp)
     ·have e:=List.mem_singleton.mp hp;subst e;exact⟨e9,p2,p3,p4,by intro v z;cases z⟩
    ·rw[Array.toList_push];exact rv.append (.cons r8 .nil)
 exact codeAny_compStart_list (loop _ rfl) (T.self X.A 0 _ _ _ (T.keep _ _ _ st2 λb hb o e=>old b o e) (loop _ rfl))
def zpt{elt tg iter:yt}{ifs:List yt}{pos:YD}{wi:TI}{g:TG}{tc:TT}{te:TE}(own:List yg)(fr:List Nat)(hc:X.calm=true)(hst:X.stack=X.env::X.outer)(hfm:X.env.frame=some X.env.locals)(hi:PI X tg iter wi)
 (hg:∀cl C s₀ H₀ fp XE,PG (cxX X own fr scope cl C s₀ H₀ fp XE) tg g) (hq:∀cl C s₀ H₀ fp XE,PF (cxX X own fr scope cl C s₀ H₀ fp XE) ifs tc) (he:∀cl C s₀ H₀ fp XE,(∀K dx H',zXc X K dx H'->zXc (cxX X own fr scope cl C s₀ H₀ fp XE) K dx H')->PE (cxX X own fr scope cl C s₀ H₀ fp XE) elt te)
 (hk:scope.kind=.function) (hnm:∀y∈scope.names,scope.names.lookup y.1=some y.2)
 (hfree:∀x∈scope.names,x.2=.free->(X.env.kindOf x.1=some .cell\/X.env.kindOf x.1=some .free)) (hfr:∀i∈fr,∃x,X.N[i]?=some x/\scope.names.lookup x=some .free)
 (hs:∀x,YL iter X.env x=pure x:=by intro _;rfl):PE X (.ListComp elt [⟨tg,iter,ifs,0⟩] scope pos) (tLC own.length fr wi g tc te):=by
 intro U s Y H Q I h;rw[eval_ListComp];have hclos:closureFor scope X.env=pure (zcb X.env.cells scope.names []):=zrj λx hx e=>I.ok.has x.1 (hfree x hx e);refine wpAny_comprehension_free (use:=none) rfl hs hclos hk (λx hx e=>by rw[hnm x hx,e]) ?_;show yw _ _ (Yi iter X.env) _ _ s;refine thn (hi U s Y H _ I h) λv s1 h1=>thn h1 λitv s2 h2=>?_;refine zlp (use:=none) (QQ:=EP X U Y Q) own fr hc hst hfm hg hq he hk hnm hfree hfr h2 λys H3 D C s4 q w=>?_;obtain⟨m,hn⟩:=w.own;exact⟨m,hn,λh' sb=>⟨.ref D,_,w.gone sb,rfl,q D w.free⟩⟩
end
abbrev FR:=Loc->Mem->Option RO
def tMX(K:xu)(W:XK)(G:FR):TE:=λY H Q=>∃Z J O r,At K Z H Y J O/\G J O=some r/\ROk K Z H Q W r
def MX(X:Cx)(e:yt)(G:FR):Prop:=PE X e (tMX X.K (zXc X) G)
def ROk.weak{K:xu}{Z:List yc}{H:Hp}{Q:VK}{W W':XK}{r:RO}(h:ROk K Z H Q W r)(hw:∀C dx H',W C dx H'->W' C dx H'):ROk K Z H Q W' r:=by
 cases r with
 |ok d O=>exact h
 |exc c fs O=>exact λZ' H' C dx hc x R q=>hw _ _ _ (h Z' H' C dx hc x R q)
section
variable {X:Cx}{e e2:yt}{es:List yt}{pos p spos:YD}{x:yg}{k j n:Nat}{st:yQ}{f:yc}{fd:yf}{ps:List yg}{F:FX}{α:FA}{G ψ:FR}
@[simp] def fXC(F:FX)(α:FA):FR:=λJ O=>(α J O).bind λp=>F p.1 p.2
def zkh(B:FnAt X.K X.mg x st ps f fd)(φ:tw X.prog X.w X.K X.mg X.base (CXq X.prog X.w) j f fd ps (spX X.K n F))(hr:tW k X.A)
 (ha:MAn X (e::es) α) (hn:(e::es).length=n:=by rfl) (hj:j<=k:=by decide) (hg:Gl X x:=by rfl) (hdb:(x==("__debug__":yg))=false:=by decide) (he:yj (e::es) X.env=(false,Yi e X.env)::yj es X.env:=by exact zwd rfl) (hpl:(Ye pos (yj es X.env)).any (·.1)=false:=by rfl) :
 MX X (.Call (.Name x p) (e::es) [] pos) (fXC F α):=by
 intro U s Y H Q I ⟨Z,J,O,r,A,e0,hk⟩;obtain⟨⟨ds,O1⟩,e1,e0⟩:=ze e0;exact z2r B φ hr ha hj hg hdb he hpl U s Y H Q I (zvo A e1 (by rw[ha.len _ _ _ _ e1];exact hn) e0 hk)
def lcR(g:FG)(G:FR)(ok:Mem->Bool)(J:Loc):List D->List D->Mem->Option RO
 |[],ys,O=>bif ok O then some (.ok (.loc O.length) (O++[.lst ys])) else none
 |x::xs,ys,O=>bif ok O then(g x J O).bind λp=>(G p.1 p.2).bind λq=>match q with
  |.ok y O'=>lcR g G ok J xs (ys++[y]) O'
  |.exc c fs O'=>some (.exc c fs O') else none
@[simp] def fLX(n:Nat)(fr:List Nat)(i:FI)(g:FG)(G:FR):FR:=λJ O=>(i J O).bind λp=>bif few p.1 then lcR g G p.2.1 (δC n fr J) p.1 [] p.2.2 else none
def z8u{K:xu}{n:Nat}{fr:List Nat}{i:FI}{g:FG}{G:FR}{Z:List yc}{J:Loc}{O:Mem}{Y:L2.St}{H:Hp}{r:RO}{Q:VK}{W:XK}(A:At K Z H Y J O)(e:fLX n fr i g G J O=some r)(k:ROk K Z H Q W r):tLC n fr (tMI K i) (tGc K n g) (tMT K zhl) (tMX K W G) Y H Q:=by
 obtain⟨⟨ds,ok,O1⟩,e1,e⟩:=ze e;obtain⟨hfew,e⟩:=zK e;have hfew:ds.length<=1000000:=of_decide_eq_true hfew;refine⟨Z,J,O,ds,ok,O1,A,e1,λZ1 H1 δ x1 R1 II=>?_⟩;refine⟨λi m ys H'=>∃Z' es O2,Ext Z1 H1 Z' H'/\tG K Z' H' O2/\tf K Z' H' es ys/\es.length<=i/\i<=ds.length/\m=ds.length-i/\lcR g G ok (δC n fr J) (ds.drop i) es O2=some r,⟨_,Z1,[],O1,Ext.refl,R1,.nil,Yv _,Yv _,rfl,e⟩,?_⟩;rintro i m ys H' ⟨Z',es,O2,x',R',re,hel,hi,rfl,ef⟩
 by_cases hlt:i<ds.length
 ·right
  have hd:ds.drop i=ds[i]::ds.drop (i+1):=YV hlt;rw[hd]at ef;unfold lcR at ef;obtain⟨hok,ef⟩:=zK ef;obtain⟨⟨J2,O3⟩,e2,ef⟩:=ze ef;obtain⟨q,e3,ef⟩:=ze ef;refine⟨II.go Z' H' O2 i x' R' hok hlt,?_,λx H'' y=>?_⟩
  ·rw[<-re.length];exact YC (yq hel (yq hi hfew)) tZ
  ·obtain⟨xe,Re,rx⟩:=II.yld Z' H' O2 i x H'' ds[i] x' R' hok (by simp[hlt]) y;have x':=x'.trans xe;have re:=re.ext xe;have A':At K Z' H'' (σC n fr Y) (δC n fr J) O2:=((A.ext x1 R1).ext x' Re).δC n fr;refine⟨Z',_,O2,ds[i],J2,O3,A',rx,e2,λZ4 Y4 H4 x4 A4 f4=>⟨zol f4,?_⟩⟩;refine⟨Z4,J2,O3,true,O3,A4,rfl,λZ5 H5 x5 R5=>?_⟩;refine sD ⟨Z5,J2,O3,q,A4.ext x5 R5,e3,?_⟩
   cases q with
   |ok y O6=>exact λZ6 H6 v x6 R6 r6=>⟨ds.length-(i+1),by omega,Z6,es++[y],O6,x'.trans (x4.trans (x5.trans x6)),R6,(re.ext (x4.trans (x5.trans x6))).append (.cons r6 .nil),by simp;exact hel,hlt,rfl,ef⟩
   |exc c fs O6=>
    cases ef;exact λZ6 H6 C dx hc x6 R6 r6=>k Z6 H6 C dx hc (x1.trans (x'.trans (x4.trans (x5.trans x6)))) R6 r6
 ·left
  have e0:i=ds.length:=by omega
  subst e0;rw[List.drop_length]at ef;unfold lcR at ef;obtain⟨hok,ef⟩:=zK ef;cases ef;refine⟨II.stop Z' H' O2 x' R' hok,λp hp=>?_⟩;exact k _ _ _ (x1.trans (x'.trans (Ext.push hp))) (R'.push hp ⟨ys,zW,re.ext (Ext.push hp)⟩) (.loc (z8c R'))
def zgp{scope:YZ}{elt tg iter:yt}{i:FI}{g:FG}(own:List yg)(fr:List Nat)(hi:MI X tg iter i)
 (hg:∀cl C s₀ H₀ fp XE,MGc (cxX X own fr scope cl C s₀ H₀ fp XE) own.length tg g) (he:∀cl C s₀ H₀ fp XE,MX (cxX X own fr scope cl C s₀ H₀ fp XE) elt G)
 (hfr:∀i∈fr,∃x,X.N[i]?=some x/\scope.names.lookup x=some .free) (hok:zdq X.env.scope scope=true:=by rfl)
 (hc:X.calm=true:=by rfl) (hst:X.stack=X.env::X.outer:=by rfl) (hfm:X.env.frame=some X.env.locals:=by rfl)
 (hs:∀x,YL iter X.env x=pure x:=by intro _;rfl):MX X (.ListComp elt [⟨tg,iter,[],0⟩] scope pos) (fLX own.length fr i g G):=by
 intro U s Y H Q I ⟨Z,J,O,r,A,e0,k⟩;refine zpt (wi:=tMI X.K i) (g:=tGc X.K own.length g) (tc:=tMT X.K zhl) (te:=tMX X.K (zXc X) G) own fr hc hst hfm hi (λcl C s₀ H₀ fp XE=>hg cl C s₀ H₀ fp XE) (λcl C s₀ H₀ fp XE=>zjf) (λcl C s₀ H₀ fp XE hw=>?_) (zll hok) (zNo hok) (zKk hok) hfr hs U s Y H Q I (z8u A e0 k);intro U s Y H Q I ⟨Z,J,O,r,A,e0,k⟩;exact he cl C s₀ H₀ fp XE U s Y H Q I ⟨Z,J,O,r,A,e0,k.weak hw⟩
@[simp] def zTi(q:Option RO)(f:D->Mem->Option RO):Option RO:=q.bind λr=>match r with
 |.ok d O=>f d O
 |.exc c fs O=>some (.exc c fs O)
def zQo{q:Option RO}{f:D->Mem->Option RO}{r:RO}(h:zTi q f=some r):(∃d O,q=some (.ok d O)/\f d O=some r)\/∃c fs O,q=some (.exc c fs O)/\r=.exc c fs O:=by
 obtain⟨z,e,h⟩:=ze h
 cases z with
 |ok d O=>exact .inl ⟨d,O,e,h⟩
 |exc c fs O=>cases h;exact .inr ⟨c,fs,O,e,rfl⟩
def zHj{K:xu}{W:XK}{Z:List yc}{J:Loc}{O:Mem}{Y:L2.St}{H:Hp}{Q':VK}{r:RO}{f:D->Mem->Option RO}(A:At K Z H Y J O)(e:zTi (G J O) f=some r)
 (k:∀d O1,G J O=some (.ok d O1)->f d O1=some r->∀Z1 H1 v,Ext Z H Z1 H1->tG K Z1 H1 O1->tu K Z1 H1 d v->Q' v H1) (kx:∀Q c fs O1,r=.exc c fs O1->ROk K Z H Q W r):tMX K W G Y H Q':=by
 rcases zQo e with ⟨d,O1,e1,e2⟩|⟨c,fs,O1,e1,rfl⟩
 ·exact⟨Z,J,O,_,A,e1,λZ1 H1 v x1 R1 r1=>k d O1 e1 e2 Z1 H1 v x1 R1 r1⟩
 ·exact⟨Z,J,O,_,A,e1,kx Q' c fs O1 rfl⟩
@[simp] def zUg(g:GL)(G:FR):FR:=λJ O=>zTi (G J O) λd O1=>(g [d] O1).map λq =>.ok q.1 q.2
def zQh{g:GL}{T:String}(hc:tS X (.type T) g)(hm:X.mg x=none)(hv:yW x=some (.type T))(h:MX X e G)(hg:Gl X x:=by rfl)(hn:x≠"__name__":=by decide)(hdb:(x==("__debug__":yg))=false:=by decide)
 (hse:yj [e] X.env=[(false,Yi e X.env)]:=by rfl):MX X (.Call (.Name x p) [e] [] pos) (zUg g G):=by
 intro U s Y H Q I ⟨Z,J,O,r,A,e0,k⟩;refine zIk hc hg hm hv (zjk h zro hse) hn hdb hse rfl U s Y H Q I ?_;refine zHj A e0 (λd O1 e1 e2 Z1 H1 v x1 R1 r1=>?_) (λQ' c fs O1 er=>by subst er;exact k);obtain⟨⟨d2,O2⟩,e3,rfl⟩:=Option.map_eq_some_iff.mp e2;exact⟨Z1,[d],O1,d2,O2,.cons r1 .nil,R1,e3,λZ2 H2 v2 x2 R2 r2=>k Z2 H2 v2 (x1.trans x2) R2 r2⟩
@[simp] def zbl(G ψ:FR):FR:=λJ O=>zTi (G J O) λd O1=>zTi (ψ J O1) λd2 O2=>some (.ok (.tup [d,d2]) O2)
def zlq{x1}(h:MX X e G)(h2:MX X e2 ψ)(hse:yj [e,e2] X.env=(false,Yi e X.env)::yj [e2] X.env:=by rfl)(hse2:yj [e2] X.env=[(false,Yi e2 X.env)]:=by rfl):MX X (.Tuple [e,e2] x1 pos) (zbl G ψ):=by
 intro U s Y H Q I ⟨Z,J,O,r,A,e0,k⟩;refine zrq (zjk h (zjk h2 zro hse2) hse) U s Y H Q I ?_;refine zHj A e0 (λd O1 e1 e2 Z1 H1 v x1 R1 r1=>?_) (λQ' c fs O1 er=>by subst er;exact k);refine zHj (A.ext x1 R1) e2 (λd2 O2 e3 e4 Z2 H2 v2 x2 R2 r2=>?_) (λQ' c fs O2 er=>by subst er;exact(ROk.ext k x1:ROk X.K Z1 H1 Q (zXc X) _));cases e4;refine⟨by simp[sizeLine_eq],λq hq=>?_⟩;exact k Z2 _ _ (x1.trans (x2.trans (Ext.new hq))) (R2.Tr hq) (.tup zW (.cons (r1.ext (x2.trans (Ext.new hq))) (.cons (r2.ext (Ext.new hq)) .nil)))
@[simp] def zkn(G:FR):FS:=λJ O=>(G J O).map λr=>match r with
 |.ok d O' =>.ret d O'
 |.exc c fs O' =>.exc c fs O'
def zIn(h:MX X e G):MS X (.Return (some e) spos) (zkn G) :=
 zXj (zuq h) λZ J O Y H o E A eo kk=>by
  obtain⟨r,e1,rfl⟩:=Option.map_eq_some_iff.mp eo;refine⟨Z,J,O,r,A,e1,?_⟩
  cases r with
  |ok d O'=>exact λZ' H' v x' R r=>kk Z' v H' x' R r
  |exc c fs O'=>exact kk
@[simp] def z2m(i:Nat)(G:FR):FS:=λJ O=>(G J O).map λr=>match r with
 |.ok d O' =>.next (J.set i (some d)) O'
 |.exc c fs O' =>.exc c fs O'
def zQn{y:yg}{py:YD}(i:Nat)(h:MX X e G)(hN:X.N.Nodup:=by first|assumption|decide)(hi:X.N[i]?=some y:=by rfl)(hy:L2.Loc X.env.scope y:=by first|exact Or.inl rfl|exact Or.inr rfl)
 (hs:swapsWith e (some (.Name y py)) spos.line X.env=pure false:=by rfl) (hf:X.fn y=true\/X.env.scope.names.lookup y=some .local:=by first|exact .inl rfl|exact .inr rfl|assumption) :
 MS X (.Assign [.Name y py] e spos) (z2m i G) :=
 zXj (zeq hN hi hy h hs hf) λZ J O Y H o E A eo kk=>by
  obtain⟨r,e1,rfl⟩:=Option.map_eq_some_iff.mp eo;refine⟨Z,J,O,r,A,e1,?_⟩
  cases r with
  |ok d O'=>exact λZ' H' v x' R r=>kk Z' _ H' x' ((A.ext x' R).set r i)
  |exc c fs O'=>exact kk
variable {fe:yt}{G:FA}{ψ:FE}
def zcu(B:FnAt X.K X.mg x st ps f fd)(φ:tw X.prog X.w X.K X.mg X.base (CXq X.prog X.w) j f fd ps (spX X.K n F))(hr:tW k X.A)
 (ha:MAn X.nox (e::es) G) (hj:j<=k) (he:yj (e::es) X.env=(false,Yi e X.env)::yj es X.env) (hpl:(Ye pos (yj es X.env)).any (·.1)=false)
 {U:List (yc×Yw)} {s:yb} {Y:L2.St} {H:Hp} {Q:VK} {W:XK} (I:Inv X U Y H s) (h:tCX X.K W n F G Y H Q):yw (yz X.prog X.w) X.A (callWith pos (.ref f) [] (Ye pos (yj (e::es) X.env)) (backToKw pos (xj [] X.env))) (EP X U Y Q) (XP X U Y W) s:=by
 refine PySem.W.callWith_K (h₀:=X.base) I.ok.mod.kin B.fn.kp (yX (ha.ma pos U s Y H _ (I.TJ _) h) (λus s1 h1=>?_) λ_ _ z=>z.elim) he hpl;obtain⟨vs,H1,I1,r,q⟩:=h1;have I1:=I1.Tf;refine⟨I1.kIn,?_⟩;have r2:Vals (vs++[]) (us++[]):=r.append .nil;have hl:(us++[]).length=ps.length:=by rw[<-r2.length];exact φ.len _ _ _ _ q
 refine wpAny_call (codeAny_mono (φ.run X.A X.stack s1 H1 ⟨us,[]⟩ (us++[]) (vs++[]) Q W (hr.mono hj) I1.env0 (B.bd s1 us I1.kIn hl) r2 q) λrr s' hq=>?_)
 cases rr with
 |error ex=>
  obtain⟨C,dx,H',Fl,hw⟩:=hq;exact⟨H1,s1,C,dx,H',I1,Fl,hw⟩
 |ok fl=>
  cases fl with
  |ret u=>exact I1.after hq
  |next=>exact YN hq
  |brk=>exact YN hq
  |cont=>exact YN hq
def zCt(X:Cx)(k n:Nat)(tb:List (yg×FX)):Prop:=∀c F,tb.lookup c=some F->∃st ps f fd j,FnAt X.K X.mg c st ps f fd/\yK X.K ye c=some (some (.ref f))/\j<=k/\tw X.prog X.w X.K X.mg X.base (CXq X.prog X.w) j f fd ps (spX X.K n F)
def dynxNil{k n:Nat}:zCt X k n []:=λc F h=>by cases h
def sr{k n j:Nat}{c:yg}{F:FX}{st:yQ}{ps:List yg}{f:yc}{fd:yf}{tb:List (yg×FX)}(B:FnAt X.K X.mg c st ps f fd)(h:∃f,yK X.K ye c=some (some (.ref f))/\X.mg c=some (.ref f))(φ:tw X.prog X.w X.K X.mg X.base (CXq X.prog X.w) j f fd ps (spX X.K n F))(r:zCt X k n tb)(hj:j<=k:=by decide):zCt X k n ((c,F)::tb):=λc' F' e=>by
 rw[lookup_cons]at e
 by_cases q:c'==c
 ·rw[q]at e;cases e;have q:=eq_of_beq q;subst q;obtain⟨f0,h1,h2⟩:=h;rw[B.at_]at h2;cases h2;exact⟨st,ps,f,fd,j,B,h1,hj,φ⟩
 ·rw[Bool.not_eq_true]at q;rw[q]at e;exact r c' F' e
def zpn(i:Nat)(ψ:FE)(tb:List (yg×FX))(G:FA):FS:=λJ O=>(ψ J O).bind λp=>match p.1 with
 |.own c=>(tb.lookup c).bind λF=>zst F G (λd J O =>.next (J.set i (some d)) O) J p.2
 |_=>none
def zwr{y:yg}{py:YD}{tb:List (yg×FX)}(i:Nat)(hf0:ME X.nox fe ψ)(hT:zCt X k n tb)(hr:tW k X.A)
 (ha:MAn X.nox (e::es) G) (hev:Yi (.Call fe (e::es) [] pos) X.env=(do callWith pos (<-Yi fe X.env) [] (Ye pos (yj (e::es) X.env)) (backToKw pos (xj [] X.env))):=by rfl) (hn:(e::es).length=n:=by rfl) (hN:X.N.Nodup:=by first|assumption|decide) (hi:X.N[i]?=some y:=by rfl) (hy:L2.Loc X.env.scope y:=by first|exact Or.inl rfl|exact Or.inr rfl)
 (he:yj (e::es) X.env=(false,Yi e X.env)::yj es X.env:=by exact zwd rfl) (hpl:(Ye pos (yj es X.env)).any (·.1)=false:=by rfl)
 (hs:swapsWith (.Call fe (e::es) [] pos) (some (.Name y py)) spos.line X.env=pure false:=by rfl) (hf:X.fn y=true\/X.env.scope.names.lookup y=some .local:=by first|exact .inl rfl|exact .inr rfl|assumption) :
 PX1 X (.Assign [.Name y py] (.Call fe (e::es) [] pos) spos) (zpn i ψ tb G):=by
 intro U s Y H D W I ⟨Z,J,O,o,A,eo,kk⟩;unfold zpn at eo;obtain⟨⟨d0,O0⟩,e0,eo⟩:=ze eo;dsimp only at eo
 split at eo
 ·rename_i c
  obtain⟨F,eF,eo⟩:=ze eo;obtain⟨ds,O1,r,e1,e2,rfl⟩:=zkm eo;obtain⟨st,ps,f,fd,j,B,hcf,hj,φ⟩:=hT c F eF;refine wpAny_Assign_Name (thn (?_:yw (yz X.prog X.w) X.A (Yi (.Call fe (e::es) [] pos) X.env) (EP X U Y λv H'=>D.nx (Y.set i (some v)) H') (XP X U Y W) s) λv s1 ⟨y,H1,I1,r1,q1⟩=>?_) hs
  ·rw[hev];refine yh (yX (hf0 U s Y H (λv H1=>∃Z1,Ext Z H Z1 H1/\tG X.K Z1 H1 O0/\tu X.K Z1 H1 (.own c) v) (I.TJ _) ⟨Z,J,O,_,O0,A,e0,λZ1 H1 v x1 R1 r1=>⟨Z1,x1,R1,r1⟩⟩) (λu s1 h1=>?_) λ_ _ z=>z.elim);obtain⟨v,H1,I1,rv,Z1,x1,R1,r1⟩:=h1;have I1:=I1.Tf;obtain⟨f',rfl,hf'⟩:=r1.sH;rw[hcf]at hf';cases hf';cases rv;refine zcu B φ hr ha hj he hpl I1 (zvo (A.ext x1 R1) e1 ((ha.len _ _ _ _ e1).trans hn) e2 ?_)
   cases r with
   |ok d O'=>exact λZ' H' v x' R r=>kk Z' _ H' (x1.trans x') ((A.ext (x1.trans x') R).set r i)
   |exc c fs O'=>exact λZ' H' C dx hc x' R q=>kk Z' H' C dx hc (x1.trans x') R q
  ·exact zPg I1 hN hi hy r1 (λs2 I2=>⟨_,H1,I2,q1⟩) hf
 ·cases eo
end
end M
namespace M
open PySem PySem.Spec PySem.Builtin PySem.Builtin.Str PyProof.Rows L2
section
variable {X:Cx}{a b e:yt}{es:List yt}{G ψ:FE}{pos p2:YD}{lo hi:Option yt}
def zmv:V->Option Int->Option Int->Hp->VK->Prop:=λx lo hi H Q=>∃z,x=.str z/\z.length<=1000000/\Q (.str (Yo z lo hi)) H
def z3s:SlR X zmv:=by
 intro U s Y H x v vl vu lo hi sl Q I rx hs pl pu h;obtain⟨z,rfl,hz,q⟩:=h;obtain⟨t,rfl⟩:=rx;have hmi:=tZ
 have fin:∀(l u:Option (Int×Tok)),s.heap.IsSlice sl l u none->Q (.str (Yo z (l.map (·.1)) (u.map (·.1)))) H->yw (yz X.prog X.w) X.A (getItem (.str z t) (.ref sl)) (EP X U Y Q) X.xe s:=λl u hs q=>
  wpAny_getItem_str_slice hs rfl (post_val_or_str ⟨yq (Txt.slice_le z _ _) (by omega),λt' k=>⟨.str _,H,I.tok _,⟨t',rfl⟩,q⟩⟩)
 refine⟨"str",_,F.slot_str_getitem.lookup,typeIs_str _ _ _,?_⟩
 cases pl with
 |none=>
  cases pu with
  |none=>exact fin none none hs q
  |int j tj=>exact fin none (some (j,tj)) hs q
 |int i ti=>
  cases pu with
  |none=>exact fin (some (i,ti)) none hs q
  |int j tj=>exact fin (some (i,ti)) (some (j,tj)) hs q
def z2o(G:FE)(l h:FO):FE:=λJ O=>(G J O).bind λp=>(l J p.2).bind λq=>(h J q.2).bind λr=>match p.1 with
 |.str z=>bif decide (z.length<=1000000) then some (.str (Yo z q.1 r.1),r.2) else none
 |_=>none
def zri{l h:FO}(he:ME X e G)(hl:MO X lo l)(hu:MO X hi h):ME X (.Subscript e (.Slice lo hi none p2) pos) (z2o G l h) :=
 zIe (zem z3s he hl hu) λZ J O Y H d O' Q A e k=>by
  obtain⟨⟨x,O1⟩,e1,e⟩:=ze e;obtain⟨⟨o1,O2⟩,e2,e⟩:=ze e;obtain⟨⟨o2,O3⟩,e3,e⟩:=ze e;refine⟨Z,J,O,x,O1,A,e1,λZ1 H1 v x1 R1 r1=>?_⟩;refine⟨Z1,J,O1,o1,O2,A.ext x1 R1,e2,λZ2 H2 x2 R2=>?_⟩;refine⟨Z2,J,O2,o2,O3,A.ext (x1.trans x2) R2,e3,λZ3 H3 x3 R3=>?_⟩;dsimp only at e
  split at e
  ·rename_i z
   obtain⟨hz,e5⟩:=zK e;cases e5;exact⟨_,r1.str_inv,of_decide_eq_true hz,k Z3 H3 _ (x1.trans (x2.trans x3)) R3 .str⟩
  ·cases e
def z8j(z:yg)(n:Nat):yg:=⟨(yl n z.cps).foldl (· ++ ·) #[]⟩
def zrk:φ2:=λx y O=>match x,y with
 |.str z,.int n=>bif decide (1<=z.length/\z.length<=100/\2<=n/\n<=100) then some (.str (z8j z n.toNat),O) else none
 |_,_=>none
def zko(z:yg):∀(n:Nat)(acc:Array Nat),((yl n z.cps).foldl (· ++ ·) acc).size=acc.size+n*z.length
 |0,acc=>by simp
 |n+1,acc=>by
  rw[replicate_succ,List.foldl_cons,zko z n,Array.size_append,Nat.succ_mul];show acc.size+z.length+n*z.length=_;omega
def znk:OpM X (Yz .Mult) zrk:=by
 refine OpM.of λU s Y H x y v u Q I rx ry Z dx dy O d O' r1 r2 R e k=>?_;unfold zrk at e
 split at e
 ·rename_i z n
  obtain⟨h,e5⟩:=zK e;obtain⟨h1,h2,h3,h4⟩:=of_decide_eq_true h;cases e5;rw[r1.str_inv]at rx;rw[r2.int_inv]at ry;obtain⟨t,rfl⟩:=rx;obtain⟨t',rfl⟩:=ry;have hl:z.length*n.toNat<=100*100:=xh h2 (by omega);have hn1:¬n<1:=by omega
  have hb1:(n==1||z.length==0)=false:=by
   rw[Bool.or_eq_false_iff];exact⟨by simp;omega,by simp;omega⟩
  have hmi:=tZ;refine PySem.P.mul_str ?_ (λ_ _=>?_) (λ_ _=>?_) ?_
  ·rw[Bool.or_eq_false_iff];exact⟨decide_eq_false (by omega),decide_eq_false (by omega)⟩
  ·have:(100:Int)<=(2^63-1) / n:=by
    rw[Int.le_ediv_iff_mul_le (by omega)];omega
   omega
  ·unfold tooLong;exact decide_eq_false (by omega)
  ·rw[if_neg hn1,if_neg (by rw[hb1];exact yR)];refine⟨?_,?_⟩
   ·show((yl n.toNat z.cps).foldl (· ++ ·) #[]).size<=yB;rw[zko];have:=Nat.mul_comm z.length n.toNat;simp;omega
   ·exact⟨.str _,H,I.tok _,⟨_,rfl⟩,k Z H _ Ext.refl R .str⟩
 ·cases e
end
end M
namespace M
open PySem PyProof.Rows L2
def zzi{M:Model}{Γ:PySem.Ctx}{p:YD}{t:Sem Fin}{fs:List Frame}{s:yb}{e:End}{s':yb}(h:Runs M Γ p t fs s e s'):s.toks<=s'.toks:=by
 induction h
 all_goals first
  |exact yo _
  |assumption
  |(rename_i ih;exact yq (Nat.le_succ _) ih)
  |(rename_i ih1 ih2;exact yq ih1 ih2)
  |(rename_i ih1 _ ih2;exact yq ih1 ih2)
def z8m{M:Model}{Γ:PySem.Ctx}{p:YD}{g:Nat}{r:Resume}{s:yb}{res:GenResult}{s':yb}(h:Wakes M Γ p g r s res s'):s.toks<=s'.toks:=by
 unfold Wakes at h
 split at h
 ·exact h.elim
 ·split at h
  ·obtain⟨e₁,s₁,h1,_,_,rfl⟩:=h;exact(zzi h1:_)
  ·obtain⟨_,rfl⟩:=h;exact yo _
  ·obtain⟨_,rfl⟩:=h;exact yo _
 ·obtain⟨e₁,s₁,h1,_,_,rfl⟩:=h;exact(zzi h1:_)
 ·obtain⟨_,rfl⟩:=h;exact yo _
 ·obtain⟨_,rfl⟩:=h;exact yo _
def z6n{α:Type}{M:Model}{Γ:PySem.Ctx}:∀(t:Sem α) {Q:α->YD->yb->Prop} {E:ya->YD->yb->Prop} (p:YD) (s:yb) (n:Nat),n<=s.toks->Sem.wp M Γ t Q E p s->Sem.wp M Γ t (λa p' s'=>Q a p' s'/\n<=s'.toks) (λe p' s'=>E e p' s'/\n<=s'.toks) p s:=λt=>by
 induction t with
 |pure a=>exact λp s n hn h=>⟨h,hn⟩
 |raise e=>exact λp s n hn h=>⟨h,hn⟩
 |unsupported _=>exact λp s n hn h=>h
 |finish _=>exact λp s n hn h=>h
 |rule _ k ih=>exact λp s n hn h=>ih () p s n hn h
 |«at» p' k ih=>exact λp s n hn h=>ih () p' s n hn h
 |load a _ k ih=>exact λp s n hn ⟨o,ho,h⟩=>⟨o,ho,ih o p s n hn h⟩
 |update a _ f k ih=>exact λp s n hn ⟨ho,h⟩=>⟨ho,ih () p _ n hn h⟩
 |loadIfAlive a k ih=>exact λp s n hn h=>ih _ p s n hn h
 |point _ k ih=>exact λp s n hn h=>ih () p s n hn h
 |register _ _=>exact λp s n hn h=>h
 |alloc o k ih=>exact λp s n hn h=>ih _ p _ n hn h
 |fresh k ih=>exact λp s n hn h=>ih _ p _ n (Nat.le_succ_of_le hn) h
 |ask k ih=>exact λp s n hn h=>ih _ p s n hn h
 |choose src m k ih=>exact λp s n hn ⟨h0,h⟩=>⟨h0,ih _ p _ n hn h⟩
 |os q _ k ih=>exact λp s n hn h=>ih _ p _ n hn h
 |call c hh _ _ k ih=>exact λp s n hn ⟨r,s',h1,h2⟩=>⟨r,s',h1,ih r p s' n (yq hn (zzi h1)) h2⟩
 |handled own k ih=>exact λp s n hn h=>ih _ p s n hn h
 |genState g k ih=>exact λp s n hn ⟨st,h1,h2⟩=>⟨st,h1,ih _ p s n hn h2⟩
 |newGen c k ih=>exact λp s n hn h=>ih _ p _ n hn h
 |resume g r _ k ih=>exact λp s n hn ⟨res,s',h1,h2⟩=>⟨res,s',h1,ih res p s' n (yq hn (z8m h1)) h2⟩
 |yield=>exact λp s n hn h=>h
 |stack k ih=>exact λp s n hn h=>ih _ p s n hn h
 |fork=>exact λp s n hn h=>h
 |thread k ih=>exact λp s n hn h=>ih _ p s n hn h
 |await=>exact λp s n hn h=>h
def zWm{α:Type}{M:Model}{A:yF}{E:ya->yb->Prop}{s:yb}{t:Sem α}{Q:α->yb->Prop}(h:yw M A t Q E s):yw M A t (λa s'=>Q a s'/\s.toks<=s'.toks) (λe s'=>E e s'/\s.toks<=s'.toks) s :=
 λΓ p hΓ=>z6n t p s _ (yo _) (h Γ p hΓ)
def zSl{α:Type}{M:Model}{A:yF}{E:ya->yb->Prop}{s:yb}{t:Sem α}{p0:YD}{k:Tok->Sem α}{Q:α->yb->Prop}(ht:t=.at p0 λ_ =>.fresh k)(h:yw M A t Q E s):yw M A t (λa s'=>Q a s'/\0<s'.toks) E s:=λΓ p hΓ=>by
 have h:=h Γ p hΓ;rw[ht]at h ⊢;have h:Sem.wp M Γ (k s.toks) (λa _ s'=>Q a s') (λe _ s'=>E e s') p0 {s with toks:=s.toks+1 }:=h;show Sem.wp M Γ (k s.toks) _ _ p0 {s with toks:=s.toks+1 };exact Sem.wp_mono M Γ _ (λa _ s' h=>⟨h.1,h.2⟩) (λe _ s' h=>h.1) _ _ (z6n _ p0 _ 1 (Nat.le_add_left _ _) h)
end M
namespace M
open PySem PySem.Spec PyProof.Rows L2
def PEk(X:Cx)(e:yt)(t:TE):Prop:=∀(U:List (yc×Yw)) (s:yb) (Y:L2.St) (H:Hp) (Q:VK),0<s.toks->Inv X U Y H s->t Y H Q->yw (yz X.prog X.w) X.A (Yi e X.env) (EP X U Y Q) X.xe s
def PAk(X:Cx)(es:List yt)(t:TA):Prop:=∀(pos:YD)(U:List (yc×Yw)) (s:yb) (Y:L2.St) (H:Hp) (Q:List V->Hp->Prop),0<s.toks->Inv X U Y H s->t Y H Q->yw (yz X.prog X.w) X.A (spliced (Ye pos (yj es X.env))) (AP X U Y Q) X.xe s
def PSk(X:Cx)(st:yQ)(t:TS):Prop:=∀(U:List (yc×Yw)) (s:yb) (Y:L2.St) (H:Hp) (D:Ends),0<s.toks->Inv X U Y H s->t D Y H->yw (yz X.prog X.w) X.A (exec st X.env) (SP X U D) X.xe s
def zXr(X:Cx)(st:List yQ)(t:TS):Prop:=∀(U:List (yc×Yw)) (s:yb) (Y:L2.St) (H:Hp) (D:Ends),0<s.toks->Inv X U Y H s->t D Y H->yw (yz X.prog X.w) X.A (execs st X.env) (SP X U D) X.xe s
def thnk{α:Type}{t:Sem α}{Q Q':α->yb->Prop}{M:Model}{A:yF}{E:ya->yb->Prop}{s:yb}(h:yw M A t Q E s)(hk:0<s.toks)(hQ:∀a s,0<s.toks->Q a s->Q' a s):yw M A t Q' E s :=
 yX (zWm h) (λa s' h=>hQ a s' (yp hk h.2) h.1) λ_ _ x=>x.1
section
variable {X:Cx}{a b o e:yt}{es:List yt}{pos p1 p2 apos:YD}{st:yQ}{zpe:List yQ}{ta tb te:TE}{t:TA}{G:FE}
def z8s{op:Operator}{r:R2}(ho:OpR X (Yz op) r)(ha:PE X a ta)(hb:PEk X b tb):PEk X (.BinOp a op b pos) (tOp r ta tb):=by
 intro U s Y H Q hk I h;refine wpAny_BinOp (thnk (ha U s Y H _ I h) hk λv s1 hk1 ⟨x,H1,I1,r1,q1⟩=>thn (hb U s1 Y H1 _ hk1 I1 q1) λu s2 ⟨y,H2,I2,r2,q2⟩=>ho U s2 Y H2 x y v u Q I2 r1 r2 q2)
def z4p(ha:PEk X e te)(hr:PA X es t)(hs:yj (e::es) X.env=(false,Yi e X.env)::yj es X.env:=by rfl):PAk X (e::es) (zns te t):=by
 intro pos U s Y H Q hk I h;rw[hs];show yw _ _ (spliced ((false,Yi e X.env)::Ye pos (yj es X.env))) _ _ s;refine Calls.spliced_cons (thn (ha U s Y H _ hk I h) λu s1 ⟨x,H1,I1,r1,q1⟩=>?_);exact thn (hr pos U s1 Y H1 _ I1 q1) λus s2 ⟨xs,H2,I2,r2,q2⟩=>⟨x::xs,H2,I2,.cons r1 r2,q2⟩
def zWq(h:PAk X es t):PEk X (.List es pos) (zWu t):=by
 intro U s Y H Q hk I hq;refine wpAny_List_spliced (thn (h pos U s Y H _ hk I hq) λus s1 ⟨xs,H1,I1,r,z,q⟩=>⟨by rw[<-r.length];exact z,?_⟩);have hf:H1 s1.heap.objs.size=none:=I1.hok.fresh (yo _);refine⟨.ref s1.heap.objs.size,upd H1 s1.heap.objs.size (.lst xs),I1.laid (t':=s1.toks) (λb u e=>yk _ e) (yo _) ?_,rfl,q _ hf⟩;exact⟨z,us,0,r,yC _ rfl⟩
def zKq{i:Nat}{x:yg}{pos':YD}(hN:X.N.Nodup)(hi:X.N[i]?=some x)(hx:L2.Loc X.env.scope x)(he:PEk X e te)(hs:swapsWith e (some (.Name x pos')) pos.line X.env=pure false)(hf:X.fn x=true\/X.env.scope.names.lookup x=some .local) :
 PSk X (.Assign [.Name x pos'] e pos) (zsu te (znr i)):=by
 intro U s Y H D hk I h;refine wpAny_Assign_Name (thn (he U s Y H _ hk I h) λv s1 ⟨y,H1,I1,r1,q1⟩=>?_) hs;exact zPg I1 hN hi hx r1 (λs2 I2=>⟨_,H1,I2,q1⟩) hf
def zmu{t u:TS}(h1:PSk X st t)(h2:PSs X zpe u):zXr X (st::zpe) (zFt t u):=by
 intro U s Y H D hk I h;refine xb (thn (h1 U s Y H {D with nx:=u D } hk I h) λf s1 q=>?_)
 cases f with
 |next=>
  obtain⟨Y',H',I',q⟩:=q;exact h2 U s1 Y' H' D I' q
 |ret v=>exact q
 |brk=>exact q
 |cont=>exact q
def zlt{t u:TS}(h1:PS X st t)(h2:zXr X zpe u):zXr X (st::zpe) (zFt t u):=by
 intro U s Y H D hk I h;refine xb (thnk (h1 U s Y H {D with nx:=u D } I h) hk λf s1 hk1 q=>?_)
 cases f with
 |next=>
  obtain⟨Y',H',I',q⟩:=q;exact h2 U s1 Y' H' D hk1 I' q
 |ret v=>exact q
 |brk=>exact q
 |cont=>exact q
def zts{t u:TS}{p0:YD}{k:Tok->Sem Flow}(hx:exec st X.env=.at p0 λ_ =>.fresh k)(h1:PS X st t)(h2:zXr X zpe u):PSs X (st::zpe) (zFt t u):=by
 intro U s Y H D I h;refine xb (thn (zSl hx (h1 U s Y H {D with nx:=u D } I h)) λf s1 ⟨q,hk1⟩=>?_)
 cases f with
 |next=>
  obtain⟨Y',H',I',q⟩:=q;exact h2 U s1 Y' H' D hk1 I' q
 |ret v=>exact q
 |brk=>exact q
 |cont=>exact q
def zPt(y z:yg)(to:TE):TE:=λY H Q=>to Y H λx H1=>∃w,x=.str w/\w.length<=100000/\Q (.str (Txt.replace w y z)) H1
def zfp{y z:yg}{j1 j2:Nat}{to:TE}(hyz:(y==z)=false)(hz:z.length<=14)(ho:PE X o to)
 (hbase:YR o "replace" X.env (Yi o X.env)=Yi o X.env:=by rfl) (hline:(apos.endLine==pos.line)=true:=by rfl)
 (hs:Ye pos (yj [.Constant (.str y) j1 p1,.Constant (.str z) j2 p2] X.env)=[(false,Yi (.Constant (.str y) j1 p1) X.env),(false,Yi (.Constant (.str z) j2 p2) X.env)]:=by rfl) :
 PEk X (.Call (.Attribute o "replace" apos) [.Constant (.str y) j1 p1,.Constant (.str z) j2 p2] [] pos) (zPt y z to):=by
 intro U s Y H Q hk I h;refine wpAny_Call_method_late hbase (by rw[hs];rfl) hline hs (thnk (ho U s Y H _ I h) hk λv s1 hk1 ⟨x,H1,I1,r1,w,hw,hl,q1⟩=>?_);subst hw;obtain⟨t,rfl⟩:=r1;refine⟨"str","str.replace",PySem.F.plainAttrs_str,PySem.F.slot_str_replace,PySem.F.type_str_replace,typeIs_str _ _ _,(λa e=>by cases e),?_⟩;refine Calls.callWith_builtin rfl (Calls.evalArgs_plain (Calls.spliced_cons (Calls.Constant_str (Calls.spliced_cons (Calls.Constant_str (Calls.spliced_nil ?_))))));refine PySem.SC.replaceW (YF hk1) (Nat.succ_ne_zero _) (yJ (xw _)) hyz (by omega) hz λt' k=>⟨.str _,H1,I1.tok _,⟨t',rfl⟩,q1⟩
end
def MEk(X:Cx)(e:yt)(G:FE):Prop:=PEk X e (tM X.K G)
def MSk(X:Cx)(st:yQ)(ψ:FS):Prop:=PSk X st (tMS X.K (zXc X) ψ)
def zLt(X:Cx)(st:List yQ)(ψ:FS):Prop:=zXr X st (tMS X.K (zXc X) ψ)
def zIo{X:Cx}{e:yt}{t:TE}{G:FE}(h:PEk X e t)(w:∀Z J O Y H d O' Q,At X.K Z H Y J O->G J O=some (d,O')->(∀Z' H' v,Ext Z H Z' H'->tG X.K Z' H' O'->tu X.K Z' H' d v->Q v H')->t Y H Q):MEk X e G:=by
 intro U s Y H Q hk I hh;obtain⟨Z,J,O,d,O',a,e,k⟩:=hh;exact h U s Y H Q hk I (w Z J O Y H d O' Q a e k)
section
variable {X:Cx}{a b o e:yt}{es:List yt}{pos p1 p2 apos:YD}{st:yQ}{zpe:List yQ}{G ψ:FE}{α:FA}
def z9n(y z:yg)(G:FE):FE:=λJ O=>(G J O).bind λp=>match p.1 with
 |.str w=>bif decide (w.length<=100000) then some (.str (Txt.replace w y z),p.2) else none
 |_=>none
def zKp{y z:yg}{j1 j2:Nat}(ho:ME X o G)(hyz:(y==z)=false:=by decide +kernel)(hz:z.length<=14:=by decide)
 (hbase:YR o "replace" X.env (Yi o X.env)=Yi o X.env:=by rfl) (hline:(apos.endLine==pos.line)=true:=by rfl)
 (hs:Ye pos (yj [.Constant (.str y) j1 p1,.Constant (.str z) j2 p2] X.env)=[(false,Yi (.Constant (.str y) j1 p1) X.env),(false,Yi (.Constant (.str z) j2 p2) X.env)]:=by rfl) :
 MEk X (.Call (.Attribute o "replace" apos) [.Constant (.str y) j1 p1,.Constant (.str z) j2 p2] [] pos) (z9n y z G) :=
 zIo (zfp hyz hz ho hbase hline hs) λZ J O Y H d O' Q A e k=>by
  unfold z9n at e;obtain⟨⟨x,O1⟩,e1,e⟩:=ze e;refine⟨Z,J,O,x,O1,A,e1,λZ1 H1 v x1 R1 r1=>?_⟩;dsimp only at e
  split at e
  ·obtain⟨h,e5⟩:=zK e;cases e5;exact⟨_,r1.str_inv,of_decide_eq_true h,k Z1 H1 _ x1 R1 .str⟩
  ·cases e
def zPq(ha:MEk X e G)(hr:MAn X es α)(hn:es.length<=900:=by decide)(hs:yj (e::es) X.env=(false,Yi e X.env)::yj es X.env:=by exact zwd rfl):MEk X (.List (e::es) pos) (z4f (zd G α)) :=
 zIo (zWq (z4p ha hr.ma hs)) λZ J O Y H d O' Q A e k=>by
  obtain⟨⟨x,O0⟩,e0,e⟩:=ze e;cases e;obtain⟨⟨y,O1⟩,e1,e0⟩:=ze e0;obtain⟨⟨z,O2⟩,e2,e0⟩:=ze e0;cases e0;refine⟨Z,J,O,y,O1,A,e1,λZ1 H1 v x1 R1 r1=>?_⟩;refine⟨Z1,J,O1,z,O2,A.ext x1 R1,e2,λZ2 H2 vs x2 R2 r2=>⟨?_,λp hp=>?_⟩⟩
  ·rw[length_cons,<-r2.length,hr.len _ _ _ _ e2];exact YO (Tn (by omega))
  ·exact k _ _ _ (x1.trans (x2.trans (Ext.push hp))) (R2.push hp ⟨v::vs,zW,tf.cons (r1.ext (x2.trans (Ext.push hp))) (r2.ext (Ext.push hp))⟩) (.loc (z8c R2))
def zas{op:Operator}{g:φ2}(ho:OpM X (Yz op) g)(ha:ME X a G)(hb:MEk X b ψ):MEk X (.BinOp a op b pos) (zw g G ψ) :=
 zIo (z8s ho ha hb) λ_ _ _ _ _ _ _ _ A e k=>z1m A e k
def zhr{x:yg}{pos':YD}(i:Nat)(he:MEk X e G)(hN:X.N.Nodup:=by first|assumption|decide)(hi:X.N[i]?=some x:=by rfl)(hx:L2.Loc X.env.scope x:=by first|exact Or.inl rfl|exact Or.inr rfl)(hs:swapsWith e (some (.Name x pos')) pos.line X.env=pure false:=by rfl)
 (hf:X.fn x=true\/X.env.scope.names.lookup x=some .local:=by first|exact .inl rfl|exact .inr rfl|assumption):MSk X (.Assign [.Name x pos'] e pos) (zlc i G):=by
 intro U s Y H D hk I ⟨Z,J,O,o,A,eo,k⟩;obtain⟨⟨d,O1⟩,e1,eo⟩:=ze eo;cases eo;exact zKq hN hi hx he hs hf U s Y H D hk I ⟨Z,J,O,d,O1,A,e1,λZ' H' v x' R r=>k Z' _ H' x' ((A.ext x' R).set r i)⟩
def zFq{p q:FS}{Z:List yc}{J:Loc}{O:Mem}{Y:L2.St}{H:Hp}{o:Out}{E:Ends}(A:At X.K Z H Y J O)(e:znb p q J O=some o)(k:TD X.K (zXc X) Z H E o):tMS X.K (zXc X) p {E with nx:=tMS X.K (zXc X) q E } Y H:=by
 unfold znb at e
 cases ep:p J O with
 |none=>rw[ep]at e;cases e
 |some op=>
  rw[ep]at e;refine⟨Z,J,O,op,A,ep,?_⟩
  cases op with
  |next J' O'=>exact λZ' Y' H' x' A'=>⟨Z',J',O',o,A',e,k.ext x'⟩
  |brk J' O'=>cases e;exact k
  |cont J' O'=>cases e;exact k
  |ret d O'=>cases e;exact k
  |exc C fs O'=>cases e;exact k
def zlu{p q:FS}(h1:MSk X st p)(h2:MSs X zpe q):zLt X (st::zpe) (znb p q):=by
 intro U s Y H D hk I ⟨Z,J,O,o,A,e,k⟩;exact zmu h1 h2 U s Y H D hk I (zFq A e k)
def z4i{p q:FS}(h1:MS X st p)(h2:zLt X zpe q):zLt X (st::zpe) (znb p q):=by
 intro U s Y H D hk I ⟨Z,J,O,o,A,e,k⟩;exact zlt h1 h2 U s Y H D hk I (zFq A e k)
def zOs{p q:FS}{p0:YD}{k:Tok->Sem Flow}(h1:MS X st p)(h2:zLt X zpe q)(hx:exec st X.env=.at p0 λ_ =>.fresh k:=by rfl):MSs X (st::zpe) (znb p q):=by
 intro U s Y H D I ⟨Z,J,O,o,A,e,k⟩;exact zts hx h1 h2 U s Y H D I (zFq A e k)
end
@[simp] theorem z7t{i j:Int}(h1:-18446744073709551616<j)(h2:j<18446744073709551616):zel i j=true:=by
 unfold zel;rw[decide_eq_true (p:=-(2^64)<j/\j<2^64) ⟨by omega,by omega⟩];simp
@[simp] theorem zNu{α:Type}(l:List α):(l.all λ_=>true)=true:=by simp
def z8q{O g:Mem}{n:Nat}(h:n<O.length):(O++g)[n]?=O[n]?:=yE h
def zfe{O g:Mem}{n:Nat}{o:tI}(h:O[n]?=some o):(O++g)[n]?=some o:=by
 rw[z8q (List.getElem?_eq_some_iff.mp h).1];exact h
mutual
def zpm:∀p:xk,p.canLay0=true->Yd p p=true
 |.none,_=>rfl
 |.bool b,_=>by simp[Yd]
 |.int b,_=>by simp[Yd]
 |.str b,_=>by simp[Yd]
 |.list xs,h=>by
  unfold Yd;exact eqvAll_refl xs (by simpa[PyData.canLay0] using h)
 |.tuple xs,h=>by
  unfold Yd;exact eqvAll_refl xs (by simpa[PyData.canLay0] using h)
 |.dict _,h=>by simp[PyData.canLay0]at h
def eqvAll_refl:∀ps:List xk,xp ps=true->YH ps ps=true
 |[],_=>rfl
 |p::ps,h=>by
  simp only[xp,yN]at h;unfold YH;rw[zpm p h.1,eqvAll_refl ps h.2];rfl
end
def z3p{x y:D}{O:Mem}{p:xk}(h1:toP O 8 x=some p)(h2:toP O 8 y=some p):gEq x y O=some (.bl true,O):=by
 unfold gEq;rw[h1,h2];simp[zpm p (zIi 8 x p h1).1]
def zqs{K:yr}{F:FF}{H:Hp}{a:yc}{ns:List Int}(hF:∃O',F [.fz (ns.map D.int)] []=some (.bl true,O'))(hO:zGt H)(hS:SqL K H a (ns.map V.int)):spM K 1 F [.ref a] H (λv _=>v=.bl true) λ_ _ _=>False:=by
 obtain⟨O',e⟩:=hF
 have fz:FzL K H a (ns.map V.int):=by
  rcases hS with (h|⟨o,h⟩)|h
  ·rcases hO a with z|⟨o,xs,z⟩
   ·rw[h]at z;cases z
   ·rw[h]at z;cases z
  ·exact .inl ⟨o,h⟩
  ·exact .inr h
 have hints:∀ns:List Int,tf K [] H (ns.map D.int) (ns.map V.int):=λns=>by
  induction ns with
  |nil=>exact .nil
  |cons i r ih=>exact .cons .int ih
 exact⟨rfl,[],[.fz (ns.map D.int)],[],.bl true,O',.cons (.fz fz (hints ns)) .nil,⟨List.nodup_nil,rfl,λn a o h1 _=>by simp at h1⟩,e,λZ' H' v _ _ r=>r.tQ⟩
structure WE(G:FE)(J:Loc)(O:Mem)(Q:D->Mem->Prop):Prop where
 ex:∃d O',G J O=some (d,O')/\Q d O'
structure WT(G:FT)(J:Loc)(O:Mem)(Q:Bool->Mem->Prop):Prop where
 ex:∃d O',G J O=some (d,O')/\Q d O'
structure WA(G:FA)(J:Loc)(O:Mem)(Q:List D->Mem->Prop):Prop where
 ex:∃d O',G J O=some (d,O')/\Q d O'
structure WO(G:FO)(J:Loc)(O:Mem)(Q:Option Int->Mem->Prop):Prop where
 ex:∃d O',G J O=some (d,O')/\Q d O'
structure W2(g:φ2)(x y:D)(O:Mem)(Q:D->Mem->Prop):Prop where
 ex:∃d O',g x y O=some (d,O')/\Q d O'
structure WF(F:FF)(ds:List D)(O:Mem)(Q:D->Mem->Prop):Prop where
 ex:∃d O',F ds O=some (d,O')/\Q d O'
structure WM(g:GM)(x:D)(ds:List D)(O:Mem)(Q:D->Mem->Prop):Prop where
 ex:∃d O',g x ds O=some (d,O')/\Q d O'
structure WI(i:FI)(J:Loc)(O:Mem)(Q:List D->(Mem->Bool)->Mem->Prop):Prop where
 ex:∃ds ok O',i J O=some (ds,ok,O')/\Q ds ok O'
structure WG(g:FG)(d:D)(J:Loc)(O:Mem)(Q:Loc->Mem->Prop):Prop where
 ex:∃J' O',g d J O=some (J',O')/\Q J' O'
structure WGs(g:FGs)(ds:List D)(J:Loc)(O:Mem)(Q:Loc->Mem->Prop):Prop where
 ex:∃J' O',g ds J O=some (J',O')/\Q J' O'
structure WL(g:FG)(c:FT)(G:FE)(ok:Mem->Bool)(J:Loc)(xs ys:List D)(O:Mem)(Q:D->Mem->Prop):Prop where
 ex:∃d O',z3o g c G ok J xs ys O=some (d,O')/\Q d O'
def Ek(nx:Loc->Mem->Prop)(rt:D->Mem->Prop)(bk ct:Loc->Mem->Prop):Out->Prop
 |.next J O=>nx J O
 |.ret d O=>rt d O
 |.brk J O=>bk J O
 |.cont J O=>ct J O
 |.exc _ _ _=>False
structure WS(ψ:FS)(J:Loc)(O:Mem)(nx:Loc->Mem->Prop)(rt:D->Mem->Prop)(bk ct:Loc->Mem->Prop):Prop where
 ex:∃o,ψ J O=some o/\Ek nx rt bk ct o
structure WFor(g:FG)(body:FS)(ok:Mem->Bool)(xs:List D)(J:Loc)(O:Mem)(nx:Loc->Mem->Prop)(rt:D->Mem->Prop):Prop where
 ex:∃o,zbh g body ok xs J O=some o/\Ek nx rt (λ_ _=>False) (λ_ _=>False) o
def tq(O O':Mem):Prop:=∀(n:Nat)(o:tI),O[n]?=some o->O'[n]?=some o
def tq.refl{O:Mem}:tq O O:=λ_ _ h=>h
def tq.trans{O O1 O2:Mem}(a:tq O O1)(b:tq O1 O2):tq O O2:=λn o h=>b n o (a n o h)
def tq.app{O g:Mem}:tq O (O++g):=λ_ _ h=>zfe h
def tq.to{O O1 g:Mem}(a:tq O O1):tq O (O1++g):=a.trans .app
def tq.len{O O':Mem}(a:tq O O'):O.length<=O'.length:=by
 rcases Nat.lt_or_ge O'.length O.length with h|h
 ·have:=a O'.length O[O'.length] (by simp[h]);simp at this
 ·exact h
def tm{O:Mem}{o:tI}:(O++[o])[O.length]?=some o:=by simp
def zGc{O:Mem}{n:Nat}{o:tI}(h:O[n]?=some o):n<O.length:=(List.getElem?_eq_some_iff.mp h).1
def zVf{O:Mem}{n m:Nat}{o o':tI}(h:O[n]?=some o)(hne:m≠n):(O.set m o')[n]?=some o:=by
 rw[yT hne];exact h
def zFe{O:Mem}{n:Nat}{o o':tI}(h:O[n]?=some o):(O.set n o')[n]?=some o':=by
 rw[Yb (zGc h)]
def zF{O:Mem}{n:Nat}{ds:List D}(h:O[n]?=some (.lst ds)):items O (.loc n)=some ds:=by simp[h]
section
variable {G ψ χ:FE}{g g2:φ2}{J:Loc}{O:Mem}{Q:D->Mem->Prop}{i j:Int}{d x y:D}{ds xs:List D}
def zf{n:Nat}(h:J[n]?=some (some d))(q:Q d O):WE (zk n) J O Q:=⟨d,O,by simp[h],q⟩
def w_c(q:Q d O):WE (fC d) J O Q:=⟨d,O,rfl,q⟩
def zz(h:WE G J O λx O1=>WE ψ J O1 λy O2=>W2 g x y O2 Q):WE (zw g G ψ) J O Q:=by
 obtain⟨x,O1,e1,y,O2,e2,d,O3,e3,q⟩:=h;exact⟨d,O3,by simp[e1,e2,e3],q⟩
def z0d(h:WE G J O λx O1=>∃b,x=.bl b/\(b=true->WE ψ J O1 Q)/\(b=false->Q (.bl false) O1)):WE (zzk G ψ) J O Q:=by
 obtain⟨x,O1,e1,b,rfl,h1,h2⟩:=h
 cases b with
 |true=>obtain⟨d,O2,e2,q⟩:=h1 rfl;exact⟨d,O2,by simp[e1,e2],q⟩
 |false=>exact⟨_,O1,by simp[e1],h2 rfl⟩
def z3u(h:WE G J O λx O1=>∃b,x=.bl b/\(b=false->WE ψ J O1 Q)/\(b=true->Q (.bl true) O1)):WE (fOr G ψ) J O Q:=by
 obtain⟨x,O1,e1,b,rfl,h1,h2⟩:=h
 cases b with
 |false=>obtain⟨d,O2,e2,q⟩:=h1 rfl;exact⟨d,O2,by simp[e1,e2],q⟩
 |true=>exact⟨_,O1,by simp[e1],h2 rfl⟩
def w_not(h:WE G J O λx O1=>∃b,x=.bl b/\Q (.bl (!b)) O1):WE (zHt G) J O Q:=by
 obtain⟨x,O1,e1,b,rfl,q⟩:=h;exact⟨_,O1,by simp[e1],q⟩
def zRt(h:WE G J O λx O1=>∃i,x=.int i/\Q (.int (-i)) O1):WE (zdv G) J O Q:=by
 obtain⟨x,O1,e1,b,rfl,q⟩:=h;exact⟨_,O1,by simp[e1],q⟩
def zMo{α:FA}(h:WA α J O λds O1=>Q (.tup ds) O1):WE (zxq α) J O Q:=by
 obtain⟨x,O1,e1,q⟩:=h;exact⟨_,O1,by simp[e1],q⟩
def zgg{α:FA}(h:WA α J O λds O1=>Q (.loc O1.length) (O1++[.lst ds])):WE (z4f α) J O Q:=by
 obtain⟨x,O1,e1,q⟩:=h;exact⟨_,_,by simp[e1]<;>rfl,q⟩
def z7s(h:Q (.loc O.length) (O++[.dct []])):WE z5t J O Q:=⟨_,_,rfl,h⟩
def zxi{R:Option Int->Mem->Prop}(q:R none O):WO pNo J O R:=⟨_,_,rfl,q⟩
def zsf{R:Option Int->Mem->Prop}(h:WE G J O λx O1=>∃i,x=.int i/\R (some i) O1):WO (znm G) J O R:=by
 obtain⟨x,O1,e1,i,rfl,q⟩:=h;exact⟨_,_,by simp[e1]<;>rfl,q⟩
def zm{F:FF}{α:FA}(h:WA α J O λds O1=>WF F ds O1 Q):WE (zv F α) J O Q:=by
 obtain⟨ds,O1,e1,d,O2,e2,q⟩:=h;exact⟨d,O2,by simp[e1,e2],q⟩
def z9p{m:GM}{α:FA}(h:WE G J O λx O1=>∃n xs,x=.loc n/\O1[n]?=some (.lst xs)/\WA α J O1 λds O2=>WM m (.loc n) ds O2 Q):WE (zAl m G α) J O Q:=by
 obtain⟨x,O1,e1,n,xs,rfl,e2,ds,O2,e3,d,O3,e4,q⟩:=h;exact⟨d,O3,by simp[e1,e2,e3,e4],q⟩
def zmm{n:Nat}{fr:List Nat}{it:FI}{tg:FG}{c:FT}(h:WI it J O λds ok O1=>few ds=true/\WL tg c G ok (δC n fr J) ds [] O1 Q):WE (fLC n fr it tg c G) J O Q:=by
 obtain⟨ds,ok,O1,e1,hf,d,O2,e2,q⟩:=h;exact⟨d,O2,by unfold fLC;simp only[e1,yi,hf,cond_true];exact e2,q⟩
def zOb{R:Bool->Mem->Prop}(h:WE G J O λx O1=>∃b,x=.bl b/\R b O1):WT (zRc G) J O R:=by
 obtain⟨x,O1,e1,b,rfl,q⟩:=h;exact⟨_,_,by simp[e1]<;>rfl,q⟩
def znq{c e:FT}{R:Bool->Mem->Prop}(h:WT c J O λb O1=>(b=true->WT e J O1 R)/\(b=false->R false O1)):WT (z2q c e) J O R:=by
 obtain⟨b,O1,e1,h1,h2⟩:=h
 cases b with
 |true=>obtain⟨d,O2,e2,q⟩:=h1 rfl;exact⟨d,O2,by simp[e1,e2],q⟩
 |false=>exact⟨_,O1,by simp[e1],h2 rfl⟩
def zTp{c e:FT}{R:Bool->Mem->Prop}(h:WT c J O λb O1=>(b=false->WT e J O1 R)/\(b=true->R true O1)):WT (zis c e) J O R:=by
 obtain⟨b,O1,e1,h1,h2⟩:=h
 cases b with
 |false=>obtain⟨d,O2,e2,q⟩:=h1 rfl;exact⟨d,O2,by simp[e1,e2],q⟩
 |true=>exact⟨_,O1,by simp[e1],h2 rfl⟩
def zxj{c:FT}{R:Bool->Mem->Prop}(h:WT c J O λb O1=>R (!b) O1):WT (z4m c) J O R:=by
 obtain⟨b,O1,e1,q⟩:=h;exact⟨_,_,by simp[e1]<;>rfl,q⟩
def z9q{R:Bool->Mem->Prop}(q:R true O):WT zhl J O R:=⟨_,_,rfl,q⟩
def zl{R:List D->Mem->Prop}(q:R [] O):WA zx J O R:=⟨_,_,rfl,q⟩
def zb{α:FA}{R:List D->Mem->Prop}(h:WE G J O λx O1=>WA α J O1 λxs O2=>R (x::xs) O2):WA (zd G α) J O R:=by
 obtain⟨x,O1,e1,xs,O2,e2,q⟩:=h;exact⟨_,_,by simp[e1,e2]<;>rfl,q⟩
def zUj(q:Q (.int (i+j)) O):W2 z7f (.int i) (.int j) O Q:=⟨_,_,rfl,q⟩
def zxm{l m:Nat}{as bs:List D}(h1:O[l]?=some (.lst as))(h2:O[m]?=some (.lst bs))(h:as.length+bs.length<=1000000)(q:Q (.loc O.length) (O++[.lst (as++bs)])):W2 z7f (.loc l) (.loc m) O Q:=⟨_,_,by simp[h1,h2,h]<;>rfl,q⟩
def zZn(q:Q (.int (i-j)) O):W2 zZq (.int i) (.int j) O Q:=⟨_,_,rfl,q⟩
def zyt(h:zel i j=true)(q:Q (.int (i*j)) O):W2 zPi (.int i) (.int j) O Q:=⟨_,_,by simp[zPi,h]<;>rfl,q⟩
def zou(h:0<j)(q:Q (.int (i%j)) O):W2 zmn (.int i) (.int j) O Q:=⟨_,_,by simp[h]<;>rfl,q⟩
def zQt(h:0<j)(h':j<1606938044258990275541962092341162602522202993782792835301376)(q:Q (.int (i / j)) O):W2 zQr (.int i) (.int j) O Q:=⟨_,_,by simp[h,h']<;>rfl,q⟩
def zNt(h:0<=j)(h1:j<=100000)(h2:i.natAbs<1606938044258990275541962092341162602522202993782792835301376)(q:Q (.int (i^j.toNat)) O):W2 zRu (.int i) (.int j) O Q:=⟨_,_,by simp only[zRu];rw[decide_eq_true ⟨h,h1,h2⟩];rfl,q⟩
def zCl{r:Int->Int->Bool}(q:Q (.bl (r i j)) O):W2 (zFm r) (.int i) (.int j) O Q:=⟨_,_,rfl,q⟩
def ztk(h:items O x=some xs)(h2:atI xs i=some d)(q:Q d O):W2 gIx x (.int i) O Q:=⟨_,_,by show((items O x).bind λds=>(atI ds i).bind λd=>some (d,O))=_;rw[h,yi,h2,yi],q⟩
def zin(q:Q (.bl (i==j)) O):W2 gEq (.int i) (.int j) O Q:=⟨_,_,by simp[gEq,toP,Yd]<;>rfl,q⟩
def z4s(q:Q (.bl (!(i==j))) O):W2 gNe (.int i) (.int j) O Q:=⟨_,_,by simp[gNe,toP,Yd]<;>rfl,q⟩
def ztt{p:xk}(h1:toP O 8 x=some p)(h2:toP O 8 y=some p)(q:Q (.bl true) O):W2 gEq x y O Q:=⟨_,_,z3p h1 h2,q⟩
def zKu{p p':xk}(h1:toP O 8 x=some p)(h2:toP O 8 y=some p')(q:Q (.bl (Yd p p')) O):W2 gEq x y O Q:=⟨_,_,by simp[gEq,h1,h2]<;>rfl,q⟩
def zuu{a b:Bool}(q:Q (.bl (a==b)) O):W2 gIs (.bl a) (.bl b) O Q:=⟨_,_,rfl,q⟩
def zLj{a b:Bool}(q:Q (.bl (a != b)) O):W2 zjl (.bl a) (.bl b) O Q:=⟨_,_,rfl,q⟩
def zVm(h:items O x=some xs)(q:Q (.int xs.length) O):WF zVo [x] O Q:=⟨_,_,by show((items O x).bind λxs=>some (D.int xs.length,O))=_;rw[h,yi],q⟩
def zHs(h:items O x=some xs)(q:Q (.loc O.length) (O++[.lst xs])):WF z4t [x] O Q:=⟨_,_,by show((items O x).bind λxs=>some (D.loc O.length,O++[tI.lst xs]))=_;rw[h,yi],q⟩
def z8e(h:items O x=some xs)(q:Q (.tup xs) O):WF zod [x] O Q:=by
 refine⟨_,_,?_,q⟩;cases x<;>first|(cases h;rfl)|(simp only[zod,h];rfl)
def zGj{c t:Ty}(h:zPn O x=some t)(q:Q (.bl (zoq t c)) O):WF (zMm c) [x,.ty c.name] O Q:=⟨_,_,by simp only[zMm,beq_self_eq_true,cond_true,h,yi],q⟩
def znn{n:Nat}{bs:List Bool}(h:O[n]?=some (.lst (bs.map .bl)))(q:Q (.bl (bs.all λb=>b)) O):WF zPr [.loc n] O Q:=⟨_,_,by simp[h,all_map,Function.comp_def],q⟩
def z4j{n:Nat}(h:O[n]?=some (.lst xs))(hl:xs.length<=1000000)(q:Q .non (O.set n (.lst (xs++[d])))):WM ztf (.loc n) [d] O Q:=⟨_,_,by simp[h,hl]<;>rfl,q⟩
def zNc{F:FF}{N:List yg}{p:FS}(hF:F=λds O=>zrd (p (zM N ds) O))(h:WS p (zM N ds) O (λ_ O'=>Q .non O') Q (λ_ _=>False) λ_ _=>False):WF F ds O Q:=by
 subst hF;obtain⟨o,e,k⟩:=h
 cases o with
 |next J' O'=>exact⟨_,_,by rw[e];rfl,k⟩
 |ret d O'=>exact⟨_,_,by rw[e];rfl,k⟩
 |brk _ _=>exact k.elim
 |cont _ _=>exact k.elim
 |exc _ _ _=>exact k.elim
def zFi{α:FA}{R:List D->(Mem->Bool)->Mem->Prop}(h:WA α J O λds O1=>∃j:Int,ds=[.int j]/\-(2^62)<=j/\j<2^62/\R ((Yp j.toNat).map λ(k:Nat) =>.int k) yes O1):WI (zPf α) J O R:=by
 obtain⟨ds,O1,e1,j,rfl,h1,h2,q⟩:=h;refine⟨_,_,_,?_,q⟩;unfold zPf;simp only[e1,yi];rw[decide_eq_true ⟨h1,h2⟩];rfl
def zdh{R:List D->(Mem->Bool)->Mem->Prop}(h:WE G J O λx O1=>(∃ds,x=.tup ds/\R ds yes O1)\/(∃ds,x=.fz ds/\R ds yes O1)\/∃n ds,x=.loc n/\O1[n]?=some (.lst ds)/\R ds (zQm n ds) O1):WI (zek G) J O R:=by
 obtain⟨x,O1,e1,⟨ds,rfl,q⟩|⟨ds,rfl,q⟩|⟨n,ds,rfl,e2,q⟩⟩:=h
 ·exact⟨_,_,_,by simp[e1]<;>rfl,q⟩
 ·exact⟨_,_,_,by simp[e1]<;>rfl,q⟩
 ·exact⟨_,_,_,by simp[e1,e2]<;>rfl,q⟩
def zOi{n:Nat}{R:Loc->Mem->Prop}(q:R (J.set n (some d)) O):WG (gN n) d J O R:=⟨_,_,rfl,q⟩
def zOu{n:Nat}{gs:FGs}{R:Loc->Mem->Prop}(hl:ds.length=n)(h:WGs gs ds J O R):WG (gT n gs) (.tup ds) J O R:=by
 obtain⟨J',O',e,q⟩:=h;exact⟨J',O',by simp[hl,e],q⟩
def zHu{gs:FGs}{R:Loc->Mem->Prop}{a b:D}(h:WGs gs [a,b] J O R):WG (gT 2 gs) (.tup [a,b]) J O R:=zOu rfl h
def zGu{gs:FGs}{R:Loc->Mem->Prop}{a b c:D}(h:WGs gs [a,b,c] J O R):WG (gT 3 gs) (.tup [a,b,c]) J O R:=zOu rfl h
def z9r{R:Loc->Mem->Prop}(q:R J O):WGs zPp [] J O R:=⟨_,_,rfl,q⟩
def zxr{t:FG}{gs:FGs}{R:Loc->Mem->Prop}(h:WG t d J O λJ1 O1=>WGs gs ds J1 O1 R):WGs (zTk t gs) (d::ds) J O R:=by
 obtain⟨J1,O1,e1,J2,O2,e2,q⟩:=h;exact⟨J2,O2,by simp[e1,e2],q⟩
variable {nx:Loc->Mem->Prop}{rt:D->Mem->Prop}{bk ct:Loc->Mem->Prop}{p q:FS}
def zif(h:nx J O):WS z1d J O nx rt bk ct:=⟨.next J O,rfl,h⟩
def zB(h:WS p J O (λJ' O'=>WS q J' O' nx rt bk ct) rt bk ct):WS (znb p q) J O nx rt bk ct:=by
 obtain⟨o,e,k⟩:=h
 cases o with
 |next J' O'=>obtain⟨o2,e2,k2⟩:=k;exact⟨o2,by simp[e,e2],k2⟩
 |ret d O'=>exact⟨.ret d O',by simp only[znb,e],k⟩
 |brk d O'=>exact⟨.brk d O',by simp only[znb,e],k⟩
 |cont d O'=>exact⟨.cont d O',by simp only[znb,e],k⟩
 |exc _ _ _=>exact k.elim
def zac{n:Nat}(h:WE G J O λd O'=>nx (J.set n (some d)) O'):WS (zlc n G) J O nx rt bk ct:=by
 obtain⟨d,O',e,k⟩:=h;exact⟨.next _ _,by simp only[zlc,e,yi],k⟩
def zms{g:FG}(h:WE G J O λd O1=>WG g d J O1 nx):WS (zSr G g) J O nx rt bk ct:=by
 obtain⟨d,O1,e,J',O2,e2,k⟩:=h;exact⟨.next _ _,by simp only[zSr,e,yi,e2],k⟩
def zAq(h:WE G J O λ_ O'=>nx J O'):WS (z0l G) J O nx rt bk ct:=by
 obtain⟨d,O',e,k⟩:=h;exact⟨.next _ _,by simp only[z0l,e,yi],k⟩
def zUb(h:WE G J O rt):WS (zje G) J O nx rt bk ct:=by
 obtain⟨d,O',e,k⟩:=h;exact⟨.ret _ _,by simp only[zje,e,yi],k⟩
def zym{c:FT}(h:WT c J O λb O1=>(b=true->WS p J O1 nx rt bk ct)/\(b=false->WS q J O1 nx rt bk ct)):WS (sIf c p q) J O nx rt bk ct:=by
 obtain⟨b,O1,e,h1,h2⟩:=h
 cases b with
 |true=>obtain⟨o,e2,k⟩:=h1 rfl;exact⟨o,by simp[e,e2],k⟩
 |false=>obtain⟨o,e2,k⟩:=h2 rfl;exact⟨o,by simp[e,e2],k⟩
def zNq{it:FI}{g:FG}{body:FS}(h:WI it J O λds ok O1=>WFor g body ok ds J O1 nx rt):WS (z3q it g body) J O nx rt bk ct:=by
 obtain⟨ds,ok,O1,e,o,e2,k⟩:=h;refine⟨o,by simp only[z3q,e,yi];exact e2,?_⟩
 cases o with
 |next _ _=>exact k
 |ret _ _=>exact k
 |brk _ _=>exact k.elim
 |cont _ _=>exact k.elim
 |exc _ _ _=>exact k.elim
def z4n{g:FG}{body:FS}{ok:Mem->Bool}{nx:Loc->Mem->Prop}{rt:D->Mem->Prop}(I:Nat->Loc->Mem->Prop):∀{xs:List D} {n:Nat} {J:Loc} {O:Mem},I n J O->(∀m J O,I m J O->ok O=true) ->
 (∀(m:Nat)(x:D)(J:Loc)(O:Mem),xs[m]?=some x->I (n+m) J O->WG g x J O λJ1 O1=>WS body J1 O1 (I (n+m+1)) rt nx (I (n+m+1)))->(∀J O,I (n+xs.length) J O->nx J O)->WFor g body ok xs J O nx rt
 |[],n,J,O,h0,hok,_,hend=>⟨.next J O,by simp only[zbh,hok _ _ _ h0,cond_true],hend J O h0⟩
 |x::xs,n,J,O,h0,hok,hs,hend=>by
  obtain⟨J1,O1,e1,o,e2,k⟩:=hs 0 x J O rfl h0
  cases o with
  |next J2 O2=>
   obtain⟨o3,e3,k3⟩:=z4n I (xs:=xs) (n:=n+1) (J:=J2) (O:=O2) k hok (λm y J O hy hI=>by
    have:=hs (m+1) y J O (by simpa using hy) (by rw[show n+(m+1)=n+1+m by omega];exact hI);rw[show n+(m+1)=n+1+m by omega]at this;exact this) (λJ O hI=>hend J O (by rw[length_cons,show n+(xs.length+1)=n+1+xs.length by omega];exact hI))
   exact⟨o3,by simp only[zbh,hok _ _ _ h0,cond_true,e1,yi,e2];exact e3,k3⟩
  |cont J2 O2=>
   obtain⟨o3,e3,k3⟩:=z4n I (xs:=xs) (n:=n+1) (J:=J2) (O:=O2) k hok (λm y J O hy hI=>by
    have:=hs (m+1) y J O (by simpa using hy) (by rw[show n+(m+1)=n+1+m by omega];exact hI);rw[show n+(m+1)=n+1+m by omega]at this;exact this) (λJ O hI=>hend J O (by rw[length_cons,show n+(xs.length+1)=n+1+xs.length by omega];exact hI))
   exact⟨o3,by simp only[zbh,hok _ _ _ h0,cond_true,e1,yi,e2];exact e3,k3⟩
  |brk J2 O2=>exact⟨.next J2 O2,by simp only[zbh,hok _ _ _ h0,cond_true,e1,yi,e2],k⟩
  |ret d O2=>exact⟨.ret d O2,by simp only[zbh,hok _ _ _ h0,cond_true,e1,yi,e2],k⟩
  |exc _ _ _=>exact k.elim
end
def zbq{g:FG}{c:FT}{G:FE}{ok:Mem->Bool}{J:Loc}{Q:D->Mem->Prop}(I:Nat->List D->Mem->Prop):∀{xs ys:List D} {n:Nat} {O:Mem},I n ys O->(∀m ys O,I m ys O->ok O=true) ->
 (∀(m:Nat)(x:D)(ys:List D)(O:Mem),xs[m]?=some x->I (n+m) ys O->WG g x J O λJ1 O1=>WT c J1 O1 λb O2=>(b=true->WE G J1 O2 λd O3=>I (n+m+1) (ys++[d]) O3)/\(b=false->I (n+m+1) ys O2)) ->
 (∀ys O,I (n+xs.length) ys O->Q (.loc O.length) (O++[.lst ys]))->WL g c G ok J xs ys O Q
 |[],ys,n,O,h0,hok,_,hend=>⟨_,_,by simp only[z3o,hok _ _ _ h0,cond_true],hend ys O h0⟩
 |x::xs,ys,n,O,h0,hok,hs,hend=>by
  obtain⟨J1,O1,e1,b,O2,e2,ht,hf⟩:=hs 0 x ys O rfl h0
  have step:∀ys2 O3,I (n+1) ys2 O3->WL g c G ok J xs ys2 O3 Q:=λys2 O3 h=>zbq I (n:=n+1) h hok (λm y ys O hy hI=>by
   have:=hs (m+1) y ys O (by simpa using hy) (by rw[show n+(m+1)=n+1+m by omega];exact hI);rw[show n+(m+1)=n+1+m by omega]at this;exact this) (λys O hI=>hend ys O (by rw[length_cons,show n+(xs.length+1)=n+1+xs.length by omega];exact hI))
  cases b with
  |true=>
   obtain⟨d,O3,e3,h3⟩:=ht rfl;obtain⟨d',O4,e4,q⟩:=step _ _ h3;exact⟨d',O4,by simp only[z3o,hok _ _ _ h0,cond_true,e1,yi,e2,e3];exact e4,q⟩
  |false=>
   obtain⟨d',O4,e4,q⟩:=step _ _ (hf rfl);exact⟨d',O4,by simp only[z3o,hok _ _ _ h0,cond_true,e1,yi,e2,cond_false];exact e4,q⟩
def zQl{g:FG}{body:FS}{ok:Mem->Bool}{nx:Loc->Mem->Prop}{rt:D->Mem->Prop}{xs:List D}{J:Loc}{O:Mem}(I:Nat->Loc->Mem->Prop)(h0:I 0 J O)(hok:∀m J O,I m J O->ok O=true)
 (hs:∀(m:Nat)(x:D)(J:Loc)(O:Mem),xs[m]?=some x->I m J O->WG g x J O λJ1 O1=>WS body J1 O1 (I (m+1)) rt nx (I (m+1))) (hend:∀J O,I xs.length J O->nx J O):WFor g body ok xs J O nx rt :=
 z4n I (n:=0) h0 hok (λm x J O hx h=>by
  rw[Nat.zero_add]at h ⊢;exact hs m x J O hx h) (λJ O h=>hend J O (by rw[Nat.zero_add]at h;exact h))
def zlk{g:FG}{c:FT}{G:FE}{ok:Mem->Bool}{J:Loc}{Q:D->Mem->Prop}{xs:List D}{O:Mem}(I:Nat->List D->Mem->Prop)(h0:I 0 [] O)(hok:∀m ys O,I m ys O->ok O=true)
 (hs:∀(m:Nat)(x:D)(ys:List D)(O:Mem),xs[m]?=some x->I m ys O->WG g x J O λJ1 O1=>WT c J1 O1 λb O2=>(b=true->WE G J1 O2 λd O3=>I (m+1) (ys++[d]) O3)/\(b=false->I (m+1) ys O2))
 (hend:∀ys O,I xs.length ys O->Q (.loc O.length) (O++[.lst ys])):WL g c G ok J xs [] O Q :=
 zbq I (n:=0) h0 hok (λm x ys O hx h=>by
  rw[Nat.zero_add]at h ⊢;exact hs m x ys O hx h) (λys O h=>hend ys O (by rw[Nat.zero_add]at h;exact h))
def z9f{j m:Nat}{x:D}(h:((Yp j).map λ(k:Nat)=>D.int k)[m]?=some x):m<j/\x=.int m:=by
 have h1:=(List.getElem?_eq_some_iff.mp h).1;simp at h1;refine⟨h1,?_⟩;simp[h1]at h;exact h.symm
def zzr{α:Type}{g:FG}{c:FT}{G:FE}{ok:Mem->Bool}{J:Loc}{Q:D->Mem->Prop}{O:Mem}(e:α->D)(l:List α)(f:α->D)(p:α->Bool)(hok:∀O',tq O O'->ok O'=true)
 (hs:∀x∈l,∀O',tq O O'->WG g (e x) J O' λJ1 O1=>WT c J1 O1 λb O2=>b=p x/\tq O O2/\(b=true->WE G J1 O2 λd O3=>d=f x/\tq O O3))
 (hq:∀O',tq O O'->Q (.loc O'.length) (O'++[.lst ((l.filter p).map f)])):WL g c G ok J (l.map e) [] O Q:=by
 refine zlk (λm ys O'=>tq O O'/\ys=((l.take m).filter p).map f) ⟨.refl,by simp⟩ (λm ys O' h=>hok O' h.1) (λm x ys O' hx h=>?_) (λys O' h=>?_)
 ·rw[yO]at hx
  cases hy:l[m]? with
  |none=>rw[hy]at hx;cases hx
  |some y=>
   rw[hy]at hx;cases hx;obtain⟨J1,O1,e1,b,O2,e2,hb,k2,h3⟩:=hs y (mem_of_getElem? hy) O' h.1
   have ht:l.take (m+1)=l.take m++[y]:=by
    rw[List.take_succ,hy];rfl
   refine⟨J1,O1,e1,b,O2,e2,λhb1=>?_,λhb1=>⟨k2,?_⟩⟩
   ·obtain⟨d,O3,e3,rfl,k3⟩:=h3 hb1;refine⟨_,_,e3,k3,?_⟩;rw[ht,List.filter_append,map_append,<-h.2,List.filter_cons_of_pos (by rw[<-hb,hb1])];rfl
   ·rw[ht,List.filter_append,map_append,<-h.2,List.filter_cons_of_neg (by rw[<-hb,hb1];exact yR)];simp
 ·rw[length_map,List.take_length]at h;rw[h.2];exact hq O' h.1
def zMf{α:Type}{g:FG}{G:FE}{ok:Mem->Bool}{J:Loc}{Q:D->Mem->Prop}{O:Mem}(e:α->D)(l:List α)(f:α->D)(hok:∀O',tq O O'->ok O'=true)
 (hs:∀x∈l,∀O',tq O O'->WG g (e x) J O' λJ1 O1=>WE G J1 O1 λd O3=>d=f x/\tq O O3/\tq O O1)
 (hq:∀O',tq O O'->Q (.loc O'.length) (O'++[.lst (l.map f)])):WL g zhl G ok J (l.map e) [] O Q :=
 zzr e l f (λ_=>true) hok (λx hx O' k=>by
  obtain⟨J1,O1,e1,d,O3,e3,h1,h2,h3⟩:=hs x hx O' k;exact⟨J1,O1,e1,true,O1,rfl,rfl,h3,λ_=>⟨d,O3,e3,h1,h2⟩⟩) (λO' k=>by rw[List.filter_eq_self.mpr (λ_ _=>rfl)];exact hq O' k)
def zgd{ds:List D}(h:ds.length<=1000000):few ds=true:=decide_eq_true h
def z7j{n:Nat}{ds:List D}{O O':Mem}(h:O[n]?=some (.lst ds))(k:tq O O'):zQm n ds O'=true:=TU.mpr (k n _ h)
end M
namespace M
open PySem PySem.Spec PyProof.Rows L2
structure KB(L:List Nat)(O O':Mem):Prop where
 len:O.length<=O'.length
 at_:∀(n:Nat)(o:tI),n∉L->O[n]?=some o->O'[n]?=some o
section
variable {L:List Nat}{O O1 O2 O':Mem}{n:Nat}{o:tI}
def KB.refl:KB L O O:=⟨yo _,λ_ _ _ h=>h⟩
def KB.trans(a:KB L O O1)(b:KB L O1 O2):KB L O O2:=⟨yq a.len b.len,λn o h e=>b.at_ n o h (a.at_ n o h e)⟩
def KB.app{g:Mem}(a:KB L O O1):KB L O (O1++g):=⟨by simp;have:=a.len;omega,λn o h e=>zfe (a.at_ n o h e)⟩
def KB.set{m:Nat}(a:KB L O O1)(h:m∈L\/O.length<=m):KB L O (O1.set m o):=⟨by simp;exact a.len,λn o' hn e=>by
 rw[yT]
 ·exact a.at_ n o' hn e
 ·rintro rfl;rcases h with h|h
  ·exact hn h
  ·exact absurd (zGc e) (by omega)⟩
def KB.keep(a:KB [] O O'):tq O O':=λn o e=>a.at_ n o (by simp) e
def KB.of_keep(a:tq O O'):KB L O O':=⟨a.len,λn o _ e=>a n o e⟩
def KB.sub{L':List Nat}(a:KB L O O')(h:∀n∈L,n∈L'\/O.length<=n):KB L' O O':=⟨a.len,λn o hn e=>a.at_ n o (λq=>by
 rcases h n q with h|h
 ·exact hn h
 ·exact absurd (zGc e) (by omega)) e⟩
def KB.step{L':List Nat}(a:KB L O O1)(b:KB L' O1 O2)(h:∀n∈L',n∈L\/O.length<=n):KB L O O2:=⟨yq a.len b.len,λn o hn e=>b.at_ n o (λq=>by
 rcases h n q with h|h
 ·exact hn h
 ·exact absurd (zGc e) (by omega)) (a.at_ n o hn e)⟩
variable {G ψ χ:FE}{g g2:φ2}{J:Loc}{Q:D->Mem->Prop}{i j:Int}{d x y:D}{ds xs:List D}
def z8o(h:WE G J O λx O1=>∃j:Int,x=.int j/\(-(2^62)<=j/\j<=1000000)/\Q (.loc O1.length) (O1++[.lst ((Yp j.toNat).map λ(k:Nat) =>.int k)])):WE (zDn G) J O Q:=by
 obtain⟨x,O1,e1,j,rfl,h1,q⟩:=h;exact⟨_,_,by simp only[zDn,e1,yi];rw[decide_eq_true h1];rfl,q⟩
def zOt{n:Nat}{bs:List Bool}(h:O[n]?=some (.lst (bs.map .bl)))(q:Q (.bl (bs.any λb=>b)) O):WF zKt [.loc n] O Q:=⟨_,_,by simp[h,List.any_map,Function.comp_def],q⟩
def zds(q:Q (.int i) O):WF zSu [.int i] O Q:=⟨_,_,rfl,q⟩
def zhs{b:Bool}(q:Q (.int (if b then 1 else 0)) O):WF zSu [.bl b] O Q:=⟨_,_,rfl,q⟩
def zTr(q:Q (.int (if j<i then j else i)) O):WF zVt [.int i,.int j] O Q:=⟨_,_,rfl,q⟩
def zbs(q:Q (.int (if j>i then j else i)) O):WF z9t [.int i,.int j] O Q:=⟨_,_,rfl,q⟩
def zhu{c:FT}(h:WT c J O λb O1=>(b=true->WE G J O1 Q)/\(b=false->WE ψ J O1 Q)):WE (fIf c G ψ) J O Q:=by
 obtain⟨b,O1,e,h1,h2⟩:=h
 cases b with
 |true=>obtain⟨d,O2,e2,k⟩:=h1 rfl;exact⟨d,O2,by simp[e,e2],k⟩
 |false=>obtain⟨d,O2,e2,k⟩:=h2 rfl;exact⟨d,O2,by simp[e,e2],k⟩
def zcs{l:Nat}{n:Int}(h:O[l]?=some (.lst xs))(h1:n<=1000)(h2:-(2^62)<=n)(h3:xs.length<=1000)(q:Q (.loc O.length) (O++[.lst (yl n.toNat xs).flatten])):W2 zPi (.loc l) (.int n) O Q :=
 ⟨_,_,by simp only[zPi,h];rw[decide_eq_true ⟨h1,h2,h3⟩];rfl,q⟩
def z5q{lo hi:FO}(h:WE G J O λx O1=>WO lo J O1 λl O2=>WO hi J O2 λu O3=>∃n ds,x=.loc n/\O3[n]?=some (.lst ds)/\Q (.loc O3.length) (O3++[.lst (cutD ds l u)])):WE (fSl G lo hi) J O Q:=by
 obtain⟨x,O1,e1,l,O2,e2,u,O3,e3,n,ds,rfl,e4,q⟩:=h;exact⟨_,_,by simp[e1,e2,e3,e4]<;>rfl,q⟩
end
abbrev nat(S:List Nat):List D:=S.map λ(k:Nat)=>D.int k
def zyl{α:Type}(f:α->Nat)(l:List α):nat (l.map f)=l.map λa=>D.int (f a:Nat):=map_map
class Enc(α:Type) where
 d:α->D
 p:α->xk
 dep:Nat
 rd:∀(O:Mem)(n:Nat)(a:α),toP O (n+dep) (d a)=some (p a)
 eq:∀a b:α,Yd (p a) (p b)=true↔a=b
instance:Enc Int:=⟨.int,.int,1,λ_ _ _=>rfl,λa b=>by simp[Yd]⟩
instance:Enc Nat:=⟨λ(k:Nat) =>.int k,λ(k:Nat) =>.int k,1,λ_ _ _=>rfl,λa b=>by simp[Yd];omega⟩
instance:Enc Bool:=⟨.bl,.bool,1,λ_ _ _=>rfl,λa b=>by simp[Yd]⟩
abbrev onD:Option Nat->D
 |none =>.non
 |some k =>.int k
instance:Enc (Option Nat):=⟨onD,fun|none =>.none|some k =>.int k,1,λ_ _ a=>by cases a<;>rfl,λa b=>by cases a<;>cases b<;>simp[Yd];omega⟩
def z8i{α:Type}[Enc α]:∀xs ys:List α,YH (xs.map Enc.p) (ys.map Enc.p)=true↔xs=ys
 |[],[]=>by simp[YH]
 |[],y::ys=>by simp[YH]
 |x::xs,[]=>by simp[YH]
 |x::xs,y::ys=>by
  rw[map_cons,map_cons,YH,yN,Enc.eq,z8i xs ys,yV]
def rdAll{α:Type}[Enc α](O:Mem)(n:Nat):∀xs:List α,(xs.map Enc.d).mapM (toP O (n+Enc.dep α))=some (xs.map Enc.p)
 |[]=>rfl
 |x::xs=>by rw[map_cons,mapM_cons,rdAll O n xs,Enc.rd];rfl
instance instEncList{α:Type}[Enc α]:Enc (List α):=⟨λxs =>.tup (xs.map Enc.d),λxs =>.tuple (xs.map Enc.p),Enc.dep α+1,λO n xs=>by
 show((xs.map Enc.d).mapM (toP O (n+Enc.dep α))).bind (λps=>some (PyData.tuple ps))=_;rw[rdAll];rfl,λa b=>by rw[Yd];exact z8i a b⟩
def zsm{O:Mem}{α:Type}[Enc α](a:α)(h:Enc.dep α<=8):toP O 8 (Enc.d a)=some (Enc.p a):=by
 have:=Enc.rd O (8-Enc.dep α) a;rw[Nat.sub_add_cancel h]at this;exact this
def zIp{b:Bool}{p:Prop}[Decidable p](h:b=true↔p):b=decide p:=by
 cases b<;>simp_all
section
variable {G ψ χ:FE}{g g2:φ2}{J:Loc}{O:Mem}{Q:D->Mem->Prop}{i j:Int}{d x y:D}{ds xs:List D}{α:Type}[Enc α][DecidableEq α]
def z3t(a b:α)(q:Q (.bl (decide (a=b))) O)(hx:x=Enc.d a:=by rfl)(hy:y=Enc.d b:=by rfl)(h:Enc.dep α<=8:=by decide):W2 gEq x y O Q:=by
 subst hx hy;exact zKu (zsm a h) (zsm b h) (by rw[zIp (Enc.eq a b)];exact q)
end
section
variable {G ψ χ:FE}{g g2:φ2}{J:Loc}{O:Mem}{Q:D->Mem->Prop}{i j:Int}{d x y:D}{ds xs:List D}
variable {nx:Loc->Mem->Prop}{rt:D->Mem->Prop}{bk ct:Loc->Mem->Prop}{p q:FS}
end
def zus{xs:List D}{O:Mem}{Q:D->Mem->Prop}(q:Q (.bl true) O):WF (zMm .tup) [.tup xs,.ty "tuple"] O Q:=zGj (c:=.tup) (t:=.tup) rfl q
def zRs{i:Int}{O:Mem}{Q:D->Mem->Prop}(q:Q (.bl true) O):WF (zMm .int) [.int i,.ty "int"] O Q:=zGj (c:=.int) (t:=.int) rfl q
def zcr{i:Int}{O:Mem}{Q:D->Mem->Prop}(q:Q (.bl false) O):WF (zMm .bl) [.int i,.ty "bool"] O Q:=zGj (c:=.bl) (t:=.int) rfl q
def zqt{s:yg}{O:Mem}{Q:D->Mem->Prop}(q:Q (.bl true) O):WF (zMm .str) [.str s,.ty "str"] O Q:=zGj (c:=.str) (t:=.str) rfl q
def zTn{G ψ χ:FE}{g g':φ2}{J:Loc}{O:Mem}{Q:D->Mem->Prop}(h:WE G J O λx O1=>WE ψ J O1 λy O2=>W2 g x y O2 λr O3=>∃b,r=.bl b/\(b=true->WE χ J O3 λz O4=>W2 g' y z O4 Q)/\(b=false->Q (.bl false) O3)):WE (zim g g' G ψ χ) J O Q:=by
 obtain⟨x,O1,e1,y,O2,e2,r,O3,e3,b,rfl,h1,h2⟩:=h
 cases b with
 |true=>obtain⟨z,O4,e4,d,O5,e5,q⟩:=h1 rfl;exact⟨d,O5,by simp[e1,e2,e3,e4,e5],q⟩
 |false=>exact⟨_,O3,by simp[e1,e2,e3],h2 rfl⟩
abbrev oiD:Option Int->D
 |none =>.non
 |some k =>.int k
instance:Enc (Option Int):=⟨oiD,fun|none =>.none|some k =>.int k,1,λ_ _ a=>by cases a<;>rfl,λa b=>by cases a<;>cases b<;>simp[Yd]⟩
section
variable {G ψ χ:FE}{g g2:φ2}{J:Loc}{O:Mem}{Q:D->Mem->Prop}{i j:Int}{d x y:D}{ds xs:List D}{kvs:List (Int×D)}{n:Nat}
end
end M
namespace M
open PySem PySem.Spec PyProof.Rows L2 PySem.Builtin PySem.Builtin.Str
section
variable {G:FE}{J:Loc}{O:Mem}{Q:D->Mem->Prop}
def zSb{m:GM}{α:FA}(h:WE G J O λx O1=>∃z,x=.str z/\WA α J O1 λds O2=>WM m (.str z) ds O2 Q):WE (zEb m G α) J O Q:=by
 obtain⟨d,O1,e,z,rfl,ds,O2,e2,d',O',e3,q⟩:=h;exact⟨d',O',by simp[e,e2,e3],q⟩
def zsg{n:Nat}{ys:List yg}{z:yg}(h:O[n]?=some (.lst (ys.map .str)))(hl:(ys.map (·.length)).sum+ys.length*z.length<=1000000)(q:Q (.str (yv z ys)) O):WM znf (.str z) [.loc n] O Q :=
 ⟨_,_,by simp only[znf,h,zDk,yi,decide_eq_true hl,cond_true],q⟩
def zFg{z y:yg}{ds:List D}(hs:(yx z y).map D.str=ds)(h:z.length<=1000000)(h1:1<=y.length)(q:Q (.loc O.length) (O++[.lst ds])):WM zgf (.str z) [.str y] O Q :=
 ⟨_,_,by simp only[zgf];rw[decide_eq_true ⟨h,h1⟩,hs];rfl,q⟩
def zDs{z y:yg}(q:Q (.int (Txt.find z y)) O):WM zuo (.str z) [.str y] O Q:=⟨_,_,rfl,q⟩
def zCs{x:yg}{n:Int}(h:intText? x=some n)(hl:x.length<=640)(q:Q (.int n) O):WF z7m [.str x] O Q :=
 ⟨_,_,by simp only[z7m];rw[decide_eq_true hl,h];rfl,q⟩
def z3d{a b:yg}(h:a.length+b.length<=1000000)(q:Q (.str (a++b)) O):W2 zH (.str a) (.str b) O Q :=
 ⟨_,_,by simp only[zH];rw[decide_eq_true h];rfl,q⟩
def zXk{a:yg}(h:a.length<=1000000)(q:Q (.int a.length) O):WF zQj [.str a] O Q :=
 ⟨_,_,by simp only[zQj];rw[decide_eq_true h];rfl,q⟩
def zgm{a b:yg}(q:Q (.bl (occurrences b a 0 b.length 1).isEmpty) O):W2 zYh (.str a) (.str b) O Q:=⟨_,_,rfl,q⟩
def z2p{z:yg}{i:Int}{c:Nat}(h:z.length<=1000000)(e:atI z.cps.toList i=some c)(q:Q (.str ⟨#[c]⟩) O):W2 zqp (.str z) (.int i) O Q :=
 ⟨_,_,by simp only[zqp];rw[decide_eq_true h,e];rfl,q⟩
def z5r{i:Int}(h:i.natAbs.log2<1920)(q:Q (.str (toString i)) O):WF zYn [.int i] O Q :=
 ⟨_,_,by simp only[zYn];rw[decide_eq_true h];rfl,q⟩
def zPs{R:List D->(Mem->Bool)->Mem->Prop}(h:WE G J O λx O1=>∃z,x=.str z/\z.cps.all (· < 128)=true/\R (zhj z) yes O1):WI (zDt G) J O R:=by
 obtain⟨d,O1,e,z,rfl,h1,q⟩:=h;exact⟨_,_,_,by simp only[zDt,e,yi,h1,cond_true],q⟩
end
end M
namespace M
open PySem PySem.W PyProof.Rows L2
def zVl{h:yS}:∀{as:List yc} {a:yc} {o:Yw},(kOf as h).lookup a=some o->h.get? a=some o
 |[],a,o,e=>by cases e
 |b::as,a,o,e=>by
  unfold kOf at e;rw[filterMap_cons]at e
  cases hb:h.get? b with
  |none=>rw[hb]at e;exact zVl (as:=as) e
  |some u=>
   rw[hb]at e
   change YT a ((b,u)::kOf as h)=some o at e
   rw[lookup_cons]at e
   by_cases q:a==b
   ·rw[q]at e;cases e;rw[eq_of_beq q];exact hb
   ·rw[Bool.not_eq_true]at q;rw[q]at e;exact zVl (as:=as) e
def zCr{h:yS}:(z1r h).In h:=λ_ _ e=>zVl e
def zLp(s:yQ):zLr s=zxd s:=by cases s<;>rfl
def zBp(s:yQ):zAr s=zoc s:=by cases s<;>rfl
def z8n(s:yQ):zxo s=zp s:=by cases s<;>rfl
def zHp{K:Frag}{a:yc}{nm qual:yg}{st:yQ}(e:zBm K a qual=zmo nm qual st):∃(oc:ya)(od:Option yc)(sl:Array (Option ya)) (kV dc pm:ya) (an:Option yc) (cd ct:ya),
 K.lookup a=some ⟨oc,od,.func (fnOf nm qual (zxd st) (zoc st) (zp st) .none kV dc pm an cd ct),sl⟩/\codeIn K cd qual=true/\keepIn K (.ref a)=true:=by
 rw[<-zLp,<-zBp,<-z8n];unfold zBm at e
 split at e
 ·rename_i oc od fd sl hl
  obtain⟨x1,x2,x3,x4,x5,x6,x7,x8,x9,x10,x11,x12,x13,x14,x15⟩:=fd;have e:=yU e;simp only[Tu.mk.injEq]at e;obtain⟨rfl,rfl,rfl,rfl,rfl,rfl,rfl,rfl,rfl,h1,h2⟩:=e;exact⟨_,_,_,_,_,_,_,_,_,hl,h1,h2⟩
 ·cases e
def fnl{K:Frag}{nm:yg}{st:yQ}{l l':List (Option Tu)}(e:z9 K nm::l=zfb nm st::l'):(∃(f:yc)(oc:ya)(od:Option yc)(sl:Array (Option ya)) (kV dc pm:ya) (an:Option yc) (cd ct:ya),
 nsIn K ye nm=some (some (.ref f))/\K.lookup f=some ⟨oc,od,.func (fnOf nm nm (zxd st) (zoc st) (zp st) .none kV dc pm an cd ct),sl⟩/\codeIn K cd nm=true/\keepIn K (.ref f)=true)/\l=l':=by
 obtain⟨h1,h2⟩:=yd e;refine⟨?_,h2⟩;unfold z9 at h1
 split at h1
 ·rename_i a ha
  obtain⟨oc,od,sl,kV,dc,pm,an,cd,ct,q⟩:=zHp (show zBm K a nm=zmo nm nm st from h1);exact⟨a,oc,od,sl,kV,dc,pm,an,cd,ct,ha,q⟩
 ·cases h1
def fnc{K:Frag}{nm:yg}{st:yQ}{l l':List (Option Tu)}(e:z9 K nm::l=zfb nm st::l'):(∃(f:yc)(fd:yf),nsIn K ye nm=some (some (.ref f))/\Fun K nm nm st f fd)/\l=l':=by
 obtain⟨⟨f,oc,od,sl,kV,dc,pm,an,cd,ct,a,l,c,k⟩,e⟩:=fnl e;exact⟨⟨f,_,a,zqq l c k⟩,e⟩
def zDf{K:Frag}{nm:yg}{i:Int}(e:zyg K nm=some i):∃t,nsIn K ye nm=some (some (.int i t)):=by
 unfold zyg at e
 split at e
 ·rename_i h
  cases e;exact⟨_,h⟩
 ·cases e
def z7k{K:Frag}{nm:yg}{i:yg}(e:zhk K nm=some i):∃t,nsIn K ye nm=some (some (.str i t)):=by
 unfold zhk at e
 split at e
 ·rename_i h
  cases e;exact⟨_,h⟩
 ·cases e
def Se{l:OpenLaw}{q:yu}{loose:List yg}{d:DefRec}{α:Type}{obs:Frag->α}{good:α}{N:Nat}(said:l.wellSaid=true)
 (left:LeftO l.prog q loose (λ_=>true) (λs=>obs (z1r s.heap)) (λ_=>good) N) (hdef:defOf q l.name=some (d,[])) (hp:l.prog.theDef l.name=some (d.params,d.body,d.scope))
 (hk:kwWritten? d.params.kwonlyargs d.params.kw_defaults=some []) (ok:(chainsOk q&&opensWell l.prog&&(frees l.row.toRowW&&l.row.within.isEmpty))=true) (hb:l.prog.bare) (hw:l.row.toRowW.promised)
 (walk:∀K:Frag,obs K=good->WalkO q loose (λ_ _=>True) (λ_ h=>K.In h) l.row.toRowW d [] λf vs=>PySem.call f vs):l.Holds:=by
 refine holds_law said λsaid=>?_
 refine holds_open (r:=l.row) (q:=q) (loose:=loose) (Xt:=λ_=>true) (XP:=λ_ _=>True) (Yf:=λs=>obs (z1r s.heap)) (Ya:=λ_=>good) (YP:=λ_ h=>∃K:Frag,obs K=good/\K.In h) (N:=N) left
  (λw s e=>⟨_,e,zCr⟩) (λw h h' ⟨K,e,k⟩ x=>⟨K,e,k.keeps x⟩) (λ_ _=>trivial) (λ_ _ _ _ _=>trivial) hdef hp hk (λs _=>?_) ?_ said ok hb hw (λw s₀ s₁ mg mb φ σ=>?_)
 ·exact(show RecFacts [] s.heap from⟨λx h=>(nomatch h),λx h=>(nomatch h),λc c' a hc=>(nomatch hc),λc fs hf=>(nomatch hf)⟩)
 ·show(!l.row.writes||true)=true;exact Bool.or_true _
 ·obtain⟨K,e,k⟩:=σ;exact walk K e w s₀ s₁ mg mb φ k
end M
namespace M
open PySem PySem.W PyProof.Rows L2
def zqo{K:Frag}{C:yc}(e:(clsIn K C).isSome=true):∃cd,clsIn K C=some cd:=Option.isSome_iff_exists.mp e
end M
namespace P
local macro_rules | `(tactic| walk_at "s") => `(tactic| exact ⟨rfl, rfl, rfl, by decide +kernel, rfl, by decide +kernel, by decide +kernel⟩)
open PySem PySem.Spec PyProof.Rows L2 M
def top(i:Nat):yQ:=PySem.Challenge.pw_keynests_k63_texts_refused.main.body.getD i (.Pass ⟨0,0,0,0⟩)
def kit:Kit:=[((none,.own "NoText"),false),((none,.ty "ValueError"),false),((none,.own "Full"),false),((none,.own "NoFit"),false),((none,.own "NoKey"),false),((none,.own "NoPairs"),false),((none,.own "NoPush"),false),((none,.own "NoRow"),false),((none,.own "NoRule"),false),((none,.own "Twice"),false),((some "NoText",.own "NoText"),true),((some "NoText",.ty "ValueError"),true),((some "NoText",.own "Full"),false),((some "NoText",.own "NoFit"),false),((some "NoText",.own "NoKey"),false),((some "NoText",.own "NoPairs"),false),((some "NoText",.own "NoPush"),false),((some "NoText",.own "NoRow"),false),((some "NoText",.own "NoRule"),false),((some "NoText",.own "Twice"),false)]
def z7d:List yg:=["_law_script","_law_k","_law_number"]
def z4d:FS:=(znb (zlc 2 (fC (.int 0))) (znb (sIf (zRc (zw (zFm λi j=>decide (j<i)) (zv zVo (zd (zk 0) zx)) (fC (.int 0)))) (zlc 2 (zw zmn (zw gIx (zk 0) (zw zmn (zk 1) (zv zVo (zd (zk 0) zx)))) (fC (.int 2305843009213693951)))) z1d) (znb (zlc 2 (zw zmn (zw z7f (zw z7f (zw z7f (zw zPi (zk 2) (fC (.int 48271))) (zw zPi (zw zPi (zk 1) (zk 1)) (fC (.int 40692)))) (zw zPi (fC (.int 7)) (zk 1))) (fC (.int 11))) (fC (.int 2147483647)))) (zje (zw zmn (zw zPi (zk 2) (fC (.int 1181783497276652981))) (fC (.int 2305843009213693951)))))))
def zrc:FF:=λds O=>zrd (z4d (zM z7d ds) O)
def zcd:List yg:=["_law_script","_law_k"]
def zbd:FS:=(znb (sIf (zRc (zw (zFm λi j=>decide (i<j)) (zk 1) (zv zVo (zd (zk 0) zx)))) (zje (zw gIx (zk 0) (zk 1))) z1d) (zje (zv zrc (zd (zk 0) (zd (zk 1) zx)))))
def zQb:FF:=λds O=>zrd (zbd (zM zcd ds) O)
def zdj:List yg:=["_law_script","_law_k","_law_cell"]
def zch:FS:=(znb (zlc 2 (zv zQb (zd (zk 0) (zd (zk 1) zx)))) (zje (z4f (zd (zw zmn (zk 2) (fC (.int 2))) (zd (zw zQr (zk 2) (fC (.int 2))) (zd (zv zVo (zd (zk 0) zx)) (zd (zw zPi (fC (.int 101)) (zk 1)) zx)))))))
def zEd:FF:=λds O=>zrd (zch (zM zdj ds) O)
def z2e:List yg:=["_law_pen_here","_law_size","_law_digit","_law_at","_law_number"]
def zcf:FS:=(znb (sIf (zRc (zw gEq (zw gIx (zk 0) (fC (.int 0))) (fC (.int 0)))) (znb (zlc 2 (zw zmn (zw gIx (zk 0) (fC (.int 1))) (zk 1))) (znb (zSr (zw zQr (zw gIx (zk 0) (fC (.int 1))) (zk 1)) (gAt (zk 0) (fC (.int 1)))) (zje (zk 2)))) z1d) (znb (zSr (zw z7f (zw gIx (zk 0) (fC (.int 3))) (fC (.int 1))) (gAt (zk 0) (fC (.int 3)))) (znb (zlc 3 (zw gIx (zk 0) (fC (.int 3)))) (znb (zlc 4 (zw zPi (zw zmn (zw gIx (zk 0) (fC (.int 1))) (fC (.int 2305843009213693951))) (fC (.int 48271)))) (znb (zlc 4 (zw zmn (zw z7f (zw z7f (zw z7f (zk 4) (zw zPi (zw zPi (zk 3) (zk 3)) (fC (.int 40692)))) (zw zPi (fC (.int 7)) (zk 3))) (fC (.int 11))) (fC (.int 2147483647)))) (zje (zw zmn (zw zQr (zw zmn (zw zPi (zk 4) (fC (.int 1181783497276652981))) (fC (.int 2305843009213693951))) (fC (.int 64))) (zk 1))))))))
def zo:FF:=λds O=>zrd (zcf (zM z2e ds) O)
def z1g:FE:=(zxq (zd (zv zo (zd (zk 1) (zd (zk 2) zx))) (zd (zv zo (zd (zk 1) (zd (zk 2) zx))) zx)))
def zWg:FE:=(zv zo (zd (zk 1) (zd (fC (.int 10)) zx)))
def zki:List yg:=["_law_pen_here","_law_many","_law_rooms","_law_size","_law_turns"]
def zUe:FS:=(znb (zlc 1 (zw z7f (fC (.int 1)) (zv zo (zd (zk 0) (zd (fC (.int 10)) zx))))) (znb (zlc 2 (zv zod (zd (fLC 1 [0] (zPf (zd (zk 1) zx)) (gN 0) zhl zWg) zx))) (znb (zlc 3 (zw gIx (z4f (zd (fC (.int 10007)) (zd (fC (.int 30)) zx))) (zv zo (zd (zk 0) (zd (fC (.int 2)) zx))))) (znb (zlc 4 (zv zod (zd (fLC 1 [0,3] (zPf (zd (zw z7f (fC (.int 2)) (zv zo (zd (zk 0) (zd (fC (.int 2)) zx)))) zx)) (gN 0) zhl z1g) zx))) (zje (zxq (zd (zk 2) (zd (zk 4) zx))))))))
def zPe:FF:=λds O=>zrd (zUe (zM zki ds) O)
def z9d:FS:=(znb (zlc 8 (z4f (zd (zv zo (zd (zk 0) (zd (zk 2) zx))) (zd (zv zo (zd (zk 0) (zd (zk 2) zx))) zx)))) (znb (sIf (zRc (zw gEq (zv zo (zd (zk 0) (zd (fC (.int 3)) zx))) (fC (.int 1)))) (z0l (zAl ztf (zk 8) (zd (zv zo (zd (zk 0) (zd (zk 2) zx))) zx))) z1d) (z0l (zAl ztf (zk 6) (zd (zv zod (zd (zk 8) zx)) zx)))))
def zee:FE:=(zw gIx (z4f (zd (zv zo (zd (zk 1) (zd (fC (.int 3)) zx))) (zd (fC (.int 1)) (zd (zv zo (zd (zk 1) (zd (fC (.int 10)) zx))) (zd (zv zo (zd (zk 1) (zd (fC (.int 2)) zx))) zx))))) (zk 2))
def zpj:List yg:=["_law_pen_here","_law_limit","_law_many","_law_kind","_law_rooms","_law_count","_law_keys","_law_k","_law_key"]
def zjh:FS:=(znb (zlc 2 (zw z7f (fC (.int 1)) (zv zo (zd (zk 0) (zd (fC (.int 6)) zx))))) (znb (sIf (zRc (zw gEq (zv zo (zd (zk 0) (zd (fC (.int 8)) zx))) (fC (.int 5)))) (zlc 2 (zw z7f (fC (.int 7)) (zv zo (zd (zk 0) (zd (fC (.int 4)) zx))))) z1d) (znb (zlc 3 (zv zo (zd (zk 0) (zd (fC (.int 4)) zx)))) (znb (zlc 4 (zv zod (zd (fLC 1 [0,3] (zPf (zd (zk 2) zx)) (gN 0) zhl zee) zx))) (znb (zlc 5 (zv zo (zd (zk 0) (zd (zw z7f (zk 1) (fC (.int 1))) zx)))) (znb (zlc 6 (z4f zx)) (znb (z3q (zPf (zd (zk 5) zx)) (gN 7) z9d) (zje (zxq (zd (zk 4) (zd (zv zod (zd (zk 6) zx)) zx)))))))))))
def zWf:FF:=λds O=>zrd (zjh (zM zpj ds) O)
def zkf:FE:=(zv zYn (zd (zk 0) zx))
def zrg:List yg:=["numbers"]
def z4c:FS:=(zje (zEb znf (fC (.str ",")) (zd (fLC 1 [] (zek (zk 0)) (gN 0) zhl zkf) zx)))
def zyb:FF:=λds O=>zrd (z4c (zM zrg ds) O)
def z5g:FE:=(zv zyb (zd (zk 0) zx))
def z6h:List yg:=["rule"]
def z7e:FS:=(zje (zEb znf (fC (.str " ")) (zd (zw z7f (z4f (zd (zv zyb (zd (zw gIx (zk 0) (fC (.int 0))) zx)) zx)) (fLC 1 [] (zek (zw gIx (zk 0) (fC (.int 1)))) (gN 0) zhl z5g)) zx)))
def zVc:FF:=λds O=>zrd (z7e (zM z6h ds) O)
def zog:FE:=(zw zqp (fC (.str "abcdefghijklmnopqrstuvwxyz")) (zk 0))
def zvh:List yg:=["nests"]
def zhe:FS:=(zje (zEb znf (fC (.str " ")) (zd (fLC 1 [] (zek (zk 0)) (gN 0) zhl zog) zx)))
def z6d:FF:=λds O=>zrd (zhe (zM zvh ds) O)
def zrh:FE:=(zv z6d (zd (zk 0) zx))
def zej:List yg:=["web"]
def zdg:FS:=(zje (zEb znf (fC (.str "; ")) (zd (zw z7f (z4f (zd (zv zyb (zd (zw gIx (zk 0) (fC (.int 0))) zx)) zx)) (fLC 1 [] (zek (zw gIx (zk 0) (fC (.int 1)))) (gN 0) zhl zrh)) zx)))
def zDd:FF:=λds O=>zrd (zdg (zM zej ds) O)
def zFf:List yg:=["_law_rule_here","_law_text","_law_bits","_law_first","_law_way","_law_rest","_law_rooms","_law_bad"]
def zBc:FS:=(znb (zlc 2 (zEb zgf (zk 1) (zd (fC (.str " ")) zx))) (znb (zSr (fSl (zk 2) pNo (znm (fC (.int 2)))) (gTL 2 (zTk (gN 3) (zTk (gN 4) zPp)))) (znb (zlc 5 (zEb znf (fC (.str " ")) (zd (fSl (zk 2) (znm (fC (.int 1))) pNo) zx))) (znb (zlc 6 (zEb zgf (zk 3) (zd (fC (.str ",")) zx))) (znb (zlc 7 (z4f (zd (zw zH (zw zH (zk 3) (fC (.str ", "))) (zk 5)) (zd (zw zH (zw zH (zw zH (fC (.str "0")) (zk 3)) (fC (.str " "))) (zk 5)) (zd (zw zH (zw zH (zw zH (fC (.str "-1,")) (zk 3)) (fC (.str " "))) (zk 5)) (zd (zw zH (fC (.str "10 ")) (zk 5)) (zd (zw zH (fC (.str " ")) (zk 5)) zx))))))) (znb (zlc 7 (zw z7f (zk 7) (z4f (zd (zEb znf (fC (.str " ")) (zd (z4f (zd (zw zH (zw zrk (fC (.str "1,")) (fC (.int 10))) (fC (.str "1"))) (zd (zk 5) zx))) zx)) (zd (zk 3) (zd (zw zH (zw zH (zk 3) (fC (.str " "))) (zk 4)) (zd (zw zH (zk 1) (fC (.str " "))) (zd (zw zH (fC (.str " ")) (zk 1)) (zd (zw zH (zk 1) (fC (.str " 3"))) zx))))))))) (znb (zlc 7 (zw z7f (zk 7) (z4f (zd (zw zH (zw zH (zk 3) (fC (.str "  "))) (zk 5)) (zd (zw zH (zw zH (zw zH (zw zH (zk 3) (fC (.str " "))) (zk 4)) (fC (.str ",3 "))) (zk 5)) (zd (zw zH (zk 1) (fC (.str " 3,10007"))) (zd (zw zH (zk 1) (fC (.str " 03,4"))) zx))))))) (znb (z0l (zAl ztf (zk 7) (zd (zw zH (zk 1) (fC (.str " 3,-0"))) zx))) (znb (zlc 7 (zw z7f (zk 7) (z4f (zd (zw zH (zk 3) (fC (.str " 1,2 3,4 5,6 7,8"))) (zd (zw zH (zw zH (zw zH (zk 1) (fC (.str " 1"))) (zw zrk (fC (.str "0")) (fC (.int 60)))) (fC (.str ",4"))) (zd (zw zH (zk 3) (fC (.str " 3, 4 5,6"))) (zd (zEb znf (fC (.str ",")) (zd (zk 2) zx)) (zd (fC (.str "")) zx)))))))) (znb (zlc 7 (zw z7f (zk 7) (z4f (zd (z9n "," ";" (zk 1)) (zd (zw zH (zk 1) (fC (.str ","))) (zd (zEb znf (fC (.str " ")) (zd (z4f (zd (zw zH (zEb znf (fC (.str ";")) (zd (zk 6) zx)) (fC (.str ";"))) (zd (zk 5) zx))) zx)) (zd (zw zH (fC (.str "+")) (zk 1)) zx))))))) (zje (zk 7))))))))))))
def zKc:FF:=λds O=>zrd (zBc (zM zFf ds) O)
def zkg:List yg:=["_law_web_here","_law_text","_law_many","_law_beyond","_law_first","_law_bad"]
def zad:FS:=(znb (zlc 2 (zv zVo (zd (zw gIx (zk 0) (fC (.int 0))) zx))) (znb (zlc 3 (zw zqp (fC (.str "abcdefghijk")) (zk 2))) (znb (zlc 4 (zw gIx (zEb zgf (zk 1) (zd (fC (.str "; ")) zx)) (fC (.int 0)))) (znb (zlc 5 (z4f (zd (zw zH (zk 1) (fC (.str ";"))) (zd (zw zH (zk 1) (fC (.str "; "))) (zd (zw zH (zk 1) (fC (.str "; a"))) (zd (zw zH (zk 1) (fC (.str "; a a a a"))) (zd (zw zH (zw zH (zk 1) (fC (.str "; a "))) (zk 3)) (zd (zw zH (zk 1) (fC (.str "; A a"))) zx)))))))) (znb (zlc 5 (zw z7f (zk 5) (z4f (zd (zw zH (zk 1) (fC (.str "; a  a"))) (zd (zw zH (zk 1) (fC (.str ";a a"))) (zd (zw zH (zk 1) (fC (.str "; a a "))) (zd (zw zH (zk 1) (fC (.str ";  a a"))) (zd (zw zH (zk 1) (fC (.str "; aa a"))) zx)))))))) (znb (zlc 5 (zw z7f (zk 5) (z4f (zd (zw zH (zk 1) (fC (.str "; a,a"))) (zd (zw zH (zk 4) (zw zrk (fC (.str "; a a")) (fC (.int 31)))) zx))))) (znb (zlc 5 (zw z7f (zk 5) (z4f (zd (zw zH (fC (.str "10")) (z2o (zk 1) (znm (fC (.int 1))) pNo)) (zd (zw zH (fC (.str "0")) (zk 1)) (zd (zw zH (fC (.str "-")) (zk 1)) (zd (zw zH (zEb znf (fC (.str ",")) (zd (zw zPi (z4f (zd (fC (.str "1")) zx)) (fC (.int 11))) zx)) (fC (.str "; a a"))) (zd (fC (.str "; a a")) (zd (fC (.str "")) (zd (zw zH (zk 4) (fC (.str ",; a a"))) zx)))))))))) (znb (zlc 5 (zw z7f (zk 5) (z4f (zd (zw zH (fC (.str " ")) (zk 1)) (zd (zw zH (zk 1) (fC (.str " "))) (zd (zw zH (zk 1) (fC (.str "; 0 0"))) (zd (zw zH (zk 1) (fC (.str "; a a;"))) (zd (zw zH (fC (.str "+")) (zk 1)) (zd (zw zH (zk 1) (fC (.str "; a k"))) zx))))))))) (zje (zk 5))))))))))
def z5c:FF:=λds O=>zrd (zad (zM zkg ds) O)
def zph:List yg:=["text"]
def zvc:FS:=(sIf (z4m (zRc (zv (zMm .str) (zd (zk 0) (zd (fC (.ty "str")) zx))))) (zNf "NoText" (zd (fC (.str "this is no text")) zx)) z1d)
def z0b:FX:=λds O=>zVp (zvc (zM zph ds) O)
def zuf:FE:=(zw zYh (zk 0) (fC (.str "0123456789")))
def zLg:List yg:=["word"]
def zBd:FS:=(znb (sIf (zis (zRc (zw gEq (zv zQj (zd (zk 0) zx)) (fC (.int 0)))) (zis (zRc (zw (zFm λi j=>decide (j<i)) (zv zQj (zd (zk 0) zx)) (fC (.int (60))))) (zRc (zv zKt (zd (fLC 1 [] (zDt (zk 0)) (gN 0) zhl zuf) zx))))) (zNf "NoText" (zd (fC (.str "a number is not written by figures")) zx)) z1d) (znb (sIf (z2q (zRc (zw gEq (zw zqp (zk 0) (fC (.int 0))) (fC (.str "0")))) (zRc (zw (zFm λi j=>decide (j<i)) (zv zQj (zd (zk 0) zx)) (fC (.int 1))))) (zNf "NoText" (zd (fC (.str "a number has a nought ahead")) zx)) z1d) (zje (zv z7m (zd (zk 0) zx)))))
def zCd:FX:=λds O=>zVp (zBd (zM zLg ds) O)
def zlf:FR:=(fXC zCd (zd (zk 0) zx))
def zng:List yg:=["word"]
def z6c:FS:=(zkn (zUg zod (fLX 1 [] (zek (zEb zgf (zk 0) (zd (fC (.str ",")) zx))) (gN 0) zlf)))
def z5:FX:=λds O=>zVp (z6c (zM zng ds) O)
def zah:List yg:=["thing","fewest","most"]
def zJe:FS:=(zje (zzk (zv (zMm .tup) (zd (zk 0) (zd (fC (.ty "tuple")) zx))) (zim (zFm λi j=>decide (i<=j)) (zFm λi j=>decide (i<=j)) (zk 1) (zv zVo (zd (zk 0) zx)) (zk 2))))
def zbb:FF:=λds O=>zrd (zJe (zM zah ds) O)
def zwg:List yg:=["thing","greatest"]
def zWd:FS:=(zje (zzk (zv (zMm .int) (zd (zk 0) (zd (fC (.ty "int")) zx))) (zzk (zHt (zv (zMm .bl) (zd (zk 0) (zd (fC (.ty "bool")) zx)))) (zim (zFm λi j=>decide (i<=j)) (zFm λi j=>decide (i<=j)) (fC (.int 0)) (zk 0) (zk 1)))))
def z2c:FF:=λds O=>zrd (zWd (zM zwg ds) O)
def zmc:FE:=(zv z2c (zd (zk 0) (zd (zk 1) zx)))
def zye:List yg:=["thing","fewest","most","greatest"]
def zjb:FS:=(zje (zzk (zv zbb (zd (zk 0) (zd (zk 1) (zd (zk 2) zx)))) (zv zPr (zd (fLC 1 [3] (zek (zk 0)) (gN 0) zhl zmc) zx))))
def zL:FF:=λds O=>zrd (zjb (zM zye ds) O)
def zni:List yg:=["thing"]
def zWc:FS:=(zje (zv zL (zd (zk 0) (zd (fC (.int 1)) (zd (fC (.int (10))) (zd (fC (.int (9))) zx))))))
def zic:FF:=λds O=>zrd (zWc (zM zni ds) O)
def zHf:FE:=(zv zL (zd (zk 0) (zd (fC (.int 2)) (zd (fC (.int 2)) (zd (zw zZq (fC (.int (10007))) (fC (.int 1))) zx)))))
def zsj:List yg:=["thing"]
def zHd:FS:=(zje (zzk (zv zbb (zd (zk 0) (zd (fC (.int 2)) (zd (fC (.int 3)) zx)))) (zv zPr (zd (fLC 1 [] (zek (zk 0)) (gN 0) zhl zHf) zx))))
def zwe:FF:=λds O=>zrd (zHd (zM zsj ds) O)
def zpl:List yg:=["thing"]
def zEe:FS:=(zje (zzk (zv zbb (zd (zk 0) (zd (fC (.int 2)) (zd (fC (.int 2)) zx)))) (zzk (zv zic (zd (zw gIx (zk 0) (fC (.int 0))) zx)) (zv zwe (zd (zw gIx (zk 0) (fC (.int 1))) zx)))))
def zZd:FF:=λds O=>zrd (zEe (zM zpl ds) O)
def z5j:FR:=(fXC z5 (zd (zk 0) zx))
def z4h:List yg:=["text","words","rule"]
def zOd:FS:=(znb (z6l z0b (zd (zk 0) zx)) (znb (zlc 1 (zEb zgf (zk 0) (zd (fC (.str " ")) zx))) (znb (z2m 2 (zbl (fXC z5 (zd (zw gIx (zk 1) (fC (.int 0))) zx)) (zUg zod (fLX 1 [] (zek (fSl (zk 1) (znm (fC (.int 1))) pNo)) (gN 0) z5j)))) (znb (sIf (z4m (zRc (zv zZd (zd (zk 2) zx)))) (zNf "NoText" (zd (fC (.str "the text shows no rule")) zx)) z1d) (zje (zk 2))))))
def zpb:FX:=λds O=>zVp (zOd (zM z4h ds) O)
def zGf:FE:=(zv zL (zd (zk 0) (zd (fC (.int 2)) (zd (fC (.int 3)) (zd (zw zZq (zk 1) (fC (.int 1))) zx)))))
def zoj:List yg:=["thing","nests"]
def zFd:FS:=(zje (zzk (zv zbb (zd (zk 0) (zd (fC (.int 0)) (zd (fC (.int (30))) zx)))) (zv zPr (zd (fLC 1 [1] (zek (zk 0)) (gN 0) zhl zGf) zx))))
def zAe:FF:=λds O=>zrd (zFd (zM zoj ds) O)
def z9l:List yg:=["thing"]
def zZf:FS:=(zje (zzk (zv zbb (zd (zk 0) (zd (fC (.int 2)) (zd (fC (.int 2)) zx)))) (zzk (zv zic (zd (zw gIx (zk 0) (fC (.int 0))) zx)) (zv zAe (zd (zw gIx (zk 0) (fC (.int 1))) (zd (zv zVo (zd (zw gIx (zk 0) (fC (.int 0))) zx)) zx))))))
def zVe:FF:=λds O=>zrd (zZf (zM z9l ds) O)
def zNi:List yg:=["word"]
def zef:FS:=(znb (sIf (zis (zRc (zw gNe (zv zQj (zd (zk 0) zx)) (fC (.int 1)))) (zRc (zw zYh (zk 0) (fC (.str "abcdefghijklmnopqrstuvwxyz"))))) (zNf "NoText" (zd (fC (.str "a nest is not written as a letter")) zx)) z1d) (zje (zEb zuo (fC (.str "abcdefghijklmnopqrstuvwxyz")) (zd (zk 0) zx))))
def zff:FX:=λds O=>zVp (zef (zM zNi ds) O)
def zmg:FR:=(fXC zff (zd (zk 0) zx))
def zCh:List yg:=["words"]
def zge:FS:=(zkn (zUg zod (fLX 1 [] (zek (zEb zgf (zk 0) (zd (fC (.str " ")) zx))) (gN 0) zmg)))
def zid:FX:=λds O=>zVp (zge (zM zCh ds) O)
def zql:FR:=(fXC zid (zd (zk 0) zx))
def zvj:List yg:=["text","pieces","web"]
def zHe:FS:=(znb (z6l z0b (zd (zk 0) zx)) (znb (zlc 1 (zEb zgf (zk 0) (zd (fC (.str "; ")) zx))) (znb (z2m 2 (zbl (fXC z5 (zd (zw gIx (zk 1) (fC (.int 0))) zx)) (zUg zod (fLX 1 [] (zek (fSl (zk 1) (znm (fC (.int 1))) pNo)) (gN 0) zql)))) (znb (sIf (z4m (zRc (zv zVe (zd (zk 2) zx)))) (zNf "NoText" (zd (fC (.str "the text shows no web")) zx)) z1d) (zje (zk 2))))))
def ztb:FX:=λds O=>zVp (zHe (zM zvj ds) O)
def zDh:List yg:=["_law_way","_law_text","_law_found","_law_caught","e","_law_others"]
def zbe:FS:=(znb (zlc 2 (fC .non)) (znb (zlc 3 (fC .non)) (znb (z4o (zpn 2 (zw gIx (z4f (zd (fC (.own "read_rule")) (zd (fC (.own "read_web")) zx))) (zk 0)) [("read_rule",zpb),("read_web",ztb)] (zd (zk 1) zx)) (hAs 4 [("NoText",true)] (zlc 3 (zk 4)) zzt)) (znb (sIf (zRc (zw gIs (zk 3) (fC .non))) (zje (zk 2)) z1d) (znb (zlc 5 (zv (zUn kit) (zd (zk 3) (zd (zxq (zd (fC (.own "Full")) (zd (fC (.own "NoFit")) (zd (fC (.own "NoKey")) (zd (fC (.own "NoPairs")) (zd (fC (.own "NoPush")) (zd (fC (.own "NoRow")) (zd (fC (.own "NoRule")) (zd (fC (.own "Twice")) zx))))))))) zx)))) (zje (zzk (zv (zUn kit) (zd (zk 3) (zd (fC (.own "NoText")) zx))) (zzk (zv (zUn kit) (zd (zk 3) (zd (fC (.ty "ValueError")) zx))) (zHt (zk 5))))))))))
def zU:FF:=λds O=>zrd (zbe (zM zDh ds) O)
def zDe:List yg:=["_law_way","_law_text","_law_found"]
def zlb:FS:=(znb (zlc 2 (zv zU (zd (zk 0) (zd (zk 1) zx)))) (znb (sIf (zRc (zv (zMm .bl) (zd (zk 2) (zd (fC (.ty "bool")) zx)))) (zje (zk 2)) z1d) (znb (sIf (zRc (zw gEq (zk 0) (fC (.int 0)))) (zje (zzk (zv zZd (zd (zk 2) zx)) (zw gEq (zv zVc (zd (zk 2) zx)) (zk 1)))) z1d) (zje (zzk (zv zVe (zd (zk 2) zx)) (zw gEq (zv zDd (zd (zk 2) zx)) (zk 1)))))))
def zkb:FF:=λds O=>zrd (zlb (zM zDe ds) O)
def z1h:List yg:=["_law_pen_here","_law_text","_law_at","_law_sign_here","_law_way"]
def z1e:FS:=(znb (zlc 2 (zv zo (zd (zk 0) (zd (zw z7f (zv zQj (zd (zk 1) zx)) (fC (.int 1))) zx)))) (znb (zlc 3 (zw zqp (fC (.str "0123456789,; abcdjkAB-+._")) (zv zo (zd (zk 0) (zd (fC (.int 25)) zx))))) (znb (zlc 4 (zv zo (zd (zk 0) (zd (fC (.int 3)) zx)))) (znb (sIf (zRc (zw gEq (zk 4) (fC (.int 0)))) (zje (zw zH (zw zH (z2o (zk 1) pNo (znm (zk 2))) (zk 3)) (z2o (zk 1) (znm (zk 2)) pNo))) z1d) (znb (sIf (zRc (zw gEq (zk 4) (fC (.int 1)))) (zje (zw zH (z2o (zk 1) pNo (znm (zk 2))) (z2o (zk 1) (znm (zw z7f (zk 2) (fC (.int 1)))) pNo))) z1d) (zje (zw zH (zw zH (z2o (zk 1) pNo (znm (zk 2))) (zk 3)) (z2o (zk 1) (znm (zw z7f (zk 2) (fC (.int 1)))) pNo))))))))
def z9e:FF:=λds O=>zrd (z1e (zM z1h ds) O)
def zMl:FS:=(znb (zlc 8 (zv zEd (zd (zk 0) (zd (zw z7f (zw z7f (fC (.int 2)) (zw zPi (fC (.int 6)) (zk 6))) (zk 7)) zx)))) (znb (sIf (z4m (zRc (zv zkb (zd (zk 6) (zd (zv z9e (zd (zk 8) (zd (zw gIx (zk 4) (zk 6)) zx))) zx))))) (zje (fC (.bl false))) z1d) (znb (sIf (zRc (zw zjl (zv zU (zd (zk 6) (zd (zw gIx (zw gIx (zk 5) (zk 6)) (zv zo (zd (zk 8) (zd (zv zVo (zd (zw gIx (zk 5) (zk 6)) zx)) zx)))) zx))) (fC (.bl true)))) (zje (fC (.bl false))) z1d) (znb (zlc 9 (zw gIx (z4f (zd (fC .non) (zd (fC (.int 5)) (zd (fC (.bl true)) (zd (z4f (zd (zw gIx (zk 4) (zk 6)) zx)) (zd (zxq zx) (zd z5t (zd (zk 2) zx)))))))) (zv zo (zd (zk 8) (zd (fC (.int 7)) zx))))) (sIf (zRc (zw zjl (zv zU (zd (zk 6) (zd (zk 9) zx))) (fC (.bl true)))) (zje (fC (.bl false))) z1d)))))
def zsn:FS:=(z3q (zPf (zd (fC (.int 6)) zx)) (gN 7) zMl)
def z6s:List yg:=["_law_script","_law_pen_here","_law_rule_here","_law_web_here","_law_texts","_law_bads","_law_way","_law_k","_law_more","_law_thing"]
def zYp:FS:=(znb (zlc 1 (zv zEd (zd (zk 0) (zd (fC (.int 0)) zx)))) (znb (zlc 2 (zv zPe (zd (zk 1) zx))) (znb (zlc 3 (zv zWf (zd (zv zEd (zd (zk 0) (zd (fC (.int 1)) zx))) (zd (fC (.int 28)) zx)))) (znb (zlc 4 (z4f (zd (zv zVc (zd (zk 2) zx)) (zd (zv zDd (zd (zk 3) zx)) zx)))) (znb (zlc 5 (z4f (zd (zv zKc (zd (zk 2) (zd (zw gIx (zk 4) (fC (.int 0))) zx))) (zd (zv z5c (zd (zk 3) (zd (zw gIx (zk 4) (fC (.int 1))) zx))) zx)))) (znb (z3q (zPf (zd (fC (.int 2)) zx)) (gN 6) zsn) (zje (zzk (zw gEq (zvm zpb (zd (zw gIx (zk 4) (fC (.int 0))) zx)) (zk 2)) (zw gEq (zvm ztb (zd (zw gIx (zk 4) (fC (.int 1))) zx)) (zk 3))))))))))
def zhn:FF:=λds O=>zrd (zYp (zM z6s ds) O)
structure Txt(K:yr)(mg:yg->Option ya):Prop where
 Ti:∃C,yK K ye "NoText"=some (some (.ref C))/\mg "NoText"=some (.ref C)/\Yy K C "BaseException"=true
 x_Twice:∃C,yK K ye "Twice"=some (some (.ref C))/\mg "Twice"=some (.ref C)/\Yy K C "BaseException"=true
 Sf:∃C,yK K ye "NoRule"=some (some (.ref C))/\mg "NoRule"=some (.ref C)/\Yy K C "BaseException"=true
 x_NoRow:∃C,yK K ye "NoRow"=some (some (.ref C))/\mg "NoRow"=some (.ref C)/\Yy K C "BaseException"=true
 Sg:∃C,yK K ye "NoPush"=some (some (.ref C))/\mg "NoPush"=some (.ref C)/\Yy K C "BaseException"=true
 sP:∃C,yK K ye "NoPairs"=some (some (.ref C))/\mg "NoPairs"=some (.ref C)/\Yy K C "BaseException"=true
 x_NoKey:∃C,yK K ye "NoKey"=some (some (.ref C))/\mg "NoKey"=some (.ref C)/\Yy K C "BaseException"=true
 x_NoFit:∃C,yK K ye "NoFit"=some (some (.ref C))/\mg "NoFit"=some (.ref C)/\Yy K C "BaseException"=true
 x_Full:∃C,yK K ye "Full"=some (some (.ref C))/\mg "Full"=some (.ref C)/\Yy K C "BaseException"=true
 ss:∃C,yK K ye "NestError"=some (some (.ref C))/\mg "NestError"=some (.ref C)/\Yy K C "BaseException"=true
 Tj:∀C,yK K ye "NoText"=some (some (.ref C))->W.excIn K C [.type "ValueError",.type "Exception",.type "BaseException",.type "object"] "ValueError.__new__"=true
 su:∀C,yK K ye "NestError"=some (some (.ref C))->TY K C [("NoText",true)]
 kit:tK K kit
 Tw:∃f,yK K ye "read_rule"=some (some (.ref f))/\mg "read_rule"=some (.ref f)
 TF:∃f,yK K ye "read_web"=some (some (.ref f))/\mg "read_web"=some (.ref f)
 TZ:mg "ValueError"=none
 Si:mg "all"=none
 n_any:mg "any"=none
 Sj:mg "bool"=none
 n_int:mg "int"=none
 tN:mg "isinstance"=none
 Tk:mg "len"=none
 To:mg "range"=none
 n_str:mg "str"=none
 tX:mg "tuple"=none
 sQ:∃t,mg "DIVISOR"=some (.int 10007 t)
 sd:∃t,mg "MOST_NESTS"=some (.int 10 t)
 sv:∃t,mg "MOST_ROOM"=some (.int 9 t)
 sw:∃t,mg "MOST_KEYS"=some (.int 30 t)
 sU:∃t,mg "FIGURES"=some (.str "0123456789" t)
 TN:∃t,mg "MOST_FIGURES"=some (.int 60 t)
 TC:∃t,mg "LETTERS"=some (.str "abcdefghijklmnopqrstuvwxyz" t)
def zfk:yW "ValueError"=some (.type "ValueError"):=by decide +kernel
def zbo:yW "all"=some (.builtin "all"):=by decide +kernel
def zEs:yW "any"=some (.builtin "any"):=by decide +kernel
def zNn:yW "bool"=some (.type "bool"):=by decide +kernel
def zsq:yW "int"=some (.type "int"):=by decide +kernel
def zwb:yW "isinstance"=some (.builtin "isinstance"):=by decide +kernel
def zse:yW "len"=some (.builtin "len"):=by decide +kernel
def zkq:yW "str"=some (.type "str"):=by decide +kernel
def zed:yW "tuple"=some (.type "tuple"):=by decide +kernel
section
variable {P:yu}{w:yI}{K:yr}{mg:yg->Option ya}{base:yS}
set_option maxHeartbeats 4000000
abbrev zde:yQ:=top 41
abbrev z5b:List yg:=["_law_script","_law_k"]
def tY:tz z7d z5b (zp zde):=by walk_at "s"
def zWi(T:Txt K mg){f:yc}{fd:yf}(B:FnAt K mg "_law_mixed" zde z5b f fd):tw P w K mg base CX0 1 f fd z5b (spM K 2 zrc):=by
 refine fnM B.fn tY rfl (λcdv A outer s H E hr=>⟨z4d,?_,λ_ _ _ _ _ e=>e⟩);have hu:=hr.units;exact(zi (zC 2 zh (hN:=tY.nd)) (zi (z6e (ztd zwo (zP znd T.Tk zse (za (mv 0) zc)) zh) (zu (zC 2 (zt zne (z4b (mv 0) (zt zne (mv 1) (zP znd T.Tk zse (za (mv 0) zc)))) zh) (hN:=tY.nd))) zNb) (zi (zC 2 (zt zne (zt z4 (zt z4 (zt z4 (zt zSc (mv 2) zh) (zt zSc (zt zSc (mv 1) (mv 1)) zh)) (zt zSc zh (mv 1))) zh) zh) (hN:=tY.nd)) (zu (z0 (zt zne (zt zSc (mv 2) zh) zh))))))
abbrev zfd:yQ:=top 42
abbrev zAb:List yg:=["_law_script","_law_k"]
def zbi:tz zcd zAb (zp zfd):=by walk_at "s"
def zEh(T:Txt K mg){zsh:yc}{zMg:yf}(z8d:FnAt K mg "_law_mixed" zde z5b zsh zMg)(z4e:tw P w K mg base CX0 1 zsh zMg z5b (spM K 2 zrc)){f:yc}{fd:yf}(B:FnAt K mg "_law_cell_at" zfd zAb f fd):tw P w K mg base CX0 2 f fd zAb (spM K 2 zQb):=by
 refine fnM B.fn zbi rfl (λcdv A outer s H E hr=>⟨zbd,?_,λ_ _ _ _ _ e=>e⟩);have hu:=hr.units;exact(zi (z6e (ztd zBt (mv 1) (zP znd T.Tk zse (za (mv 0) zc))) (zu (z0 (z4b (mv 0) (mv 1)))) zNb) (zu (z0 (tx z8d z4e hr (za (mv 0) (za (mv 1) zc))))))
abbrev z5f:yQ:=top 44
abbrev zTc:List yg:=["_law_script","_law_k"]
def TH:tz zdj zTc (zp z5f):=by walk_at "s"
def zfl(T:Txt K mg){zlg:yc}{zIf:yf}(z7c:FnAt K mg "_law_cell_at" zfd zAb zlg zIf)(zMd:tw P w K mg base CX0 2 zlg zIf zAb (spM K 2 zQb)){f:yc}{fd:yf}(B:FnAt K mg "_law_pen" z5f zTc f fd):tw P w K mg base CX0 3 f fd zTc (spM K 2 zEd):=by
 refine fnM B.fn TH rfl (λcdv A outer s H E hr=>⟨zch,?_,λ_ _ _ _ _ e=>e⟩);have hu:=hr.units;exact(zi (zC 2 (tx z7c zMd hr (za (mv 0) (za (mv 1) zc))) (hN:=TH.nd)) (zu (z0 (zTb (za (zt zne (mv 2) zh) (za (zt zGl (mv 2) zh) (za (zP znd T.Tk zse (za (mv 0) zc)) (za (zt zSc zh (mv 1)) zc))))))))
abbrev zhc:yQ:=top 43
abbrev z3:List yg:=["_law_pen_here","_law_size"]
def tU:tz z2e z3 (zp zhc):=by walk_at "s"
def zRj(T:Txt K mg){f:yc}{fd:yf}(B:FnAt K mg "_law_take" zhc z3 f fd):tw P w K mg base CX0 1 f fd z3 (spM K 2 zo):=by
 refine fnM B.fn tU rfl (λcdv A outer s H E hr=>⟨zcf,?_,λ_ _ _ _ _ e=>e⟩);have hu:=hr.units;exact(zi (z6e (ztd (zmf hu) (z4b (mv 0) zh) zh) (zi (zC 2 (zt zne (z4b (mv 0) zh) (mv 1)) (hN:=tU.nd)) (zi (z1n (zt zGl (z4b (mv 0) zh) (mv 1)) (z2s (mv 0) zh)) (zu (z0 (mv 2))))) zNb) (zi (z1n (zt z4 (z4b (mv 0) zh) zh) (z2s (mv 0) zh)) (zi (zC 3 (z4b (mv 0) zh) (hN:=tU.nd)) (zi (zC 4 (zt zSc (zt zne (z4b (mv 0) zh) zh) zh) (hN:=tU.nd)) (zi (zC 4 (zt zne (zt z4 (zt z4 (zt z4 (mv 4) (zt zSc (zt zSc (mv 3) (mv 3)) zh)) (zt zSc zh (mv 3))) zh) zh) (hN:=tU.nd)) (zu (z0 (zt zne (zt zGl (zt zne (zt zSc (mv 4) zh) zh) zh) (mv 1)))))))))
abbrev zdf:yQ:=top 46
abbrev zAc:List yg:=["_law_pen_here"]
def tV:tz zki zAc (zp zdf):=by walk_at "s"
def zbk(T:Txt K mg){zqb:yc}{z6:yf}(zq:FnAt K mg "_law_take" zhc z3 zqb z6)(zn:tw P w K mg base CX0 1 zqb z6 z3 (spM K 2 zo)){f:yc}{fd:yf}(B:FnAt K mg "_law_rule" zdf zAc f fd):tw P w K mg base CX0 2 f fd zAc (spM K 1 zPe):=by
 refine fnM B.fn tV rfl (λcdv A outer s H E hr=>⟨zUe,?_,λ_ _ _ _ _ e=>e⟩);have hu:=hr.units;exact(zi (zC 1 (zt z4 zh (tx zq zn hr (za (mv 0) (za zh zc)))) (hN:=tV.nd)) (zi (zC 2 (z5e zJb T.tX zed (za (mlc ["_law_k"] [0] (z6f T.To (za (mv 1) zc)) (λ_ _ _ _ _=>(zHb 0 (hN:=zKb (by rfl)))) (λ_ _ _ _ _=>zjf) (λ_ _ _ _ _=>(tx zq zn hr (za (mv 1) (za zh zc)))) (zzg ⟨_,rfl,rfl⟩ zCc)) zc)) (hN:=tV.nd)) (zi (zC 3 (z4b (zTb (za zh (za zh zc))) (tx zq zn hr (za (mv 0) (za zh zc)))) (hN:=tV.nd)) (zi (zC 4 (z5e zJb T.tX zed (za (mlc ["_law_k"] [0,3] (z6f T.To (za (zt z4 zh (tx zq zn hr (za (mv 0) (za zh zc)))) zc)) (λ_ _ _ _ _=>(zHb 0 (hN:=zKb (by rfl)))) (λ_ _ _ _ _=>zjf) (λ_ _ _ _ _=>(zLk (za (tx zq zn hr (za (mv 1) (za (mv 2) zc))) (za (tx zq zn hr (za (mv 1) (za (mv 2) zc))) zc)))) (zzg ⟨_,rfl,rfl⟩ (zzg ⟨_,rfl,rfl⟩ zCc))) zc)) (hN:=tV.nd)) (zu (z0 (zLk (za (mv 2) (za (mv 4) zc)))))))))
abbrev zYf:yQ:=top 45
abbrev z1c:List yg:=["_law_pen_here","_law_limit"]
def tO:tz zpj z1c (zp zYf):=by walk_at "s"
def zOk(T:Txt K mg){zqb:yc}{z6:yf}(zq:FnAt K mg "_law_take" zhc z3 zqb z6)(zn:tw P w K mg base CX0 1 zqb z6 z3 (spM K 2 zo)){f:yc}{fd:yf}(B:FnAt K mg "_law_web" zYf z1c f fd):tw P w K mg base CX0 2 f fd z1c (spM K 2 zWf):=by
 refine fnM B.fn tO rfl (λcdv A outer s H E hr=>⟨zjh,?_,λ_ _ _ _ _ e=>e⟩);have hu:=hr.units;exact(zi (zC 2 (zt z4 zh (tx zq zn hr (za (mv 0) (za zh zc)))) (hN:=tO.nd)) (zi (z6e (ztd (zmf hu) (tx zq zn hr (za (mv 0) (za zh zc))) zh) (zu (zC 2 (zt z4 zh (tx zq zn hr (za (mv 0) (za zh zc)))) (hN:=tO.nd))) zNb) (zi (zC 3 (tx zq zn hr (za (mv 0) (za zh zc))) (hN:=tO.nd)) (zi (zC 4 (z5e zJb T.tX zed (za (mlc ["_law_k"] [0,3] (z6f T.To (za (mv 2) zc)) (λ_ _ _ _ _=>(zHb 0 (hN:=zKb (by rfl)))) (λ_ _ _ _ _=>zjf) (λ_ _ _ _ _=>(z4b (zTb (za (tx zq zn hr (za (mv 1) (za zh zc))) (za zh (za (tx zq zn hr (za (mv 1) (za zh zc))) (za (tx zq zn hr (za (mv 1) (za zh zc))) zc))))) (mv 2))) (zzg ⟨_,rfl,rfl⟩ (zzg ⟨_,rfl,rfl⟩ zCc))) zc)) (hN:=tO.nd)) (zi (zC 5 (tx zq zn hr (za (mv 0) (za (zt z4 (mv 1) zh) zc))) (hN:=tO.nd)) (zi (zC 6 (zTb zc) (hN:=tO.nd)) (zi (zpo (z6f T.To (za (mv 5) zc)) (zei 7 (hN:=tO.nd)) (zi (zC 8 (zTb (za (tx zq zn hr (za (mv 0) (za (mv 2) zc))) (za (tx zq zn hr (za (mv 0) (za (mv 2) zc))) zc))) (hN:=tO.nd)) (zi (z6e (ztd (zmf hu) (tx zq zn hr (za (mv 0) (za zh zc))) zh) (zu (zWl (zmi (mv 8) (za (tx zq zn hr (za (mv 0) (za (mv 2) zc))) zc)))) zNb) (zu (zWl (zmi (mv 6) (za (z5e zJb T.tX zed (za (mv 8) zc)) zc))))))) (zu (z0 (zLk (za (mv 4) (za (z5e zJb T.tX zed (za (mv 6) zc)) zc))))))))))))
abbrev zbc:yQ:=top 29
abbrev z7:List yg:=["numbers"]
def zDi:tz zrg z7 (zp zbc):=by walk_at "s"
def zIh(T:Txt K mg){f:yc}{fd:yf}(B:FnAt K mg "show_numbers" zbc z7 f fd):tw P w K mg base CX0 1 f fd z7 (spM K 1 zyb):=by
 refine fnM B.fn zDi rfl (λcdv A outer s H E hr=>⟨z4c,?_,λ_ _ _ _ _ e=>e⟩);have hu:=hr.units;exact(zu (z0 (zke zr (za (mlc ["number"] [] (zSf (mv 0)) (λ_ _ _ _ _=>(zHb 0 (hN:=zKb (by rfl)))) (λ_ _ _ _ _=>zjf) (λ_ _ _ _ _=>(z5e z6m T.n_str zkq (za (mv 0) zc))) zCc) zc))))
abbrev zQd:yQ:=top 30
abbrev zCb:List yg:=["rule"]
def z0k:tz z6h zCb (zp zQd):=by walk_at "s"
def zJj(T:Txt K mg){zcc:yc}{z1b:yf}(zib:FnAt K mg "show_numbers" zbc z7 zcc z1b)(zrb:tw P w K mg base CX0 1 zcc z1b z7 (spM K 1 zyb)){f:yc}{fd:yf}(B:FnAt K mg "show_rule" zQd zCb f fd):tw P w K mg base CX0 2 f fd zCb (spM K 1 zVc):=by
 refine fnM B.fn z0k rfl (λcdv A outer s H E hr=>⟨z7e,?_,λ_ _ _ _ _ e=>e⟩);have hu:=hr.units;exact(zu (z0 (zke zr (za (zt z4 (zTb (za (tx zib zrb hr (za (z4b (mv 0) zh) zc)) zc)) (mlc ["way"] [] (zSf (z4b (mv 0) zh)) (λ_ _ _ _ _=>(zHb 0 (hN:=zKb (by rfl)))) (λ_ _ _ _ _=>zjf) (λ_ _ _ _ _=>(tx zib zrb hr (za (mv 0) zc))) zCc)) zc))))
abbrev z5d:yQ:=top 31
abbrev z7b:List yg:=["nests"]
def zDj:tz zvh z7b (zp z5d):=by walk_at "s"
def zSi(T:Txt K mg){f:yc}{fd:yf}(B:FnAt K mg "show_homes" z5d z7b f fd):tw P w K mg base CX0 1 f fd z7b (spM K 1 z6d):=by
 refine fnM B.fn zDj rfl (λcdv A outer s H E hr=>⟨zhe,?_,λ_ _ _ _ _ e=>e⟩);have hu:=hr.units;exact(zu (z0 (zke zr (za (mlc ["nest"] [] (zSf (mv 0)) (λ_ _ _ _ _=>(zHb 0 (hN:=zKb (by rfl)))) (λ_ _ _ _ _=>zjf) (λ_ _ _ _ _=>(ztm (z2j T.TC) (mv 0))) zCc) zc))))
abbrev zKe:yQ:=top 32
abbrev zYb:List yg:=["web"]
def zRl:tz zej zYb (zp zKe):=by walk_at "s"
def zYk(T:Txt K mg){zcc:yc}{z1b:yf}(zib:FnAt K mg "show_numbers" zbc z7 zcc z1b)(zrb:tw P w K mg base CX0 1 zcc z1b z7 (spM K 1 zyb)){zth:yc}{z3g:yf}(zae:FnAt K mg "show_homes" z5d z7b zth z3g)(z0e:tw P w K mg base CX0 1 zth z3g z7b (spM K 1 z6d)){f:yc}{fd:yf}(B:FnAt K mg "show_web" zKe zYb f fd):tw P w K mg base CX0 2 f fd zYb (spM K 1 zDd):=by
 refine fnM B.fn zRl rfl (λcdv A outer s H E hr=>⟨zdg,?_,λ_ _ _ _ _ e=>e⟩);have hu:=hr.units;exact(zu (z0 (zke zr (za (zt z4 (zTb (za (tx zib zrb hr (za (z4b (mv 0) zh) zc)) zc)) (mlc ["nests"] [] (zSf (z4b (mv 0) zh)) (λ_ _ _ _ _=>(zHb 0 (hN:=zKb (by rfl)))) (λ_ _ _ _ _=>zjf) (λ_ _ _ _ _=>(tx zae z0e hr (za (mv 0) zc))) zCc)) zc))))
abbrev zHc:yQ:=top 50
abbrev zub:List yg:=["_law_rule_here","_law_text"]
def tD:tz zFf zub (zp zHc):=by walk_at "s"
def z8g(T:Txt K mg){f:yc}{fd:yf}(B:FnAt K mg "_law_bad_rule" zHc zub f fd):tw P w K mg base CX0 1 f fd zub (spM K 2 zKc):=by
 refine fnM B.fn tD rfl (λcdv A outer s H E hr=>⟨zBc,?_,λ_ _ _ _ _ e=>e⟩);have hu:=hr.units;exact(zi (zC 2 (zXe (mv 1) (za zr zc)) (hN:=tD.nd)) (zi (z1n (zmp (mv 2) zqi (zRf zh)) (zbr (zJm (zei 3 (hN:=tD.nd)) (zJm (zei 4 (hN:=tD.nd)) zlr)))) (zOs (zC 5 (zke zr (za (zmp (mv 2) (zRf zh) zqi) zc)) (hN:=tD.nd)) (z4i (zC 6 (zXe (mv 3) (za zr zc)) (hN:=tD.nd)) (z4i (zC 7 (zTb (za (zt zj (zt zj (mv 3) zr) (mv 5)) (za (zt zj (zt zj (zt zj zr (mv 3)) zr) (mv 5)) (za (zt zj (zt zj (zt zj zr (mv 3)) zr) (mv 5)) (za (zt zj zr (mv 5)) (za (zt zj zr (mv 5)) zc)))))) (hN:=tD.nd)) (z4i (zC 7 (zt z4 (mv 7) (zTb (za (zke zr (za (zTb (za (zt zj (zt znk zr zh) zr) (za (mv 5) zc))) zc)) (za (mv 3) (za (zt zj (zt zj (mv 3) zr) (mv 4)) (za (zt zj (mv 1) zr) (za (zt zj zr (mv 1)) (za (zt zj (mv 1) zr) zc)))))))) (hN:=tD.nd)) (z4i (zC 7 (zt z4 (mv 7) (zTb (za (zt zj (zt zj (mv 3) zr) (mv 5)) (za (zt zj (zt zj (zt zj (zt zj (mv 3) zr) (mv 4)) zr) (mv 5)) (za (zt zj (mv 1) zr) (za (zt zj (mv 1) zr) zc)))))) (hN:=tD.nd)) (z4i (zWl (zmi (mv 7) (za (zt zj (mv 1) zr) zc))) (z4i (zC 7 (zt z4 (mv 7) (zTb (za (zt zj (mv 3) zr) (za (zt zj (zt zj (zt zj (mv 1) zr) (zt znk zr zh)) zr) (za (zt zj (mv 3) zr) (za (zke zr (za (mv 2) zc)) (za zr zc))))))) (hN:=tD.nd)) (zlu (zhr 7 (zas z4 (mv 7) (zPq (zKp (mv 1)) (za (zt zj (mv 1) zr) (za (zke zr (za (zTb (za (zt zj (zke zr (za (mv 6) zc)) zr) (za (mv 5) zc))) zc)) (za (zt zj zr (mv 1)) zc))))) (hN:=tD.nd)) (zu (z0 (mv 7)))))))))))))
abbrev zdd:yQ:=top 51
abbrev zzb:List yg:=["_law_web_here","_law_text"]
def tH:tz zkg zzb (zp zdd):=by walk_at "s"
def zJh(T:Txt K mg){f:yc}{fd:yf}(B:FnAt K mg "_law_bad_web" zdd zzb f fd):tw P w K mg base CX0 1 f fd zzb (spM K 2 z5c):=by
 refine fnM B.fn tH rfl (λcdv A outer s H E hr=>⟨zad,?_,λ_ _ _ _ _ e=>e⟩);have hu:=hr.units;exact(zi (zC 2 (zP znd T.Tk zse (za (z4b (mv 0) zh) zc)) (hN:=tH.nd)) (zi (zC 3 (ztm zr (mv 2)) (hN:=tH.nd)) (zi (zC 4 (z4b (zXe (mv 1) (za zr zc)) zh) (hN:=tH.nd)) (zi (zC 5 (zTb (za (zt zj (mv 1) zr) (za (zt zj (mv 1) zr) (za (zt zj (mv 1) zr) (za (zt zj (mv 1) zr) (za (zt zj (zt zj (mv 1) zr) (mv 3)) (za (zt zj (mv 1) zr) zc))))))) (hN:=tH.nd)) (zi (zC 5 (zt z4 (mv 5) (zTb (za (zt zj (mv 1) zr) (za (zt zj (mv 1) zr) (za (zt zj (mv 1) zr) (za (zt zj (mv 1) zr) (za (zt zj (mv 1) zr) zc))))))) (hN:=tH.nd)) (zi (zC 5 (zt z4 (mv 5) (zTb (za (zt zj (mv 1) zr) (za (zt zj (mv 4) (zt znk zr zh)) zc)))) (hN:=tH.nd)) (zi (zC 5 (zt z4 (mv 5) (zTb (za (zt zj zr (zri (mv 1) (zRf zh) zqi)) (za (zt zj zr (mv 1)) (za (zt zj zr (mv 1)) (za (zt zj (zke zr (za (zt zSc (zTb (za zr zc)) zh) zc)) zr) (za zr (za zr (za (zt zj (mv 4) zr) zc))))))))) (hN:=tH.nd)) (zi (zC 5 (zt z4 (mv 5) (zTb (za (zt zj zr (mv 1)) (za (zt zj (mv 1) zr) (za (zt zj (mv 1) zr) (za (zt zj (mv 1) zr) (za (zt zj zr (mv 1)) (za (zt zj (mv 1) zr) zc)))))))) (hN:=tH.nd)) (zu (z0 (mv 5)))))))))))
abbrev zsd:yQ:=top 36
abbrev zxb:List yg:=["text"]
def zEj:tz zph zxb (zp zsd):=by walk_at "s"
def zZi(T:Txt K mg){f:yc}{fd:yf}(B:FnAt K mg "check_text" zsd zxb f fd):tw P w K mg base (CXq P w) 1 f fd zxb (spX K 1 z0b):=by
 obtain⟨zIc,n_NoText,m_NoText,k_NoText⟩:=T.Ti;refine fnX B.fn zEj rfl (λcdv A outer s H E hr=>⟨zvc,?_,λ_ _ _ _ e=>e⟩);have hu:=hr.units;exact(zu (z6e (zHm (zAj (zP (zvf .str) T.tN zwb (za (mv 0) (za (zuj T.n_str zkq) zc))))) (zu (zcg n_NoText (T.Tj zIc n_NoText) Ym (za zr zc))) zNb))
abbrev zzd:yQ:=top 33
abbrev zPb:List yg:=["word"]
def zYi:tz zLg zPb (zp zzd):=by walk_at "s"
def zZh(T:Txt K mg){f:yc}{fd:yf}(B:FnAt K mg "read_number" zzd zPb f fd):tw P w K mg base (CXq P w) 1 f fd zPb (spX K 1 zCd):=by
 obtain⟨zIc,n_NoText,m_NoText,k_NoText⟩:=T.Ti;refine fnX B.fn zYi rfl (λcdv A outer s H E hr=>⟨zBd,?_,λ_ _ _ _ e=>e⟩);have hu:=hr.units;exact(zi (z6e (MW.mt (zNr (ztd (zmf hu) (zP zve T.Tk zse (za (mv 0) zc)) zh) (zNr (ztd zwo (zP zve T.Tk zse (za (mv 0) zc)) (zji T.TN)) (zyq (zAj (zP (zvn rfl) T.n_any zEs (za (mlc ["sign"] [] (zgs (mv 0)) (λ_ _ _ _ _=>(zHb 0 (hN:=zKb (by rfl)))) (λ_ _ _ _ _=>zjf) (λ_ _ _ _ _=>(z4k zBj (mv 0) (z2j T.sU))) zCc) zc))))))) (zu (zcg n_NoText (T.Tj zIc n_NoText) Ym (za zr zc))) zNb) (zi (z6e (MW.mt (z8r (ztd (zmf hu) (ztm (mv 0) zh) zr) (zkr (ztd zwo (zP zve T.Tk zse (za (mv 0) zc)) zh)))) (zu (zcg n_NoText (T.Tj zIc n_NoText) Ym (za zr zc))) zNb) (zu (z0 (z5e zOm T.n_int zsq (za (mv 0) zc))))))
abbrev zdc:yQ:=top 34
abbrev z8:List yg:=["word"]
def z9h:tz zng z8 (zp zdc):=by walk_at "s"
def zGh(T:Txt K mg){z4g:yc}{zqg:yf}(zAd:FnAt K mg "read_number" zzd zPb z4g zqg)(zle:tw P w K mg base (CXq P w) 1 z4g zqg zPb (spX K 1 zCd)){f:yc}{fd:yf}(B:FnAt K mg "read_numbers" zdc z8 f fd):tw P w K mg base (CXq P w) 2 f fd z8 (spX K 1 z5):=by
 refine fnX B.fn z9h rfl (λcdv A outer s H E hr=>⟨z6c,?_,λ_ _ _ _ e=>e⟩);have hu:=hr.units;exact(zu (zIn (zQh zJb T.tX zed (zgp ["part"] [] (zSf (zXe (mv 0) (za zr zc))) (λ_ _ _ _ _ _=>(zHb 0 (hN:=zKb (by rfl)))) (λ_ _ _ _ _ _=>(zkh zAd zle hr (za (mv 0) zc))) zCc))))
abbrev zxc:yQ:=top 16
abbrev zX:List yg:=["thing","fewest","most"]
def z5l:tz zah zX (zp zxc):=by walk_at "s"
def zAk(T:Txt K mg){f:yc}{fd:yf}(B:FnAt K mg "is_tuple" zxc zX f fd):tw P w K mg base CX0 1 f fd zX (spM K 3 zbb):=by
 refine fnM B.fn z5l rfl (λcdv A outer s H E hr=>⟨zJe,?_,λ_ _ _ _ _ e=>e⟩);have hu:=hr.units;exact(zu (z0 (zNd (zP (zvf .tup) T.tN zwb (za (mv 0) (za (zuj T.tX zed) zc))) (zCf (zrm zwm zwm (mv 1) (zP znd T.Tk zse (za (mv 0) zc)) (mv 2))))))
abbrev zMe:yQ:=top 15
abbrev zyc:List yg:=["thing","greatest"]
def zgl:tz zwg zyc (zp zMe):=by walk_at "s"
def zak(T:Txt K mg){f:yc}{fd:yf}(B:FnAt K mg "is_number" zMe zyc f fd):tw P w K mg base CX0 1 f fd zyc (spM K 2 z2c):=by
 refine fnM B.fn zgl rfl (λcdv A outer s H E hr=>⟨zWd,?_,λ_ _ _ _ _ e=>e⟩);have hu:=hr.units;exact(zu (z0 (zNd (zP (zvf .int) T.tN zwb (za (mv 0) (za (zuj T.n_int zsq) zc))) (zNd (zcq (zP (zvf .bl) T.tN zwb (za (mv 0) (za (zuj T.Sj zNn) zc)))) (zCf (zrm zwm zwm zh (mv 0) (mv 1)))))))
abbrev zmb:yQ:=top 17
abbrev zA:List yg:=["thing","fewest","most","greatest"]
def zHg:tz zye zA (zp zmb):=by walk_at "s"
def zDg(T:Txt K mg){zab:yc}{zV:yf}(zZ:FnAt K mg "is_tuple" zxc zX zab zV)(zS:tw P w K mg base CX0 1 zab zV zX (spM K 3 zbb)){z8h:yc}{zBh:yf}(zbf:FnAt K mg "is_number" zMe zyc z8h zBh)(zLf:tw P w K mg base CX0 1 z8h zBh zyc (spM K 2 z2c)){f:yc}{fd:yf}(B:FnAt K mg "is_number_tuple" zmb zA f fd):tw P w K mg base CX0 2 f fd zA (spM K 4 zL):=by
 refine fnM B.fn zHg rfl (λcdv A outer s H E hr=>⟨zjb,?_,λ_ _ _ _ _ e=>e⟩);have hu:=hr.units;exact(zu (z0 (zNd (tx zZ zS hr (za (mv 0) (za (mv 1) (za (mv 2) zc)))) (zCf (zP (zXh rfl) T.Si zbo (za (mlc ["part"] [3] (zSf (mv 0)) (λ_ _ _ _ _=>(zHb 0 (hN:=zKb (by rfl)))) (λ_ _ _ _ _=>zjf) (λ_ _ _ _ _=>(tx zbf zLf hr (za (mv 0) (za (mv 1) zc)))) (zzg ⟨_,rfl,rfl⟩ zCc)) zc))))))
abbrev zSd:yQ:=top 18
abbrev zFb:List yg:=["thing"]
def zUk:tz zni zFb (zp zSd):=by walk_at "s"
def zNj(T:Txt K mg){zT:yc}{zN:yf}(zD:FnAt K mg "is_number_tuple" zmb zA zT zN)(zG:tw P w K mg base CX0 2 zT zN zA (spM K 4 zL)){f:yc}{fd:yf}(B:FnAt K mg "are_rooms" zSd zFb f fd):tw P w K mg base CX0 3 f fd zFb (spM K 1 zic):=by
 refine fnM B.fn zUk rfl (λcdv A outer s H E hr=>⟨zWc,?_,λ_ _ _ _ _ e=>e⟩);have hu:=hr.units;exact(zu (z0 (tx zD zG hr (za (mv 0) (za zh (za (zji T.sd) (za (zji T.sv) zc)))))))
abbrev z3f:yQ:=top 19
abbrev zPc:List yg:=["thing"]
def zKl:tz zsj zPc (zp z3f):=by walk_at "s"
def zvk(T:Txt K mg){zab:yc}{zV:yf}(zZ:FnAt K mg "is_tuple" zxc zX zab zV)(zS:tw P w K mg base CX0 1 zab zV zX (spM K 3 zbb)){zT:yc}{zN:yf}(zD:FnAt K mg "is_number_tuple" zmb zA zT zN)(zG:tw P w K mg base CX0 2 zT zN zA (spM K 4 zL)){f:yc}{fd:yf}(B:FnAt K mg "are_ways" z3f zPc f fd):tw P w K mg base CX0 3 f fd zPc (spM K 1 zwe):=by
 refine fnM B.fn zKl rfl (λcdv A outer s H E hr=>⟨zHd,?_,λ_ _ _ _ _ e=>e⟩);have hu:=hr.units;exact(zu (z0 (zNd (tx zZ zS hr (za (mv 0) (za zh (za zh zc)))) (zCf (zP (zXh rfl) T.Si zbo (za (mlc ["way"] [] (zSf (mv 0)) (λ_ _ _ _ _=>(zHb 0 (hN:=zKb (by rfl)))) (λ_ _ _ _ _=>zjf) (λ_ _ _ _ _=>(tx zD zG hr (za (mv 0) (za zh (za zh (za (zt zSn (zji T.sQ) zh) zc)))))) zCc) zc))))))
abbrev zqf:yQ:=top 20
abbrev zuc:List yg:=["thing"]
def z3m:tz zpl zuc (zp zqf):=by walk_at "s"
def zDl(T:Txt K mg){zab:yc}{zV:yf}(zZ:FnAt K mg "is_tuple" zxc zX zab zV)(zS:tw P w K mg base CX0 1 zab zV zX (spM K 3 zbb)){zRd:yc}{zpd:yf}(znc:FnAt K mg "are_rooms" zSd zFb zRd zpd)(ztc:tw P w K mg base CX0 3 zRd zpd zFb (spM K 1 zic)){zwj:yc}{zvi:yf}(z2f:FnAt K mg "are_ways" z3f zPc zwj zvi)(zug:tw P w K mg base CX0 3 zwj zvi zPc (spM K 1 zwe)){f:yc}{fd:yf}(B:FnAt K mg "is_rule" zqf zuc f fd):tw P w K mg base CX0 4 f fd zuc (spM K 1 zZd):=by
 refine fnM B.fn z3m rfl (λcdv A outer s H E hr=>⟨zEe,?_,λ_ _ _ _ _ e=>e⟩);have hu:=hr.units;exact(zu (z0 (zNd (tx zZ zS hr (za (mv 0) (za zh (za zh zc)))) (zNd (tx znc ztc hr (za (z4b (mv 0) zh) zc)) (zCf (tx z2f zug hr (za (z4b (mv 0) zh) zc)))))))
abbrev zTd:yQ:=top 37
abbrev zDb:List yg:=["text"]
def Tl:tz z4h zDb (zp zTd):=by walk_at "s"
def zZj(T:Txt K mg){zhd:yc}{zEc:yf}(zXb:FnAt K mg "check_text" zsd zxb zhd zEc)(z9b:tw P w K mg base (CXq P w) 1 zhd zEc zxb (spX K 1 z0b)){zfc:yc}{zVb:yf}(zhb:FnAt K mg "read_numbers" zdc z8 zfc zVb)(zob:tw P w K mg base (CXq P w) 2 zfc zVb z8 (spX K 1 z5)){zyf:yc}{zue:yf}(zYd:FnAt K mg "is_rule" zqf zuc zyf zue)(zGd:tw P w K mg base CX0 4 zyf zue zuc (spM K 1 zZd)){f:yc}{fd:yf}(B:FnAt K mg "read_rule" zTd zDb f fd):tw P w K mg base (CXq P w) 5 f fd zDb (spX K 1 zpb):=by
 obtain⟨zIc,n_NoText,m_NoText,k_NoText⟩:=T.Ti;refine fnX B.fn Tl rfl (λcdv A outer s H E hr=>⟨zOd,?_,λ_ _ _ _ e=>e⟩);have hu:=hr.units;exact(zi (zum zXb z9b hr (za (mv 0) zc)) (zi (zC 1 (zXe (mv 0) (za zr zc)) (hN:=Tl.nd)) (zi (zQn 2 (zlq (zkh zhb zob hr (za (z4b (mv 1) zh) zc)) (zQh zJb T.tX zed (zgp ["word"] [] (zSf (zmp (mv 1) (zRf zh) zqi)) (λ_ _ _ _ _ _=>(zHb 0 (hN:=zKb (by rfl)))) (λ_ _ _ _ _ _=>(zkh zhb zob hr (za (mv 0) zc))) zCc))) (hN:=Tl.nd)) (zi (z6e (zHm (zAj (tx zYd zGd hr (za (mv 2) zc)))) (zu (zcg n_NoText (T.Tj zIc n_NoText) Ym (za zr zc))) zNb) (zu (z0 (mv 2)))))))
abbrev zag:yQ:=top 23
abbrev zYc:List yg:=["thing","nests"]
def zul:tz zoj zYc (zp zag):=by walk_at "s"
def z1k(T:Txt K mg){zab:yc}{zV:yf}(zZ:FnAt K mg "is_tuple" zxc zX zab zV)(zS:tw P w K mg base CX0 1 zab zV zX (spM K 3 zbb)){zT:yc}{zN:yf}(zD:FnAt K mg "is_number_tuple" zmb zA zT zN)(zG:tw P w K mg base CX0 2 zT zN zA (spM K 4 zL)){f:yc}{fd:yf}(B:FnAt K mg "are_keys" zag zYc f fd):tw P w K mg base CX0 3 f fd zYc (spM K 2 zAe):=by
 refine fnM B.fn zul rfl (λcdv A outer s H E hr=>⟨zFd,?_,λ_ _ _ _ _ e=>e⟩);have hu:=hr.units;exact(zu (z0 (zNd (tx zZ zS hr (za (mv 0) (za zh (za (zji T.sw) zc)))) (zCf (zP (zXh rfl) T.Si zbo (za (mlc ["key"] [1] (zSf (mv 0)) (λ_ _ _ _ _=>(zHb 0 (hN:=zKb (by rfl)))) (λ_ _ _ _ _=>zjf) (λ_ _ _ _ _=>(tx zD zG hr (za (mv 0) (za zh (za zh (za (zt zSn (mv 1) zh) zc)))))) (zzg ⟨_,rfl,rfl⟩ zCc)) zc))))))
abbrev zRg:yQ:=top 24
abbrev zud:List yg:=["thing"]
def zAo:tz z9l zud (zp zRg):=by walk_at "s"
def zbn(T:Txt K mg){zab:yc}{zV:yf}(zZ:FnAt K mg "is_tuple" zxc zX zab zV)(zS:tw P w K mg base CX0 1 zab zV zX (spM K 3 zbb)){zRd:yc}{zpd:yf}(znc:FnAt K mg "are_rooms" zSd zFb zRd zpd)(ztc:tw P w K mg base CX0 3 zRd zpd zFb (spM K 1 zic)){zyj:yc}{zCi:yf}(zfg:FnAt K mg "are_keys" zag zYc zyj zCi)(zEg:tw P w K mg base CX0 3 zyj zCi zYc (spM K 2 zAe)){f:yc}{fd:yf}(B:FnAt K mg "is_web" zRg zud f fd):tw P w K mg base CX0 4 f fd zud (spM K 1 zVe):=by
 refine fnM B.fn zAo rfl (λcdv A outer s H E hr=>⟨zZf,?_,λ_ _ _ _ _ e=>e⟩);have hu:=hr.units;exact(zu (z0 (zNd (tx zZ zS hr (za (mv 0) (za zh (za zh zc)))) (zNd (tx znc ztc hr (za (z4b (mv 0) zh) zc)) (zCf (tx zfg zEg hr (za (z4b (mv 0) zh) (za (zP znd T.Tk zse (za (z4b (mv 0) zh) zc)) zc))))))))
abbrev zOe:yQ:=top 35
abbrev zpc:List yg:=["word"]
def zBk:tz zNi zpc (zp zOe):=by walk_at "s"
def zYj(T:Txt K mg){f:yc}{fd:yf}(B:FnAt K mg "read_nest" zOe zpc f fd):tw P w K mg base (CXq P w) 1 f fd zpc (spX K 1 zff):=by
 obtain⟨zIc,n_NoText,m_NoText,k_NoText⟩:=T.Ti;refine fnX B.fn zBk rfl (λcdv A outer s H E hr=>⟨zef,?_,λ_ _ _ _ e=>e⟩);have hu:=hr.units;exact(zi (z6e (MW.mt (zNr (ztd (zMs hu) (zP zve T.Tk zse (za (mv 0) zc)) zh) (zyq (ztd zBj (mv 0) (z2j T.TC))))) (zu (zcg n_NoText (T.Tj zIc n_NoText) Ym (za zr zc))) zNb) (zu (z0 (zSq (z2j T.TC) (za (mv 0) zc)))))
abbrev zce:yQ:=top 38
abbrev z6b:List yg:=["words"]
def zIj:tz zCh z6b (zp zce):=by walk_at "s"
def zXi(T:Txt K mg){zAi:yc}{zmh:yf}(zWe:FnAt K mg "read_nest" zOe zpc zAi zmh)(zwf:tw P w K mg base (CXq P w) 1 zAi zmh zpc (spX K 1 zff)){f:yc}{fd:yf}(B:FnAt K mg "read_homes" zce z6b f fd):tw P w K mg base (CXq P w) 2 f fd z6b (spX K 1 zid):=by
 refine fnX B.fn zIj rfl (λcdv A outer s H E hr=>⟨zge,?_,λ_ _ _ _ e=>e⟩);have hu:=hr.units;exact(zu (zIn (zQh zJb T.tX zed (zgp ["word"] [] (zSf (zXe (mv 0) (za zr zc))) (λ_ _ _ _ _ _=>(zHb 0 (hN:=zKb (by rfl)))) (λ_ _ _ _ _ _=>(zkh zWe zwf hr (za (mv 0) zc))) zCc))))
abbrev zGe:yQ:=top 39
abbrev zWb:List yg:=["text"]
def Tm:tz zvj zWb (zp zGe):=by walk_at "s"
def zQk(T:Txt K mg){zhd:yc}{zEc:yf}(zXb:FnAt K mg "check_text" zsd zxb zhd zEc)(z9b:tw P w K mg base (CXq P w) 1 zhd zEc zxb (spX K 1 z0b)){zfc:yc}{zVb:yf}(zhb:FnAt K mg "read_numbers" zdc z8 zfc zVb)(zob:tw P w K mg base (CXq P w) 2 zfc zVb z8 (spX K 1 z5)){zSg:yc}{zzf:yf}(zaf:FnAt K mg "is_web" zRg zud zSg zzf)(zte:tw P w K mg base CX0 4 zSg zzf zud (spM K 1 zVe)){zqh:yc}{zJg:yf}(zie:FnAt K mg "read_homes" zce z6b zqh zJg)(zTe:tw P w K mg base (CXq P w) 2 zqh zJg z6b (spX K 1 zid)){f:yc}{fd:yf}(B:FnAt K mg "read_web" zGe zWb f fd):tw P w K mg base (CXq P w) 5 f fd zWb (spX K 1 ztb):=by
 obtain⟨zIc,n_NoText,m_NoText,k_NoText⟩:=T.Ti;refine fnX B.fn Tm rfl (λcdv A outer s H E hr=>⟨zHe,?_,λ_ _ _ _ e=>e⟩);have hu:=hr.units;exact(zi (zum zXb z9b hr (za (mv 0) zc)) (zi (zC 1 (zXe (mv 0) (za zr zc)) (hN:=Tm.nd)) (zi (zQn 2 (zlq (zkh zhb zob hr (za (z4b (mv 1) zh) zc)) (zQh zJb T.tX zed (zgp ["piece"] [] (zSf (zmp (mv 1) (zRf zh) zqi)) (λ_ _ _ _ _ _=>(zHb 0 (hN:=zKb (by rfl)))) (λ_ _ _ _ _ _=>(zkh zie zTe hr (za (mv 0) zc))) zCc))) (hN:=Tm.nd)) (zi (z6e (zHm (zAj (tx zaf zte hr (za (mv 2) zc)))) (zu (zcg n_NoText (T.Tj zIc n_NoText) Ym (za zr zc))) zNb) (zu (z0 (mv 2)))))))
abbrev zqd:yQ:=top 47
abbrev zvb:List yg:=["_law_way","_law_text"]
def tP:tz zDh zvb (zp zqd):=by walk_at "s"
def zUi(T:Txt K mg){zVd:yc}{zkd:yf}(zjc:FnAt K mg "read_rule" zTd zDb zVd zkd)(zwc:tw P w K mg base (CXq P w) 5 zVd zkd zDb (spX K 1 zpb)){zqe:yc}{zKd:yf}(zZc:FnAt K mg "read_web" zGe zWb zqe zKd)(zUc:tw P w K mg base (CXq P w) 5 zqe zKd zWb (spX K 1 ztb)){f:yc}{fd:yf}(B:FnAt K mg "_law_asked" zqd zvb f fd):tw P w K mg base CX0 6 f fd zvb (spM K 2 zU):=by
 obtain⟨zIc,n_NoText,m_NoText,k_NoText⟩:=T.Ti;obtain⟨zTt,n_Twice,m_Twice,k_Twice⟩:=T.x_Twice;obtain⟨zIt,n_NoRule,m_NoRule,k_NoRule⟩:=T.Sf;obtain⟨zyu,n_NoRow,m_NoRow,k_NoRow⟩:=T.x_NoRow;obtain⟨zJt,n_NoPush,m_NoPush,k_NoPush⟩:=T.Sg;obtain⟨zvs,n_NoPairs,m_NoPairs,k_NoPairs⟩:=T.sP;obtain⟨zvu,n_NoKey,m_NoKey,k_NoKey⟩:=T.x_NoKey;obtain⟨zqu,n_NoFit,m_NoFit,k_NoFit⟩:=T.x_NoFit;obtain⟨zPu,n_Full,m_Full,k_Full⟩:=T.x_Full;obtain⟨zwl,n_NestError,m_NestError,k_NestError⟩:=T.ss;obtain⟨v_read_rule,n_read_rule,m_read_rule⟩:=T.Tw;obtain⟨v_read_web,n_read_web,m_read_web⟩:=T.TF;refine fnM B.fn tP rfl (λcdv A outer s H E hr=>⟨zbe,?_,λ_ _ _ _ _ e=>e⟩);have hu:=hr.units;exact(zi (zC 2 zjm (hN:=tP.nd)) (zi (zC 3 zjm (hN:=tP.nd)) (zi (zSs (zJs (zwr 2 (z4b (zTb (za (zAf n_read_rule m_read_rule) (za (zAf n_read_web m_read_web) zc))) (mv 0)) (sr zjc T.Tw zwc (sr zZc T.TF zUc dynxNil)) hr (za (mv 1) zc) (hN:=tP.nd))) (zBu 4 [("NoText",true)] n_NestError k_NestError (T.su zwl n_NestError) (λ_=>(zu (zC 3 (mv 4) (hN:=tP.nd)))) zTq (hN:=tP.nd))) (zi (z6e (ztd z0s (mv 3) zjm) (zu (z0 (mv 2))) zNb) (zi (zC 5 (zP (zdi T.kit) T.tN zwb (za (mv 3) (za (zLk (za (zAf n_Full m_Full) (za (zAf n_NoFit m_NoFit) (za (zAf n_NoKey m_NoKey) (za (zAf n_NoPairs m_NoPairs) (za (zAf n_NoPush m_NoPush) (za (zAf n_NoRow m_NoRow) (za (zAf n_NoRule m_NoRule) (za (zAf n_Twice m_Twice) zc))))))))) zc))) (hN:=tP.nd)) (zu (z0 (zNd (zP (zdi T.kit) T.tN zwb (za (mv 3) (za (zAf n_NoText m_NoText) zc))) (zNd (zP (zdi T.kit) T.tN zwb (za (mv 3) (za (zuj T.TZ zfk) zc))) (zCf (zcq (mv 5))))))))))))
abbrev z3b:yQ:=top 49
abbrev zdb:List yg:=["_law_way","_law_text"]
def Td:tz zDe zdb (zp z3b):=by walk_at "s"
def zxg(T:Txt K mg){zjd:yc}{zFc:yf}(zGb:FnAt K mg "_law_asked" zqd zvb zjd zFc)(zMb:tw P w K mg base CX0 6 zjd zFc zvb (spM K 2 zU)){zSg:yc}{zzf:yf}(zaf:FnAt K mg "is_web" zRg zud zSg zzf)(zte:tw P w K mg base CX0 4 zSg zzf zud (spM K 1 zVe)){zyf:yc}{zue:yf}(zYd:FnAt K mg "is_rule" zqf zuc zyf zue)(zGd:tw P w K mg base CX0 4 zyf zue zuc (spM K 1 zZd)){zLe:yc}{zXd:yf}(z0c:FnAt K mg "show_web" zKe zYb zLe zXd)(zQc:tw P w K mg base CX0 2 zLe zXd zYb (spM K 1 zDd)){zUd:yc}{zld:yf}(zkc:FnAt K mg "show_rule" zQd zCb zUd zld)(zsc:tw P w K mg base CX0 2 zUd zld zCb (spM K 1 zVc)){f:yc}{fd:yf}(B:FnAt K mg "_law_sign_right" z3b zdb f fd):tw P w K mg base CX0 7 f fd zdb (spM K 2 zkb):=by
 refine fnM B.fn Td rfl (λcdv A outer s H E hr=>⟨zlb,?_,λ_ _ _ _ _ e=>e⟩);have hu:=hr.units;exact(zi (zC 2 (tx zGb zMb hr (za (mv 0) (za (mv 1) zc))) (hN:=Td.nd)) (zi (z6e (zAj (zP (zvf .bl) T.tN zwb (za (mv 2) (za (zuj T.Sj zNn) zc)))) (zu (z0 (mv 2))) zNb) (zi (z6e (ztd (zmf hu) (mv 0) zh) (zu (z0 (zNd (tx zYd zGd hr (za (mv 2) zc)) (zCf (z4k (zmf hu) (tx zkc zsc hr (za (mv 2) zc)) (mv 1)))))) zNb) (zu (z0 (zNd (tx zaf zte hr (za (mv 2) zc)) (zCf (z4k (zmf hu) (tx z0c zQc hr (za (mv 2) zc)) (mv 1)))))))))
abbrev zSe:yQ:=top 48
abbrev zqc:List yg:=["_law_pen_here","_law_text"]
def Ta:tz z1h zqc (zp zSe):=by walk_at "s"
def zVj(T:Txt K mg){zqb:yc}{z6:yf}(zq:FnAt K mg "_law_take" zhc z3 zqb z6)(zn:tw P w K mg base CX0 1 zqb z6 z3 (spM K 2 zo)){f:yc}{fd:yf}(B:FnAt K mg "_law_sign" zSe zqc f fd):tw P w K mg base CX0 2 f fd zqc (spM K 2 z9e):=by
 refine fnM B.fn Ta rfl (λcdv A outer s H E hr=>⟨z1e,?_,λ_ _ _ _ _ e=>e⟩);have hu:=hr.units;exact(zi (zC 2 (tx zq zn hr (za (mv 0) (za (zt z4 (zP zve T.Tk zse (za (mv 1) zc)) zh) zc))) (hN:=Ta.nd)) (zi (zC 3 (ztm zr (tx zq zn hr (za (mv 0) (za zh zc)))) (hN:=Ta.nd)) (zi (zC 4 (tx zq zn hr (za (mv 0) (za zh zc))) (hN:=Ta.nd)) (zi (z6e (ztd (zmf hu) (mv 4) zh) (zu (z0 (zt zj (zt zj (zri (mv 1) zqi (zRf (mv 2))) (mv 3)) (zri (mv 1) (zRf (mv 2)) zqi)))) zNb) (zi (z6e (ztd (zmf hu) (mv 4) zh) (zu (z0 (zt zj (zri (mv 1) zqi (zRf (mv 2))) (zri (mv 1) (zRf (zt z4 (mv 2) zh)) zqi)))) zNb) (zu (z0 (zt zj (zt zj (zri (mv 1) zqi (zRf (mv 2))) (mv 3)) (zri (mv 1) (zRf (zt z4 (mv 2) zh)) zqi)))))))))
abbrev zBl:yQ:=top 52
abbrev z7l:List yg:=["_law_script"]
def Tg:tz z6s z7l (zp zBl):=by walk_at "s"
def zJq(T:Txt K mg){znj:yc}{zHi:yf}(zJd:FnAt K mg "_law_pen" z5f zTc znj zHi)(zLd:tw P w K mg base CX0 3 znj zHi zTc (spM K 2 zEd)){zfi:yc}{zyh:yf}(zYe:FnAt K mg "_law_rule" zdf zAc zfi zyh)(zQf:tw P w K mg base CX0 2 zfi zyh zAc (spM K 1 zPe)){zcj:yc}{zli:yf}(zUf:FnAt K mg "_law_web" zYf z1c zcj zli)(zCg:tw P w K mg base CX0 2 zcj zli z1c (spM K 2 zWf)){zUd:yc}{zld:yf}(zkc:FnAt K mg "show_rule" zQd zCb zUd zld)(zsc:tw P w K mg base CX0 2 zUd zld zCb (spM K 1 zVc)){zLe:yc}{zXd:yf}(z0c:FnAt K mg "show_web" zKe zYb zLe zXd)(zQc:tw P w K mg base CX0 2 zLe zXd zYb (spM K 1 zDd)){zKf:yc}{zhf:yf}(zJc:FnAt K mg "_law_bad_rule" zHc zub zKf zhf)(zyd:tw P w K mg base CX0 1 zKf zhf zub (spM K 2 zKc)){zjg:yc}{zOf:yf}(z9c:FnAt K mg "_law_bad_web" zdd zzb zjg zOf)(zPd:tw P w K mg base CX0 1 zjg zOf zzb (spM K 2 z5c)){zVd:yc}{zkd:yf}(zjc:FnAt K mg "read_rule" zTd zDb zVd zkd)(zwc:tw P w K mg base (CXq P w) 5 zVd zkd zDb (spX K 1 zpb)){zqe:yc}{zKd:yf}(zZc:FnAt K mg "read_web" zGe zWb zqe zKd)(zUc:tw P w K mg base (CXq P w) 5 zqe zKd zWb (spX K 1 ztb)){zre:yc}{z2d:yf}(z8b:FnAt K mg "_law_sign_right" z3b zdb zre z2d)(zMc:tw P w K mg base CX0 7 zre z2d zdb (spM K 2 zkb)){zjd:yc}{zFc:yf}(zGb:FnAt K mg "_law_asked" zqd zvb zjd zFc)(zMb:tw P w K mg base CX0 6 zjd zFc zvb (spM K 2 zU)){zqb:yc}{z6:yf}(zq:FnAt K mg "_law_take" zhc z3 zqb z6)(zn:tw P w K mg base CX0 1 zqb z6 z3 (spM K 2 zo)){zMi:yc}{zzh:yf}(zNe:FnAt K mg "_law_sign" zSe zqc zMi zzh)(zEf:tw P w K mg base CX0 2 zMi zzh zqc (spM K 2 z9e)){f:yc}{fd:yf}(B:FnAt K mg "law" zBl z7l f fd):tw P w K mg base CX0 8 f fd z7l (spM K 1 zhn):=by
 refine fnM B.fn Tg rfl (λcdv A outer s H E hr=>⟨zYp,?_,λ_ _ _ _ _ e=>e⟩);have hu:=hr.units;exact(zi (zC 1 (tx zJd zLd hr (za (mv 0) (za zh zc))) (hN:=Tg.nd)) (zi (zC 2 (tx zYe zQf hr (za (mv 1) zc)) (hN:=Tg.nd)) (zi (zC 3 (tx zUf zCg hr (za (tx zJd zLd hr (za (mv 0) (za zh zc))) (za zh zc))) (hN:=Tg.nd)) (zi (zC 4 (zTb (za (tx zkc zsc hr (za (mv 2) zc)) (za (tx z0c zQc hr (za (mv 3) zc)) zc))) (hN:=Tg.nd)) (zi (zC 5 (zTb (za (tx zJc zyd hr (za (mv 2) (za (z4b (mv 4) zh) zc))) (za (tx z9c zPd hr (za (mv 3) (za (z4b (mv 4) zh) zc))) zc))) (hN:=Tg.nd)) (zi (zpo (z6f T.To (za zh zc)) (zei 6 (hN:=Tg.nd)) (zu (zpo (z6f T.To (za zh zc)) (zei 7 (hN:=Tg.nd)) (zi (zC 8 (tx zJd zLd hr (za (mv 0) (za (zt z4 (zt z4 zh (zt zSc zh (mv 6))) (mv 7)) zc))) (hN:=Tg.nd)) (zi (z6e (zHm (zAj (tx z8b zMc hr (za (mv 6) (za (tx zNe zEf hr (za (mv 8) (za (z4b (mv 4) (mv 6)) zc))) zc))))) (zu (z0 zYm)) zNb) (zi (z6e (ztd zxk (tx zGb zMb hr (za (mv 6) (za (z4b (z4b (mv 5) (mv 6)) (tx zq zn hr (za (mv 8) (za (zP znd T.Tk zse (za (z4b (mv 5) (mv 6)) zc)) zc)))) zc))) zYm) (zu (z0 zYm)) zNb) (zi (zC 9 (z4b (zTb (za zjm (za zh (za zYm (za (zTb (za (z4b (mv 4) (mv 6)) zc)) (za (zLk zc) (za zwt (za (mv 2) zc)))))))) (tx zq zn hr (za (mv 8) (za zh zc)))) (hN:=Tg.nd)) (zu (z6e (ztd zxk (tx zGb zMb hr (za (mv 6) (za (mv 9) zc))) zYm) (zu (z0 zYm)) zNb))))))))) (zu (z0 (zNd (z4k (zmf hu) (Sc zjc zwc hr (za (z4b (mv 4) zh) zc)) (mv 2)) (zCf (z4k (zmf hu) (Sc zZc zUc hr (za (z4b (mv 4) zh) zc)) (mv 3))))))))))))
end
end P
namespace P
open PySem PySem.Spec PyProof.Rows L2 M
set_option maxHeartbeats 4000000
variable {R:List Nat}{K:List (List Nat)}{O:Mem}{Q:D->Mem->Prop}{ns k y':List Nat}{l n c:Nat}{B m:Int}{s p x z y a b first:yg}{ds:List D}{J:M.Loc}{nx:M.Loc->Mem->Prop}{rt:D->Mem->Prop}{F:FX}{α:FA}{ys parts ps:List yg}
def zWn{i j:Int}:gEq (.int i) (.int j) O=some (.bl (i==j),O):=by simp[gEq,toP,Yd]
def zMp{xs:List D}{i:Nat}:M.cutD xs (some (i:Int)) none=xs.drop i:=by
 unfold M.cutD;rw[HT.sY,HT.sIx_nat];rcases Nat.le_total i xs.length with h|h
 ·rw[Nat.min_eq_left h,xm (by simp)]
 ·rw[Nat.min_eq_right h,Nat.sub_self,List.take_zero,List.drop_eq_nil_of_le h]
local macro_rules | `(tactic| walk_at "w") => `(tactic| first
  | refine zB ?_ | refine zac ?_ | refine zms ?_ | refine zUb ?_ | refine zAq ?_ | refine zym ?_ | refine zif ?_ | refine zNq ?_
  | refine zf rfl ?_ | refine w_c ?_ | refine zz ?_ | refine zm ?_ | refine zb ?_ | refine zl ?_ | refine zMo ?_ | refine zgg ?_ | refine z7s ?_ | refine zxi ?_ | refine zsf ?_ | refine z0d ?_ | refine z3u ?_ | refine w_not ?_ | refine zRt ?_ | refine z9p ?_ | refine zmm ?_ | refine z8o ?_ | refine zhu ?_
  | refine zOb ?_ | refine znq ?_ | refine zTp ?_ | refine zxj ?_ | refine z9q ?_ | refine zFi ?_ | refine zOi ?_ | refine zHu ?_ | refine zGu ?_ | refine zxr ?_ | refine z9r ?_
  | refine zUj ?_ | refine zZn ?_ | refine zou (by first | decide | omega) ?_ | refine zQt (by first | decide | omega) (by first | decide | omega) ?_ | refine zCl ?_ | refine zin ?_ | refine z4s ?_ | refine zuu ?_ | refine zLj ?_ | refine zNt (by decide) (by decide) (by decide) ?_ | refine zds ?_ | refine zhs ?_ | refine zTr ?_ | refine zbs ?_
  | refine zVm rfl ?_ | refine zHs rfl ?_ | refine z8e rfl ?_ | with_reducible refine ⟨_,rfl,?_⟩)
local macro_rules | `(tactic| walk_at "om") => `(tactic| first | omega | (simp only [length_map, length_range, Int.toNat_natCast, length_append, length_cons, List.length_nil] at *; omega) | (simp <;> omega))
def zFr{ns:List Int}{k:Int}(h0:0<=k)(h1:k<=1000):∃v,zrc [.fz (ns.map .int),.int k] O=some (.int v,O):=by
 have hk1:-18446744073709551616<k:=by omega
 have hk2:k<18446744073709551616:=by omega
 by_cases hn:ns=[]
 ·subst hn;simp[zrc,z4d,z7d,zPi,hk1,hk2]
 ·have hl:0<ns.length:=List.length_pos_iff.mpr hn;have hl':(0:Int)<ns.length:=by omega
  have hm0:0<=k%(ns.length:Int):=Int.emod_nonneg _ (by omega);have hm1:k%(ns.length:Int)<ns.length:=Int.emod_lt_of_pos _ hl';have hi:(k%(ns.length:Int)).toNat<ns.length:=by omega
  simp[zrc,z4d,z7d,zPi,hk1,hk2,hl,hl',hm0,hm1,atI,ixN,yG hi]
def zot{ns:List Int}{k:Int}(h0:0<=k)(h1:k<=1000):∃v,zQb [.fz (ns.map .int),.int k] O=some (.int v,O):=by
 by_cases h:k<ns.length
 ·have hi:k.toNat<ns.length:=by omega
  exact⟨ns[k.toNat],by simp[zQb,zbd,zcd,h,h0,atI,ixN,yG hi]⟩
 ·obtain⟨v,e⟩:=zFr (ns:=ns) (O:=O) h0 h1;exact⟨v,by simp[zQb,zbd,zcd,h,e]⟩
def Pen(O:Mem)(l:Nat)(B:Int):Prop:=∃f c n a:Int,O[l]?=some (.lst [.int f,.int c,.int n,.int a])/\0<=a/\a<=B
def Pen.mono{B':Int}(h:Pen O l B)(hb:B<=B'):Pen O l B':=by
 obtain⟨f,c,n,a,e,h0,h1⟩:=h;exact⟨f,c,n,a,e,h0,by omega⟩
def Pen.kb{O O':Mem}{L:List Nat}(h:Pen O l B)(k:KB L O O')(hl:l∉L):Pen O' l B:=by
 obtain⟨f,c,n,a,e,h0,h1⟩:=h;exact⟨f,c,n,a,k.at_ _ _ hl e,h0,h1⟩
def Pen.app{O g:Mem}(h:Pen O l B):Pen (O++g) l B:=h.kb (L:=[]) (KB.refl.app) (by simp)
def Pen.lt(h:Pen O l B):l<O.length:=by
 obtain⟨f,c,n,a,e,_⟩:=h;exact zGc e
def z3c{s:Int}(h:Pen O l B)(hB:B<=1000000000)(h0:0<s)(h1:s<1606938044258990275541962092341162602522202993782792835301376)
 (q:∀v O',0<=v->v<s->KB [l] O O'->O'.length=O.length->Pen O' l (B+1)->Q (.int v) O'):WF zo [.loc l,.int s] O Q:=by
 obtain⟨f,c,n,a,e,ha,hb⟩:=h;have hlt:=zGc e;have kb:∀o,KB [l] O (O.set l o):=λo=>KB.refl.set (.inl (by simp))
 by_cases hf:f=0
 ·subst hf;refine⟨_,_,?_,q (c%s) (O.set l (.lst [.int 0,.int (c / s),.int n,.int a])) (Int.emod_nonneg _ (by omega)) (Int.emod_lt_of_pos _ h0) (kb _) (by simp) ⟨0,c / s,n,a,zFe e,ha,by omega⟩⟩;simp[zo,zcf,z2e,e,atI,ixN,zWn,h0,h1]
 ·have hf':(f==0)=false:=by simpa using hf
  have e2:(O.set l (.lst [.int f,.int c,.int n,.int (a+1)]))[l]?=some (.lst [.int f,.int c,.int n,.int (a+1)]):=zFe e;have hm1:-18446744073709551616<a+1:=by omega
  have hm2:a+1<18446744073709551616:=by omega
  refine⟨_,_,?_,q (((c%2305843009213693951*48271+(a+1)*(a+1)*40692+7*(a+1)+11)%2147483647*1181783497276652981%2305843009213693951 / 64)%s) (O.set l (.lst [.int f,.int c,.int n,.int (a+1)])) (Int.emod_nonneg _ (by omega)) (Int.emod_lt_of_pos _ h0) (kb _) (by simp) ⟨f,c,n,a+1,e2,by omega,by omega⟩⟩;simp[zo,zcf,z2e,e,e2,atI,ixN,zWn,hf',h0,h1,zPi,hm1,hm2,zel]
def ztn{ns:List Int}{k:Int}(h0:0<=k)(h1:k<=1000)(q:∀O',KB [] O O'->Pen O' O.length 101000->O'.length=O.length+1->Q (.loc O.length) O'):WF zEd [.fz (ns.map .int),.int k] O Q:=by
 obtain⟨v,e⟩:=zot (ns:=ns) (O:=O) h0 h1;refine zNc rfl ?_;unfold zch
 repeat walk_at "w"
 refine⟨_,_,e,?_⟩
 repeat walk_at "w"
 refine zyt (by unfold zel;simp) ?_
 repeat walk_at "w"
 refine q _ KB.refl.app ⟨_,_,_,_,tm,by omega,by omega⟩ (by simp)
abbrev tp(ns:List Int):D:=.tup (ns.map .int)
abbrev wb(rooms:List Int)(ks:List (List Int)):D:=.tup [tp rooms,.tup (ks.map tp)]
structure WebA(L:Int)(rooms:List Int)(ks:List (List Int)):Prop where
 rl:1<=rooms.length/\rooms.length<=10
 rn:∀r∈rooms,0<=r
 kl:ks.length<=L
 kn:∀k∈ks,(2<=k.length/\k.length<=3)/\∀i∈k,0<=i/\i<rooms.length
def zut{i:Int}(h0:0<=i)(h1:i<ds.length):∃d,d∈ds/\ds[i.toNat]?=some d/\atI ds i=some d:=by
 have hi:i.toNat<ds.length:=by omega
 refine⟨ds[i.toNat],getElem_mem hi,by simp[hi],?_⟩;have:=z9g (xs:=ds) (j:=i.toNat) (v:=ds[i.toNat]) (by simp[hi]);rw[Int.toNat_of_nonneg h0]at this;exact this
def zfr{p:Int->Prop}:∀ds:List D,(∀d∈ds,∃i:Int,d=.int i/\p i)->∃ns:List Int,ds=ns.map .int/\∀r∈ns,p r:=λds=>by
 induction ds with
 |nil=>exact λ_=>⟨[],rfl,by simp⟩
 |cons d ds ih=>
  intro h;obtain⟨ns,rfl,q⟩:=ih λx hx=>h x (mem_cons_of_mem _ hx);obtain⟨i,rfl,hi⟩:=h d mem_cons_self;exact⟨i::ns,rfl,by simp;exact⟨hi,q⟩⟩
def znp{k:Int}{x:D}(h:Pen O l B)(hB:B<=1000000)(hk:0<=k/\k<4)
 (q:∀i O',0<=i/\i<=9->KB [l] O O'->Pen O' l (B+3)->Q (.int i) O'):WE zee [some x,some (.loc l),some (.int k)] O Q:=by
 unfold zee
 repeat walk_at "w"
 refine z3c h (by omega) (by omega) (by omega) λv1 O1 a1 b1 k1 _ h1=>?_
 repeat walk_at "w"
 refine z3c h1 (by omega) (by omega) (by omega) λv2 O2 a2 b2 k2 _ h2=>?_
 repeat walk_at "w"
 refine z3c h2 (by omega) (by omega) (by omega) λv3 O3 a3 b3 k3 _ h3=>?_
 repeat walk_at "w"
 obtain⟨d,hm,_,ha⟩:=zut (ds:=[.int v1,.int 1,.int v2,.int v3]) hk.1 (by simpa using hk.2);refine ztk (zF tm) ha ?_
 have fin:∀i:Int,0<=i/\i<=9->d=.int i->Q d (O3++[tI.lst [.int v1,.int 1,.int v2,.int v3]]):=λi hi e=>by
  rw[e];exact q i _ hi ((k1.trans (k2.trans k3)).app) (h3.app.mono (by omega))
 simp only[List.mem_cons,List.not_mem_nil,or_false]at hm;rcases hm with e|e|e|e
 ·exact fin v1 (by omega) e
 ·exact fin 1 (by omega) e
 ·exact fin v2 (by omega) e
 ·exact fin v3 (by omega) e
def zgr{kl:Nat}{K9 z z2 R C:D}{y:Option D}{ks:List (List Int)}{bk ct:M.Loc->Mem->Prop}(h:Pen O l B)(hB:B<=1000000)(hm:0<m/\m<=10)(hk:O[kl]?=some (.lst (ks.map tp)))(hne:l≠kl)(hlen:ks.length<=1000)
 (hδ:J=[some (.loc l),some z,some (.int m),some K9,some R,some C,some (.loc kl),some z2,y])
 (q:∀y' O' key,KB [l,kl] O O'->Pen O' l (B+4)->O'[kl]?=some (.lst ((ks++[key]).map tp))->(2<=key.length/\key.length<=3)->(∀i∈key,0<=i/\i<m)->nx [some (.loc l),some z,some (.int m),some K9,some R,some C,some (.loc kl),some z2,y'] O') :
 WS z9d J O nx rt bk ct:=by
 subst hδ;have hkl:=zGc hk;have hll:=h.lt;have kp:∀{a b:Mem},KB [l] a b->KB [l,kl] a b:=λk=>k.sub (by simp);unfold z9d
 repeat walk_at "w"
 refine z3c h (by omega) (by omega) (by omega) λv1 O1 a1 b1 k1 e1 h1=>?_
 repeat walk_at "w"
 refine z3c h1 (by omega) (by omega) (by omega) λv2 O2 a2 b2 k2 e2 h2=>?_
 repeat walk_at "w"
 refine z3c (O:=O2++[tI.lst [.int v1,.int v2]]) h2.app (by omega) (by omega) (by omega) λv3 O3 a3 b3 k3 e3 h3=>?_;have kl2:O2.length≠l:=by omega
 have kl3:kl≠O2.length:=by omega
 have g3:O3[O2.length]?=some (.lst [.int v1,.int v2]):=k3.at_ _ _ (by simp;exact kl2) tm;have gk3:O3[kl]?=some (.lst (ks.map tp)):=k3.at_ _ _ (by simp;exact Yg hne) (zfe ((k1.trans k2).at_ _ _ (by simp;exact Yg hne) hk));have kk:KB [l,kl] O O3:=(kp (k1.trans k2)).app.trans ((kp k3).sub (by simp)) 
 repeat walk_at "w"
 have fin:∀(key:List Int)(ν:Mem),KB [l,kl] O ν->Pen ν l (B+4)->ν[kl]?=some (.lst (ks.map tp))->ν[O2.length]?=some (.lst (key.map .int))->(2<=key.length/\key.length<=3)->(∀i∈key,0<=i/\i<m) ->
  WS (z0l (zAl ztf (zk 6) (zd (zv zod (zd (zk 8) zx)) zx))) [some (.loc l),some z,some (.int m),some K9,some R,some C,some (.loc kl),some z2,some (.loc O2.length)] ν nx rt bk ct:=λkey ν kv pv g1 g2 hl hb=>by
  repeat walk_at "w"
  refine⟨_,_,rfl,g1,?_⟩
  repeat walk_at "w"
  refine z8e (zF g2) ?_
  repeat walk_at "w"
  refine z4j g1 (by simp;omega) ?_;refine q _ _ key (kv.set (.inl (by simp))) ?_ (by rw[zFe g1];simp) hl hb;obtain⟨f,c,n,a,e,h1⟩:=pv;exact⟨f,c,n,a,zVf e (Yg hne),h1⟩
 refine⟨λhb=>?_,λhb=>?_⟩
 ·repeat walk_at "w"
  refine⟨_,_,rfl,g3,?_⟩
  repeat walk_at "w"
  refine z3c h3 (by omega) (by omega) (by omega) λv4 O4 a4 b4 k4 e4 h4=>?_
  repeat walk_at "w"
  have g4:=k4.at_ _ _ (by simp;exact kl2) g3;refine z4j g4 (by simp) ?_;refine fin [v1,v2,v4] _ ((kk.trans (kp k4)).set (.inr (by omega))) ?_ (zVf (k4.at_ _ _ (by simp;exact Yg hne) gk3) (Yg kl3)) (by rw[zFe g4];rfl) (by simp) (by simp;omega);obtain⟨f,c,n,a,e,h1⟩:=h4;exact⟨f,c,n,a,zVf e kl2,h1.1,by omega⟩
 ·refine zif ?_;exact fin [v1,v2] _ kk (h3.mono (by omega)) gk3 g3 (by simp) (by simp;omega)
def zsr{lim:Int}(h:Pen O l B)(hB:B<=200000)(hl0:0<=lim)(hl1:lim<=100)
 (q:∀rooms ks O',WebA lim rooms ks->(∀r∈rooms,r<=9)->KB [l] O O'->Pen O' l (B+1000)->Q (wb rooms ks) O'):WF zWf [.loc l,.int lim] O Q:=by
 have zpe:∀(m:Int)(ν:Mem),1<=m->m<=10->KB [l] O ν->Pen ν l (B+3)->WS (znb (zlc 3 (zv zo (zd (zk 0) (zd (fC (.int 4)) zx)))) (znb (zlc 4 (zv zod (zd (fLC 1 [0,3] (zPf (zd (zk 2) zx)) (gN 0) zhl zee) zx))) (znb (zlc 5 (zv zo (zd (zk 0) (zd (zw z7f (zk 1) (fC (.int 1))) zx)))) (znb (zlc 6 (z4f zx)) (znb (z3q (zPf (zd (zk 5) zx)) (gN 7) z9d) (zje (zxq (zd (zk 4) (zd (zv zod (zd (zk 6) zx)) zx)))))))))
  [some (.loc l),some (.int lim),some (.int m),none,none,none,none,none,none] ν (λ_ O'=>Q .non O') Q (λ_ _=>False) (λ_ _=>False):=λm ν hm0 hm1 kv pv=>by
  repeat walk_at "w"
  refine z3c pv (by omega) (by omega) (by omega) λkd O1 a1 b1 k1 e1 h1=>?_
  repeat walk_at "w"
  refine⟨by omega,by omega,zgd (by simp;omega),?_⟩;refine zlk (λi ys O'=>KB [l] O1 O'/\Pen O' l (B+4+3*i)/\ys.length=i/\∀d∈ys,∃j:Int,d=.int j/\(0<=j/\j<=9)) ⟨.refl,by simpa using h1.mono (by omega),rfl,by simp⟩ (λ_ _ _ _=>rfl) ?_ ?_
  ·rintro i x ys O' hx ⟨k,p,hl,hy⟩;obtain⟨hi,rfl⟩:=z9f hx
   repeat walk_at "w"
   refine⟨λ_=>?_,λhf=>by cases hf⟩;refine znp p (by omega) ⟨a1,b1⟩ λj O'' hj k' p'=>⟨k.trans k',p'.mono (by omega),by simp[hl],λd hd=>?_⟩
   rcases List.mem_append.mp hd with hd|hd
   ·exact hy d hd
   ·exact⟨j,by simpa using hd,hj⟩
  ·rintro ys O2 ⟨k2,p2,hl2,hy⟩;obtain⟨rooms,rfl,hr⟩:=zfr ys hy;simp only[length_map,length_range]at hl2 p2
   repeat walk_at "w"
   refine z8e (zF tm) ?_
   repeat walk_at "w"
   refine z3c (p2.app.mono (show _<=B+34 by omega)) (by omega) (by omega) (by omega) λct O3 a3 b3 k3 e3 h3=>?_
   repeat walk_at "w"
   refine⟨by omega,by omega,?_⟩;have hne:l≠O3.length:=yJ h3.lt;have kk:KB [l] O O3:=kv.trans (k1.trans (k2.app.trans k3));have hlen3:=kk.len;refine zQl (λi J O'=>∃(ks:List (List Int)) (x y:Option D),J=[some (.loc l),some (.int lim),some (.int m),some (.int kd),some (tp rooms),some (.int ct),some (.loc O3.length),x,y]/\O'[O3.length]?=some (.lst (ks.map tp))/\ks.length=i/\(∀k∈ks,(2<=k.length/\k.length<=3)/\∀i∈k,0<=i/\i<m)/\Pen O' l (B+35+4*i)/\KB [l] O O') ?_ (λ_ _ _ _=>rfl) ?_ ?_
   ·exact⟨[],none,none,rfl,tm,rfl,by simp,h3.app.mono (by omega),kk.app⟩
   ·rintro i x J O' hx ⟨ks,y1,y2,rfl,g,hl,hk,p,kq⟩;obtain⟨hi,rfl⟩:=z9f hx;refine zOi ?_;refine zgr (ks:=ks) (m:=m) (kl:=O3.length) p (by omega) (by omega) g hne (by omega) rfl λy' O'' key k' p' g' hl' hb'=>?_;refine⟨ks++[key],_,y',rfl,g',by simp[hl],λk hk'=>?_,p'.mono (by omega),kq.step k' (by simp;exact .inr hlen3)⟩
    ·rcases List.mem_append.mp hk' with hk'|hk'
     ·exact hk k hk'
     ·rw[List.mem_singleton.mp hk'];exact⟨hl',hb'⟩
   ·rintro J O' ⟨ks,y1,y2,rfl,g,hl,hk,p,kq⟩;simp only[length_map,length_range]at hl p
    repeat walk_at "w"
    refine z8e (zF g) ?_
    repeat walk_at "w"
    refine q rooms ks O' ⟨by omega,λr hr'=>(hr r hr').1,by omega,λk hk'=>⟨(hk k hk').1,λi hi=>?_⟩⟩ (λr hr'=>(hr r hr').2) kq (p.mono (by omega));have:=(hk k hk').2 i hi;omega
 refine zNc rfl ?_;unfold zjh
 repeat walk_at "w"
 refine z3c h (by omega) (by omega) (by omega) λv1 O1 a1 b1 k1 e1 h1=>?_
 repeat walk_at "w"
 refine z3c h1 (by omega) (by omega) (by omega) λv2 O2 a2 b2 k2 e2 h2=>?_
 repeat walk_at "w"
 refine⟨λhb=>?_,λhb=>?_⟩
 ·repeat walk_at "w"
  refine z3c h2 (by omega) (by omega) (by omega) λv3 O3 a3 b3 k3 e3 h3=>?_;refine zUj ?_;exact zpe (7+v3) _ (by omega) (by omega) (k1.trans (k2.trans k3)) (h3.mono (by omega))
 ·refine zif ?_;exact zpe (1+v1) _ (by omega) (by omega) (k1.trans k2) (h2.mono (by omega))
abbrev tn(ns:List Nat):D:=.tup (nat ns)
abbrev wn(R:List Nat)(K:List (List Nat)):D:=.tup [tn R,.tup (K.map tn)]
structure Wb(L:Nat)(R:List Nat)(K:List (List Nat)):Prop where
 rl:1<=R.length/\R.length<=10
 kl:K.length<=L
 kn:∀k∈K,(2<=k.length/\k.length<=3)/\∀h∈k,h<R.length
def zao :∀{ns:List Int},(∀n∈ns,0<=n)->ns.map D.int=nat (ns.map xi):=λ{ns} h=>by
 rw[zyl];refine map_congr_left λn hn=>?_;show D.int n=D.int (n.toNat:Nat);rw[Int.toNat_of_nonneg (h n hn)]
def Wb.of{L:Int}{rooms:List Int}{ks:List (List Int)}(w:WebA L rooms ks):wb rooms ks=wn (rooms.map xi) (ks.map (·.map xi))/\Wb L.toNat (rooms.map xi) (ks.map (·.map xi)):=by
 refine⟨?_,⟨by simpa using w.rl,by have:=w.kl;simp;omega,λk hk=>?_⟩⟩
 ·show D.tup [.tup (rooms.map .int),.tup (ks.map tp)]=D.tup [.tup (nat _),.tup ((ks.map _).map tn)];rw[zao w.rn,map_map]
  congr 3
  refine congrArg D.tup (map_congr_left λk hk=>?_);show D.tup (k.map .int)=D.tup (nat (k.map xi));rw[zao λn hn=>((w.kn k hk).2 n hn).1]
 ·obtain⟨k',hk',rfl⟩:=List.mem_map.mp hk;obtain⟨h1,h2⟩:=w.kn k' hk';refine⟨by simpa using h1,λh hh=>?_⟩;obtain⟨i,hi,rfl⟩:=List.mem_map.mp hh;have:=h2 i hi;rw[length_map];omega
def zxf(q:Q (tn R) O):W2 gIx (wn R K) (.int 0) O Q:=ztk rfl (show atI [tn R,.tup (K.map tn)] 0=some (tn R) from rfl) q
def zlj(q:Q (.tup (K.map tn)) O):W2 gIx (wn R K) (.int 1) O Q:=ztk rfl (show atI [tn R,.tup (K.map tn)] 1=some (.tup (K.map tn)) from rfl) q
instance instEncPair{α β:Type}[Enc α][Enc β]:Enc (α×β):=⟨λx =>.tup [Enc.d x.1,Enc.d x.2],λx =>.tuple [Enc.p x.1,Enc.p x.2],Enc.dep α+Enc.dep β+1,λO n x=>by
 show(([Enc.d x.1,Enc.d x.2]).mapM (toP O (n+(Enc.dep α+Enc.dep β)))).bind (λps=>some (PyData.tuple ps))=_
 have h1:toP O (n+(Enc.dep α+Enc.dep β)) (Enc.d x.1)=some (Enc.p x.1):=by
  rw[show n+(Enc.dep α+Enc.dep β)=n+Enc.dep β+Enc.dep α by omega];exact Enc.rd O _ x.1
 have h2:toP O (n+(Enc.dep α+Enc.dep β)) (Enc.d x.2)=some (Enc.p x.2):=by
  rw[show n+(Enc.dep α+Enc.dep β)=n+Enc.dep α+Enc.dep β by omega];exact Enc.rd O _ x.2
 rw[mapM_cons,mapM_cons,h1,h2];rfl,λa b=>by
 rw[Yd,YH,YH,YH,yN,yN,Enc.eq,Enc.eq];constructor
 ·rintro⟨h1,h2,_⟩;exact Prod.ext h1 h2
 ·rintro rfl;exact⟨rfl,rfl,rfl⟩⟩
def z0r{R R':List Nat}{K K':List (List Nat)}(q:Q (.bl (decide ((R,K)=(R',K')))) O):W2 gEq (wn R K) (wn R' K') O Q:=z3t (R,K) (R',K') q
def z7g(h:xl s=true):toP O 8 (.str s)=some (.str s):=by
 show(bif xl s then some (PyData.str s) else none)=_;rw[h];rfl
def zur(q:Q (.bl (Yd (.str a) (.str b))) O)(ha:xl a=true:=by decide +kernel)(hb:xl b=true:=by decide +kernel):W2 gEq (.str a) (.str b) O Q:=zKu (z7g ha) (z7g hb) q
structure WX(F:FX)(ds:List D)(O:Mem)(Q:D->Mem->Prop):Prop where
 ex:∃d O',F ds O=some (.ok d O')/\Q d O'
def zxn{G:FA}(h:WA G J O λds O1=>WX F ds O1 Q):WE (zvm F G) J O Q:=by
 obtain⟨ds,O1,e1,d,O2,e2,q⟩:=h;exact⟨d,O2,by simp[e1,e2],q⟩
def z5s{tb:Kit}{c:yg}{fs:List (yg×D)}{b:Bool}(h:O[n]?=some (.exc c fs))(ha:tb.lookup (some c,CN.own s)=some b)(q:Q (.bl b) O):WF (zUn tb) [.loc n,.own s] O Q:=⟨_,_,by simp only[zUn,zsl,h,yi,zRr,zEt,ha],q⟩
def z7r{tb:Kit}{c:yg}{s:String}{fs:List (yg×D)}{b:Bool}(h:O[n]?=some (.exc c fs))(ha:tb.lookup (some c,CN.ty s)=some b)(q:Q (.bl b) O):WF (zUn tb) [.loc n,.ty s] O Q:=⟨_,_,by simp only[zUn,zsl,h,yi,zRr,zEt,ha],q⟩
def zYr{tb:Kit}{c:yg}{d:D}{fs:List (yg×D)}{b:Bool}(h:O[n]?=some (.exc c fs))(ha:zKi tb (some c) (d::ds)=some b)(q:Q (.bl b) O):WF (zUn tb) [.loc n,.tup (d::ds)] O Q:=⟨_,_,by simp only[zUn,zsl,h,yi,ha],q⟩
def zXu(nx:M.Loc->Mem->Prop)(rt:D->Mem->Prop)(ex:yg->List (yg×D)->Mem->Prop):Out->Prop
 |.next J O=>nx J O
 |.ret d O=>rt d O
 |.exc c fs O=>ex c fs O
 |_=>False
structure WXs(p:FS)(J:M.Loc)(O:Mem)(nx:M.Loc->Mem->Prop)(rt:D->Mem->Prop)(ex:yg->List (yg×D)->Mem->Prop):Prop where
 ex:∃o,p J O=some o/\zXu nx rt ex o
section
variable {p q:FS}{J:M.Loc}{O:Mem}{nx:M.Loc->Mem->Prop}{rt:D->Mem->Prop}{ex:yg->List (yg×D)->Mem->Prop}
def zOr(h:WS p J O nx rt (λ_ _=>False) λ_ _=>False):WXs p J O nx rt ex:=by
 obtain⟨o,e,k⟩:=h
 cases o with
 |next _ _=>exact⟨_,e,k⟩
 |ret _ _=>exact⟨_,e,k⟩
 |brk _ _=>exact k.elim
 |cont _ _=>exact k.elim
 |exc _ _ _=>exact k.elim
def zze(h:WXs p J O (λJ' O'=>WXs q J' O' nx rt ex) rt ex):WXs (znb p q) J O nx rt ex:=by
 obtain⟨o,e,k⟩:=h
 cases o with
 |next J' O'=>obtain⟨o2,e2,k2⟩:=k;exact⟨o2,by simp[e,e2],k2⟩
 |ret d O'=>exact⟨.ret d O',by simp only[znb,e],k⟩
 |exc c fs O'=>exact⟨.exc c fs O',by simp only[znb,e],k⟩
 |brk _ _=>exact k.elim
 |cont _ _=>exact k.elim
def zDr{c:FT}(h:WT c J O λb O1=>(b=true->WXs p J O1 nx rt ex)/\(b=false->WXs q J O1 nx rt ex)):WXs (sIf c p q) J O nx rt ex:=by
 obtain⟨b,O1,e,h1,h2⟩:=h
 cases b with
 |true=>obtain⟨o,e2,k⟩:=h1 rfl;exact⟨o,by simp[e,e2],k⟩
 |false=>obtain⟨o,e2,k⟩:=h2 rfl;exact⟨o,by simp[e,e2],k⟩
end
structure WXr(F:FX)(ds:List D)(O:Mem)(Q:D->Mem->Prop)(ex:yg->List (yg×D)->Mem->Prop):Prop where
 ex:(∃d O',F ds O=some (.ok d O')/\Q d O')\/∃c fs O',F ds O=some (.exc c fs O')/\ex c fs O'
def z2i{N:List yg}{p:FS}{ex:yg->List (yg×D)->Mem->Prop}(hF:F=λds O=>zVp (p (zM N ds) O))(h:WXs p (zM N ds) O (λ_ O'=>Q .non O') Q ex):WXr F ds O Q ex:=by
 subst hF;obtain⟨o,e,k⟩:=h
 cases o with
 |next J' O'=>exact⟨.inl ⟨_,_,by rw[e];rfl,k⟩⟩
 |ret d O'=>exact⟨.inl ⟨_,_,by rw[e];rfl,k⟩⟩
 |exc c fs O'=>exact⟨.inr ⟨_,_,_,by rw[e];rfl,k⟩⟩
 |brk _ _=>exact k.elim
 |cont _ _=>exact k.elim
structure WH(η:FH)(c:yg)(fs:List (yg×D))(J:M.Loc)(O:Mem)(nx:M.Loc->Mem->Prop)(rt:D->Mem->Prop):Prop where
 ex:∃o,η c fs J O=some o/\zXu nx rt (λ_ _ _=>False) o
section
variable {p q:FS}{i:Nat}{tb:List (yg×Bool)}{η:FH}{c:yg}{fs:List (yg×D)}{J:M.Loc}{O:Mem}{nx:M.Loc->Mem->Prop}{rt:D->Mem->Prop}{bk ct:M.Loc->Mem->Prop}{ex:yg->List (yg×D)->Mem->Prop}
def zWt(h:WXs p J O nx rt (λc fs O'=>WH η c fs J O' nx rt)):WS (z4o p η) J O nx rt bk ct:=by
 obtain⟨o,e,k⟩:=h
 cases o with
 |next J' O'=>exact⟨.next J' O',by simp only[z4o,e],k⟩
 |ret d O'=>exact⟨.ret d O',by simp only[z4o,e],k⟩
 |brk _ _=>exact k.elim
 |cont _ _=>exact k.elim
 |exc c fs O'=>
  obtain⟨o,e3,k⟩:=k
  cases o with
  |next J' O2=>exact⟨.next J' O2,by simp only[z4o,e,e3],k⟩
  |ret d O2=>exact⟨.ret d O2,by simp only[z4o,e,e3],k⟩
  |brk _ _=>exact k.elim
  |cont _ _=>exact k.elim
  |exc _ _ _=>exact k.elim
def zhv(ht:tb.lookup c=some true)(h:WS q (J.set i (some (.loc O.length))) (O++[.exc c fs]) (λJ' O'=>nx (J'.set i none) O') rt (λ_ _=>False) (λ_ _=>False)):WH (hAs i tb q η) c fs J O nx rt:=by
 obtain⟨o,e,k⟩:=h
 cases o with
 |next J' O2=>exact⟨.next _ O2,by simp only[hAs,ht,e,zyo],k⟩
 |ret d O2=>exact⟨.ret d O2,by simp only[hAs,ht,e,zyo],k⟩
 |brk _ _=>exact k.elim
 |cont _ _=>exact k.elim
 |exc _ _ _=>exact k.elim
end
structure WR(G:FR)(J:M.Loc)(O:Mem)(Q:D->Mem->Prop)(ex:yg->List (yg×D)->Mem->Prop):Prop where
 ex:(∃d O',G J O=some (.ok d O')/\Q d O')\/∃c fs O',G J O=some (.exc c fs O')/\ex c fs O'
section
variable {G ψ:FR}{J:M.Loc}{O:Mem}{Q:D->Mem->Prop}{nx:M.Loc->Mem->Prop}{rt:D->Mem->Prop}{ex:yg->List (yg×D)->Mem->Prop}
def zDm(h:WA α J O λds O1=>WXr F ds O1 Q ex):WR (fXC F α) J O Q ex:=by
 obtain⟨ds,O1,e,⟨d,O',e2,q⟩|⟨c,fs,O',e2,q⟩⟩:=h
 ·exact⟨.inl ⟨d,O',by simp only[fXC,e,yi,e2],q⟩⟩
 ·exact⟨.inr ⟨c,fs,O',by simp only[fXC,e,yi,e2],q⟩⟩
def z3l{g:GL}(h:WR G J O (λd O1=>WF g [d] O1 Q) ex):WR (zUg g G) J O Q ex:=by
 obtain⟨⟨d,O1,e,d2,O',e2,q⟩|⟨c,fs,O',e,q⟩⟩:=h
 ·exact⟨.inl ⟨d2,O',by simp only[zUg,zTi,e,yi,e2,xn],q⟩⟩
 ·exact⟨.inr ⟨c,fs,O',by simp only[zUg,zTi,e,yi],q⟩⟩
def zdu(h:WR G J O (λd O1=>WR ψ J O1 (λd2 O2=>Q (.tup [d,d2]) O2) ex) ex):WR (zbl G ψ) J O Q ex:=by
 obtain⟨⟨d,O1,e,⟨d2,O2,e2,q⟩|⟨c,fs,O2,e2,q⟩⟩|⟨c,fs,O',e,q⟩⟩:=h
 ·exact⟨.inl ⟨_,O2,by simp only[zbl,zTi,e,yi,e2],q⟩⟩
 ·exact⟨.inr ⟨c,fs,O2,by simp only[zbl,zTi,e,yi,e2],q⟩⟩
 ·exact⟨.inr ⟨c,fs,O',by simp only[zbl,zTi,e,yi],q⟩⟩
def zCq(h:WR G J O rt ex):WXs (zkn G) J O nx rt ex:=by
 obtain⟨⟨d,O',e,q⟩|⟨c,fs,O',e,q⟩⟩:=h
 ·exact⟨.ret d O',by simp only[zkn,e,xn],q⟩
 ·exact⟨.exc c fs O',by simp only[zkn,e,xn],q⟩
def z7p{i:Nat}(h:WR G J O (λd O'=>nx (J.set i (some d)) O') ex):WXs (z2m i G) J O nx rt ex:=by
 obtain⟨⟨d,O',e,q⟩|⟨c,fs,O',e,q⟩⟩:=h
 ·exact⟨.next _ O',by simp only[z2m,e,xn],q⟩
 ·exact⟨.exc c fs O',by simp only[z2m,e,xn],q⟩
def z9s{i:Nat}{ψ:FE}{tb:List (yg×FX)}(h:WE ψ J O λd O0=>∃c F,d=.own c/\tb.lookup c=some F/\WA α J O0 λds O1=>WXr F ds O1 (λd O'=>nx (J.set i (some d)) O') ex):WXs (zpn i ψ tb α) J O nx rt ex:=by
 obtain⟨d,O0,e0,c,F,rfl,hF,ds,O1,e1,⟨d,O',e2,q⟩|⟨c2,fs,O',e2,q⟩⟩:=h
 ·exact⟨.next _ O',by simp only[zpn,e0,yi,hF,zst,e1,e2],q⟩
 ·exact⟨.exc c2 fs O',by simp only[zpn,e0,yi,hF,zst,e1,e2],q⟩
def zNp{α:Type}{g:FG}{ok:Mem->Bool}(e:α->D)(f:α->D)(good:α->Prop){O0:Mem}(hok:∀O',tq O0 O'->ok O'=true) :
 ∀(l:List α)(ys:List D)(O:Mem),(∀x∈l,∀O',tq O0 O'->WG g (e x) J O' λJ1 O1=>WR G J1 O1 (λd O3=>good x/\d=f x/\tq O0 O3) λc fs O3=>¬good x/\c="NoText"/\fs=[]/\tq O0 O3) ->
  tq O0 O->(∀O',tq O0 O'->(∀x∈l,good x)->Q (.loc O'.length) (O'++[.lst (ys++l.map f)]))->(∀O',tq O0 O'->(∃x∈l,¬good x)->ex "NoText" [] O') ->
  (∃d O',lcR g G ok J (l.map e) ys O=some (.ok d O')/\Q d O')\/∃c fs O',lcR g G ok J (l.map e) ys O=some (.exc c fs O')/\ex c fs O'
 |[],ys,O,_,k,q,_ =>.inl ⟨.loc O.length,O++[.lst ys],by simp only[map_nil,lcR,hok O k,cond_true],by have:=q O k (by simp);rwa [map_nil,append_nil]at this⟩
 |x::l,ys,O,hs,k,q,qx=>by
  obtain⟨J1,O1,e1,⟨d,O3,e2,hg,rfl,k3⟩|⟨c,fs,O3,e2,hg,rfl,rfl,k3⟩⟩:=hs x mem_cons_self O k
  ·have:=zNp e f good hok l (ys++[f x]) O3 (λy hy=>hs y (mem_cons_of_mem _ hy)) k3 (λO' k' h=>by
    have:=q O' k' λy hy=>by
     rcases List.mem_cons.mp hy with rfl|hy
     ·exact hg
     ·exact h y hy
    have ee:ys++[f x]++l.map f=ys++(x::l).map f:=by simp
    rw[ee];exact this) (λO' k' ⟨y,hy,hn⟩=>qx O' k' ⟨y,mem_cons_of_mem _ hy,hn⟩)
   rcases this with ⟨d,O',e3,q3⟩|⟨c,fs,O',e3,q3⟩
   ·exact .inl ⟨d,O',by simp only[map_cons,lcR,hok O k,cond_true,e1,yi,e2];exact e3,q3⟩
   ·exact .inr ⟨c,fs,O',by simp only[map_cons,lcR,hok O k,cond_true,e1,yi,e2];exact e3,q3⟩
  ·exact .inr ⟨_,_,O3,by simp only[map_cons,lcR,hok O k,cond_true,e1,yi,e2],qx O3 k3 ⟨x,mem_cons_self,hg⟩⟩
def zZt{fr:List Nat}{i:FI}{g:FG}(h:WI i J O λds ok O1=>M.few ds=true/\((∃d O',lcR g G ok (M.δC n fr J) ds [] O1=some (.ok d O')/\Q d O')\/∃c fs O',lcR g G ok (M.δC n fr J) ds [] O1=some (.exc c fs O')/\ex c fs O')):WR (fLX n fr i g G) J O Q ex:=by
 obtain⟨ds,ok,O1,e,hf,⟨d,O',e2,q⟩|⟨c,fs,O',e2,q⟩⟩:=h
 ·exact⟨.inl ⟨d,O',by simp only[fLX,e,yi,hf,cond_true,e2],q⟩⟩
 ·exact⟨.inr ⟨c,fs,O',by simp only[fLX,e,yi,hf,cond_true,e2],q⟩⟩
end
def zKg{G:FA}{c:yg}{ex:yg->List (yg×D)->Mem->Prop}(h:WA G J O λ_ O1=>ex c [] O1):WXs (zNf c G) J O nx rt ex:=by
 obtain⟨ds,O1,e,k⟩:=h;exact⟨.exc c [] O1,by simp only[zNf,e,yi],k⟩
def z2h{ex:yg->List (yg×D)->Mem->Prop}(h:nx J O):WXs z1d J O nx rt ex:=⟨.next J O,rfl,h⟩
section
open PySem.Builtin PySem.Builtin.Str
def zJf(h:a.cps.toList=b.cps.toList):a=b:=Str.ext' (Array.toList_inj.mp h)
def zR(a b:yg):(a++b).cps.toList=a.cps.toList++b.cps.toList:=by
 rw[Str.cps_append,Array.toList_append]
def zI(a:yg):a.length=a.cps.toList.length:=(Array.length_toList ..).symm
def zOq(hy:y.cps.toList=c::y'){k:Nat}(h:StrLaws.At x y x.length k):x.cps.toList[k]?=some c:=by
 have h2:=h.2;rw[StrLaws.subAt_eq,hy,zI y,hy]at h2;have h3:=eq_of_beq h2;have h4:=congrArg (λl=>l[0]?) h3;simpa using h4
def zAs{r:List Nat}{k:Nat}(hk:k<=x.length)(h:x.cps.toList.drop k=y.cps.toList++r):StrLaws.At x y x.length k:=by
 refine⟨?_,?_⟩
 ·have:=congrArg List.length h;rw[length_drop,length_append,<-zI,<-zI]at this;omega
 ·rw[StrLaws.subAt_eq,h,zI y,List.take_left];exact beq_self_eq_true _
def zdm{p r:List Nat}(hy:y.cps.toList=c::y'){a d:Nat}(hd:x.cps.toList.drop a=p++r)(hp:c∉p)(h:StrLaws.At x y x.length d)(h1:a<=d):a+p.length<=d:=by
 refine xv λh2=>hp ?_;have e:=zOq hy h
 have e2:(x.cps.toList.drop a)[d-a]?=some c:=by
  rw[List.getElem?_drop,show a+(d-a)=d by omega];exact e
 rw[hd,yE (by omega)]at e2;exact mem_of_getElem? e2
def zeb(y p q:yg)(r:List yg):(yY y (p::q::r)).cps.toList=p.cps.toList++(y.cps.toList++(yY y (q::r)).cps.toList):=by
 show(p++y++yY y (q::r)).cps.toList=_;rw[zR,zR,append_assoc]
def zaj(x y:yg){c:Nat}{y':List Nat}(hy:y.cps.toList=c::y'):∀(parts:List yg)(a f:Nat)(cuts:List Nat),parts≠[]->(∀p∈parts,c∉p.cps.toList)->a<=x.length ->
 x.cps.toList.drop a=(yY y parts).cps.toList->StrLaws.ChainG x y x.length a cuts f->(∀k,f<=k->¬StrLaws.At x y x.length k)->YY x y.length a cuts=parts
 |[],_,_,_,h,_,_,_,_,_=>absurd rfl h
 |[p],a,f,cuts,_,hc,ha,hd,hG,hn=>by
  have hd:x.cps.toList.drop a=p.cps.toList:=hd
  have hpl:x.length=a+p.length:=by
   have:=congrArg List.length hd;rw[length_drop,<-zI,<-zI]at this;omega
  cases cuts with
  |nil=>
   show[strSub x a x.length]=[p]
   congr 1
   apply zJf;rw[StrLaws.strSub_toList,hd,xm];rw[<-zI];omega
  |cons d r=>
   have h1:=zdm hy (r:=[]) (by rw[hd,append_nil]) (hc p (by simp)) hG.2.1 hG.1;have h2:=hG.2.1.1;have h3:1<=y.length:=by rw[zI,hy];simp
   rw[<-zI]at h1;omega
 |p::q::r,a,f,cuts,_,hc,ha,hd,hG,hn=>by
  rw[zeb]at hd
  have e1:x.cps.toList.drop (a+p.length)=y.cps.toList++(yY y (q::r)).cps.toList:=by
   rw[zI p,<-List.drop_drop,hd,List.drop_left]
  have hal:a+p.length<=x.length:=by
   have:=congrArg List.length hd;rw[length_drop,length_append,<-zI,<-zI]at this;omega
  have hA:=zAs hal e1;have hl:=hA.1
  cases cuts with
  |nil=>
   have e:f=a:=hG;exact absurd hA (hn _ (by omega))
  |cons d r'=>
   obtain⟨g1,g2,g3,g4⟩:=hG;have h1:=zdm hy hd (hc p (by simp)) g2 g1;rw[<-zI]at h1
   have h2:d=a+p.length:=by
    refine Nat.le_antisymm (xv λh=>g3 (a+p.length) (by omega) h hA) h1
   subst h2;show strSub x a (a+p.length)::YY x y.length (a+p.length+y.length) r'=_
   congr 1
   ·apply zJf;rw[StrLaws.strSub_toList,Nat.add_sub_cancel_left,hd,zI p,List.take_left]
   ·refine zaj x y hy (q::r) _ f r' (by simp) (λz hz=>hc z (mem_cons_of_mem _ hz)) hl ?_ g4 hn;rw[zI y,<-List.drop_drop,e1,List.drop_left]
def zep(h:y.cps.all (· < 256)=true):YW y=1:=by
 unfold YW;rw[if_pos h]
def zOp(x:yg):1<=YW x:=by
 unfold YW
 split
 ·exact yo _
 ·split<;>omega
def zJ(hy:y.cps.toList=c::y')(hk:y.cps.all (· < 256)=true){parts:List yg}(h0:parts≠[])(hc:∀p∈parts,c∉p.cps.toList):yx (yv y parts) y=parts:=by
 show yx (glued y parts) y=parts;rw[StrLaws.glued_eq_join];have hyl:1<=y.length:=by rw[zI,hy];simp
 obtain⟨f,hG,hn⟩:=StrLaws.occ_tight (yY y parts) y hyl;have key:=zaj (yY y parts) y hy parts 0 f _ h0 hc (Yv _) rfl hG hn
 have one:YY (yY y parts) y.length 0 []=[yY y parts]:=by
  show[strSub _ 0 _]=_;rw[StrLaws.sub_whole]
 unfold yx
 split
 ·rename_i h
  rw[Bool.or_eq_true,decide_eq_true_eq,decide_eq_true_eq]at h
  have h1:(yY y parts).length<y.length:=by
   rcases h with h|h
   ·exact h
   ·have:=zOp (yY y parts);rw[zep hk]at h;omega
  match parts,h0 with
  |[p],_=>rfl
  |p::q::r,_=>
   have:=zI (yY y (p::q::r));rw[zeb,length_append,length_append,<-zI,<-zI]at this;omega
 ·split
  ·rename_i h
   rw[List.isEmpty_iff]at h;rw[h,one]at key;exact key
  ·rw[StrLaws.partsBetween_eq];exact key
end
def dg(n:Nat):List Nat:=(Nat.toDigits 10 n).map Char.toNat
def zVh(h:n<10):dg n=[48+n]:=by
 unfold dg;rw[Nat.toDigits_of_lt_base h];have:∀d:Nat,d<10->(Nat.digitChar d).toNat=48+d:=by decide
 show[(Nat.digitChar n).toNat]=_;rw[this n h]
def zzo(h:10<=n):dg n=dg (n / 10)++[48+n%10]:=by
 have hm:n%10<10:=Nat.mod_lt n (by decide);have t:Nat.toDigits 10 (n / 10)++Nat.toDigits 10 (n%10)=Nat.toDigits 10 (10*(n / 10)+n%10):=Nat.toDigits_append_toDigits (by decide) (by omega) hm;rw[Nat.div_add_mod]at t;rw[<-zVh hm];unfold dg;rw[<-t,map_append]
def zpf :∀(n c:Nat),c∈dg n->48<=c/\c<=57:=λn=>by
 induction n using Nat.strongRecOn with
 |_ n ih=>
  intro c hc
  by_cases h:n<10
  ·rw[zVh h]at hc;have:=List.mem_singleton.mp hc;omega
  ·rw[zzo (by omega)]at hc;rcases List.mem_append.mp hc with hc|hc
   ·exact ih (n / 10) (by omega) c hc
   ·have:=List.mem_singleton.mp hc;omega
def zFj(n:Nat):dg n≠[]:=by
 by_cases h:n<10
 ·rw[zVh h];simp
 ·rw[zzo (by omega)];simp
def zJl :∀n:Nat,0<n->(dg n)[0]?≠some 48:=λn=>by
 induction n using Nat.strongRecOn with
 |_ n ih=>
  intro h0
  by_cases h:n<10
  ·rw[zVh h];simp;omega
  ·rw[zzo (by omega),yE (List.length_pos_iff.mpr (zFj _))];exact ih (n / 10) (by omega) (by omega)
def zeo:∀(k n:Nat),n<10^(k+1)->(dg n).length<=k+1
 |0,n,h=>by rw[zVh (by simpa using h)];simp
 |k+1,n,h=>by
  by_cases h1:n<10
  ·rw[zVh h1];simp
  ·rw[zzo (by omega),length_append];have:=zeo k (n / 10) (by rw[Nat.pow_succ]at h;omega);simp;omega
abbrev num(n:Nat):yg:=Str.ofString (toString (n:Int))
def zvd(n:Nat):(num n).cps.toList=dg n:=W.KIN.signs_num n
def zAn(h:n<100000):1<=(num n).length/\(num n).length<=5:=by
 rw[zI,zvd];exact⟨List.length_pos_iff.mpr (zFj n),zeo 4 n h⟩
def zir(h:n<100000):(n:Int).natAbs.log2<1920:=by
 show n.log2<1920
 by_cases h0:n=0
 ·subst h0;decide
 ·exact Nat.lt_trans ((Nat.log2_lt h0).mpr (show n<2^17 by omega)) (by decide)
def z6r(h:48<=c/\c<=57):(Yr "0123456789" ⟨#[c]⟩ 0 ("0123456789":yg).length 1).isEmpty=false:=by
 have e:=StrLaws.found_one "0123456789" c;have h2:∀d:Nat,d<10->48+d∈("0123456789":yg).cps.toList:=by decide +kernel
 rw[decide_eq_true (by have:=h2 (c-48) (by omega);rwa [show 48+(c-48)=c by omega]at this)]at e;simpa using e
def fit{B:Nat}(h:∀y∈ys,y.length<=B)(hB:B<=1000)(hl:ys.length<=100)(hz:z.length<=10):(ys.map (·.length)).sum+ys.length*z.length<=1000000:=by
 have h1:=StrLaws.sumLen_le ys h;have h2:=xh hl hB;have h3:=xh hl hz;omega
def zQ(z:yg)(ys:List yg):yv z ys=yY z ys:=StrLaws.glued_eq_join z ys
def zeg{B:Nat}(h:∀y∈ys,y.length<=B)(hB:B<=1000)(hl:ys.length<=100)(hz:z.length<=10):(yv z ys).length<=ys.length*B+ys.length*z.length:=by
 have h1:=StrLaws.sumLen_le ys h;have h2:=StrLaws.join_length_le z ys;rw[zQ];omega
def zgc{z:yg}{c:Nat}:∀{ys:List yg},c∈(yY z ys).cps.toList->c∈z.cps.toList\/∃y∈ys,c∈y.cps.toList
 |[],h=>by simp[yY,Str.empty]at h
 |[y],h =>.inr ⟨y,by simp,h⟩
 |y::y2::r,h=>by
  rw[zeb,mem_append,mem_append]at h;rcases h with h|h|h
  ·exact .inr ⟨y,by simp,h⟩
  ·exact .inl h
  ·rcases zgc h with h|⟨p,hp,h⟩
   ·exact .inl h
   ·exact .inr ⟨p,mem_cons_of_mem _ hp,h⟩
def zpi(h:c<48\/57<c){ns:List Nat}:∀p∈ns.map num,c∉p.cps.toList:=λp hp hc=>by
 obtain⟨n,_,rfl⟩:=List.mem_map.mp hp;rw[zvd]at hc;have:=zpf n c hc;omega
def zmj(hn:∀n∈ns,n<100000):∀y∈ns.map num,y.length<=5:=λy hy=>by
 obtain⟨n,h,rfl⟩:=List.mem_map.mp hy;exact(zAn (hn n h)).2
abbrev zg(ns:List Nat):yg:=yv "," (ns.map num)
def zBf(hl:ns.length<=10)(hn:∀n∈ns,n<100000):(zg ns).length<=60:=by
 have:=zeg (z:=",") (zmj hn) (by decide) (by rw[length_map];omega) (by decide);rw[length_map]at this;have h1:(",":yg).length=1:=rfl;rw[h1]at this;exact yq this (by omega)
def zDc(h:c∈(zg ns).cps.toList):c=44\/(48<=c/\c<=57):=by
 rw[zg,zQ]at h;rcases zgc h with h|⟨y,hy,h⟩
 ·have e:(",":yg).cps.toList=[44]:=by decide +kernel
  rw[e]at h;exact .inl (List.mem_singleton.mp h)
 ·obtain⟨n,_,rfl⟩:=List.mem_map.mp hy;rw[zvd]at h;exact .inr (zpf n c h)
def ztg(hl:ns.length<=100)(hn:∀n∈ns,n<100000)(q:∀O',tq O O'->Q (.str (zg ns)) O'):WF zyb [tn ns] O Q:=by
 refine zNc rfl ?_;show WS z4c [some (tn ns)] O _ _ _ _;unfold z4c;refine zUb (zSb (w_c ⟨_,rfl,zb (zmm (zdh (zf rfl (.inl ⟨_,rfl,zgd (by rw[length_map];omega),?_⟩))))⟩));refine zMf (λ(n:Nat)=>D.int n) ns (λn =>.str (num n)) (λ_ _=>rfl) (λn hn' O' kp=>?_) (λO' kp=>?_)
 ·refine zOi ?_;unfold zkf;exact zm (zb (zf rfl (zl (z5r (zir (hn n hn')) ⟨rfl,kp,kp⟩))))
 ·exact zl (zsg (ys:=ns.map num) (by rw[tm,map_map];rfl) (fit (zmj hn) (by decide) (by rw[length_map];exact hl) (by decide)) (q _ kp.to))
def zme(hy:y.cps.toList=c::y'):1<=y.length:=by rw[zI,hy];simp
def comma:(",":yg).cps.toList=[44]:=by decide +kernel
def zQe{a b:Int}(ha:a<=ds.length)(hb:(ds.length:Int)<=b)(q:Q (.bl true) O):WF zbb [.tup ds,.int a,.int b] O Q :=
 ⟨_,_,by simp[zbb,zJe,zah,ha,hb]<;>rfl,q⟩
def zUp(h:(n:Int)<=m)(q:Q (.bl true) O):WF z2c [.int n,.int m] O Q :=
 ⟨_,_,by simp[z2c,zWd,zwg,h]<;>rfl,q⟩
def zSj{α:Type}(l:List α):(l.map λ_=>true).all (λb=>b)=true:=by simp
def zAg{a b:Int}(ha:a<=ns.length)(hb:(ns.length:Int)<=b)(hl:ns.length<=1000)(hn:∀n∈ns,(n:Int)<=m)(q:∀O',tq O O'->Q (.bl true) O'):WF zL [tn ns,.int a,.int b,.int m] O Q:=by
 refine zNc rfl ?_;show WS zjb [some (tn ns),some (.int a),some (.int b),some (.int m)] O _ _ _ _;unfold zjb;refine zUb (z0d (zm (zb (zf rfl (zb (zf rfl (zb (zf rfl (zl (zQe (by rw[length_map];exact ha) (by rw[length_map];exact hb) ⟨_,rfl,λ_=>?_,λh=>(by cases h)⟩))))))))));refine zm (zb (zmm (zdh (zf rfl (.inl ⟨_,rfl,zgd (by rw[length_map];omega),?_⟩)))));refine zMf (λ(h:Nat)=>D.int h) ns (λ_ =>.bl true) (λ_ _=>rfl) (λn hn' O' kp=>?_) (λO' kp=>?_)
 ·refine zOi ?_;unfold zmc;exact zm (zb (zf rfl (zb (zf rfl (zl (zUp (hn n hn') ⟨rfl,kp,kp⟩))))))
 ·exact zl (znn (bs:=ns.map λ_=>true) (by rw[tm,map_map];rfl) (by rw[zSj];exact q _ kp.to))
def zti(h:1<=ns.length/\ns.length<=10)(hn:∀n∈ns,n<=9)(q:∀O',tq O O'->Q (.bl true) O'):WF zic [tn ns] O Q:=by
 refine zNc rfl ?_;show WS zWc [some (tn ns)] O _ _ _ _;unfold zWc;exact zUb (zm (zb (zf rfl (zb (w_c (zb (w_c (zb (w_c (zl (zAg (by omega) (by omega) (by omega) (λn hn'=>by have:=hn n hn';omega) q)))))))))))
def zmk(h:n<10^60):1<=(num n).length/\(num n).length<=60:=by
 rw[zI,zvd];exact⟨List.length_pos_iff.mpr (zFj n),zeo 59 n h⟩
def zeh(h:n<10^60):intText? (num n)=some (n:Int):=by
 obtain⟨_,hl⟩:=zmk h
 have hd:PySem.NumText.AllDigits (num n).cps.toList:=by
  intro c hc;rw[zvd]at hc;have:=zpf n c hc;exact⟨this.1,this.2⟩
 have hne:(num n).cps.toList≠[]:=by
  rw[zvd];exact zFj n
 have e:=PySem.intText_digits hd hne (yq hl (by decide));rw[W.KIN.signs_num,W.KIN.val_back]at e;exact e
abbrev lt(h:Nat):yg:=⟨#[97+h]⟩
abbrev zE(k:List Nat):yg:=yv " " (k.map lt)
abbrev zBb(R:List Nat)(K:List (List Nat)):yg:=yv "; " (zg R::K.map zE)
def blank:(" ":yg).cps.toList=[32]:=by decide +kernel
def semi:("; ":yg).cps.toList=[59,32]:=by decide +kernel
def zEk :∀y∈k.map lt,y.length<=1:=λy hy=>by
 obtain⟨n,_,rfl⟩:=List.mem_map.mp hy;exact yo 1
def zln(hl:k.length<=3):(zE k).length<=6:=by
 have:=zeg (z:=" ") (zEk (k:=k)) (by decide) (by rw[length_map];omega) (by decide);rw[length_map]at this;have h1:(" ":yg).length=1:=rfl;rw[h1]at this;exact yq this (by omega)
def zzn(h:Nat):(lt h).cps.toList=[97+h]:=rfl
def zzj(h:c∈(zE k).cps.toList):c=32\/97<=c:=by
 rw[zE,zQ]at h;rcases zgc h with h|⟨y,hy,h⟩
 ·rw[blank]at h;exact .inl (List.mem_singleton.mp h)
 ·obtain⟨n,_,rfl⟩:=List.mem_map.mp hy;rw[zzn]at h;have:=List.mem_singleton.mp h;exact .inr (by omega)
def zTh :∀p∈k.map lt,32∉p.cps.toList:=λp hp hc=>by
 obtain⟨n,_,rfl⟩:=List.mem_map.mp hp;rw[zzn]at hc;have:=List.mem_singleton.mp hc;omega
def zIb :∀p∈zg R::K.map zE,59∉p.cps.toList:=λp hp hc=>by
 rcases List.mem_cons.mp hp with rfl|hp
 ·have:=zDc hc;omega
 ·obtain⟨k,_,rfl⟩:=List.mem_map.mp hp;have:=zzj hc;omega
structure Wr(R:List Nat)(K:List (List Nat)):Prop where
 rl:1<=R.length/\R.length<=10
 rn:∀r∈R,r<=9
 kl:K.length<=30
 kn:∀k∈K,(2<=k.length/\k.length<=3)/\∀h∈k,h<R.length
def Wr.num(w:Wr R K):∀r∈R,r<100000:=λr h=>by have:=w.rn r h;omega
def Wr.short(w:Wr R K):∀y∈zg R::K.map zE,y.length<=60:=λy hy=>by
 rcases List.mem_cons.mp hy with rfl|hy
 ·exact zBf w.rl.2 w.num
 ·obtain⟨k,hk,rfl⟩:=List.mem_map.mp hy;exact yq (zln (w.kn k hk).1.2) (by decide)
def Wr.fit(w:Wr R K):((zg R::K.map zE).map (·.length)).sum+(zg R::K.map zE).length*("; ":yg).length<=1000000 :=
 P.fit w.short (by decide) (by have:=w.kl;rw[length_cons,length_map];omega) (by decide)
def zFo(h:∀c∈s.cps.toList,c<128):xl s=true:=by
 show s.cps.all _=true;rw[<-Array.all_toList,all_eq_true];exact λc hc=>decide_eq_true (Nat.lt_trans (h c hc) (by decide))
def Wr.ok(w:Wr R K):xl (zBb R K)=true:=by
 refine zFo λc hc=>?_;rw[zBb,zQ]at hc;rcases zgc hc with h|⟨y,hy,h⟩
 ·rw[semi]at h;simp at h;omega
 ·rcases List.mem_cons.mp hy with rfl|hy
  ·have:=zDc h;omega
  ·obtain⟨k,hk,rfl⟩:=List.mem_map.mp hy;rw[zE,zQ]at h;rcases zgc h with h|⟨z,hz,h⟩
   ·rw[blank]at h;have:=List.mem_singleton.mp h;omega
   ·obtain⟨n,hn,rfl⟩:=List.mem_map.mp hz;rw[zzn]at h;have:=List.mem_singleton.mp h;have h4:=(w.kn k hk).2 n hn;have h5:=w.rl;omega
def zht :∀r:Nat,r<10->atI ("abcdefghijklmnopqrstuvwxyz":yg).cps.toList ((r:Nat):Int)=some (97+r):=by decide +kernel
def z8k(hl:k.length<=3)(hk:∀h∈k,h<10)(q:∀O',tq O O'->Q (.str (zE k)) O'):WF z6d [tn k] O Q:=by
 refine zNc rfl ?_;show WS zhe [some (tn k)] O _ _ _ _;unfold zhe;refine zUb (zSb (w_c ⟨_,rfl,zb (zmm (zdh (zf rfl (.inl ⟨_,rfl,zgd (by rw[length_map];omega),?_⟩))))⟩));refine zMf (λ(n:Nat)=>D.int n) k (λn =>.str (lt n)) (λ_ _=>rfl) (λn hn' O' kp=>?_) (λO' kp=>?_)
 ·refine zOi ?_;unfold zog;exact zz (w_c (zf rfl (z2p (by decide) (zht n (hk n hn')) ⟨rfl,kp,kp⟩)))
 ·exact zl (zsg (ys:=k.map lt) (by rw[tm,map_map];rfl) (fit zEk (by decide) (by rw[length_map];omega) (by decide)) (q _ kp.to))
def ztj(w:Wr R K)(q:∀O',tq O O'->Q (.str (zBb R K)) O'):WF zDd [wn R K] O Q:=by
 have hrl:=w.rl;have hkl:=w.kl;refine zNc rfl ?_;show WS zdg [some (wn R K)] O _ _ _ _;unfold zdg;refine zUb (zSb (w_c ⟨_,rfl,zb (zz (zgg (zb (zm (zb (zz (zf rfl (w_c (zxf (zl ?_))))))))))⟩));refine ztg (by omega) w.num λO1 k1=>zl ?_;refine zmm (zdh (zz (zf rfl (w_c (zlj (.inl ⟨_,rfl,zgd (by rw[length_map];omega),?_⟩))))));refine zMf tn K (λk =>.str (zE k)) (λ_ _=>rfl) (λk hk O' kp=>?_) (λO' kp=>?_)
 ·obtain⟨hk3,hkn⟩:=w.kn k hk;refine zOi ?_;unfold zrh;exact zm (zb (zf rfl (zl (z8k hk3.2 (λh hh=>by have:=hkn h hh;omega) λO2 k2=>⟨rfl,kp.trans k2,kp⟩))))
 have g1:(O'++[tI.lst (K.map λk=>D.str (zE k))])[O1.length]?=some (.lst [D.str (zg R)]):=zfe (kp _ _ tm);refine zxm g1 tm (by simp;omega) (zl (zsg (ys:=zg R::K.map zE) ?_ w.fit (q _ ?_)))
 ·rw[tm,map_cons,map_map];rfl
 ·exact(k1.trans (tq.app.trans kp.to)).to
def zSm(w:Wr R K)(q:∀O',tq O O'->Q (.bl true) O'):WF zAe [.tup (K.map tn),.int (R.length:Nat)] O Q:=by
 have hrl:=w.rl;have hkl:=w.kl;refine zNc rfl ?_;show WS zFd [some (.tup (K.map tn)),some (.int (R.length:Nat))] O _ _ _ _;unfold zFd;refine zUb (z0d (zm (zb (zf rfl (zb (w_c (zb (w_c (zl (zQe (by omega) (by rw[length_map];omega) ⟨_,rfl,λ_=>?_,λh=>(by cases h)⟩))))))))));refine zm (zb (zmm (zdh (zf rfl (.inl ⟨_,rfl,zgd (by rw[length_map];omega),?_⟩)))));refine zMf tn K (λ_ =>.bl true) (λ_ _=>rfl) (λk hk O' kp=>?_) (λO' kp=>?_)
 ·obtain⟨hk3,hkn⟩:=w.kn k hk;refine zOi ?_;unfold zGf;exact zm (zb (zf rfl (zb (w_c (zb (w_c (zb (zz (zf rfl (w_c (zZn (zl (zAg (by omega) (by omega) (by omega) (λn hn=>by have:=hkn n hn;omega) λO2 k2=>⟨rfl,kp.trans k2,kp⟩)))))))))))))
 ·exact zl (znn (bs:=K.map λ_=>true) (by rw[tm,map_map];rfl) (by rw[zSj];exact q _ kp.to))
def zjp(w:Wr R K)(q:∀O',tq O O'->Q (.bl true) O'):WF zVe [wn R K] O Q:=by
 refine zNc rfl ?_;show WS zZf [some (wn R K)] O _ _ _ _;unfold zZf;refine zUb (z0d (zm (zb (zf rfl (zb (w_c (zb (w_c (zl (zQe (by simp) (by simp) ⟨_,rfl,λ_=>?_,λh=>(by cases h)⟩))))))))));refine z0d (zm (zb (zz (zf rfl (w_c (zxf (zl (zti w.rl w.rn λO1 k1=>⟨_,rfl,λ_=>?_,λh=>(by cases h)⟩))))))));refine zm (zb (zz (zf rfl (w_c (zlj (zb (zm (zb (zz (zf rfl (w_c (zxf (zl (zVm rfl (zl ?_)))))))))))))));rw[length_map];exact zSm w λO2 k2=>q _ (k1.trans k2)
structure Rl(R:List Nat)(W:List (List Nat)):Prop where
 rl:1<=R.length/\R.length<=10
 rn:∀r∈R,r<=9
 wl:2<=W.length/\W.length<=3
 wn:∀k∈W,k.length=2/\∀n∈k,n<=10006
def zHq{p:Nat->Prop}:∀ds:List D,(∀d∈ds,∃i:Nat,d=.int i/\p i)->∃ns:List Nat,ds=nat ns/\∀r∈ns,p r:=λds=>by
 induction ds with
 |nil=>exact λ_=>⟨[],rfl,by simp⟩
 |cons d ds ih=>
  intro h;obtain⟨ns,rfl,q⟩:=ih λx hx=>h x (mem_cons_of_mem _ hx);obtain⟨i,rfl,hi⟩:=h d mem_cons_self;exact⟨i::ns,rfl,by simp;exact⟨hi,q⟩⟩
def zUs{p:List Nat->Prop}:∀ds:List D,(∀d∈ds,∃i:List Nat,d=tn i/\p i)->∃ns:List (List Nat),ds=ns.map tn/\∀r∈ns,p r:=λds=>by
 induction ds with
 |nil=>exact λ_=>⟨[],rfl,by simp⟩
 |cons d ds ih=>
  intro h;obtain⟨ns,rfl,q⟩:=ih λx hx=>h x (mem_cons_of_mem _ hx);obtain⟨i,rfl,hi⟩:=h d mem_cons_self;exact⟨i::ns,rfl,by simp;exact⟨hi,q⟩⟩
def zLc{s:Nat}(h:Pen O l B)(hB:B<=1000000000)(h0:0<s)(h1:s<1000000)
 (q:∀(v:Nat) O',v<s->KB [l] O O'->Pen O' l (B+1)->Q (.int v) O'):WF zo [.loc l,.int (s:Nat)] O Q :=
 z3c h hB (by omega) (by omega) λv O' a b k _ p=>by
  have:=q v.toNat O' (by omega) k p
  rwa [Int.toNat_of_nonneg a]at this
def zEr(h:Pen O l B)(hB:B<=200000)
 (q:∀(R:List Nat)(W:List (List Nat)) O',Rl R W->KB [l] O O'->Pen O' l (B+100)->Q (wn R W) O'):WF zPe [.loc l] O Q:=by
 refine zNc rfl ?_;show WS zUe [some (.loc l),none,none,none,none] O _ _ _ _;unfold zUe;refine zB (zac (zz (w_c (zm (zb (zf rfl (zb (w_c (zl (zLc (s:=10) h (by omega) (by omega) (by omega) λv O1 hv k1 p1=>zUj ?_))))))))));refine zB (zac (zm (zb (zmm (zFi (zb (zf rfl (zl ⟨_,rfl,by omega,by omega,zgd (by simp;omega),?_⟩))))))));refine zlk (λi ys O'=>KB [l] O1 O'/\Pen O' l (B+1+i)/\ys.length=i/\∀d∈ys,∃j:Nat,d=.int j/\j<=9) ⟨.refl,by simpa using p1,rfl,by simp⟩ (λ_ _ _ _=>rfl) ?_ ?_
 ·rintro i x ys O' hx ⟨k,p,hl,hy⟩;obtain⟨hi,rfl⟩:=z9f hx;refine zOi (z9q ⟨λ_=>?_,λhf=>by cases hf⟩);unfold zWg;refine zm (zb (zf rfl (zb (w_c (zl (zLc (s:=10) p (by omega) (by omega) (by omega) λv2 O2 hv2 k2 p2=>⟨k.trans k2,p2.mono (by omega),by simp[hl],λd hd=>?_⟩))))));rcases List.mem_append.mp hd with hd|hd
  ·exact hy d hd
  ·exact⟨v2,by simpa using hd,by omega⟩
 rintro ys O2 ⟨k2,p2,hl2,hy⟩;obtain⟨R,rfl,hr⟩:=zHq ys hy;simp only[length_map,length_range]at hl2 p2;refine zl (z8e (zF tm) ?_);have k3:KB [l] O (O2++[tI.lst (nat R)]):=(k1.trans k2).app;have p3:Pen (O2++[tI.lst (nat R)]) l (B+12):=p2.app.mono (by omega);generalize O2++[tI.lst (nat R)]=O3 at k3 p3;refine zB (zac (zz (zgg (zb (w_c (zb (w_c (zl (zm (zb (zf rfl (zb (w_c (zl (zLc (s:=2) p3.app (by omega) (by omega) (by omega) λv4 O4 hv4 k4 p4=>?_)))))))))))))));have g4:O4[O3.length]?=some (.lst [.int 10007,.int 30]):=k4.at_ _ _ (by have:=p3.lt;simp;omega) tm
 obtain⟨sz,hsz,hat⟩:∃sz:Nat,(0<sz/\sz<=10007)/\atI [D.int 10007,D.int 30] (v4:Nat)=some (.int (sz:Nat)):=by
  have:v4=0\/v4=1:=by omega
  rcases this with rfl|rfl
  ·exact⟨10007,by omega,rfl⟩
  ·exact⟨30,by omega,rfl⟩
 refine ztk (zF g4) hat ?_;have k5:KB [l] O O4:=k3.app.trans k4;refine zB (zac (zm (zb (zmm (zFi (zb (zz (w_c (zm (zb (zf rfl (zb (w_c (zl (zLc (s:=2) p4 (by omega) (by omega) (by omega) λv6 O6 hv6 k6 p6=>zUj (zl ⟨_,rfl,by omega,by omega,zgd (by simp;omega),?_⟩))))))))))))))));refine zlk (λi ys O'=>KB [l] O6 O'/\Pen O' l (B+14+2*i)/\ys.length=i/\∀d∈ys,∃j:List Nat,d=tn j/\(j.length=2/\∀n∈j,n<=10006)) ⟨.refl,by simpa using p6.mono (by omega),rfl,by simp⟩ (λ_ _ _ _=>rfl) ?_ ?_
 ·rintro i x ys O' hx ⟨k,p,hl,hy⟩;obtain⟨hi,rfl⟩:=z9f hx;refine zOi (z9q ⟨λ_=>?_,λhf=>by cases hf⟩);unfold z1g;refine zMo (zb (zm (zb (zf rfl (zb (zf rfl (zl (zLc p (by omega) hsz.1 (by omega) λa O7 ha k7 p7=>?_))))))));refine zb (zm (zb (zf rfl (zb (zf rfl (zl (zLc p7 (by omega) hsz.1 (by omega) λb O8 hb k8 p8=>zl ⟨k.trans (k7.trans k8),p8.mono (by omega),by simp[hl],λd hd=>?_⟩)))))));rcases List.mem_append.mp hd with hd|hd
  ·exact hy d hd
  ·exact⟨[a,b],List.mem_singleton.mp hd,rfl,λn hn=>by simp at hn;omega⟩
 rintro ys O7 ⟨k7,p7,hl7,hy7⟩;obtain⟨W,rfl,hw⟩:=zUs ys hy7;simp only[length_map,length_range]at hl7 p7;refine zl (z8e (zF tm) ?_);refine zUb (zMo (zb (zf rfl (zb (zf rfl (zl ?_))))));exact q R W _ ⟨by omega,hr,by omega,hw⟩ (k5.trans (k6.trans k7)).app (p7.app.mono (by omega))
abbrev zY(R:List Nat)(W:List (List Nat)):yg:=yv " " (zg R::W.map zg)
def Rl.num{W:List (List Nat)}(w:Rl R W):∀r∈R,r<100000:=λr h=>by have:=w.rn r h;omega
def Rl.way{W:List (List Nat)}(w:Rl R W){k:List Nat}(hk:k∈W):∀r∈k,r<100000:=λr h=>by have:=(w.wn k hk).2 r h;omega
def Rl.short{W:List (List Nat)}(w:Rl R W):∀y∈zg R::W.map zg,y.length<=60:=λy hy=>by
 rcases List.mem_cons.mp hy with rfl|hy
 ·exact zBf w.rl.2 w.num
 ·obtain⟨k,hk,rfl⟩:=List.mem_map.mp hy;exact zBf (by rw[(w.wn k hk).1];decide) (w.way hk)
def Rl.fit{W:List (List Nat)}(w:Rl R W):((zg R::W.map zg).map (·.length)).sum+(zg R::W.map zg).length*(" ":yg).length<=1000000 :=
 P.fit w.short (by decide) (by have:=w.wl;rw[length_cons,length_map];omega) (by decide)
def z0f{W:List (List Nat)}(hp:p∈zg R::W.map zg){c:Nat}(hc:c∈p.cps.toList):c=44\/(48<=c/\c<=57):=by
 rcases List.mem_cons.mp hp with rfl|hp
 ·exact zDc hc
 ·obtain⟨k,_,rfl⟩:=List.mem_map.mp hp;exact zDc hc
def zzc{W:List (List Nat)}:∀p∈zg R::W.map zg,32∉p.cps.toList:=λp hp hc=>by
 have:=z0f hp hc;omega
def zIm{W:List (List Nat)}:xl (zY R W)=true:=by
 refine zFo λc hc=>?_;rw[zY,zQ]at hc;rcases zgc hc with h|⟨y,hy,h⟩
 ·rw[blank]at h;have:=List.mem_singleton.mp h;omega
 ·have:=z0f hy h;omega
def zEi{W:List (List Nat)}(w:Rl R W)(q:∀O',tq O O'->Q (.str (zY R W)) O'):WF zVc [wn R W] O Q:=by
 have hrl:=w.rl;have hwl:=w.wl;refine zNc rfl ?_;show WS z7e [some (wn R W)] O _ _ _ _;unfold z7e;refine zUb (zSb (w_c ⟨_,rfl,zb (zz (zgg (zb (zm (zb (zz (zf rfl (w_c (zxf (zl ?_))))))))))⟩));refine ztg (by omega) w.num λO1 k1=>zl ?_;refine zmm (zdh (zz (zf rfl (w_c (zlj (.inl ⟨_,rfl,zgd (by rw[length_map];omega),?_⟩))))));refine zMf tn W (λk =>.str (zg k)) (λ_ _=>rfl) (λk hk O' kp=>?_) (λO' kp=>?_)
 ·have h2:=(w.wn k hk).1;refine zOi ?_;unfold z5g;exact zm (zb (zf rfl (zl (ztg (by omega) (w.way hk) λO2 k2=>⟨rfl,kp.trans k2,kp⟩))))
 have g1:(O'++[tI.lst (W.map λk=>D.str (zg k))])[O1.length]?=some (.lst [D.str (zg R)]):=zfe (kp _ _ tm);refine zxm g1 tm (by simp;omega) (zl (zsg (ys:=zg R::W.map zg) ?_ w.fit (q _ ?_)))
 ·rw[tm,map_cons,map_map];rfl
 ·exact(k1.trans (tq.app.trans kp.to)).to
def zjn{W:List (List Nat)}(w:Rl R W)(q:∀O',tq O O'->Q (.bl true) O'):WF zwe [.tup (W.map tn)] O Q:=by
 have hwl:=w.wl;refine zNc rfl ?_;show WS zHd [some (.tup (W.map tn))] O _ _ _ _;unfold zHd;refine zUb (z0d (zm (zb (zf rfl (zb (w_c (zb (w_c (zl (zQe (by rw[length_map];omega) (by rw[length_map];omega) ⟨_,rfl,λ_=>?_,λh=>(by cases h)⟩))))))))));refine zm (zb (zmm (zdh (zf rfl (.inl ⟨_,rfl,zgd (by rw[length_map];omega),?_⟩)))));refine zMf tn W (λ_ =>.bl true) (λ_ _=>rfl) (λk hk O' kp=>?_) (λO' kp=>?_)
 ·obtain⟨hk2,hkn⟩:=w.wn k hk;refine zOi ?_;unfold zHf;exact zm (zb (zf rfl (zb (w_c (zb (w_c (zb (zz (w_c (w_c (zZn (zl (zAg (by omega) (by omega) (by omega) (λn hn=>by have:=hkn n hn;omega) λO2 k2=>⟨rfl,kp.trans k2,kp⟩)))))))))))))
 ·exact zl (znn (bs:=W.map λ_=>true) (by rw[tm,map_map];rfl) (by rw[zSj];exact q _ kp.to))
def zFn{W:List (List Nat)}(w:Rl R W)(q:∀O',tq O O'->Q (.bl true) O'):WF zZd [wn R W] O Q:=by
 refine zNc rfl ?_;show WS zEe [some (wn R W)] O _ _ _ _;unfold zEe;refine zUb (z0d (zm (zb (zf rfl (zb (w_c (zb (w_c (zl (zQe (by simp) (by simp) ⟨_,rfl,λ_=>?_,λh=>(by cases h)⟩))))))))));refine z0d (zm (zb (zz (zf rfl (w_c (zxf (zl (zti w.rl w.rn λO1 k1=>⟨_,rfl,λ_=>?_,λh=>(by cases h)⟩))))))));exact zm (zb (zz (zf rfl (w_c (zlj (zl (zjn w λO2 k2=>q _ (k1.trans k2))))))))
def zjq:∀(n:Nat)(L:List Nat),L.length=n+1->(∀c∈L,48<=c/\c<=57)->(L.head?≠some 48\/n=0)->∃v,dg v=L/\v<10^L.length
 |0,L,hl,hc,_=>by
  match L,hl with
  |[c],_=>
   have:=hc c (by simp);refine⟨c-48,?_,by simp;omega⟩;rw[zVh (by omega)]
   congr 1
   omega
 |n+1,L,hl,hc,hh=>by
  have hne:L≠[]:=λe=>by rw[e]at hl;simp at hl
  have e:L=L.dropLast++[L.getLast hne]:=(List.dropLast_concat_getLast hne).symm;have hh:L.head?≠some 48:=hh.resolve_right (by omega);have hdl:L.dropLast.length=n+1:=by rw[List.length_dropLast];omega
  have hd:L.dropLast≠[]:=λz=>by rw[z]at hdl;simp at hdl
  have hhd:L.dropLast.head?=L.head?:=by
   match L,hl with
   |a::b::r,_=>rfl
  obtain⟨v,h1,h2⟩:=zjq n L.dropLast hdl (λc hc'=>hc c (List.dropLast_subset _ hc')) (.inl (by rw[hhd];exact hh));have hlast:=hc _ (List.getLast_mem hne)
  have hv:0<v:=by
   rcases Nat.eq_zero_or_pos v with rfl|h
   ·rw[zVh (by omega)]at h1;rw[<-hhd,<-h1]at hh;exact absurd rfl hh
   ·exact h
  refine⟨10*v+(L.getLast hne-48),?_,?_⟩
  ·rw[zzo (by omega)];have a1:(10*v+(L.getLast hne-48)) / 10=v:=by omega
   have a2:48+(10*v+(L.getLast hne-48))%10=L.getLast hne:=by omega
   rw[a1,a2,h1];exact e.symm
  ·have:10^L.length=10*10^L.dropLast.length:=by rw[hdl,hl,Nat.pow_succ,Nat.mul_comm]
   rw[this];have:10*v+10<=10*10^L.dropLast.length:=by omega
   omega
abbrev Low(s:yg):Prop:=s.cps.all (· < 128)=true
def zIl(p:yg):Prop:=∃n,p=num n/\n<10^60
def zHr(h:¬(48<=c/\c<=57)):(Yr "0123456789" ⟨#[c]⟩ 0 ("0123456789":yg).length 1).isEmpty=true:=by
 have e:=StrLaws.found_one ("0123456789":yg) c;have e1:("0123456789":yg).cps.toList=[48,49,50,51,52,53,54,55,56,57]:=by decide +kernel
 rw[e1]at e;have:decide (c∈[48,49,50,51,52,53,54,55,56,57])=false:=decide_eq_false (by simp;omega);rw[this]at e;simpa using e
def zaq(c:Nat):Bool:=decide (48<=c/\c<=57)
def zXt(c:Nat):(Yr "0123456789" ⟨#[c]⟩ 0 ("0123456789":yg).length 1).isEmpty = !zaq c:=by
 unfold zaq
 by_cases h:48<=c/\c<=57
 ·rw[z6r h,decide_eq_true h];rfl
 ·rw[zHr h,decide_eq_false h];rfl
section
variable {p:yg}{O:Mem}{Q:D->Mem->Prop}{ex:yg->List (yg×D)->Mem->Prop}
def zNm(hl:p.length<=100000)(lo:Low p)(q:∀n O',n<10^60->p=num n->tq O O'->Q (.int (n:Nat)) O')(qx:∀O',¬zIl p->tq O O'->ex "NoText" [] O'):WXr zCd [.str p] O Q ex:=by
 refine z2i rfl ?_;show WXs zBd [some (.str p)] O _ _ _;unfold zBd;have no:∀O',(¬zIl p)->tq O O'->∀{z:yg} {nx:M.Loc->Mem->Prop} {rt:D->Mem->Prop},WXs (zNf "NoText" (zd (fC (.str z)) zx)) [some (.str p)] O' nx rt ex:=λO' h k=>zKg (zb (w_c (zl (qx O' h k))));refine zze (zDr (zTp (zOb (zz (zm (zb (zf rfl (zl (zXk (by omega) (w_c (zin ⟨_,rfl,λh0=>?_,λhb=>⟨λ_=>no O ?_ .refl,λh=>(by cases h)⟩⟩)))))))))))
 rotate_left
 ·rintro⟨n,rfl,hn⟩;have:=(zmk hn).1;have:=eq_of_beq hb;omega
 refine zTp (zOb (zz (zm (zb (zf rfl (zl (zXk (by omega) (w_c (zCl ⟨_,rfl,λh60=>?_,λhb=>⟨λ_=>no O ?_ .refl,λh=>(by cases h)⟩⟩)))))))))
 rotate_left
 ·rintro⟨n,rfl,hn⟩;have:=(zmk hn).2;have:=of_decide_eq_true hb;omega
 have h0:p.length≠0:=λe=>by rw[e]at h0;simp at h0
 have h60:=of_decide_eq_false h60;refine zOb (zm (zb (zmm (zPs (zf rfl ⟨_,rfl,lo,zgd (by unfold zhj;rw[length_map,<-zI];omega),?_⟩)))));refine zMf (λ(c:Nat)=>D.str ⟨#[c]⟩) p.cps.toList (λc =>.bl (!zaq c)) (λ_ _=>rfl) (λc hc O' kp=>?_) (λO' kp=>?_)
 ·refine zOi ?_;unfold zuf;exact zz (zf rfl (w_c (zgm ⟨by rw[zXt],kp,kp⟩)))
 have k1:tq O (O'++[tI.lst (p.cps.toList.map λc=>D.bl (!zaq c))]):=kp.to;refine zl (zOt (bs:=p.cps.toList.map λc=>!zaq c) (by rw[tm,map_map];rfl) ⟨_,rfl,λhb=>no _ ?_ k1,λhb=>z2h ?_⟩)
 ·rintro⟨n,rfl,hn⟩;rw[List.any_map,List.any_eq_true]at hb;obtain⟨c,hc,hb⟩:=hb;rw[zvd]at hc;have:=zpf n c hc;unfold zaq at hb;simp[this]at hb
 have hfig:∀c∈p.cps.toList,48<=c/\c<=57:=λc hc=>by
  rw[List.any_map,List.any_eq_false]at hb;have:=hb c hc;unfold zaq at this;simpa using this
 generalize O'++[tI.lst (p.cps.toList.map λc=>D.bl (!zaq c))]=O1 at k1
 obtain⟨c0,r0,hd⟩:∃c r,p.cps.toList=c::r:=by
  cases e:p.cps.toList with
  |nil=>exact absurd (by rw[zI,e];rfl) h0
  |cons c r=>exact⟨c,r,rfl⟩
 have hlow:=hfig c0 (by rw[hd];simp);have hat:atI p.cps.toList ((0:Nat):Int)=some c0:=z9g (by rw[hd];rfl);have e1:("0":yg).cps.toList=[48]:=by decide +kernel
 have fin:∀{nx:M.Loc->Mem->Prop},(c0≠48\/p.length=1)->WXs (zje (zv z7m (zd (zk 0) zx))) [some (.str p)] O1 nx Q ex:=λ{nx} h=>by
  obtain⟨v,h1,h2⟩:=zjq (p.length-1) p.cps.toList (by rw[<-zI];omega) hfig (by
   rcases h with h|h
   ·left
    rw[hd];simpa using h
   ·right
    omega)
  have hp:p=num v:=zJf (by rw[zvd,h1])
  have hv:v<10^60:=by
   refine yp h2 (Nat.pow_le_pow_right (by decide) ?_);rw[<-zI];omega
  exact zOr (zUb (zm (zb (zf rfl (zl (zCs (by rw[hp];exact zeh hv) (by omega) (q v O1 hv hp k1)))))))
 have hne:∀{b:Bool},((⟨#[c0]⟩:yg)==("0":yg))=b->b=decide (c0=48):=λ{b} h=>by
  rw[<-h,Bool.eq_iff_iff,beq_iff_eq,decide_eq_true_iff];constructor
  ·intro e0;have:=congrArg (λs:yg=>s.cps.toList) e0;dsimp only at this;rw[e1]at this;simpa using this
  ·rintro rfl;exact zJf (by rw[e1])
 refine zze (zDr (znq (zOb (zz (zz (zf rfl (w_c (z2p (by omega) hat (w_c (zur ⟨_,rfl,λhb=>?_,λhb=>⟨λhb=>(by cases hb),λ_=>z2h (fin (.inl ?_))⟩⟩ (by show(#[c0]:Array Nat).all _=true;simp;omega) (by decide +kernel)))))))))))
 ·have h48:c0=48:=of_decide_eq_true ((hne hb).symm);refine zOb (zz (zm (zb (zf rfl (zl (zXk (by omega) (w_c (zCl ⟨_,rfl,λh1=>no _ ?_ k1,λh1=>z2h (fin (.inr ?_))⟩))))))))
  ·rintro⟨n,rfl,hn⟩;have h1:=of_decide_eq_true h1
   have hn0:n=0:=by
    refine Nat.eq_zero_of_not_pos λhp=>zJl n hp ?_;rw[<-zvd,hd,h48];rfl
   have hl1:(num n).length=1:=by rw[zI,zvd,hn0];rfl
   omega
  ·have h1:=of_decide_eq_false h1;omega
 ·have:=hne hb;exact of_decide_eq_false this.symm
end
def zrf{z:yg}{c:Nat}:∀{ys:List yg} {y:yg},y∈ys->c∈y.cps.toList->c∈(yY z ys).cps.toList
 |[y],_,h,hc=>by
  rw[List.mem_singleton]at h;rw[h]at hc;exact hc
 |y::y2::r,x,h,hc=>by
  rw[zeb,mem_append,mem_append];rcases List.mem_cons.mp h with rfl|h
  ·exact .inl hc
  ·exact .inr (.inr (zrf h hc))
def zHn{z:yg}:∀{ys:List yg} {y:yg},y∈ys->y.length<=(yY z ys).length
 |[y],_,h=>by
  rw[List.mem_singleton]at h;rw[h];exact yo _
 |y::y2::r,x,h=>by
  rw[zI (yY z (y::y2::r)),zeb,length_append,length_append,<-zI,<-zI,<-zI];rcases List.mem_cons.mp h with rfl|h
  ·omega
  ·have:=zHn (z:=z) h;omega
def z8f{z:yg}(hz:1<=z.length):∀(ys:List yg),ys.length<=(yY z ys).length+1
 |[]=>by simp
 |[y]=>by simp
 |y::y2::r=>by
  rw[zI (yY z (y::y2::r)),zeb,length_append,length_append,<-zI,<-zI,<-zI];have:=z8f hz (y2::r);simp only[length_cons]at this ⊢;omega
structure Rd(s:yg):Prop where
 low:Low s
 len:s.length<=100000
def tE:Low s↔∀c∈s.cps.toList,c<128:=by
 unfold Low;rw[<-Array.all_toList,all_eq_true];exact⟨λh c hc=>of_decide_eq_true (h c hc),λh c hc=>decide_eq_true (h c hc)⟩
def Rd.part(h:Rd s)(hp:p∈yx s z):Rd p:=by
 have e:=Yu s z;refine⟨tE.mpr λc hc=>?_,?_⟩
 ·refine tE.mp h.low c ?_;rw[<-e];exact zrf hp hc
 ·have:=zHn (z:=z) hp;rw[e]at this;exact yq this h.len
def Rd.count(h:Rd s)(hz:1<=z.length):(yx s z).length<=100001:=by
 have:=z8f hz (yx s z);rw[Yu]at this;have:=h.len;omega
def z2g:yx s z≠[]:=by
 unfold yx
 split
 ·simp
 ·split
  ·simp
  ·rw[StrLaws.partsBetween_eq];cases Yr s z 0 s.length (s.length+1)<;>simp[YY]
def zXo{a b:Nat}(ha:a<10^60)(hb:b<10^60)(e:num a=num b):a=b:=by
 have h1:=zeh ha;rw[e,zeh hb]at h1;have:=yU h1;omega
def Nums(s:yg)(ns:List Nat):Prop:=s=zg ns/\∀n∈ns,n<10^60
section
variable {s:yg}{O:Mem}{Q:D->Mem->Prop}{ex:yg->List (yg×D)->Mem->Prop}
def zgi(h:Rd s)(q:∀ns O',ns≠[]->Nums s ns->tq O O'->Q (tn ns) O')(qx:∀O',(¬∃ns,ns≠[]/\Nums s ns)->tq O O'->ex "NoText" [] O'):WXr z5 [.str s] O Q ex:=by
 have hlen:=h.len;have hcnt:=h.count (z:=",") (zme comma)
 classical
 let v:yg->Nat:=λp=>if hp:zIl p then Classical.choose hp else 0
 have hv:∀p,zIl p->p=num (v p)/\v p<10^60:=λp hp=>by
  show p=num (if hp:zIl p then _ else 0)/\(if hp:zIl p then _ else 0)<10^60;rw[dif_pos hp];exact Classical.choose_spec hp
 refine z2i rfl ?_;show WXs z6c [some (.str s)] O _ _ _;unfold z6c;refine zCq (z3l (zZt (zdh (zSb (zf rfl ⟨_,rfl,zb (w_c (zl (zFg rfl (by omega) (zme comma) (.inr (.inr ⟨_,_,rfl,tm,zgd (by rw[length_map];omega),?_⟩)))))⟩)))));refine zNp D.str (λp=>D.int (v p:Nat)) zIl (O0:=O++[tI.lst ((yx s ",").map D.str)]) (λO' k=>z7j tm k) (yx s ",") [] _ (λp hp O' k=>?_) .refl (λO' k hg=>?_) (λO' k ⟨p,hp,hn⟩=>qx O' ?_ (tq.app.trans k))
 ·refine zOi ?_;unfold zlf;have hr:=h.part hp;refine zDm (zb (zf rfl (zl (zNm hr.len hr.low (λn O2 hn e k2=>⟨⟨n,e,hn⟩,?_,k.trans k2⟩) (λO2 hn k2=>⟨hn,rfl,rfl,k.trans k2⟩)))));obtain⟨h1,h2⟩:=hv p ⟨n,e,hn⟩;rw[zXo hn h2 (e.symm.trans h1)]
 ·rw[nil_append];refine z8e (zF tm) ?_;have e1:((yx s ",").map λp=>D.int (v p:Nat))=nat ((yx s ",").map v):=(zyl v _).symm;rw[e1];refine q _ _ (λz=>z2g (List.map_eq_nil_iff.mp z)) ⟨?_,λn hn=>?_⟩ (tq.app.trans k.to)
  ·have e2:((yx s ",").map v).map num=yx s ",":=by
    rw[map_map]
    conv=>rhs;rw[<-List.map_id (yx s ",")]
    exact map_congr_left λp hp=>((hv p (hg p hp)).1).symm
   rw[zg,e2,zQ];exact(Yu s ",").symm
  ·obtain⟨p,hp,rfl⟩:=List.mem_map.mp hn;exact(hv p (hg p hp)).2
 ·rintro⟨ns,h0,e,hb⟩;refine hn ?_;rw[e,zg,zJ comma (by decide +kernel) (λz=>h0 (List.map_eq_nil_iff.mp z)) (zpi (by omega))]at hp;obtain⟨n,hm,rfl⟩:=List.mem_map.mp hp;exact⟨n,rfl,hb n hm⟩
def zii(p:yg):Prop:=∃h,h<26/\p=lt h
def zIq:("abcdefghijklmnopqrstuvwxyz":yg).cps.toList=(Yp 26).map (97 + ·):=by decide +kernel
def zxl(h:Rd p)(q:∀k:Nat,k<26->p=lt k->Q (.int (k:Nat)) O)(qx:¬zii p->ex "NoText" [] O):WXr zff [.str p] O Q ex:=by
 have hlen:=h.len;refine z2i rfl ?_;show WXs zef [some (.str p)] O _ _ _;unfold zef;have no:(¬zii p)->∀{z:yg} {nx:M.Loc->Mem->Prop} {rt:D->Mem->Prop},WXs (zNf "NoText" (zd (fC (.str z)) zx)) [some (.str p)] O nx rt ex:=λh=>zKg (zb (w_c (zl (qx h))));refine zze (zDr (zTp (zOb (zz (zm (zb (zf rfl (zl (zXk (by omega) (w_c (z4s ⟨_,rfl,λh1=>?_,λhb=>⟨λ_=>no ?_,λh=>(by cases h)⟩⟩)))))))))))
 rotate_left
 ·rintro⟨k,hk,rfl⟩;have:(lt k).length=1:=rfl;rw[this]at hb;cases hb
 have h1:p.length=1:=by
  have:=eq_of_beq (show(((p.length:Nat):Int)==1)=true by simpa using h1);omega
 obtain⟨c,hc⟩:∃c,p=⟨#[c]⟩:=by
  obtain⟨⟨L⟩⟩:=p
  match L,h1 with
  |[c],_=>exact⟨c,rfl⟩
 subst hc
 have hf:(Yr "abcdefghijklmnopqrstuvwxyz" ⟨#[c]⟩ 0 ("abcdefghijklmnopqrstuvwxyz":yg).length 1).isEmpty = !decide (97<=c/\c<123):=by
  have e:=StrLaws.found_one ("abcdefghijklmnopqrstuvwxyz":yg) c;rw[zIq]at e
  have e2:decide (c∈(Yp 26).map (97 + ·))=decide (97<=c/\c<123):=decide_eq_decide.mpr ⟨λh=>by
   obtain⟨i,hi,rfl⟩:=List.mem_map.mp h;have:=List.mem_range.mp hi;omega,λh=>List.mem_map.mpr ⟨c-97,List.mem_range.mpr (by omega),by omega⟩⟩
  rw[e2]at e;simpa using e
 refine zOb (zz (zf rfl (w_c (zgm ?_))));rw[hf];refine⟨_,rfl,λhb=>no ?_,λhb=>z2h ?_⟩
 ·rintro⟨k,hk,e⟩;have:=congrArg (λs:yg=>s.cps.toList) e;have:c=97+k:=by simpa using this
  simp at hb;omega
 ·have hb:97<=c/\c<123:=by simpa using hb
  obtain⟨k,rfl⟩:∃k,c=97+k:=⟨c-97,by omega⟩
  have hk:k<26:=by omega
  refine zOr (zUb (zSb (w_c ⟨_,rfl,zb (zf rfl (zl (zDs ?_)))⟩)))
  have e:Txt.find "abcdefghijklmnopqrstuvwxyz" (lt k)=(k:Int):=by
   have:∀k:Nat,k<26->Txt.find "abcdefghijklmnopqrstuvwxyz" (lt k)=(k:Int):=by
    unfold Txt.find;simp only[StrLaws.occ_eq];decide +kernel
   exact this k hk
  rw[e];exact q k hk rfl
def sx(s:yg)(k:List Nat):Prop:=s=zE k/\∀h∈k,h<26
def zam{a b:Nat}(e:lt a=lt b):a=b:=by
 have:=congrArg (λs:yg=>s.cps.toList) e;have:97+a=97+b:=by simpa using this
 omega
def zuk(h:Rd s)(q:∀k O',k≠[]->sx s k->tq O O'->Q (tn k) O')(qx:∀O',(¬∃k,k≠[]/\sx s k)->tq O O'->ex "NoText" [] O'):WXr zid [.str s] O Q ex:=by
 have hlen:=h.len;have hcnt:=h.count (z:=" ") (zme blank)
 classical
 let v:yg->Nat:=λp=>if hp:zii p then Classical.choose hp else 0
 have hv:∀p,zii p->v p<26/\p=lt (v p):=λp hp=>by
  show(if hp:zii p then _ else 0)<26/\p=lt (if hp:zii p then _ else 0);rw[dif_pos hp];exact Classical.choose_spec hp
 refine z2i rfl ?_;show WXs zge [some (.str s)] O _ _ _;unfold zge;refine zCq (z3l (zZt (zdh (zSb (zf rfl ⟨_,rfl,zb (w_c (zl (zFg rfl (by omega) (zme blank) (.inr (.inr ⟨_,_,rfl,tm,zgd (by rw[length_map];omega),?_⟩)))))⟩)))));refine zNp D.str (λp=>D.int (v p:Nat)) zii (O0:=O++[tI.lst ((yx s " ").map D.str)]) (λO' k=>z7j tm k) (yx s " ") [] _ (λp hp O' k=>?_) .refl (λO' k hg=>?_) (λO' k ⟨p,hp,hn⟩=>qx O' ?_ (tq.app.trans k))
 ·refine zOi ?_;unfold zmg;refine zDm (zb (zf rfl (zl (zxl (h.part hp) (λn hn e=>⟨⟨n,hn,e⟩,?_,k⟩) (λhn=>⟨hn,rfl,rfl,k⟩)))));obtain⟨h1,h2⟩:=hv p ⟨n,hn,e⟩;rw[zam (e.symm.trans h2)]
 ·rw[nil_append];refine z8e (zF tm) ?_;have e1:((yx s " ").map λp=>D.int (v p:Nat))=nat ((yx s " ").map v):=(zyl v _).symm;rw[e1];refine q _ _ (λz=>z2g (List.map_eq_nil_iff.mp z)) ⟨?_,λn hn=>?_⟩ (tq.app.trans k.to)
  ·have e2:((yx s " ").map v).map lt=yx s " ":=by
    rw[map_map]
    conv=>rhs;rw[<-List.map_id (yx s " ")]
    exact map_congr_left λp hp=>((hv p (hg p hp)).2).symm
   rw[zE,e2,zQ];exact(Yu s " ").symm
  ·obtain⟨p,hp,rfl⟩:=List.mem_map.mp hn;exact(hv p (hg p hp)).1
 ·rintro⟨ns,h0,e,hb⟩;refine hn ?_;rw[e,zE,zJ blank (by decide +kernel) (λz=>h0 (List.map_eq_nil_iff.mp z)) zTh]at hp;obtain⟨n,hm,rfl⟩:=List.mem_map.mp hp;exact⟨n,hb n hm,rfl⟩
end
def zCe(a b m:Int)(ns:List Nat):Bool:=decide (a<=ns.length/\(ns.length:Int)<=b)&&ns.all λn=>decide ((n:Int)<=m)
section
variable {O:Mem}{Q:D->Mem->Prop}
def zMj{a b:Int}(q:Q (.bl (decide (a<=ds.length/\(ds.length:Int)<=b))) O):WF zbb [.tup ds,.int a,.int b] O Q:=by
 refine zNc rfl ?_;show WS zJe [some (.tup ds),some (.int a),some (.int b)] O _ _ _ _;unfold zJe;refine zUb (z0d (zm (zb (zf rfl (zb (w_c (zl (zus ⟨_,rfl,λ_=>?_,λh=>(by cases h)⟩))))))));refine zTn (zf rfl (zm (zb (zf rfl (zl (zVm rfl (zCl ⟨_,rfl,λhb=>zf rfl (zCl ?_),λhb=>?_⟩)))))))
 ·have hb:=of_decide_eq_true hb;have e:decide ((ds.length:Int)<=b)=decide (a<=ds.length/\(ds.length:Int)<=b):=decide_eq_decide.mpr ⟨λh=>⟨hb,h⟩,λh=>h.2⟩;rw[e];exact q
 ·have hb:=of_decide_eq_false hb;rw[decide_eq_false λh=>hb h.1]at q;exact q
def zcp(q:Q (.bl (decide ((n:Int)<=m))) O):WF z2c [.int n,.int m] O Q:=by
 refine zNc rfl ?_;show WS zWd [some (.int n),some (.int m)] O _ _ _ _;unfold zWd;refine zUb (z0d (zm (zb (zf rfl (zb (w_c (zl (zRs ⟨_,rfl,λ_=>?_,λh=>(by cases h)⟩))))))));refine z0d (w_not (zm (zb (zf rfl (zb (w_c (zl (zcr ⟨_,rfl,⟨_,rfl,λ_=>?_,λh=>(by cases h)⟩⟩))))))));refine zTn (w_c (zf rfl (zCl ⟨_,rfl,λhb=>zf rfl (zCl q),λhb=>?_⟩)));have hb:=of_decide_eq_false hb;omega
def zGg{a b:Int}(hl:ns.length<=1000000)(q:∀O',tq O O'->Q (.bl (zCe a b m ns)) O'):WF zL [tn ns,.int a,.int b,.int m] O Q:=by
 refine zNc rfl ?_;show WS zjb [some (tn ns),some (.int a),some (.int b),some (.int m)] O _ _ _ _;unfold zjb;refine zUb (z0d (zm (zb (zf rfl (zb (zf rfl (zb (zf rfl (zl (zMj ⟨_,rfl,λhb=>?_,λhb=>?_⟩))))))))))
 ·rw[length_map]at hb;refine zm (zb (zmm (zdh (zf rfl (.inl ⟨_,rfl,zgd (by rw[length_map];omega),?_⟩)))));refine zMf (λ(h:Nat)=>D.int h) ns (λn =>.bl (decide ((n:Int)<=m))) (λ_ _=>rfl) (λn hn' O' kp=>?_) (λO' kp=>?_)
  ·refine zOi ?_;unfold zmc;exact zm (zb (zf rfl (zb (zf rfl (zl (zcp ⟨rfl,kp,kp⟩))))))
  ·refine zl (znn (bs:=ns.map λ(n:Nat)=>decide ((n:Int)<=m)) (by rw[tm,map_map];rfl) ?_);have:=q _ (kp.to (g:=[tI.lst (ns.map λ(n:Nat)=>D.bl (decide ((n:Int)<=m)))]));unfold zCe at this;rw[hb,Bool.true_and]at this;rw[all_map];exact this
 ·rw[length_map]at hb;have:=q _ (.refl:tq O O);unfold zCe at this;rw[hb,xr]at this;exact this
def z5h(hl:ns.length<=1000000)(q:∀O',tq O O'->Q (.bl (zCe 1 10 9 ns)) O'):WF zic [tn ns] O Q:=by
 refine zNc rfl ?_;show WS zWc [some (tn ns)] O _ _ _ _;unfold zWc;exact zUb (zm (zb (zf rfl (zb (w_c (zb (w_c (zb (w_c (zl (zGg hl q))))))))))) 
def zTl(W:List (List Nat)):Bool:=decide ((2:Int)<=W.length/\(W.length:Int)<=3)&&W.all (zCe 2 2 10006)
def zYl(n:Nat)(W:List (List Nat)):Bool:=decide ((0:Int)<=W.length/\(W.length:Int)<=30)&&W.all (zCe 2 3 ((n:Int)-1))
def zUm{W:List (List Nat)}(hl:W.length<=1000000)(hk:∀k∈W,k.length<=1000000)(q:∀O',tq O O'->Q (.bl (zTl W)) O'):WF zwe [.tup (W.map tn)] O Q:=by
 refine zNc rfl ?_;show WS zHd [some (.tup (W.map tn))] O _ _ _ _;unfold zHd;refine zUb (z0d (zm (zb (zf rfl (zb (w_c (zb (w_c (zl (zMj ⟨_,rfl,λhb=>?_,λhb=>?_⟩))))))))))
 ·rw[length_map]at hb;refine zm (zb (zmm (zdh (zf rfl (.inl ⟨_,rfl,zgd (by rw[length_map];omega),?_⟩)))));refine zMf tn W (λk =>.bl (zCe 2 2 10006 k)) (λ_ _=>rfl) (λk hk' O' kp=>?_) (λO' kp=>?_)
  ·refine zOi ?_;unfold zHf;exact zm (zb (zf rfl (zb (w_c (zb (w_c (zb (zz (w_c (w_c (zZn (zl (zGg (hk k hk') λO2 k2=>⟨rfl,kp.trans k2,kp⟩)))))))))))))
  ·refine zl (znn (bs:=W.map (zCe 2 2 10006)) (by rw[tm,map_map];rfl) ?_);have:=q _ (kp.to (g:=[tI.lst (W.map λk=>D.bl (zCe 2 2 10006 k))]));unfold zTl at this;rw[hb,Bool.true_and]at this;rw[all_map];exact this
 ·rw[length_map]at hb;have:=q _ (.refl:tq O O);unfold zTl at this;rw[hb,xr]at this;exact this
def z9m{W:List (List Nat)}(hl:W.length<=1000000)(hk:∀k∈W,k.length<=1000000)(q:∀O',tq O O'->Q (.bl (zYl n W)) O'):WF zAe [.tup (W.map tn),.int (n:Nat)] O Q:=by
 refine zNc rfl ?_;show WS zFd [some (.tup (W.map tn)),some (.int (n:Nat))] O _ _ _ _;unfold zFd;refine zUb (z0d (zm (zb (zf rfl (zb (w_c (zb (w_c (zl (zMj ⟨_,rfl,λhb=>?_,λhb=>?_⟩))))))))))
 ·rw[length_map]at hb;refine zm (zb (zmm (zdh (zf rfl (.inl ⟨_,rfl,zgd (by rw[length_map];omega),?_⟩)))));refine zMf tn W (λk =>.bl (zCe 2 3 ((n:Int)-1) k)) (λ_ _=>rfl) (λk hk' O' kp=>?_) (λO' kp=>?_)
  ·refine zOi ?_;unfold zGf;exact zm (zb (zf rfl (zb (w_c (zb (w_c (zb (zz (zf rfl (w_c (zZn (zl (zGg (hk k hk') λO2 k2=>⟨rfl,kp.trans k2,kp⟩)))))))))))))
  ·refine zl (znn (bs:=W.map (zCe 2 3 ((n:Int)-1))) (by rw[tm,map_map];rfl) ?_);have:=q _ (kp.to (g:=[tI.lst (W.map λk=>D.bl (zCe 2 3 ((n:Int)-1) k))]));unfold zYl at this;rw[hb,Bool.true_and]at this;rw[all_map];exact this
 ·rw[length_map]at hb;have:=q _ (.refl:tq O O);unfold zYl at this;rw[hb,xr]at this;exact this
def z2n{W:List (List Nat)}(hr:R.length<=1000000)(hl:W.length<=1000000)(hk:∀k∈W,k.length<=1000000)(q:∀O',tq O O'->Q (.bl (zCe 1 10 9 R&&zTl W)) O'):WF zZd [wn R W] O Q:=by
 refine zNc rfl ?_;show WS zEe [some (wn R W)] O _ _ _ _;unfold zEe;refine zUb (z0d (zm (zb (zf rfl (zb (w_c (zb (w_c (zl (zQe (by simp) (by simp) ⟨_,rfl,λ_=>?_,λh=>(by cases h)⟩))))))))));refine z0d (zm (zb (zz (zf rfl (w_c (zxf (zl (z5h hr λO1 k1=>⟨_,rfl,λhb=>?_,λhb=>?_⟩))))))))
 ·refine zm (zb (zz (zf rfl (w_c (zlj (zl (zUm hl hk λO2 k2=>?_)))))));have:=q _ (k1.trans k2)
  rwa [hb,Bool.true_and]at this
 ·have:=q _ k1
  rwa [hb,xr]at this
def z5p{W:List (List Nat)}(hr:R.length<=1000000)(hl:W.length<=1000000)(hk:∀k∈W,k.length<=1000000)(q:∀O',tq O O'->Q (.bl (zCe 1 10 9 R&&zYl R.length W)) O'):WF zVe [wn R W] O Q:=by
 refine zNc rfl ?_;show WS zZf [some (wn R W)] O _ _ _ _;unfold zZf;refine zUb (z0d (zm (zb (zf rfl (zb (w_c (zb (w_c (zl (zQe (by simp) (by simp) ⟨_,rfl,λ_=>?_,λh=>(by cases h)⟩))))))))));refine z0d (zm (zb (zz (zf rfl (w_c (zxf (zl (z5h hr λO1 k1=>⟨_,rfl,λhb=>?_,λhb=>?_⟩))))))))
 ·refine zm (zb (zz (zf rfl (w_c (zlj (zb (zm (zb (zz (zf rfl (w_c (zxf (zl (zVm rfl (zl ?_)))))))))))))));rw[length_map];refine z9m hl hk λO2 k2=>?_;have:=q _ (k1.trans k2)
  rwa [hb,Bool.true_and]at this
 ·have:=q _ k1
  rwa [hb,xr]at this
end
def Tb{a b:Int}:zCe a b m ns=true↔(a<=ns.length/\(ns.length:Int)<=b)/\∀n∈ns,(n:Int)<=m:=by
 unfold zCe;rw[yN,decide_eq_true_iff,all_eq_true];exact and_congr_right λ_=>forall_congr' λn=>forall_congr' λ_=>decide_eq_true_iff
def sy{W:List (List Nat)}:(zCe 1 10 9 R&&zTl W)=true↔Rl R W:=by
 unfold zTl;rw[yN,yN,Tb,decide_eq_true_iff,all_eq_true];constructor
 ·rintro⟨⟨h1,h2⟩,h3,h4⟩;refine⟨by omega,λr hr=>by have:=h2 r hr;omega,by omega,λk hk=>?_⟩;obtain⟨h5,h6⟩:=Tb.mp (h4 k hk);exact⟨by omega,λn hn=>by have:=h6 n hn;omega⟩
 ·intro w;have h1:=w.rl;have h2:=w.wl;refine⟨⟨by omega,λn hn=>by have:=w.rn n hn;omega⟩,by omega,λk hk=>Tb.mpr ?_⟩;obtain⟨h3,h4⟩:=w.wn k hk;exact⟨by omega,λn hn=>by have:=h4 n hn;omega⟩
def sK:(zCe 1 10 9 R&&zYl R.length K)=true↔Wr R K:=by
 unfold zYl;rw[yN,yN,Tb,decide_eq_true_iff,all_eq_true];constructor
 ·rintro⟨⟨h1,h2⟩,h3,h4⟩;refine⟨by omega,λr hr=>by have:=h2 r hr;omega,by omega,λk hk=>?_⟩;obtain⟨h5,h6⟩:=Tb.mp (h4 k hk);exact⟨by omega,λn hn=>by have:=h6 n hn;omega⟩
 ·intro w;have h1:=w.rl;have h2:=w.kl;refine⟨⟨by omega,λn hn=>by have:=w.rn n hn;omega⟩,by omega,λk hk=>Tb.mpr ?_⟩;obtain⟨h3,h4⟩:=w.kn k hk;exact⟨by omega,λn hn=>by have:=h4 n hn;omega⟩
def z2b{a b:List Nat}(ha:a≠[])(hb:b≠[])(h1:∀n∈a,n<10^60)(h2:∀n∈b,n<10^60)(e:zg a=zg b):a=b:=by
 have e1:yx (zg a) ","=a.map num:=zJ comma (by decide +kernel) (λz=>ha (List.map_eq_nil_iff.mp z)) (zpi (by omega));have e2:yx (zg b) ","=b.map num:=zJ comma (by decide +kernel) (λz=>hb (List.map_eq_nil_iff.mp z)) (zpi (by omega));rw[e,e2]at e1;clear e2 e ha hb
 induction a generalizing b with
 |nil=>cases b with
  |nil=>rfl
  |cons y b=>cases e1
 |cons x a ih=>cases b with
  |nil=>cases e1
  |cons y b=>
   rw[map_cons,map_cons,yV]at e1;rw[zXo (h1 x (by simp)) (h2 y (by simp)) e1.1.symm,ih (λn hn=>h1 n (mem_cons_of_mem _ hn)) (λn hn=>h2 n (mem_cons_of_mem _ hn)) e1.2]
def zih{a b:List Nat}(ha:a≠[])(hb:b≠[])(e:zE a=zE b):a=b:=by
 have e1:yx (zE a) " "=a.map lt:=zJ blank (by decide +kernel) (λz=>ha (List.map_eq_nil_iff.mp z)) zTh;have e2:yx (zE b) " "=b.map lt:=zJ blank (by decide +kernel) (λz=>hb (List.map_eq_nil_iff.mp z)) zTh;rw[e,e2]at e1;clear e2 e ha hb
 induction a generalizing b with
 |nil=>cases b with
  |nil=>rfl
  |cons y b=>cases e1
 |cons x a ih=>cases b with
  |nil=>cases e1
  |cons y b=>
   rw[map_cons,map_cons,yV]at e1;rw[zam e1.1.symm,ih e1.2]
def Ts(h:n<=10006):n<10^60:=YC h (by decide)
def Nums.len(h:Nums s ns)(hs:s.length<=100000):ns.length<=1000000:=by
 have:=z8f (z:=",") (zme comma) (ns.map num);rw[<-zQ,<-show s=yv "," (ns.map num) from h.1,length_map]at this;omega
def sx.len(h:sx s ns)(hs:s.length<=100000):ns.length<=1000000:=by
 have:=z8f (z:=" ") (zme blank) (ns.map lt);rw[<-zQ,<-show s=yv " " (ns.map lt) from h.1,length_map]at this;omega
section
variable {s:yg}{O:Mem}{Q:D->Mem->Prop}{ex:yg->List (yg×D)->Mem->Prop}
def zwh(q:Q .non O):WXr z0b [.str s] O Q ex:=by
 refine z2i rfl ?_;show WXs zvc [some (.str s)] O _ _ _;unfold zvc;exact zDr (zxj (zOb (zm (zb (zf rfl (zb (w_c (zl (zqt ⟨_,rfl,λh=>(by cases h),λ_=>z2h q⟩)))))))))
def zik{G:FA}(h:WA G J O λds O1=>WXr F ds O1 (λ_ O'=>nx J O') ex):WXs (z6l F G) J O nx rt ex:=by
 obtain⟨ds,O1,e1,⟨d,O',e2,k⟩|⟨c,fs,O',e2,k⟩⟩:=h
 ·exact⟨.next J O',by simp[e1,e2],k⟩
 ·exact⟨.exc c fs O',by simp[e1,e2],k⟩
def zAm{W1:yg->List Nat->Prop}{e0:FR}{wl:Nat}{ws:List yg}{w0:yg}(F:FX)(he:e0=fXC F (zd (zk 0) zx))(hδ:J[1]?=some (some (.loc wl)))(hw:O[wl]?=some (.lst ((w0::ws).map D.str)))(h0:Rd w0)(hws:∀p∈ws,Rd p)(hc:ws.length<=100001)
 (hF:∀p∈ws,∀(O:Mem)(Q:D->Mem->Prop)(ex:yg->List (yg×D)->Mem->Prop),(∀k O',k≠[]->W1 p k->tq O O'->Q (tn k) O')->(∀O',(¬∃k,k≠[]/\W1 p k)->tq O O'->ex "NoText" [] O')->WXr F [.str p] O Q ex)
 (hone:∀p a b,a≠[]->b≠[]->W1 p a->W1 p b->a=b)
 (q:∀(R:List Nat)(K:List (List Nat)) O',R≠[]->Nums w0 R->K.length=ws.length->(∀(i:Nat) p k,ws[i]?=some p->K[i]?=some k->k≠[]/\W1 p k)->tq O O'->Q (wn R K) O')
 (qx:∀O',(¬∃R,R≠[]/\Nums w0 R)\/(∃p∈ws,¬∃k,k≠[]/\W1 p k)->tq O O'->ex "NoText" [] O') :
 WR (zbl (fXC z5 (zd (zw gIx (zk 1) (fC (.int 0))) zx)) (zUg zod (fLX 1 [] (zek (fSl (zk 1) (znm (fC (.int 1))) pNo)) (gN 0) e0))) J O Q ex:=by
 subst he
 classical
 let v:yg->List Nat:=λp=>if hp:∃k,k≠[]/\W1 p k then Classical.choose hp else[]
 have hv:∀p,(∃k,k≠[]/\W1 p k)->v p≠[]/\W1 p (v p):=λp hp=>by
  show(if hp:∃k,k≠[]/\W1 p k then _ else[])≠[]/\W1 p (if hp:∃k,k≠[]/\W1 p k then _ else[]);rw[dif_pos hp];exact Classical.choose_spec hp
 refine zdu (zDm (zb (zz (zf hδ (w_c (ztk (zF hw) (show atI _ ((0:Nat):Int)=_ from z9g rfl) (zl ?_)))))));refine zgi h0 (λR O1 hR hN k1=>?_) (λO1 hn k1=>qx O1 (.inl hn) k1);refine z3l (zZt (zdh (z5q (zf hδ (zsf (w_c ⟨_,rfl,zxi ⟨_,_,rfl,k1 _ _ hw,.inr (.inr ⟨_,_,rfl,tm,?_⟩)⟩⟩))))));have ec:M.cutD ((w0::ws).map D.str) (some 1) none=ws.map D.str:=zMp (i:=1);rw[ec];refine⟨zgd (by rw[length_map];omega),?_⟩;refine zNp D.str (λp=>tn (v p)) (λp=>∃k,k≠[]/\W1 p k) (O0:=O1++[tI.lst (ws.map D.str)]) (λO' k=>z7j tm k) ws [] _ (λp hp O' k=>?_) .refl (λO' k hg=>?_) (λO' k ⟨p,hp,hn⟩=>qx O' (.inr ⟨p,hp,hn⟩) (k1.trans (tq.app.trans k)))
 ·refine zOi (zDm (zb (zf rfl (zl (hF p hp _ _ _ (λa O2 ha hw2 k2=>⟨⟨a,ha,hw2⟩,?_,k.trans k2⟩) (λO2 hn k2=>⟨hn,rfl,rfl,k.trans k2⟩))))));obtain⟨h1,h2⟩:=hv p ⟨a,ha,hw2⟩;rw[hone p a (v p) ha h1 hw2 h2]
 ·rw[nil_append];refine z8e (zF tm) ?_;have e1:(ws.map λp=>tn (v p))=(ws.map v).map tn:=by rw[map_map];rfl
  rw[e1];refine q R (ws.map v) _ hR hN (by rw[length_map]) (λi p a ep ea=>?_) (k1.trans (tq.app.trans k.to));rw[yO,ep]at ea;cases ea;exact hv p (hg p (mem_of_getElem? ep))
end
def zhq{ws:List yg}{f:List Nat->yg}(hl:K.length=ws.length)(h:∀(i:Nat) p k,ws[i]?=some p->K[i]?=some k->p=f k):ws=K.map f:=by
 refine List.ext_getElem? λi=>?_
 by_cases hi:i<ws.length
 ·have e1:ws[i]?=some ws[i]:=yG hi;have e2:K[i]?=some K[i]:=yG (by omega);rw[yO,e1,e2];exact congrArg some (h i _ _ e1 e2)
 ·rw[List.getElem?_eq_none (by omega),List.getElem?_eq_none (by rw[length_map];omega)]
def zgk{K K':List (List Nat)}{f:List Nat->yg}{ws:List yg}(hl:K.length=ws.length)(e:ws=K'.map f)(h:∀(i:Nat) p k,ws[i]?=some p->K[i]?=some k->∀k'∈K',p=f k'->k=k'):K=K':=by
 subst e;rw[length_map]at hl;refine List.ext_getElem hl λi h1 h2=>?_;exact h i (f K'[i]) K[i] (by rw[yO,yG h2];rfl) (yG h1) K'[i] (getElem_mem h2) rfl
section
variable {s:yg}{O:Mem}{Q:D->Mem->Prop}{ex:yg->List (yg×D)->Mem->Prop}
def zoi(h:Rd s)(q:∀R W O',Rl R W->s=zY R W->tq O O'->Q (wn R W) O')(qx:∀O',(¬∃R W,Rl R W/\s=zY R W)->tq O O'->ex "NoText" [] O'):WXr zpb [.str s] O Q ex:=by
 have hlen:=h.len;have hcnt:=h.count (z:=" ") (zme blank)
 obtain⟨w0,ws,ew⟩:∃w0 ws,yx s " "=w0::ws:=by
  cases e:yx s " " with
  |nil=>exact absurd e z2g
  |cons a b=>exact⟨a,b,rfl⟩
 have ej:=Yu s " ";rw[ew]at ej hcnt;have hp:∀p∈w0::ws,Rd p:=λp hp=>h.part (z:=" ") (by rw[ew];exact hp)
 have back:∀R W,Rl R W->s=zY R W->w0=zg R/\ws=W.map zg:=λR W w e=>by
  have:yx s " "=zg R::W.map zg:=by
   rw[e];exact zJ blank (by decide +kernel) (by simp) zzc
  rw[ew,yV]at this;exact this
 have rne:∀{R W},Rl R W->R≠[]/\∀n∈R,n<10^60:=λw=>⟨λe=>by have:=w.rl;rw[e]at this;simp at this,λn hn=>Ts (by have:=w.rn n hn;omega)⟩
 have wne:∀{R W},Rl R W->∀k∈W,k≠[]/\∀n∈k,n<10^60:=λw k hk=>⟨λe=>by have:=(w.wn k hk).1;rw[e]at this;simp at this,λn hn=>Ts ((w.wn k hk).2 n hn)⟩
 refine z2i rfl ?_;show WXs zOd [some (.str s),none,none] O _ _ _;unfold zOd;refine zze (zik (zb (zf rfl (zl (zwh ?_)))));refine zze (zOr (zac (zSb (zf rfl ⟨_,rfl,zb (w_c (zl (zFg (by rw[ew]) (by omega) (zme blank) ?_)))⟩))));have k0:tq O (O++[tI.lst ((w0::ws).map D.str)]) :=.app;have g0:(O++[tI.lst ((w0::ws).map D.str)])[O.length]?=some (.lst ((w0::ws).map D.str)):=tm;generalize O++[tI.lst ((w0::ws).map D.str)]=O0 at k0 g0;generalize O.length=wl at g0;refine zze (z7p (zAm (W1:=Nums) z5 rfl rfl g0 (hp w0 (by simp)) (λp hp'=>hp p (mem_cons_of_mem _ hp')) (by simp at hcnt;omega) (λp hp' O Q ex q qx=>zgi (hp p (mem_cons_of_mem _ hp')) q qx) (λp a b ha hb h1 h2=>z2b ha hb h1.2 h2.2 (h1.1.symm.trans h2.1)) (λR K O1 hR hN hl hK k1=>?_) (λO1 hn k1=>qx O1 ?_ (k0.trans k1))))
 ·have hw0:=(hp w0 (by simp)).len
  have hKl:∀k∈K,k.length<=1000000:=λk hk=>by
   obtain⟨i,hi,rfl⟩:=List.mem_iff_getElem.mp hk;have e1:ws[i]?=some ws[i]:=yG (by omega);exact(hK i _ _ e1 (yG hi)).2.len (hp _ (mem_cons_of_mem _ (getElem_mem _))).len
  refine zze (zDr (zxj (zOb (zm (zb (zf rfl (zl (z2n (hN.len hw0) (by simp at hcnt;omega) hKl λO2 k2=>⟨_,rfl,λhb=>?_,λhb=>z2h ?_⟩))))))))
  ·refine zKg (zb (w_c (zl (qx O2 ?_ (k0.trans (k1.trans k2))))));rintro⟨R',W',w,e⟩;obtain⟨e1,e2⟩:=back R' W' w e;have hR':R=R':=z2b hR (rne w).1 hN.2 (rne w).2 (hN.1.symm.trans e1)
   have hW':K=W':=zgk hl e2 λi p k ep ek k' hk' e=>by
    obtain⟨h1,h2⟩:=hK i p k ep ek;exact z2b h1 (wne w k' hk').1 h2.2 (wne w k' hk').2 (h2.1.symm.trans e)
   subst hR' hW';rw[sy.mpr w]at hb;cases hb
  ·have w:Rl R K:=sy.mp (by
    cases z:zCe 1 10 9 R&&zTl K with
    |true=>rfl
    |false=>rw[z]at hb;cases hb)
   have ew2:ws=K.map zg:=zhq hl λi p k ep ek=>(hK i p k ep ek).2.1;refine zOr (zUb (zf rfl (q R K O2 w ?_ (k0.trans (k1.trans k2)))));rw[zY,zQ,<-ew2,<-hN.1];exact ej.symm
 ·rintro⟨R',W',w,e⟩;obtain⟨e1,e2⟩:=back R' W' w e;rcases hn with hn|⟨p,hp',hn⟩
  ·exact hn ⟨R',(rne w).1,e1,(rne w).2⟩
  ·rw[e2]at hp';obtain⟨k,hk,rfl⟩:=List.mem_map.mp hp';exact hn ⟨k,(wne w k hk).1,rfl,(wne w k hk).2⟩
def zgj(h:Rd s)(q:∀R K O',Wr R K->s=zBb R K->tq O O'->Q (wn R K) O')(qx:∀O',(¬∃R K,Wr R K/\s=zBb R K)->tq O O'->ex "NoText" [] O'):WXr ztb [.str s] O Q ex:=by
 have hlen:=h.len;have hcnt:=h.count (z:="; ") (zme semi)
 obtain⟨w0,ws,ew⟩:∃w0 ws,yx s "; "=w0::ws:=by
  cases e:yx s "; " with
  |nil=>exact absurd e z2g
  |cons a b=>exact⟨a,b,rfl⟩
 have ej:=Yu s "; ";rw[ew]at ej hcnt;have hp:∀p∈w0::ws,Rd p:=λp hp=>h.part (z:="; ") (by rw[ew];exact hp)
 have back:∀R W,Wr R W->s=zBb R W->w0=zg R/\ws=W.map zE:=λR W w e=>by
  have:yx s "; "=zg R::W.map zE:=by
   rw[e];exact zJ semi (by decide +kernel) (by simp) zIb
  rw[ew,yV]at this;exact this
 have rne:∀{R W},Wr R W->R≠[]/\∀n∈R,n<10^60:=λw=>⟨λe=>by have:=w.rl;rw[e]at this;simp at this,λn hn=>Ts (by have:=w.rn n hn;omega)⟩
 have wne:∀{R W},Wr R W->∀k∈W,k≠[]/\∀n∈k,n<26:=λw k hk=>⟨λe=>by have:=(w.kn k hk).1;rw[e]at this;simp at this,λn hn=>by have:=(w.kn k hk).2 n hn;have:=w.rl;omega⟩
 refine z2i rfl ?_;show WXs zHe [some (.str s),none,none] O _ _ _;unfold zHe;refine zze (zik (zb (zf rfl (zl (zwh ?_)))));refine zze (zOr (zac (zSb (zf rfl ⟨_,rfl,zb (w_c (zl (zFg (by rw[ew]) (by omega) (zme semi) ?_)))⟩))));have k0:tq O (O++[tI.lst ((w0::ws).map D.str)]) :=.app;have g0:(O++[tI.lst ((w0::ws).map D.str)])[O.length]?=some (.lst ((w0::ws).map D.str)):=tm;generalize O++[tI.lst ((w0::ws).map D.str)]=O0 at k0 g0;generalize O.length=wl at g0;refine zze (z7p (zAm (W1:=sx) zid rfl rfl g0 (hp w0 (by simp)) (λp hp'=>hp p (mem_cons_of_mem _ hp')) (by simp at hcnt;omega) (λp hp' O Q ex q qx=>zuk (hp p (mem_cons_of_mem _ hp')) q qx) (λp a b ha hb h1 h2=>zih ha hb (h1.1.symm.trans h2.1)) (λR K O1 hR hN hl hK k1=>?_) (λO1 hn k1=>qx O1 ?_ (k0.trans k1))))
 ·have hw0:=(hp w0 (by simp)).len
  have hKl:∀k∈K,k.length<=1000000:=λk hk=>by
   obtain⟨i,hi,rfl⟩:=List.mem_iff_getElem.mp hk;have e1:ws[i]?=some ws[i]:=yG (by omega);exact(hK i _ _ e1 (yG hi)).2.len (hp _ (mem_cons_of_mem _ (getElem_mem _))).len
  refine zze (zDr (zxj (zOb (zm (zb (zf rfl (zl (z5p (hN.len hw0) (by simp at hcnt;omega) hKl λO2 k2=>⟨_,rfl,λhb=>?_,λhb=>z2h ?_⟩))))))))
  ·refine zKg (zb (w_c (zl (qx O2 ?_ (k0.trans (k1.trans k2))))));rintro⟨R',W',w,e⟩;obtain⟨e1,e2⟩:=back R' W' w e;have hR':R=R':=z2b hR (rne w).1 hN.2 (rne w).2 (hN.1.symm.trans e1)
   have hW':K=W':=zgk hl e2 λi p k ep ek k' hk' e=>by
    obtain⟨h1,h2⟩:=hK i p k ep ek;exact zih h1 (wne w k' hk').1 (h2.1.symm.trans e)
   subst hR' hW';rw[sK.mpr w]at hb;cases hb
  ·have w:Wr R K:=sK.mp (by
    cases z:zCe 1 10 9 R&&zYl R.length K with
    |true=>rfl
    |false=>rw[z]at hb;cases hb)
   have ew2:ws=K.map zE:=zhq hl λi p k ep ek=>(hK i p k ep ek).2.1;refine zOr (zUb (zf rfl (q R K O2 w ?_ (k0.trans (k1.trans k2)))));rw[zBb,zQ,<-ew2,<-hN.1];exact ej.symm
 ·rintro⟨R',W',w,e⟩;obtain⟨e1,e2⟩:=back R' W' w e;rcases hn with hn|⟨p,hp',hn⟩
  ·exact hn ⟨R',(rne w).1,e1,(rne w).2⟩
  ·rw[e2]at hp';obtain⟨k,hk,rfl⟩:=List.mem_map.mp hp';exact hn ⟨k,(wne w k hk).1,rfl,(wne w k hk).2⟩
def z6t(q:Q (.bl true) O):W2 gIs .non .non O Q:=⟨_,_,rfl,q⟩
def zru(q:Q (.bl false) O):W2 gIs (.loc n) .non O Q:=⟨_,_,rfl,q⟩
def zRh{way:Nat}{c:yg}{d:D}(hw:atI [D.own "read_rule",D.own "read_web"] (way:Int)=some (.own c))(hF:[(("read_rule":yg),zpb),("read_web",ztb)].lookup c=some F)
 (h:∀O1,tq O O1->WXr F [d] O1 (λd' O'=>∀O'',tq O' O''->Q d' O'') (λc fs O'=>c="NoText"/\fs=[]/\∀O'',tq O' O''->Q (.bl true) O'')):WF zU [.int (way:Nat),d] O Q:=by
 refine zNc rfl ?_;show WS zbe [some (.int (way:Nat)),some d,none,none,none,none] O _ _ _ _;unfold zbe;refine zB (zac (w_c (zB (zac (w_c ?_)))));refine zB (zWt (z9s (zz (zgg (zb (w_c (zb (w_c (zl (zf rfl (ztk (zF tm) hw ⟨c,F,rfl,hF,zb (zf rfl (zl ?_))⟩)))))))))));obtain⟨⟨d',O',e,q⟩|⟨c2,fs,O',e,rfl,rfl,q⟩⟩:=h (O++[tI.lst [D.own "read_rule",D.own "read_web"]]) .app
 ·refine⟨.inl ⟨d',O',e,?_⟩⟩;refine zB (zym (zOb (zz (zf rfl (w_c (z6t ⟨_,rfl,λ_=>zUb (zf rfl (q _ .refl)),λh=>(by cases h)⟩))))))
 ·refine⟨.inr ⟨_,_,O',e,zhv (by decide +kernel) (zac (zf rfl ?_))⟩⟩;have g:(O'++[tI.exc "NoText" []])[O'.length]?=some (.exc "NoText" []):=tm;refine zB (zym (zOb (zz (zf rfl (w_c (zru ⟨_,rfl,λh=>(by cases h),λ_=>zif ?_⟩))))));have a1:zKi kit (some "NoText") [.own "Full",.own "NoFit",.own "NoKey",.own "NoPairs",.own "NoPush",.own "NoRow",.own "NoRule",.own "Twice"]=some false:=by decide +kernel
  have a2:kit.lookup (some ("NoText":yg),CN.own "NoText")=some true:=by decide +kernel
  have a3:kit.lookup (some ("NoText":yg),CN.ty "ValueError")=some true:=by decide +kernel
  refine zB (zac (zm (zb (zf rfl (zb (zMo (zb (w_c (zb (w_c (zb (w_c (zb (w_c (zb (w_c (zb (w_c (zb (w_c (zb (w_c (zl (zl (zYr (tb:=kit) g a1 ?_)))))))))))))))))))))))));refine zUb (z0d (zm (zb (zf rfl (zb (w_c (zl (z5s (tb:=kit) g a2 ⟨_,rfl,λ_=>?_,λh=>(by cases h)⟩))))))));refine z0d (zm (zb (zf rfl (zb (w_c (zl (z7r (tb:=kit) g a3 ⟨_,rfl,λ_=>?_,λh=>(by cases h)⟩)))))));exact w_not (zf rfl ⟨false,rfl,q _ .app⟩)
def lookW:[(("read_rule":yg),zpb),("read_web",ztb)].lookup ("read_web":yg)=some ztb:=by
 have h1:(("read_web":yg) == "read_rule")=false:=by decide +kernel
 simp only[lookup_cons,h1,beq_self_eq_true]
def zml(h:Rd s)(q1:∀R W O',Rl R W->s=zY R W->tq O O'->Q (wn R W) O')(q2:∀O',(¬∃R W,Rl R W/\s=zY R W)->tq O O'->Q (.bl true) O'):WF zU [.int ((0:Nat):Int),.str s] O Q :=
 zRh (c:="read_rule") (F:=zpb) rfl (by simp only[lookup_cons,beq_self_eq_true]) λO1 k1=>zoi h (λR W O2 w e k2 O3 k3=>q1 R W O3 w e (k1.trans (k2.trans k3))) (λO2 hn k2=>⟨rfl,rfl,λO3 k3=>q2 O3 hn (k1.trans (k2.trans k3))⟩)
def z3k(h:Rd s)(q1:∀R K O',Wr R K->s=zBb R K->tq O O'->Q (wn R K) O')(q2:∀O',(¬∃R K,Wr R K/\s=zBb R K)->tq O O'->Q (.bl true) O'):WF zU [.int ((1:Nat):Int),.str s] O Q :=
 zRh (c:="read_web") (F:=ztb) rfl lookW λO1 k1=>zgj h (λR W O2 w e k2 O3 k3=>q1 R W O3 w e (k1.trans (k2.trans k3))) (λO2 hn k2=>⟨rfl,rfl,λO3 k3=>q2 O3 hn (k1.trans (k2.trans k3))⟩)
end
def zEl{G:FE}{lo hi:FO}(h:WE G J O λx O1=>WO lo J O1 λl O2=>WO hi J O2 λu O3=>∃z,x=.str z/\z.length<=1000000/\Q (.str (Yo z l u)) O3):WE (z2o G lo hi) J O Q:=by
 obtain⟨x,O1,e1,l,O2,e2,u,O3,e3,z,rfl,hz,q⟩:=h;exact⟨_,O3,by simp only[z2o,e1,yi,e2,e3,decide_eq_true hz,cond_true],q⟩
def zCo{l u:Option Int}(h:c∈(Yo z l u).cps.toList):c∈z.cps.toList:=by
 unfold Yo at h
 split at h
 ·exact h
 ·rw[List.toList_toArray,List.mem_filterMap]at h;obtain⟨i,_,hi⟩:=h;exact Array.mem_toList_iff.mpr (Array.mem_of_getElem? hi)
def Rd.app(ha:Low a)(hb:Low b)(hl:a.length+b.length<=100000):Rd (a++b):=by
 refine⟨tE.mpr λc hc=>?_,by rw[YM];exact hl⟩;rw[zR,mem_append]at hc;rcases hc with hc|hc
 ·exact tE.mp ha c hc
 ·exact tE.mp hb c hc
def zZk{l u:Option Int}(h:Low z):Low (Yo z l u):=tE.mpr λc hc=>tE.mp h c (zCo hc)
section
variable {s:yg}{O:Mem}{Q:D->Mem->Prop}
def ztp(h:Rd s)(q:∀O',tq O O'->Q (.bl true) O'):WF zkb [.int ((0:Nat):Int),.str s] O Q:=by
 refine zNc rfl ?_;show WS zlb [some (.int ((0:Nat):Int)),some (.str s),none] O _ _ _ _;unfold zlb;refine zB (zac (zm (zb (zf rfl (zb (zf rfl (zl ?_)))))));refine zml h (λR W O1 w e k1=>?_) (λO1 hn k1=>?_)
 ·refine zB (zym (zOb (zm (zb (zf rfl (zb (w_c (zl (zGj (c:=.bl) (t:=.tup) rfl ⟨_,rfl,λh=>(by cases h),λ_=>zif ?_⟩)))))))));refine zB (zym (zOb (zz (zf rfl (w_c (zin ⟨_,rfl,λ_=>?_,λh=>(by cases h)⟩))))));refine zUb (z0d (zm (zb (zf rfl (zl (zFn w λO2 k2=>⟨_,rfl,λ_=>?_,λh=>(by cases h)⟩))))));refine zz (zm (zb (zf rfl (zl (zEi w λO3 k3=>zf rfl ?_)))));rw[e];exact ztt (z7g zIm) (z7g zIm) (q _ (k1.trans (k2.trans k3)))
 ·exact zB (zym (zOb (zm (zb (zf rfl (zb (w_c (zl (zGj (c:=.bl) (t:=.bl) rfl ⟨_,rfl,λ_=>zUb (zf rfl (q _ k1)),λh=>(by cases h)⟩)))))))))
def zyp(h:Rd s)(q:∀O',tq O O'->Q (.bl true) O'):WF zkb [.int ((1:Nat):Int),.str s] O Q:=by
 refine zNc rfl ?_;show WS zlb [some (.int ((1:Nat):Int)),some (.str s),none] O _ _ _ _;unfold zlb;refine zB (zac (zm (zb (zf rfl (zb (zf rfl (zl ?_)))))));refine z3k h (λR W O1 w e k1=>?_) (λO1 hn k1=>?_)
 ·refine zB (zym (zOb (zm (zb (zf rfl (zb (w_c (zl (zGj (c:=.bl) (t:=.tup) rfl ⟨_,rfl,λh=>(by cases h),λ_=>zif ?_⟩)))))))));refine zB (zym (zOb (zz (zf rfl (w_c (zin ⟨_,rfl,λh=>(by cases h),λ_=>zif ?_⟩))))));refine zUb (z0d (zm (zb (zf rfl (zl (zjp w λO2 k2=>⟨_,rfl,λ_=>?_,λh=>(by cases h)⟩))))));refine zz (zm (zb (zf rfl (zl (ztj w λO3 k3=>zf rfl ?_)))));rw[e];exact ztt (z7g w.ok) (z7g w.ok) (q _ (k1.trans (k2.trans k3)))
 ·exact zB (zym (zOb (zm (zb (zf rfl (zb (w_c (zl (zGj (c:=.bl) (t:=.bl) rfl ⟨_,rfl,λ_=>zUb (zf rfl (q _ k1)),λh=>(by cases h)⟩)))))))))
def zBr :∀r:Nat,r<25->∃c,atI ("0123456789,; abcdjkAB-+._":yg).cps.toList ((r:Nat):Int)=some c/\c<128:=by
 have:∀r:Nat,r<25->∃c,c<128/\atI ("0123456789,; abcdjkAB-+._":yg).cps.toList ((r:Nat):Int)=some c:=by decide +kernel
 exact λr hr=>by
  obtain⟨c,h1,h2⟩:=this r hr;exact⟨c,h2,h1⟩
def zQq(lo:Low s)(hl:s.length<=40000)(p:Pen O l B)(hB:B<=200000)(q:∀s' O',Rd s'->KB [l] O O'->Pen O' l (B+3)->Q (.str s') O'):WF z9e [.loc l,.str s] O Q:=by
 refine zNc rfl ?_;show WS z1e [some (.loc l),some (.str s),none,none,none] O _ _ _ _;unfold z1e;refine zB (zac (zm (zb (zf rfl (zb (zz (zm (zb (zf rfl (zl (zXk (by omega) (w_c (zUj (zl ?_))))))))))))));have e1:((s.length:Nat):Int)+1=((s.length+1:Nat):Int):=by omega
 rw[e1];refine zLc p (by omega) (by omega) (by omega) λat_ O1 ha k1 p1=>?_;refine zB (zac (zz (w_c (zm (zb (zf rfl (zb (w_c (zl (zLc (s:=25) p1 (by omega) (by omega) (by omega) λr O2 hr k2 p2=>?_))))))))));obtain⟨c,hc,hlow⟩:=zBr r hr;refine z2p (by decide) hc ?_;refine zB (zac (zm (zb (zf rfl (zb (w_c (zl (zLc (s:=3) p2 (by omega) (by omega) (by omega) λw O3 hw k3 p3=>?_))))))));have kk:KB [l] O O3:=k1.trans (k2.trans k3);have pp:Pen O3 l (B+3):=p3.mono (by omega)
 have hcl:Low (⟨#[c]⟩:yg):=tE.mpr λx hx=>by
  have:x=c:=by simpa using hx
  omega
 have hc1:(⟨#[c]⟩:yg).length=1:=rfl;have sl:∀a b,Low (Yo s a b)/\(Yo s a b).length<=s.length:=λa b=>⟨zZk lo,Txt.slice_le s a b⟩
 have three:∀{a b a' b':Option Int},Rd (Yo s a b++(⟨#[c]⟩:yg)++Yo s a' b'):=λ{a b a' b'}=>by
  have h1:=sl a b;have h2:=sl a' b';have h3:Rd (Yo s a b++(⟨#[c]⟩:yg)):=Rd.app h1.1 hcl (by omega);refine Rd.app h3.low h2.1 ?_;rw[YM];omega
 have two:∀{a b a' b':Option Int},Rd (Yo s a b++Yo s a' b'):=λ{a b a' b'}=>Rd.app (sl a b).1 (sl a' b').1 (by have:=(sl a b).2;have:=(sl a' b').2;omega);have hs:s.length<=1000000:=by omega
 refine zB (zym (zOb (zz (zf rfl (w_c (zin ⟨_,rfl,λ_=>?_,λ_=>zif ?_⟩))))))
 ·refine zUb (zz (zz (zEl (zf rfl (zxi (zsf (zf rfl ⟨_,rfl,s,rfl,hs,zf rfl (z3d ?_ (zEl (zf rfl (zsf (zf rfl ⟨_,rfl,zxi ⟨s,rfl,hs,z3d ?_ (q _ _ three kk pp)⟩⟩)))))⟩)))))))
  ·have:=(sl none (some (at_:Int))).2;omega
  ·rw[YM];have:=(sl none (some (at_:Int))).2;have:=(sl (some (at_:Int)) none).2;omega
 refine zB (zym (zOb (zz (zf rfl (w_c (zin ⟨_,rfl,λ_=>?_,λ_=>zif ?_⟩))))))
 ·refine zUb (zz (zEl (zf rfl (zxi (zsf (zf rfl ⟨_,rfl,s,rfl,hs,zEl (zf rfl (zsf (zz (zf rfl (w_c (zUj ⟨_,rfl,zxi ⟨s,rfl,hs,z3d ?_ (q _ _ two kk pp)⟩⟩))))))⟩))))));have:=(sl none (some (at_:Int))).2;have:=(sl (some ((at_:Int)+1)) none).2;omega
 ·refine zUb (zz (zz (zEl (zf rfl (zxi (zsf (zf rfl ⟨_,rfl,s,rfl,hs,zf rfl (z3d ?_ (zEl (zf rfl (zsf (zz (zf rfl (w_c (zUj ⟨_,rfl,zxi ⟨s,rfl,hs,z3d ?_ (q _ _ three kk pp)⟩⟩))))))))⟩)))))))
  ·have:=(sl none (some (at_:Int))).2;omega
  ·rw[YM];have:=(sl none (some (at_:Int))).2;have:=(sl (some ((at_:Int)+1)) none).2;omega
end
def zBe(n:Nat):(zg [n]).cps.toList=dg n:=by
 rw[zg,zQ];exact zvd n
def zxe(n m:Nat)(r:List Nat):(zg (n::m::r)).cps.toList=dg n++44::(zg (m::r)).cps.toList:=by
 rw[zg,zg,zQ,zQ,map_cons,map_cons,zeb,zvd,comma];rfl
def Tt:∀ns:List Nat,ns≠[]->(zg ns).cps.toList.count 44+1=ns.length
 |[n],_=>by
  rw[zBe,List.count_eq_zero_of_not_mem λh=>by have:=zpf n 44 h;omega];rfl
 |n::m::r,_=>by
  have:=Tt (m::r) (by simp);rw[zxe,List.count_append,List.count_eq_zero_of_not_mem (λh=>by have:=zpf n 44 h;omega),List.count_cons_self];simp only[length_cons]at this ⊢;omega
def zQg:∀ns:List Nat,ns≠[]->∃c,(zg ns).cps.toList.getLast?=some c/\48<=c
 |[n],_=>by
  rw[zBe]
  cases e:(dg n).getLast? with
  |none=>exact absurd (List.getLast?_eq_none_iff.mp e) (zFj n)
  |some c=>exact⟨c,rfl,(zpf n c (List.mem_of_getLast? e)).1⟩
 |n::m::r,_=>by
  obtain⟨c,h1,h2⟩:=zQg (m::r) (by simp);refine⟨c,?_,h2⟩;rw[zxe,YJ,List.getLast?_cons]
  cases h:(zg (m::r)).cps.toList with
  |nil=>rw[h]at h1;cases h1
  |cons a b=>rw[h]at h1;rw[<-h1];simp[List.getLast?_cons]
def sE:∀ns:List Nat,∀c:Nat,(zg ns).cps.toList.head?=some 48->(zg ns).cps.toList[1]?=some c->c=44
 |[],c,h,_=>by cases h
 |[n],c,h,h1=>by
  rw[zBe]at h h1;rcases Nat.eq_zero_or_pos n with rfl|hn
  ·rw[zVh (by omega)]at h1;cases h1
  ·exact absurd h (by
    have:=zJl n hn;rw[List.head?_eq_getElem?];exact this)
 |n::m::r,c,h,h1=>by
  rw[zxe]at h h1;rcases Nat.eq_zero_or_pos n with rfl|hn
  ·rw[zVh (by omega)]at h1;simpa using h1.symm
  ·refine absurd ?_ (zJl n hn);rw[List.head?_append]at h
   cases e:dg n with
   |nil=>exact absurd e (zFj n)
   |cons a b=>rw[e]at h;simpa using h
def zTf(h:ns≠[]):(zg ns).cps.toList≠[]:=λe=>by
 obtain⟨c,h1,_⟩:=zQg ns h;rw[e]at h1;cases h1
def tF(x:yg):Prop:=¬∃R W,Rl R W/\x=zY R W
def zyi(hc:c∈x.cps.toList)(h:c≠32/\c≠44/\¬(48<=c/\c<=57)):tF x:=by
 rintro⟨R,W,w,rfl⟩;rw[zY,zQ]at hc;rcases zgc hc with hc|⟨y,hy,hc⟩
 ·rw[blank]at hc;exact h.1 (by simpa using hc)
 ·rcases z0f hy hc with e|e
  ·exact h.2.1 e
  ·exact h.2.2 e
def zVg(hx:x=yv " " parts)(h0:parts≠[])(hb:∀p∈parts,32∉p.cps.toList)(h:∀R W,Rl R W->parts=zg R::W.map zg->False):tF x:=by
 rintro⟨R,W,w,e⟩;refine h R W w ?_
 have e1:yx x " "=parts:=by
  rw[hx];exact zJ blank (by decide +kernel) h0 hb
 have e2:yx x " "=zg R::W.map zg:=by
  rw[e];exact zJ blank (by decide +kernel) (by simp) zzc
 exact e1.symm.trans e2
def zXf{W:List (List Nat)}(w:Rl R W){p:yg}(hp:p∈W.map zg):p.cps.toList.count 44=1:=by
 obtain⟨k,hk,rfl⟩:=List.mem_map.mp hp;have h2:=(w.wn k hk).1;have:=Tt k (λe=>by rw[e]at h2;simp at h2);omega
def zUo{W:List (List Nat)}(w:Rl R W){p:yg}(hp:p∈W.map zg):p.length<=60:=by
 obtain⟨k,hk,rfl⟩:=List.mem_map.mp hp;have h2:=(w.wn k hk).1;exact zBf (by omega) (w.way hk)
def zij(hx:x=yv " " (first::ps))(hb:∀p∈first::ps,32∉p.cps.toList)(hp:p∈ps)(hc:p.cps.toList.count 44≠1\/60<p.length):tF x :=
 zVg hx (by simp) hb λR W w e=>by
  rw[yV]at e;rw[e.2]at hp;rcases hc with hc|hc
  ·exact hc (zXf w hp)
  ·have:=zUo w hp;omega
def zbg(hx:x=yv " " (first::ps))(hb:∀p∈first::ps,32∉p.cps.toList)(h:∀R:List Nat,R≠[]->R.length<=10->(∀r∈R,r<=9)->first≠zg R):tF x :=
 zVg hx (by simp) hb λR W w e=>by
  rw[yV]at e;exact h R (λz=>by have:=w.rl;rw[z]at this;simp at this) w.rl.2 w.rn e.1
def zIg(hx:x=yv " " (first::ps))(hb:∀p∈first::ps,32∉p.cps.toList)(h:ps.length<2\/3<ps.length):tF x :=
 zVg hx (by simp) hb λR W w e=>by
  rw[yV]at e;have:=congrArg List.length e.2;rw[length_map]at this;have:=w.wl;omega
def zOc(a b c:yg):a++b++c=a++(b++c):=zJf (by simp only[zR,append_assoc])
def jc(z x y:yg)(ys:List yg):yv z (x::y::ys)=x++z++yv z (y::ys):=zJf (by rw[zQ,zQ,zeb,zR,zR,append_assoc])
def js(z p:yg):∀ys:List yg,ys≠[]->yv z (ys++[p])=yv z ys++z++p
 |[y],_=>by rw[List.singleton_append,jc];rfl
 |y::y2::r,_=>by
  have:=js z p (y2::r) (by simp);rw[cons_append,cons_append,jc,jc,<-cons_append,this];simp only[zOc]
section
variable {R:List Nat}{W:List (List Nat)}
abbrev zmd(W:List (List Nat)):yg:=yv " " (W.map zg)
def zZb(h:32∉p.cps.toList){ps:List yg}(hs:∀q∈ps,32∉q.cps.toList):∀q∈p::ps,32∉q.cps.toList:=λq hq=>by
 rcases List.mem_cons.mp hq with rfl|hq
 ·exact h
 ·exact hs q hq
def zCc :∀q∈([]:List yg),32∉q.cps.toList:=λq hq=>by cases hq
def zJi(h:32∉p.cps.toList){ps:List yg}(hs:∀q∈ps,32∉q.cps.toList):∀q∈ps++[p],32∉q.cps.toList:=λq hq=>by
 rcases List.mem_append.mp hq with hq|hq
 ·exact hs q hq
 ·rw[List.mem_singleton.mp hq];exact h
def frF:32∉(zg R).cps.toList:=zzc (R:=R) (W:=[]) _ (by simp)
def frW :∀q∈W.map zg,32∉q.cps.toList:=λq hq=>zzc (R:=[]) (W:=W) q (mem_cons_of_mem _ hq)
def zqm(ha:32∉a.cps.toList)(hb:32∉b.cps.toList):32∉(a++b).cps.toList:=by
 rw[zR,mem_append];exact λh=>h.elim ha hb
def Rl.two(w:Rl R W):∃a b r,W=a::b::r:=by
 have:=w.wl
 match W,this with
 |a::b::r,_=>exact⟨a,b,r,rfl⟩
def zqj(w:Rl R W)(x:yg):x ++ " " ++ zmd W=yv " " (x::W.map zg):=by
 obtain⟨a,b,r,rfl⟩:=w.two;exact(jc " " x _ _).symm
def zfm(w:Rl R W)(x:yg):zY R W ++ " " ++ x=yv " " (zg R::(W.map zg++[x])):=by
 rw[<-cons_append,js _ _ _ (by simp)]
def bad1(w:Rl R W):tF (zg R ++ ", " ++ zmd W):=by
 have e:zg R ++ ", " ++ zmd W=zg R ++ "," ++ " " ++ zmd W:=by
  rw[show(", ":yg)="," ++ " " by decide +kernel];simp only[zOc]
 rw[e,zqj w];refine zbg rfl (zZb (zqm frF (by decide +kernel)) frW) λR' h0 hl hr e=>?_;obtain⟨c,h1,h2⟩:=zQg R' h0;rw[<-e,zR,comma,YJ]at h1;have:(44:Nat)=c:=by simpa using h1
 omega
def bad2(w:Rl R W):tF ("0" ++ zg R ++ " " ++ zmd W):=by
 rw[zqj w];refine zbg rfl (zZb (zqm (by decide +kernel) frF) frW) λR' h0 hl hr e=>?_;have e0:("0":yg).cps.toList=[48]:=by decide +kernel
 have hR:R≠[]:=λz=>by have:=w.rl;rw[z]at this;simp at this
 obtain⟨c,r,hc⟩:∃c r,(zg R).cps.toList=c::r:=by
  cases z:(zg R).cps.toList with
  |nil=>exact absurd z (zTf hR)
  |cons c r=>exact⟨c,r,rfl⟩
 have hL:(zg R').cps.toList=48::c::r:=by rw[<-e,zR,e0,hc];rfl
 have h44:=sE R' c (by rw[hL];rfl) (by rw[hL];rfl)
 have:48<=c:=by
  match R,hR with
  |n::[],_=>rw[zBe]at hc;exact(zpf n c (by rw[hc];simp)).1
  |n::m::q,_=>
   rw[zxe]at hc
   cases z:dg n with
   |nil=>exact absurd z (zFj n)
   |cons a b=>
    rw[z,cons_append,yV]at hc;exact(zpf n c (by rw[z,hc.1];simp)).1
 omega
def bad3(w:Rl R W):tF ("-1," ++ zg R ++ " " ++ zmd W):=zyi (c:=45) (by simp only[zR,mem_append];exact .inl (.inl (.inl (by decide +kernel)))) (by omega)
def bad4(w:Rl R W):tF ("10 " ++ zmd W):=by
 rw[show("10 ":yg)="10" ++ " " by decide +kernel,zqj w];refine zbg rfl (zZb (by decide +kernel) frW) λR' h0 hl hr e=>?_;have e10:("10":yg)=zg [10]:=by decide +kernel
 have:=z2b (a:=[10]) (b:=R') (by simp) h0 (λn hn=>Ts (by simp at hn;omega)) (λn hn=>Ts (by have:=hr n hn;omega)) (e10.symm.trans e);have:=hr 10 (by rw[<-this];simp);omega
def bad5(w:Rl R W):tF (" " ++ zmd W):=by
 have e:(" ":yg)++zmd W="" ++ " " ++ zmd W:=by
  rw[show("":yg) ++ " " = " " by decide +kernel]
 rw[e,zqj w];refine zbg rfl (zZb (by decide +kernel) frW) λR' h0 hl hr e=>zTf h0 ?_;rw[<-e];decide +kernel
def bad7:tF (zg R):=zIg (first:=zg R) (ps:=[]) rfl (zZb frF zCc) (.inl (by simp))
def bad8{a:List Nat}:tF (zg R ++ " " ++ zg a):=zIg (first:=zg R) (ps:=[zg a]) (show _=yv " " [zg R,zg a] by rw[jc];rfl) (zZb frF (zZb frF zCc)) (.inl (by simp))
def bad9(w:Rl R W):tF (zY R W ++ " "):=by
 have e:zY R W ++ " "=zY R W ++ " " ++ "":=zJf (by simp only[zR];rw[show("":yg).cps.toList=[] by decide +kernel,append_nil]);rw[e,zfm w];exact zij (p:="") rfl (zZb frF (zJi (by decide +kernel) frW)) (by simp) (.inl (by decide +kernel))
def bad10(w:Rl R W):tF (" " ++ zY R W):=by
 obtain⟨a,b,r,rfl⟩:=w.two
 have e:(" ":yg)++zY R (a::b::r)=yv " " ("" :: zg R::(a::b::r).map zg):=by
  rw[jc,show("":yg) ++ " " = " " by decide +kernel]
 refine zbg e (zZb (by decide +kernel) (zZb frF frW)) λR' h0 hl hr e=>zTf h0 ?_;rw[<-e];decide +kernel
def zEm(w:Rl R W){p q:yg}(e:q=" " ++ p)(hb:32∉p.cps.toList)(h:p.cps.toList.count 44≠1\/60<p.length):tF (zY R W++q):=by
 rw[e,<-zOc,zfm w];exact zij (p:=p) rfl (zZb frF (zJi hb frW)) (by simp) h
def bad12(w:Rl R W):tF (zg R ++ "  " ++ zmd W):=by
 obtain⟨a,b,r,rfl⟩:=w.two
 have e:zg R ++ "  " ++ zmd (a::b::r)=yv " " (zg R :: "" :: (a::b::r).map zg):=by
  rw[jc,map_cons,map_cons,jc,show("  ":yg)=" " ++ ("" ++ " ") by decide +kernel];simp only[zOc];rfl
 exact zij (p:="") e (zZb frF (zZb (by decide +kernel) frW)) (by simp) (.inl (by decide +kernel))
def bad13(w:Rl R W){a:List Nat}(ha:a∈W):tF (zg R ++ " " ++ zg a ++ ",3 " ++ zmd W):=by
 have e:zg R ++ " " ++ zg a ++ ",3 " ++ zmd W=yv " " (zg R::(zg a ++ ",3")::W.map zg):=by
  rw[jc,<-zqj w,show(",3 ":yg)=",3" ++ " " by decide +kernel];simp only[zOc]
 refine zij (p:=zg a ++ ",3") e (zZb frF (zZb (zqm frF (by decide +kernel)) frW)) (by simp) (.inl ?_);have h1:=zXf w (List.mem_map.mpr ⟨a,ha,rfl⟩);rw[zR,List.count_append,h1,show(",3":yg).cps.toList.count 44=1 by decide +kernel];omega
def bad14(w:Rl R W):tF (zY R W ++ " 3,10007"):=by
 rw[show(" 3,10007":yg)=" " ++ "3,10007" by decide +kernel,<-zOc,zfm w];refine zVg rfl (by simp) (zZb frF (zJi (by decide +kernel) frW)) λR' W' w' e=>?_;rw[yV]at e;have hp:("3,10007":yg)∈W'.map zg:=by rw[<-e.2];simp
 obtain⟨k,hk,ek⟩:=List.mem_map.mp hp;have h2:=w'.wn k hk;have e3:("3,10007":yg)=zg [3,10007]:=by decide +kernel
 have:=z2b (a:=k) (b:=[3,10007]) (λz=>by have:=h2.1;rw[z]at this;simp at this) (by simp) (λn hn=>Ts (h2.2 n hn)) (λn hn=>YC (show n<=10007 by simp at hn;omega) (by decide)) (ek.trans e3);have:=h2.2 10007 (by rw[this];simp);omega
def bad15(w:Rl R W):tF (zY R W ++ " 03,4"):=by
 rw[show(" 03,4":yg)=" " ++ "03,4" by decide +kernel,<-zOc,zfm w];refine zVg rfl (by simp) (zZb frF (zJi (by decide +kernel) frW)) λR' W' w' e=>?_;rw[yV]at e;have hp:("03,4":yg)∈W'.map zg:=by rw[<-e.2];simp
 obtain⟨k,hk,ek⟩:=List.mem_map.mp hp;have:=sE k 51 (by rw[ek];decide +kernel) (by rw[ek];decide +kernel);omega
def bad17:tF (zg R ++ " 1,2 3,4 5,6 7,8"):=by
 have e:zg R ++ " 1,2 3,4 5,6 7,8"=yv " " (zg R::["1,2","3,4","5,6","7,8"]):=by
  rw[jc,show yv " " ["1,2","3,4","5,6","7,8"]=("1,2 3,4 5,6 7,8":yg) by decide +kernel,show(" 1,2 3,4 5,6 7,8":yg)=" " ++ "1,2 3,4 5,6 7,8" by decide +kernel,zOc]
 exact zIg e (zZb frF (by decide +kernel)) (.inr (by simp))
def bad19:tF (zg R ++ " 3, 4 5,6"):=by
 have e:zg R ++ " 3, 4 5,6"=yv " " (zg R::["3,","4","5,6"]):=by
  rw[jc,show yv " " ["3,","4","5,6"]=("3, 4 5,6":yg) by decide +kernel,show(" 3, 4 5,6":yg)=" " ++ "3, 4 5,6" by decide +kernel,zOc]
 exact zij (p:="4") e (zZb frF (by decide +kernel)) (by simp) (.inl (by decide +kernel))
def bad21:tF "":=zIg (first:="") (ps:=[]) rfl (by decide +kernel) (.inl (by simp))
def bad6(w:Rl R W):tF (yv " " [z8j "1," 10 ++ "1",zmd W]):=by
 have e:yv " " [z8j "1," 10 ++ "1",zmd W]=(z8j "1," 10 ++ "1") ++ " " ++ zmd W:=by
  rw[jc];rfl
 have e2:z8j "1," 10 ++ "1"=zg (yl 11 1):=by decide +kernel
 rw[e,zqj w,e2];refine zbg rfl (zZb frF frW) λR' h0 hl hr e=>?_;have h1:=Tt R' h0;have h2:=Tt (yl 11 1) (by decide);rw[<-e]at h1;rw[length_replicate]at h2;omega
def bad11(w:Rl R W):tF (zY R W ++ " 3"):=zEm w (p:="3") (by decide +kernel) (by decide +kernel) (.inl (by decide +kernel))
def bad16:tF (zY R W ++ " 3,-0"):=zyi (c:=45) (by rw[zR,mem_append];exact .inr (by decide +kernel)) (by omega)
def bad18(w:Rl R W):tF (zY R W ++ " 1" ++ z8j "0" 60 ++ ",4"):=by
 have e:zY R W ++ " 1" ++ z8j "0" 60 ++ ",4"=zY R W++(" 1" ++ (z8j "0" 60 ++ ",4")):=by simp only[zOc]
 rw[e];exact zEm w (p:="1" ++ (z8j "0" 60 ++ ",4")) (by decide +kernel) (by decide +kernel) (.inr (by decide +kernel))
def zTm(h:∀q∈ys,32∉q.cps.toList):32∉(yv "," ys).cps.toList:=λhc=>by
 rw[zQ]at hc;rcases zgc hc with hc|⟨y,hy,hc⟩
 ·rw[comma]at hc;simp at hc
 ·exact h y hy hc
def bad20:tF (yv "," (zg R::W.map zg)):=zIg (first:=yv "," (zg R::W.map zg)) (ps:=[]) rfl (zZb (zTm (zZb frF frW)) zCc) (.inl (by simp))
def z0p{z:yg}{c:Nat}(hc:c∈z.cps.toList):∀ys:List yg,2<=ys.length->c∈(yY z ys).cps.toList
 |[],h=>by simp at h
 |[y],h=>by simp at h
 |y::y2::r,_=>by
  rw[zeb,mem_append,mem_append];exact .inr (.inl hc)
def bad22(w:Rl R W):tF (Txt.replace (zY R W) "," ";"):=by
 have e:=StrLaws.replace_one (zY R W) ";" 44;have e44:(",":yg)=⟨#[44]⟩:=by decide +kernel
 rw[e44,e];refine zyi (c:=59) (z0p (by decide +kernel) _ ?_) (by omega);rcases Nat.lt_or_ge (yx (zY R W) ⟨#[44]⟩).length 2 with h|h
 ·exfalso;have hj:=Yu (zY R W) ⟨#[44]⟩;obtain⟨a,b,r,rfl⟩:=w.two
  have ha:44∈(zY R (a::b::r)).cps.toList:=by
   rw[zY,zQ];refine zrf (y:=zg a) (by simp) ?_;have:=zXf w (p:=zg a) (by simp);exact List.count_pos_iff.mp (by omega)
  match hs:yx (zY R (a::b::r)) ⟨#[44]⟩ with
  |[]=>exact z2g hs
  |[x]=>
   have:=StrLaws.split_free (zY R (a::b::r)) 44 x (by rw[hs];simp);rw[hs]at hj;have hx:x=zY R (a::b::r):=hj;rw[hx]at this;exact this ha
  |x::y::z=>rw[hs]at h;simp at h;omega
 ·exact h
def bad23(w:Rl R W):tF (zY R W ++ ","):=by
 have hW:W≠[]:=λz=>by have:=w.wl;rw[z]at this;simp at this
 have e1:W=W.dropLast++[W.getLast hW]:=(List.dropLast_concat_getLast hW).symm
 have e:zY R W ++ ","=yv " " (zg R::(W.dropLast.map zg++[zg (W.getLast hW) ++ ","])):=by
  conv=>lhs;rw[e1]
  rw[zY,map_append,List.map_singleton,<-cons_append,js _ _ _ (by simp),<-cons_append,js _ _ _ (by simp)];simp only[zOc]
 have hm:zg (W.getLast hW)∈W.map zg:=List.mem_map.mpr ⟨_,List.getLast_mem hW,rfl⟩;refine zij (p:=zg (W.getLast hW) ++ ",") e (zZb frF (zJi (zqm frF (by decide +kernel)) frW)) (by simp) (.inl ?_);have h1:=zXf w hm;rw[zR,List.count_append,h1,comma];simp
def bad24(w:Rl R W):tF (yv " " [yv ";" (R.map num) ++ ";",zmd W]):=by
 refine zyi (c:=59) ?_ (by omega);rw[jc,zR,zR,zR,mem_append,mem_append,mem_append];exact .inl (.inl (.inr (by decide +kernel)))
def bad25:tF ("+" ++ zY R W):=zyi (c:=43) (by rw[zR,mem_append];exact .inl (by decide +kernel)) (by omega)
end
def zRb(x:yg):Prop:=¬∃R K,Wr R K/\x=zBb R K
def zcm(w:Wr R K){c:Nat}(hc:c∈(zBb R K).cps.toList):c=32\/c=44\/c=59\/(48<=c/\c<=57)\/(97<=c/\c<=106):=by
 rw[zBb,zQ]at hc;rcases zgc hc with hc|⟨y,hy,hc⟩
 ·rw[semi]at hc;have:c=59\/c=32:=by simpa using hc
  omega
 ·rcases List.mem_cons.mp hy with rfl|hy
  ·have:=zDc hc;omega
  ·obtain⟨k,hk,rfl⟩:=List.mem_map.mp hy;rw[zE,zQ]at hc;rcases zgc hc with hc|⟨z,hz,hc⟩
   ·rw[blank]at hc;exact .inl (by simpa using hc)
   ·obtain⟨h,hh,rfl⟩:=List.mem_map.mp hz;have:=(w.kn k hk).2 h hh;have:=w.rl;have:c=97+h:=by simpa using hc
    omega
def zHl(hc:c∈x.cps.toList)(h:c≠32/\c≠44/\c≠59/\¬(48<=c/\c<=57)/\¬(97<=c/\c<=106)):zRb x:=by
 rintro⟨R,K,w,rfl⟩;have:=zcm w hc;omega
def zNh(hx:x=yv "; " parts)(h0:parts≠[])(hb:∀p∈parts,59∉p.cps.toList)(h:∀R K,Wr R K->parts=zg R::K.map zE->False):zRb x:=by
 rintro⟨R,K,w,e⟩;refine h R K w ?_
 have e1:yx x "; "=parts:=by
  rw[hx];exact zJ semi (by decide +kernel) h0 hb
 have e2:yx x "; "=zg R::K.map zE:=by
  rw[e];exact zJ semi (by decide +kernel) (by simp) zIb
 exact e1.symm.trans e2
section
variable {R:List Nat}{K:List (List Nat)}
def zIs(p:yg):zBb R K ++ "; " ++ p=yv "; " (zg R::(K.map zE++[p])):=by
 rw[<-cons_append,js _ _ _ (by simp)]
def sfr(h:59∉p.cps.toList):∀q∈zg R::(K.map zE++[p]),59∉q.cps.toList:=λq hq=>by
 rw[<-cons_append,mem_append]at hq;rcases hq with hq|hq
 ·exact zIb q hq
 ·rw[List.mem_singleton.mp hq];exact h
def zui(w:Wr R K){p q:yg}(e:q="; " ++ p)(hb:59∉p.cps.toList)(h:∀k:List Nat,2<=k.length->k.length<=3->(∀x∈k,x<R.length)->p≠zE k):zRb (zBb R K++q):=by
 rw[e,<-zOc,zIs];refine zNh rfl (by simp) (sfr hb) λR' K' w' e=>?_;rw[yV]at e;have hR:∀{R:List Nat} {K:List (List Nat)},Wr R K->R≠[]/\∀n∈R,n<10^60:=λw=>⟨λz=>by have:=w.rl;rw[z]at this;simp at this,λn hn=>Ts (by have:=w.rn n hn;omega)⟩
 have eR:R=R':=z2b (hR w).1 (hR w').1 (hR w).2 (hR w').2 e.1;have hp:p∈K'.map zE:=by rw[<-e.2];simp
 obtain⟨k,hk,ek⟩:=List.mem_map.mp hp;have hk2:=w'.kn k hk;exact h k hk2.1.1 hk2.1.2 (by rw[eR];exact hk2.2) ek.symm
def z3e(h:k≠[]){p:yg}{ps:List yg}(e:p=zE k)(hs:yx p " "=ps):ps=k.map lt:=by
 rw[<-hs,e];exact zJ blank (by decide +kernel) (λz=>h (List.map_eq_nil_iff.mp z)) zTh
def zvl(w:Wr R K){p q z:yg}(e:q="; " ++ p)(hb:59∉p.cps.toList){ps:List yg}(hs:yx p " "=ps)(hz:z∈ps)(hl:z.length≠1):zRb (zBb R K++q) :=
 zui w e hb λk h2 h3 hk ep=>by
  have:=z3e (λz=>by rw[z]at h2;simp at h2) ep hs;rw[this]at hz;obtain⟨h,_,rfl⟩:=List.mem_map.mp hz;exact hl rfl
def zFl(w:Wr R K){p q:yg}(e:q="; " ++ p)(hb:59∉p.cps.toList){ps:List yg}(hs:yx p " "=ps)(hl:ps.length<2\/3<ps.length):zRb (zBb R K++q) :=
 zui w e hb λk h2 h3 hk ep=>by
  have:=z3e (λz=>by rw[z]at h2;simp at h2) ep hs;rw[this,length_map]at hl;omega
def split1(e:p=yv " " ps)(h0:ps≠[])(hb:∀q∈ps,32∉q.cps.toList):yx p " "=ps:=by
 rw[e];exact zJ blank (by decide +kernel) h0 hb
def wbad3(w:Wr R K):zRb (zBb R K ++ "; a"):=zFl w (p:="a") (by decide +kernel) (by decide +kernel) (split1 (ps:=["a"]) (by decide +kernel) (by simp) (by decide +kernel)) (.inl (by simp))
def wbad4(w:Wr R K):zRb (zBb R K ++ "; a a a a"):=zFl w (p:="a a a a") (by decide +kernel) (by decide +kernel) (split1 (ps:=["a","a","a","a"]) (by decide +kernel) (by simp) (by decide +kernel)) (.inr (by simp))
def wbad6:zRb (zBb R K ++ "; A a"):=zHl (c:=65) (by rw[zR,mem_append];exact .inr (by decide +kernel)) (by omega)
def wbad7(w:Wr R K):zRb (zBb R K ++ "; a  a"):=zvl w (p:="a  a") (z:="") (by decide +kernel) (by decide +kernel) (split1 (ps:=["a","","a"]) (by decide +kernel) (by simp) (by decide +kernel)) (by simp) (by decide +kernel)
def wbad10(w:Wr R K):zRb (zBb R K ++ ";  a a"):=zvl w (p:=" a a") (z:="") (by decide +kernel) (by decide +kernel) (split1 (ps:=["","a","a"]) (by decide +kernel) (by simp) (by decide +kernel)) (by simp) (by decide +kernel)
def wbad11(w:Wr R K):zRb (zBb R K ++ "; aa a"):=zvl w (p:="aa a") (z:="aa") (by decide +kernel) (by decide +kernel) (split1 (ps:=["aa","a"]) (by decide +kernel) (by simp) (by decide +kernel)) (by simp) (by decide +kernel)
def wbad12(w:Wr R K):zRb (zBb R K ++ "; a,a"):=zFl w (p:="a,a") (by decide +kernel) (by decide +kernel) (split1 (ps:=["a,a"]) (by decide +kernel) (by simp) (by decide +kernel)) (.inl (by simp))
def wbad26(w:Wr R K):zRb (zBb R K ++ "; a k"):=zui w (p:="a k") (by decide +kernel) (by decide +kernel) λk h2 h3 hk ep=>by
 have:=z3e (λz=>by rw[z]at h2;simp at h2) ep (split1 (ps:=["a","k"]) (by decide +kernel) (by simp) (by decide +kernel));have hm:("k":yg)∈k.map lt:=by rw[<-this];simp
 obtain⟨h,hh,e⟩:=List.mem_map.mp hm;have:=hk h hh;have:=w.rl;have e2:("k":yg)=lt 10:=by decide +kernel
 have:=zam (e.trans e2);omega
def wbad23(w:Wr R K):zRb (zBb R K ++ "; 0 0"):=zui w (p:="0 0") (by decide +kernel) (by decide +kernel) λk h2 h3 hk ep=>by
 have:=zzj (k:=k) (c:=48) (by rw[<-ep];decide +kernel);omega
def wbad5(w:Wr R K):zRb (zBb R K ++ "; a " ++ lt R.length):=by
 have e:zBb R K ++ "; a " ++ lt R.length=zBb R K++("; a " ++ lt R.length):=zOc _ _ _;rw[e];refine zui w (p:="a " ++ lt R.length) ?_ ?_ λk h2 h3 hk ep=>?_
 ·rw[show("; a ":yg)="; " ++ "a " by decide +kernel,zOc]
 ·rw[zR,mem_append];rintro(h|h)
  ·exact absurd h (by decide +kernel)
  ·have:=w.rl;have:59=97+R.length:=by simpa using h
   omega
 ·have hsp:yx ("a " ++ lt R.length) " " = [("a":yg),lt R.length]:=by
   refine split1 (ps:=[("a":yg),lt R.length]) ?_ (by simp) ?_
   ·rw[jc,show("a ":yg)="a" ++ " " by decide +kernel];rfl
   ·intro q hq;rcases List.mem_cons.mp hq with rfl|hq
    ·decide +kernel
    ·rw[List.mem_singleton.mp hq];intro h;have:32=97+R.length:=by simpa using h
     omega
  have:=z3e (λz=>by rw[z]at h2;simp at h2) ep hsp;have hm:lt R.length∈k.map lt:=by rw[<-this];simp
  obtain⟨h,hh,e⟩:=List.mem_map.mp hm;have h1:=hk h hh;have:=zam e;omega
end
def z9k:∀k:List Nat,k≠[]->∃c,(zE k).cps.toList.getLast?=some c/\97<=c
 |[n],_=>⟨97+n,by rw[zE,zQ];rfl,by omega⟩
 |n::m::r,_=>by
  obtain⟨c,h1,h2⟩:=z9k (m::r) (by simp);refine⟨c,?_,h2⟩
  have e:(zE (n::m::r)).cps.toList=(97+n)::32::(zE (m::r)).cps.toList:=by
   rw[zE,zE,zQ,zQ,map_cons,map_cons,zeb,blank];rfl
  rw[e]
  cases h:(zE (m::r)).cps.toList with
  |nil=>rw[h]at h1;cases h1
  |cons a b=>rw[h]at h1;rw[<-h1];simp[List.getLast?_cons]
def z2k{z:yg}{P:Nat->Prop}:∀ys:List yg,ys≠[]->(∀y∈ys,∃c,y.cps.toList.getLast?=some c/\P c)->∃c,(yY z ys).cps.toList.getLast?=some c/\P c
 |[y],_,h=>h y (by simp)
 |y::y2::r,_,h=>by
  obtain⟨c,h1,h2⟩:=z2k (z:=z) (y2::r) (by simp) λq hq=>h q (mem_cons_of_mem _ hq);refine⟨c,?_,h2⟩;rw[zeb,YJ,YJ,h1];rfl
def z0h(h:x.cps.toList.getLast?=some c)(hc:c<48\/57<c/\c<97):zRb x:=by
 rintro⟨R,K,w,rfl⟩;have hR:R≠[]:=λz=>by have:=w.rl;rw[z]at this;simp at this
 obtain⟨d,h1,h2⟩:=z2k (z:="; ") (P:=λc=>(48<=c/\c<=57)\/97<=c) (zg R::K.map zE) (by simp) λy hy=>by
  rcases List.mem_cons.mp hy with rfl|hy
  ·obtain⟨c,e1,e2⟩:=zQg R hR;have:=zDc (List.mem_of_getLast? e1);exact⟨c,e1,.inl (by omega)⟩
  ·obtain⟨k,hk,rfl⟩:=List.mem_map.mp hy;obtain⟨c,e1,e2⟩:=z9k k (λz=>by have:=(w.kn k hk).1;rw[z]at this;simp at this);exact⟨c,e1,.inr e2⟩
 rw[zBb,zQ,h1]at h;cases h;omega
def zOg(h:b.cps.toList.getLast?=some c):(a++b).cps.toList.getLast?=some c:=by
 rw[zR,YJ,h];rfl
def zKm :∀ns:List Nat,ns≠[]->∃c,(zg ns).cps.toList.head?=some c/\48<=c/\c<=57
 |[n],_=>by
  rw[zBe]
  cases e:dg n with
  |nil=>exact absurd e (zFj n)
  |cons c r=>exact⟨c,rfl,zpf n c (by rw[e];simp)⟩
 |n::m::r,_=>by
  rw[zxe]
  cases e:dg n with
  |nil=>exact absurd e (zFj n)
  |cons c q=>exact⟨c,rfl,zpf n c (by rw[e];simp)⟩
def zsk(R:List Nat)(K:List (List Nat)):∃L,(zBb R K).cps.toList=(zg R).cps.toList++L:=by
 rw[zBb,zQ]
 cases K with
 |nil=>exact⟨[],by rw[append_nil];rfl⟩
 |cons k K=>exact⟨_,by rw[map_cons,zeb]⟩
def zTo(h:x.cps.toList.head?=some c)(hc:¬(48<=c/\c<=57)):zRb x:=by
 rintro⟨R,K,w,rfl⟩;obtain⟨d,h1,h2⟩:=zKm R (λz=>by have:=w.rl;rw[z]at this;simp at this);obtain⟨L,e⟩:=zsk R K;rw[e,List.head?_append,h1]at h;cases h;exact hc h2
section
variable {R:List Nat}{K:List (List Nat)}
def wbad1:zRb (zBb R K ++ ";"):=z0h (c:=59) (zOg (by decide +kernel)) (by omega)
def wbad2:zRb (zBb R K ++ "; "):=z0h (c:=32) (zOg (by decide +kernel)) (by omega)
def wbad9:zRb (zBb R K ++ "; a a "):=z0h (c:=32) (zOg (by decide +kernel)) (by omega)
def wbad22:zRb (zBb R K ++ " "):=z0h (c:=32) (zOg (by decide +kernel)) (by omega)
def wbad24:zRb (zBb R K ++ "; a a;"):=z0h (c:=59) (zOg (by decide +kernel)) (by omega)
def wbad16:zRb ("-" ++ zBb R K):=zHl (c:=45) (by rw[zR,mem_append];exact .inl (by decide +kernel)) (by omega)
def wbad25:zRb ("+" ++ zBb R K):=zHl (c:=43) (by rw[zR,mem_append];exact .inl (by decide +kernel)) (by omega)
def wbad21:zRb (" " ++ zBb R K):=zTo (c:=32) (by rw[zR,blank];rfl) (by omega)
def wbad18:zRb "; a a":=zTo (c:=59) (by decide +kernel) (by omega)
def wbad19:zRb "":=by
 rintro⟨R,K,w,e⟩;obtain⟨L,e2⟩:=zsk R K;rw[<-e,show("":yg).cps.toList=[] by decide +kernel]at e2;have:=(List.append_eq_nil_iff.mp e2.symm).1;exact zTf (λz=>by have:=w.rl;rw[z]at this;simp at this) this
def zpk(hx:x=yv "; " (first::ps))(hb:∀p∈first::ps,59∉p.cps.toList)(h:∀R:List Nat,R≠[]->R.length<=10->(∀r∈R,r<=9)->first≠zg R):zRb x :=
 zNh hx (by simp) hb λR K w e=>by
  rw[yV]at e;exact h R (λz=>by have:=w.rl;rw[z]at this;simp at this) w.rl.2 w.rn e.1
def wbad17:zRb (yv "," (yl 11 "1") ++ "; a a"):=by
 have e:yv "," (yl 11 ("1":yg))=zg (yl 11 1):=by decide +kernel
 have e2:yv "," (yl 11 ("1":yg)) ++ "; a a"=yv "; " [zg (yl 11 1),"a a"]:=by
  rw[e,jc,show("; a a":yg)="; " ++ "a a" by decide +kernel,zOc];rfl
 refine zpk e2 (by decide +kernel) λR' h0 hl hr e=>?_;have h1:=Tt R' h0;have h2:=Tt (yl 11 1) (by decide);rw[<-e]at h1;rw[length_replicate]at h2;omega
def wbad20:zRb (zg R ++ ",; a a"):=by
 have e2:zg R ++ ",; a a"=yv "; " [zg R ++ ",","a a"]:=by
  rw[jc,show(",; a a":yg)="," ++ ("; " ++ "a a") by decide +kernel];simp only[zOc];rfl
 refine zpk e2 (λp hp=>?_) λR' h0 hl hr e=>?_
 ·rcases List.mem_cons.mp hp with rfl|hp
  ·rw[zR,mem_append];rintro(h|h)
   ·have:=zDc h;omega
   ·exact absurd h (by decide +kernel)
  ·rw[List.mem_singleton.mp hp];decide +kernel
 ·obtain⟨c,h1,h2⟩:=zQg R' h0;rw[<-e,zR,comma,YJ]at h1;have:(44:Nat)=c:=by simpa using h1
  omega
end
def zMk:∀ys:List yg,(∀y∈ys,59∉y.cps.toList)->∀i:Nat,(yY "; " ys).cps.toList[i]?=some 59->(yY "; " ys).cps.toList[i+1]?=some 32
 |[],_,i,h=>by
  have:(yY "; " []).cps.toList=[]:=rfl;rw[this]at h;cases h
 |[y],hy,i,h=>absurd (mem_of_getElem? h) (hy y (by simp))
 |y::y2::r,hy,i,h=>by
  rw[zeb,semi]at h ⊢;have ih:=zMk (y2::r) λq hq=>hy q (mem_cons_of_mem _ hq);rcases Nat.lt_trichotomy i y.cps.toList.length with hi|hi|hi
  ·rw[yE hi]at h;exact absurd (mem_of_getElem? h) (hy y (by simp))
  ·subst hi;rw[yA (by omega)];simp
  ·obtain⟨j,rfl⟩:∃j,i=y.cps.toList.length+1+j:=⟨i-(y.cps.toList.length+1),by omega⟩
   cases j with
   |zero=>
    rw[yA (by omega)]at h;simp at h
   |succ j=>
    rw[yA (by omega),show y.cps.toList.length+1+(j+1)-y.cps.toList.length=j+2 by omega]at h;rw[yA (by omega),show y.cps.toList.length+1+(j+1)+1-y.cps.toList.length=j+1+2 by omega];have h:(yY "; " (y2::r)).cps.toList[j]?=some 59:=by simpa using h
    have:=ih j h;simpa using this
section
variable {R:List Nat}{K:List (List Nat)}
def wbad8:zRb (zBb R K ++ ";a a"):=by
 rintro⟨R',K',w,e⟩;have h1:=zMk (zg R'::K'.map zE) zIb (zBb R K).cps.toList.length;rw[<-zQ,show yv "; " (zg R'::K'.map zE)=zBb R' K' from rfl,<-e,zR,show(";a a":yg).cps.toList=[59,97,32,97] by decide +kernel]at h1;have:=h1 (by simp);rw[yA (by omega)]at this;simp at this
def wbad13:zRb (zg R++z8j "; a a" 31):=by
 have e1:z8j "; a a" 31="; " ++ yv "; " (yl 31 "a a"):=by decide +kernel
 have e:zg R++z8j "; a a" 31=yv "; " (zg R::yl 31 "a a"):=by
  rw[e1,<-zOc];exact(jc "; " _ _ _).symm
 refine zNh e (by simp) (λp hp=>?_) λR' K' w e=>?_
 ·rcases List.mem_cons.mp hp with rfl|hp
  ·exact zIb (R:=R) (K:=[]) _ (by simp)
  ·rw[List.eq_of_mem_replicate hp];decide +kernel
 ·rw[yV]at e;have:=congrArg List.length e.2;rw[length_map,length_replicate]at this;have:=w.kl;omega
def zPm{R R':List Nat}(hR:R≠[]):"0" ++ zg R≠zg R':=λe=>by
 have e0:("0":yg).cps.toList=[48]:=by decide +kernel
 obtain⟨c,h1,h2⟩:=zKm R hR
 cases z:(zg R).cps.toList with
 |nil=>exact absurd z (zTf hR)
 |cons a r=>
  rw[z]at h1;cases h1;have hL:(zg R').cps.toList=48::c::r:=by rw[<-e,zR,e0,z];rfl
  have:=sE R' c (by rw[hL];rfl) (by rw[hL];rfl);omega
def zIr(x:yg):x++zBb R K=yv "; " ((x++zg R)::K.map zE):=by
 cases K with
 |nil=>rfl
 |cons k K=>
  rw[zBb,map_cons,jc,jc];simp only[zOc]
def wbad15(w:Wr R K):zRb ("0" ++ zBb R K):=by
 refine zpk (zIr "0") (λp hp=>?_) λR' h0 hl hr e=>zPm (λz=>by have:=w.rl;rw[z]at this;simp at this) e;rcases List.mem_cons.mp hp with rfl|hp
 ·rw[zR,mem_append];rintro(h|h)
  ·exact absurd h (by decide +kernel)
  ·have:=zDc h;omega
 ·exact zIb (R:=R) (K:=K) p (mem_cons_of_mem _ hp)
def wbad14(w:Wr R K)(hs:(Yo (zBb R K) (some 1) none).cps.toList=(zBb R K).cps.toList.drop 1):zRb ("10" ++ Yo (zBb R K) (some 1) none):=by
 obtain⟨r0,R1,rfl⟩:∃a b,R=a::b:=by
  have:=w.rl
  match R,this with
  |a::b,_=>exact⟨a,b,rfl⟩
 have hr0:=w.rn r0 (by simp)
 have h1:∀n:Nat,(zg (n::R1)).cps.toList=dg n++(if R1=[] then[] else 44::(zg R1).cps.toList):=λn=>by
  cases R1 with
  |nil=>rw[zBe];simp
  |cons m r=>rw[zxe];simp
 have h2:∃L,∀n:Nat,(zBb (n::R1) K).cps.toList=dg n++L:=by
  cases K with
  |nil=>exact⟨_,λn=>(h1 n)⟩
  |cons k K=>exact⟨(if R1=[] then[] else 44::(zg R1).cps.toList)++(("; ":yg).cps.toList++(yY "; " ((k::K).map zE)).cps.toList),λn=>by rw[zBb,zQ,map_cons,zeb,h1 n,append_assoc]⟩
 obtain⟨L,hL⟩:=h2
 have e:"10" ++ Yo (zBb (r0::R1) K) (some 1) none=zBb (10::R1) K:=zJf (by
  rw[zR,hs,hL,hL,zVh (by omega)];have:dg 10=[49,48]:=by decide +kernel
  rw[this];rfl)
 rw[e];refine zNh rfl (by simp) zIb λR' K' w' e=>?_;rw[yV]at e
 have:=z2b (a:=10::R1) (b:=R') (by simp) (λz=>by have:=w'.rl;rw[z]at this;simp at this) (λn hn=>Ts (by
  rcases List.mem_cons.mp hn with rfl|hn
  ·omega
  ·have:=w.rn n (mem_cons_of_mem _ hn);omega)) (λn hn=>Ts (by have:=w'.rn n hn;omega)) e.1
 have:=w'.rn 10 (by rw[<-this];simp);omega
end
def zfo(t:List Nat):∀n,(Yp n).filterMap (t[·]?)=t.take n
 |0=>rfl
 |n+1=>by
  rw[List.range_succ,List.filterMap_append,zfo t n,List.take_succ];cases h:t[n]?<;>simp[h]
def slice1(h:1<=x.length):(Yo x (some 1) none).cps.toList=x.cps.toList.drop 1:=by
 have hi:PySem.Builtin.Str.strSliceIndices (some 1) none 1 x.length=(Yp (x.length-1)).map (· + 1):=by
  unfold PySem.Builtin.Str.strSliceIndices PySem.sliceRange;simp only[show(1:Int)>0 by decide,if_true,show ¬((1:Int)<0) by decide,if_false,Int.ediv_one];have e1:max (0:Int) (min 1 (x.length:Int))=1:=by omega
  rw[e1]
  have e2:(if(1:Int)<(x.length:Int) then(x.length:Int)-1+1-1 else 0).toNat=x.length-1:=by
   split<;>omega
  rw[e2];refine map_congr_left λk _=>?_;omega
 have hx:x.cps.toList.length=x.length:=rfl;unfold Yo;rw[hi,if_neg (by simp;omega)];show((List.map (· + 1) (Yp (x.length-1))).filterMap (x.cps[·]?))=_;rw[List.filterMap_map]
 have e3:((x.cps[·]?)∘(· + 1):Nat->Option Nat)=λk=>(x.cps.toList.drop 1)[k]?:=by
  funext k
  rw[List.getElem?_drop,Nat.add_comm 1 k];simp
 rw[e3,zfo];exact xm (by rw[length_drop,hx];omega)
section
variable {J:M.Loc}{O:Mem}{R:List D->Mem->Prop}{n:Nat}{a c:yg}{α:FA}{nx bk ct:M.Loc->Mem->Prop}{rt:D->Mem->Prop}
def zig(h:J[n]?=some (some (.str a)))(hl:a.length+c.length<=1000000)(q:WA α J O λxs O2=>R (.str (a++c)::xs) O2):WA (zd (zw zH (zk n) (fC (.str c))) α) J O R:=zb (zz (zf h (w_c (z3d hl q))))
def zxp(h:J[n]?=some (some (.str a)))(hl:c.length+a.length<=1000000)(q:WA α J O λxs O2=>R (.str (c++a)::xs) O2):WA (zd (zw zH (fC (.str c)) (zk n)) α) J O R:=zb (zz (w_c (zf h (z3d hl q))))
def zLm{xs:List D}(hv:J[n]?=some (some (.loc l)))(hl:O[l]?=some (.lst xs))(h:WA α J O λds O1=>tq O O1/\xs.length+ds.length<=1000000/\∀l2 O2,tq O O2->O2[l2]?=some (.lst (xs++ds))->nx (J.set n (some (.loc l2))) O2):WS (zlc n (zw z7f (zk n) (z4f α))) J O nx rt bk ct:=by
 obtain⟨ds,O1,e,k,hn,q⟩:=h;exact zac (zz (zf hv (zgg ⟨ds,O1,e,zxm (k.to _ _ hl) tm hn (q _ _ (k.to.to) tm)⟩)))
def TQ(ds:List D):Prop:=∀d∈ds,∃s,d=.str s/\Rd s/\zRb s
def TQ.cons(h:Rd s)(n:zRb s)(r:TQ ds):TQ (.str s::ds):=λd hd=>by
 rcases List.mem_cons.mp hd with rfl|hd
 ·exact⟨s,rfl,h,n⟩
 ·exact r d hd
def TQ.nil:TQ []:=λd hd=>by cases hd
def TQ.app{a b:List D}(h:TQ a)(k:TQ b):TQ (a++b):=λd hd=>by
 rcases List.mem_append.mp hd with hd|hd
 ·exact h d hd
 ·exact k d hd
end
def Wr.rd(w:Wr R K):Low (zBb R K)/\(zBb R K).length<=5000:=by
 refine⟨tE.mpr λc hc=>by have:=zcm w hc;omega,?_⟩;have h1:=w.kl;have h2:=zeg (z:="; ") w.short (by decide) (by rw[length_cons,length_map];omega) (by decide);rw[length_cons,length_map]at h2;have h3:("; ":yg).length=2:=rfl;rw[h3]at h2;exact yq h2 (by omega)
def beyond :∀n:Nat,n<=10->atI ("abcdefghijk":yg).cps.toList (n:Int)=some (97+n):=by
 have:∀n:Nat,n<11->atI ("abcdefghijk":yg).cps.toList (n:Int)=some (97+n):=by decide +kernel
 exact λn h=>this n (by omega)
def z8p{n:Int}(h:1<=z.length/\z.length<=100/\2<=n/\n<=100)(q:Q (.str (z8j z n.toNat)) O):W2 zrk (.str z) (.int n) O Q:=⟨_,_,by simp only[zrk];rw[decide_eq_true h];rfl,q⟩
def zQp(h:R.length<=10)(hr:∀r∈R,r<100000):Low (zg R)/\(zg R).length<=60:=⟨tE.mpr λc hc=>by have:=zDc hc;omega,zBf h hr⟩
def zso(w:Wr R K)(q:∀l ds O',tq O O'->O'[l]?=some (.lst ds)->ds.length=26->TQ ds->Q (.loc l) O'):WF z5c [wn R K,.str (zBb R K)] O Q:=by
 obtain⟨lo,ln⟩:=w.rd;obtain⟨lo0,ln0⟩:=zQp w.rl.2 w.num;have ta:∀{c:yg},c.length<=1000->(zBb R K).length+c.length<=1000000:=λh=>by omega
 have tb:∀{c:yg},c.length<=1000->c.length+(zBb R K).length<=1000000:=λh=>by omega
 have ra:∀{c:yg},(∀x∈c.cps.toList,x<128)->c.length<=1000->Rd (zBb R K++c):=λh h2=>Rd.app lo (tE.mpr h) (by omega);have rb:∀{c:yg},(∀x∈c.cps.toList,x<128)->c.length<=1000->Rd (c++zBb R K):=λh h2=>Rd.app (tE.mpr h) lo (by omega);have rf:∀{c:yg},(∀x∈c.cps.toList,x<128)->c.length<=1000->Rd (zg R++c):=λh h2=>Rd.app lo0 (tE.mpr h) (by omega);have hlt:(lt R.length).length=1:=rfl;refine zNc rfl ?_;show WS zad [some (wn R K),some (.str (zBb R K)),none,none,none,none] O _ _ _ _;unfold zad;refine zB (zac (zm (zb (zz (zf rfl (w_c (ztk rfl rfl (zl (zVm rfl ?_)))))))));have e0:((nat R).length:Int)=(R.length:Int):=by rw[length_map]
 rw[e0];refine zB (zac (zz (w_c (zf rfl (z2p (by decide) (beyond R.length w.rl.2) ?_)))));refine zB (zac (zz (zSb (zf rfl ⟨_,rfl,zb (w_c (zl (zFg (ds:=.str (zg R)::(K.map zE).map D.str) ?_ (by omega) (by decide) (w_c (ztk (zF tm) (z9g (j:=0) (v:=.str (zg R)) rfl) ?_)))))⟩))))
 ·rw[zJ (c:=59) (y':=[32]) (by decide +kernel) (by decide +kernel) (by simp) zIb];rfl
 generalize hμ:O++[tI.lst (D.str (zg R)::(K.map zE).map D.str)]=O1;have k1:tq O O1:=hμ▸.app;refine zB (zac (zgg (zig rfl (ta (by decide)) (zig rfl (ta (by decide)) (zig rfl (ta (by decide)) (zig rfl (ta (by decide)) (zb (zz (zz (zf rfl (w_c (z3d (ta (by decide)) (zf rfl (z3d ?_ (zig rfl (ta (by decide)) (zl ?_))))))))))))))))
 ·rw[YM,hlt];have:("; a ":yg).length=4:=rfl;omega
 have a1:TQ [.str (zBb R K ++ ";"),.str (zBb R K ++ "; "),.str (zBb R K ++ "; a"),.str (zBb R K ++ "; a a a a"),.str (zBb R K ++ "; a " ++ lt R.length),.str (zBb R K ++ "; A a")]:=by
  refine .cons (ra (by decide +kernel) (by decide)) wbad1 (.cons (ra (by decide +kernel) (by decide)) wbad2 (.cons (ra (by decide +kernel) (by decide)) (wbad3 w) (.cons (ra (by decide +kernel) (by decide)) (wbad4 w) (.cons ?_ (wbad5 w) (.cons (ra (by decide +kernel) (by decide)) wbad6 .nil)))));refine Rd.app (ra (by decide +kernel) (by decide)).low (tE.mpr λc hc=>?_) ?_
  ·have:c=97+R.length:=by simpa using hc
   have:=w.rl;omega
  ·rw[YM,hlt];have:("; a ":yg).length=4:=rfl;omega
 generalize hμ2:O1++[tI.lst _]=O2;have k2:tq O1 O2:=hμ2▸.app;have g2:O2[O1.length]?=some (.lst [.str (zBb R K ++ ";"),.str (zBb R K ++ "; "),.str (zBb R K ++ "; a"),.str (zBb R K ++ "; a a a a"),.str (zBb R K ++ "; a " ++ lt R.length),.str (zBb R K ++ "; A a")]):=hμ2▸tm;clear hμ hμ2;refine zB (zLm rfl g2 (zig rfl (ta (by decide)) (zig rfl (ta (by decide)) (zig rfl (ta (by decide)) (zig rfl (ta (by decide)) (zig rfl (ta (by decide)) (zl ⟨.refl,by simp,λl3 O3 k3 g3=>?_⟩)))))));have a2:=a1.app (.cons (ra (by decide +kernel) (by decide)) (wbad7 w) (.cons (ra (by decide +kernel) (by decide)) wbad8 (.cons (ra (by decide +kernel) (by decide)) wbad9 (.cons (ra (by decide +kernel) (by decide)) (wbad10 w) (.cons (ra (by decide +kernel) (by decide)) (wbad11 w) .nil)))));refine zB (zLm rfl g3 (zig rfl (ta (by decide)) (zb (zz (zf rfl (zz (w_c (w_c (z8p (by decide) (z3d ?_ (zl ⟨.refl,by simp,λl4 O4 k4 g4=>?_⟩)))))))))))
 ·have:(z8j "; a a" (31:Int).toNat).length=155:=by decide +kernel
  omega
 have a3:=a2.app (.cons (ra (by decide +kernel) (by decide)) (wbad12 w) (.cons (rf (c:=z8j "; a a" 31) (by decide +kernel) (by decide +kernel)) wbad13 .nil));have s1:(Yo (zBb R K) (some 1) none).length<=(zBb R K).length:=Txt.slice_le _ _ _;have h10:("10":yg).length=2:=rfl
 have h1:1<=(zBb R K).length:=by
  obtain⟨L,hL⟩:=zsk R K;have:(zBb R K).length=(zBb R K).cps.toList.length:=rfl;rw[this,hL,length_append];have:=zTf (ns:=R) (λz=>by have:=w.rl;rw[z]at this;simp at this);have:=List.length_pos_iff.mpr this;omega
 refine zB (zLm rfl g4 (zb (zz (w_c (zEl (zf rfl (zsf (w_c ⟨_,rfl,zxi ⟨_,rfl,by omega,z3d (by omega) (zxp rfl (tb (by decide)) (zxp rfl (tb (by decide)) ?_))⟩⟩))))))));refine zb (zz (zSb (w_c ⟨_,rfl,zb (zz (zgg (zb (w_c (zl (w_c (zcs tm (by decide) (by decide) (by decide) (zl (zsg (ys:=yl 11 "1") ?_ (by decide +kernel) (w_c (z3d (by decide +kernel) ?_)))))))))))⟩)))
 ·exact tm
 refine zb (w_c (zb (w_c (zig rfl (by have:(",; a a":yg).length=6:=rfl;omega) (zl ⟨.trans .app .app,by simp,λl5 O5 k5 g5=>?_⟩)))));have a4:=a3.app (.cons (Rd.app (tE.mpr (by decide +kernel)) (zZk lo) (by omega)) (wbad14 w (slice1 h1)) (.cons (rb (by decide +kernel) (by decide)) (wbad15 w) (.cons (rb (by decide +kernel) (by decide)) wbad16 (.cons (s:=yv "," (yl 11 "1") ++ "; a a") ⟨tE.mpr (by decide +kernel),by decide +kernel⟩ wbad17 (.cons (s:="; a a") ⟨tE.mpr (by decide +kernel),by decide⟩ wbad18 (.cons (s:="") ⟨tE.mpr (by decide +kernel),by decide⟩ wbad19 (.cons (rf (by decide +kernel) (by decide)) wbad20 .nil)))))));refine zB (zLm rfl g5 (zxp rfl (tb (by decide)) (zig rfl (ta (by decide)) (zig rfl (ta (by decide)) (zig rfl (ta (by decide)) (zxp rfl (tb (by decide)) (zig rfl (ta (by decide)) (zl ⟨.refl,by simp,λl6 O6 k6 g6=>?_⟩))))))));have a5:=a4.app (.cons (rb (by decide +kernel) (by decide)) wbad21 (.cons (ra (by decide +kernel) (by decide)) wbad22 (.cons (ra (by decide +kernel) (by decide)) (wbad23 w) (.cons (ra (by decide +kernel) (by decide)) wbad24 (.cons (rb (by decide +kernel) (by decide)) wbad25 (.cons (ra (by decide +kernel) (by decide)) (wbad26 w) .nil))))));exact zUb (zf rfl (q _ _ _ (k1.trans (k2.trans (k3.trans (k4.trans (k5.trans k6))))) g6 (by simp) a5))
structure Sh(j:Nat)(a:yg):Prop where
 lo:Low a
 le:a.length<=1000*j
def Sh.app{j k:Nat}(h:Sh j a)(g:Sh k b):Sh (j+k) (a++b):=by
 refine⟨tE.mpr λc hc=>?_,by rw[YM];have:=h.le;have:=g.le;omega⟩;rw[zR,mem_append]at hc;rcases hc with hc|hc
 ·exact tE.mp h.lo c hc
 ·exact tE.mp g.lo c hc
def Sh.rd{j:Nat}(h:Sh j a)(hj:j<=100):Rd a:=⟨h.lo,by have:=h.le;omega⟩
def Sh.join(hz:Low z)(hz2:z.length<=2)(h:∀y∈ys,Low y/\y.length<=60)(hl:ys.length<=31):Sh 5 (yv z ys):=by
 refine⟨tE.mpr λc hc=>?_,?_⟩
 ·rw[zQ]at hc;rcases zgc hc with hc|⟨y,hy,hc⟩
  ·exact tE.mp hz c hc
  ·exact tE.mp (h y hy).1 c hc
 ·have h1:=zeg (z:=z) (λy hy=>(h y hy).2) (by decide) (by omega) (by omega);have h2:=xh hl (yo 60);have h3:=xh hl hz2;omega
def z6k{z z':yg}(h:z.length=z'.length):∀ys:List yg,(yY z ys).length=(yY z' ys).length
 |[]=>rfl
 |[y]=>rfl
 |y::y2::r=>by
  have e:∀x:yg,x.length=x.cps.toList.length:=λ_=>rfl;have ih:=z6k h (y2::r);rw[e,e]at ih ⊢;rw[e,e]at h;rw[zeb,zeb,length_append,length_append,length_append,length_append,ih,h]
def Sh.replace{j:Nat}{T:yg}(h:Sh j T):Sh j (Txt.replace T "," ";"):=by
 have e:=StrLaws.replace_one T ";" 44;have e44:(",":yg)=⟨#[44]⟩:=by decide +kernel
 rw[e44,e];have hj:=Yu T ⟨#[44]⟩;refine⟨tE.mpr λc hc=>?_,?_⟩
 ·rcases zgc hc with hc|⟨y,hy,hc⟩
  ·have:∀c∈(";":yg).cps.toList,c<128:=by decide +kernel
   exact this c hc
  ·refine tE.mp h.lo c ?_;rw[<-hj];exact zrf hy hc
 ·rw[z6k (z:=";") (z':=⟨#[44]⟩) rfl,hj];exact h.le
structure TS(G:FE)(J:M.Loc)(j:Nat)(a:yg):Prop where
 ev:∀{O:Mem} {Q:D->Mem->Prop},Q (.str a) O->WE G J O Q
 sh:Sh j a
section
variable {J:M.Loc}{G ψ:FE}{j k n:Nat}{a b c:yg}{O:Mem}
def TS.var(h:J[n]?=some (some (.str a)))(s:Sh j a):TS (zk n) J j a:=⟨λq=>zf h q,s⟩
def shc(h:∀x∈c.cps.toList,x<128)(h2:c.length<=1000):Sh 1 c:=⟨tE.mpr h,h2⟩
def TS.cc(h:∀x∈c.cps.toList,x<128:=by decide +kernel)(h2:c.length<=1000:=by decide):TS (fC (.str c)) J 1 c:=⟨λq=>w_c q,shc h h2⟩
def TS.add(h:TS G J j a)(g:TS ψ J k b)(hj:j+k<=100:=by decide):TS (zw zH G ψ) J (j+k) (a++b) :=
 ⟨λq=>zz (h.ev (g.ev (z3d (by have:=h.sh.le;have:=g.sh.le;omega) q))),h.sh.app g.sh⟩
def TS.mul{m:Nat}(h:1<=c.length/\c.length<=100/\2<=(m:Int)/\(m:Int)<=100:=by decide)(h1:∀x∈(z8j c m).cps.toList,x<128:=by decide +kernel)(h2:(z8j c m).length<=1000:=by decide +kernel):TS (zw zrk (fC (.str c)) (fC (.int (m:Int)))) J 1 (z8j c m) :=
 ⟨λq=>zz (w_c (w_c (z8p h q))),shc h1 h2⟩
def TS.repl(h:TS G J j a)(hj:j<=100):TS (z9n "," ";" G) J j (Txt.replace a "," ";"):=by
 refine⟨λ{O Q} q=>?_,h.sh.replace⟩;obtain⟨x,O1,e,hx,rfl⟩:=h.ev (O:=O) (Q:=λx m=>x=.str a/\m=O) ⟨rfl,rfl⟩;have hl:a.length<=100000:=by have:=h.sh.le;omega
 exact⟨_,_,by simp only[z9n,e,hx,yi,decide_eq_true hl,cond_true],q⟩
def TR(ds:List D):Prop:=∀d∈ds,∃s,d=.str s/\Rd s/\tF s
def TR.app{a b:List D}(h:TR a)(k:TR b):TR (a++b):=λd hd=>by
 rcases List.mem_append.mp hd with hd|hd
 ·exact h d hd
 ·exact k d hd
def WB(α:FA)(J:M.Loc)(O0:Mem)(m:Nat):Prop:=∀O,tq O0 O->WA α J O λds O1=>tq O O1/\ds.length=m/\TR ds
def WB.nil:WB zx J O 0:=λO1 _=>zl ⟨.refl,rfl,λd hd=>by cases hd⟩
def WB.el{m:Nat}(h:∀O1,tq O O1->WE G J O1 λd O2=>tq O1 O2/\∃s,d=.str s/\Rd s/\tF s)(r:WB α J O m):WB (zd G α) J O (m+1):=λO1 k1=>by
 refine zb ?_;obtain⟨d,O2,e,k2,s,rfl,hs,hn⟩:=h O1 k1;refine⟨_,O2,e,?_⟩;obtain⟨ds,O3,e3,k3,hl,ha⟩:=r O2 (k1.trans k2);refine⟨ds,O3,e3,k2.trans k3,by rw[length_cons,hl],λd hd=>?_⟩;rcases List.mem_cons.mp hd with rfl|hd
 ·exact⟨s,rfl,hs,hn⟩
 ·exact ha d hd
def WB.t{m:Nat}(t:TS G J j a)(n:tF a)(r:WB α J O m)(hj:j<=100:=by decide):WB (zd G α) J O (m+1):=WB.el (λO1 _=>t.ev ⟨.refl,a,rfl,t.sh.rd hj,n⟩) r
def WB.jn{m:Nat}(t:TS G J j a)(u:TS ψ J k b)(hz:z.length<=10)(n:tF (yv z [a,b]))(s:Sh 50 (yv z [a,b]))(hjk:j+k<=100)(r:WB α J O m):WB (zd (zEb znf (fC (.str z)) (zd (z4f (zd G (zd ψ zx))) zx)) α) J O (m+1) :=
 WB.el (λO1 _=>zSb (w_c ⟨_,rfl,zb (zgg (zb (t.ev (zb (u.ev (zl (zl (zsg (ys:=[a,b]) tm (by
  have:=t.sh.le;have:=u.sh.le;simp only[map_cons,map_nil,List.sum_cons,List.sum_nil,length_cons,List.length_nil];omega) ⟨.app,_,rfl,s.rd (by decide),n⟩))))))))⟩)) r
variable {nx bk ct:M.Loc->Mem->Prop}{rt:D->Mem->Prop}
def z6j{m:Nat}{xs:List D}(hv:J[n]?=some (some (.loc l)))(hl:O[l]?=some (.lst xs))(hx:TR xs)(hm:xs.length+m<=1000)(h:WB α J O m)(q:∀l2 ys O2,tq O O2->O.length<=l2->O2[l2]?=some (.lst ys)->ys.length=xs.length+m->TR ys->nx (J.set n (some (.loc l2))) O2):WS (zlc n (zw z7f (zk n) (z4f α))) J O nx rt bk ct:=by
 obtain⟨ds,O1,e,k,hn,ha⟩:=h O .refl;refine zac (zz (zf hv (zgg ⟨ds,O1,e,zxm (k.to _ _ hl) tm (by omega) (q _ (xs++ds) _ (k.to.to) ?_ tm (by rw[length_append,hn]) (hx.app ha))⟩)));have:=k.len;rw[length_append];omega
end
def zZs{gs:FGs}{P:M.Loc->Mem->Prop}{a b:D}(e:O[l]?=some (.lst [a,b]))(h:WGs gs [a,b] J O P):WG (gTL 2 gs) (.loc l) J O P:=by
 obtain⟨J1,O1,e1,q⟩:=h;refine⟨J1,O1,?_,q⟩;unfold gTL;dsimp only;rw[e];exact e1
def Rl.shs{W:List (List Nat)}(w:Rl R W):∀y∈zg R::W.map zg,Low y/\y.length<=60:=λy hy=>⟨tE.mpr λc hc=>by have:=z0f hy hc;omega,w.short y hy⟩
def zRm{R:List Nat}{W:List (List Nat)}{d0:D}{O:Mem}{Q:D->Mem->Prop}(w:Rl R W)(q:∀l ds O',tq O O'->O'[l]?=some (.lst ds)->ds.length=25->TR ds->Q (.loc l) O'):WF zKc [d0,.str (zY R W)] O Q:=by
 have lw:=w.wl;have sT:Sh 5 (zY R W):=Sh.join (by decide +kernel) (by decide) w.shs (by rw[length_cons,length_map];omega);have sB:Sh 5 (yv "," (zg R::W.map zg)):=Sh.join (by decide +kernel) (by decide) w.shs (by rw[length_cons,length_map];omega);have sR:Sh 5 (zmd W):=Sh.join (by decide +kernel) (by decide) (λy hy=>w.shs y (mem_cons_of_mem _ hy)) (by rw[length_map];omega);have sF:Sh 1 (zg R):=⟨(w.shs _ (by simp)).1,by have:=(w.shs (zg R) (by simp)).2;omega⟩
 have sN:∀y∈R.map num,Low y/\y.length<=60:=λy hy=>by
  have hm:∀c∈y.cps.toList,c∈(zg R).cps.toList:=λc hc=>by rw[zg,zQ];exact zrf hy hc
  refine⟨tE.mpr λc hc=>tE.mp sF.lo c (hm c hc),?_⟩;obtain⟨n,hn,rfl⟩:=List.mem_map.mp hy;have:=(zAn (w.num n hn)).2;omega
 have sS:Sh 5 (yv ";" (R.map num)):=Sh.join (by decide +kernel) (by decide) sN (by rw[length_map];have:=w.rl;omega);obtain⟨a,b,r,hW⟩:=w.two;have ha:a∈W:=by rw[hW];simp
 have sA:Sh 1 (zg a):=by
  have hm:zg a∈zg R::W.map zg:=mem_cons_of_mem _ (List.mem_map.mpr ⟨a,ha,rfl⟩);exact⟨(w.shs _ hm).1,by have:=(w.shs _ hm).2;omega⟩
 have c2:cutD ((zg R::W.map zg).map D.str) none (some 2)=[.str (zg R),.str (zg a)]:=by
  rw[hW]at lw ⊢
  match r,lw with
  |[],_=>rfl
  |[c],_=>rfl
  |_::_::_,h=>simp at h
 have c1:cutD ((zg R::W.map zg).map D.str) (some 1) none=(W.map zg).map D.str:=by
  rw[hW]at lw ⊢
  match r,lw with
  |[],_=>rfl
  |[c],_=>rfl
  |_::_::_,h=>simp at h
 have sp:yx (zY R W) " "=zg R::W.map zg:=zJ (c:=32) (y':=[]) (by decide +kernel) (by decide +kernel) (by simp) zzc
 have sq:yx (zg R) ","=R.map num:=zJ (c:=44) (y':=[]) (by decide +kernel) (by decide +kernel) (λz=>by have:=w.rl;rw[List.map_eq_nil_iff]at z;rw[z]at this;simp at this) λp hp hc=>by
  obtain⟨n,hn,rfl⟩:=List.mem_map.mp hp;have h1:zg [n]=num n:=rfl;have h2:=Tt [n] (by simp);rw[h1]at h2;have:=List.count_pos_iff.mpr hc;rw[List.length_singleton]at h2;omega
 have lT:=sT.le;have lF:=sF.le;refine zNc rfl ?_;show WS zBc [some d0,some (.str (zY R W)),none,none,none,none,none,none] O _ _ _ _;unfold zBc;refine zB (zac (zSb (zf rfl ⟨_,rfl,zb (w_c (zl (zFg (congrArg _ sp) (by omega) (by decide) ?_)))⟩)));generalize hμ1:O++[tI.lst _]=O1;have k1:tq O O1:=hμ1▸.app;have g1:O1[O.length]?=some (.lst ((zg R::W.map zg).map D.str)):=hμ1▸tm;have n1:O1.length=O.length+1:=by rw[<-hμ1];simp
 clear hμ1;refine zB (zms (z5q (zf rfl (zxi (zsf (w_c ⟨_,rfl,_,_,rfl,g1,zZs (tm.trans (congrArg (λx=>some (tI.lst x)) c2)) (zxr (zOi (zxr (zOi (z9r ?_)))))⟩))))));generalize hμ2:O1++[tI.lst _]=O2;have k2:tq O1 O2:=hμ2▸.app;clear hμ2;refine zB (zac (zSb (w_c ⟨_,rfl,zb (z5q (zf rfl (zsf (w_c ⟨_,rfl,zxi ⟨_,_,rfl,k2 _ _ g1,zl (zsg (ys:=W.map zg) (tm.trans (congrArg (λx=>some (tI.lst x)) c1)) (P.fit (B:=60) (λy hy=>w.short y (mem_cons_of_mem _ hy)) (by decide) (by rw[length_map];omega) (by decide)) ?_)⟩⟩))))⟩)));generalize hμ3:O2++[tI.lst _]=O3;have k3:tq O2 O3:=hμ3▸.app;clear hμ3;refine zB (zac (zSb (zf rfl ⟨_,rfl,zb (w_c (zl (zFg (congrArg _ sq) (by omega) (by decide) ?_)))⟩)));generalize hμ4:O3++[tI.lst _]=O4;have k4:tq O3 O4:=hμ4▸.app;have g4:O4[O3.length]?=some (.lst ((R.map num).map D.str)):=hμ4▸tm;clear hμ4;have gb:O4[O.length]?=some (.lst ((zg R::W.map zg).map D.str)):=k4 _ _ (k3 _ _ (k2 _ _ g1));have kk:tq O O4:=k1.trans (k2.trans (k3.trans k4));have T:∀{J:M.Loc},J[1]?=some (some (.str (zY R W)))->TS (zk 1) J 5 (zY R W):=λh =>.var h sT;have F:∀{J:M.Loc},J[3]?=some (some (.str (zg R)))->TS (zk 3) J 1 (zg R):=λh =>.var h sF;have A:∀{J:M.Loc},J[4]?=some (some (.str (zg a)))->TS (zk 4) J 1 (zg a):=λh =>.var h sA;have V:∀{J:M.Loc},J[5]?=some (some (.str (zmd W)))->TS (zk 5) J 5 (zmd W):=λh =>.var h sR
 have lst0:∀{α:FA} {J:M.Loc} {O:Mem} {m:Nat} {nx bk ct:M.Loc->Mem->Prop} {rt:D->Mem->Prop},WB α J O m->(∀l2 ys O2,tq O O2->O2[l2]?=some (.lst ys)->ys.length=m->TR ys->nx (J.set 7 (some (.loc l2))) O2)->WS (zlc 7 (z4f α)) J O nx rt bk ct:=λ{α J O m nx bk ct rt} h q=>by
  obtain⟨ds,O1,e,k,hn,ha⟩:=h O .refl;exact zac (zgg ⟨ds,O1,e,q _ ds _ k.to tm hn ha⟩)
 refine zB (lst0 (.t (((F rfl).add .cc).add (V rfl)) (bad1 w) (.t (((TS.add .cc (F rfl)).add .cc).add (V rfl)) (bad2 w) (.t (((TS.add .cc (F rfl)).add .cc).add (V rfl)) (bad3 w) (.t (TS.add .cc (V rfl)) (bad4 w) (.t (TS.add .cc (V rfl)) (bad5 w) .nil))))) λl5 xs5 O5 k5 g5 n5 a5=>?_)
 have j2:∀{x:yg} {k:Nat},Sh k x->k<=40->Sh 50 (yv " " [x,zmd W]):=λ{x k} s hk=>by
  have e:yv " " [x,zmd W]=x ++ " " ++ zmd W:=by rw[jc];rfl
  have s1:Sh 1 (" ":yg):=shc (by decide +kernel) (by decide);have h:=(s.app s1).app sR;rw[e];exact⟨h.lo,yq h.le (by omega)⟩
 have t6:∀{J:M.Loc},TS (zw zH (zw zrk (fC (.str "1,")) (fC (.int 10))) (fC (.str "1"))) J (1+1) (z8j "1," 10 ++ "1"):=λ{J}=>(TS.mul (m:=10)).add .cc;refine zB (z6j rfl g5 a5 (by omega) (.jn t6 (V rfl) (by decide) (bad6 w) (j2 (t6 (J:=[])).sh (by decide)) (by decide) (.t (F rfl) bad7 (.t (((F rfl).add .cc).add (A rfl)) bad8 (.t ((T rfl).add .cc) (bad9 w) (.t (TS.add .cc (T rfl)) (bad10 w) (.t ((T rfl).add .cc) (bad11 w) .nil)))))) λl6 xs6 O6 k6 o6 g6 n6 a6=>?_);refine zB (z6j rfl g6 a6 (by omega) (.t (((F rfl).add .cc).add (V rfl)) (bad12 w) (.t (((((F rfl).add .cc).add (A rfl)).add .cc).add (V rfl)) (bad13 w ha) (.t ((T rfl).add .cc) (bad14 w) (.t ((T rfl).add .cc) (bad15 w) .nil)))) λl7 xs7 O7 k7 o7 g7 n7 a7=>?_);have t16:∀{J:M.Loc},J[1]?=some (some (.str (zY R W)))->TS (zw zH (zk 1) (fC (.str " 3,-0"))) J (5+1) (zY R W ++ " 3,-0"):=λh=>(T h).add .cc;refine zB (zAq (z9p (zf rfl ⟨_,_,rfl,g7,zb ((t16 rfl).ev (zl (z4j g7 (by omega) ?_)))⟩)));have g8:=zFe (o':=tI.lst (xs7++[.str (zY R W ++ " 3,-0")])) g7;have o8:O4.length<=l7:=yq k5.len (yq k6.len o7);have k8:tq O4 (O7.set l7 (tI.lst (xs7++[.str (zY R W ++ " 3,-0")]))):=λn o h=>zVf ((k5.trans (k6.trans k7)) n o h) (by have:=zGc h;omega);have a8:TR (xs7++[.str (zY R W ++ " 3,-0")]):=a7.app λd hd=>⟨_,List.mem_singleton.mp hd,(t16 (J:=[none,some (.str (zY R W))]) rfl).sh.rd (by decide),bad16⟩
 have n8:(xs7++[D.str (zY R W ++ " 3,-0")]).length=16:=by rw[length_append,n7,n6,n5];rfl
 generalize O7.set l7 (tI.lst (xs7++[.str (zY R W ++ " 3,-0")]))=O8 at *;generalize xs7++[D.str (zY R W ++ " 3,-0")]=xs8 at *;refine zB (z6j rfl g8 a8 (by omega) (.t ((F rfl).add .cc) bad17 (.t ((((T rfl).add .cc).add (TS.mul (m:=60))).add .cc) (bad18 w) (.t ((F rfl).add .cc) bad19 (.el (λO9 k9=>zSb (w_c ⟨_,rfl,zb (zf rfl (zl (zsg (ys:=zg R::W.map zg) (k9 _ _ (k8 _ _ gb)) (P.fit (B:=60) w.short (by decide) (by rw[length_cons,length_map];omega) (by decide)) ⟨.refl,_,rfl,sB.rd (by decide),bad20⟩)))⟩)) (.t TS.cc bad21 .nil))))) λl9 xs9 O9 k9 o9 g9 n9 a9=>?_)
 have t24:∀{m:Nat} {α:FA} {J:M.Loc},J[6]?=some (some (.loc O3.length))->J[5]?=some (some (.str (zmd W)))->WB α J O9 m->WB (zd (zEb znf (fC (.str " ")) (zd (z4f (zd (zw zH (zEb znf (fC (.str ";")) (zd (zk 6) zx)) (fC (.str ";"))) (zd (zk 5) zx))) zx)) α) J O9 (m+1):=λ{m α J} h6 h5 r=>by
  have s1:Sh 1 (";":yg):=shc (by decide +kernel) (by decide);have l1:=(sS.app s1).le;have l2:=sS.le;have l3:=sR.le;have l4:(";":yg).length=1:=rfl;refine .el (λO1 k1=>zSb (w_c ⟨_,rfl,zb (zgg (zb (zz (zSb (w_c ⟨_,rfl,zb (zf h6 (zl (zsg (ys:=R.map num) (k1 _ _ (k9 _ _ (k8 _ _ g4))) (P.fit (B:=60) (λy hy=>(sN y hy).2) (by decide) (by rw[length_map];have:=w.rl;omega) (by decide)) (w_c (z3d (by omega) (zb (zf h5 (zl (zl (zsg (ys:=[yv ";" (R.map num) ++ ";",zmd W]) tm ?_ ⟨.app,_,rfl,(j2 (sS.app s1) (by decide)).rd (by decide),bad24 w⟩))))))))))⟩)))))⟩)) r;simp only[map_cons,map_nil,List.sum_cons,List.sum_nil,length_cons,List.length_nil];have l5:(" ":yg).length=1:=rfl;omega
 refine zB (z6j rfl g9 a9 (by omega) (.t ((T rfl).repl (by decide)) (bad22 w) (.t ((T rfl).add .cc) (bad23 w) (t24 rfl rfl (.t (TS.add .cc (T rfl)) bad25 .nil)))) λl10 xs10 O10 k10 o10 g10 n10 a10=>?_);exact zUb (zf rfl (q _ _ _ (kk.trans (k8.trans (k9.trans k10))) g10 (by omega) a10))
section
variable {O:Mem}{Q:D->Mem->Prop}{ex:yg->List (yg×D)->Mem->Prop}{d:D}{t:Ty}
def zkj(h:zPn O d=some t)(ht:zoq t .str=false)(q:ex "NoText" [] O):WXr z0b [d] O Q ex:=by
 refine z2i rfl ?_;show WXs zvc [some d] O _ _ _;unfold zvc;exact zDr (zxj (zOb (zm (zb (zf rfl (zb (w_c (zl (zGj (c:=.str) (t:=t) h (by rw[ht];exact⟨_,rfl,λ_=>zKg (zb (w_c (zl q))),λh=>(by cases h)⟩))))))))))
def zgt(h:zPn O d=some t)(ht:zoq t .str=false)(q:ex "NoText" [] O):WXr zpb [d] O Q ex:=by
 refine z2i rfl ?_;unfold zOd;exact zze (zik (zb (zf rfl (zl (zkj h ht q)))))
def zYs(h:zPn O d=some t)(ht:zoq t .str=false)(q:ex "NoText" [] O):WXr ztb [d] O Q ex:=by
 refine z2i rfl ?_;unfold zHe;exact zze (zik (zb (zf rfl (zl (zkj h ht q)))))
structure Way(v:Nat):Prop where
 sg:∀{s:yg} {O:Mem} {Q:D->Mem->Prop},Rd s->(∀O',tq O O'->Q (.bl true) O')->WF zkb [.int (v:Nat),.str s] O Q
 no:∀{d:D} {t:Ty} {O:Mem} {Q:D->Mem->Prop},(∀O1,tq O O1->zPn O1 d=some t)->zoq t .str=false->(∀O',tq O O'->Q (.bl true) O')->WF zU [.int (v:Nat),d] O Q
def way0:Way 0:=⟨λh q=>ztp h q,λh ht q=>zRh (c:="read_rule") (F:=zpb) rfl (by simp only[lookup_cons,beq_self_eq_true]) λO1 k1=>zgt (h O1 k1) ht ⟨rfl,rfl,λO2 k2=>q O2 (k1.trans k2)⟩⟩
def way1:Way 1:=⟨λh q=>zyp h q,λh ht q=>zRh (c:="read_web") (F:=ztb) rfl lookW λO1 k1=>zYs (h O1 k1) ht ⟨rfl,rfl,λO2 k2=>q O2 (k1.trans k2)⟩⟩
variable {R:List Nat}{W:List (List Nat)}{R':List Nat}{W':List (List Nat)}
def z6p(w:Rl R W)(w':Rl R' W')(e:zY R W=zY R' W'):(R,W)=(R',W'):=by
 have sp:∀{R:List Nat} {W:List (List Nat)},yx (zY R W) " "=zg R::W.map zg:=λ{R W}=>zJ (c:=32) (y':=[]) (by decide +kernel) (by decide +kernel) (by simp) zzc;have e2:zg R::W.map zg=zg R'::W'.map zg:=by rw[<-sp,<-sp,e]
 obtain⟨e3,e4⟩:=yd e2;have nr:∀{R:List Nat} {W:List (List Nat)},Rl R W->R≠[]:=λw z=>by have:=w.rl;rw[z]at this;simp at this
 have nw:∀{R:List Nat} {W:List (List Nat)} {k:List Nat},Rl R W->k∈W->k≠[]:=λw h z=>by have:=(w.wn _ h).1;rw[z]at this;simp at this
 have h1:=z2b (nr w) (nr w') (λn hn=>Ts (by have:=w.rn n hn;omega)) (λn hn=>Ts (by have:=w'.rn n hn;omega)) e3
 have h2:W=W':=zgk (f:=zg) (ws:=W.map zg) (by simp) e4 λi p k hp hk k' hk' e=>by
  rw[yO,hk]at hp;cases hp;have hm:=mem_of_getElem? hk;exact z2b (nw w hm) (nw w' hk') (λn hn=>Ts ((w.wn k hm).2 n hn)) (λn hn=>Ts ((w'.wn k' hk').2 n hn)) e
 rw[h1,h2]
def zGq(w:Wr R W)(w':Wr R' W')(e:zBb R W=zBb R' W'):(R,W)=(R',W'):=by
 have sp:∀{R:List Nat} {W:List (List Nat)},yx (zBb R W) "; "=zg R::W.map zE:=λ{R W}=>zJ (c:=59) (y':=[32]) (by decide +kernel) (by decide +kernel) (by simp) zIb;have e2:zg R::W.map zE=zg R'::W'.map zE:=by rw[<-sp,<-sp,e]
 obtain⟨e3,e4⟩:=yd e2;have nr:∀{R:List Nat} {W:List (List Nat)},Wr R W->R≠[]:=λw z=>by have:=w.rl;rw[z]at this;simp at this
 have nw:∀{R:List Nat} {W:List (List Nat)} {k:List Nat},Wr R W->k∈W->k≠[]:=λw h z=>by have:=(w.kn _ h).1;rw[z]at this;simp at this
 have h1:=z2b (nr w) (nr w') (λn hn=>Ts (by have:=w.rn n hn;omega)) (λn hn=>Ts (by have:=w'.rn n hn;omega)) e3
 have h2:W=W':=zgk (f:=zE) (ws:=W.map zE) (by simp) e4 λi p k hp hk k' hk' e=>by
  rw[yO,hk]at hp;cases hp;exact zih (nw w (mem_of_getElem? hk)) (nw w' hk') e
 rw[h1,h2]
def Wr.of28{R:List Int}{K:List (List Int)}(w:WebA 28 R K)(h:∀r∈R,r<=9):wb R K=wn (R.map xi) (K.map (·.map xi))/\Wr (R.map xi) (K.map (·.map xi)):=by
 obtain⟨e,v⟩:=Wb.of w;refine⟨e,v.rl,λr hr=>?_,yq v.kl (by decide),v.kn⟩;obtain⟨i,hi,rfl⟩:=List.mem_map.mp hr;have:=h i hi;omega
variable {ns:List Int}{Rw:List Nat}{K:List (List Nat)}
def zpq{v i:Nat}{s:yg}{as bs ds:List D}{x1 x3 x8 x9:Option D}{L4 L5 b:Nat}{O:Mem}{nx bk ct:M.Loc->Mem->Prop}{rt:D->Mem->Prop}(y:Way v)(hv:v<=1)(hi:i<6)
 (g4:O[L4]?=some (.lst as)) (e4:atI as (v:Nat)=some (.str s)) (lo:Low s) (hl:s.length<=40000)
 (g5:O[L5]?=some (.lst bs)) (e5:atI bs (v:Nat)=some (.loc b)) (gb:O[b]?=some (.lst ds)) (n1:1<=ds.length) (n2:ds.length<=100)
 (hbad:∀d∈ds,∀{O:Mem} {Q:D->Mem->Prop},(∀O',tq O O'->Q (.bl true) O')->WF zU [.int (v:Nat),d] O Q)
 (q:∀x8 x9 O',tq O O'->nx [some (.fz (ns.map .int)),x1,some (wn R W),x3,some (.loc L4),some (.loc L5),some (.int (v:Nat)),some (.int (i:Nat)),x8,x9] O') :
 WS zMl [some (.fz (ns.map .int)),x1,some (wn R W),x3,some (.loc L4),some (.loc L5),some (.int (v:Nat)),some (.int (i:Nat)),x8,x9] O nx rt bk ct:=by
 unfold zMl;refine zB (zac (zm (zb (zf rfl (zb (zz (zz (w_c (zz (w_c (zf rfl (zyt ?_ (zUj (zf rfl (zUj (zl ?_))))))))))))))))
 ·rcases Nat.lt_or_ge v 1 with h|h
  ·obtain rfl:v=0:=by omega
   decide
  ·obtain rfl:v=1:=by omega
   decide
 refine ztn (by omega) (by omega) λO1 k1 p1 len1=>?_;have kp:∀{ν:Mem},KB [O.length] O1 ν->tq O ν:=λk n o h=>k.at_ n o (by have:=zGc h;simp;omega) (k1.keep n o h);have K1:tq O O1:=k1.keep;refine zB (zym (zxj (zOb (zm (zb (zf rfl (zb (zm (zb (zf rfl (zb (zz (zf rfl (zf rfl (ztk (zF (K1 _ _ g4)) e4 (zl ?_))))))))))))))));refine zQq lo hl p1 (by omega) λs' O2 hs' k2 p2=>zl (y.sg hs' λO3 k3=>⟨_,rfl,λh=>(by cases h),λ_=>zif ?_⟩);have p3:Pen O3 O.length (101000+3):=p2.kb (L:=[]) (.of_keep k3) (by simp);have q3:KB [O.length] O1 O3:=k2.trans (.of_keep k3);have K3:=kp q3;refine zB (zym (zOb (zz (zm (zb (zf rfl (zb (zz (zz (zf rfl (zf rfl (ztk (zF (K3 _ _ g5)) e5 (zm (zb (zf rfl (zb (zm (zb (zz (zf rfl (zf rfl (ztk (zF (K3 _ _ g5)) e5 (zl (zVm (zF (K3 _ _ gb)) (zl ?_)))))))))))))))))))))))));refine zLc p3 (by omega) (by omega) (by omega) λc O4 hc k4 p4=>?_;have q4:=q3.trans k4;refine ztk (zF (kp q4 _ _ gb)) (z9g (yG hc)) (zl ?_);refine hbad _ (getElem_mem hc) λO5 k5=>w_c (zLj ⟨_,rfl,λh=>(by cases h),λ_=>zif ?_⟩);have p5:Pen O5 O.length (101000+3+1):=p4.kb (L:=[]) (.of_keep k5) (by simp);have q5:KB [O.length] O1 O5:=q4.trans (.of_keep k5);refine zB (zac (zz (zgg (zb (w_c (zb (w_c (zb (w_c (zb (zgg (zb (zz (zf rfl (zf rfl (ztk (zF (kp q5 _ _ g4)) e4 (zl (zb (zMo (zl (zb (z7s (zb (zf rfl (zl (zm (zb (zf rfl (zb (w_c (zl ?_)))))))))))))))))))))))))))))));generalize hμ6:O5++[tI.lst [D.str s]]++[tI.dct []]++[tI.lst _]=O6;have k6:tq O5 O6:=hμ6▸tq.app.to.to;have ga:O6[O5.length]?=some (.lst [.str s]):=by rw[<-hμ6];exact zfe (zfe tm)
 have gd:O6[(O5++[tI.lst [D.str s]]).length]?=some (.dct []):=by rw[<-hμ6];exact zfe tm
 have gl:O6[(O5++[tI.lst [D.str s]]++[tI.dct []]).length]?=some (.lst [.non,.int 5,.bl true,.loc O5.length,.tup [],.loc (O5++[tI.lst [D.str s]]).length,wn R W]):=by rw[<-hμ6];exact tm
 clear hμ6;have hne:∀{m:Nat},O5.length<=m->m≠O.length:=λh=>by have:=q5.len;omega
 refine zLc (s:=7) (p5.kb (L:=[]) (.of_keep k6) (by simp)) (by omega) (by omega) (by omega) λc O7 hc7 k7 p7=>?_;have a7:=k7.at_ _ _ (by simpa using hne (yo _)) ga;have d7:=k7.at_ _ _ (by simpa using hne (by simp)) gd;have l7:=k7.at_ _ _ (by simpa using hne (by simp)) gl;have K7:tq O O7:=kp ((q5.trans (.of_keep k6)).trans k7)
 obtain⟨d,t,h1,h2,h3⟩:∃d t,[D.non,.int 5,.bl true,.loc O5.length,.tup [],.loc (O5++[tI.lst [D.str s]]).length,wn R W][c]?=some d/\(∀O1,tq O7 O1->zPn O1 d=some t)/\zoq t .str=false:=by
  match c,hc7 with
  |0,_=>exact⟨_,.non,rfl,λ_ _=>rfl,rfl⟩
  |1,_=>exact⟨_,.int,rfl,λ_ _=>rfl,rfl⟩
  |2,_=>exact⟨_,.bl,rfl,λ_ _=>rfl,rfl⟩
  |3,_=>exact⟨_,.lst,rfl,λ_ k=>by simp only[zPn,k _ _ a7],rfl⟩
  |4,_=>exact⟨_,.tup,rfl,λ_ _=>rfl,rfl⟩
  |5,_=>exact⟨_,.dict,rfl,λ_ k=>by simp only[zPn,k _ _ d7],rfl⟩
  |6,_=>exact⟨_,.tup,rfl,λ_ _=>rfl,rfl⟩
  |n+7,h=>omega
 exact ztk (zF l7) (z9g h1) (zym (zOb (zz (zm (zb (zf rfl (zb (zf rfl (zl (y.no h2 h3 λO8 k8=>w_c (zLj ⟨_,rfl,λh=>(by cases h),λ_=>zif (q _ _ _ (K7.trans k8))⟩)))))))))))
end
def askR{d:D}(h:∃s,d=.str s/\Rd s/\tF s)(q:∀O',tq O O'->Q (.bl true) O'):WF zU [.int ((0:Nat):Int),d] O Q:=by
 obtain⟨s,rfl,hr,hn⟩:=h;exact zml hr (λR W O' w e _=>absurd ⟨R,W,w,e⟩ hn) λO' _ k=>q O' k
def askW{d:D}(h:∃s,d=.str s/\Rd s/\zRb s)(q:∀O',tq O O'->Q (.bl true) O'):WF zU [.int ((1:Nat):Int),d] O Q:=by
 obtain⟨s,rfl,hr,hn⟩:=h;exact z3k hr (λR W O' w e _=>absurd ⟨R,W,w,e⟩ hn) λO' _ k=>q O' k
def z9o(ns:List Int):WF zhn [.fz (ns.map .int)] [] λd _=>d=.bl true:=by
 refine zNc rfl ?_;show WS zYp [some (.fz (ns.map .int)),none,none,none,none,none,none,none,none,none] [] _ _ _ _;unfold zYp;refine zB (zac (zm (zb (zf rfl (zb (w_c (zl ?_)))))));refine ztn (by omega) (by omega) λO1 k1 p1 _=>?_;refine zB (zac (zm (zb (zf rfl (zl ?_)))));refine zEr p1 (by omega) λR W O2 w k2 p2=>?_;refine zB (zac (zm (zb (zm (zb (zf rfl (zb (w_c (zl ?_)))))))));refine ztn (by omega) (by omega) λO3 k3 p3 _=>zb (w_c (zl ?_));refine zsr p3 (by omega) (by omega) (by omega) λR' K' O4 wA hR k4 p4=>?_;obtain⟨e,v⟩:=Wr.of28 wA hR;rw[e];generalize R'.map xi=Rw at v;generalize K'.map (·.map xi)=K at v;have sT:Sh 5 (zY R W):=Sh.join (by decide +kernel) (by decide) w.shs (by have:=w.wl;rw[length_cons,length_map];omega);have rT:Rd (zY R W):=sT.rd (by decide);obtain⟨lo,ln⟩:=v.rd;have rW:Rd (zBb Rw K):=⟨lo,by omega⟩
 refine zB (zac (zgg (zb (zm (zb (zf rfl (zl (zEi w λO5 k5=>zb (zm (zb (zf rfl (zl (ztj v λO6 k6=>zl ?_)))))))))))));generalize hμ7:O6++[tI.lst _]=O7;have g4:O7[O6.length]?=some (.lst [.str (zY R W),.str (zBb Rw K)]):=hμ7▸tm;clear hμ7;refine zB (zac (zgg (zb (zm (zb (zf rfl (zb (zz (zf rfl (w_c (ztk (zF g4) rfl (zl ?_))))))))))));refine zRm w λb0 ds0 O8 k8 h8 n8 a8=>zb (zm (zb (zf rfl (zb (zz (zf rfl (w_c (ztk (zF (k8 _ _ g4)) rfl (zl ?_)))))))));refine zso v λb1 ds1 O9 k9 h9 n9 a9=>zl ?_;generalize hμ:O9++[tI.lst _]=O;have kμ:tq O9 O:=hμ▸.app;have g5:O[O9.length]?=some (.lst [.loc b0,.loc b1]):=hμ▸tm;clear hμ;have g4:=kμ _ _ (k9 _ _ (k8 _ _ g4));have gb0:=kμ _ _ (k9 _ _ h8);have gb1:=kμ _ _ h9;refine zB (zNq (zFi (zb (w_c (zl ⟨_,rfl,by decide,by decide,?_⟩)))));refine zQl (λi J ν=>∃a b c d:Option D,J=[some (.fz (ns.map .int)),some (.loc ([]:Mem).length),some (wn R W),some (wn Rw K),some (.loc O6.length),some (.loc O9.length),a,b,c,d]/\tq O ν) ⟨_,_,_,_,rfl,.refl⟩ (λ_ _ _ _=>rfl) ?_ ?_
 ·rintro i x J ν hx ⟨a,b,c,d,rfl,kv⟩;obtain⟨hi,rfl⟩:=z9f hx;have hi:i<2:=hi;refine zOi ?_;unfold zsn;refine zNq (zFi (zb (w_c (zl ⟨_,rfl,by decide,by decide,?_⟩))));refine zQl (λj J ν=>∃b c d:Option D,J=[some (.fz (ns.map .int)),some (.loc ([]:Mem).length),some (wn R W),some (wn Rw K),some (.loc O6.length),some (.loc O9.length),some (.int (i:Nat)),b,c,d]/\tq O ν) ⟨_,_,_,rfl,kv⟩ (λ_ _ _ _=>rfl) ?_ ?_
  ·rintro j x J ν hx ⟨b,c,d,rfl,kv⟩;obtain⟨hj,rfl⟩:=z9f hx;have hj:j<6:=hj;refine zOi ?_
   match i,hi with
   |0,_=>exact zpq way0 (by omega) hj (kv _ _ g4) rfl sT.lo (by have:=sT.le;omega) (kv _ _ g5) rfl (kv _ _ gb0) (by omega) (by omega) (λd hd=>askR (a8 d hd)) λx8 x9 ν' k=>⟨_,_,_,rfl,kv.trans k⟩
   |1,_=>exact zpq way1 (by omega) hj (kv _ _ g4) rfl lo (by omega) (kv _ _ g5) rfl (kv _ _ gb1) (by omega) (by omega) (λd hd=>askW (a9 d hd)) λx8 x9 ν' k=>⟨_,_,_,rfl,kv.trans k⟩
  ·rintro J ν ⟨b,c,d,rfl,kv⟩;exact⟨_,_,_,_,rfl,kv⟩
 ·rintro J ν ⟨a,b,c,d,rfl,kv⟩;refine zUb (z0d (zz (zxn (zb (zz (zf rfl (w_c (ztk (zF (kv _ _ g4)) rfl (zl ?_)))))))))
  obtain⟨⟨d',ν',e',q'⟩|⟨c',fs',ν',e',q'⟩⟩:=zoi (O:=ν) (Q:=λd O'=>d=wn R W/\tq ν O') (ex:=λ_ _ _=>False) rT (λR2 W2 O' w2 e2 k=>by
   have:=z6p w w2 e2;cases this;exact⟨rfl,k⟩) (λO' hn _=>hn ⟨R,W,w,rfl⟩)
  ·obtain⟨rfl,kq⟩:=q';refine⟨_,ν',e',zf rfl (z0r ⟨_,rfl,λ_=>?_,λh=>by simp at h⟩)⟩;refine zz (zxn (zb (zz (zf rfl (w_c (ztk (zF (kq _ _ (kv _ _ g4))) rfl (zl ?_)))))))
   obtain⟨⟨d',ν2,e2',q'⟩|⟨c',fs',ν2,e2',q'⟩⟩:=zgj (O:=ν') (Q:=λd _=>d=wn Rw K) (ex:=λ_ _ _=>False) rW (λR2 W2 O' w2 e2 k=>by
    have:=zGq v w2 e2;cases this;rfl) (λO' hn _=>hn ⟨Rw,K,v,rfl⟩)
   ·subst q';exact⟨_,ν2,e2',zf rfl (z0r (by simp))⟩
   ·exact q'.elim
  ·exact q'.elim
def zbp(ns:List Int)(_hn:ns.length<=63):∃O',zhn [.fz (ns.map .int)] []=some (.bl true,O'):=by
 obtain⟨d,O',e,rfl⟩:=z9o ns;exact⟨O',e⟩
end P
namespace P
open PySem PySem.Spec PyProof.Rows L2 M
set_option maxHeartbeats 4000000
def ln1{α:Type}:∀{us:List α},us.length=1->∃a0,us=[a0]
 |[a0],_=>⟨a0,rfl⟩
def fa1{K:yr}{mg:yg->Option ya}{h:yS}{x p0:yg}{st:yQ}{f:yc}{fd:yf}(X:K.In h)(φ:h.Ns ye mg)(a:yK K ye x=some (some (.ref f)))(u:Fun K x x st f fd)
 (b:∀(kV doc pm:ya)(an:Option yc)(cdv ct a0:ya),bindArgs (W.fnOf x x (zxd st) (zoc st) (zp st) .none kV doc pm an cdv ct) ⟨[a0],[]⟩=pure [(p0,a0)]):FnAt K mg x st [p0] f fd :=
 ⟨u,Yt X φ a,u.binds λkV doc pm an cdv ct us hl=>by obtain⟨a0,rfl⟩:=ln1 hl;exact b kV doc pm an cdv ct a0⟩
def ln2{α:Type}:∀{us:List α},us.length=2->∃a0 a1,us=[a0,a1]
 |[a0,a1],_=>⟨a0,a1,rfl⟩
def fa2{K:yr}{mg:yg->Option ya}{h:yS}{x p0 p1:yg}{st:yQ}{f:yc}{fd:yf}(X:K.In h)(φ:h.Ns ye mg)(a:yK K ye x=some (some (.ref f)))(u:Fun K x x st f fd)
 (b:∀(kV doc pm:ya)(an:Option yc)(cdv ct a0 a1:ya),bindArgs (W.fnOf x x (zxd st) (zoc st) (zp st) .none kV doc pm an cdv ct) ⟨[a0,a1],[]⟩=pure [(p0,a0),(p1,a1)]):FnAt K mg x st [p0,p1] f fd :=
 ⟨u,Yt X φ a,u.binds λkV doc pm an cdv ct us hl=>by obtain⟨a0,a1,rfl⟩:=ln2 hl;exact b kV doc pm an cdv ct a0 a1⟩
def ln3{α:Type}:∀{us:List α},us.length=3->∃a0 a1 a2,us=[a0,a1,a2]
 |[a0,a1,a2],_=>⟨a0,a1,a2,rfl⟩
def fa3{K:yr}{mg:yg->Option ya}{h:yS}{x p0 p1 p2:yg}{st:yQ}{f:yc}{fd:yf}(X:K.In h)(φ:h.Ns ye mg)(a:yK K ye x=some (some (.ref f)))(u:Fun K x x st f fd)
 (b:∀(kV doc pm:ya)(an:Option yc)(cdv ct a0 a1 a2:ya),bindArgs (W.fnOf x x (zxd st) (zoc st) (zp st) .none kV doc pm an cdv ct) ⟨[a0,a1,a2],[]⟩=pure [(p0,a0),(p1,a1),(p2,a2)]):FnAt K mg x st [p0,p1,p2] f fd :=
 ⟨u,Yt X φ a,u.binds λkV doc pm an cdv ct us hl=>by obtain⟨a0,a1,a2,rfl⟩:=ln3 hl;exact b kV doc pm an cdv ct a0 a1 a2⟩
def ln4{α:Type}:∀{us:List α},us.length=4->∃a0 a1 a2 a3,us=[a0,a1,a2,a3]
 |[a0,a1,a2,a3],_=>⟨a0,a1,a2,a3,rfl⟩
def fa4{K:yr}{mg:yg->Option ya}{h:yS}{x p0 p1 p2 p3:yg}{st:yQ}{f:yc}{fd:yf}(X:K.In h)(φ:h.Ns ye mg)(a:yK K ye x=some (some (.ref f)))(u:Fun K x x st f fd)
 (b:∀(kV doc pm:ya)(an:Option yc)(cdv ct a0 a1 a2 a3:ya),bindArgs (W.fnOf x x (zxd st) (zoc st) (zp st) .none kV doc pm an cdv ct) ⟨[a0,a1,a2,a3],[]⟩=pure [(p0,a0),(p1,a1),(p2,a2),(p3,a3)]):FnAt K mg x st [p0,p1,p2,p3] f fd :=
 ⟨u,Yt X φ a,u.binds λkV doc pm an cdv ct us hl=>by obtain⟨a0,a1,a2,a3,rfl⟩:=ln4 hl;exact b kV doc pm an cdv ct a0 a1 a2 a3⟩
def all_of{l:W.OpenLaw}{w:yI}{K:yr}{h:yS}{mg:yg->Option ya}{fa:yc}(X:K.In h)(φ:h.Ns ye mg)(hfa:mg "law"=some (.ref fa))(e:Hd.obs K=Hd.good)
 : ∃fd:yf,(∀(s:yb)(v:ya),BindsTo s fd ⟨[v],[]⟩ [("_law_script",v)])/\∀base:yS,K.In base->base.Ns ye mg->tw l.prog w K mg base CX0 8 fa fd ["_law_script"] (spM K 1 zhn):=by
 have e_fn:=congrArg (·.1) e;have e_vv:=congrArg (·.2.1) e;have e_it:=congrArg (·.2.2.1) e;have e_st:=congrArg (·.2.2.2.1) e;have e_bb:=congrArg (·.2.2.2.2.1) e;have e_ob:=congrArg (·.2.2.2.2.2) e;obtain⟨⟨_,_,a0,u0⟩,e_fn⟩:=fnc e_fn;have z8d:FnAt K mg "_law_mixed" zde z5b _ _:=fa2 X φ a0 u0 λ_ _ _ _ _ _ _ _=>rfl;obtain⟨⟨_,_,a1,u1⟩,e_fn⟩:=fnc e_fn;have z7c:FnAt K mg "_law_cell_at" zfd zAb _ _:=fa2 X φ a1 u1 λ_ _ _ _ _ _ _ _=>rfl;obtain⟨⟨_,_,a2,u2⟩,e_fn⟩:=fnc e_fn;have zJd:FnAt K mg "_law_pen" z5f zTc _ _:=fa2 X φ a2 u2 λ_ _ _ _ _ _ _ _=>rfl;obtain⟨⟨_,_,a3,u3⟩,e_fn⟩:=fnc e_fn;have zq:FnAt K mg "_law_take" zhc z3 _ _:=fa2 X φ a3 u3 λ_ _ _ _ _ _ _ _=>rfl;obtain⟨⟨_,_,a4,u4⟩,e_fn⟩:=fnc e_fn;have zYe:FnAt K mg "_law_rule" zdf zAc _ _:=fa1 X φ a4 u4 λ_ _ _ _ _ _ _=>rfl;obtain⟨⟨_,_,a5,u5⟩,e_fn⟩:=fnc e_fn;have zUf:FnAt K mg "_law_web" zYf z1c _ _:=fa2 X φ a5 u5 λ_ _ _ _ _ _ _ _=>rfl;obtain⟨⟨_,_,a6,u6⟩,e_fn⟩:=fnc e_fn;have zib:FnAt K mg "show_numbers" zbc z7 _ _:=fa1 X φ a6 u6 λ_ _ _ _ _ _ _=>rfl;obtain⟨⟨_,_,a7,u7⟩,e_fn⟩:=fnc e_fn;have zkc:FnAt K mg "show_rule" zQd zCb _ _:=fa1 X φ a7 u7 λ_ _ _ _ _ _ _=>rfl;obtain⟨⟨_,_,a8,u8⟩,e_fn⟩:=fnc e_fn;have zae:FnAt K mg "show_homes" z5d z7b _ _:=fa1 X φ a8 u8 λ_ _ _ _ _ _ _=>rfl;obtain⟨⟨_,_,a9,u9⟩,e_fn⟩:=fnc e_fn;have z0c:FnAt K mg "show_web" zKe zYb _ _:=fa1 X φ a9 u9 λ_ _ _ _ _ _ _=>rfl;obtain⟨⟨_,_,a10,u10⟩,e_fn⟩:=fnc e_fn;have zJc:FnAt K mg "_law_bad_rule" zHc zub _ _:=fa2 X φ a10 u10 λ_ _ _ _ _ _ _ _=>rfl;obtain⟨⟨_,_,a11,u11⟩,e_fn⟩:=fnc e_fn;have z9c:FnAt K mg "_law_bad_web" zdd zzb _ _:=fa2 X φ a11 u11 λ_ _ _ _ _ _ _ _=>rfl;obtain⟨⟨_,_,a12,u12⟩,e_fn⟩:=fnc e_fn;have zXb:FnAt K mg "check_text" zsd zxb _ _:=fa1 X φ a12 u12 λ_ _ _ _ _ _ _=>rfl;obtain⟨⟨_,_,a13,u13⟩,e_fn⟩:=fnc e_fn;have zAd:FnAt K mg "read_number" zzd zPb _ _:=fa1 X φ a13 u13 λ_ _ _ _ _ _ _=>rfl;obtain⟨⟨_,_,a14,u14⟩,e_fn⟩:=fnc e_fn;have zhb:FnAt K mg "read_numbers" zdc z8 _ _:=fa1 X φ a14 u14 λ_ _ _ _ _ _ _=>rfl;obtain⟨⟨_,_,a15,u15⟩,e_fn⟩:=fnc e_fn;have zZ:FnAt K mg "is_tuple" zxc zX _ _:=fa3 X φ a15 u15 λ_ _ _ _ _ _ _ _ _=>rfl;obtain⟨⟨_,_,a16,u16⟩,e_fn⟩:=fnc e_fn;have zbf:FnAt K mg "is_number" zMe zyc _ _:=fa2 X φ a16 u16 λ_ _ _ _ _ _ _ _=>rfl;obtain⟨⟨_,_,a17,u17⟩,e_fn⟩:=fnc e_fn;have zD:FnAt K mg "is_number_tuple" zmb zA _ _:=fa4 X φ a17 u17 λ_ _ _ _ _ _ _ _ _ _=>rfl;obtain⟨⟨_,_,a18,u18⟩,e_fn⟩:=fnc e_fn;have znc:FnAt K mg "are_rooms" zSd zFb _ _:=fa1 X φ a18 u18 λ_ _ _ _ _ _ _=>rfl;obtain⟨⟨_,_,a19,u19⟩,e_fn⟩:=fnc e_fn;have z2f:FnAt K mg "are_ways" z3f zPc _ _:=fa1 X φ a19 u19 λ_ _ _ _ _ _ _=>rfl;obtain⟨⟨_,_,a20,u20⟩,e_fn⟩:=fnc e_fn;have zYd:FnAt K mg "is_rule" zqf zuc _ _:=fa1 X φ a20 u20 λ_ _ _ _ _ _ _=>rfl;obtain⟨⟨_,_,a21,u21⟩,e_fn⟩:=fnc e_fn;have zjc:FnAt K mg "read_rule" zTd zDb _ _:=fa1 X φ a21 u21 λ_ _ _ _ _ _ _=>rfl;obtain⟨⟨_,_,a22,u22⟩,e_fn⟩:=fnc e_fn;have zfg:FnAt K mg "are_keys" zag zYc _ _:=fa2 X φ a22 u22 λ_ _ _ _ _ _ _ _=>rfl;obtain⟨⟨_,_,a23,u23⟩,e_fn⟩:=fnc e_fn;have zaf:FnAt K mg "is_web" zRg zud _ _:=fa1 X φ a23 u23 λ_ _ _ _ _ _ _=>rfl;obtain⟨⟨_,_,a24,u24⟩,e_fn⟩:=fnc e_fn;have zWe:FnAt K mg "read_nest" zOe zpc _ _:=fa1 X φ a24 u24 λ_ _ _ _ _ _ _=>rfl;obtain⟨⟨_,_,a25,u25⟩,e_fn⟩:=fnc e_fn;have zie:FnAt K mg "read_homes" zce z6b _ _:=fa1 X φ a25 u25 λ_ _ _ _ _ _ _=>rfl;obtain⟨⟨_,_,a26,u26⟩,e_fn⟩:=fnc e_fn;have zZc:FnAt K mg "read_web" zGe zWb _ _:=fa1 X φ a26 u26 λ_ _ _ _ _ _ _=>rfl;obtain⟨⟨_,_,a27,u27⟩,e_fn⟩:=fnc e_fn;have zGb:FnAt K mg "_law_asked" zqd zvb _ _:=fa2 X φ a27 u27 λ_ _ _ _ _ _ _ _=>rfl;obtain⟨⟨_,_,a28,u28⟩,e_fn⟩:=fnc e_fn;have z8b:FnAt K mg "_law_sign_right" z3b zdb _ _:=fa2 X φ a28 u28 λ_ _ _ _ _ _ _ _=>rfl;obtain⟨⟨_,_,a29,u29⟩,e_fn⟩:=fnc e_fn;have zNe:FnAt K mg "_law_sign" zSe zqc _ _:=fa2 X φ a29 u29 λ_ _ _ _ _ _ _ _=>rfl;obtain⟨⟨f30,oc30,od30,sl30,kV30,dc30,pm30,an30,cd30,ct30,a30,l30,c30,k30⟩,e_fn⟩:=fnl e_fn;have u30:=zqq (st:=zBl) l30 c30 k30;have zxu:FnAt K mg "law" zBl z7l _ _:=fa1 X φ a30 u30 λ_ _ _ _ _ _ _=>rfl;have e:=hfa.symm.trans (Yt X φ a30);cases e;obtain⟨zSk,e_vv⟩:=yd e_vv;obtain⟨zIu,e_vv⟩:=yd e_vv;obtain⟨zbu,e_vv⟩:=yd e_vv;obtain⟨zWs,e_vv⟩:=yd e_vv;obtain⟨zJu,e_vv⟩:=yd e_vv;obtain⟨zwk,e_vv⟩:=yd e_vv;obtain⟨zCu,e_vv⟩:=yd e_vv;obtain⟨zXq,e_vv⟩:=yd e_vv;obtain⟨zku,e_vv⟩:=yd e_vv;obtain⟨zjr,e_vv⟩:=yd e_vv;obtain⟨t_DIVISOR,v_DIVISOR⟩:=zDf (yd e_it).1;replace e_it:=(yd e_it).2;obtain⟨t_MOST_NESTS,v_MOST_NESTS⟩:=zDf (yd e_it).1;replace e_it:=(yd e_it).2;obtain⟨t_MOST_ROOM,v_MOST_ROOM⟩:=zDf (yd e_it).1;replace e_it:=(yd e_it).2;obtain⟨t_MOST_KEYS,v_MOST_KEYS⟩:=zDf (yd e_it).1;replace e_it:=(yd e_it).2;obtain⟨t_FIGURES,v_FIGURES⟩:=z7k (yd e_st).1;replace e_st:=(yd e_st).2;obtain⟨t_MOST_FIGURES,v_MOST_FIGURES⟩:=zDf (yd e_it).1;replace e_it:=(yd e_it).2;obtain⟨t_LETTERS,v_LETTERS⟩:=z7k (yd e_st).1;replace e_st:=(yd e_st).2;obtain⟨zgb,e_vv⟩:=yd e_vv;obtain⟨zHk,e_bb⟩:=yd e_bb;obtain⟨zLh,e_vv⟩:=yd e_vv;obtain⟨zJp,e_bb⟩:=yd e_bb;obtain⟨zZg,e_vv⟩:=yd e_vv;obtain⟨zto,e_bb⟩:=yd e_bb;obtain⟨zPh,e_vv⟩:=yd e_vv;obtain⟨zCp,e_bb⟩:=yd e_bb;obtain⟨zYg,e_vv⟩:=yd e_vv;obtain⟨zDo,e_bb⟩:=yd e_bb;obtain⟨z1f,e_vv⟩:=yd e_vv;obtain⟨zdn,e_bb⟩:=yd e_bb;obtain⟨zOh,e_vv⟩:=yd e_vv;obtain⟨z6o,e_bb⟩:=yd e_bb;obtain⟨zUh,e_vv⟩:=yd e_vv;obtain⟨zZp,e_bb⟩:=yd e_bb;obtain⟨zPj,e_vv⟩:=yd e_vv;obtain⟨zDq,e_bb⟩:=yd e_bb;obtain⟨zof,e_vv⟩:=yd e_vv;obtain⟨zrl,e_bb⟩:=yd e_bb;obtain⟨xe_NoText,e_bb⟩:=yd e_bb;obtain⟨zvg,e_ob⟩:=yd e_ob;obtain⟨_,zqn⟩:=zqo (yd e_bb).1;replace e_bb:=(yd e_bb).2;obtain⟨zrn,e_vv⟩:=yd e_vv;obtain⟨zGn,e_vv⟩:=yd e_vv;obtain⟨z0n,e_ob⟩:=yd e_ob;obtain⟨zSo,e_vv⟩:=yd e_vv;obtain⟨zHo,e_ob⟩:=yd e_ob;obtain⟨q4,e_vv⟩:=yd e_vv;obtain⟨q5,e_ob⟩:=yd e_ob;obtain⟨zRi,e_ob⟩:=yd e_ob;obtain⟨zTg,e_ob⟩:=yd e_ob;obtain⟨zWk,e_ob⟩:=yd e_ob;obtain⟨zkk,e_ob⟩:=yd e_ob;obtain⟨zck,e_ob⟩:=yd e_ob;obtain⟨zWh,e_ob⟩:=yd e_ob;obtain⟨z3i,e_ob⟩:=yd e_ob;obtain⟨z9j,e_ob⟩:=yd e_ob;obtain⟨zVi,e_ob⟩:=yd e_ob;obtain⟨zTj,e_ob⟩:=yd e_ob;obtain⟨zKh,e_ob⟩:=yd e_ob;obtain⟨zhg,e_ob⟩:=yd e_ob;obtain⟨z0i,e_ob⟩:=yd e_ob;obtain⟨z3h,e_ob⟩:=yd e_ob;obtain⟨zsi,e_ob⟩:=yd e_ob;obtain⟨z6g,e_ob⟩:=yd e_ob;obtain⟨zHh,e_ob⟩:=yd e_ob;obtain⟨z7h,e_ob⟩:=yd e_ob;obtain⟨zFh,e_ob⟩:=yd e_ob;obtain⟨zhi,e_ob⟩:=yd e_ob;have zec:W.so K 85:=⟨by rw[zqn];rfl,zrn,zGn,z0n,zSo,q4,q5,zHo⟩
 have T:Txt K mg:=⟨⟨85,zgb,Yt X φ zgb,zHk⟩,⟨61,zLh,Yt X φ zLh,zJp⟩,⟨37,zZg,Yt X φ zZg,zto⟩,⟨97,zPh,Yt X φ zPh,zCp⟩,⟨135,zYg,Yt X φ zYg,zDo⟩,⟨49,z1f,Yt X φ z1f,zdn⟩,⟨73,zOh,Yt X φ zOh,z6o⟩,⟨154,zUh,Yt X φ zUh,zZp⟩,⟨116,zPj,Yt X φ zPj,zDq⟩,⟨24,zof,Yt X φ zof,zrl⟩,(λC h=>by rw[zgb]at h;cases h;exact xe_NoText),(λC h=>by rw[zof]at h;cases h;exact(TY.cons zgb zHk zvg TY.nil)),(tK.none (zsb (P:=λv=>yD K (.type "NoneType") v=some false) zgb zRi) (tK.none (zGo (P:=λv=>yD K (.type "NoneType") v=some false) zTg) (tK.none (zsb (P:=λv=>yD K (.type "NoneType") v=some false) zPj zWk) (tK.none (zsb (P:=λv=>yD K (.type "NoneType") v=some false) zUh zkk) (tK.none (zsb (P:=λv=>yD K (.type "NoneType") v=some false) zOh zck) (tK.none (zsb (P:=λv=>yD K (.type "NoneType") v=some false) z1f zWh) (tK.none (zsb (P:=λv=>yD K (.type "NoneType") v=some false) zYg z3i) (tK.none (zsb (P:=λv=>yD K (.type "NoneType") v=some false) zPh z9j) (tK.none (zsb (P:=λv=>yD K (.type "NoneType") v=some false) zZg zVi) (tK.none (zsb (P:=λv=>yD K (.type "NoneType") v=some false) zLh zTj) (tK.some zgb zec (zsb (P:=λv=>yD K (.ref 85) v=some true) zgb zKh) (tK.some zgb zec (zGo (P:=λv=>yD K (.ref 85) v=some true) zhg) (tK.some zgb zec (zsb (P:=λv=>yD K (.ref 85) v=some false) zPj z0i) (tK.some zgb zec (zsb (P:=λv=>yD K (.ref 85) v=some false) zUh z3h) (tK.some zgb zec (zsb (P:=λv=>yD K (.ref 85) v=some false) zOh zsi) (tK.some zgb zec (zsb (P:=λv=>yD K (.ref 85) v=some false) z1f z6g) (tK.some zgb zec (zsb (P:=λv=>yD K (.ref 85) v=some false) zYg zHh) (tK.some zgb zec (zsb (P:=λv=>yD K (.ref 85) v=some false) zPh z7h) (tK.some zgb zec (zsb (P:=λv=>yD K (.ref 85) v=some false) zZg zFh) (tK.some zgb zec (zsb (P:=λv=>yD K (.ref 85) v=some false) zLh zhi) tK.nil)))))))))))))))))))),⟨_,a21,Yt X φ a21⟩,⟨_,a26,Yt X φ a26⟩,YQ X φ zSk,YQ X φ zIu,YQ X φ zbu,YQ X φ zWs,YQ X φ zJu,YQ X φ zwk,YQ X φ zCu,YQ X φ zXq,YQ X φ zku,YQ X φ zjr,⟨t_DIVISOR,Yt X φ v_DIVISOR⟩,⟨t_MOST_NESTS,Yt X φ v_MOST_NESTS⟩,⟨t_MOST_ROOM,Yt X φ v_MOST_ROOM⟩,⟨t_MOST_KEYS,Yt X φ v_MOST_KEYS⟩,⟨t_FIGURES,Yt X φ v_FIGURES⟩,⟨t_MOST_FIGURES,Yt X φ v_MOST_FIGURES⟩,⟨t_LETTERS,Yt X φ v_LETTERS⟩⟩
 refine⟨W.fnOf "law" "law" (zxd zBl) (zoc zBl) (zp zBl) .none kV30 dc30 pm30 an30 cd30 ct30,λs v =>.of_eq rfl,λbase _ _=>?_⟩;have z4e:=zWi (P:=l.prog) (w:=w) (base:=base) T z8d;have zMd:=zEh T z8d z4e z7c;have zLd:=zfl T z7c zMd zJd;have zn:=zRj (P:=l.prog) (w:=w) (base:=base) T zq;have zQf:=zbk T zq zn zYe;have zCg:=zOk T zq zn zUf;have zrb:=zIh (P:=l.prog) (w:=w) (base:=base) T zib;have zsc:=zJj T zib zrb zkc;have z0e:=zSi (P:=l.prog) (w:=w) (base:=base) T zae;have zQc:=zYk T zib zrb zae z0e z0c;have zyd:=z8g (P:=l.prog) (w:=w) (base:=base) T zJc;have zPd:=zJh (P:=l.prog) (w:=w) (base:=base) T z9c;have z9b:=zZi (P:=l.prog) (w:=w) (base:=base) T zXb;have zle:=zZh (P:=l.prog) (w:=w) (base:=base) T zAd;have zob:=zGh T zAd zle zhb;have zS:=zAk (P:=l.prog) (w:=w) (base:=base) T zZ;have zLf:=zak (P:=l.prog) (w:=w) (base:=base) T zbf;have zG:=zDg T zZ zS zbf zLf zD;have ztc:=zNj T zD zG znc;have zug:=zvk T zZ zS zD zG z2f;have zGd:=zDl T zZ zS znc ztc z2f zug zYd;have zwc:=zZj T zXb z9b zhb zob zYd zGd zjc;have zEg:=z1k T zZ zS zD zG zfg;have zte:=zbn T zZ zS znc ztc zfg zEg zaf;have zwf:=zYj (P:=l.prog) (w:=w) (base:=base) T zWe;have zTe:=zXi T zWe zwf zie;have zUc:=zQk T zXb z9b zhb zob zaf zte zie zTe zZc;have zMb:=zUi T zjc zwc zZc zUc zGb;have zMc:=zxg T zGb zMb zaf zte zYd zGd z0c zQc zkc zsc z8b;have zEf:=zVj T zq zn zNe;exact zJq T zJd zLd zYe zQf zUf zCg zkc zsc z0c zQc zJc zyd z9c zPd zjc zwc zZc zUc z8b zMc zGb zMb zq zn zNe zEf zxu
def walk{l:W.OpenLaw}{q:yu}{loose:List yg}{XP:(yg->Option ya)->yS->Prop}{YP:yI->yS->Prop}{d:DefRec}{K:Params->yr}(hn:l.most=some 63)(hdf:d.params.defaults=[])
 (hY:∀(w:yI)(h:yS),YP w h->(K w.params).In h)
 (F:∀(w:yI)(mg:yg->Option ya)(fa:yc)(h:yS),(K w.params).In h->h.Ns ye mg->mg d.name=some (.ref fa) ->
  ∃fd:yf,(∀(s:yb)(u:ya),BindsTo s fd ⟨[u],[]⟩ [("_law_script",u)])/\∀base:yS,(K w.params).In base->base.Ns ye mg->tw l.prog w (K w.params) mg base CX0 8 fa fd ["_law_script"] (spM (K w.params) 1 zhn)) :
 W.WalkO q loose XP YP l.row.toRowW d [] (λf vs=>PySem.call f vs) :=
 L2.walk_of (n:=63) (k:=8) (x:="_law_script") (CX:=λ_=>CX0) (sp:=λw=>spM (K w.params) 1 zhn) hn (by decide) hdf (by first|exact⟨rfl,by decide,by decide,rfl⟩|exact⟨rfl,by decide,by decide⟩) hY F (λ_ _ a ns hl hO hS=>zqs (zbp ns hl) hO hS) λ_ _ _ _ _ z=>z
end P
open PySem PySem.W PyProof.Rows
set_option maxRecDepth 100000 in
set_option maxHeartbeats 0 in
theorem PySem.Challenge.cw_keynests_k63_texts_refused_holds : PySem.Challenge.rw_keynests_k63_texts_refused.Holds := by
 refine M.Se (l:=xa) (q:=Hd.qv) (loose:=Hd.lse) (d:=Hd.dl) (obs:=Hd.obs) (good:=Hd.good) (N:=60000) Hd.hd1 Hd.hd2 Hd.hd3 Hd.hd4 Hd.hd5 Hd.hd6 Hd.hd7 ?hw λK e=>?_
 case hw=>w_witness2
 exact P.walk (l:=xa) (K:=λ_=>K) (by rfl) (by rfl) (λw h σ=>σ) λw mg fa h KX φ hmg=>P.all_of KX φ hmg e
