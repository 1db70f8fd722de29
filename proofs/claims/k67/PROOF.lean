import PyProof.Rows.All
import Wide.All
import OpenK.AllK
import Wide.FinOn
import Lean
import PyProof.EqAt
import PyProof.EqKinds
import PyProof.TupleCall
import Open.Tree
import OpenK.KRaise
import PySem.SetOps
import PyProof.SetKind
import PyProof.DictStraight
import PyProof.CollectWalk
import PyProof.Seq
import PyProof.Walks
import PyProof.FactsAll.set
import PyProof.Rows.SortShell
import PyProof.Rows.SortWalk
import PyProof.Rows.SetFrom
import PyProof.SumAny
import PyProof.InstSpecial
import PyProof.InstStoreFacts
import PyProof.ReprBulk
import PyProof.ReprRoads
import PyProof.ListRange
import PyProof.EnumMake
import KE.KDictList
import KE.KRevIter
import KE.BitLaws
import PyProof.Rows.MinMaxN
import PyProof.DictDisplay
import KE.KRevSl
import PyProof.PureInt
import PyProof.MeetsDictList
import PyProof.AttrMissHeap
import KE.KEqDict
import KE.KItemsList
import KE.KDictOf
import KE.KIntText
import PyProof.StrLawsTight
import PyProof.Rows.StrSplitJoin
import PyProof.Rows.StrNews2
import PySem.Challenge.RW_keynests_k67_a_desk_of_thirty_keys
set_option autoImplicit false
open List renaming all_cons→La,all_eq_true→Lb,any_cons→Lc,any_eq_true→Ld,any_map→Le,append_assoc→Lf,append_nil→Lg,countP_cons→Lh,ext_getElem?→Li,filterMap_cons→Lj,filter_cons→Lk,flatten_cons→Lm,foldl_cons→Ln,getD_eq_getElem?_getD→Lo,getElem_mem→Lp,length_append→Lq,length_cons→Lr,length_drop→Ls,length_map→Lu,length_range→Lv,length_set→Lw,length_singleton→Lx,length_take→Ly,lookup_cons→Lz,lookup_nil→Na,mapM_cons→Nb,map_append→Nc,map_congr_left→Nd,map_cons→Nf,map_map→Ng,map_nil→Nh,mem_append→Ni,mem_append_right→Nj,mem_cons→Nk,mem_cons_of_mem→Nm,mem_cons_self→Nn,mem_of_getElem?→No,mem_range→Np,mergeSort_perm→Nq,nodup_append→Nr,nodup_cons→Nt,not_mem_nil→Nu,of_mem_zip→Nv,replicate_succ→Nw,size_toArray→Nx,take_length→Ny,take_succ→Nz
set_option maxRecDepth 100000
set_option linter.all false
set_option Elab.async false
open PySem renaming wpAny_bind→ya,Value→yb,Shared→yd,mainGlobals→yf,Addr→yg,starEach→yh,wpAny_pure→yi,Str→yj,wpAny→yp,Program→yu,model→yx,Expr→yB,sizeLine→yD,World→yG,Around→yH,bootBuiltins→yK,FuncData→yP,Stmt→yR,Heap→yU,eval→yV,backTo→yW,wpAny_newObj_type→yX,wpAny_mono→yZ,mem_of_lookup→Yd,compareOp→Yg,wpAny_call_entry→Yj,wpAny_holding→Yl,wpAny_callSpecial?_slot→Yp,attributeBase→Yq,cellsFrom→Yr,wpAny_field→Yt,foldedSetIterable→Yu,keywordEach→Yv,sizeLine_eq→YC,wpAny_loadPart_at→YF,Obj→YH,wpAny_Call_Name_kw→YL,Builtin→YN,Keyword→YQ,wpAny_truthy_bool→YS,assignEach→YT,rawInt→YU,codeAny_mono→YW,Pos→YZ,wpAny_ite_split→xb,wpAny_standAt→xf,binaryOp→xh,backToKw→xi,NameKind→xj,excClassObj→xl,codeAny_builtin→xm,wpAny_specialOf→xn,wpAny_isSubtype_exc→xp,DictEntry→xt,wpAny_setField→xu,PyData→xB,swapsWith→xD,wpAny_passesOwn→xE,Scope→xG,holding→xO,call_meets→xU,wpAny_setField_rec→xV,wpAny_execs_nil→xW,builtinLookup_eq_fast→Xc,codeAny→Xf,wpAny_setState_of→Xh,firstArgMember→Xk,codeAny_call_builtin→Xo,wpAny_isInstance→Xq
open List.cons renaming inj→yc,injEq→YJ
open PySem.Heap renaming get?_push_of_some→ye,lt_size→yn,get?_push_size→yr,get?_update_other→yY,get?_update_self→Yb,SameBut→Yz,size_push→YG
open List renaming getElem?_map→yk,getElem?_append_left→yq,replicate→yy,range→yz,getElem?_eq_getElem→yE,getElem?_set_self→yO,getElem?_set_ne→yQ,getElem?_append_right→yS,getElem?_eq_none→Yy,lookup→YD,getElem?_replicate→YM,perm_ext_iff_of_nodup→YY,drop_eq_getElem_cons→xA,length→xS,find?_cons→xX,length_replicate→Xb,getElem?_zipIdx→Xp
open Option renaming bind_some→ym,map_some→xF
open Nat renaming le_refl→yo,lt_of_lt_of_le→yv,le_trans→yA,ne_of_lt→yC,lt_irrefl→Yk,ne_of_gt→Yo,zero_le→Ys,le_of_lt→YI,lt_succ_of_lt→xI,lt_succ_self→xP,le_of_not_lt→Xs
open PySem.W renaming Frag→yt,nsIn→yJ,findIn→Yh,mg_of→Yx,mg_none_of→YB,emptyDict→xR,kia_one→xY,mroIn→Xe
open PySem.NameKind renaming free→yw,cell→yT
open Bool renaming false_ne_true→yF,and_eq_true→yM
open PySem.Value renaming ref→yI,none→Ym,type→YR,builtin→xZ
open Sum renaming inl→yL
open False renaming elim→yN
open PySem.PyData renaming eqv→Yc,strOk→Yw,int→xL,eqvAll→Xa,canLayAll0→Xg
open PySem.Txt renaming partition→Ye,join→YX,split→xQ
open Ne renaming symm→Yi
open Option.some renaming inj→Yn,injEq→Xi
open PySem.Builtin.List renaming listExtendWith→YA,listLengthHint→xr,listSameRef→xN
open PySem.Builtin.SmallTypes renaming nextOf→YE
open PySem.Obj renaming data_mapFields→YK,isFreed_of_fields→xy,mapFields→xK,mapSeq→Xm
open PyProof.Rows renaming callWith_type1→YO,slot_tuple_getitem→xc,envOfC→Xl
open PySem.Str renaming ofString→YV,join→xJ,empty→Xr
open ForInStep renaming yield→xa
open PySem.Builtin.Tuple renaming tupleExact→xg
open PySem.Around renaming under_plainId→xk
open Array renaming length_toList→xo
open PySem.Challenge renaming rw_keynests_k67_a_desk_of_thirty_keys→xq
open PySem.F renaming excBase_ValueError→xv,slot_tuple_iterator_next→xw,slot_enumerate_next→Xd
open PySem.Builtin.Slice renaming slicePlaces→xz
open PySem.Builtin.Str renaming strKind→xC
open Int renaming toNat_natCast→xH
open PySem.AutoSeq1 renaming wpAny_loadPart'→xM
open True renaming intro→xT
open PySem.StrLaws renaming partsFrom→Xj
open PySem.Calls renaming evalArgs_plain→Xn
noncomputable section
abbrev Qa:=List (yj×yg)
abbrev Qb:=List (yg×YH)
abbrev Qc:=List (Option Nat)
abbrev Qd:=List (List Nat)
abbrev Qe:=List (Nat×Nat)
abbrev Qf:=List Nat
abbrev Qg:=List Int
abbrev Qj:=Option Nat
abbrev Qk:=Option Int
abbrev Qp:=List PySem.Env
abbrev Qq:=Option Bool
abbrev Qv:=List yg
abbrev Qw:=Option yg
abbrev Qx:=List yj
abbrev Qy:=Option yj
abbrev Qz:=List yB
abbrev Wc:=List yR
namespace M
open PySem PySem.W PyProof.Rows
def kOf(as:Qv)(h:yU):Frag:=as.filterMap λa=>(h.get? a).map λo=>(a,o)
def znw(h:yU):Frag:=kOf (yz h.objs.size) h
def zNx(s:yR):Arguments:=match s with
 |.FunctionDef _ a _ _ _ _ _ _ _ _=>a
 |_=>{posonlyargs:=[],args:=[],vararg:=none,kwonlyargs:=[],kw_defaults:=[],kwarg:=none,defaults:=[]}
def zKx(s:yR):Wc:=match s with
 |.FunctionDef _ _ b _ _ _ _ _ _ _=>b
 |_=>[]
def zTs(s:yR):xG:=match s with
 |.FunctionDef _ _ _ _ _ _ sc _ _ _=>sc
 |_=>{kind:=.function,names:=[],isGenerator:=false,isCoroutine:=false }
def zNC(s:yR):YZ:=match s with
 |.FunctionDef _ _ _ _ _ _ _ _ _ p=>p
 |_=>⟨0,0,0,0⟩
structure sj where
 name:yj
 qual:yj
 params:Arguments
 body:FuncBody
 scope:xG
 globals:yg
 closure:Qa
 defaults:yb
 builtins:yg
 code:Bool
 keep:Bool
def zOe(K:Frag)(a:yg)(qual:yj):Option sj:=match K.lookup a with
 |some ⟨_,_,.func fd,_⟩=>some ⟨fd.name,fd.qualname,fd.params,fd.body,fd.scope,fd.globals,fd.closure,fd.defaults,fd.builtins,codeIn K fd.code qual,keepIn K (.ref a)⟩
 |_=>none
def z9(K:Frag)(nm:yj):Option sj:=match nsIn K yf nm with
 |some (some (.ref a))=>zOe K a nm
 |_=>none
def zjf(nm qual:yj)(st:yR):Option sj:=some ⟨nm,qual,zNx st,.stmts (zKx st),zTs st,yf,[],.none,builtinsNs,true,true⟩
def zab(nm:yj)(st:yR):Option sj:=zjf nm nm st
def zmh(K:Frag)(nm:yj):Qk:=match nsIn K yf nm with
 |some (some (.int i _))=>some i
 |_=>none
def z6m(K:Frag)(nm:yj):Qy:=match nsIn K yf nm with
 |some (some (.str i _))=>some i
 |_=>none
def zts(K:Frag)(C:yg):Option (yb×String×List yb×Bool×Bool):=match K.lookup C with
 |some ⟨c,_,.cls cd,sl⟩=>(match sl.toList with | [_,_,_,_,some (.builtin n),_]=>some (c,n,cd.mro,cd.hasDict,cd.hasDel)|_=>none)
 |_=>none
def zHw{p q:yu}{loose:Qx}{α:Type}{Yf:yd->α}{y:α}{N:Nat}(h1:LeftO p q loose (λ_=>true) (λ_=>()) (λ_=>()) N)(h2:∀w,(openEnds treeTable p w N).map Yf=some y):LeftO p q loose (λ_=>true) Yf (λ_=>y) N:=λw=>by
 obtain⟨s,e,a⟩:=Option.map_eq_some_iff.mp (h1 w);obtain⟨s',e',b⟩:=Option.map_eq_some_iff.mp (h2 w);rw[e]at e';cases e';rw[e];show some (_,Yf s)=some (_,y);rw[b];exact congrArg (λz=>some (z.1,y)) a
end M
namespace M
open PySem PySem.W PyProof.Rows
def zpj(e:xt):Option (yj×yb):=match e.key with
 |.str s _=>some (s,e.val)
 |_=>none
def zGp(K:Frag)(nm:yj):Option (yb×List (yj×yb)):=match nsIn K yf nm with
 |some (some (.ref a))=>(match K.lookup a with
  |some ⟨c,_,.dict es _,_⟩=>(es.toList.mapM zpj).map λl=>(c,l)
  |_=>none)
 |_=>none
def bld:List YH->Nat->BT->Option BT
 |[],_,t=>some t
 |o::os,n,t=>match((t.ins n o).get n).isSome with
  |true=>bld os (n+1) (t.ins n o)
  |false=>none
def ziq(life:Life):∀(os:List YH)(a:Array YH),os.foldl Heap.push ⟨a,life⟩=⟨a++os.toArray,life⟩
 |[],a=>by simp
 |o::os,a=>by
  rw[Ln];show os.foldl Heap.push ⟨a.push o,life⟩=_;rw[ziq life os]
  congr 1
  simp
def zNt(life:Life):∀(os:List YH)(n:Nat)(t t':BT),bld os n t=some t'->absHeap t' (n+os.length) life=os.foldl Heap.push (absHeap t n life)
 |[],n,t,t',h=>by cases h;rfl
 |o::os,n,t,t',h=>by
  unfold bld at h
  split at h
  ·rename_i g
   have:=zNt life os (n+1) _ _ h;rw[Ln,Lr,show n+(os.length+1)=n+1+os.length by omega,this,absHeap_ins g]
  ·cases h
def zcw{h:yU}{T:BT}(e:bld h.objs.toList 0 .nil=some T):absHeap T h.objs.size h.life=h:=by
 have:=zNt h.life _ _ _ _ e;rw[Nat.zero_add,xo]at this;rw[this,show absHeap BT.nil 0 h.life=⟨#[],h.life⟩ from rfl,ziq];simp
def zmn(tb:String->Option YN)(p:yu)(w:yG)(n₀:Nat)(ann:Option yb):Nat->SharedT->Thread->Option SharedT
 |0,_,_=>none
 |n+1,s,t=>match through t with
  |true=>some s
  |false=>match stepOk n₀ ann t with
   |false=>none
   |true=>match stepT (denote tb) p w s t with
    |some (s',t')=>zmn tb p w n₀ ann n s' t'
    |none=>none
def zpo{tb:String->Option YN}{p:yu}{w:yG}{n₀:Nat}{ann:Option yb}:∀{n:Nat} {s s':SharedT} {t:Thread},zmn tb p w n₀ ann n s t=some s'->topRun tb p w n₀ ann n s.abs t=some s'.abs
 |0,_,_,_,h=>by cases h
 |n+1,s,s',t,h=>by
  unfold zmn at h;unfold topRun
  cases he:through t with
  |true=>rw[he]at h;cases h;rfl
  |false=>
   rw[he]at h
   cases hk:stepOk n₀ ann t with
   |false=>rw[hk]at h;cases h
   |true=>
    rw[hk]at h
    cases hs:stepT (denote tb) p w s t with
    |none=>rw[hs]at h;cases h
    |some r=>obtain⟨s₂,t₂⟩:=r;rw[hs]at h;rw[stepT_spec hs];exact zpo h
def zHm(tb:String->Option YN)(p:yu)(w:yG)(N:Nat)(s₀:yd):Option SharedT :=
 match s₀.heap.isNs yf&&s₀.gens.size==0 with
 |true=>(bld s₀.heap.objs.toList 0 .nil).bind λT=>(zmn tb p w s₀.heap.objs.size (s₀.heap.nsMap yf "__annotations__") N ⟨T,s₀.heap.objs.size,s₀.heap.life,s₀.gens,s₀.drawn,s₀.toks,s₀.os⟩ (topStub p)).bind λs₁=>
  match staticsOk (importedModules p.main.body) s₀.heap s₁.abs.heap&&namesBound p s₁.abs.heap&&gensDone s₁.abs&&laidKept s₀.heap s₁.abs.heap with
  |true=>some s₁
  |false=>none
 |false=>none
def zls{tb:String->Option YN}{p:yu}{w:yG}{N:Nat}{s₀:yd}{s:SharedT}(h:zHm tb p w N s₀=some s):topFrom tb p w N s₀=some s.abs:=by
 unfold zHm at h;unfold topFrom
 split at h
 ·rename_i g
  rw[g];obtain⟨T,e1,h⟩:=Option.bind_eq_some_iff.mp h;obtain⟨s₁,e2,h⟩:=Option.bind_eq_some_iff.mp h;have:=zpo e2
  have eb:(SharedT.mk T s₀.heap.objs.size s₀.heap.life s₀.gens s₀.drawn s₀.toks s₀.os).abs=s₀:=by
   unfold SharedT.abs;dsimp only;rw[zcw e1]
  rw[eb]at this;show(topRun tb p w s₀.heap.objs.size (s₀.heap.nsMap yf "__annotations__") N s₀ (topStub p)).bind _=_;rw[this]
  split at h
  ·rename_i g2
   cases h;show(match _ with|true=>_|false=>_)=_;rw[g2]
  ·cases h
 ·cases h
def zoe(tb:String->Option YN)(p:yu)(w:yG)(N:Nat):Option SharedT:=(fencedOpening tb p w N).bind (zHm tb p w N)
def zpk{tb:String->Option YN}{p:yu}{w:yG}{N:Nat}{α:Type}{f:yd->α}{y:α}(h:(zoe tb p w N).map (λs=>f s.abs)=some y):(openEnds tb p w N).map f=some y:=by
 obtain⟨s,e,rfl⟩:=Option.map_eq_some_iff.mp h;obtain⟨s₀,e1,e2⟩:=Option.bind_eq_some_iff.mp e;unfold openEnds;rw[e1];show(topFrom tb p w N s₀).map f=_;rw[zls e2];rfl
end M
namespace M
open PySem PySem.W PyProof.Rows
def z9r(s:SharedT):Frag:=(yz s.n).filterMap λa=>(alive ((s.tree.get a).getD default)).map λo=>(a,o)
def zor{α β:Type}{f g:α->Option β}:∀(l:List α),(∀a∈l,f a=g a)->l.filterMap f=l.filterMap g
 |[],_=>rfl
 |a::l,h=>by rw[Lj,Lj,h a Nn,zor l λb hb=>h b (Nm _ hb)]
def zhv(s:SharedT):znw s.abs.heap=z9r s:=by
 show kOf (yz (absHeap s.tree s.n s.life).objs.size) (absHeap s.tree s.n s.life)=_;rw[absHeap_size];unfold kOf z9r;refine zor _ λa ha=>?_;have ha:=List.mem_range.mp ha
 have e:(absHeap s.tree s.n s.life).get? a=alive ((s.tree.get a).getD default):=by
  unfold Heap.get?;rw[absHeap_at,if_pos ha];generalize (s.tree.get a).getD default=o;obtain⟨c,d,da,sl⟩:=o;cases da<;>rfl
 rw[e]
def z2l{tb:String->Option YN}{p:yu}{w:yG}{N:Nat}{α:Type}{f:Frag->α}{y:α}(h:(zoe tb p w N).map (λs=>f (z9r s))=some y):(openEnds tb p w N).map (λs=>f (znw s.heap))=some y:=by
 refine zpk (f:=λs=>f (znw s.heap)) ?_;have e:(λs:SharedT=>f (znw s.abs.heap))=λs=>f (z9r s):=funext λs=>by rw[zhv]
 exact(congrArg (λg=>(zoe tb p w N).map g) e).trans h
end M
namespace M
open PySem PySem.W PyProof.Rows
def zWo(e:xt):Option (yj×Int):=match e.key,e.val with
 |.str s _,.int i _=>some (s,i)
 |_,_=>none
def z6p(K:Frag)(nm:yj):Option (yb×Bool×List (yj×Int)):=match nsIn K yf nm with
 |some (some (.ref a))=>(match K.lookup a with
  |some ⟨c,d,.dict es _,_⟩=>(es.toList.mapM zWo).map λl=>(c,d.isNone,l)
  |_=>none)
 |_=>none
end M
namespace Hd
open PySem PySem.Spec PyProof.Rows M
def top(i:Nat):yR:=PySem.Challenge.pw_keynests_k67_a_desk_of_thirty_keys.main.body.getD i (.Pass ⟨0,0,0,0⟩)
def zwl(s:yR)(j:Nat):yR:=match s with
 |.ClassDef _ _ _ body _ _ _ _ _ _ _=>body.getD j (.Pass ⟨0,0,0,0⟩)
 |_ =>.Pass ⟨0,0,0,0⟩
def zwx(s:yR):yR:=zwl s 0
def qv:yu:={PySem.Challenge.pw_keynests_k67_a_desk_of_thirty_keys with main:={PySem.Challenge.pw_keynests_k67_a_desk_of_thirty_keys.main with body:=[top 91]}}
def lse:Qx:=(PySem.Challenge.pw_keynests_k67_a_desk_of_thirty_keys.main.scope.names.map (·.1)).filter λx=>!(x == "law")
def dl:DefRec:={name:="law",params:=zNx (top 91),body:=zKx (top 91),scope:=zTs (top 91),pos:=zNC (top 91)}
def obs(K:yt):List (Option sj)×List (Option (Option yb))×List (Qk)×List (Qy)×List (Bool)×List (Qq)×List (Option yb)×List (Option W.CFound)×List (Option (yb×String×List yb×Bool×Bool))×List (Option (yb×List (yj×yb)))×List (Option (yb×Bool×List (yj×Int))):=([z9 K "_law_mixed",z9 K "_law_cell_at",z9 K "_law_pen",z9 K "_law_take",z9 K "_law_rule",zOe K 294 "Shelf.__init__",z9 K "check_text",z9 K "read_number",z9 K "read_numbers",z9 K "is_tuple",z9 K "is_number",z9 K "is_number_tuple",z9 K "are_rooms",z9 K "are_ways",z9 K "is_rule",z9 K "read_rule",zOe K 536 "Desk.__init__",z9 K "_law_text",z9 K "is_row",zOe K 313 "Shelf.has",zOe K 327 "Shelf.all_there",z9 K "lying",z9 K "pushes_to",z9 K "left",z9 K "row_to",z9 K "put_in",z9 K "homes",z9 K "web_of",zOe K 337 "Shelf.laying",zOe K 299 "Shelf.put",z9 K "show_words",z9 K "show_push",z9 K "answer_put",zOe K 306 "Shelf.out",z9 K "answer_out",z9 K "show_keys",z9 K "answer_keys",z9 K "is_push",z9 K "follows",z9 K "fault",z9 K "pushed",z9 K "laid_more",z9 K "laid_at_all",z9 K "fitted",zOe K 349 "Shelf.renew",z9 K "answer_renew",zOe K 543 "Desk.say",z9 K "_law_filled",z9 K "_law_full_text",z9 K "law",zOe K 89 "Full.__init__"],[yJ K yf "Shelf",Yh K (.ref 359) "__setattr__",Yh K (.ref 359) "nest_of",Yh K (.ref 359) "kept_rule",Yh K (.ref 359) "__init__",yJ K yf "Desk",Yh K (.ref 546) "__setattr__",Yh K (.ref 546) "shelf",Yh K (.ref 546) "__init__",Yh K (.ref 359) "has",Yh K (.ref 359) "all_there",Yh K (.ref 359) "laying",Yh K (.ref 359) "put",Yh K (.ref 359) "out",Yh K (.ref 359) "renew",Yh K (.ref 546) "say",yJ K yf "left_layings",yJ K yf "left",yJ K yf "answer_put",yJ K yf "answer_out",yJ K yf "answer_keys",yJ K yf "answer_renew",yJ K yf "all",yJ K yf "any",yJ K yf "bool",yJ K yf "enumerate",yJ K yf "int",yJ K yf "isinstance",yJ K yf "len",yJ K yf "list",yJ K yf "min",yJ K yf "range",yJ K yf "reversed",yJ K yf "set",yJ K yf "sorted",yJ K yf "str",yJ K yf "tuple",yJ K yf "Full",yJ K yf "NestError",yJ K yf "Twice",yJ K yf "NoKey",W.specialIn K (.ref 24) "__getattribute__",Yh K (.ref 92) "__init__",Yh K (.ref 92) "__setattr__",Yh K (.ref 92) "some",Yh K (.ref 92) "__getattribute__",Yh K (.ref 92) "__getattr__",Yh K (.ref 92) "__class__",W.specialIn K (.builtin "object.__class__") "__get__"],[zmh K "DIVISOR",zmh K "MOST_NESTS",zmh K "MOST_ROOM",zmh K "MOST_KEYS",zmh K "MOST_FIGURES"],[z6m K "FIGURES",z6m K "LETTERS"],[W.plainGet K 359 PySem.Str.empty,W.hasDictIn K 359,W.plainOver K 359,W.isFn K (.ref 294),W.makesIn K 359,W.keepIn K (.ref 359),W.plainGet K 546 PySem.Str.empty,W.hasDictIn K 546,W.plainOver K 546,W.isFn K (.ref 536),W.makesIn K 546,W.keepIn K (.ref 546),W.isFn K (.ref 313),W.isFn K (.ref 327),W.isFn K (.ref 337),W.isFn K (.ref 299),W.isFn K (.ref 306),W.isFn K (.ref 349),W.isFn K (.ref 543),W.ktsIn K 92 "BaseException",W.ktsIn K 24 "BaseException",W.ktsIn K 37 "BaseException",W.ktsIn K 49 "BaseException",W.excIn K 37 [.type "ValueError",.type "Exception",.type "BaseException",.type "object"] "ValueError.__new__",W.excIn K 49 [.type "ValueError",.type "Exception",.type "BaseException",.type "object"] "ValueError.__new__",W.excIn K 24 [.type "ValueError",.type "Exception",.type "BaseException",.type "object"] "ValueError.__new__",W.readsIn K 24 (.type "type"),W.hasDictIn K 92,(W.clsIn K 92).isSome],[Xe K 37 (.ref 92),Xe K 37 (.ref 37),Xe K 37 (.ref 49),Xe K 92 (.ref 92),Xe K 92 (.ref 37),Xe K 92 (.ref 49),Xe K 49 (.ref 92),Xe K 49 (.ref 37),Xe K 49 (.ref 49),Xe K 92 (.type "BaseException"),Xe K 92 (.type "object"),W.takesIn K (.builtin "object.__class__")],[W.typeIn K (.ref 89)],[W.findCls K (.ref 24) (.type "type") "__init__"],[zts K 92],[zGp K "ANSWERS"],[z6p K "WORD_COUNTS"])
def good:List (Option sj)×List (Option (Option yb))×List (Qk)×List (Qy)×List (Bool)×List (Qq)×List (Option yb)×List (Option W.CFound)×List (Option (yb×String×List yb×Bool×Bool))×List (Option (yb×List (yj×yb)))×List (Option (yb×Bool×List (yj×Int))):=([zab "_law_mixed" (top 82),zab "_law_cell_at" (top 83),zab "_law_pen" (top 85),zab "_law_take" (top 84),zab "_law_rule" (top 87),zjf "__init__" "Shelf.__init__" (zwl (top 47) 0),zab "check_text" (top 58),zab "read_number" (top 55),zab "read_numbers" (top 56),zab "is_tuple" (top 28),zab "is_number" (top 27),zab "is_number_tuple" (top 29),zab "are_rooms" (top 30),zab "are_ways" (top 31),zab "is_rule" (top 32),zab "read_rule" (top 59),zjf "__init__" "Desk.__init__" (zwl (top 80) 0),zab "_law_text" (top 88),zab "is_row" (top 62),zjf "has" "Shelf.has" (zwl (top 47) 3),zjf "all_there" "Shelf.all_there" (zwl (top 47) 5),zab "lying" (top 13),zab "pushes_to" (top 18),zab "left" (top 9),zab "row_to" (top 19),zab "put_in" (top 20),zab "homes" (top 33),zab "web_of" (top 36),zjf "laying" "Shelf.laying" (zwl (top 47) 7),zjf "put" "Shelf.put" (zwl (top 47) 1),zab "show_words" (top 63),zab "show_push" (top 65),zab "answer_put" (top 67),zjf "out" "Shelf.out" (zwl (top 47) 2),zab "answer_out" (top 68),zab "show_keys" (top 64),zab "answer_keys" (top 71),zab "is_push" (top 15),zab "follows" (top 16),zab "fault" (top 11),zab "pushed" (top 17),zab "laid_more" (top 21),zab "laid_at_all" (top 22),zab "fitted" (top 43),zjf "renew" "Shelf.renew" (zwl (top 47) 9),zab "answer_renew" (top 75),zjf "say" "Desk.say" (zwl (top 80) 1),zab "_law_filled" (top 89),zab "_law_full_text" (top 90),zab "law" (top 91),zjf "__init__" "Full.__init__" (zwx (top 6))],[some (some (.ref 359)),some (some (.builtin "object.__setattr__")),some none,some none,some (some (.ref 294)),some (some (.ref 546)),some (some (.builtin "object.__setattr__")),some none,some (some (.ref 536)),some (some (.ref 313)),some (some (.ref 327)),some (some (.ref 337)),some (some (.ref 299)),some (some (.ref 306)),some (some (.ref 349)),some (some (.ref 543)),some (some (.ref 118)),some (some (.ref 118)),some (some (.ref 446)),some (some (.ref 453)),some (some (.ref 474)),some (some (.ref 502)),some none,some none,some none,some none,some none,some none,some none,some none,some none,some none,some none,some none,some none,some none,some none,some (some (.ref 92)),some (some (.ref 24)),some (some (.ref 37)),some (some (.ref 49)),some (some (.builtin "type.__getattribute__")),some (some (.ref 89)),some (some (.builtin "object.__setattr__")),some none,some (some (.builtin "BaseException.__getattribute__")),some none,some (some (.builtin "object.__class__")),some (some (.builtin "getset_descriptor.__get__"))],[some 10007,some 10,some 9,some 30,some 60],[some "0123456789",some "abcdefghijklmnopqrstuvwxyz"],[true,true,true,true,true,true,true,true,true,true,true,true,true,true,true,true,true,true,true,true,true,true,true,true,true,true,true,true,true],[some false,some true,some false,some true,some false,some false,some false,some false,some true,some true,some true,some true],[some (.type "function")],[some (.val (.builtin "ValueError.__init__"))],[some (.type "type","ValueError.__new__",.ref 92::(.ref 24::[.type "ValueError",.type "Exception",.type "BaseException",.type "object"]),true,false)],[some (.type "dict",[("put",.ref 446),("out",.ref 453),("has",.ref 460),("where",.ref 467),("keys",.ref 474),("nest",.ref 481),("left",.ref 488),("rule",.ref 495),("renew",.ref 502),("fits",.ref 514),("most",.ref 521)])],[some (.type "dict",true,[("put",2),("out",2),("has",2),("where",2),("keys",1),("nest",2),("left",1),("rule",1)])])
set_option maxHeartbeats 0
def hd21f:∀w:yG,(zoe treeTable PySem.Challenge.rw_keynests_k67_a_desk_of_thirty_keys.prog (w.withFollow "special-get-raises" false) 20000).map (λs=>(λs=>(W.openSeen qv lse (importedModules PySem.Challenge.rw_keynests_k67_a_desk_of_thirty_keys.prog.main.body) (λ_=>true) true s,())) s.abs)=some (W.openGood qv lse,()):=λw=>by kernel_rfl
def hd21t:∀w:yG,(zoe treeTable PySem.Challenge.rw_keynests_k67_a_desk_of_thirty_keys.prog (w.withFollow "special-get-raises" true) 20000).map (λs=>(λs=>(W.openSeen qv lse (importedModules PySem.Challenge.rw_keynests_k67_a_desk_of_thirty_keys.prog.main.body) (λ_=>true) true s,())) s.abs)=some (W.openGood qv lse,()):=λw=>by kernel_rfl
def hd22f:∀w:yG,(zoe treeTable PySem.Challenge.rw_keynests_k67_a_desk_of_thirty_keys.prog (w.withFollow "special-get-raises" false) 20000).map (λs=>obs (z9r s))=some good:=λw=>by kernel_rfl
def hd22t:∀w:yG,(zoe treeTable PySem.Challenge.rw_keynests_k67_a_desk_of_thirty_keys.prog (w.withFollow "special-get-raises" true) 20000).map (λs=>obs (z9r s))=some good:=λw=>by kernel_rfl
def hd21:W.LeftO PySem.Challenge.rw_keynests_k67_a_desk_of_thirty_keys.prog qv lse (λ_=>true) (λ_=>()) (λ_=>()) 20000:=W.byRow2 "special-get-raises" (λw=>zpk (hd21f w)) (λw=>zpk (hd21t w))
def hd22:∀w,(W.openEnds treeTable PySem.Challenge.rw_keynests_k67_a_desk_of_thirty_keys.prog w 20000).map (λs=>obs (znw s.heap))=some good:=W.byRow2 "special-get-raises" (λw=>z2l (hd22f w)) (λw=>z2l (hd22t w))
def hd2:W.LeftO PySem.Challenge.rw_keynests_k67_a_desk_of_thirty_keys.prog qv lse (λ_=>true) (λs=>obs (znw s.heap)) (λ_=>good) 20000:=zHw hd21 hd22
def hd1:PySem.Challenge.rw_keynests_k67_a_desk_of_thirty_keys.wellSaid=true:=by kernel_rfl
def hd3:W.defOf qv PySem.Challenge.rw_keynests_k67_a_desk_of_thirty_keys.name=some (dl,[]):=by kernel_rfl
def hd4:PySem.Challenge.rw_keynests_k67_a_desk_of_thirty_keys.prog.theDef PySem.Challenge.rw_keynests_k67_a_desk_of_thirty_keys.name=some (dl.params,dl.body,dl.scope):=by kernel_rfl
def hd5:W.kwWritten? dl.params.kwonlyargs dl.params.kw_defaults=some []:=by kernel_rfl
def hd6:(W.chainsOk qv&&W.opensWell PySem.Challenge.rw_keynests_k67_a_desk_of_thirty_keys.prog&&(W.frees PySem.Challenge.rw_keynests_k67_a_desk_of_thirty_keys.row.toRowW&&PySem.Challenge.rw_keynests_k67_a_desk_of_thirty_keys.row.within.isEmpty))=true:=by kernel_rfl
def hd7:PySem.Challenge.rw_keynests_k67_a_desk_of_thirty_keys.prog.bare:=⟨rfl,rfl,rfl,rfl,rfl,by decide +kernel⟩
end Hd
namespace L2
open PySem PySem.Spec PyProof.Rows
abbrev Key:=Sum Int yj
def zXp:Key->yb->Bool
 |.inl k,v=>Value.isInt k v
 |.inr x,v=>Value.isStrOf x v
def zLC(w:yG):Key->Int
 |.inl k=>hashInt k
 |.inr x=>hashStr w x
def zsb:∀{k:Key} {v:yb},zXp k v=true->(∃i t,k=yL i/\v=Value.int i t)\/(∃x t,k=Sum.inr x/\v=Value.str x t)
 |.inl i,v,h=>by
  obtain⟨t,e⟩:=Value.isInt_shape (k:=i) (v:=v) h;exact .inl ⟨i,t,rfl,e⟩
 |.inr x,v,h=>by
  obtain⟨t,e⟩:=Value.isStrOf_shape (x:=x) (v:=v) h;exact .inr ⟨x,t,rfl,e⟩
def zUu(i:Int)(t:Tok):zXp (.inl i) (.int i t)=true:=by simp[zXp,Value.isInt]
def zmu(x:yj)(t:Tok):zXp (.inr x) (.str x t)=true:=by simp[zXp,Value.isStrOf]
def zCA(a b:Int):decide ((yL a:Key)=yL b)=(a==b):=by
 by_cases e:a=b
 ·subst e;simp
 ·have h:¬(yL a:Key)=yL b:=λq=>e (Sum.inl.inj q);rw[decide_eq_false h];exact(beq_eq_false_iff_ne.mpr e).symm
def zSA(a b:yj):decide ((Sum.inr a:Key)=Sum.inr b)=decide (a=b):=by
 by_cases e:a=b
 ·subst e;simp
 ·have h:¬(Sum.inr a:Key)=Sum.inr b:=λq=>e (Sum.inr.inj q);rw[decide_eq_false h,decide_eq_false e]
def zAA(a:Int)(b:yj):decide ((yL a:Key)=Sum.inr b)=false:=decide_eq_false (λq=>nomatch q)
def z4A(a:yj)(b:Int):decide ((Sum.inr a:Key)=yL b)=false:=decide_eq_false (λq=>nomatch q)
def zCb(prog:yu)(w:yG):PySem.KeyKind prog w Key where
 is:=zXp
 hash:=zLC w
 inj:=λv a b ha hb=>by
  rcases zsb ha with ⟨i,t,rfl,rfl⟩|⟨x,t,rfl,rfl⟩
  ·rcases zsb hb with ⟨j,u,rfl,e⟩|⟨y,u,rfl,e⟩
   ·injection e with e1 _;rw[e1]
   ·exact nomatch e
  ·rcases zsb hb with ⟨j,u,rfl,e⟩|⟨y,u,rfl,e⟩
   ·exact nomatch e
   ·injection e with e1 _;rw[e1]
 byValue:=λk v h=>by
  rcases zsb h with ⟨i,t,rfl,rfl⟩|⟨x,t,rfl,rfl⟩<;>rfl
 pyHash:=λhv h=>by
  rcases zsb hv with ⟨i,t,rfl,rfl⟩|⟨x,t,rfl,rfl⟩
  ·exact wpAny_pyHash_int h
  ·exact wpAny_pyHash_str h
 eqBool:=λhu hv h=>by
  rcases zsb hu with ⟨i,t,rfl,rfl⟩|⟨x,t,rfl,rfl⟩
  ·rcases zsb hv with ⟨j,u,rfl,rfl⟩|⟨y,u,rfl,rfl⟩
   ·rw[zCA]at h;exact wpAny_eqBool_int h
   ·rw[zAA]at h;exact SeqAt.EqAt.int_str i t y u _ _ _ _ h
  ·rcases zsb hv with ⟨j,u,rfl,rfl⟩|⟨y,u,rfl,rfl⟩
   ·rw[z4A]at h;exact SeqAt.EqAt.str_int x t j u _ _ _ _ h
   ·rw[zSA]at h;exact wpAny_eqBool_str h
 «strs»:=λk x t v h=>by
  rcases zsb h with ⟨i,u,rfl,e⟩|⟨y,u,rfl,e⟩
  ·exact nomatch e
  ·injection e with e1 _;subst e1;cases v<;>rfl
def zLi(prog:yu)(w:yG)(k:Key)(v:yb):(zCb prog w).is k v=zXp k v:=rfl
def zvp(prog:yu)(w:yG)(i:Int)(t:Tok):(zCb prog w).is (.inl i) (.int i t)=true:=zUu i t
def zjp(prog:yu)(w:yG)(x:yj)(t:Tok):(zCb prog w).is (.inr x) (.str x t)=true:=zmu x t
inductive V where
 |non|bl (b:Bool)|int (i:Int)|str (x:yj)|byt (b:Array UInt8)|flt (b:UInt64)|ref (a:yg)|ty (n:String)
 deriving DecidableEq
abbrev Wi:=List V
abbrev Wj:=List (Key×V)
abbrev Wk:=List (yj×V)
def RelV:V->yb->Prop
 |.non,u=>u=Ym
 |.bl b,u=>u=Value.bool b
 |.int i,u=>∃t,u=Value.int i t
 |.str x,u=>∃t,u=Value.str x t
 |.byt b,u=>∃t,u=Value.bytes b t
 |.flt b,u=>∃t,u=Value.float b t
 |.ref a,u=>u=yI a
 |.ty n,u=>u=YR n
abbrev Vals:Wi->List yb->Prop:=Paired RelV
def Vals.length{xs:Wi}{us:List yb}(r:Vals xs us):xs.length=us.length:=Paired.length r
def Vals.get:∀{xs:Wi} {us:List yb} {i:Nat} {x:V},Vals xs us->xs[i]?=some x->∃u,us[i]?=some u/\RelV x u
 |_,_,_,_,.nil,e=>by simp at e
 |_,_,0,_,.cons r _,e=>by simp at e;subst e;exact⟨_,rfl,r⟩
 |_,_,i+1,x,.cons _ t,e=>by
  obtain⟨u,h1,h2⟩:=Vals.get (i:=i) (x:=x) t (by simpa using e);exact⟨u,by simpa using h1,h2⟩
def Vals.set{x:V}{u:yb}(r:RelV x u):∀{xs:Wi} {us:List yb} (i:Nat),Vals xs us->Vals (xs.set i x) (us.set i u)
 |_,_,_,.nil =>.nil
 |_,_,0,.cons _ t =>.cons r t
 |_,_,i+1,.cons q t =>.cons q (Vals.set r i t)
def Vals.append:∀{xs ys:Wi} {us ws:List yb},Vals xs us->Vals ys ws->Vals (xs++ys) (us++ws)
 |_,_,_,_,.nil,s=>s
 |_,_,_,_,.cons r t,s =>.cons r (Vals.append t s)
def Vals.take:∀{xs:Wi} {us:List yb} (n:Nat),Vals xs us->Vals (xs.take n) (us.take n)
 |_,_,0,_ =>.nil
 |_,_,_+1,.nil =>.nil
 |_,_,n+1,.cons r t =>.cons r (Vals.take n t)
def Vals.drop:∀{xs:Wi} {us:List yb} (n:Nat),Vals xs us->Vals (xs.drop n) (us.drop n)
 |_,_,0,r=>r
 |_,_,_+1,.nil =>.nil
 |_,_,n+1,.cons _ t=>Vals.drop n t
def se:Option V->Option yb->Prop
 |some v,some u=>RelV v u
 |none,none=>True
 |_,_=>False
def KV{κ:Type}:List (κ×V)->List (κ×yb)->Prop:=Paired λ(p:κ×V) (q:κ×yb)=>p.1=q.1/\RelV p.2 q.2
def kV:Key->V
 |.inl i =>.int i
 |.inr x =>.str x
inductive HO where
 |lst (xs:Wi)
 |tup (xs:Wi)
 |dK (hU:Wj)|dT (hU:List (List Key×V))
 |set (S:Int->Bool) (n:Nat)
 |ins (C dx:yg) (fs:Wk)
 |own (x:yg)
 |xd (fs:Wk)
 |met (f x:yg)
 |rng (lo hi:Int)
 |frz (o:YH) (u:HO)
 |tbl (ps:Array yb)
 |ext (G:yU->Prop)
abbrev Hp:=yg->Option HO
def upd(H:Hp)(a:yg)(o:HO):Hp:=λb=>if b=a then some o else H b
def zx{H:Hp}{a:yg}{o:HO}:upd H a o a=some o:=by unfold upd;rw[if_pos rfl]
def zE{H:Hp}{a b:yg}{o:HO}(h:b≠a):upd H a o b=H b:=by unfold upd;rw[if_neg h]
def zA{H:Hp}{a b:yg}{o:HO}(h:H a=some o)(h':H b=none):a≠b:=by
 intro e;subst e;rw[h]at h';cases h'
section
variable (P:yu)(w:yG)
def tD(H:Hp)(h:yU)(a:yg):HO->Prop
 |.lst xs=>xs.length<=yD/\∃(hW:List yb)(n:Nat),Vals xs hW/\h.get? a=some {cls:=.type "list",data:=.seq hW.toArray n }
 |.tup xs=>xs.length<=yD/\∃hW:List yb,Vals xs hW/\IsTup h a hW.toArray
 |.dK hU=>hU.length<=yD/\(a==sysModules)=false/\∃vs,KV hU vs/\h.DictOf (zCb P w) a vs
 |.dT hU=>hU.length<=yD/\(a==sysModules)=false/\∃xs:List (List Key×yg×yb),
  Paired (λ(p:List Key×V) (q:List Key×yg×yb)=>p.1=q.1/\H q.2.1=some (.tup (p.1.map kV))/\RelV p.2 q.2.2) hU xs /\
  ∃o es ep,h.get? a=some o/\o.ExactDict/\o.data=.dict es ep/\es.toList=xs.map (entryOfKey (tupleKind (zCb P w)))/\(xs.map (·.1)).Nodup
 |.set S n=>h.SetOf (intKind P w) a S n
 |.ins C dx fs=>H dx=some (.own a)/\fs.length<=1000/\dx≠a/\h.get? a=some (W.instObj C dx) /\
  ∃mA,h.Ns1 dx mA/\(∀f,se (fs.lookup f) (mA f))/\PySem.Within mA (fs.map (·.1))
 |.own _=>∃o,h.get? a=some o
 |.xd fs=>∃mA,h.Ns1 a mA/\∀f,se (fs.lookup f) (mA f)
 |.rng lo hi=>∃t u v,h.get? a=some {cls:=.type "range",data:=.fields #[.int lo t,.int hi u,.int 1 v]}
 |.frz o u=>h.get? a=some o/\tD H h a u
 |.tbl ps=>h.get? a=some {cls:=.none,data:=.fields ps }
 |.met f x=>h.get? a=some (W.methodObj (.ref f) (.ref x))
 |.ext G=>G h/\(∃o,h.get? a=some o)/\∀h1 h2:yU,G h1->(∀o,h1.get? a=some o->h2.get? a=some o)->G h2
def HOk(H:Hp)(h:yU):Prop:=∀a o,H a=some o->tD P w H h a o
variable {P:yu}{w:yG}{H H':Hp}{h h':yU}{a:yg}{o:HO}
def tD.lt(x:tD P w H h a o):a<h.objs.size:=by
 cases o with
 |lst xs=>obtain⟨_,_,_,_,e⟩:=x;exact yn e
 |tup xs=>obtain⟨_,_,_,p⟩:=x;exact p.lt
 |dK hU=>obtain⟨_,_,_,_,o,_,_,e,_⟩:=x;exact yn e
 |dT hU=>obtain⟨_,_,_,_,o,_,_,e,_⟩:=x;exact yn e
 |set S n=>obtain⟨o,_,_,_,e,_⟩:=x;exact yn e
 |ins C dx fs=>obtain⟨_,_,_,e,_⟩:=x;exact yn e
 |own y=>obtain⟨_,e⟩:=x;exact yn e
 |xd fs=>obtain⟨_,⟨_,_,_,e,_⟩,_⟩:=x;exact yn e
 |rng lo hi=>obtain⟨_,_,_,e⟩:=x;exact yn e
 |frz ob u=>obtain⟨e,_⟩:=x;exact yn e
 |tbl ps=>exact yn (show h.get? a=some _ from x)
 |met f y=>exact yn (show h.get? a=some _ from x)
 |ext G=>obtain⟨_,⟨_,e⟩,_⟩:=x;exact yn e
def Paired.mapP{α β:Type}{F φ:α->β->Prop}:∀{l₁:List α} {l₂:List β},Paired F l₁ l₂->(∀a b,F a b->φ a b)->Paired φ l₁ l₂
 |_,_,.nil,_ =>.nil
 |_,_,.cons r t,f =>.cons (f _ _ r) (Paired.mapP t f)
def tD.stay(x:tD P w H h a o)(k:∀b u,(b=a\/H b=some (.own a))->h.get? b=some u->h'.get? b=some u)
 (ho:∀b,H b=some (.own a)->H' b=some (.own a)) (ht:∀b xs,H b=some (.tup xs)->H' b=some (.tup xs)):tD P w H' h' a o:=by
 induction o with
 |lst xs=>obtain⟨z,hW,n,r,e⟩:=x;exact⟨z,hW,n,r,k _ _ (.inl rfl) e⟩
 |tup xs=>obtain⟨z,hW,r,ob,e,c⟩:=x;exact⟨z,hW,r,ob,k _ _ (.inl rfl) e,c⟩
 |dK hU=>obtain⟨z,y,vs,r,ob,es,ep,e,c⟩:=x;exact⟨z,y,vs,r,ob,es,ep,k _ _ (.inl rfl) e,c⟩
 |dT hU=>
  obtain⟨z,y,xs,r,ob,es,ep,e,c⟩:=x;exact⟨z,y,xs,Paired.mapP r λp q z=>⟨z.1,ht _ _ z.2.1,z.2.2⟩,ob,es,ep,k _ _ (.inl rfl) e,c⟩
 |set S n=>obtain⟨ob,es,ep,t,e,c⟩:=x;exact⟨ob,es,ep,t,k _ _ (.inl rfl) e,c⟩
 |ins C dx fs=>
  obtain⟨d,z,ne,e,mA,⟨od,es,ep,e2,c⟩,r⟩:=x;exact⟨ho _ d,z,ne,k _ _ (.inl rfl) e,mA,⟨od,es,ep,k _ _ (.inr d) e2,c⟩,r⟩
 |own y=>obtain⟨ob,e⟩:=x;exact⟨ob,k _ _ (.inl rfl) e⟩
 |xd fs=>obtain⟨mA,⟨od,es,ep,e,c⟩,r⟩:=x;exact⟨mA,⟨od,es,ep,k _ _ (.inl rfl) e,c⟩,r⟩
 |rng lo hi=>obtain⟨t,u,v,e⟩:=x;exact⟨t,u,v,k _ _ (.inl rfl) e⟩
 |frz ob u ih=>obtain⟨e,q⟩:=x;exact⟨k _ _ (.inl rfl) e,ih q⟩
 |tbl ps=>
  have e:h.get? a=some {cls:=.none,data:=.fields ps }:=x;show h'.get? a=some {cls:=.none,data:=.fields ps };exact k a _ (.inl rfl) e
 |met f y=>
  have e:h.get? a=some (W.methodObj (.ref f) (.ref y)):=x;show h'.get? a=some (W.methodObj (.ref f) (.ref y));exact k a _ (.inl rfl) e
 |ext G=>obtain⟨p,⟨o,e⟩,st⟩:=x;exact⟨st _ _ p λo q=>k _ _ (.inl rfl) q,⟨o,k _ _ (.inl rfl) e⟩,st⟩
def HOk.lt(x:HOk P w H h)(e:H a=some o):a<h.objs.size:=(x a o e).lt
def HOk.fresh(x:HOk P w H h)(e:h.objs.size<=a):H a=none:=by
 cases q:H a with
 |none=>rfl
 |some u=>exact absurd (yv (x.lt q) e) (Yk _)
def HOk.kept(x:HOk P w H h)(k:∀b u,h.get? b=some u->h'.get? b=some u):HOk P w H h':=λa o e=>
 (x a o e).stay (λb u _ q=>k b u q) (λ_ q=>q) λ_ _ q=>q
def HOk.laid(x:HOk P w H h)(k:∀b u,h.get? b=some u->h'.get? b=some u)(hp:h.objs.size<=a)(new:tD P w (upd H a o) h' a o):HOk P w (upd H a o) h':=λb u e=>by
 have hn:=x.fresh hp
 by_cases hb:b=a
 ·subst hb;rw[zx]at e;cases e;exact new
 ·rw[zE hb]at e;exact(x b u e).stay (λc v _ q=>k c v q) (λc q=>by rw[zE (zA q hn)];exact q) λc xs q=>by rw[zE (zA q hn)];exact q
end
def Rd(H:Hp)(a:yg)(u:HO):Prop:=H a=some u\/∃o,H a=some (.frz o u)
def Rd.ok{P:yu}{w:yG}{H:Hp}{h:yU}{a:yg}{u:HO}(r:Rd H a u)(x:HOk P w H h):tD P w H h a u:=by
 rcases r with r|⟨o,r⟩
 ·exact x a u r
 ·obtain⟨_,q⟩:=x a _ r;exact q
def Mut:Option HO->Prop
 |some (.lst _)=>True
 |some (.dK _)=>True
 |some (.dT _)=>True
 |some (.set _ _)=>True
 |some (.ins _ _ _)=>True
 |some (.ext _)=>True
 |_=>False
section
variable {P:yu}{w:yG}{H:Hp}{h h':yU}{x e:yg}{o':HO}
def HOk.write(ok:HOk P w H h)(mu:Mut (H x))(he:e=x\/H e=some (.own x))(k:∀b u,b≠e->h.get? b=some u->h'.get? b=some u)(heo:∃u,h'.get? e=some u)
 (new:tD P w (upd H x o') h' x o'):HOk P w (upd H x o') h':=λb u q=>by
 have nown:∀c y,H c=some (.own y)->c≠x:=λc y r z=>by subst z;rw[r]at mu;exact mu
 have ntup:∀c xs,H c=some (.tup xs)->c≠x:=λc xs r z=>by subst z;rw[r]at mu;exact mu
 by_cases hb:b=x
 ·subst hb;rw[zx]at q;cases q;exact new
 ·rw[zE hb]at q
  by_cases hbe:b=e
  ·have q':H b=some (.own x):=by
    rcases he with z|z
    ·exact absurd (hbe.trans z) hb
    ·rw[hbe];exact z
   rw[q]at q';cases q';obtain⟨v,hv⟩:=heo;exact⟨v,by rw[hbe];exact hv⟩
  ·refine(ok b u q).stay (λc v hc r=>k c v ?_ r) (λc r=>by rw[zE (nown c b r)];exact r) λc xs r=>by rw[zE (ntup c xs r)];exact r
   rcases hc with rfl|hc
   ·exact hbe
   ·rintro rfl;rcases he with z|z
    ·exact nown c b hc z
    ·rw[hc]at z;cases z;exact hb rfl
end
structure Un(fs ex:Qv)(H H':Hp)(h h':yU):Prop where
 keep:∀b o,h.get? b=some o->H b=none->b∉fs->b∉ex->h'.get? b=some o
 slot:∀b o,h.get? b=some o->H b=none->b∈fs->b∉ex->∃sl,h'.get? b=some {o with slots:=sl }
 free:∀b o,h.get? b=some o->H b=none->b∉ex->H' b=none
 there:∀b o,h.get? b=some o->b∉ex->∃o',h'.get? b=some o'
 tups:∀b xs,H b=some (.tup xs)->H' b=some (.tup xs)
 TL:∀b o u,H b=some (.frz o u)->H' b=some (.frz o u)
 TR:∀b ps,H b=some (.tbl ps)->∃more,H' b=some (.tbl (ps++more))
section
variable {fs fs' ex ex':Qv}{H H1 H2:Hp}{h h1 h2 h':yU}{a x e:yg}{o:HO}
def Un.any(u:Un fs ex H H1 h h1){b:yg}{ob:YH}(q:h.get? b=some ob)(n:H b=none)(hx:b∉ex):∃sl,h1.get? b=some {ob with slots:=sl }:=by
 by_cases hb:b∈fs
 ·exact u.slot b ob q n hb hx
 ·exact⟨ob.slots,u.keep b ob q n hb hx⟩
def Un.trans(a:Un fs ex H H1 h h1)(b:Un fs ex H1 H2 h1 h2):Un fs ex H H2 h h2 where
 keep:=λc ob q n hc hx=>b.keep c ob (a.keep c ob q n hc hx) (a.free c ob q n hx) hc hx
 slot:=λc ob q n hc hx=>by
  obtain⟨sl,e1⟩:=a.slot c ob q n hc hx;obtain⟨sl',e2⟩:=b.slot c _ e1 (a.free c ob q n hx) hc hx;exact⟨sl',e2⟩
 free:=λc ob q n hx=>by
  obtain⟨o',e1⟩:=a.there c ob q hx;exact b.free c o' e1 (a.free c ob q n hx) hx
 there:=λc ob q hx=>by
  obtain⟨o',e1⟩:=a.there c ob q hx;exact b.there c o' e1 hx
 tups:=λc xs q=>b.tups c xs (a.tups c xs q)
 TL:=λc ob xs q=>b.TL c ob xs (a.TL c ob xs q)
 TR:=λc ps q=>by
  obtain⟨m1,e1⟩:=a.TR c ps q;obtain⟨m2,e2⟩:=b.TR c _ e1;exact⟨m1++m2,by rw[e2,Array.append_assoc]⟩
def Un.kept(k:∀b u,h.get? b=some u->h'.get? b=some u):Un fs ex H H h h' :=
 ⟨λb ob q _ _ _=>k b ob q,λb ob q _ _ _=>⟨ob.slots,k b ob q⟩,λ_ _ _ n _=>n,λb ob q _=>⟨ob,k b ob q⟩,λ_ _ q=>q,λ_ _ _ q=>q,λ_ ps q=>⟨#[],by rw[q];simp⟩⟩
def Un.refl:Un fs ex H H h h:=Un.kept λ_ _ q=>q
def Un.laid(k:∀b u,h.get? b=some u->h'.get? b=some u)(hp:h.objs.size<=a)(hn:H a=none):Un fs ex H (upd H a o) h h' where
 keep:=λb u q _ _ _=>k b u q
 slot:=λb u q _ _ _=>⟨u.slots,k b u q⟩
 free:=λb u q n _=>by rw[zE (yC (yv (yn q) hp))];exact n
 there:=λb u q _=>⟨u,k b u q⟩
 tups:=λb xs q=>by rw[zE (zA q hn)];exact q
 TL:=λb u xs q=>by rw[zE (zA q hn)];exact q
 TR:=λb ps q=>⟨#[],by rw[zE (zA q hn),q];simp⟩
def Un.write(mu:Mut (H x))(he:e=x\/H e=some (.own x))(k:∀b u,b≠e->h.get? b=some u->h'.get? b=some u)(heo:∃u,h'.get? e=some u):Un fs ex H (upd H x o) h h':=by
 have hx:∀b,H b=none->b≠x:=λb n z=>by subst z;rw[n]at mu;exact mu
 have hb:∀b,H b=none->b≠e:=λb n z=>by
  subst z;rcases he with r|r
  ·exact hx b n r
  ·rw[n]at r;cases r
 have hm:∀b u,H b=some u->¬Mut (some u)->b≠x:=λb u q nm z=>by subst z;rw[q]at mu;exact nm mu
 refine⟨λb u q n _ _=>k b u (hb b n) q,λb u q n _ _=>⟨u.slots,k b u (hb b n) q⟩,λb u q n _=>by rw[zE (hx b n)];exact n,λb u q _=>?_,
  λb xs q=>by rw[zE (hm b _ q λz=>z)];exact q,λb u xs q=>by rw[zE (hm b _ q λz=>z)];exact q,λb ps q=>⟨#[],by rw[zE (hm b _ q λz=>z),q];simp⟩⟩
 by_cases hbe:b=e
 ·subst hbe;exact heo
 ·exact⟨u,k b u hbe q⟩
end
def trk(h:yU)(H:Hp):Qv:=(yz h.objs.size).filter λa=>(H a).isSome
def zSv(h:yU)(H:Hp):yU:=W.hideAll h (trk h H)
def zVs(h:yU)(H:Hp):(zSv h H).objs.size=h.objs.size:=W.hideAll_size _ _
def zBw{h:yU}{H:Hp}{b:yg}{o:YH}(e:h.get? b=some o)(n:H b=none):(zSv h H).get? b=some o :=
 W.hideAll_get _ e λhm=>by
  have q:(H b).isSome=true:=(List.mem_filter.mp hm).2;rw[n]at q;simp at q
def z7x{h:yU}{H:Hp}{b:yg}{o:YH}(e:(zSv h H).get? b=some o):h.get? b=some o/\H b=none:=by
 have e':h.get? b=some o:=W.of_hideAll (trk h H) e;refine⟨e',?_⟩
 cases q:H b with
 |none=>rfl
 |some x=>
  have hm:b∈trk h H:=List.mem_filter.mpr ⟨List.mem_range.mpr (yn e'),by simp[q]⟩;have z:(zSv h H).get? b=none:=W.hideAll_none (trk h H) hm;rw[z]at e;cases e
def zZy(g h:yU)(L:yg):Qb:=(yz h.objs.size).filterMap λa=>if a=L\/(g.get? a).isSome=true then none else(h.get? a).map λo=>(a,o)
def rest(g h:yU)(L d:yg):Qb:=(zZy g h L).filter λp=>decide (p.1≠d)
structure Mod(K:yt)(mg:yj->Option yb)(base:yU):Prop where
 kin:K.In base
 glob:base.Ns yf mg
 blt:∃mb,base.Ns builtinsNs mb/\∀x:yj,x≠"__name__"->mb x=yK x
 nolimit:base.NoLimit
structure Cx where
 prog:yu
 w:yG
 K:yt
 mg:yj->Option yb
 base:yU
 A:yH
 N:Qx
 s₀:yd
 H₀:Hp
 env:Env
 outer:Qp
 stack:Qp
 ex:Qv
 fn:yj->Bool
 calm:Bool
 pn:Qb
 xe:yb->yd->Prop
def frs(l:Qp):Qv:=l.filterMap (·.frame)
abbrev Cx.fs(X:Cx):Qv:=frs X.outer
def Vis(sc:xG)(x:yj):Prop:=sc.names.lookup x=some .local\/sc.names.lookup x=some .cell\/sc.names.lookup x=some .free
def Loc(sc:xG)(x:yj):Prop:=sc.names.lookup x=some .local\/sc.names.lookup x=some .cell
def zsC(env:Env)(h:yU)(m:yj->Option yb)(x:yj)(u:yb):Prop :=
 (env.kindOf x=some .local/\m x=some u)\/((env.kindOf x=some .cell\/env.kindOf x=some .free)/\∃c,env.cells.lookup x=some c/\h.IsCell c (some u))
structure Cx.Ok(X:Cx):Prop where
 mod:Mod X.K X.mg X.base
 kind:X.env.scope.kind=.function
 glob:X.env.globals=yf
 blt:X.env.builtins=builtinsNs
 above:X.s₀.heap.objs.size<=X.env.locals
 inj:∀x y c,X.env.cells.lookup x=some c->X.env.cells.lookup y=some c->x=y
 has:∀x,(X.env.kindOf x=some .cell\/X.env.kindOf x=some .free)->∃c,X.env.cells.lookup x=some c
 cab:∀x c,X.fn x=true->X.env.cells.lookup x=some c->X.s₀.heap.objs.size<=c
 hd:X.calm=true->X.A.handled=none
 frames:X.A.frames=some X.stack
 stk:X.stack=X.outer\/(X.stack=X.env::X.outer/\X.env.frame=some X.env.locals)
 exf:∀b∈X.ex,b≠X.env.locals/\∀x c,X.env.cells.lookup x=some c->c≠b
 bs:∀b o,X.base.get? b=some o->X.s₀.heap.get? b=some o/\X.H₀ b=none
 bsz:X.base.objs.size<=X.s₀.heap.objs.size
 Sy:∀b o,X.base.get? b=some o->b∉X.ex
 SC:∀b∈X.ex,b∉X.fs
 ss:X.s₀.heap.FunFrames X.base X.outer
 frf:∀b∈X.fs,X.H₀ b=none
structure Inv(X:Cx)(U:Qb)(Y:List (Option V))(H:Hp)(s:yd):Prop where
 ok:X.Ok
 os:s.os=X.s₀.os
 bare:AllBare s.gens
 base:Un X.fs X.ex X.H₀ H X.s₀.heap s.heap
 loc:∃m,s.heap.Ns X.env.locals m/\∀(i:Nat)(x:yj)(v:V),X.N[i]?=some x->Y[i]?=some (some v)->Vis X.env.scope x->∃u,RelV v u/\zsC X.env s.heap m x u
 cell:∀x c,X.env.cells.lookup x=some c->∃v,s.heap.IsCell c v
 free:H X.env.locals=none
 freeC:∀x c,X.env.cells.lookup x=some c->H c=none
 pin:∀p∈X.pn++U,s.heap.get? p.1=some p.2/\H p.1=none/\p.1≠X.env.locals/\p.1∉X.fs/\∀v,p.2.data≠.cell v
 hok:HOk X.prog X.w H s.heap
 len:Y.length=X.N.length
section
variable {X:Cx}{U:Qb}{Y:List (Option V)}{H H':Hp}{s:yd}{h':yU}
def Cx.Ok.nofr(ok:X.Ok){b:yg}{o:YH}(e:X.base.get? b=some o):b∉X.fs:=λhb=>by
 have:=(ok.ss.mem hb).1;rw[e]at this;cases this
def Inv.bs(I:Inv X U Y H s):∀b o,X.base.get? b=some o->s.heap.get? b=some o/\H b=none:=λb o e=>
 ⟨I.base.keep b o (I.ok.bs b o e).1 (I.ok.bs b o e).2 (I.ok.nofr e) (I.ok.Sy b o e),I.base.free b o (I.ok.bs b o e).1 (I.ok.bs b o e).2 (I.ok.Sy b o e)⟩
def Inv.bk(I:Inv X U Y H s):∀b o,X.base.get? b=some o->s.heap.get? b=some o:=λb o e=>(I.bs b o e).1
def Inv.mod(I:Inv X U Y H s):Mod X.K X.mg X.base:=I.ok.mod
def Inv.kIn(I:Inv X U Y H s):X.K.In s.heap:=I.ok.mod.kin.keeps I.bk
def Inv.fr(I:Inv X U Y H s):∃m,Fr X.base X.env.locals s.heap m :=
 let ⟨m,hn,_⟩:=I.loc
 ⟨m,hn,I.bk,yA I.ok.bsz I.ok.above⟩
def Inv.lt(I:Inv X U Y H s):X.env.locals<s.heap.objs.size:=let ⟨_,hn,_⟩:=I.loc;hn.lt
def Inv.sz(I:Inv X U Y H s):X.s₀.heap.objs.size<=s.heap.objs.size:=yA I.ok.above (YI I.lt)
def Inv.nofs(I:Inv X U Y H s){a:yg}(h:s.heap.objs.size<=a):a∉X.fs:=λhb=>by
 obtain⟨_,o,ho,_⟩:=I.ok.ss.mem hb;exact absurd (yv (yn ho) (yA I.sz h)) (Yk _)
def Inv.cne(I:Inv X U Y H s):∀x c,X.env.cells.lookup x=some c->c≠X.env.locals:=λx c e z=>by
 obtain⟨v,o,ho,hd⟩:=I.cell x c e;obtain⟨m,⟨o',es,ep,ho',hd',_⟩,_⟩:=I.loc;rw[z,ho']at ho;cases ho;rw[hd']at hd;cases hd
def Inv.ss(I:Inv X U Y H s):s.heap.FunFrames X.base X.outer:=by
 have all:∀(l:Qp),(∀b∈frs l,b∈X.fs)->X.s₀.heap.FunFrames X.base l->s.heap.FunFrames X.base l:=by
  intro l
  induction l with
  |nil=>intro _ _;trivial
  |cons env r ih=>
   intro hs hl;obtain⟨hk,⟨L,o,hf,hn,ho,hd⟩,hr⟩:=hl;have hL:L∈X.fs:=hs L (by unfold frs;rw[Lj,hf];exact Nn);obtain⟨sl,e⟩:=I.base.slot L o ho (I.ok.frf L hL) hL λz=>I.ok.SC L z hL;exact⟨hk,⟨L,_,hf,hn,e,hd⟩,ih (λb hb=>hs b (by unfold frs;rw[Lj,hf];exact Nm _ hb)) hr⟩
 exact all X.outer (λ_ hb=>hb) I.ok.ss
def Inv.stack(I:Inv X U Y H s):s.heap.FunFrames X.base X.stack:=by
 rcases I.ok.stk with e|⟨e,hf⟩
 ·rw[e];exact I.ss
 ·rw[e];obtain⟨m,hn,_⟩:=I.loc;refine .cons (by rw[I.ok.kind];decide) hf hn ?_ I.ss;exact Heap.get?_none_of_le (yA I.ok.bsz I.ok.above)
def Inv.sR(I:Inv X U Y H s):∀b∈frs X.stack,b∈X.env.locals::X.fs:=λb hb=>by
 rcases I.ok.stk with e|⟨e,hf⟩
 ·rw[e]at hb;exact Nm _ hb
 ·rw[e]at hb;unfold frs at hb;rw[Lj,hf]at hb;exact hb
def Inv.TM(I:Inv X U Y H s):∀b∈frs X.stack,H b=none:=λb hb=>by
 rcases List.mem_cons.mp (I.sR b hb) with e|hb
 ·rw[e];exact I.free
 ·obtain⟨_,o,ho,_⟩:=I.ok.ss.mem hb;exact I.base.free b o ho (I.ok.frf b hb) λz=>I.ok.SC b z hb
def Inv.step{g':Array GenState}{t':Nat}{d':Drawn}{ch:Qv}(I:Inv X U Y H s)
 (hch:∀b∈ch,(b∈X.ex\/X.s₀.heap.objs.size<=b)/\b≠X.env.locals/\(∀x c,X.env.cells.lookup x=some c->c≠b)/\∀p∈X.pn++U,p.1≠b)
 (keep:∀b o,b≠X.env.locals->b∉X.fs->b∉ch->s.heap.get? b=some o->H b=none->h'.get? b=some o)
 (slot:∀b o,b≠X.env.locals->b∈X.fs->b∉ch->s.heap.get? b=some o->H b=none->∃sl,h'.get? b=some {o with slots:=sl }) (free:∀b o,b∉ch->s.heap.get? b=some o->H b=none->H' b=none)
 (there:∀b o,b∉ch->s.heap.get? b=some o->∃o',h'.get? b=some o')
 (tups:∀b xs,H b=some (.tup xs)->H' b=some (.tup xs)) (TL:∀b o u,H b=some (.frz o u)->H' b=some (.frz o u)) (TR:∀b ps,H b=some (.tbl ps)->∃more,H' b=some (.tbl (ps++more)))
 (ns:∀m,s.heap.Ns X.env.locals m->h'.Ns X.env.locals m) (hok:HOk X.prog X.w H' h') (hg:AllBare g') :
 Inv X U Y H' {s with heap:=h',gens:=g',drawn:=d',toks:=t' }:=by
 have neL:∀b o,X.s₀.heap.get? b=some o->b≠X.env.locals:=λb o e=>yC (yv (yn e) I.ok.above)
 have neC:∀b o,X.s₀.heap.get? b=some o->b∉X.ex->b∉ch:=λb o e hx hb=>by
  rcases(hch b hb).1 with z|z
  ·exact hx z
  ·exact absurd (yv (yn e) z) (Yk _)
 have cellK:∀x c,X.env.cells.lookup x=some c->∀v,s.heap.IsCell c v->h'.IsCell c v:=λx c e v ⟨o,ho,hd⟩=>by
  have nch:c∉ch:=λz=>(hch c z).2.2.1 x c e rfl
  by_cases hc:c∈X.fs
  ·obtain⟨sl,q⟩:=slot c o (I.cne x c e) hc nch ho (I.freeC x c e);exact⟨_,q,hd⟩
  ·exact⟨o,keep c o (I.cne x c e) hc nch ho (I.freeC x c e),hd⟩
 refine⟨I.ok,I.os,hg,⟨λb o e n hb hx=>?_,λb o e n hb hx=>?_,λb o e n hx=>?_,λb o e hx=>?_,λb xs e=>tups b xs (I.base.tups b xs e),λb o xs e=>TL b o xs (I.base.TL b o xs e),λb ps e=>?_⟩,?_,λx c e=>?_,?_,λx c e=>?_,λp hp=>?_,hok,I.len⟩
 ·exact keep b o (neL b o e) hb (neC b o e hx) (I.base.keep b o e n hb hx) (I.base.free b o e n hx)
 ·obtain⟨sl,e1⟩:=I.base.slot b o e n hb hx;obtain⟨sl',e2⟩:=slot b _ (neL b o e) hb (neC b o e hx) e1 (I.base.free b o e n hx);exact⟨sl',e2⟩
 ·obtain⟨o',e1⟩:=I.base.there b o e hx;exact free b o' (neC b o e hx) e1 (I.base.free b o e n hx)
 ·obtain⟨o',e1⟩:=I.base.there b o e hx;exact there b o' (neC b o e hx) e1
 ·obtain⟨m1,e1⟩:=I.base.TR b ps e;obtain⟨m2,e2⟩:=TR b _ e1;exact⟨m1++m2,by rw[e2,Array.append_assoc]⟩
 ·obtain⟨m,hn,hl⟩:=I.loc;refine⟨m,ns m hn,λi x v e1 e2 e3=>?_⟩;obtain⟨u,r,l⟩:=hl i x v e1 e2 e3;refine⟨u,r,?_⟩;rcases l with l|⟨k,c,e,z⟩
  ·exact .inl l
  ·exact .inr ⟨k,c,e,cellK x c e _ z⟩
 ·obtain⟨v,z⟩:=I.cell x c e;exact⟨v,cellK x c e v z⟩
 ·obtain⟨m,⟨o,_,_,ho,_⟩,_⟩:=I.loc;exact free _ o (λz=>(hch _ z).2.1 rfl) ho I.free
 ·obtain⟨v,o,ho,hd⟩:=I.cell x c e;exact free c o (λz=>(hch c z).2.2.1 x c e rfl) ho (I.freeC x c e)
 ·obtain⟨e,n,ne,nf,d⟩:=I.pin p hp;have nch:p.1∉ch:=λz=>(hch p.1 z).2.2.2 p hp rfl;exact⟨keep p.1 p.2 ne nf nch e n,free p.1 p.2 nch e n,ne,nf,d⟩
def Inv.un{t':Nat}(I:Inv X U Y H s)(u:Un X.fs [] H H' s.heap h')(hok:HOk X.prog X.w H' h'):Inv X U Y H' {s with heap:=h',toks:=t' }:=by
 obtain⟨m,⟨o,es,ep,ho,r⟩,_⟩:=id I.loc;obtain⟨sl,hL⟩:=u.any ho I.free (by simp)
 exact I.step (g':=s.gens) (d':=s.drawn) (ch:=[]) (λ_ z=>nomatch z) (λb o _ hb _ e n=>u.keep b o e n hb (by simp)) (λb o _ hb _ e n=>u.slot b o e n hb (by simp)) (λb o _ e n=>u.free b o e n (by simp)) (λb o _ e=>u.there b o e (by simp)) u.tups u.TL u.TR (λm' hm=>by
  obtain⟨o',es',ep',ho',r'⟩:=hm;rw[ho]at ho';cases ho';exact⟨_,es',ep',hL,r'⟩) hok I.bare
def Inv.call{g':Array GenState}{t':Nat}{d':Drawn}{ch:Qv}(I:Inv X U Y H s)(u:Un (frs X.stack) ch H H' s.heap h')(hok:HOk X.prog X.w H' h')(hg:AllBare g')
 (hch:∀b∈ch,(b∈X.ex\/X.s₀.heap.objs.size<=b)/\b≠X.env.locals/\(∀x c,X.env.cells.lookup x=some c->c≠b)/\∀p∈X.pn++U,p.1≠b) :
 Inv X U Y H' {s with heap:=h',gens:=g',drawn:=d',toks:=t' }:=by
 obtain⟨m,⟨o,es,ep,ho,r⟩,_⟩:=id I.loc;obtain⟨sl,hL⟩:=u.any ho I.free λz=>(hch _ z).2.1 rfl
 exact I.step (ch:=ch) hch (λb o hL hb hc e n=>u.keep b o e n (λz=>(List.mem_cons.mp (I.sR b z)).elim hL hb) hc) (λb o _ _ hc e n=>u.any e n hc) (λb o hc e n=>u.free b o e n hc) (λb o hc e=>u.there b o e hc) u.tups u.TL u.TR (λm' hm=>by
  obtain⟨o',es',ep',ho',r'⟩:=hm;rw[ho]at ho';cases ho';exact⟨_,es',ep',hL,r'⟩) hok hg
def Inv.turned{t':Nat}{it:yg}(I:Inv X U Y H s)(k:∀b o,b≠it->s.heap.get? b=some o->h'.get? b=some o)(hn:H it=none)(hL:it≠X.env.locals)
 (h1:it∈X.ex\/X.s₀.heap.objs.size<=it) (h2:∀x c,X.env.cells.lookup x=some c->c≠it) (h3:∀p∈X.pn++U,p.1≠it):Inv X U Y H {s with heap:=h',toks:=t' }:=by
 have nit:∀b u,H b=some u->b≠it:=λb u e z=>by rw[z,hn]at e;cases e
 refine I.step (g':=s.gens) (d':=s.drawn) (ch:=[it]) (λb hb=>?_) (λb o _ _ hc e _=>k b o (λz=>hc (by simp[z])) e) (λb o _ _ hc e _=>⟨o.slots,k b o (λz=>hc (by simp[z])) e⟩) (λ_ _ _ _ n=>n)
  (λb o hc e=>⟨o,k b o (λz=>hc (by simp[z])) e⟩) (λ_ _ e=>e) (λ_ _ _ e=>e) (λb ps e=>⟨#[],by rw[e];simp⟩) (λm hm=>?_) (λb u e=>?_) I.bare
 ·have e:b=it:=by simpa using hb
  subst e;exact⟨h1,hL,h2,h3⟩
 ·obtain⟨o,es,ep,ho,r⟩:=hm;exact⟨o,es,ep,k _ o (Yi hL) ho,r⟩
 ·refine(I.hok b u e).stay (λc v hc q=>k c v ?_ q) (λ_ q=>q) λ_ _ q=>q;rcases hc with z|z
  ·rw[z];exact nit b u e
  ·exact nit c _ z
def Inv.tok(I:Inv X U Y H s)(t:Nat):Inv X U Y H {s with toks:=t }:=I.un (h':=s.heap) (t':=t) Un.refl I.hok
def Inv.kept{t':Nat}(I:Inv X U Y H s)(k:∀b u,s.heap.get? b=some u->h'.get? b=some u):Inv X U Y H {s with heap:=h',toks:=t' }:=I.un (Un.kept k) (I.hok.kept k)
def Inv.laid{a:yg}{o:HO}{t':Nat}(I:Inv X U Y H s)(k:∀b u,s.heap.get? b=some u->h'.get? b=some u)(hp:s.heap.objs.size<=a)(new:tD X.prog X.w (upd H a o) h' a o) :
 Inv X U Y (upd H a o) {s with heap:=h',toks:=t' }:=I.un (Un.laid k hp (I.hok.fresh hp)) (I.hok.laid k hp new)
def Inv.write{x e:yg}{o:HO}{t':Nat}(I:Inv X U Y H s)(mu:Mut (H x))(he:e=x\/H e=some (.own x))(k:∀b u,b≠e->s.heap.get? b=some u->h'.get? b=some u)(heo:∃u,h'.get? e=some u)
 (new:tD X.prog X.w (upd H x o) h' x o):Inv X U Y (upd H x o) {s with heap:=h',toks:=t' }:=I.un (Un.write mu he k heo) (I.hok.write mu he k heo new)
def Inv.weak{Y':List (Option V)}(I:Inv X U Y H s)(hl:Y'.length=Y.length)(w:∀(i:Nat) v,Y'[i]?=some (some v)->Y[i]?=some (some v)):Inv X U Y' H s :=
 ⟨I.ok,I.os,I.bare,I.base,let ⟨m,hn,hl'⟩:=I.loc;⟨m,hn,λi x v e1 e2 e3=>hl' i x v e1 (w i v e2) e3⟩,I.cell,I.free,I.freeC,I.pin,I.hok,hl.trans I.len⟩
def Inv.sS{U':Qb}(I:Inv X U Y H s)(h:∀p∈U',s.heap.get? p.1=some p.2/\H p.1=none/\p.1≠X.env.locals/\p.1∉X.fs/\∀v,p.2.data≠.cell v):Inv X U' Y H s :=
 ⟨I.ok,I.os,I.bare,I.base,I.loc,I.cell,I.free,I.freeC,λp hp=>(List.mem_append.mp hp).elim (λz=>I.pin p (List.mem_append_left _ z)) (h p),I.hok,I.len⟩
def zAm{N:Qx}(hN:N.Nodup){i j:Nat}{x:yj}(a:N[i]?=some x)(b:N[j]?=some x):i=j:=by
 obtain⟨h1,e1⟩:=List.getElem?_eq_some_iff.mp a;obtain⟨h2,e2⟩:=List.getElem?_eq_some_iff.mp b;exact(List.getElem_inj hN).mp (e1.trans e2.symm)
def zXn{M:Model}{A:yH}{E:yb->yd->Prop}{i:Nat}{x:yj}{v:V}{u:yb}{Q:Unit->yd->Prop}(I:Inv X U Y H s)(hN:X.N.Nodup)(hi:X.N[i]?=some x)(hx:Loc X.env.scope x)(r:RelV v u)
 (h:∀s',Inv X U (Y.set i (some v)) H s'->(∃a,Yz a s.heap s'.heap/\(a=X.env.locals\/X.env.cells.lookup x=some a))->Q () s') (hf:X.fn x=true\/X.env.scope.names.lookup x=some .local:=by first|exact .inl rfl|exact .inr rfl|assumption):yp M A (storeName X.env x u) Q E s:=by
 obtain⟨m,hn,hl⟩:=id I.loc;have hcls:(X.env.scope.kind == .class||(X.env.scope.kind == .module&&X.env.locals != X.env.globals))=false:=by rw[I.ok.kind];rfl
 have hiσ:i<Y.length:=by rw[I.len];exact(List.getElem?_eq_some_iff.mp hi).1
 have cne:=I.cne
 have tracked:∀{a:yg} {h':yU},(∃o,s.heap.get? a=some o/\H a=none)->Yz a s.heap h'->HOk X.prog X.w H h':=λ{a h'} ha hs b ob e=>by
  obtain⟨_,_,kO⟩:=ha;refine(I.hok b ob e).stay (λc w' hc q=>(hs.2 c ?_).trans q) (λ_ q=>q) λ_ _ q=>q;rintro rfl;rcases hc with rfl|hc
  ·rw[kO]at e;cases e
  ·rw[kO]at hc;cases hc
 rcases hx with hk|hk
 ·refine wpAny_storeName_local hk hn (λh' hn' hs=>?_) hcls;obtain⟨oL,_,_,hoL,_⟩:=id hn;refine h _ ⟨I.ok,I.os,I.bare,⟨λb o e n hb hx=>?_,λb o e n hb hx=>?_,I.base.free,λb o e hx=>?_,I.base.tups,I.base.TL,I.base.TR⟩,⟨_,hn',λj y v' e1 e2 e3=>?_⟩,λy c e=>?_,I.free,I.freeC,λp hp=>?_,tracked ⟨oL,hoL,I.free⟩ hs,by simpa using I.len⟩ ⟨_,hs,.inl rfl⟩
  ·exact(hs.2 b (yC (yv (yn e) I.ok.above))).trans (I.base.keep b o e n hb hx)
  ·obtain⟨sl,e1⟩:=I.base.slot b o e n hb hx;exact⟨sl,(hs.2 b (yC (yv (yn e) I.ok.above))).trans e1⟩
  ·obtain⟨o',e1⟩:=I.base.there b o e hx;exact⟨o',(hs.2 b (yC (yv (yn e) I.ok.above))).trans e1⟩
  ·by_cases hj:j=i
   ·subst hj;rw[hi]at e1;cases e1;rw[yO hiσ]at e2;cases e2;exact⟨u,r,.inl ⟨hk,by simp⟩⟩
   ·rw[yQ (Yi hj)]at e2;obtain⟨u',r',q⟩:=hl j y v' e1 e2 e3;refine⟨u',r',?_⟩;rcases q with ⟨k,e⟩|⟨k,c,e,z⟩
    ·refine .inl ⟨k,?_⟩;have:y≠x:=λe=>hj (zAm hN e1 (e▸hi));simp[this,e]
    ·exact .inr ⟨k,c,e,z.sameBut hs (cne y c e)⟩
  ·obtain⟨w',z⟩:=I.cell y c e;exact⟨w',z.sameBut hs (cne y c e)⟩
  ·obtain⟨e,n,ne,nf,d⟩:=I.pin p hp;exact⟨(hs.2 p.1 ne).trans e,n,ne,nf,d⟩
 ·have hfn:X.fn x=true:=by
   rcases hf with z|z
   ·exact z
   ·rw[z]at hk;cases hk
  obtain⟨c,hc⟩:=I.ok.has x (.inl hk);obtain⟨w',z⟩:=I.cell x c hc;refine wpAny_storeName_cell I.ok.kind hk hc z (λh' hc' hs=>?_);obtain⟨oc,hoc,hocd⟩:=id z;refine h {s with heap:=h' } ⟨I.ok,I.os,I.bare,⟨λb o e n hb hx=>?_,λb o e n hb hx=>?_,I.base.free,λb o e hx=>?_,I.base.tups,I.base.TL,I.base.TR⟩,⟨m,hn.sameBut hs (Yi (cne x c hc)),λj y v' e1 e2 e3=>?_⟩,λy c' e=>?_,I.free,I.freeC,λp hp=>?_,tracked ⟨oc,hoc,I.freeC x c hc⟩ hs,by simpa using I.len⟩ ⟨c,hs,.inr hc⟩
  ·exact(hs.2 b (yC (yv (yn e) (I.ok.cab x c hfn hc)))).trans (I.base.keep b o e n hb hx)
  ·obtain⟨sl,e1⟩:=I.base.slot b o e n hb hx;exact⟨sl,(hs.2 b (yC (yv (yn e) (I.ok.cab x c hfn hc)))).trans e1⟩
  ·obtain⟨o',e1⟩:=I.base.there b o e hx;exact⟨o',(hs.2 b (yC (yv (yn e) (I.ok.cab x c hfn hc)))).trans e1⟩
  ·by_cases hj:j=i
   ·subst hj;rw[hi]at e1;cases e1;rw[yO hiσ]at e2;cases e2;exact⟨u,r,.inr ⟨.inl hk,c,hc,hc'⟩⟩
   ·rw[yQ (Yi hj)]at e2;obtain⟨u',r',q⟩:=hl j y v' e1 e2 e3;refine⟨u',r',?_⟩;rcases q with q|⟨k,c',e,z'⟩
    ·exact .inl q
    ·refine .inr ⟨k,c',e,z'.sameBut hs ?_⟩;rintro rfl;exact hj (zAm hN e1 (I.ok.inj _ _ _ e hc▸hi))
  ·by_cases hcc:c'=c
   ·subst hcc;exact⟨_,hc'⟩
   ·obtain⟨w2,z2⟩:=I.cell y c' e;exact⟨w2,z2.sameBut hs hcc⟩
  ·obtain⟨e,n,ne,nf,d⟩:=I.pin p hp;refine⟨(hs.2 p.1 ?_).trans e,n,ne,nf,d⟩;intro q;rw[q,hoc]at e;have q':oc=p.2:=Yn e;exact d w' (by rw[<-q'];exact hocd)
def zOh{M:Model}{A:yH}{E:yb->yd->Prop}{i:Nat}{x:yj}{v:V}{u:yb}{Q:Unit->yd->Prop}(I:Inv X U Y H s)(hN:X.N.Nodup)(hi:X.N[i]?=some x)(hx:Loc X.env.scope x)(r:RelV v u)
 (h:∀s',Inv X U (Y.set i (some v)) H s'->Q () s') (hf:X.fn x=true\/X.env.scope.names.lookup x=some .local:=by first|exact .inl rfl|exact .inr rfl|assumption):yp M A (storeName X.env x u) Q E s :=
 zXn I hN hi hx r (λs' I' _=>h s' I') hf
def Inv.SD{s':yd}{ch:Qv}(I:Inv X U Y H s)(ho:s'.os=s.os)(u:Un (frs X.stack) ch H H' s.heap s'.heap)(hok:HOk X.prog X.w H' s'.heap)(hg:AllBare s'.gens)
 (hch:∀b∈ch,(b∈X.ex\/X.s₀.heap.objs.size<=b)/\b≠X.env.locals/\(∀x c,X.env.cells.lookup x=some c->c≠b)/\∀p∈X.pn++U,p.1≠b):Inv X U Y H' s':=by
 obtain⟨h',g',d',t',o'⟩:=s';have e:o'=s.os:=ho;subst e;exact I.call (g':=g') (t':=t') (d':=d') u hok hg hch
end
abbrev XK:=yb->Qw->Hp->Prop
abbrev St:=List (Option V)
abbrev VK:=V->Hp->Prop
abbrev TE:=St->Hp->VK->Prop
abbrev TT:=St->Hp->(Bool->Hp->Prop)->Prop
abbrev TA:=St->Hp->(Wi->Hp->Prop)->Prop
structure Ends where
 nx:St->Hp->Prop
 rt:VK
 bk:St->Hp->Prop:=λ_ _=>False
 ct:St->Hp->Prop:=λ_ _=>False
abbrev TS:=Ends->St->Hp->Prop
def EP(X:Cx)(U:Qb)(Y:St)(Q:VK)(u:yb)(s':yd):Prop:=∃v H',Inv X U Y H' s'/\RelV v u/\Q v H'
def TP(X:Cx)(U:Qb)(Y:St)(Q:Bool->Hp->Prop)(b:Bool)(s':yd):Prop:=∃H',Inv X U Y H' s'/\Q b H'
def AP(X:Cx)(U:Qb)(Y:St)(Q:Wi->Hp->Prop)(us:List yb)(s':yd):Prop:=∃vs H',Inv X U Y H' s'/\Vals vs us/\Q vs H'
def SP(X:Cx)(U:Qb)(D:Ends)(f:Flow)(s':yd):Prop :=
 match f with
 |.next=>∃Y' H',Inv X U Y' H' s'/\D.nx Y' H'
 |.brk=>∃Y' H',Inv X U Y' H' s'/\D.bk Y' H'
 |.cont=>∃Y' H',Inv X U Y' H' s'/\D.ct Y' H'
 |.ret u=>∃v Y' H',Inv X U Y' H' s'/\RelV v u/\D.rt v H'
def PE(X:Cx)(e:yB)(t:TE):Prop :=
 ∀(U:Qb) (s:yd) (Y:St) (H:Hp) (Q:VK),Inv X U Y H s->t Y H Q->yp (yx X.prog X.w) X.A (yV e X.env) (EP X U Y Q) X.xe s
def PT(X:Cx)(e:yB)(t:TT):Prop :=
 ∀(U:Qb) (s:yd) (Y:St) (H:Hp) (Q:Bool->Hp->Prop),Inv X U Y H s->t Y H Q->yp (yx X.prog X.w) X.A (isTrue e X.env (yV e X.env)) (TP X U Y Q) X.xe s
def PW(X:Cx)(e:yB)(t:TT):Prop :=
 ∀(whole:Sem yb)(U:Qb) (s:yd) (Y:St) (H:Hp) (Q:Bool->Hp->Prop),Inv X U Y H s->t Y H Q->yp (yx X.prog X.w) X.A (isTrue e X.env whole) (TP X U Y Q) X.xe s
def PA(X:Cx)(es:Qz)(t:TA):Prop :=
 ∀(pos:YZ)(U:Qb) (s:yd) (Y:St) (H:Hp) (Q:Wi->Hp->Prop),Inv X U Y H s->t Y H Q->yp (yx X.prog X.w) X.A (spliced (yW pos (yh es X.env))) (AP X U Y Q) X.xe s
def PS(X:Cx)(st:yR)(t:TS):Prop :=
 ∀(U:Qb) (s:yd) (Y:St) (H:Hp) (D:Ends),Inv X U Y H s->t D Y H->yp (yx X.prog X.w) X.A (exec st X.env) (SP X U D) X.xe s
def PSs(X:Cx)(st:Wc)(t:TS):Prop :=
 ∀(U:Qb) (s:yd) (Y:St) (H:Hp) (D:Ends),Inv X U Y H s->t D Y H->yp (yx X.prog X.w) X.A (execs st X.env) (SP X U D) X.xe s
def thn{α:Type}{t:Sem α}{Q Q':α->yd->Prop}{M:Model}{A:yH}{E:yb->yd->Prop}{s:yd}(h:yp M A t Q E s)(hQ:∀a s,Q a s->Q' a s):yp M A t Q' E s:=yZ h hQ λ_ _ x=>x
section
variable {X:Cx}
def zez(i:Nat):TE:=λY H Q=>∃v,Y[i]?=some (some v)/\Q v H
def tC(v:V):TE:=λ_ H Q=>Q v H
def zgx{i:Nat}{x:yj}{pos:YZ}(hN:X.N[i]?=some x)(hv:Vis X.env.scope x)(hd:(x==("__debug__":yj))=false:=by decide)(hcd:(x==("__classdict__":yj))=false:=by decide):PE X (.Name x pos) (zez i):=by
 intro U s Y H Q I h;obtain⟨v,e,h⟩:=h;obtain⟨m,hn,hl⟩:=I.loc;obtain⟨u,r,l⟩:=hl i x v hN e hv;have fin:EP X U Y Q u s:=⟨v,H,I,r,h⟩
 rcases l with ⟨hk,hm⟩|⟨hk,c,hc,hcell⟩
 ·exact wpAny_Name (wpAny_loadName_local I.ok.kind hk hn hm fin) hd
 ·rcases hk with hk|hk
  ·exact wpAny_Name (wpAny_loadName_cell I.ok.kind hk hc hcell fin) hd
  ·exact wpAny_Name (wpAny_loadName_free I.ok.kind hk hc hcell fin hcd) hd
def z1A{i j pos}:PE X (.Constant (.int i) j pos) (tC (.int i)):=λ_ _ _ H _ I h=>wpAny_Constant_int ⟨.int i,H,I.tok _,⟨_,rfl⟩,h⟩
def zQB{b j pos}:PE X (.Constant (.bool b) j pos) (tC (.bl b)):=λ_ _ _ H _ I h=>Constant_bool ⟨.bl b,H,I,rfl,h⟩
def zNz{j pos}:PE X (.Constant .none j pos) (tC .non):=λ_ _ _ H _ I h=>Constant_none ⟨.non,H,I,rfl,h⟩
def zzu{x j pos}:PE X (.Constant (.str x) j pos) (tC (.str x)):=λ_ _ _ H _ I h=>Calls.Constant_str ⟨.str x,H,I.tok _,⟨_,rfl⟩,h⟩
def Gl(X:Cx)(x:yj):Prop:=X.env.kindOf x=some .globalImplicit
def zpf{E:yb->yd->Prop}{U:Qb}{s:yd}{Y:St}{H:Hp}{x:yj}{u:yb}{pos:YZ}{Q:yb->yd->Prop}(I:Inv X U Y H s)(hg:Gl X x)(hm:X.mg x=some u)(h:Q u s)
 (hd:(x==("__debug__":yj))=false:=by decide):yp (yx X.prog X.w) X.A (yV (.Name x pos) X.env) Q E s :=
 Calls.Name_function_global I.ok.kind hg (Calls.loadGlobal_global (by rw[I.ok.glob];exact I.mod.glob.keeps I.bk) hm h) hd
def zmk{E:yb->yd->Prop}{U:Qb}{s:yd}{Y:St}{H:Hp}{x:yj}{u:yb}{pos:YZ}{Q:yb->yd->Prop}(I:Inv X U Y H s)(hg:Gl X x)(hm:X.mg x=none)(hv:yK x=some u)(h:Q u s)
 (hn:x≠"__name__":=by decide) (hd:(x==("__debug__":yj))=false:=by decide):yp (yx X.prog X.w) X.A (yV (.Name x pos) X.env) Q E s:=by
 obtain⟨mb,h1,h2⟩:=I.mod.blt;exact Calls.Name_function_global I.ok.kind hg (Calls.loadGlobal_builtin (by rw[I.ok.glob];exact I.mod.glob.keeps I.bk) hm (by rw[I.ok.blt];exact h1.keeps I.bk) ((h2 x hn).trans hv) h) hd
def zVp{x:yj}{v:V}{u:yb}{pos:YZ}(hg:Gl X x)(hm:X.mg x=some u)(r:RelV v u)(hd:(x==("__debug__":yj))=false:=by decide):PE X (.Name x pos) (tC v) :=
 λ_ _ _ H _ I h=>zpf I hg hm ⟨v,H,I,r,h⟩ hd
def zxy{x:yj}{v:V}{u:yb}{pos:YZ}(hg:Gl X x)(hm:X.mg x=none)(hv:yK x=some u)(r:RelV v u)(hn:x≠"__name__":=by decide)(hd:(x==("__debug__":yj))=false:=by decide):PE X (.Name x pos) (tC v) :=
 λ_ _ _ H _ I h=>zmk I hg hm hv ⟨v,H,I,r,h⟩ hn hd
variable {a b:yB}{ta tb:TE}{pos:YZ}
def sZ(b:yB){op:CmpOp}(h:op≠.In)(h2:op≠.NotIn):behindInMarks op b=false:=by
 have e1:(op==CmpOp.In)=false:=by cases op<;>first|rfl|exact absurd rfl h
 have e2:(op==CmpOp.NotIn)=false:=by cases op<;>first|rfl|exact absurd rfl h2
 cases b<;>simp[behindInMarks,e1,e2]
def tB(t:TE):TT:=λY H Q=>t Y H λx H1=>∃c,x=.bl c/\Q c H1
def z3A{e:yB}{t:TE}(h:PE X e t)(he:∀whole,isTrue e X.env whole=(do let v <-whole;standAt e.pos;xO [v] (truthy v)):=by intro _;rfl):PT X e (tB t):=by
 intro U s Y H Q I hw;refine isTrue_plain (thn (h U s Y H _ I hw) λv s1 ⟨x,H1,I1,r1,q1⟩=>?_) (he _);obtain⟨d,rfl,q⟩:=q1;cases r1;exact YS ⟨H1,I1,q⟩
variable {tA tB':TT}{rest:Qz}
def zKC(t u:TT):TT:=λY H Q=>t Y H λc H1=>if c=true then u Y H1 Q else Q false H1
def tOr(t u:TT):TT:=λY H Q=>t Y H λc H1=>if c=true then Q true H1 else u Y H1 Q
def zSC(t:TT):TT:=λY H Q=>t Y H λc H1=>Q (!c) H1
def zUy(ha:PT X a tA):PW X (.BoolOp .And [a] pos) tA:=by
 intro wh U s Y H Q I h;refine isTrue_and (thn (ha U s Y H Q I h) λc s1 e=>?_)
 cases c with
 |true=>exact isTrue_and_nil e
 |false=>exact e
def zlz(ha:PT X a tA):PW X (.BoolOp .Or [a] pos) tA:=by
 intro wh U s Y H Q I h;refine isTrue_or (thn (ha U s Y H Q I h) λc s1 e=>?_)
 cases c with
 |false=>exact isTrue_or_nil e
 |true=>exact e
def zwz(ha:PT X a tA)(hb:PW X (.BoolOp .And (b::rest) pos) tB'):PW X (.BoolOp .And (a::b::rest) pos) (zKC tA tB'):=by
 intro wh U s Y H Q I h;refine isTrue_and (thn (ha U s Y H _ I h) λc s1 ⟨H1,I1,q1⟩=>?_)
 cases c with
 |true=>exact hb wh U s1 Y H1 Q I1 q1
 |false=>exact⟨H1,I1,q1⟩
def zDB(ha:PT X a tA)(hb:PW X (.BoolOp .Or (b::rest) pos) tB'):PW X (.BoolOp .Or (a::b::rest) pos) (tOr tA tB'):=by
 intro wh U s Y H Q I h;refine isTrue_or (thn (ha U s Y H _ I h) λc s1 ⟨H1,I1,q1⟩=>?_)
 cases c with
 |true=>exact⟨H1,I1,q1⟩
 |false=>exact hb wh U s1 Y H1 Q I1 q1
def z8z(ha:PT X a tA):PT X (.UnaryOp .Not a pos) (zSC tA):=by
 intro U s Y H Q I h;exact isTrue_not (ha U s Y H (λc H1=>Q (!c) H1) I h)
def zlB(ta tb:TE):TE:=λY H Q=>ta Y H λx H1=>∃c,x=.bl c/\if c=true then tb Y H1 Q else Q (.bl false) H1
def zqB(ta:TE):TE:=λY H Q=>ta Y H λx H1=>∃c,x=.bl c/\Q (.bl (!c)) H1
def zOz{op}{t:TE}(h:PE X a t):PE X (.BoolOp op [a] pos) t:=λU s Y H Q I hw=>BoolOp_one (h U s Y H Q I hw)
def ztz(ha:PE X a ta)(hb:PE X (.BoolOp .And (b::rest) pos) tb):PE X (.BoolOp .And (a::b::rest) pos) (zlB ta tb):=by
 intro U s Y H Q I h;refine BoolOp_and (thn (ha U s Y H _ I h) λv s1 ⟨x,H1,I1,r1,q1⟩=>?_);obtain⟨c,rfl,q1⟩:=q1;cases r1;refine YS ?_
 cases c with
 |true=>exact hb U s1 Y H1 Q I1 q1
 |false=>exact⟨.bl false,H1,I1,rfl,q1⟩
def z7z(ha:PE X a ta):PE X (.UnaryOp .Not a pos) (zqB ta):=by
 intro U s Y H Q I h;refine UnaryOp_ (thn (ha U s Y H _ I h) λv s1 ⟨x,H1,I1,r1,q1⟩=>?_);obtain⟨c,rfl,q1⟩:=q1;cases r1;exact not_of (YS ⟨.bl (!c),H1,I1,rfl,q1⟩)
def tIf(t:TT)(ta tb:TE):TE:=λY H Q=>t Y H λc H1=>if c=true then ta Y H1 Q else tb Y H1 Q
def zkw{c:yB}(hc:PT X c tA)(ha:PE X a ta)(hb:PE X b tb):PE X (.IfExp c a b pos) (tIf tA ta tb):=by
 intro U s Y H Q I h;refine wpAny_IfExp (thn (hc U s Y H _ I h) λd s1 ⟨H1,I1,q1⟩=>?_)
 cases d with
 |true=>exact ha U s1 Y H1 Q I1 q1
 |false=>exact hb U s1 Y H1 Q I1 q1
end
def SqL(K:yt)(H:Hp)(a:yg)(xs:Wi):Prop :=
 Rd H a (.lst xs) \/
  ∃(o:YH)(hW:Array yb)(n:Nat),K.lookup a=some o/\o.cls=.type "list"/\o.dict=none/\o.data=.seq hW n/\hW.size<=yD/\Vals xs hW.toList
def SqT(K:yt)(H:Hp)(a:yg)(xs:Wi):Prop :=
 Rd H a (.tup xs) \/
  ∃(o:YH)(hW:Array yb)(n:Nat),K.lookup a=some o/\o.cls=.type "tuple"/\o.data=.seq hW n/\hW.size<=yD/\Vals xs hW.toList
def ztC:yb->Option V
 |.none=>some .non
 |.bool b=>some (.bl b)
 |.int i _=>some (.int i)
 |.str x _=>some (.str x)
 |.bytes b _=>some (.byt b)
 |.float b _=>some (.flt b)
 |.ref a=>some (.ref a)
 |.type n=>some (.ty n)
 |_=>none
def RelV.abs{x:V}{u:yb}(r:RelV x u):ztC u=some x:=by
 cases x with
 |non=>cases r;rfl
 |bl _=>cases r;rfl
 |int _=>obtain⟨t,rfl⟩:=r;rfl
 |str _=>obtain⟨t,rfl⟩:=r;rfl
 |byt _=>obtain⟨t,rfl⟩:=r;rfl
 |flt _=>obtain⟨t,rfl⟩:=r;rfl
 |ref _=>cases r;rfl
 |ty _=>cases r;rfl
def RelV.inj{x y:V}{u:yb}(r:RelV x u)(q:RelV y u):x=y:=Yn (r.abs.symm.trans q.abs)
def Vals.inj{xs ys:Wi}{us:List yb}(h:Vals xs us):Vals ys us->xs=ys:=by
 induction h generalizing ys with
 |nil=>intro h;cases h;rfl
 |cons r _ ih=>
  intro h
  cases h with
  |cons r' t'=>rw[r.inj r',ih t']
section
variable {X:Cx}{U:Qb}{Y:St}{H:Hp}{s:yd}{a:yg}{xs ys:Wi}
def SqL.of{K:yt}(h:H a=some (.lst xs)):SqL K H a xs:=.inl (.inl h)
def SqT.of{K:yt}(h:H a=some (.tup xs)):SqT K H a xs:=.inl (.inl h)
def Inv.list(I:Inv X U Y H s)(h:SqL X.K H a xs):∃hW:List yb,Vals xs hW/\PlainL s.heap a hW.toArray/\xs.length<=yD:=by
 rcases h with h|⟨o,hW,n,hk,hc,hd,hs,hz,r⟩
 ·obtain⟨z,hW,n,r,e⟩:=h.ok I.hok;exact⟨hW,r,⟨_,n,e,rfl,rfl,rfl⟩,z⟩
 ·refine⟨hW.toList,r,⟨o,n,I.kIn a o hk,hc,hd,by simpa using hs⟩,?_⟩;have e:=r.length;simp only[xo]at e;omega
def Inv.tuple(I:Inv X U Y H s)(h:SqT X.K H a xs):∃hW:List yb,Vals xs hW/\IsTup s.heap a hW.toArray/\xs.length<=yD:=by
 rcases h with h|⟨o,hW,n,hk,hc,hs,hz,r⟩
 ·obtain⟨z,hW,r,p⟩:=h.ok I.hok;exact⟨hW,r,p,z⟩
 ·refine⟨hW.toList,r,⟨o,I.kIn a o hk,hc,n,by simpa using hs⟩,?_⟩;have e:=r.length;simp only[xo]at e;omega
def Inv.Sa(I:Inv X U Y H s)(h:SqL X.K H a xs)(h':SqL X.K H a ys):xs=ys:=by
 obtain⟨hW,r,⟨o,n,e,_,_,d⟩,_⟩:=I.list h;obtain⟨hW',r',⟨o',n',e',_,_,d'⟩,_⟩:=I.list h';rw[e]at e';cases e';rw[d]at d';injection d' with d1 _;have:hW=hW':=by simpa using congrArg Array.toList d1
 subst this;exact r.inj r'
def Inv.sK(I:Inv X U Y H s)(h:SqT X.K H a xs)(h':SqT X.K H a ys):xs=ys:=by
 obtain⟨hW,r,⟨o,e,_,n,d⟩,_⟩:=I.tuple h;obtain⟨hW',r',⟨o',e',_,n',d'⟩,_⟩:=I.tuple h';rw[e]at e';cases e';rw[d]at d';injection d' with d1 _;have:hW=hW':=by simpa using congrArg Array.toList d1
 subst this;exact r.inj r'
end
abbrev Cx.sA(X:Cx)(E:yb->yd->Prop):Cx:={X with xe:=E }
abbrev Cx.nox(X:Cx):Cx:=X.sA λ_ _=>False
def Cx.Ok.sA{X:Cx}(ok:X.Ok)(E:yb->yd->Prop):(X.sA E).Ok :=
 ⟨ok.mod,ok.kind,ok.glob,ok.blt,ok.above,ok.inj,ok.has,ok.cab,ok.hd,ok.frames,ok.stk,ok.exf,ok.bs,ok.bsz,ok.Sy,ok.SC,ok.ss,ok.frf⟩
def Cx.Ok.TD{X:Cx}{E:yb->yd->Prop}(ok:(X.sA E).Ok):X.Ok :=
 ⟨ok.mod,ok.kind,ok.glob,ok.blt,ok.above,ok.inj,ok.has,ok.cab,ok.hd,ok.frames,ok.stk,ok.exf,ok.bs,ok.bsz,ok.Sy,ok.SC,ok.ss,ok.frf⟩
section
variable {X:Cx}{U:Qb}{Y:St}{H:Hp}{s:yd}{E:yb->yd->Prop}
def Inv.sA(I:Inv X U Y H s)(E:yb->yd->Prop):Inv (X.sA E) U Y H s:=⟨I.ok.sA E,I.os,I.bare,I.base,I.loc,I.cell,I.free,I.freeC,I.pin,I.hok,I.len⟩
def Inv.TD(I:Inv (X.sA E) U Y H s):Inv X U Y H s:=⟨I.ok.TD,I.os,I.bare,I.base,I.loc,I.cell,I.free,I.freeC,I.pin,I.hok,I.len⟩
def SP.TD{D:Ends}{f:Flow}{s':yd}(h:SP (X.sA E) U D f s'):SP X U D f s':=by
 cases f with
 |next=>obtain⟨Y',H',I,q⟩:=h;exact⟨Y',H',I.TD,q⟩
 |brk=>obtain⟨Y',H',I,q⟩:=h;exact⟨Y',H',I.TD,q⟩
 |cont=>obtain⟨Y',H',I,q⟩:=h;exact⟨Y',H',I.TD,q⟩
 |ret u=>obtain⟨v,Y',H',I,r,q⟩:=h;exact⟨v,Y',H',I.TD,r,q⟩
def PSs.nox{st:Wc}{t:TS}(h:PSs X.nox st t):PSs X st t:=λU s Y H D I hw=>
 yZ (h U s Y H D (I.sA _) hw) (λ_ _ q=>q.TD) λ_ _ z=>yN z
variable {st:yR}{rest:Wc}{t u:TS}{e:yB}{te:TE}{pos:YZ}
def zbC:TS:=λD Y H=>D.nx Y H
def zOC(t u:TS):TS:=λD Y H=>t {D with nx:=u D } Y H
def ztx:PSs X [] zbC:=λ_ _ Y H _ I h=>xW ⟨Y,H,I,h⟩
def zHq(h1:PS X st t)(h2:PSs X rest u):PSs X (st::rest) (zOC t u):=by
 intro U s Y H D I h;refine wpAny_execs_cons (thn (h1 U s Y H {D with nx:=u D } I h) λf s1 q=>?_)
 cases f with
 |next=>
  obtain⟨Y',H',I',q⟩:=q;exact h2 U s1 Y' H' D I' q
 |ret v=>exact q
 |brk=>exact q
 |cont=>exact q
def zen(h1:PS X st t):PSs X [st] t:=by
 intro U s Y H D I h;refine wpAny_execs_cons (thn (h1 U s Y H D I h) λf s1 q=>?_)
 cases f with
 |next=>exact xW q
 |ret v=>exact q
 |brk=>exact q
 |cont=>exact q
def Inv.quiet{U:Qb}{Y:St}{H:Hp}{s:yd}(I:Inv X U Y H s):interactive X.env=false:=by simp[interactive,I.ok.kind]
def ziB(te:TE):TS:=λD Y H=>te Y H λ_ H1=>D.nx Y H1
def ziu(he:PE X e te)(hs:xD e none pos.line X.env=pure false:=by rfl):PS X (.Expr e pos) (ziB te):=by
 intro U s Y H D I h;exact wpAny_Expr_any (thn (he U s Y H _ I h) λv s1 ⟨x,H1,I1,r1,q1⟩=>⟨Y,H1,I1,q1⟩) I.quiet hs
def zpC(te:TE):TS:=λD Y H=>te Y H D.rt
def zTu(he:PE X e te):PS X (.Return (some e) pos) (zpC te):=by
 intro U s Y H D I h;exact wpAny_Return_some (thn (he U s Y H _ I h) λv s1 ⟨x,H1,I1,r1,q1⟩=>⟨x,Y,H1,I1,r1,q1⟩)
def zMC(c:TT)(t u:TS):TS:=λD Y H=>c Y H λb H1=>if b=true then t D Y H1 else u D Y H1
def z0B{c:yB}{a b:Wc}{tc:TT}(hc:PT X c tc)(ha:PSs X a t)(hb:PSs X b u):PS X (.If c a b pos) (zMC tc t u):=by
 intro U s Y H D I h;refine wpAny_If (thn (hc U s Y H _ I h) λd s1 ⟨H1,I1,q1⟩=>?_)
 cases d with
 |true=>exact ha U s1 Y H1 D I1 q1
 |false=>exact hb U s1 Y H1 D I1 q1
def zZA:TS:=λ_ _ _=>False
def zyv:PS X st zZA:=λ_ _ _ _ _ _ h=>h.elim
end
abbrev TG:=V->St->Hp->(St->Hp->Prop)->Prop
abbrev TGs:=Wi->St->Hp->(St->Hp->Prop)->Prop
def PG(X:Cx)(target:yB)(t:TG):Prop :=
 ∀(U:Qb) (s:yd) (Y:St) (H:Hp) (v:V) (u:yb) (Q:St->Hp->Prop),Inv X U Y H s->RelV v u->t v Y H Q ->
  yp (yx X.prog X.w) X.A (assign target X.env u) (λ_ s'=>∃Y' H',Inv X U Y' H' s'/\Q Y' H') X.xe s
def PGs(X:Cx)(ts:Qz)(t:TGs):Prop :=
 ∀(U:Qb) (s:yd) (Y:St) (H:Hp) (vs:Wi) (us:List yb) (Q:St->Hp->Prop),Inv X U Y H s->Vals vs us->t vs Y H Q ->
  yp (yx X.prog X.w) X.A (assignInOrder ((YT ts X.env).map (·.2)) us) (λ_ s'=>∃Y' H',Inv X U Y' H' s'/\Q Y' H') X.xe s
abbrev z1B:=V->V->V->Hp->(Hp->Prop)->Prop
def zTB(X:Cx)(t:z1B):Prop :=
 ∀(U:Qb) (s:yd) (Y:St) (H:Hp) (o i v:V) (ov iv u:yb) (Q:Hp->Prop),Inv X U Y H s->RelV o ov->RelV i iv->RelV v u->t o i v H Q ->
  yp (yx X.prog X.w) X.A (setItem ov iv u) (λ_ s'=>∃H',Inv X U Y H' s'/\Q H') X.xe s
abbrev TIp:=V->V->Hp->VK->Prop
def PIp(X:Cx)(op:Operator)(t:TIp):Prop :=
 ∀(U:Qb) (s:yd) (Y:St) (H:Hp) (x y:V) (v u:yb) (Q:VK),Inv X U Y H s->RelV x v->RelV y u->t x y H Q ->
  yp (yx X.prog X.w) X.A (inplaceOp op v u) (EP X U Y Q) X.xe s
section
variable {X:Cx}{pos:YZ}
def zew(i:Nat):TG:=λv Y H Q=>Q (Y.set i (some v)) H
def z6o{i:Nat}{x:yj}(hN:X.N.Nodup)(hi:X.N[i]?=some x)(hx:Loc X.env.scope x)(hf:X.fn x=true\/X.env.scope.names.lookup x=some .local:=by first|exact .inl rfl|exact .inr rfl|assumption):PG X (.Name x pos) (zew i):=by
 intro U s Y H v u Q I r h;exact wpAny_assign_Name (zOh I hN hi hx r (λs' I'=>⟨_,H,I',h⟩) hf)
def zVC:TGs:=λvs Y H Q=>vs=[]/\Q Y H
def zNB(t:TG)(u:TGs):TGs:=λvs Y H Q=>∃v r,vs=v::r/\t v Y H λY' H'=>u r Y' H' Q
def zXs:PGs X [] zVC:=by
 intro U s Y H vs us Q I r h;obtain⟨e,h⟩:=h;subst e;cases r;exact assignInOrder_nil ⟨Y,H,I,h⟩
def zTq{e:yB}{es:Qz}{t:TG}{u:TGs}(h1:PG X e t)(h2:PGs X es u)
 (hs:(YT (e::es) X.env).map (·.2)=assign e X.env::(YT es X.env).map (·.2):=by rfl):PGs X (e::es) (zNB t u):=by
 intro U s Y H vs us Q I r h;obtain⟨v,vr,e1,h⟩:=h;subst e1
 cases r with
 |cons r rr=>
  rw[hs];refine assignInOrder_cons (thn (h1 U s Y H _ _ _ I r h) λ_ s1 ⟨Y1,H1,I1,q1⟩=>?_);exact h2 U s1 Y1 H1 _ _ Q I1 rr q1
def zCC(K:yt)(n:Nat)(t:TGs):TG:=λv Y H Q=>∃a xs,v=.ref a/\SqT K H a xs/\xs.length=n/\t xs Y H Q
def zox{es:Qz}{k:Nat}{t:TGs}{n:Nat}(hc:X.calm=true)(h:PGs X es t)
 (hn:(YT es X.env).length=n:=by rfl) (kT:(YT es X.env).findIdx? (·.1)=none:=by rfl):PG X (.Tuple es k pos) (zCC X.K n t):=by
 intro U s Y H v u Q I r hw;obtain⟨a,xs,e1,hq,hl,hw⟩:=hw;subst e1;cases r;obtain⟨hW,rv,ht,hz⟩:=I.tuple hq;refine assign_Tuple_tuple (I.ok.hd hc) ht (by simp[hn,<-hl,rv.length]) kT λh' hx=>?_;have I1:Inv X U Y H {s with heap:=h' }:=I.kept (t':=s.toks) λb o e=>hx b o (yC (yn e)) e;exact h U _ Y H xs _ Q I1 (by simpa using rv) hw
def zxs(to ti:TE)(t:z1B):TG:=λv Y H Q=>to Y H λo H1=>ti Y H1 λi H2=>t o i v H2 λH3=>Q Y H3
def z3w{o i:yB}{to ti:TE}{t:z1B}(ho:PE X o to)(hi:PE X i ti)(hs:zTB X t)
 (ha:∀v,assign (.Subscript o i pos) X.env v=(do
  let ov <-xO [v] (yV o X.env)
  let iv <-xO [v,ov] (yV i X.env)
  standAt pos
  xO [v,ov,iv] (setItem ov iv v)
  release [v,ov,iv] []):=by intro _;rfl):PG X (.Subscript o i pos) (zxs to ti t):=by
 intro U s Y H v u Q I r h;rw[ha];refine ya (Yl (thn (ho U s Y H _ I h) λov s1 ⟨x,H1,I1,r1,q1⟩=>?_));refine ya (Yl (thn (hi U s1 Y H1 _ I1 q1) λiv s2 ⟨y,H2,I2,r2,q2⟩=>?_));refine ya (xf (ya (Yl (thn (hs U s2 Y H2 x y v ov iv u _ I2 r1 r2 r q2) λ_ s3 ⟨H3,I3,q3⟩=>?_))));exact wpAny_release ⟨Y,H3,I3,q3⟩
def ztB(te:TE)(g:TG):TS:=λD Y H=>te Y H λx H1=>g x Y H1 D.nx
def zFz{tg e:yB}{te:TE}{g:TG}(he:PE X e te)(hg:PG X tg g)(hs:swapsWithSole [tg] e pos.line X.env=pure false:=by rfl)(hw:swappedStores [tg] e X.env=pure none:=by rfl)
 (h1:(YT [tg] X.env).map (·.2)=[assign tg X.env]:=by rfl):PS X (.Assign [tg] e pos) (ztB te g):=by
 intro U s Y H D I h;refine wpAny_Assign_stores (thn (he U s Y H _ I h) λv s1 ⟨x,H1,I1,r1,q1⟩=>?_) hs hw;rw[h1];exact thn (hg U s1 Y H1 x v _ I1 r1 q1) λ_ s2 q=>q
def zRz{i:Nat}{x:yj}{e:yB}{te:TE}{pos':YZ}(hN:X.N.Nodup)(hi:X.N[i]?=some x)(hx:Loc X.env.scope x)(he:PE X e te)(hs:xD e (some (.Name x pos')) pos.line X.env=pure false:=by rfl)(hf:X.fn x=true\/X.env.scope.names.lookup x=some .local:=by first|exact .inl rfl|exact .inr rfl|assumption) :
 PS X (.Assign [.Name x pos'] e pos) (ztB te (zew i)):=by
 intro U s Y H D I h;refine wpAny_Assign_Name (thn (he U s Y H _ I h) λv s1 ⟨y,H1,I1,r1,q1⟩=>?_) hs;exact zOh I1 hN hi hx r1 (λs2 I2=>⟨_,H1,I2,q1⟩) hf
def zAC(i:Nat)(te:TE)(ti:TIp):TS:=λD Y H=>∃x,Y[i]?=some (some x)/\te Y H λy H1=>ti x y H1 λz H2=>D.nx (Y.set i (some z)) H2
def zIA{i:Nat}{x:yj}{e:yB}{te:TE}{op:Operator}{ti:TIp}{pos':YZ}(hN:X.N.Nodup)(hi:X.N[i]?=some x)(hx:Loc X.env.scope x)(he:PE X e te)(ho:PIp X op ti)(hf:X.fn x=true\/X.env.scope.names.lookup x=some .local:=by first|exact .inl rfl|exact .inr rfl|assumption) :
 PS X (.AugAssign (.Name x pos') op e pos) (zAC i te ti):=by
 intro U s Y H D I h;obtain⟨v,e1,h⟩:=h;obtain⟨m,hn,hl⟩:=I.loc;have vis:Vis X.env.scope x:=by rcases hx with k|k;exact .inl k;exact .inr (.inl k)
 obtain⟨u,r,l⟩:=hl i x v hi e1 vis;refine wpAny_AugAssign_Name ?_
 have go:yp (yx X.prog X.w) X.A (yV e X.env) (λw s₂=>yp (yx X.prog X.w) X.A (inplaceOp op u w) (λr s₃=>yp (yx X.prog X.w) X.A (storeName X.env x r) (λ_=>SP X U D .next) X.xe s₃) X.xe s₂) X.xe s:=by
  refine thn (he U s Y H _ I h) λw s1 ⟨y,H1,I1,r1,q1⟩=>?_;refine thn (ho U s1 Y H1 v y u w _ I1 r r1 q1) λz s2 ⟨zv,H2,I2,r2,q2⟩=>?_;exact zOh I2 hN hi hx r2 (λs3 I3=>⟨_,H2,I3,q2⟩) hf
 rcases l with ⟨hk,hm⟩|⟨hk,c,hc,hcell⟩
 ·exact wpAny_loadName_local I.ok.kind hk hn hm go
 ·rcases hk with hk|hk
  ·exact wpAny_loadName_cell I.ok.kind hk hc hcell go
  ·rcases hx with k|k
   ·have:X.env.scope.names.lookup x=some .free:=hk;rw[k]at this;cases this
   ·have:X.env.scope.names.lookup x=some .free:=hk;rw[k]at this;cases this
def zKz(c:TT)(tb:TS):TS:=λD Y H=>∃W:Nat->St->Hp->Prop,(∃m,W m Y H)/\∀m Y H,W m Y H ->
 c Y H λb H1=>if b=true then ∃N:St->Hp->Prop,(∀Y' H',N Y' H'->∃m',m'<m/\W m' Y' H')/\tb {D with nx:=N,ct:=N,bk:=D.nx } Y H1 else D.nx Y H1
def zhw{c:yB}{body:Wc}{tc:TT}{tb:TS}(hp:PassesOwn (yx X.prog X.w) X.A X.env X.xe)(hc:PT X c tc)(hb:PSs X body tb):PS X (.While c body [] pos) (zKz tc tb):=by
 intro U s Y H D I h;obtain⟨W,⟨m0,w0⟩,turn⟩:=h;refine wpAny_While (codeAny_whileLoop (λn s'=>∃Y' H',Inv X U Y' H' s'/\W n Y' H') ?_ m0 ⟨Y,H,I,w0⟩);rintro n s1 ⟨Y1,H1,I1,w1⟩;refine xE hp (thn (hc U s1 Y1 H1 _ I1 (turn n Y1 H1 w1)) λb s2 ⟨H2,I2,q2⟩=>?_)
 cases b with
 |true=>
  obtain⟨N,hN,q2⟩:=q2;rw[if_pos rfl];refine xE hp (thn (hb U s2 Y1 H2 _ I2 q2) λf s3 q3=>?_)
  cases f with
  |next=>
   obtain⟨Y3,H3,I3,n3⟩:=q3;obtain⟨m',hm,w3⟩:=hN Y3 H3 n3;exact⟨m',hm,Y3,H3,I3,w3⟩
  |cont=>
   obtain⟨Y3,H3,I3,n3⟩:=q3;obtain⟨m',hm,w3⟩:=hN Y3 H3 n3;exact⟨m',hm,Y3,H3,I3,w3⟩
  |brk=>exact q3
  |ret v=>exact q3
 |false=>
  rw[if_neg yF];exact xW ⟨Y1,H2,I2,q2⟩
end
structure It where
 go:Nat->Hp->Prop
 yld:Nat->Hp->V->Hp->Prop
 stop:Nat->Hp->Prop
 q:yH->Hp->Prop
def z0q(X:Cx)(U:Qb)(H:Hp)(b:yg):Prop :=
 H b=none/\b≠X.env.locals/\b∉X.fs/\(b∈X.ex\/X.s₀.heap.objs.size<=b)/\(∀x c,X.env.cells.lookup x=some c->c≠b)/\∀p∈X.pn++U,p.1≠b
def Inv.Sb{X:Cx}{U:Qb}{Y:St}{H H':Hp}{s:yd}{b:yg}(I:Inv X U Y H s)(hb:s.heap.objs.size<=b)(hn:H' b=none):z0q X U H' b:=by
 refine⟨hn,Yo (yv I.lt hb),I.nofs hb,.inr (yA I.sz hb),λx c e z=>?_,λp hp z=>?_⟩
 ·obtain⟨v,q⟩:=I.cell x c e;exact absurd (yv q.lt (by rw[z];exact hb)) (Yk _)
 ·exact absurd (yv (yn (I.pin p hp).1) (by rw[z];exact hb)) (Yk _)
structure Turn(P:yu)(w:yG)(K:yt)(tg:yB)(δ:It)(fp:Qv)(it:yg)(tn:Nat->yU->Prop):Prop where
 mem:it∈fp
 obj:∀i h,tn i h->∀b∈fp,∃o,h.get? b=some o/\∀v,o.data≠.cell v
 keep:∀i h h',tn i h->(∀b∈fp,∀o,h.get? b=some o->h'.get? b=some o)->tn i h'
 item:∀(X:Cx),X.prog=P->X.w=w->X.K=K->∀(i:Nat)(U:Qb) (s:yd) (Y:St) (H:Hp) (E:yb->yd->Prop),(X.calm=true\/δ.q X.A H)->Inv X U Y H s->(∀b∈fp,z0q X U H b)->tn i s.heap->δ.go i H ->
  yp (yx P w) X.A (pyNext (.ref it)) (λr s1=>∃u,r=some u /\
   yp (yx P w) X.A (letOwnedTupleGo tg (.ref it) u) (λ_ s2=>∃x H',Inv X U Y H' s2/\RelV x u/\δ.yld i H x H'/\tn (i+1) s2.heap/\∀b∈fp,H' b=none) E s1) E s
 done:∀(X:Cx),X.prog=P->X.w=w->X.K=K->∀(i:Nat)(U:Qb) (s:yd) (Y:St) (H:Hp) (E:yb->yd->Prop),(X.calm=true\/δ.q X.A H)->Inv X U Y H s->(∀b∈fp,z0q X U H b)->tn i s.heap->δ.stop i H ->
  yp (yx P w) X.A (pyNext (.ref it)) (λr s1=>r=none/\Inv X U Y H s1) E s
 self:∀(A:yH)(i:Nat)(s:yd)(Q:yb->yd->Prop)(E:yb->yd->Prop),tn i s.heap->Q (.ref it) s->yp (yx P w) A (pyIter (.ref it)) Q E s
abbrev TI:=St->Hp->(It->Hp->Prop)->Prop
def PIE(X:Cx)(U:Qb)(Y:St)(tg:yB)(R:It->Hp->Prop)(itv:yb)(s2:yd):Prop :=
 ∃(it:yg)(fp:Qv)(tn:Nat->yU->Prop)(δ:It)(H':Hp),itv=.ref it/\Inv X U Y H' s2/\Turn X.prog X.w X.K tg δ fp it tn/\tn 0 s2.heap/\(∀b∈fp,z0q X U H' b)/\R δ H'
def PI(X:Cx)(tg iter:yB)(wi:TI):Prop :=
 ∀(U:Qb) (s:yd) (Y:St) (H:Hp) (R:It->Hp->Prop),Inv X U Y H s->wi Y H R ->
  yp (yx X.prog X.w) X.A (yV iter X.env) (λv s1=>yp (yx X.prog X.w) X.A (pyIter v) (PIE X U Y tg R) X.xe s1) X.xe s
def zys{M:Model}{A:yH}{E:yb->yd->Prop}{s:yd}{tg:yB}{it:yg}{u:yb}{o:YH}{n:String}{vs:Array yb}{Q:Unit->yd->Prop}(ho:s.heap.get? it=some o)(hc:o.cls=.type n)(hd:o.data=.fields vs)
 (hn:["enumerate","zip","dict_itemiterator","dict_reverseitemiterator","odict_iterator","itertools.zip_longest","itertools.pairwise"].contains n=false) (hQ:Q () s):yp M A (letOwnedTupleGo tg (.ref it) u) Q E s:=by
 unfold letOwnedTupleGo
 cases tg<;>first
  |exact yi hQ
  |(cases u<;>first
   |exact yi hQ
   | (refine ya (wpAny_load ho ?_)
      rw[hc,hd];show yp M A (if(["enumerate","zip","dict_itemiterator","dict_reverseitemiterator","odict_iterator","itertools.zip_longest","itertools.pairwise"].contains n&&vs[0]?==some (YU _))=true then _ else _) Q E s;rw[if_neg (by intro h;rw[hn,Bool.false_and]at h;cases h)];exact yi hQ))
def zBA(A:yH)(h:yU):Prop:=∃a o vs,A.handled=some (.ref a)/\h.get? a=some o/\o.data=.fields vs/\vs[2]?=some .none
def zuq(A:yH)(H:Hp):Prop:=∃a p,A.handled=some (.ref a)/\H a=some (.ext p)/\∀h,p h->∃o vs,h.get? a=some o/\o.data=.fields vs/\vs[2]?=some .none
def zEm:entryFor table "proto.unchain"=some YN.«proto.unchain»:=entryFor_of_tree (by kernel_rfl)
def zVu{prog:yu}{w:yG}{A:yH}{E:yb->yd->Prop}{s:yd}{it l:yg}{i:Nat}{items}{Q:Option yb->yd->Prop}(hh:A.handled=none\/zBA A s.heap)(hit:s.heap.IsListIter it l i)(hl:s.heap.IsList l items)(hx:items[i]?=none)(hni:A.handled≠some (.ref it))
 (hQ:∀h',Heap.ExtBut it s.heap h'->Q none {s with heap:=h' }):yp (yx prog w) A (pyNext (.ref it)) Q E s:=by
 rcases hh with hh|⟨a,oa,us,hh,hoa,kU,hn2⟩
 ·exact wpAny_pyNext_list_end hh hit hl hx hQ
 have hai:a≠it:=λz=>hni (by rw[hh,z]);obtain⟨o,ho,hc,hd⟩:=id hit;obtain⟨ol,hol,_,nl,gK⟩:=hl;unfold pyNext
 refine ya (wpAny_attempt (Yp (name:=YV "__next__") hit.typeIs slot_listiter_next
  (Yj slot_listiter_next hit.typeIs entry_listiter_next ?_ (args_listiter_next _))))
 show yp _ _ (field (.ref it) 0 >>= _) _ _ s;refine ya (Yt ho hd (x:=.ref l) rfl ?_);show yp _ _ (if(yI l==Ym)=true then _ else _) _ _ s;rw[if_neg (show ¬((yI l==Ym)=true) from yF)];show yp _ _ (field (.ref it) 1 >>= _) _ _ s;refine ya (Yt ho hd (x:=.int i 0) rfl ?_);show yp _ _ (seqItems? (.ref l) >>= _) _ _ s;refine ya (wpAny_seqItems hol gK ?_);simp only[xH,hx];refine ya (wpAny_rule (ya (xu ho hd (by simp) ?_)));show yp _ _ (newExc (.type "StopIteration") [] >>= _) _ _ _;refine ya ?_;simp only[newExc,newTuple];refine ya (yX ?_ (by size_fits));refine ya (m:=Xk _ _) (wpAny_of_eq (a:=Ym) (by first|rfl|(simp only[Xk];rfl)) ?_);refine yX ?_ (by size_fits);simp only[raiseNew];refine ya (wpAny_handled ?_);rw[show A.in1.handled=some (.ref a) from hh];generalize hh1:s.heap.update it _=h1;have sb:Yz it s.heap h1:=hh1▸Heap.SameBut.update ..;have ka:h1.get? a=some oa:=(sb.2 a hai).trans hoa;generalize hg2:h1.push _=h2;have ka2:h2.get? a=some oa:=hg2▸ye _ ka;have hex:Heap.ExtBut it s.heap h2:=hg2▸sb.extBut.push _;generalize hoe:({cls:=.type "StopIteration",data:=_ }:YH)=oe;have ke:=yr h2 (o:=oe) (by subst hoe;rfl);have hae:a≠h2.objs.size:=yC (yn ka2);have ka3:(h2.push oe).get? a=some oa:=ye _ ka2;dsimp only;rw[if_pos (by simpa using hae)];refine ya (Yl (wpAny_runValue (xm (id:="proto.unchain") (b:=YN.«proto.unchain») zEm ?_)));show yp _ _ (field (.ref a) 2 >>= _) _ _ _;refine ya (Yt ka3 kU hn2 ?_);rw[if_pos (by decide)];refine yi ?_
 obtain⟨vs,hde,kW,hsz⟩:∃vs,oe.data=.fields vs/\oe.cls=.type "StopIteration"/\2<vs.size:=by
  subst hoe;exact⟨_,rfl,rfl,by simp[ownMembersOf]⟩
 refine ya (xu (i:=2) (x:=.ref a) ke hde hsz ?_);refine wpAny_throw ?_;refine ya (Xq (T:="StopIteration") (b:=true) ⟨_,Yb _ ke (xy (YK hde _)),(Obj.cls_mapFields ..).trans kW⟩ isSubtype_stop ?_)
 exact yi (hQ _ λb o' hb e=>by
  have e2:=ye oe (hex b o' hb e);rw[yY _ _ (Yo (yn (hex b o' hb e)))];exact e2)
def Itl(K:yt)(a:yg):It :=
 ⟨λi H=>∃xs x,SqL K H a xs/\xs[i]?=some x,λi H x H'=>H'=H/\∀xs,SqL K H a xs->xs[i]?=some x,λi H=>∃xs,SqL K H a xs/\xs.length<=i,zuq⟩
def Itt(K:yt)(a:yg):It :=
 ⟨λi H=>∃xs x,SqT K H a xs/\xs[i]?=some x,λi H x H'=>H'=H/\∀xs,SqT K H a xs->xs[i]?=some x,λi H=>∃xs,SqT K H a xs/\xs.length<=i,λ_ _=>False⟩
def Itr(lo:Int)(n:Nat):It:=⟨λi _=>i<n,λi H x H'=>H'=H/\x=.int (lo+i),λi _=>n<=i,λ_ _=>False⟩
def zzs{P:yu}{w:yG}{K:yt}{tg:yB}(a it:yg):Turn P w K tg (Itl K a) [it] it (λi h=>h.IsListIter it a i) where
 mem:=by simp
 obj:=λi h st b hb=>by
  have e:b=it:=by simpa using hb
  subst e;obtain⟨o,e,c,d⟩:=st;exact⟨o,e,λv z=>by rw[d]at z;cases z⟩
 keep:=λi h h' st k=>st.at λo e=>k it (by simp) o e
 item:=by
  intro X hP hw hK i U s Y H E hc I hf st hg;subst hP hw hK;obtain⟨xs,x,hq,hx⟩:=hg;obtain⟨hW,rv,p,hz⟩:=I.list hq;obtain⟨u,hu,ru⟩:=rv.get hx;obtain⟨f0,f1,f2,f3,f4,f5⟩:=hf it (by simp);refine wpAny_pyNext_list_item st p.isList (x:=u) (by simpa using hu) λh' st' sb=>?_;have I1:Inv X U Y H {s with heap:=h' }:=I.turned (t':=s.toks) (λb o hb e=>(sb.2 b hb).trans e) f0 f1 f3 f4 f5;obtain⟨o,e,c,d⟩:=id st';exact⟨u,rfl,zys (s:={s with heap:=h' }) e c d (by decide) ⟨x,H,I1,ru,⟨rfl,λys hy=>by rw[I.Sa hy hq];exact hx⟩,st',λb hb=>(hf b hb).1⟩⟩
 done:=by
  intro X hP hw hK i U s Y H E hc I hf st hg;subst hP hw hK;obtain⟨xs,hq,hx⟩:=hg;obtain⟨hW,rv,p,hz⟩:=I.list hq;obtain⟨f0,f1,f2,f3,f4,f5⟩:=hf it (by simp);have hl:=rv.length
  have hni:X.A.handled≠some (.ref it):=λz=>by
   rcases hc with hc|⟨a',p',hh,hH,_⟩
   ·rw[I.ok.hd hc]at z;cases z
   ·rw[hh]at z;cases z;rw[f0]at hH;cases hH
  have kT:X.A.handled=none\/zBA X.A s.heap:=hc.imp I.ok.hd λ⟨a',p',hh,hH,hp⟩=>
   let ⟨o,vs,z⟩:=hp _ (I.hok a' _ hH).1
   ⟨a',o,vs,hh,z⟩
  exact zVu kT st p.isList (by simp;omega) hni λh' eb=>⟨rfl,I.turned (t':=s.toks) (λb o hb e=>eb b o hb e) f0 f1 f3 f4 f5⟩
 self:=λ_ _ _ _ _ st h=>wpAny_pyIter_listiter st h
def z6r{P:yu}{w:yG}{K:yt}{tg:yB}(a it:yg):Turn P w K tg (Itt K a) [it] it (λi h=>h.IsTupleIter it a i) where
 mem:=by simp
 obj:=λi h st b hb=>by
  have e:b=it:=by simpa using hb
  subst e;obtain⟨o,e,c,d⟩:=st;exact⟨o,e,λv z=>by rw[d]at z;cases z⟩
 keep:=λi h h' st k=>st.at λo e=>k it (by simp) o e
 item:=by
  intro X hP hw hK i U s Y H E hc I hf st hg;subst hP hw hK;replace hc:=hc.elim id yN;obtain⟨xs,x,hq,hx⟩:=hg;obtain⟨hW,rv,p,hz⟩:=I.tuple hq;obtain⟨u,hu,ru⟩:=rv.get hx;obtain⟨f0,f1,f2,f3,f4,f5⟩:=hf it (by simp);refine wpAny_pyNext_tuple_item st (show s.heap.IsTuple a hW.toArray from p) (x:=u) (by simpa using hu) λh' st' sb=>?_;have I1:Inv X U Y H {s with heap:=h' }:=I.turned (t':=s.toks) (λb o hb e=>(sb.2 b hb).trans e) f0 f1 f3 f4 f5;obtain⟨o,e,c,d⟩:=id st';exact⟨u,rfl,zys (s:={s with heap:=h' }) e c d (by decide) ⟨x,H,I1,ru,⟨rfl,λys hy=>by rw[I.sK hy hq];exact hx⟩,st',λb hb=>(hf b hb).1⟩⟩
 done:=by
  intro X hP hw hK i U s Y H E hc I hf st hg;subst hP hw hK;replace hc:=hc.elim id yN;obtain⟨xs,hq,hx⟩:=hg;obtain⟨hW,rv,p,hz⟩:=I.tuple hq;obtain⟨f0,f1,f2,f3,f4,f5⟩:=hf it (by simp);have hl:=rv.length;exact wpAny_pyNext_tuple_end (I.ok.hd hc) st (show s.heap.IsTuple a hW.toArray from p) (by simp;omega) λh' eb=>⟨rfl,I.turned (t':=s.toks) (λb o hb e=>eb b o hb e) f0 f1 f3 f4 f5⟩
 self:=λ_ _ _ _ _ st h=>wpAny_pyIter_tupleiter st h
def ztr{P:yu}{w:yG}{K:PySem.W.Frag}{tg:yB}(it:yg)(lo:Int)(n:Nat):Turn P w K tg (Itr lo n) [it] it (λi h=>IsRangeIter h it (lo+(i:Nat)*1) ((n:Int)-(i:Nat)) 1) where
 mem:=by simp
 obj:=λi h st b hb=>by
  have e:b=it:=by simpa using hb
  subst e
  exact⟨_,st,λv z=>by
   have z':Data.fields _=Data.cell v:=z;cases z'⟩
 keep:=λi h h' st k=>k it (by simp) _ st
 item:=by
  intro X hP hw hK i U s Y H E hc I hf st hg;subst hP hw hK;replace hc:=hc.elim id yN;obtain⟨f0,f1,f2,f3,f4,f5⟩:=hf it (by simp);have W:=Walks.range (prog:=X.prog) (w:=X.w) (I.ok.hd hc) it lo 1 n;refine W.item i s _ _ hg st λv h' tk hv st' kk=>?_;obtain⟨t,rfl⟩:=hv;have I1:Inv X U Y H {s with heap:=h',toks:=tk }:=I.turned (λb o hb e=>kk b o (by simpa using hb) e) f0 f1 f3 f4 f5;refine⟨_,rfl,zys (s:={s with heap:=h',toks:=tk }) (n:="range_iterator") st' rfl rfl (by decide) ⟨.int (lo+i),H,I1,⟨t,?_⟩,⟨rfl,rfl⟩,st',λb hb=>(hf b hb).1⟩⟩;rw[Int.mul_one]
 done:=by
  intro X hP hw hK i U s Y H E hc I hf st hg;subst hP hw hK;replace hc:=hc.elim id yN;obtain⟨f0,f1,f2,f3,f4,f5⟩:=hf it (by simp);exact wpAny_pyNext_range_end (I.ok.hd hc) st (by have:n<=i:=hg;omega) λh' eb=>⟨rfl,I.turned (t':=s.toks) (λb o hb e=>eb b o hb e) f0 f1 f3 f4 f5⟩
 self:=λ_ _ _ _ _ st h=>wpAny_pyIter_rangeiter st h
section
variable {X:Cx}{tg:yB}
def sL(K:yt)(tl:TE):TI:=λY H R=>tl Y H λx H1=>∃a,x=.ref a/\(∃xs,SqL K H1 a xs)/\R (Itl K a) H1
def zvC(K:yt)(tl:TE):TI:=λY H R=>tl Y H λx H1=>∃a,x=.ref a/\(∃xs,SqT K H1 a xs)/\R (Itt K a) H1
def zQu{l:yB}{tl:TE}(hl:PE X l tl):PI X tg l (sL X.K tl):=by
 intro U s Y H R I h;refine thn (hl U s Y H _ I h) λv s1 ⟨x,H1,I1,r1,q1⟩=>?_;obtain⟨a,e,⟨xs,hq⟩,q⟩:=q1;subst e;cases r1;obtain⟨hW,rv,p,hz⟩:=I1.list hq;refine wpAny_pyIter_list p.isList ?_;refine⟨s1.heap.objs.size,[s1.heap.objs.size],_,_,H1,rfl,I1.kept (t':=s1.toks) λb o e=>ye _ e,zzs a _,⟨_,yr _ rfl,rfl,rfl⟩,λb hb=>?_,q⟩;have e:b=s1.heap.objs.size:=by simpa using hb
 subst e;exact I1.Sb (yo _) (I1.hok.fresh (yo _))
def zuA{l:yB}{tl:TE}(hl:PE X l tl):PI X tg l (zvC X.K tl):=by
 intro U s Y H R I h;refine thn (hl U s Y H _ I h) λv s1 ⟨x,H1,I1,r1,q1⟩=>?_;obtain⟨a,e,⟨xs,hq⟩,q⟩:=q1;subst e;cases r1;obtain⟨hW,rv,p,hz⟩:=I1.tuple hq;refine wpAny_pyIter_tuple (show s1.heap.IsTuple a hW.toArray from p) ?_;refine⟨s1.heap.objs.size,[s1.heap.objs.size],_,_,H1,rfl,I1.kept (t':=s1.toks) λb o e=>ye _ e,z6r a _,⟨_,yr _ rfl,rfl,rfl⟩,λb hb=>?_,q⟩;have e:b=s1.heap.objs.size:=by simpa using hb
 subst e;exact I1.Sb (yo _) (I1.hok.fresh (yo _))
def zfw{U:Qb}{Y:St}{H:Hp}{s:yd}{R:It->Hp->Prop}{E:yb->yd->Prop}{lo hi:Int}{t u v:Tok}{tk:Nat}(I:Inv X U Y H s)(h1:-(2^62)<=lo)(h2:lo<2^62)(h3:-(2^62)<=hi)(h4:hi<2^62)
 (q:R (Itr lo (hi-lo).toNat) H):yp (yx X.prog X.w) X.A (pyIter (.ref s.heap.objs.size)) (PIE X U Y tg R) E {s with heap:=s.heap.push {cls:=.type "range",data:=.fields #[.int lo t,.int hi u,.int 1 v]},toks:=tk }:=by
 refine wpAny_pyIter_range (IsRange.new ..) (small_one h1 h2 h3 h4) ?_;have I1:Inv X U Y H {s with heap:=s.heap.push {cls:=.type "range",data:=.fields #[.int lo t,.int hi u,.int 1 v]},toks:=tk }:=I.kept λb o e=>ye _ e
 refine⟨(s.heap.push {cls:=.type "range",data:=.fields #[.int lo t,.int hi u,.int 1 v]}).objs.size,[(s.heap.push {cls:=.type "range",data:=.fields #[.int lo t,.int hi u,.int 1 v]}).objs.size],_,_,H,rfl,
  I1.kept (t':=tk) λb o e=>ye _ e,ztr _ lo (hi-lo).toNat,?_,λb hb=>?_,q⟩
 ·have e1:lo+((0:Nat):Int)*1=lo:=by simp
  have e2:(((hi-lo).toNat:Nat):Int)-((0:Nat):Int)=Builtin.Range.rangeSize lo hi 1:=by rw[rangeSize_one];split<;>omega
  show IsRangeIter _ _ (lo+((0:Nat):Int)*1) ((((hi-lo).toNat:Nat):Int)-((0:Nat):Int)) 1;rw[e1,e2];exact yr _ rfl
 ·have e:b=(s.heap.push {cls:=.type "range",data:=.fields #[.int lo t,.int hi u,.int 1 v]}).objs.size:=by simpa using hb
  subst e;exact I1.Sb (yo _) (I1.hok.fresh (yo _))
def zOB(ta:TA):TI:=λY H R=>ta Y H λvs H1=>∃j:Int,vs=[.int j]/\-(2^62)<=j/\j<2^62/\R (Itr 0 j.toNat) H1
def zpt{a:yB}{ta:TA}{p pos:YZ}(hg:Gl X "range")(hm:X.mg "range"=none)(ha:PA X [a] ta)(hs:yh [a] X.env=[(false,yV a X.env)]:=by rfl):PI X tg (.Call (.Name "range" p) [a] [] pos) (zOB ta):=by
 intro U s Y H R I h;refine Call_ (zmk I hg hm boot_range (YO (thn (ha pos U s Y H _ I h) λus s1 ⟨vs,H1,I1,r1,q1⟩=>?_) hs rfl));obtain⟨j,e,q1,q2,q⟩:=q1;subst e
 cases r1 with
 |cons r rr=>
  cases rr;obtain⟨t,rfl⟩:=r;exact call_range_1 (zfw I1 (by omega) (by omega) q1 q2 (by simpa using q))
def zuC(wi:TI)(g:TG)(tb:TS):TS:=λD Y H=>wi Y H λδ H1=>∃W:Nat->Nat->St->Hp->Prop,(∃m,W 0 m Y H1)/\∀i m Y H,W i m Y H ->
 (δ.stop i H/\D.nx Y H)\/(δ.go i H/\∃N:St->Hp->Prop,(∀Y' H',N Y' H'->∃m',m'<m/\W (i+1) m' Y' H')/\∀x H',δ.yld i H x H'->g x Y H' λY2 H2=>tb {D with nx:=N,ct:=N,bk:=D.nx } Y2 H2)
def zQn(fp:Qv)(h:yU):Qb:=fp.filterMap λb=>(h.get? b).map λo=>(b,o)
def zXg{fp:Qv}{h:yU}{b:yg}{o:YH}(hb:b∈fp)(e:h.get? b=some o):(b,o)∈zQn fp h:=List.mem_filterMap.mpr ⟨b,hb,by rw[e];rfl⟩
def zku{fp:Qv}{h:yU}{p:yg×YH}(hp:p∈zQn fp h):p.1∈fp/\h.get? p.1=some p.2:=by
 obtain⟨b,hb,e⟩:=List.mem_filterMap.mp hp
 cases q:h.get? b with
 |none=>rw[q]at e;cases e
 |some o=>
  rw[q]at e;have e':(b,o)=p:=Yn e;subst e';exact⟨hb,q⟩
def Inv.pinned{U:Qb}{Y:St}{H:Hp}{s:yd}{fp:Qv}(I:Inv X U Y H s)(hf:∀b∈fp,z0q X U H b)(ho:∀b∈fp,∃o,s.heap.get? b=some o/\∀v,o.data≠.cell v):Inv X (U++zQn fp s.heap) Y H s :=
 I.sS λp hp=>(List.mem_append.mp hp).elim (λz=>I.pin p (Nj _ z)) λz=>by
  obtain⟨hb,e⟩:=zku z;obtain⟨f0,f1,f2,_⟩:=hf p.1 hb;obtain⟨o,e',d⟩:=ho p.1 hb;rw[e]at e';cases e';exact⟨e,f0,f1,f2,d⟩
def Inv.TU{U pl:Qb}{Y:St}{H:Hp}{s:yd}(I:Inv X (U++pl) Y H s):Inv X U Y H s:=I.sS λp hp=>I.pin p (Nj _ (List.mem_append_left _ hp))
def zjz{iter:yB}{body:Wc}{wi:TI}{g:TG}{tb:TS}{pos:YZ}(hp:PassesOwn (yx X.prog X.w) X.A X.env X.xe)(hc:X.calm=true)(hi:PI X tg iter wi)(hg:PG X tg g)(hb:PSs X body tb)
 (hs:∀x,Yu iter X.env x=pure x:=by intro _;rfl):PS X (.For tg iter body [] pos) (zuC wi g tb):=by
 intro U s Y H D I h;refine wpAny_For (thn (hi U s Y H _ I h) λv s1 h1=>thn h1 λitv s2 h2=>?_) hs;obtain⟨it,fp,tn,δ,H2,e,I2,T,st2,f2,W,⟨m0,w0⟩,turn⟩:=h2;subst e;have stat:∀{H':Hp},(∀b∈fp,H' b=none)->∀b∈fp,z0q X U H' b:=λhn b hb=>⟨hn b hb,(f2 b hb).2⟩
 refine codeAny_forLoop_any (λn s'=>∃i Y' H',Inv X U Y' H' s'/\tn i s'.heap/\(∀b∈fp,H' b=none)/\W i n Y' H') ?_ m0 ⟨0,Y,H2,I2,st2,λb hb=>(f2 b hb).1,w0⟩;rintro n s3 ⟨i,Y3,H3,I3,st3,fr3,w3⟩;rcases turn i n Y3 H3 w3 with ⟨stop,qn⟩|⟨go,N,hN,step⟩
 ·refine xE hp (thn (T.done X rfl rfl rfl i U s3 Y3 H3 X.xe (.inl hc) I3 (stat fr3) st3 stop) λr s4 ⟨hr,I4⟩=>?_);subst hr;exact xW ⟨Y3,H3,I4,qn⟩
 ·refine xE hp (thn (T.item X rfl rfl rfl i U s3 Y3 H3 X.xe (.inl hc) I3 (stat fr3) st3 go) λr s4 ⟨u,hr,h4⟩=>?_);subst hr;refine xE hp (thn h4 λ_ s5 ⟨x,H5,I5,r5,y5,st5,fr5⟩=>?_);have I5':=I5.pinned (stat fr5) (T.obj _ _ st5);refine xE hp (thn (hg _ s5 Y3 H5 x u _ I5' r5 (step x H5 y5)) λ_ s6 ⟨Y6,H6,I6,q6⟩=>?_);refine xE hp (thn (hb _ s6 Y6 H6 _ I6 q6) λf s7 q7=>?_)
  have again:∀{Y7:St} {H7:Hp},Inv X (U++zQn fp s5.heap) Y7 H7 s7->N Y7 H7->∃m,m<n/\∃i Y' H',Inv X U Y' H' s7/\tn i s7.heap/\(∀b∈fp,H' b=none)/\W i m Y' H':=λ{Y7 H7} I7 n7=>by
   obtain⟨m',hm,w7⟩:=hN Y7 H7 n7;refine⟨m',hm,i+1,Y7,H7,I7.TU,T.keep _ _ _ st5 λb hb o e=>(I7.pin (b,o) (Nj _ (Nj _ (zXg hb e)))).1,λb hb=>?_,w7⟩;obtain⟨o,e,d⟩:=T.obj _ _ st5 b hb;exact(I7.pin (b,o) (Nj _ (Nj _ (zXg hb e)))).2.1
  cases f with
  |next=>obtain⟨Y7,H7,I7,n7⟩:=q7;exact again I7 n7
  |cont=>obtain⟨Y7,H7,I7,n7⟩:=q7;exact again I7 n7
  |brk=>obtain⟨Y7,H7,I7,q7⟩:=q7;exact⟨Y7,H7,I7.TU,q7⟩
  |ret v=>obtain⟨x7,Y7,H7,I7,r7,q7⟩:=q7;exact⟨x7,Y7,H7,I7.TU,r7,q7⟩
end
abbrev R2:=V->V->Hp->VK->Prop
def OpR(X:Cx)(f:yb->yb->Sem yb)(r:R2):Prop :=
 ∀(U:Qb) (s:yd) (Y:St) (H:Hp) (x y:V) (v u:yb) (Q:VK),Inv X U Y H s->RelV x v->RelV y u->r x y H Q ->
  yp (yx X.prog X.w) X.A (f v u) (EP X U Y Q) X.xe s
def zqi(X:Cx)(f:yb)(r:Wi->Hp->VK->Prop):Prop :=
 ∀(U:Qb) (s:yd) (Y:St) (H:Hp) (xs:Wi) (us:List yb) (Q:VK),Inv X U Y H s->Vals xs us->r xs H Q ->
  yp (yx X.prog X.w) X.A (call f us) (EP X U Y Q) X.xe s
def tOp(r:R2)(ta tb:TE):TE:=λY H Q=>ta Y H λx H1=>tb Y H1 λy H2=>r x y H2 Q
def rI(C:Int->Int->Prop)(g:Int->Int->V):R2:=λx y H Q=>∃i j,x=.int i/\y=.int j/\C i j/\Q (g i j) H
def rI0(g:Int->Int->V):R2:=λx y H Q=>∃i j,x=.int i/\y=.int j/\Q (g i j) H
section
variable {X:Cx}{a b c:yB}{ta tb tc:TE}{pos:YZ}
def binT(ha:PE X a ta)(hb:PE X b tb){U:Qb}{s:yd}{Y:St}{H:Hp}{R:V->V->Hp->Prop}(I:Inv X U Y H s)
 (h:ta Y H λx H1=>tb Y H1 λy H2=>R x y H2) {Q:yb->yd->Prop} {f:yb->yb->Sem yb}
 (hf:∀v u s2 x y H2,Inv X U Y H2 s2->RelV x v->RelV y u->R x y H2->yp (yx X.prog X.w) X.A (f v u) Q X.xe s2) :
 yp (yx X.prog X.w) X.A (yV a X.env) (λv s₁=>yp (yx X.prog X.w) X.A (yV b X.env) (λu s₂=>yp (yx X.prog X.w) X.A (f v u) Q X.xe s₂) X.xe s₁) X.xe s:=by
 refine thn (ha U s Y H _ I h) λv s1 ⟨x,H1,I1,r1,q1⟩=>?_;refine thn (hb U s1 Y H1 _ I1 q1) λu s2 ⟨y,H2,I2,r2,q2⟩=>?_;exact hf v u s2 x y H2 I2 r1 r2 q2
def zrA{op:Operator}{r:R2}(ho:OpR X (xh op) r)(ha:PE X a ta)(hb:PE X b tb):PE X (.BinOp a op b pos) (tOp r ta tb):=by
 intro U s Y H Q I h;exact wpAny_BinOp (binT ha hb I h λv u s2 x y H2 I2 rx ry q=>ho U s2 Y H2 x y v u Q I2 rx ry q)
def opI{f:yb->yb->Sem yb}{C:Int->Int->Prop}{g:Int->Int->Int}
 (rule:∀(i j:Int)(t u:Tok)(s:yd)(Q:yb->yd->Prop)(E:yb->yd->Prop),C i j->Q (.int (g i j) s.toks) {s with toks:=s.toks+1 }->yp (yx X.prog X.w) X.A (f (.int i t) (.int j u)) Q E s) :
 OpR X f (rI C λi j =>.int (g i j)):=by
 intro U s Y H x y v u Q I rx ry h;obtain⟨i,j,rfl,rfl,hc,q⟩:=h;obtain⟨t,rfl⟩:=rx;obtain⟨t',rfl⟩:=ry;exact rule i j t t' s _ _ hc ⟨.int (g i j),H,I.tok _,⟨_,rfl⟩,q⟩
def opI0{f:yb->yb->Sem yb}{g:Int->Int->Int}
 (rule:∀(i j:Int)(t u:Tok)(s:yd)(Q:yb->yd->Prop)(E:yb->yd->Prop),Q (.int (g i j) s.toks) {s with toks:=s.toks+1 }->yp (yx X.prog X.w) X.A (f (.int i t) (.int j u)) Q E s) :
 OpR X f (rI0 λi j =>.int (g i j)):=by
 intro U s Y H x y v u Q I rx ry h;obtain⟨i,j,rfl,rfl,q⟩:=h;obtain⟨t,rfl⟩:=rx;obtain⟨t',rfl⟩:=ry;exact rule i j t t' s _ _ ⟨.int (g i j),H,I.tok _,⟨_,rfl⟩,q⟩
def opB0{f:yb->yb->Sem yb}{g:Int->Int->Bool}
 (rule:∀(i j:Int)(t u:Tok)(s:yd)(Q:yb->yd->Prop)(E:yb->yd->Prop),Q (.bool (g i j)) s->yp (yx X.prog X.w) X.A (f (.int i t) (.int j u)) Q E s) :
 OpR X f (rI0 λi j =>.bl (g i j)):=by
 intro U s Y H x y v u Q I rx ry h;obtain⟨i,j,rfl,rfl,q⟩:=h;obtain⟨t,rfl⟩:=rx;obtain⟨t',rfl⟩:=ry;exact rule i j t t' s _ _ ⟨.bl (g i j),H,I,rfl,q⟩
def zHz:OpR X (xh .Mod) (rI (λ_ j=>0<j) λi j =>.int (i%j)):=opI λi j _ _ _ _ _ hc q=>by
 have h1:(0:Int)<j:=hc;exact mod_int' (by omega) (by rw[Int.fmod_eq_emod_of_nonneg i (by omega)];exact q)
def zXx:OpR X (inplaceOp .Add) (rI0 λi j =>.int (i+j)):=opI0 λ_ _ _ _ _ _ _ q=>iadd_int q
def zXt{U:Qb}{Y:St}{H:Hp}{s:yd}{Q:VK}{k k':Bool}(I:Inv X U Y H s)(q:Q (.bl k) H)(e:k=k'):EP X U Y Q (.bool k') s:=by
 subst e;exact⟨.bl k,H,I,rfl,q⟩
def zLB:OpR X (Yg .Lt) (rI0 λi j =>.bl (decide (i<j))):=opB0 λ_ _ _ _ _ _ _ q=>lt_int q
def zxB:OpR X (Yg .LtE) (rI0 λi j =>.bl (decide (i<=j))):=opB0 λ_ _ _ _ _ _ _ q=>le_int q
def zWB:OpR X (Yg .Gt) (rI0 λi j =>.bl (decide (j<i))):=opB0 λ_ _ _ _ _ _ _ q=>gt_int q
def z4B:OpR X (Yg .GtE) (rI0 λi j =>.bl (decide (j<=i))):=opB0 λ_ _ _ _ _ _ _ q=>ge_int q
def zjm:OpR X (Yg .Is) (λx y H Q=>y=.non/\Q (.bl (decide (x=.non))) H):=by
 intro U s Y H x y v u Q I rx ry h;obtain⟨rfl,q⟩:=h;cases ry;refine is_none_gen (zXt I q ?_)
 cases x<;>first
  |(cases rx;rfl)
  |(obtain⟨t,rfl⟩:=rx;rfl)
def zEi:OpR X (Yg .IsNot) (λx y H Q=>y=.non/\Q (.bl (!decide (x=.non))) H):=by
 intro U s Y H x y v u Q I rx ry h;obtain⟨rfl,q⟩:=h;cases ry;refine isnot_none_gen (zXt I q ?_)
 cases x<;>first
  |(cases rx;rfl)
  |(obtain⟨t,rfl⟩:=rx;rfl)
def z7n:OpR X (Yg .NotIn) (λx y H Q=>∃i j,x=.str i/\y=.str j/\Q (.bl (!(!(Builtin.Str.occurrences j i 0 j.length 1).isEmpty))) H):=by
 intro U s Y H x y v u Q I rx ry h;obtain⟨i,j,rfl,rfl,q⟩:=h;obtain⟨t,rfl⟩:=rx;obtain⟨t',rfl⟩:=ry;exact notIn_str (zXt I q rfl)
def z0x{op:CmpOp}{r:R2}(ho:OpR X (Yg op) r)(ha:PE X a ta)(hb:PE X b tb)(hm:behindInMarks op b=false):PE X (.Compare a [op] [b] pos) (tOp r ta tb):=by
 intro U s Y H Q I h;exact wpAny_Compare1 (binT ha hb I h λv u s2 x y H2 I2 rx ry q=>ho U s2 Y H2 x y v u Q I2 rx ry q) hm
def zvB(t:TE):TT:=λY H Q=>t Y H λx H'=>∃k,x=.bl k/\Q k H'
def zOx{op:CmpOp}{r:R2}(ho:OpR X (Yg op) r)(ha:PE X a ta)(hb:PE X b tb)(hm:behindInMarks op b=false):PT X (.Compare a [op] [b] pos) (zvB (tOp r ta tb)):=by
 intro U s Y H Q I h
 refine wpAny_isTrue_Compare1 (thn (ha U s Y H _ I h) λv s1 ⟨x,H1,I1,r1,q1⟩=>thn (hb U s1 Y H1 _ I1 q1) λu s2 ⟨y,H2,I2,r2,q2⟩=>
  thn (ho U s2 Y H2 x y v u _ I2 r1 r2 q2) λc s3 ⟨z,H3,I3,r3,k,e,q3⟩=>?_) hm
 subst e;cases r3;exact YS ⟨H3,I3,q3⟩
def zVA(r r':R2)(ta tb tc:TE):TE:=λY H Q=>ta Y H λx H1=>tb Y H1 λy H2=>r x y H2 λz H3=>∃k,z=.bl k /\
 (if k=true then tc Y H3 λw' H4=>r' y w' H4 Q else Q (.bl false) H3)
def zuw{op op':CmpOp}{r r':R2}(ho:OpR X (Yg op) r)(ho':OpR X (Yg op') r')(ha:PE X a ta)(hb:PE X b tb)(hc:PE X c tc)
 (hm:lastMarks [op,op'] [b,c]=false:=by with_unfolding_all rfl):PE X (.Compare a [op,op'] [b,c] pos) (zVA r r' ta tb tc):=by
 intro U s Y H Q I h
 refine Compare_chain (thn (ha U s Y H _ I h) λv s1 ⟨x,H1,I1,r1,q1⟩=>chain_link (thn (hb U s1 Y H1 _ I1 q1) λu s2 ⟨y,H2,I2,r2,q2⟩=>
  thn (ho U s2 Y H2 x y v u _ I2 r1 r2 q2) λd s3 ⟨z,H3,I3,r3,k,e,q3⟩=>?_)) hm
 subst e;cases r3;refine YS ?_
 cases k with
 |false=>exact ite_ff ⟨.bl false,H3,I3,rfl,q3⟩
 |true=>exact ite_tt (chain_last (thn (hc U s3 Y H3 _ I3 q3) λw' s4 ⟨z',H4,I4,r4,q4⟩=>ho' U s4 Y H4 y z' u w' Q I4 r2 r4 q4))
def su:(yD:Nat)<2^63:=by rw[YC];decide
def z6l:OpR X (xh .Add) (λx y H Q=>∃i j,x=.str i/\y=.str j/\i.length+j.length<=yD/\Q (.str (i++j)) H):=by
 intro U s Y H x y v u Q I rx ry h;obtain⟨i,j,rfl,rfl,hz,q⟩:=h;obtain⟨t,rfl⟩:=rx;obtain⟨t',rfl⟩:=ry;exact add_str (λt' tk=>⟨.str (i++j),H,I.tok _,⟨_,rfl⟩,q⟩) hz
def vals1{x:V}{us:List yb}(r:Vals [x] us):∃u,us=[u]/\RelV x u:=by
 cases r with
 |cons r1 r2=>cases r2;exact⟨_,rfl,r1⟩
def vals2{x y:V}{us:List yb}(r:Vals [x,y] us):∃u w',us=[u,w']/\RelV x u/\RelV y w':=by
 cases r with
 |cons r1 r2=>
  cases r2 with
  |cons r3 r4=>cases r4;exact⟨_,_,rfl,r1,r3⟩
def zAs(hc:X.calm=true):zqi X (.builtin "min") (λxs H Q=>∃i j,xs=[.int i,.int j]/\Q (.int (if j<i then j else i)) H):=by
 intro U s Y H xs us Q I r h;obtain⟨i,j,rfl,q⟩:=h;obtain⟨u,w',rfl,⟨t,rfl⟩,⟨t',rfl⟩⟩:=vals2 r;refine min_two_ints (I.ok.hd hc) λh' tk k=>⟨_,H,I.kept k,?_,q⟩
 by_cases hj:j<i
 ·rw[if_pos hj,if_pos hj];exact⟨_,rfl⟩
 ·rw[if_neg hj,if_neg hj];exact⟨_,rfl⟩
def zho:zqi X (.type "int") (λxs H Q=>(∃i,xs=[.int i]/\Q (.int i) H)\/∃k,xs=[.bl k]/\Q (.int (if k then 1 else 0)) H):=by
 intro U s Y H xs us Q I r h;rcases h with ⟨i,rfl,q⟩|⟨k,rfl,q⟩
 ·obtain⟨u,rfl,t,rfl⟩:=vals1 r;exact call_int_int ⟨.int i,H,I,⟨_,rfl⟩,q⟩
 ·obtain⟨u,rfl,r1⟩:=vals1 r;cases r1;exact call_int_bool ⟨.int (if k then 1 else 0),H,I.tok _,⟨_,rfl⟩,q⟩
def zkj:zqi X (.type "str") (λxs H Q=>∃i,xs=[.int i]/\i.natAbs.log2<1920/\Q (.str (toString i)) H):=by
 intro U s Y H xs us Q I r h;obtain⟨i,rfl,hz,q⟩:=h;obtain⟨u,rfl,t,rfl⟩:=vals1 r;exact PySem.P.str_of_int hz ⟨.str _,H,I.tok _,⟨_,rfl⟩,q⟩
end
structure Sn(h:yU)(x dx C:yg)(mA:yj->Option yb):Prop where
 obj:h.get? x=some (W.instObj C dx)
 ns:h.Ns1 dx mA
 ne:dx≠x
def zio{h:yU}{dx:yg}{mA:yj->Option yb}(n:h.Ns1 dx mA):∃od,h.get? dx=some od/\∀name,W.lookIn name od=some (mA name):=by
 obtain⟨o,es,ep,ho,hd,hk,_,hm⟩:=n;refine⟨o,ho,λname=>?_⟩;have e:=hm name;unfold nsFind findBy at e;rw[<-Array.find?_toList]at e;unfold W.lookIn;rw[hd];dsimp only
 split
 ·rename_i y q
  rw[q]at e;exact congrArg some e
 ·rename_i q
  rw[q]at e
  have a:es.toList.any (·.refKey)=false:=by
   rw[List.any_eq_false];intro y hy;obtain⟨z,t,kI⟩:=hk y (Array.mem_toList_iff.mp hy);simp[DictEntry.refKey,kI]
  have a':¬es.toList.any (·.refKey)=true:=by rw[a];exact yF
  rw[if_neg a'];exact congrArg some e
def Sn.look{h:yU}{x dx C:yg}{mA:yj->Option yb}(I:Sn h x dx C mA):∃od,W.InstAt h x (W.instObj C dx) C (some od)/\∀name,W.lookIn name od=some (mA name) :=
 let ⟨od,ho,hl⟩:=zio I.ns
 ⟨od,⟨I.obj,rfl,rfl,ho⟩,hl⟩
section
variable {prog:yu}{w:yG}{A:yH}{E:yb->yd->Prop}{s:yd}{K:yt}{x dx C f:yg}{mA:yj->Option yb}{name:yj}{v:yb}
def z1y{expr:Bool}{Q:yb->yd->Prop}(X:K.In s.heap)(I:Sn s.heap x dx C mA)(hg:W.plainGet K C name=true)(hh:W.hasDictIn K C=true)
 (ha:Yh K (.ref C) name=some none) (hv:mA name=some v) (hv':W.handedIn v=true) (h:Q v {s with toks:=s.toks+1 }) :
 yp (yx prog w) A (getAttr (.ref x) name expr) Q E s:=by
 obtain⟨od,δ,hl⟩:=I.look;exact W.get_value X δ (W.plainGet_of hg).1 (W.findObj_own hh ha rfl (by rw[hl,hv])) hv' h
def z9u{pl:Sem Bool}{Q:yb×List yb->yd->Prop}(X:K.In s.heap)(I:Sn s.heap x dx C mA)(hg:W.plainGet K C name=true)
 (hf:Yh K (.ref C) name=some (some (.ref f))) (ht:W.isFn K (.ref f)=true) (hv:mA name=none) (h:Q (.ref f,[.ref x]) s) :
 yp (yx prog w) A (getMethod (.ref x) name pl) Q E s:=by
 obtain⟨od,δ,hl⟩:=I.look;exact W.method_fn X δ (W.plainGet_of hg).1 (W.plainGet_of hg).2 hf (beq_iff_eq.mp ht) (by show(W.lookIn name od).map (·.isSome)=some false;rw[hl,hv];rfl) h
def ziy{ns:Qx}{Q:Unit->yd->Prop}(X:K.In s.heap)(I:Sn s.heap x dx C mA)
 (hs:Yh K (.ref C) "__setattr__"=some (some (.builtin "object.__setattr__"))) (hp:W.plainOver K C=true) (ht:W.takerIn K C name=some none) (hh:W.hasDictIn K C=true)
 (hw:PySem.Within mA ns) (hsz:ns.length<=yD)
 (h:∀h',Sn h' x dx C (λy=>if y=name then some v else mA y)->Yz dx s.heap h'->Q () {s with heap:=h',toks:=s.toks+2 }) :
 yp (yx prog w) A (setAttr (.ref x) name v) Q E s:=by
 obtain⟨od,δ,hl⟩:=I.look;refine W.set_plain X δ hs (W.osa_open (s:={s with toks:=s.toks+1 }) (r:=none) X δ hp ht λb=>?_);obtain⟨cd,hc,hd'⟩:=W.any_some hh;have hx:s.heap.get? x=some ⟨.ref C,some dx,.plain,#[]⟩:=I.obj;refine ya (yi (ya (ya (wpAny_loadPart hx (ya (W.Looks.here (s:={s with toks:=s.toks+1 }) (W.looks_clsIn X hc) ?_))))));rw[hd'];refine yi (a:=some dx) (ya (yi (ya ?_)));refine wpAny_nsSet1 (s:={s with toks:=s.toks+1 }) I.ns λh' hn2 hs2=>?_;obtain⟨oD,esD,epD,hoD,hdD,hcD⟩:=hn2.count (PySem.Within.cons name v hw);refine ya (wpAny_lookBehind hoD (by rw[hdD];exact pastItsLine_dict (yA hcD (by rw[Lr];omega))) ?_);exact yi (h _ ⟨(hs2.2 _ (Yi I.ne)).trans I.obj,hn2,I.ne⟩ hs2)
def zww{R:Result->yd->Prop}{vs:List yb}{kw:List (yj×yb)}(X:K.In s.heap)(hm:W.makesIn K C=true)
 (hi:Yh K (.ref C) "__init__"=some (some (.ref f))) (hf:W.typeIn K (.ref f)=some (.type "function"))
 (h:Xf (yx prog w) (A.under (.builtin "type.__call__" ⟨.ref C::vs,kw⟩)) (.call (.ref f) ⟨.ref (s.heap.objs.size+1)::vs,kw⟩) (W.InitBack (s.heap.objs.size+1) R)
  {s with heap:=(s.heap.push xR).push (W.instObj C s.heap.objs.size)}) :
 Xf (yx prog w) A (.call (.ref C) ⟨vs,kw⟩) R s:=by
 obtain⟨hh,g,d,t,os⟩:=s;exact W.make_core (W.makes_of X hm) (W.looks_findIn X hi) (λself=>W.bind_fn X self hf) (.inl rfl) h
end
def zrl(f:yj)(v:V):Wk->Wk
 |[]=>[(f,v)]
 |(g,x)::r=>if g=f then(g,v)::r else(g,x)::zrl f v r
def zMk(f g:yj)(v:V):∀fs:Wk,(zrl f v fs).lookup g=if g=f then some v else fs.lookup g
 |[]=>by
  show YD g [(f,v)]=_
  by_cases h:g=f
  ·have hb:(g==f)=true:=beq_iff_eq.mpr h;simp only[YD,hb,if_pos h]
  ·have hb:(g==f)=false:=beq_eq_false_iff_ne.mpr h;simp only[YD,hb,if_neg h]
 |(k,x)::r=>by
  have ih:=zMk f g v r;rw[show zrl f v ((k,x)::r)=(if k=f then(k,v)::r else(k,x)::zrl f v r) from rfl]
  by_cases hk:k=f
  ·rw[if_pos hk]
   by_cases h:g=k
   ·have hb:(g==k)=true:=beq_iff_eq.mpr h;simp only[YD,hb,if_pos (h.trans hk)]
   ·have hb:(g==k)=false:=beq_eq_false_iff_ne.mpr h;simp only[YD,hb,if_neg (λe:g=f=>h (e.trans hk.symm))]
  ·rw[if_neg hk]
   by_cases h:g=k
   ·have hb:(g==k)=true:=beq_iff_eq.mpr h;simp only[YD,hb,if_neg (λe:g=f=>hk (h.symm.trans e))]
   ·have hb:(g==k)=false:=beq_eq_false_iff_ne.mpr h;simp only[YD,hb];exact ih
def z7k(f:yj)(v:V):∀fs:Wk,f∈(zrl f v fs).map (·.1)/\∀g,g∈fs.map (·.1)->g∈(zrl f v fs).map (·.1)
 |[]=>⟨by simp[zrl],λg h=>by simp at h⟩
 |(k,x)::r=>by
  obtain⟨i1,i2⟩:=z7k f v r;rw[show zrl f v ((k,x)::r)=(if k=f then(k,v)::r else(k,x)::zrl f v r) from rfl]
  by_cases hk:k=f
  ·rw[if_pos hk];subst hk;exact⟨by simp,λg h=>by simpa using h⟩
  ·rw[if_neg hk];refine⟨?_,λg h=>?_⟩
   ·rw[Nf];exact Nm _ i1
   ·rw[Nf]at h ⊢;rcases List.mem_cons.mp h with e|e
    ·exact List.mem_cons.mpr (.inl e)
    ·exact Nm _ (i2 g e)
def zkl(f:yj)(v:V):∀fs:Wk,(zrl f v fs).length<=fs.length+1
 |[]=>by simp[zrl]
 |(k,x)::r=>by
  have ih:=zkl f v r;rw[show zrl f v ((k,x)::r)=(if k=f then(k,v)::r else(k,x)::zrl f v r) from rfl]
  by_cases hk:k=f
  ·rw[if_pos hk,Lr,Lr];omega
  ·rw[if_neg hk,Lr,Lr];omega
def se.some_of{v:V}{o:Option yb}(r:se (some v) o):∃u,o=some u/\RelV v u:=by
 cases o with
 |none=>exact(show False from r).elim
 |some u=>exact⟨u,rfl,r⟩
def se.none_of{o:Option yb}(r:se none o):o=none:=by
 cases o with
 |none=>rfl
 |some u=>exact(show False from r).elim
def zYn{v:V}{u:yb}(r:RelV v u):W.handedIn u=true:=by
 cases v with
 |non=>cases (show u=Ym from r);rfl
 |bl b=>cases (show u=Value.bool b from r);rfl
 |int i=>obtain⟨t,e⟩:=(show ∃t,u=Value.int i t from r);cases e;rfl
 |str x=>obtain⟨t,e⟩:=(show ∃t,u=Value.str x t from r);cases e;rfl
 |byt b=>obtain⟨t,e⟩:=(show ∃t,u=Value.bytes b t from r);cases e;rfl
 |flt b=>obtain⟨t,e⟩:=(show ∃t,u=Value.float b t from r);cases e;rfl
 |ref a=>cases (show u=yI a from r);rfl
 |ty n=>cases (show u=YR n from r);rfl
section
variable {P:yu}{w:yG}{H H':Hp}{h h':yU}{a C dx:yg}{fs fs':Wk}
def zqm(hok:HOk P w H h)(e:H a=some (.ins C dx fs)):∃mA,Sn h a dx C mA/\(∀f,se (fs.lookup f) (mA f))/\PySem.Within mA (fs.map (·.1))/\fs.length<=1000/\H dx=some (.own a):=by
 obtain⟨d,z,ne,ob,mA,n,r,q⟩:=(show tD P w H h a (.ins C dx fs) from hok a _ e)
 exact⟨mA,⟨ob,n,ne⟩,r,q,z,d⟩
end
structure Cls(K:yt)(C:yg):Prop where
 pg:W.plainGet K C Xr=true
 hd:W.hasDictIn K C=true
 po:W.plainOver K C=true
 sa:Yh K (.ref C) "__setattr__"=some (some (.builtin "object.__setattr__"))
def Cls.get{K:yt}{C:yg}(c:Cls K C)(f:yj):W.plainGet K C f=true:=c.pg
def sg(K:yt)(C:yg)(f:yj):Prop:=Yh K (.ref C) f=some none
def sg.taker{K:yt}{C:yg}{f:yj}(n:sg K C f):W.takerIn K C f=some none:=by
 unfold W.takerIn;rw[show Yh K (.ref C) f=some none from n];rfl
structure Con(K:yt)(C:yg)(f:yj)(v:V)(u:yb):Prop where
 at_:Yh K (.ref C) f=some (some u)
 rel:RelV v u
 get:W.specialIn K u "__get__"=some none
 cp:W.copiedNames.contains f=false
structure Meth(K:yt)(C:yg)(m:yj)(f:yg):Prop where
 at_:Yh K (.ref C) m=some (some (.ref f))
 fn:W.isFn K (.ref f)=true
 kp:W.keepIn K (.ref f)=true
section
variable {X:Cx}{U:Qb}{Y:St}{H:Hp}{s:yd}{a C dx:yg}{fs:Wk}{f:yj}{v:V}{A:yH}{E:yb->yd->Prop}
def zqs{b:Bool}{Q:yb->yd->Prop}(I:Inv X U Y H s)(e:H a=some (.ins C dx fs))(c:Cls X.K C)(n:sg X.K C f)(l:fs.lookup f=some v)
 (h:∀u s',Inv X U Y H s'->RelV v u->Q u s'):yp (yx X.prog X.w) A (getAttr (.ref a) f b) Q E s:=by
 obtain⟨mA,μ,r,_,_,_⟩:=zqm I.hok e;obtain⟨u,hu,ru⟩:=se.some_of (v:=v) (o:=mA f) (by rw[<-l];exact r f);exact z1y I.kIn μ (c.get f) c.hd n hu (zYn ru) (h u _ (I.tok _) ru)
def zXi{m:yj}{g:yg}{pl:Sem Bool}{Q:yb×List yb->yd->Prop}(I:Inv X U Y H s)(e:H a=some (.ins C dx fs))(c:Cls X.K C)(k:Meth X.K C m g)(l:fs.lookup m=none)
 (h:Q (.ref g,[.ref a]) s):yp (yx X.prog X.w) A (getMethod (.ref a) m pl) Q E s:=by
 obtain⟨mA,μ,r,_,_,_⟩:=zqm I.hok e;have hn:mA m=none:=se.none_of (by rw[<-l];exact r m);exact z9u I.kIn μ (c.get m) k.at_ k.fn hn h
def zKr{y:V}{u:yb}{Q:Unit->yd->Prop}(I:Inv X U Y H s)(e:H a=some (.ins C dx fs))(c:Cls X.K C)(n:sg X.K C f)(hl:fs.length<1000)(ry:RelV y u)
 (h:∀s',Inv X U Y (upd H a (.ins C dx (zrl f y fs))) s'->Q () s'):yp (yx X.prog X.w) A (setAttr (.ref a) f u) Q E s:=by
 obtain⟨mA,μ,r,wi,_,ho⟩:=zqm I.hok e;have hz:(fs.map (·.1)).length<=yD:=by rw[Lu,YC];omega
 refine ziy I.kIn μ c.sa c.po n.taker c.hd wi hz λh' μ' sb=>h _ ?_;have hd:∃o,h'.get? dx=some o:=let ⟨o,_,_,e',_⟩:=μ'.ns;⟨o,e'⟩;refine I.write (x:=a) (e:=dx) (by rw[e];exact xT) (.inr ho) (λb q hb z=>(sb.2 b hb).trans z) hd ?_;refine⟨by rw[zE μ.ne];exact ho,?_,μ.ne,μ'.obj,_,μ'.ns,λg=>?_,λg hg=>?_⟩
 ·have:=zkl f y fs;omega
 ·show se ((zrl f y fs).lookup g) (if g=f then some u else mA g);rw[zMk]
  by_cases q:g=f
  ·rw[if_pos q,if_pos q];exact ry
  ·rw[if_neg q,if_neg q];exact r g
 ·by_cases q:g=f
  ·rw[q];exact(z7k f y fs).1
  ·refine(z7k f y fs).2 g (wi g λz=>hg ?_);show(if g=f then some u else mA g)=none;rw[if_neg q];exact z
def Inv.made(I:Inv X U Y H s):Inv X U Y (upd (upd H s.heap.objs.size (.own (s.heap.objs.size+1))) (s.heap.objs.size+1) (.ins C s.heap.objs.size []))
 {s with heap:=(s.heap.push xR).push (W.instObj C s.heap.objs.size)}:=by
 have e1:(s.heap.push xR).get? s.heap.objs.size=some xR:=yr s.heap rfl
 have e2:((s.heap.push xR).push (W.instObj C s.heap.objs.size)).get? (s.heap.objs.size+1)=some (W.instObj C s.heap.objs.size):=by
  have:=yr (s.heap.push xR) (o:=W.instObj C s.heap.objs.size) rfl
  rwa [YG]at this
 have e3:(s.heap.push xR).Ns s.heap.objs.size (λ_=>none):=⟨xR,#[],_,e1,rfl,(λe he=>absurd he (by simp)),λ_=>rfl⟩
 have I1:=I.laid (a:=s.heap.objs.size) (o:=.own (s.heap.objs.size+1)) (h':=s.heap.push xR) (t':=s.toks) (λb u q=>ye _ q) (yo _) ⟨_,e1⟩;refine I1.laid (a:=s.heap.objs.size+1) (o:=.ins C s.heap.objs.size []) (t':=s.toks) (λb u q=>ye _ q) (Nat.le_of_eq (YG _ _)) ?_;have ne:s.heap.objs.size≠s.heap.objs.size+1:=yC (xP _);refine⟨by rw[zE ne,zx],Ys _,ne,e2,λ_=>none,(Heap.Ns1.of_empty e3).at λo q=>ye _ q,λ_=>xT,λy hy=>absurd rfl hy⟩
def zSt{prog:yu}{w:yG}{env:Env}{e:yB}{f:yj}{pos:YZ}{s:yd}{Q:yb->yd->Prop}(hb:Yq e f env (yV e env)=yV e env)
 (h:yp (yx prog w) A (yV e env) (λo s₁=>yp (yx prog w) A (getAttr o f true) Q E s₁) E s):yp (yx prog w) A (yV (.Attribute e f pos) env) Q E s :=
 Attribute_any_ h (by rw[arm_eval_Attribute,hb])
end
def zHC(K:yt)(ta:TE)(f:yj):TE:=λY H Q=>ta Y H λx H1=>∃a C dx fs v,x=.ref a/\H1 a=some (.ins C dx fs)/\Cls K C/\sg K C f/\fs.lookup f=some v/\Q v H1
def zUC(K:yt)(ta tv:TE)(f:yj):TS:=λD Y H=>tv Y H λy H1=>ta Y H1 λx H2=>∃a C dx fs,x=.ref a/\H2 a=some (.ins C dx fs)/\Cls K C/\sg K C f/\fs.length<1000 /\
 D.nx Y (upd H2 a (.ins C dx (zrl f y fs)))
section
variable {X:Cx}{o e value:yB}{f:yj}{pos pos' tpos:YZ}{ta tv:TE}
def zHA(he:PE X e ta)(hb:Yq e f X.env (yV e X.env)=yV e X.env):PE X (.Attribute e f pos) (zHC X.K ta f):=by
 intro U s Y H Q I h;refine zSt hb (thn (he U s Y H _ I h) λu s1 ⟨x,H1,I1,rx,a,C,dx,fs,v,ex,ea,c,n,l,q⟩=>?_);subst ex;obtain rfl:u=yI a:=rx;exact zqs I1 ea c n l λu' s2 I2 ru=>⟨v,H1,I2,ru,q⟩
def zkz(ha:PE X o ta)(hv:PE X value tv)(hs:xD value (some (.Attribute o f pos')) pos.line X.env=pure false):PS X (.Assign [.Attribute o f pos'] value pos) (zUC X.K ta tv f):=by
 intro U s Y H D I h;refine plainObj_wpAny_Assign_Attribute (thn (hv U s Y H _ I h) λu s1 ⟨y,H1,I1,ry,q⟩=>thn (ha U s1 Y H1 _ I1 q) λov s2 ⟨x,H2,I2,rx,a,C,dx,fs,ex,ea,c,n,l,q2⟩=>?_) hs;subst ex;obtain rfl:ov=yI a:=rx;exact zKr I2 ea c n l ry λs3 I3=>⟨Y,_,I3,q2⟩
variable {U:Qb}{Y:St}{H:Hp}{s:yd}{A:yH}{E Q:yb->yd->Prop}{c:yb}{b:Bool}
inductive sv(K:yt)(H:Hp):V->yb->Prop where
 |non:sv K H .non (.type "NoneType")
 |bl (x:Bool):sv K H (.bl x) (.type "bool")
 |int (i:Int):sv K H (.int i) (.type "int")
 |str (x:yj):sv K H (.str x) (.type "str")
 |flt (x:UInt64):sv K H (.flt x) (.type "float")
 |lst {a:yg} {xs:Wi} (e:H a=some (.lst xs)):sv K H (.ref a) (.type "list")
 |frz {a:yg} {o:YH} {xs:Wi} (e:H a=some (.frz o (.lst xs))):sv K H (.ref a) (.type "list")
 |tup {a:yg} {xs:Wi} (e:H a=some (.tup xs)):sv K H (.ref a) (.type "tuple")
 |dK {a:yg} {hU:Wj} (e:H a=some (.dK hU)):sv K H (.ref a) (.type "dict")
 |dT {a:yg} {hU:List (List Key×V)} (e:H a=some (.dT hU)):sv K H (.ref a) (.type "dict")
 |ins {a C dx:yg} {fs:Wk} (e:H a=some (.ins C dx fs)) (cl:Cls K C) (ha:Yh K (.ref C) "__class__"=some (some (.builtin "object.__class__")))
  (hn:W.specialIn K (.builtin "object.__class__") "__get__"=some (some (.builtin "getset_descriptor.__get__"))) (htk:W.takesIn K (.builtin "object.__class__")=some true)
  (hm:Xe K C (.type "object")=some true):sv K H (.ref a) (.ref C)
def zZt{x:V}{u t:yb}(I:Inv X U Y H s)(rx:RelV x u)(ty:sv X.K H x t)(e:W.kitOne X.K t c=some b)(h:∀tk,Q (.bool b) {s with toks:=tk }) :
 yp (yx X.prog X.w) A (call (.builtin "isinstance") [u,c]) Q E s:=by
 cases ty with
 |non=>cases (show u=Ym from rx);exact xY W.kitx_none I.kIn xT e (λz=>nomatch z) h
 |bl y=>cases (show u=Value.bool y from rx);exact xY W.kitx_bool I.kIn xT e (λz=>nomatch z) h
 |int i=>obtain⟨t,q⟩:=(show ∃t,u=Value.int i t from rx);cases q;exact xY W.kitx_int I.kIn xT e (λz=>nomatch z) h
 |str y=>obtain⟨t,q⟩:=(show ∃t,u=Value.str y t from rx);cases q;exact xY W.kitx_str I.kIn xT e (λz=>nomatch z) h
 |flt y=>obtain⟨t,q⟩:=(show ∃t,u=Value.float y t from rx);cases q;exact xY W.kitx_float I.kIn xT e (λz=>nomatch z) h
 |@lst a xs ea=>
  cases (show u=yI a from rx);obtain⟨_,_,n,_,h1⟩:=(show tD X.prog X.w H s.heap a (.lst xs) from I.hok a _ ea)
  exact xY W.kitx_list I.kIn ⟨_,h1,rfl⟩ e (λz=>nomatch z) h
 |@frz a ob xs ea=>
  cases (show u=yI a from rx);obtain⟨_,_,_,n,_,h1⟩:=(show tD X.prog X.w H s.heap a (.frz ob (.lst xs)) from I.hok a _ ea)
  exact xY W.kitx_list I.kIn ⟨_,h1,rfl⟩ e (λz=>nomatch z) h
 |@tup a xs ea=>
  cases (show u=yI a from rx);obtain⟨_,_,_,p⟩:=(show tD X.prog X.w H s.heap a (.tup xs) from I.hok a _ ea)
  obtain⟨o,h1,h2,_⟩:=p;exact xY W.kitx_tuple I.kIn ⟨o,h1,h2⟩ e (λz=>nomatch z) h
 |@dK a hU ea=>
  cases (show u=yI a from rx);obtain⟨_,_,vs,_,p⟩:=(show tD X.prog X.w H s.heap a (.dK hU) from I.hok a _ ea)
  obtain⟨o,es,ep,h1,h2,_⟩:=p;exact xY W.kitx_dict I.kIn ⟨o,h1,h2.1⟩ e (λz=>nomatch z) h
 |@dT a hU ea=>
  cases (show u=yI a from rx);obtain⟨_,_,xs,_,o,es,ep,h1,h2,_⟩:=(show tD X.prog X.w H s.heap a (.dT hU) from I.hok a _ ea)
  exact xY W.kitx_dict I.kIn ⟨o,h1,h2.1⟩ e (λz=>nomatch z) h
 |@ins a C dx fs ea cl ha hn htk hm=>
  cases (show u=yI a from rx);obtain⟨mA,μ,_⟩:=zqm I.hok ea;obtain⟨od,δ,_⟩:=μ.look;exact xY (W.kitx_own (cl.get _) cl.hd ha hn htk hm) I.kIn δ e (λz=>nomatch z) h
end
structure tN(k:Nat)(A:yH):Prop where
 hd:A.handled=none
 dp:A.depth+3*k+5<recursionLimit
 un:A.units+16*k+200<cLine
 gd:A.guards=some []
def tN.mono{j k:Nat}{A:yH}(r:tN k A)(h:j<=k):tN j A:=⟨r.hd,by have:=r.dp;omega,by have:=r.un;omega,r.gd⟩
def tN.deeper{k:Nat}{A:yH}(r:tN (k+1) A)(env:Env):tN k (A.deeper env) :=
 ⟨r.hd,by have:=r.dp;show A.depth+1+3*k+5<_;omega,by have:=r.un;show A.units+3+16*k+200<_;omega,r.gd⟩
def zHr{A:yH}{C:yg}{us:List yb}{kw:List (yj×yb)}:(A.under (.builtin "type.__call__" ⟨.ref C::us,kw⟩)).depth=A.depth+1:=by
 first|rfl|simp[Around.under,Code.weight,Code.isCreation,Code.isGuard,Code.isCaller,Code.frames,Code.isFrame,guardIds]
def zis{A:yH}{C:yg}{us:List yb}{kw:List (yj×yb)}:(A.under (.builtin "type.__call__" ⟨.ref C::us,kw⟩)).units=A.units+1:=by
 first|rfl|simp[Around.under,Code.cUnits,Code.frames,Code.isFrame]
def zDp{A:yH}{C:yg}{us:List yb}{kw:List (yj×yb)}:(A.under (.builtin "type.__call__" ⟨.ref C::us,kw⟩)).guards=A.guards:=by
 first|rfl|(cases h:A.guards<;>simp[Around.under,Code.guards,Code.isGuard,guardIds,h])
def tN.make{k:Nat}{A:yH}(r:tN (k+1) A)(C:yg)(us:List yb)(kw:List (yj×yb)):tN k (A.under (.builtin "type.__call__" ⟨.ref C::us,kw⟩)) :=
 ⟨r.hd,by have:=r.dp;rw[zHr];omega,by have:=r.un;rw[zis];omega,by rw[zDp];exact r.gd⟩
def tN.depth{k:Nat}{A:yH}(r:tN k A):A.depth<recursionLimit:=by have:=r.dp;omega
def tN.units{k:Nat}{A:yH}(r:tN k A):A.units+64<cLine:=by have:=r.un;omega
def z7A:TA:=λ_ H Q=>Q [] H
def zFy(ta:TE)(tr:TA):TA:=λY H Q=>ta Y H λx H1=>tr Y H1 λxs H2=>Q (x::xs) H2
section
variable {X:Cx}{e:yB}{es:Qz}{te:TE}{t:TA}{pos:YZ}
def zPg:PA X [] z7A:=λ_ _ _ _ H Q I h=>Calls.spliced_nil ⟨[],H,I,.nil,h⟩
def zQd(ha:PE X e te)(hr:PA X es t)(hs:yh (e::es) X.env=(false,yV e X.env)::yh es X.env:=by rfl):PA X (e::es) (zFy te t):=by
 intro pos U s Y H Q I h;rw[hs];show yp _ _ (spliced ((false,yV e X.env)::yW pos (yh es X.env))) _ _ s;refine Calls.spliced_cons (thn (ha U s Y H _ I h) λu s1 ⟨x,H1,I1,r1,q1⟩=>?_);exact thn (hr pos U s1 Y H1 _ I1 q1) λus s2 ⟨xs,H2,I2,r2,q2⟩=>⟨x::xs,H2,I2,.cons r1 r2,q2⟩
def zWC(t:TA):TE:=λY H Q=>t Y H λxs H1=>xs.length<=yD/\∀p,H1 p=none->Q (.ref p) (upd H1 p (.tup xs))
def zDC(t:TA):TE:=λY H Q=>t Y H λxs H1=>xs.length<=yD/\∀p,H1 p=none->Q (.ref p) (upd H1 p (.lst xs))
def zMA{x1}(h:PA X es t):PE X (.Tuple es x1 pos) (zWC t):=by
 intro U s Y H Q I hq;refine wpAny_Tuple_spliced (thn (h pos U s Y H _ I hq) λus s1 ⟨xs,H1,I1,r,z,q⟩=>⟨by rw[<-r.length];exact z,?_⟩);have hf:H1 s1.heap.objs.size=none:=I1.hok.fresh (yo _);refine⟨.ref s1.heap.objs.size,upd H1 s1.heap.objs.size (.tup xs),I1.laid (t':=s1.toks) (λb u e=>ye _ e) (yo _) ?_,rfl,q _ hf⟩;exact⟨z,us,r,⟨_,yr _ rfl,rfl,_,rfl⟩⟩
def z2z(h:PA X es t):PE X (.List es pos) (zDC t):=by
 intro U s Y H Q I hq;refine wpAny_List_spliced (thn (h pos U s Y H _ I hq) λus s1 ⟨xs,H1,I1,r,z,q⟩=>⟨by rw[<-r.length];exact z,?_⟩);have hf:H1 s1.heap.objs.size=none:=I1.hok.fresh (yo _);refine⟨.ref s1.heap.objs.size,upd H1 s1.heap.objs.size (.lst xs),I1.laid (t':=s1.toks) (λb u e=>ye _ e) (yo _) ?_,rfl,q _ hf⟩;exact⟨z,us,0,r,yr _ rfl⟩
end
abbrev Sp:=Wi->Hp->VK->XK->Prop
abbrev CXT:=Qp->Hp->yd->XK->yb->yd->Prop
structure sT(P:yu)(w:yG)(K:yt)(mg:yj->Option yb)(base:yU)(A:yH)(outer:Qp)(s:yd)(H:Hp):Prop where
 frames:A.frames=some outer
 mod:Mod K mg base
 bs:∀b o,base.get? b=some o->s.heap.get? b=some o/\H b=none
 bsz:base.objs.size<=s.heap.objs.size
 ss:s.heap.FunFrames base outer
 frf:∀b∈frs outer,H b=none
 hok:HOk P w H s.heap
 bare:AllBare s.gens
def CE(outer:Qp)(P:yu)(w:yG)(H:Hp)(s:yd)(Q:VK)(u:yb)(s':yd):Prop :=
 ∃v H',s'.os=s.os/\AllBare s'.gens/\Un (frs outer) [] H H' s.heap s'.heap/\HOk P w H' s'.heap/\RelV v u/\Q v H'
def CR(CX:CXT)(outer:Qp)(P:yu)(w:yG)(H:Hp)(s:yd)(Q:VK)(E:XK)(r:Result)(s':yd):Prop :=
 match r with
 |.ok (.ret u)=>CE outer P w H s Q u s'
 |.ok _=>False
 |.error e=>CX outer H s E e s'
structure tS(P:yu)(w:yG)(K:yt)(mg:yj->Option yb)(base:yU)(CX:CXT)(k:Nat)(f:yg)(fd:yP)(ps:Qx)(sp:Sp):Prop where
 len:∀vs H Q E,sp vs H Q E->vs.length=ps.length
 run:∀(A:yH)(outer:Qp)(s:yd)(H:Hp)(args:Args)(us:List yb)(vs:Wi)(Q:VK)(E:XK),tN k A->sT P w K mg base A outer s H->BindsTo s fd args (ps.zip us)->Vals vs us->sp vs H Q E ->
  Xf (yx P w) A (.call (.ref f) args) (CR CX outer P w H s Q E) s
def sT.make{P:yu}{w:yG}{K:yt}{mg:yj->Option yb}{base:yU}{A:yH}{outer:Qp}{s:yd}{H:Hp}(e:sT P w K mg base A outer s H)(C:yg)(us:List yb)(kw:List (yj×yb)) :
 sT P w K mg base (A.under (.builtin "type.__call__" ⟨.ref C::us,kw⟩)) outer s H:=⟨by first|exact e.frames|(simpa[Around.under,Code.envs,Code.isFrame,pushEnvs] using e.frames),e.mod,e.bs,e.bsz,e.ss,e.frf,e.hok,e.bare⟩
section
variable {X:Cx}{U:Qb}{Y:St}{H:Hp}{s s':yd}
def Inv.SE(I:Inv X U Y H s):sT X.prog X.w X.K X.mg X.base X.A X.stack s H :=
 ⟨I.ok.frames,I.ok.mod,I.bs,yA I.ok.bsz I.sz,I.stack,I.TM,I.hok,I.bare⟩
def Inv.after{Q:VK}{u:yb}(I:Inv X U Y H s)(h:CE X.stack X.prog X.w H s Q u s'):EP X U Y Q u s':=by
 obtain⟨v,H',os,bare,un,hok,r,q⟩:=h;obtain⟨hh,g,d,t,os'⟩:=s';obtain rfl:os'=s.os:=os;exact⟨v,H',I.call (h':=hh) (g':=g) (d':=d) (t':=t) (ch:=[]) un hok bare (λb z=>absurd z (by simp)),r,q⟩
end
def zIs(sp:Sp)(dvs:Wi)(E:XK)(t:TA):TE:=λY H Q=>t Y H λvs H1=>sp (vs++dvs) H1 Q E
def zVx(C:yg)(m:yj)(sp:Sp)(dvs:Wi)(E:XK)(ta:TE)(t:TA):TE:=λY H Q=>ta Y H λx H1=>∃a dx fs,x=.ref a/\H1 a=some (.ins C dx fs)/\fs.lookup m=none /\
 t Y H1 λvs H2=>sp (x::(vs++dvs)) H2 Q E
def zrB(C:yg)(sp:Sp)(dvs:Wi)(E:XK)(t:TA):TE:=λY H Q=>t Y H λvs H1=>∀x dx,H1 x=none->H1 dx=none->dx≠x ->
 sp (.ref x::(vs++dvs)) (upd (upd H1 dx (.own x)) x (.ins C dx [])) (λv H2=>v=.non/\Q (.ref x) H2) E
def Binds(K:yt)(fd:yP)(ps:Qx)(ds:List yb):Prop :=
 ∀(s:yd)(us:List yb),K.In s.heap->(us++ds).length=ps.length->BindsTo s fd ⟨us,[]⟩ (ps.zip (us++ds))
def Binds.all{K:yt}{fd:yP}{ps:Qx}(h:∀us:List yb,us.length=ps.length->bindArgs fd ⟨us,[]⟩=pure (ps.zip us)):Binds K fd ps []:=λs us _ hl=>by
 rw[Lg]at hl ⊢;exact .of_eq (h us hl)
def zJh(CX:CXT)(X:Cx)(E:XK):Prop:=∀(U:Qb) (Y:St) (H:Hp) (s:yd) (e:yb) (s':yd),Inv X U Y H s->CX X.stack H s E e s'->X.xe e s'
section
variable {X:Cx}{CX:CXT}{k:Nat}{f C:yg}{fd:yP}{ps:Qx}{sp:Sp}{dvs:Wi}{ds:List yb}{E:XK}{x m:yj}{p pos kD:YZ}{e o:yB}{es:Qz}{ta:TE}{t:TA}
def z6q{U:Qb}{Y:St}{H:Hp}{s:yd}{Q:VK}{us:List yb}{vs:Wi}(F:tS X.prog X.w X.K X.mg X.base CX k f fd ps sp)(hr:tN k X.A)(hb:Binds X.K fd ps ds)(hd:Vals dvs ds)(hx:zJh CX X E)
 (I:Inv X U Y H s) (r:Vals vs us) (h:sp (vs++dvs) H Q E):yp (yx X.prog X.w) X.A (call (.ref f) us) (EP X U Y Q) X.xe s:=by
 have r2:Vals (vs++dvs) (us++ds):=r.append hd;have hl:(us++ds).length=ps.length:=by rw[<-r2.length];exact F.len _ _ _ _ h
 refine wpAny_call (YW (F.run X.A X.stack s H ⟨us,[]⟩ (us++ds) (vs++dvs) Q E hr I.SE (hb s us I.kIn hl) r2 h) λr s' hq=>?_)
 cases r with
 |error e=>exact hx U Y H s e s' I hq
 |ok fl=>
  cases fl with
  |ret u=>exact I.after hq
  |next=>exact yN hq
  |brk=>exact yN hq
  |cont=>exact yN hq
def zUx(F:tS X.prog X.w X.K X.mg X.base CX k f fd ps sp)(hr:tN k X.A)(hg:Gl X x)(hm:X.mg x=some (.ref f))(hk:W.keepIn X.K (.ref f)=true)(hb:Binds X.K fd ps ds)(hd:Vals dvs ds)(hx:zJh CX X E)
 (ha:PA X (e::es) t) (hdb:(x==("__debug__":yj))=false:=by decide) (he:yh (e::es) X.env=(false,yV e X.env)::yh es X.env:=by rfl) (kM:(yW pos (yh es X.env)).any (·.1)=false:=by rfl) :
 PE X (.Call (.Name x p) (e::es) [] pos) (zIs sp dvs E t):=by
 intro U s Y H Q I h;refine YL (zpf I hg hm ?_ hdb);refine W.callWith_K (h₀:=X.base) I.ok.mod.kin hk (thn (ha pos U s Y H _ I h) λus s1 ⟨vs,H1,I1,r,q⟩=>⟨I1.kIn,?_⟩) he kM;exact z6q F hr hb hd hx I1 r q
def z0y{pl:Sem Bool}(he:PE X o ta)(c:Cls X.K C)(hm:Meth X.K C m f)(F:tS X.prog X.w X.K X.mg X.base CX k f fd ps sp)(hr:tN k X.A)(hb:Binds X.K fd ps ds)(hd:Vals dvs ds)(hx:zJh CX X E)(ha:PA X (e::es) t)
 (kT:yh (e::es) X.env=(false,yV e X.env)::yh es X.env:=by rfl) (kM:(yW pos (yh es X.env)).any (·.1)=false:=by rfl)
 (ht:yV (.Call (.Attribute o m kD) (e::es) [] pos) X.env=(do
  let ov <-yV o X.env
  standAt kD.atName
  let (f,first) <-xO [ov] (getMethod ov m pl)
  callWith pos f first (yW pos (yh (e::es) X.env)) (xi pos (Yv [] X.env))):=by rfl) :
 PE X (.Call (.Attribute o m kD) (e::es) [] pos) (zVx C m sp dvs E ta t):=by
 intro U s Y H Q I h;refine W.methodCall_KW (pl:=pl) (thn (he U s Y H _ I h) λu s1 ⟨x,H1,I1,rx,a,dx,fs,ex,ea,l,q⟩=>?_) ht;subst ex;obtain rfl:u=yI a:=rx;refine zXi I1 ea c hm l ?_;refine W.callWith_K (first:=[.ref a]) (h₀:=X.base) I.ok.mod.kin hm.kp (thn (ha pos U s1 Y H1 _ I1 q) λus s2 ⟨vs,H2,I2,r,q2⟩=>⟨I2.kIn,?_⟩) kT kM;exact z6q (us:=.ref a::us) (vs:=.ref a::vs) F hr hb hd hx I2 (.cons rfl r) q2
def zKv{pl:Sem Bool}(he:PE X o ta)(c:Cls X.K C)(hm:Meth X.K C m f)(F:tS X.prog X.w X.K X.mg X.base CX k f fd ps sp)(hr:tN k X.A)(hb:Binds X.K fd ps ds)(hd:Vals dvs ds)(hx:zJh CX X E)
 (ht:yV (.Call (.Attribute o m kD) [] [] pos) X.env=(do
  let ov <-yV o X.env
  standAt kD.atName
  let (f,first) <-xO [ov] (getMethod ov m pl)
  callWith pos f first (yW pos (yh [] X.env)) (xi pos (Yv [] X.env))):=by rfl) :
 PE X (.Call (.Attribute o m kD) [] [] pos) (zVx C m sp dvs E ta z7A):=by
 intro U s Y H Q I h;refine W.methodCall_KW (pl:=pl) (thn (he U s Y H _ I h) λu s1 ⟨x,H1,I1,rx,a,dx,fs,ex,ea,l,q⟩=>?_) ht;subst ex;obtain rfl:u=yI a:=rx;refine zXi I1 ea c hm l ?_;exact W.callWith_K0 (first:=[.ref a]) I1.kIn hm.kp (z6q (us:=[.ref a]) (vs:=[.ref a]) F hr hb hd hx I1 (.cons rfl .nil) q)
structure Mk(K:yt)(C f:yg):Prop where
 makes:W.makesIn K C=true
 init:Yh K (.ref C) "__init__"=some (some (.ref f))
 fn:W.isFn K (.ref f)=true
 kp:W.keepIn K (.ref C)=true
def zZv{U:Qb}{Y:St}{H:Hp}{s:yd}{Q:VK}{us:List yb}{vs:Wi}(M:Mk X.K C f)(F:tS X.prog X.w X.K X.mg X.base CX k f fd ps sp)(hr:tN (k+1) X.A)(hb:Binds X.K fd ps ds)(hd:Vals dvs ds)
 (hx:zJh CX X E) (I:Inv X U Y H s) (r:Vals vs us)
 (h:∀x dx,H x=none->H dx=none->dx≠x->sp (.ref x::(vs++dvs)) (upd (upd H dx (.own x)) x (.ins C dx [])) (λv H2=>v=.non/\Q (.ref x) H2) E) :
 yp (yx X.prog X.w) X.A (call (.ref C) us) (EP X U Y Q) X.xe s:=by
 have hq:=h (s.heap.objs.size+1) s.heap.objs.size (I.hok.fresh (Nat.le_succ _)) (I.hok.fresh (yo _)) (yC (xP _));have I2:=Inv.made (C:=C) I;have r2:Vals (V.ref (s.heap.objs.size+1)::(vs++dvs)) (yI (s.heap.objs.size+1)::(us++ds)) :=.cons rfl (r.append hd)
 have hl:(yI (s.heap.objs.size+1)::us++ds).length=ps.length:=by
  have e:=r2.length;rw[F.len _ _ _ _ hq]at e;exact e.symm
 refine wpAny_call (zww (f:=f) I.kIn M.makes M.init (beq_iff_eq.mp M.fn) (YW (F.run _ X.stack _ _ ⟨yI (s.heap.objs.size+1)::us,[]⟩ (yI (s.heap.objs.size+1)::(us++ds)) _ _ E (hr.make C us [])
  (I2.SE.make C us []) (hb _ (yI (s.heap.objs.size+1)::us) I2.kIn hl) r2 hq) λr s' hq'=>?_))
 cases r with
 |error e=>exact hx U Y _ _ e s' I2 hq'
 |ok fl=>
  cases fl with
  |ret u=>
   obtain⟨v,H',I3,rv,ev,q3⟩:=I2.after hq';subst ev;exact⟨rv,⟨V.ref (s.heap.objs.size+1),H',I3,rfl,q3⟩⟩
  |next=>exact yN hq'
  |brk=>exact yN hq'
  |cont=>exact yN hq'
def z6y(M:Mk X.K C f)(F:tS X.prog X.w X.K X.mg X.base CX k f fd ps sp)(hr:tN (k+1) X.A)(hg:Gl X x)(hm:X.mg x=some (.ref C))(hb:Binds X.K fd ps ds)(hd:Vals dvs ds)(hx:zJh CX X E)
 (ha:PA X (e::es) t) (hdb:(x==("__debug__":yj))=false:=by decide) (he:yh (e::es) X.env=(false,yV e X.env)::yh es X.env:=by rfl) (kM:(yW pos (yh es X.env)).any (·.1)=false:=by rfl) :
 PE X (.Call (.Name x p) (e::es) [] pos) (zrB C sp dvs E t):=by
 intro U s Y H Q I h;refine YL (zpf I hg hm ?_ hdb);refine W.callWith_K (h₀:=X.base) I.ok.mod.kin M.kp (thn (ha pos U s Y H _ I h) λus s1 ⟨vs,H1,I1,r,q⟩=>⟨I1.kIn,?_⟩) he kM;exact zZv M F hr hb hd hx I1 r q
variable {ks:Qx}{kpos:YZ}{kws:List YQ}{te:TE}{tk:TA}{nm:Qy}
structure KBinds(K:yt)(fd:yP)(ps ks:Qx)(g:List yb->List yb->List yb)(gV:Wi->Wi->Wi):Prop where
 to:∀(s:yd)(us ws:List yb),K.In s.heap->(g us ws).length=ps.length->BindsTo s fd ⟨us,ks.zip ws⟩ (ps.zip (g us ws))
 rel:∀{vs:Wi} {us:List yb} {zs:Wi} {ws:List yb},Vals vs us->Vals zs ws->Vals (gV vs zs) (g us ws)
variable {g:List yb->List yb->List yb}{gV:Wi->Wi->Wi}
end
structure tj(N P:Qx)(sc:xG):Prop where
 kind:sc.kind=.function
 co:sc.isCoroutine=false
 gen:sc.isGenerator=false
 nd:N.Nodup
 pre:N.take P.length=P
 par:∀x∈P,sc.names.lookup x=some .local\/sc.names.lookup x=some .cell
 nofree:∀y∈sc.names,y.2≠.free
def z0n{kindOf:yj->Option xj}{x:yj}:∀{binds:List (yj×yb)} {m:yj->Option yb},(∀v,(x,v)∉binds)->bindL kindOf binds m x=m x
 |[],_,_=>rfl
 |(n,v)::r,m,h=>by
  unfold bindL;rw[z0n λw hw=>h w (Nm _ hw)]
  split
  ·have:x≠n:=by rintro rfl;exact h v Nn
   simp[this]
  ·rfl
def zTn{kindOf:yj->Option xj}{x:yj}:∀{binds:List (yj×yb)} {m:yj->Option yb},(∀v,(x,v)∉binds)->bindC kindOf binds m x=m x
 |[],_,_=>rfl
 |(n,v)::r,m,h=>by
  unfold bindC;rw[zTn λw hw=>h w (Nm _ hw)]
  split
  ·rfl
  ·have:x≠n:=by rintro rfl;exact h v Nn
   simp[this]
def zdo{kindOf:yj->Option xj}{x:yj}{v:yb}:∀{P:Qx} {vs:List yb} {i:Nat} {m:yj->Option yb},P.Nodup->P[i]?=some x->vs[i]?=some v->kindOf x=some .local ->
 bindL kindOf (P.zip vs) m x=some v
 |[],_,_,_,_,h,_,_=>by simp at h
 |_::_,[],_,_,_,_,h,_=>by simp at h
 |p::P,w::vs,0,m,nd,h1,h2,hk=>by
  simp at h1 h2;subst h1;subst h2;show bindL kindOf ((p,w)::P.zip vs) m p=_;unfold bindL;rw[z0n λv hv=>(List.nodup_cons.mp nd).1 (Nv hv).1,if_pos hk];simp
 |p::P,w::vs,i+1,m,nd,h1,h2,hk=>by
  show bindL kindOf ((p,w)::P.zip vs) m x=_;unfold bindL;exact zdo (i:=i) (List.nodup_cons.mp nd).2 (by simpa using h1) (by simpa using h2) hk
def zuo{kindOf:yj->Option xj}{x:yj}{v:yb}:∀{P:Qx} {vs:List yb} {i:Nat} {m:yj->Option yb},P.Nodup->P[i]?=some x->vs[i]?=some v->kindOf x≠some .local ->
 bindC kindOf (P.zip vs) m x=some v
 |[],_,_,_,_,h,_,_=>by simp at h
 |_::_,[],_,_,_,_,h,_=>by simp at h
 |p::P,w::vs,0,m,nd,h1,h2,hk=>by
  simp at h1 h2;subst h1;subst h2;show bindC kindOf ((p,w)::P.zip vs) m p=_;unfold bindC;rw[zTn λv hv=>(List.nodup_cons.mp nd).1 (Nv hv).1,if_neg hk];simp
 |p::P,w::vs,i+1,m,nd,h1,h2,hk=>by
  show bindC kindOf ((p,w)::P.zip vs) m x=_;unfold bindC;exact zuo (i:=i) (List.nodup_cons.mp nd).2 (by simpa using h1) (by simpa using h2) hk
def start(N:Qx)(vs:Wi):St:=vs.map some++yy (N.length-vs.length) none
def cxB(cal:Bool)(CX:CXT)(P:yu)(w:yG)(K:yt)(mg:yj->Option yb)(base:yU)(N:Qx)(qual:yj)(scope:xG)(f:yg)(cd:yb)(A:yH)(outer:Qp)(s:yd)(H:Hp)(E:XK):Cx where
 prog:=P
 w:=w
 K:=K
 mg:=mg
 base:=base
 A:=A.deeper (Xl qual scope s.heap.objs.size f cd)
 N:=N
 s₀:=s
 H₀:=H
 env:=Xl qual scope s.heap.objs.size f cd
 outer:=outer
 stack:=Xl qual scope s.heap.objs.size f cd::outer
 ex:=[]
 calm:=cal
 fn:=λ_=>true
 pn:=[]
 xe:=λe s'=>yp (yx P w) (A.deeper (Xl qual scope s.heap.objs.size f cd)) (leaving (Xl qual scope s.heap.objs.size f cd) e) (λ_ s''=>CX outer H s E e s'') (λe' s''=>CX outer H s E e' s'') s'
abbrev zfv(CX:CXT)(P:yu)(w:yG)(K:yt)(mg:yj->Option yb)(base:yU)(N:Qx)(qual:yj)(scope:xG)(f:yg)(cd:yb)(A:yH)(outer:Qp)(s:yd)(H:Hp)(E:XK):Cx:=cxB true CX P w K mg base N qual scope f cd A outer s H E
def zqr{sc:xG}{n:Nat}{x:yj}(h:sc.names.lookup x=some .cell):∃c,(Yr n sc.names []).lookup x=some c:=by
 have q:=W.cellsFrom_some sc.names n [] (.inl h);exact Option.isSome_iff_exists.mp q
def ztt{cal:Bool}{CX:CXT}{P:yu}{w:yG}{K:yt}{mg:yj->Option yb}{base:yU}{N ps:Qx}{qual:yj}{scope:xG}{f:yg}{cd:yb}{A:yH}{outer:Qp}{s s1:yd}{H:Hp}{E:XK}{us:List yb}{vs:Wi}
 (S:tj N ps scope) (hd:cal=true->A.handled=none) (e0:sT P w K mg base A outer s H) (hl:vs.length=ps.length) (r:Vals vs us)
 (x:InCallC s s.heap.objs.size (bindL (Xl qual scope s.heap.objs.size f cd).kindOf (ps.zip us) λ_=>none) (Yr (s.heap.objs.size+1) scope.names []) (bindC (Xl qual scope s.heap.objs.size f cd).kindOf (ps.zip us) λ_=>none) s1) :
 Inv (cxB cal CX P w K mg base N qual scope f cd A outer s H E) [] (start N vs) H s1:=by
 have kM:ps.length<=N.length:=by have:=congrArg xS S.pre;rw[Ly]at this;omega
 obtain⟨h1,tk,rfl,hk⟩:=x.done;have noA:∀b:yg,b∉(cxB cal CX P w K mg base N qual scope f cd A outer s H E).ex:=λb z=>absurd (show b∈([]:Qv) from z) (by simp)
 refine⟨⟨e0.mod,S.kind,rfl,rfl,yo _,λy z c h1 h2=>?_,λy hy=>?_,λy c _ h=>?_,hd,Around.frames_deeper e0.frames,.inr ⟨rfl,rfl⟩,λb z=>absurd z (noA b),e0.bs,e0.bsz,λb _ _=>noA b,λb z=>absurd z (noA b),e0.ss,e0.frf⟩,
  rfl,e0.bare,Un.kept hk,⟨_,x.toInCall.ns,λi y v h1 h2 h3=>?_⟩,λy c h=>⟨_,x.cell y c h⟩,e0.hok.fresh (yo _),λy c h=>?_,λp hp=>absurd (show p∈([]:Qb) from hp) (by simp),e0.hok.kept hk,?_⟩
 ·exact name_of_addr x.apart (Yd h1) (Yd h2)
 ·have hy:scope.names.lookup y=some .cell\/scope.names.lookup y=some .free:=hy;rcases hy with hy|hy
  ·exact zqr hy
  ·exact absurd rfl (S.nofree _ (Yd hy))
 ·exact YI (x.above y c (Yd h))
 ·have hi:i<vs.length:=by
   unfold start at h2
   by_cases hi:i<vs.length
   ·exact hi
   ·rw[yS (by simpa using hi)]at h2;rw[YM]at h2
    split at h2<;>cases h2
  have ha:vs[i]?=some v:=by
   unfold start at h2;rw[yq (by simpa using hi),yk]at h2
   cases e:vs[i]? with
   |none=>rw[e]at h2;cases h2
   |some a=>rw[e]at h2;cases h2;rfl
  obtain⟨u,hu,rv⟩:=r.get ha
  have hp:ps[i]?=some y:=by
   rw[<-S.pre,List.getElem?_take_of_lt (by omega)];exact h1
  have ndP:ps.Nodup:=by rw[<-S.pre];exact S.nd.sublist (List.take_sublist _ _)
  refine⟨u,rv,?_⟩;rcases S.par y (No hp) with k|k
  ·exact .inl ⟨k,zdo ndP hp hu k⟩
  ·obtain⟨c,e⟩:=zqr (n:=s.heap.objs.size+1) k;refine .inr ⟨.inl k,c,e,?_⟩;have q:=x.cell y c e;rw[zuo ndP hp hu (by show scope.names.lookup y≠_;rw[k];decide)]at q;exact q
 ·exact e0.hok.fresh (YI (x.above y c (Yd h)))
 ·unfold start;show _=N.length;rw[Lq,Lu,Xb];omega
def zVw{cal:Bool}{CX:CXT}{P:yu}{w:yG}{K:yt}{mg:yj->Option yb}{base:yU}{f:yg}{name qual:yj}{params:Arguments}{body:Wc}{scope:xG}{dV kV doc pm cdv ct oc:yb}{an od:Qw}
 {osl:Array (Option yb)} {N ps:Qx} (lk:K.lookup f=some ⟨oc,od,.func (W.fnOf name qual params body scope dV kV doc pm an cdv ct),osl⟩) (hcd:W.codeIn K cdv qual=true) (S:tj N ps scope)
 {A:yH} {outer:Qp} {s:yd} {H:Hp} {args:Args} {us:List yb} {vs:Wi} {Q:VK} {E:XK} (hl:vs.length=ps.length) (hdp:A.depth<recursionLimit) (hd:cal=true->A.handled=none) (e0:sT P w K mg base A outer s H) (hb:BindsTo s (W.fnOf name qual params body scope dV kV doc pm an cdv ct) args (ps.zip us)) (r:Vals vs us)
 {t:TS} (ht:PSs (cxB cal CX P w K mg base N qual scope f cdv A outer s H E) body t) (hq:t {nx:=λ_ H'=>Q .non H',rt:=Q } (start N vs) H):Xf (yx P w) A (.call (.ref f) args) (CR CX outer P w H s Q E) s:=by
 have KX:K.In s.heap:=e0.mod.kin.keeps λb o e=>(e0.bs b o e).1;have lim:s.heap.NoLimit:=e0.mod.nolimit.keeps λb o e=>(e0.bs b o e).1
 have hkind:∀y∈ps.zip us,scope.names.lookup y.1=some .local\/(scope.names.lookup y.1=some .cell/\((Yr (s.heap.objs.size+1) scope.names []).lookup y.1).isSome=true):=λ⟨n,v⟩ hy=>by
  rcases S.par n (Nv hy).1 with q|q
  ·exact .inl q
  ·exact .inr ⟨q,W.cellsFrom_some _ _ _ (.inl q)⟩
 refine codeAny_call_function hdp (KX _ _ lk) rfl S.co S.gen rfl (W.codeRec_of KX hcd) (hb _ _ _ _ ?_);refine wpAny_newFunctionEnv_cells S.kind hkind λenv he s1 x=>?_;subst he;refine⟨lim.keeps x.toInCall.keep,codeAny_func ?_⟩;have I:Inv (cxB cal CX P w K mg base N qual scope f cdv A outer s H E) [] (start N vs) H s1:=ztt S hd e0 hl r x;refine yZ (ht [] s1 (start N vs) H _ I hq) (λfl s' hs=>?_) λe s' hs=>hs
 have fin:∀{Y':St} {H':Hp} {v:V} {u:yb},Inv (cxB cal CX P w K mg base N qual scope f cdv A outer s H E) [] Y' H' s'->RelV v u->Q v H'->CE outer P w H s Q u s' :=
  λ{Y' H' v u} δ rv q=>⟨v,H',δ.os,δ.bare,δ.base,δ.hok,rv,q⟩
 cases fl with
 |ret u=>
  obtain⟨v,Y',H',δ,rv,q⟩:=hs;exact fin δ rv q
 |next=>
  obtain⟨Y',H',δ,q⟩:=hs;exact fin (v:=V.non) (u:=Ym) δ rfl q
 |brk=>
  obtain⟨_,_,_,q⟩:=hs;exact yN q
 |cont=>
  obtain⟨_,_,_,q⟩:=hs;exact yN q
def zXz{CX:CXT}{P:yu}{w:yG}{K:yt}{mg:yj->Option yb}{base:yU}{k:Nat}{f:yg}{name qual:yj}{params:Arguments}{body:Wc}{scope:xG}{dV kV doc pm cdv ct oc:yb}{an od:Qw}
 {osl:Array (Option yb)} {N ps:Qx} {sp:Sp} (lk:K.lookup f=some ⟨oc,od,.func (W.fnOf name qual params body scope dV kV doc pm an cdv ct),osl⟩) (hcd:W.codeIn K cdv qual=true) (S:tj N ps scope)
 (len:∀vs H Q E,sp vs H Q E->vs.length=ps.length)
 (hbody:∀(A:yH)(outer:Qp)(s:yd)(H:Hp)(vs:Wi)(Q:VK)(E:XK),tN k (A.deeper (Xl qual scope s.heap.objs.size f cdv))->sp vs H Q E ->
  ∃t,PSs (zfv CX P w K mg base N qual scope f cdv A outer s H E) body t/\t {nx:=λ_ H'=>Q .non H',rt:=Q } (start N vs) H) :
 tS P w K mg base CX (k+1) f (W.fnOf name qual params body scope dV kV doc pm an cdv ct) ps sp:=by
 refine⟨len,λA outer s H args us vs Q E hr e0 hb r hsp=>?_⟩;obtain⟨t,ht,hq⟩:=hbody A outer s H vs Q E (hr.deeper _) hsp;exact zVw lk hcd S (len _ _ _ _ hsp) hr.depth (λ_=>hr.hd) e0 hb r ht hq
section
variable {X:Cx}{x:yj}{p pos:YZ}{e:yB}{es:Qz}{t:TA}{id T:String}{r:Wi->Hp->VK->Prop}
def tCB(r:Wi->Hp->VK->Prop)(t:TA):TE:=λY H Q=>t Y H λvs H1=>r vs H1 Q
def z7q(hc:zqi X (.builtin id) r)(hg:Gl X x)(hm:X.mg x=none)(hv:yK x=some (.builtin id))(ha:PA X (e::es) t)(hn:x≠"__name__":=by decide)(hdb:(x==("__debug__":yj))=false:=by decide)
 (he:yh (e::es) X.env=(false,yV e X.env)::yh es X.env:=by rfl) (kM:(yW pos (yh es X.env)).any (·.1)=false:=by rfl):PE X (.Call (.Name x p) (e::es) [] pos) (tCB r t):=by
 intro U s Y H Q I h;refine YL (zmk I hg hm hv ?_ hn hdb);exact PyProof.Rows.callWith_builtin1 (thn (ha pos U s Y H _ I h) λus s1 ⟨vs,H1,I1,r1,q1⟩=>hc U s1 Y H1 vs us Q I1 r1 q1) he kM
def z6e(hc:zqi X (.type T) r)(hg:Gl X x)(hm:X.mg x=none)(hv:yK x=some (.type T))(ha:PA X (e::es) t)(hn:x≠"__name__":=by decide)(hdb:(x==("__debug__":yj))=false:=by decide)
 (he:yh (e::es) X.env=(false,yV e X.env)::yh es X.env:=by rfl) (kM:(yW pos (yh es X.env)).any (·.1)=false:=by rfl):PE X (.Call (.Name x p) (e::es) [] pos) (tCB r t):=by
 intro U s Y H Q I h;refine YL (zmk I hg hm hv ?_ hn hdb);exact YO (thn (ha pos U s Y H _ I h) λus s1 ⟨vs,H1,I1,r1,q1⟩=>hc U s1 Y H1 vs us Q I1 r1 q1) he kM
end
end L2
namespace HT
open PySem PyProof.Rows
section
open PySem.SeqAt
open PySem.AutoSeq1 (wpAny_loadPart')
open PySem.MeetsSeq PySem.MeetsSeq2 PySem.MeetsSeq3
end
section
variable {prog:yu}{w:yG}{A:yH}{E:yb->yd->Prop}{s:yd}
def cat_tup{t b:yg}{vs ws:List yb}{Q:yb->yd->Prop}(ht:IsTup s.heap t vs.toArray)(hb:IsTup s.heap b ws.toArray)(hv:vs≠[])
 (h1:ws=[]->Q (.ref t) s) (h2:ws≠[]->Q (.ref s.heap.objs.size) {s with heap:=s.heap.push {cls:=.type "tuple",data:=.seq (vs++ws).toArray }})
 (hsz:vs.length+ws.length<=yD):yp (yx prog w) A (xh .Add (.ref t) (.ref b)) Q E s:=by
 obtain⟨⟨cls,dd,data,sl⟩,ho,hc,n,hd⟩:=id ht;obtain⟨⟨cls2,dd2,data2,sl2⟩,ho2,hc2,n2,hd2⟩:=id hb;simp only at hc hd hc2 hd2;subst hc hd hc2 hd2;have e:vs.toArray++ws.toArray=(vs++ws).toArray:=by simp
 by_cases hw:ws=[]
 ·exact concat_meets ⟨_,ho,rfl⟩ ⟨_,ho2,rfl⟩ noFill_tuple_add seq_tuple_add PySem.F.slot_tuple_add PySem.F.entry_tuple_add (PySem.F.args_tuple_add_2 _ _)
   (tuple_addW1 t b vs.toArray ws.toArray n n2 dd dd2 sl sl2 (by simpa using hv) (by simp[hw])) ⟨ho,ho2,h1 hw⟩
 ·refine concat_meets ⟨_,ho,rfl⟩ ⟨_,ho2,rfl⟩ noFill_tuple_add seq_tuple_add PySem.F.slot_tuple_add PySem.F.entry_tuple_add (PySem.F.args_tuple_add_2 _ _)
   (tuple_addW2 t b vs.toArray ws.toArray n n2 dd dd2 sl sl2 (by simpa using hv) (by simpa using hw) (by rw[Nx,Nx];exact hsz)) ⟨ho,ho2,?_⟩
  rw[e];exact h2 hw
def sIx(n d:Nat):Qk->Nat
 |none=>d
 |some v=>if v<0 then(v+(n:Int)).toNat else min v.toNat n
def Sc(n d:Nat):sIx n d none=d:=rfl
def Ss(n d k:Nat):sIx n d (some (k:Int))=min k n:=by
 show(if(k:Int)<0 then((k:Int)+(n:Int)).toNat else min (k:Int).toNat n)=min k n;rw[if_neg (by omega),xH]
def zsA(n d:Nat)(hd:d<=n)(o:Qk):sIx n d o<=n:=by
 cases o with
 |none=>exact hd
 |some v=>
  show(if v<0 then(v+(n:Int)).toNat else min v.toNat n)<=n
  by_cases hv:v<0
  ·rw[if_pos hv];omega
  ·rw[if_neg hv];exact Nat.min_le_right _ _
def z2u(v:Int)(n d:Nat):(if v<0 then max (v+(n:Int)) 0 else min v (n:Int))=((sIx n d (some v):Nat):Int):=by
 show(if v<0 then max (v+(n:Int)) 0 else min v (n:Int))=(((if v<0 then(v+(n:Int)).toNat else min v.toNat n):Nat):Int)
 by_cases hv:v<0
 ·simp only[if_pos hv];omega
 ·simp only[if_neg hv];omega
def zVr(lo hi:Qk)(n:Nat):Builtin.Slice.sliceAdjust lo hi 1 (n:Int)=(((sIx n 0 lo:Nat):Int),((sIx n n hi:Nat):Int)):=by
 have h1:¬((1:Int)<0):=by omega
 unfold Builtin.Slice.sliceAdjust;simp only[h1,if_false];refine Prod.ext ?_ ?_
 ·cases lo with
  |none=>rfl
  |some v=>exact z2u v n 0
 ·cases hi with
  |none=>rfl
  |some v=>exact z2u v n n
def z5r(i j:Nat):xz (i:Int) (j:Int) 1=j-i:=by
 unfold xz;have h1:(1:Int)>0:=by omega
 simp only[h1,if_true,Int.ediv_one]
 split<;>omega
def zam{v:yb}{o:Qk}{Q:Qk->yd->Prop}(p:IsPart v o)(h:Q o s):yp (yx prog w) A (Builtin.Slice.slicePartIndex v) Q E s:=by
 cases p with
 |none=>exact slicePart_none h
 |int i t=>exact slicePart_int h
def TK{sl:yg}{vl vu:yb}{lo hi:Qk}{n:Nat}{Q:Int×Int×Nat->yd->Prop}(hs:s.heap.IsSliceOf sl vl vu .none)(pl:IsPart vl lo)(pu:IsPart vu hi)
 (h:Q (((sIx n 0 lo:Nat):Int),1,sIx n n hi-sIx n 0 lo) s):yp (yx prog w) A (Builtin.Slice.sliceApplied (.ref sl) (pure (n:Int))) Q E s:=by
 obtain⟨os,hos,hcs,hds⟩:=id hs;unfold Builtin.Slice.sliceApplied Builtin.Slice.sliceFields;refine ya (ya (Yt hos hds (x:=vl) rfl (ya (Yt hos hds (x:=vu) rfl (ya (Yt hos hds (x:=.none) rfl (yi ?_)))))));refine ya (slicePart_none ?_);show yp _ _ (if((1:Int)==0)=true then _ else _) _ _ s;rw[if_neg (by decide)];refine ya (zam pl (ya (zam pu (ya (yi ?_)))));show yp _ _ (match Builtin.Slice.sliceAdjust lo hi 1 (n:Int) with|(lo,hi)=>pure (lo,(1:Int),xz lo hi 1)) _ _ s;rw[zVr lo hi n];show yp _ _ (pure (((sIx n 0 lo:Nat):Int),(1:Int),xz ((sIx n 0 lo:Nat):Int) ((sIx n n hi:Nat):Int) 1)) _ _ s;rw[z5r];exact yi h
def zuv(xs:Array yb)(i k:Nat):((yz k).filterMap λ(m:Nat)=>xs[((i:Int)+(m:Int)*1).toNat]?).toArray=((xs.toList.drop i).take k).toArray:=by
 have e:(λ(m:Nat)=>xs[((i:Int)+(m:Int)*1).toNat]?)=λm=>xs[i+m]?:=by
  funext m
  have:((i:Int)+(m:Int)*1).toNat=i+m:=by omega
  rw[this]
 rw[e];have:=pick_run xs i k;rw[List.filterMap_map]at this;have e2:((λx=>xs[x]?)∘λx=>i+x)=λm=>xs[i+m]?:=rfl;rw[e2]at this;rw[this]
def sk{t sl:yg}{items:Array yb}{vl vu:yb}{lo hi:Qk}{Q:yb->yd->Prop}(ht:IsTup s.heap t items)(hs:s.heap.IsSliceOf sl vl vu .none)(pl:IsPart vl lo)(pu:IsPart vu hi)
 (hw:¬(sIx items.size 0 lo=0/\sIx items.size items.size hi=items.size))
 (h:Q (.ref s.heap.objs.size) {s with heap:=s.heap.push {cls:=.type "tuple",data:=.seq ((items.toList.drop (sIx items.size 0 lo)).take (sIx items.size items.size hi-sIx items.size 0 lo)).toArray }})
 (hsz:items.size<=yD):yp (yx prog w) A (getItem (.ref t) (.ref sl)) Q E s:=by
 have htake:sizeOk (.seq ((items.toList.drop (sIx items.size 0 lo)).take (sIx items.size items.size hi-sIx items.size 0 lo)).toArray):=by
  show((items.toList.drop (sIx items.size 0 lo)).take (sIx items.size items.size hi-sIx items.size 0 lo)).toArray.size<=yD;rw[Nx,Ly,Ls,xo];omega
 have hj:sIx items.size items.size hi<=items.size:=zsA _ _ (yo _) hi;obtain⟨os,hos,hcs,hds⟩:=id hs;have hTs:s.TypeIs (.ref sl) "slice":=⟨os,hos,hcs⟩
 unfold getItem
 try with_reducible refine Yl ?_
 first|refine ya (yi ?_)|skip
 refine ya (wpAny_sequenceKey ht.typeIs (by decide) ?_)
 refine ya (Yp (name:=YV "__getitem__") ht.typeIs xc
  (Yj xc ht.typeIs entry_tuple_getitem ?_ (args_tuple_getitem _ _)))
 show yp _ _ (Builtin.Tuple.tupleItemsOf (.ref t) >>= _) _ _ s;refine ya (tupleItemsOf_ ht ?_);refine ya (wpAny_typeOf hTs ?_);rw[if_pos (by decide)];refine ya (TK hs pl pu ?_)
 have hno:¬((((sIx items.size 0 lo:Nat):Int)==0&&(1:Int)==1&&(sIx items.size items.size hi-sIx items.size 0 lo)==items.size)=true):=by
  intro q;rw[yM,yM]at q;have q1:((sIx items.size 0 lo:Nat):Int)=0:=eq_of_beq q.1.1;have q2:sIx items.size items.size hi-sIx items.size 0 lo=items.size:=eq_of_beq q.2;exact hw ⟨by omega,by omega⟩
 show yp _ _ (if(((sIx items.size 0 lo:Nat):Int)==0&&(1:Int)==1&&(sIx items.size items.size hi-sIx items.size 0 lo)==items.size)=true then _ else _) _ _ s;rw[if_neg hno,zuv]
 first
  |exact ya (m:=xg _) (yX (yi ⟨_,rfl,yi h⟩) htake)
  |exact ya (m:=xg _) (yX (ya (yi (yi ⟨_,rfl,yi h⟩))) htake)
  |exact ya (ya (m:=xg _) (yX (yi (yi ⟨_,rfl,yi h⟩)) htake))
  |exact ya (ya (m:=xg _) (yX (yi ⟨_,rfl,yi h⟩) htake))
end
end HT
namespace L2
open PySem PySem.Spec PyProof.Rows
abbrev TO:=St->Hp->(Qk->Hp->Prop)->Prop
def PO(X:Cx)(e:Option yB)(t:TO):Prop :=
 ∀(U:Qb) (s:yd) (Y:St) (H:Hp) (Q:Qk->Hp->Prop),Inv X U Y H s->t Y H Q ->
  yp (yx X.prog X.w) X.A (evalPart e X.env) (λu s'=>∃o H',Inv X U Y H' s'/\IsPart u o/\Q o H') X.xe s
def zDx:TO:=λ_ H Q=>Q none H
def zHB(t:TE):TO:=λY H Q=>t Y H λx H1=>∃i,x=.int i/\Q (some i) H1
def zlm{ns:Qg}:∀{us:List yb},Vals (ns.map V.int) us->IntsAre us ns:=by
 induction ns with
 |nil=>intro us r;rw[Nh]at r;cases r;exact .nil
 |cons n ns ih=>
  intro us r;rw[Nf]at r
  cases r with
  |cons r1 r2=>
   obtain⟨t,e⟩:=r1;subst e;exact .cons n t (ih r2)
section
variable {X:Cx}{e:yB}{te:TE}{lo hi:Option yB}{tl th:TO}{pos p2:YZ}
def zRx:PO X none zDx:=by
 intro U s Y H Q I h;rw[evalPart_none];exact yi ⟨none,H,I,.none,h⟩
def zHx(h:PE X e te):PO X (some e) (zHB te):=by
 intro U s Y H Q I hw;rw[evalPart_some];refine thn (h U s Y H _ I hw) λu s1 ⟨x,H1,I1,r1,q1⟩=>?_;obtain⟨i,rfl,q⟩:=q1;obtain⟨t,rfl⟩:=r1;exact⟨some i,H1,I1,.int i t,q⟩
def SlR(X:Cx)(r:V->Qk->Qk->Hp->VK->Prop):Prop :=
 ∀(U:Qb) (s:yd) (Y:St) (H:Hp) (x:V) (v vl vu:yb) (lo hi:Qk) (sl:yg) (Q:VK),Inv X U Y H s->RelV x v->s.heap.IsSliceOf sl vl vu .none->IsPart vl lo->IsPart vu hi->r x lo hi H Q ->
  ∃T id,typeLookup (.type T) "__getitem__"=pure (some (.builtin id))/\s.TypeIs v T/\yp (yx X.prog X.w) X.A (getItem v (.ref sl)) (EP X U Y Q) X.xe s
def SlR.or{r r':V->Qk->Qk->Hp->VK->Prop}(h:SlR X r)(h':SlR X r'):SlR X (λx lo hi H Q=>r x lo hi H Q\/r' x lo hi H Q):=by
 intro U s Y H x v vl vu lo hi sl Q I rx hs pl pu q;rcases q with q|q
 ·exact h U s Y H x v vl vu lo hi sl Q I rx hs pl pu q
 ·exact h' U s Y H x v vl vu lo hi sl Q I rx hs pl pu q
def tSl(r:V->Qk->Qk->Hp->VK->Prop)(te:TE)(tl th:TO):TE:=λY H Q=>te Y H λx H1=>tl Y H1 λl H2=>th Y H2 λu H3=>r x l u H3 Q
def zAw{r:V->Qk->Qk->Hp->VK->Prop}(hr:SlR X r)(he:PE X e te)(hl:PO X lo tl)(hu:PO X hi th):PE X (.Subscript e (.Slice lo hi none p2) pos) (tSl r te tl th):=by
 intro U s Y H Q I h;refine Subscript_ (thn (he U s Y H _ I h) λv s1 ⟨x,H1,I1,r1,q1⟩=>?_);refine wpAny_Slice (thn (hl U s1 Y H1 _ I1 q1) λvl s2 ⟨l,H2,I2,pl,q2⟩=>thn (hu U s2 Y H2 _ I2 q2) λvu s3 ⟨u,H3,I3,pu,q3⟩=>?_);rw[evalPart_none];refine yi ?_;have I4:Inv X U Y H3 {s3 with heap:=s3.heap.push {cls:=.type "slice",data:=.fields #[vl,vu,.none]}}:=I3.kept (t':=s3.toks) λb ob q=>ye _ q;obtain⟨T,id,hT,ht,hg⟩:=hr U {s3 with heap:=s3.heap.push {cls:=.type "slice",data:=.fields #[vl,vu,.none]}} Y H3 x v vl vu l u s3.heap.objs.size Q I4 r1 (Heap.IsSliceOf.new ..) pl pu q3;show yp (yx X.prog X.w) X.A (subscriptTail e (.Slice lo hi none p2) v (.ref s3.heap.objs.size)) (EP X U Y Q) X.xe {s3 with heap:=s3.heap.push {cls:=.type "slice",data:=.fields #[vl,vu,.none]}};exact tail_any (ops:=[.ref s3.heap.objs.size,v]) ht hT hg (by with_unfolding_all rfl)
def zUs(xs:Wi)(lo hi:Qk):Wi:=(xs.drop (HT.sIx xs.length 0 lo)).take (HT.sIx xs.length xs.length hi-HT.sIx xs.length 0 lo)
def z3k(xs:Wi)(lo hi:Qk):(zUs xs lo hi).length<=xs.length:=by
 unfold zUs;rw[Ly,Ls];omega
def zPC(K:yt):V->Qk->Qk->Hp->VK->Prop:=λx lo hi H Q=>∃a xs,x=.ref a/\SqT K H a xs /\
 ¬(HT.sIx xs.length 0 lo=0/\HT.sIx xs.length xs.length hi=xs.length)/\∀p,H p=none->Q (.ref p) (upd H p (.tup (zUs xs lo hi)))
def z0z:SlR X (zPC X.K):=by
 intro U s Y H x v vl vu lo hi sl Q I rx hs pl pu h;obtain⟨a,xs,rfl,hx,hw,q⟩:=h;cases rx;obtain⟨hW,r,ht,hz⟩:=I.tuple hx;have kA:hW.toArray.size=xs.length:=by rw[Nx];exact r.length.symm
 refine⟨"tuple",_,PyProof.Rows.slot_tuple_getitem.lookup,ht.typeIs,?_⟩;refine HT.sk ht hs pl pu (by rw[kA];exact hw) ?_ (by rw[kA];exact hz);rw[kA];refine⟨.ref s.heap.objs.size,_,I.laid (t':=s.toks) (o:=.tup (zUs xs lo hi)) (λb ob q=>ye _ q) (yo _) ?_,rfl,q _ (I.hok.fresh (yo _))⟩;exact⟨yA (z3k xs lo hi) hz,_,(r.drop (HT.sIx xs.length 0 lo)).take (HT.sIx xs.length xs.length hi-HT.sIx xs.length 0 lo),IsTup.new _ _⟩
def zKB(K:yt):R2:=λx y H Q=>∃a b xs ys,x=.ref a/\y=.ref b/\SqT K H a xs/\SqT K H b ys/\xs≠[]/\xs.length+ys.length<=yD /\
 (ys=[]->Q (.ref a) H)/\(ys≠[]->∀p,H p=none->Q (.ref p) (upd H p (.tup (xs++ys))))
def Vals.sB{xs:Wi}{us:List yb}(r:Vals xs us):us=[]↔xs=[]:=by
 cases r with
 |nil=>simp
 |cons _ _=>simp
def zsx:OpR X (xh .Add) (zKB X.K):=by
 intro U s Y H x y v u Q I rx ry h;obtain⟨a,b,xs,ys,rfl,rfl,ha,hb,hx,hz,q1,q2⟩:=h;cases rx;cases ry;obtain⟨hW,r1,p1,_⟩:=I.tuple ha;obtain⟨its2,r2,p2,_⟩:=I.tuple hb;refine HT.cat_tup p1 p2 (λz=>hx (r1.sB.mp z)) (λz=>⟨.ref a,H,I,rfl,q1 (r2.sB.mp z)⟩) (λz=>?_) (by rw[<-r1.length,<-r2.length];exact hz);refine⟨.ref s.heap.objs.size,_,I.laid (t':=s.toks) (o:=.tup (xs++ys)) (λb ob q=>ye _ q) (yo _) ?_,rfl,q2 (λw=>z (r2.sB.mpr w)) _ (I.hok.fresh (yo _))⟩;exact⟨by rw[Lq];exact hz,_,r1.append r2,IsTup.new _ _⟩
end
def ixN(n:Nat)(i:Int):Qj:=if 0<=i then(if i<n then some i.toNat else none) else if -(n:Int)<=i then some (i+n).toNat else none
def atI{α:Type}(xs:List α)(i:Int):Option α:=(ixN xs.length i).bind λj=>xs[j]?
def zDs{n:Nat}{i:Int}{j:Nat}(h:ixN n i=some j):seqIndex? i n=some j/\j<n/\-(n:Int)<=i/\i<n:=by
 unfold ixN at h
 by_cases h0:0<=i
 ·rw[if_pos h0]at h
  by_cases h1:i<n
  ·rw[if_pos h1]at h;have e:i.toNat=j:=Yn h;exact⟨by rw[seqIndex_of h0 h1,e],by omega,by omega,h1⟩
  ·rw[if_neg h1]at h;cases h
 ·rw[if_neg h0]at h
  by_cases h1:-(n:Int)<=i
  ·rw[if_pos h1]at h;have e:(i+n).toNat=j:=Yn h;exact⟨by rw[seqIndex_neg (by omega) h1,e],by omega,h1,by omega⟩
  ·rw[if_neg h1]at h;cases h
def z8o{α:Type}{xs:List α}{i:Int}{v:α}(h:atI xs i=some v):∃j,seqIndex? i xs.length=some j/\xs[j]?=some v/\j<xs.length/\-(xs.length:Int)<=i/\i<xs.length:=by
 unfold atI at h
 cases e:ixN xs.length i with
 |none=>rw[e]at h;cases h
 |some j=>
  rw[e]at h;obtain⟨h1,h2,h3,h4⟩:=zDs e;exact⟨j,h1,h,h2,h3,h4⟩
def zed{α:Type}{xs:List α}{j:Nat}{v:α}(h:xs[j]?=some v):atI xs (j:Int)=some v:=by
 have hj:j<xs.length:=(List.getElem?_eq_some_iff.mp h).1
 have e:ixN xs.length (j:Int)=some j:=by
  unfold ixN;rw[if_pos (by omega),if_pos (by omega)];simp
 unfold atI;rw[e];exact h
def zkk(b:yB):Prop:=∀o i,subscripted b false o i=operate [o,i] (getItem o i)
def IxR(X:Cx)(r:R2):Prop :=
 ∀(value slice:yB)(U:Qb) (s:yd) (Y:St) (H:Hp) (x y:V) (v u:yb) (Q:VK),Inv X U Y H s->RelV x v->RelV y u->r x y H Q ->
  subscripted slice false v u=operate [v,u] (getItem v u)->yp (yx X.prog X.w) X.A (subscriptTail value slice v u) (EP X U Y Q) X.xe s
def MtR(X:Cx)(id:String)(r:V->Wi->Hp->VK->Prop):Prop :=
 ∀(U:Qb) (s:yd) (Y:St) (H:Hp) (x:V) (xs:Wi) (v:yb) (us:List yb) (Q:VK),Inv X U Y H s->RelV x v->Vals xs us->r x xs H Q ->
  yp (yx X.prog X.w) X.A (call (.builtin id) (v::us)) (EP X U Y Q) X.xe s
section
variable {X:Cx}{a b:yB}{ta tb:TE}{pos:YZ}
def IxR.or{r r':R2}(h:IxR X r)(h':IxR X r'):IxR X (λx y H Q=>r x y H Q\/r' x y H Q):=by
 intro value slice U s Y H x y v u Q I rx ry q hs;rcases q with q|q
 ·exact h value slice U s Y H x y v u Q I rx ry q hs
 ·exact h' value slice U s Y H x y v u Q I rx ry q hs
def zYv{r:R2}(hr:IxR X r)(ha:PE X a ta)(hb:PE X b tb)(hs:zkk b):PE X (.Subscript a b pos) (tOp r ta tb):=by
 intro U s Y H Q I h;exact Subscript_ (binT ha hb I h λv u s2 x y H2 I2 rx ry q=>hr a b U s2 Y H2 x y v u Q I2 rx ry q (hs _ _))
def zkC(K:yt):R2:=λx y H Q=>∃p xs i v,x=.ref p/\y=.int i/\SqL K H p xs/\atI xs i=some v/\Q v H
def ziC(K:yt):R2:=λx y H Q=>∃p xs i v,x=.ref p/\y=.int i/\SqT K H p xs/\atI xs i=some v/\Q v H
def zrC:R2:=λx y H Q=>∃z i c,x=.str z/\y=.int i/\z.length<=yD/\atI z.cps.toList i=some c/\Q (.str ⟨#[c]⟩) H
def ix_list:IxR X (zkC X.K):=by
 intro value slice U s Y H x y v u Q I rx ry h hs;obtain⟨p,xs,i,z,rfl,rfl,hq,he,q⟩:=h;cases rx;obtain⟨t,rfl⟩:=ry;obtain⟨hW,r,pl,hz⟩:=I.list hq;obtain⟨j,h1,h2,h3,h4,h5⟩:=z8o he;obtain⟨w,ew,rw'⟩:=r.get h2;have hl:=r.length;have hn:=su;have fin:EP X U Y Q w s:=⟨z,H,I,rw',q⟩
 by_cases h0:0<=i
 ·have hj:i.toNat=j:=by
   rw[seqIndex_of h0 h5]at h1;exact Yn h1
  exact item_listR pl.isList h0 (by omega) (by rw[hj];simpa using ew) fin hs
 ·have hj:(i+(hW.toArray.size:Int)).toNat=j:=by
   rw[seqIndex_neg (by omega) h4]at h1;rw[Nx,<-hl];exact Yn h1
  exact subscriptTail_builtinR (x:=w) pl.isList.typeIs slot_list_getitem.lookup
   (wpAny_getItem_list_neg (Q:=λr s'=>r=w/\EP X U Y Q r s') pl.isList (by omega) (by rw[Nx]<;>omega) (by omega) (by rw[hj];simpa using ew) ⟨rfl,fin⟩) hs
def ix_tup:IxR X (ziC X.K):=by
 intro value slice U s Y H x y v u Q I rx ry h hs;obtain⟨p,xs,i,z,rfl,rfl,hq,he,q⟩:=h;cases rx;obtain⟨t,rfl⟩:=ry;obtain⟨hW,r,pl,hz⟩:=I.tuple hq;obtain⟨j,h1,h2,h3,h4,h5⟩:=z8o he;obtain⟨w,ew,rw'⟩:=r.get h2;have hl:=r.length;have hn:=su;have fin:EP X U Y Q w s:=⟨z,H,I,rw',q⟩
 exact subscriptTail_builtinR (x:=w) pl.typeIs slot_tuple_getitem.lookup
  (getItem_tuple (j:=j) (Q:=λr s'=>r=w/\EP X U Y Q r s') pl (by omega) (by omega) (by rw[Nx,<-hl];exact h1) (by simpa using ew) ⟨rfl,fin⟩) hs
def zjx:IxR X zrC:=by
 intro value slice U s Y H x y v u Q I rx ry h hs;obtain⟨z,i,c,rfl,rfl,hz,he,q⟩:=h;obtain⟨t,rfl⟩:=rx;obtain⟨t',rfl⟩:=ry;obtain⟨j,h1,h2,h3,h4,h5⟩:=z8o he;have hl:z.cps.toList.length=z.length:=by simp[Str.length]
 rw[hl]at h1 h4 h5;have hn:=su
 exact tail_any (typeIs_str s z t) slot_str_getitem.lookup (getItem_str (c:=c) (by
  have e1:decide (i < -(2^63:Int))=false:=decide_eq_false (by omega);have e2:decide (i≥2^63)=false:=decide_eq_false (by omega);rw[e1,e2,Bool.or_false]) (by rw[h1];simpa using h2) ⟨.str ⟨#[c]⟩,H,I.tok _,⟨_,rfl⟩,q⟩) hs
def rIx(K:yt):R2:=λx y H Q=>zkC K x y H Q\/ziC K x y H Q\/zrC x y H Q
def z6w:IxR X (rIx X.K):=ix_list.or (ix_tup.or zjx)
def zPr(hW:List yb)(n j:Nat)(u:yb):Xm (·.setIfInBounds j u) {cls:=.type "list",data:=.seq hW.toArray n } = {cls:=.type "list",data:=.seq (hW.set j u).toArray n }:=by
 simp[Xm]
def Inv.lst{U:Qb}{Y:St}{H:Hp}{s:yd}{p:yg}{xs:Wi}(I:Inv X U Y H s)(h:H p=some (.lst xs)) :
 ∃(hW:List yb)(n:Nat),Vals xs hW/\s.heap.get? p=some {cls:=.type "list",data:=.seq hW.toArray n }/\xs.length<=yD:=by
 obtain⟨z,hW,n,r,e⟩:=I.hok p _ h;exact⟨hW,n,r,e,z⟩
def Inv.lstUpd{U:Qb}{Y:St}{H:Hp}{s:yd}{p:yg}{xs ys:Wi}{hW hW':List yb}{n n':Nat}{f:YH->YH}(I:Inv X U Y H s)(h:H p=some (.lst xs))
 (ho:s.heap.get? p=some {cls:=.type "list",data:=.seq hW.toArray n }) (hf:f {cls:=.type "list",data:=.seq hW.toArray n } = {cls:=.type "list",data:=.seq hW'.toArray n' }) (r:Vals ys hW') (hz:ys.length<=yD) (t:Nat) :
 Inv X U Y (upd H p (.lst ys)) {s with heap:=s.heap.update p f,toks:=t }:=by
 have e:(s.heap.update p f).get? p=some {cls:=.type "list",data:=.seq hW'.toArray n' }:=by
  rw[Yb f ho (by rw[hf]<;>rfl),hf]
 refine I.write (x:=p) (e:=p) (by rw[h];trivial) (.inl rfl) (λb u hb q=>(yY _ _ (Yi hb)).trans q) ⟨_,e⟩ ?_;exact⟨hz,hW',n',r,e⟩
def zUB:V->V->V->Hp->(Hp->Prop)->Prop:=λo i v H Q=>∃p xs k j,o=.ref p/\i=.int k/\H p=some (.lst xs)/\ixN xs.length k=some j/\Q (upd H p (.lst (xs.set j v)))
def zvw:zTB X zUB:=by
 intro U s Y H o i v ov iv u Q I ro ri rv h;obtain⟨p,xs,k,j,rfl,rfl,hp,hj,q⟩:=h;cases ro;obtain⟨t,rfl⟩:=ri;obtain⟨hW,n,r,ho,hz⟩:=I.lst hp;obtain⟨h1,h2,h3,h4⟩:=zDs hj;have hl:=r.length;have hn:=su
 have I':Inv X U Y (upd H p (.lst (xs.set j v))) {s with heap:=s.heap.update p (Xm (·.setIfInBounds j u))} :=
  I.lstUpd hp ho (zPr hW n j u) (r.set rv j) (by rw[Lw];exact hz) s.toks
 by_cases h0:0<=k
 ·have hk:k.toNat=j:=by
   rw[seqIndex_of h0 h4]at h1;exact Yn h1
  exact W.ki_setAt ho h0 (by omega) (by rw[Nx,<-hl];exact h4) (by rw[hk];exact⟨_,I',q⟩)
 ·have hk:(k+(hW.toArray.size:Int)).toNat=j:=by
   rw[seqIndex_neg (by omega) h3]at h1;rw[Nx,<-hl];exact Yn h1
  exact W.ki_setBack ho (by omega) (by rw[Nx,<-hl];exact h3) (by omega) (by rw[hk];exact⟨_,I',q⟩)
def zOo(lo hi:Qk)(n:Nat):(sliceBounds lo hi none n).1=((HT.sIx n 0 lo:Nat):Int)/\(sliceBounds lo hi none n).2.1=((HT.sIx n n hi:Nat):Int)/\(sliceBounds lo hi none n).2.2=1:=by
 refine⟨?_,?_,rfl⟩
 ·cases lo with
  |none=>simp[sliceBounds,HT.sIx]
  |some i=>
   simp only[sliceBounds,HT.sIx,Option.getD_none,show(1:Int)>0 by decide,if_true]
   by_cases h:i<0
   ·simp only[h,if_true]<;>omega
   ·simp only[h,if_false]<;>omega
 ·cases hi with
  |none=>simp[sliceBounds,HT.sIx]
  |some i=>
   simp only[sliceBounds,HT.sIx,Option.getD_none,show(1:Int)>0 by decide,if_true]
   by_cases h:i<0
   ·simp only[h,if_true]<;>omega
   ·simp only[h,if_false]<;>omega
def zBm(hW:List yb)(lo hi:Qk):slicePick hW.toArray lo hi none=((hW.drop (HT.sIx hW.length 0 lo)).take (HT.sIx hW.length hW.length hi-HT.sIx hW.length 0 lo)).toArray:=by
 obtain⟨h1,h2,h3⟩:=zOo lo hi hW.toArray.size;unfold slicePick;rw[h1,h2,h3];simp only[sliceRange_one,pick_run,Nx]<;>rfl
def zzC(K:yt):V->Qk->Qk->Hp->VK->Prop:=λx lo hi H Q=>∃a xs,x=.ref a/\SqL K H a xs/\∀p,H p=none->Q (.ref p) (upd H p (.lst (zUs xs lo hi)))
def zry:SlR X (zzC X.K):=by
 intro U s Y H x v vl vu lo hi sl Q I rx hs pl pu h;obtain⟨a,xs,rfl,hx,q⟩:=h;cases rx;obtain⟨hW,r,ht,hz⟩:=I.list hx;have kA:=r.length;refine⟨"list",_,slot_list_getitem.lookup,ht.isList.typeIs,?_⟩;refine wpAny_getItem_list_slice ht.isList hs pl pu .none (by simp) ?_ (by rw[Nx]<;>omega);rw[zBm,<-kA];refine⟨.ref s.heap.objs.size,_,I.laid (t':=s.toks) (o:=.lst (zUs xs lo hi)) (λb ob q=>ye _ q) (yo _) ?_,rfl,q _ (I.hok.fresh (yo _))⟩;exact⟨yA (z3k xs lo hi) hz,_,0,(r.drop (HT.sIx xs.length 0 lo)).take (HT.sIx xs.length xs.length hi-HT.sIx xs.length 0 lo),yr _ rfl⟩
def zFk:V->Bool
 |.non=>true
 |.bl _=>true
 |.int _=>true
 |.str _=>true
 |_=>false
def eqV:V->V->Bool
 |.non,.non=>true
 |.bl a,.bl b=>a==b
 |.bl a,.int b=>(if a then 1 else 0)==b
 |.int a,.bl b=>a==(if b then 1 else 0)
 |.int a,.int b=>a==b
 |.str a,.str b=>a==b
 |_,_=>false
def zJA{A:yH}{s:yd}{y x:V}{u v:yb}(ry:RelV y u)(rx:RelV x v)(fy:zFk y=true)(fx:zFk x=true):SeqAt.EqAt A s u v (eqV y x):=by
 cases y with
 |non=>
  cases ry
  cases x with
  |non=>cases rx;exact SeqAt.EqAt.same _
  |bl b=>cases rx;exact SeqAt.EqAt.none_bool b
  |int b=>obtain⟨t,rfl⟩:=rx;exact SeqAt.EqAt.none_int b t
  |str b=>obtain⟨t,rfl⟩:=rx;exact SeqAt.EqAt.none_str b t
  |_=>exact absurd (show false=true from fx) yF
 |bl a=>
  cases ry
  cases x with
  |non=>cases rx;exact SeqAt.EqAt.bool_none a
  |bl b=>cases rx;exact SeqAt.EqAt.bool_bool a b
  |int b=>obtain⟨t,rfl⟩:=rx;exact SeqAt.EqAt.bool_int a b t
  |str b=>obtain⟨t,rfl⟩:=rx;exact SeqAt.EqAt.bool_str a b t
  |_=>exact absurd (show false=true from fx) yF
 |int a=>
  obtain⟨t',rfl⟩:=ry
  cases x with
  |non=>cases rx;exact SeqAt.EqAt.int_none a t'
  |bl b=>cases rx;exact SeqAt.EqAt.int_bool a t' b
  |int b=>obtain⟨t,rfl⟩:=rx;exact SeqAt.EqAt.int_int a t' b t
  |str b=>obtain⟨t,rfl⟩:=rx;exact SeqAt.EqAt.int_str a t' b t
  |_=>exact absurd (show false=true from fx) yF
 |str a=>
  obtain⟨t',rfl⟩:=ry
  cases x with
  |non=>cases rx;exact SeqAt.EqAt.str_none a t'
  |bl b=>cases rx;exact SeqAt.EqAt.str_bool a t' b
  |int b=>obtain⟨t,rfl⟩:=rx;exact SeqAt.EqAt.str_int a t' b t
  |str b=>obtain⟨t,rfl⟩:=rx;exact SeqAt.EqAt.str_str a t' b t
  |_=>exact absurd (show false=true from fx) yF
 |_=>exact absurd (show false=true from fy) yF
def eqU(x:V)(u:yb):Bool:=match u with
 |.none=>eqV .non x
 |.bool b=>eqV (.bl b) x
 |.int i _=>eqV (.int i) x
 |.str z _=>eqV (.str z) x
 |_=>false
def z5s{x y:V}{u:yb}(r:RelV y u)(f:zFk y=true):eqU x u=eqV y x:=by
 cases y with
 |non=>cases r;rfl
 |bl b=>cases r;rfl
 |int i=>obtain⟨t,rfl⟩:=r;rfl
 |str z=>obtain⟨t,rfl⟩:=r;rfl
 |_=>exact absurd (show false=true from f) yF
def z1p{x:V}:∀{xs:Wi} {us:List yb},Vals xs us->xs.all zFk=true->us.any (eqU x)=xs.any λy=>eqV y x
 |_,_,.nil,_=>rfl
 |y::xs,u::us,.cons r t,f=>by
  rw[La,yM]at f;rw[Lc,Lc,z5s r f.1,z1p t f.2]
def zMj{A:yH}{s:yd}{x:V}{v:yb}(rx:RelV x v)(fx:zFk x=true):∀{xs:Wi} {us:List yb},Vals xs us->xs.all zFk=true->∀u∈us,SeqAt.EqAt A s u v (eqU x u)
 |_,_,.nil,_=>λu hu=>by cases hu
 |y::xs,u::us,.cons r t,f=>λu' hu=>by
  rw[La,yM]at f;rcases List.mem_cons.mp hu with rfl|hu
  ·rw[z5s r f.1];exact zJA r rx f.1 fx
  ·exact zMj rx fx t f.2 u' hu
def inV(x:V)(xs:Wi):Bool:=xs.any λy=>eqV y x
def rIn(K:yt)(neg:Bool):R2:=λx y H Q=>∃p xs,y=.ref p/\(SqL K H p xs\/SqT K H p xs)/\zFk x=true/\xs.all zFk=true/\Q (.bl (if neg then !inV x xs else inV x xs)) H
def zOn:OpR X (Yg .NotIn) (rIn X.K true):=by
 intro U s Y H x y v u Q I rx ry h;obtain⟨p,xs,rfl,hq,fx,fs,q⟩:=h;cases ry;rcases hq with hq|hq
 ·obtain⟨hW,r,pl,hz⟩:=I.list hq;refine SeqAt.notIn_listAt (eqU x) pl.isList (λw hw=>zMj rx fx r fs w (by simpa using hw)) ⟨.bl _,H,I,rfl,?_⟩;rw[show hW.toArray.any (eqU x)=hW.any (eqU x) by simp,z1p r fs];exact q
 ·obtain⟨hW,r,pl,hz⟩:=I.tuple hq;refine SeqAt.notIn_tupleAt (eqU x) pl (λw hw=>zMj rx fx r fs w (by simpa using hw)) ⟨.bl _,H,I,rfl,?_⟩;rw[show hW.toArray.any (eqU x)=hW.any (eqU x) by simp,z1p r fs];exact q
def zSo:zqi X (.builtin "len") (λxs H Q=>∃p ys,xs=[.ref p]/\(SqL X.K H p ys\/SqT X.K H p ys)/\Q (.int ys.length) H):=by
 intro U s Y H xs us Q I r h;obtain⟨p,ys,rfl,hq,q⟩:=h;obtain⟨u,rfl,rx⟩:=vals1 r;cases rx;have hn:=su;rcases hq with hq|hq
 ·obtain⟨hW,r',pl,hz⟩:=I.list hq;have kA:=r'.length;exact Calls.call_len_list pl.isList (by simp only[Nx]<;>omega) ⟨.int ys.length,H,I.tok _,⟨s.toks+1,by rw[Nx,kA]⟩,q⟩
 ·obtain⟨hW,r',pl,hz⟩:=I.tuple hq;have kA:=r'.length;exact len_tuple pl (by simp only[Nx]<;>omega) ⟨.int ys.length,H,I.tok _,⟨s.toks+1,by rw[Nx,kA]⟩,q⟩
def zZn:zqi X (.builtin "len") (λxs H Q=>∃z,xs=[.str z]/\z.length<=yD/\Q (.int z.length) H):=by
 intro U s Y H xs us Q I r h;obtain⟨z,rfl,hz,q⟩:=h;obtain⟨u,rfl,t,rfl⟩:=vals1 r;have hn:=su;exact len_str (by omega) ⟨.int z.length,H,I.tok _,⟨_,rfl⟩,q⟩
def zjj:zqi X (.type "list") (λxs H Q=>∃p ys,xs=[.ref p]/\(SqL X.K H p ys\/SqT X.K H p ys)/\∀l,H l=none->Q (.ref l) (upd H l (.lst ys))):=by
 intro U s Y H xs us Q I r h;obtain⟨p,ys,rfl,hq,q⟩:=h;obtain⟨u,rfl,rx⟩:=vals1 r;cases rx
 have fin:∀(hW:List yb),Vals ys hW->ys.length<=yD->∀(h':yU)(c':Nat),(∀b o',s.heap.get? b=some o'->h'.get? b=some o') ->
  h'.get? s.heap.objs.size=some {cls:=.type "list",dict:=none,data:=.seq hW.toArray c',slots:=#[]}->EP X U Y Q (.ref s.heap.objs.size) {s with heap:=h' }:=λhW r' hz h' c' kp e=>
  ⟨.ref s.heap.objs.size,_,I.laid (t':=s.toks) kp (yo _) (show tD X.prog X.w _ h' _ (.lst ys) from⟨hz,hW,c',r',e⟩),rfl,q _ (I.hok.fresh (yo _))⟩
 rcases hq with hq|hq
 ·obtain⟨hW,r',pl,hz⟩:=I.list hq;have kA:=r'.length;obtain⟨o,ho,hc,n,hd⟩:=pl.isList;exact call_list_seq p (.inl rfl) ho hc hd (λh' c' kp e=>fin hW r' hz h' c' kp e) (by simp only[Nx]<;>omega)
 ·obtain⟨hW,r',pl,hz⟩:=I.tuple hq;have kA:=r'.length;obtain⟨o,ho,hc,n,hd⟩:=pl;exact call_list_seq p (.inr rfl) ho hc hd (λh' c' kp e=>fin hW r' hz h' c' kp e) (by simp only[Nx]<;>omega)
def zTf:zqi X (.type "tuple") (λxs H Q=>∃p ys,xs=[.ref p]/\((SqL X.K H p ys/\∀l,H l=none->Q (.ref l) (upd H l (.tup ys)))\/(SqT X.K H p ys/\Q (.ref p) H))):=by
 intro U s Y H xs us Q I r h;obtain⟨p,ys,rfl,h⟩:=h;obtain⟨u,rfl,rx⟩:=vals1 r;cases rx;rcases h with ⟨hq,q⟩|⟨hq,q⟩
 ·obtain⟨hW,r',pl,hz⟩:=I.list hq;have kA:=r'.length;refine call_tuple_list pl.isList (λh' kp=>?_) (by simp only[Nx]<;>omega);have I1:Inv X U Y H {s with heap:=h' }:=I.kept (t':=s.toks) kp
  have I2:Inv X U Y (upd H h'.objs.size (.tup ys)) {s with heap:=h'.push {cls:=.type "tuple",data:=.seq hW.toArray }} :=
   I1.laid (t':=s.toks) (λb o e=>ye _ e) (yo _) (show tD X.prog X.w _ _ _ (.tup ys) from⟨hz,hW,r',IsTup.new _ _⟩)
  exact⟨.ref h'.objs.size,_,I2,rfl,q _ (I1.hok.fresh (yo _))⟩
 ·obtain⟨hW,r',pl,hz⟩:=I.tuple hq;exact call_tuple_same pl ⟨.ref p,H,I,rfl,q⟩
def tyV(K:yt)(T:String)(x:V)(H:Hp):Prop:=match x with
 |.str _=>T="str"
 |.int _=>T="int"
 |.ref p=>(T="list"/\∃xs,SqL K H p xs)\/(T="tuple"/\∃o,K.lookup p=some o/\o.cls=.type "tuple"/\o.dict=none) \/
  (T="dict"/\((∃hU,H p=some (.dK hU))\/∃hU,H p=some (.dT hU)))\/(T="set"/\∃S n,H p=some (.set S n))
 |_=>False
def z1z{U:Qb}{Y:St}{H:Hp}{s:yd}{T:String}{x:V}{v:yb}(I:Inv X U Y H s)(r:RelV x v)(ty:tyV X.K T x H) :
 s.TypeIs v T/\∀a,v=.ref a->∃ob,s.heap.get? a=some ob/\ob.dict=none:=by
 cases x with
 |str z=>
  obtain⟨t,rfl⟩:=r;cases (show T="str" from ty);exact⟨typeIs_str s z t,λ_ e=>nomatch e⟩
 |int i=>
  obtain⟨t,rfl⟩:=r;cases (show T="int" from ty);exact⟨typeIs_int s i t,λ_ e=>nomatch e⟩
 |ref p=>
  cases r;rcases ty with ⟨rfl,xs,hq⟩|⟨rfl,o,hk,hc,hd⟩|⟨rfl,hk⟩|⟨rfl,S,n,hk⟩
  ·obtain⟨hW,_,pl,_⟩:=I.list hq;refine⟨pl.isList.typeIs,λa e=>?_⟩;cases e;obtain⟨o,n,e,c,hd,_⟩:=pl;exact⟨o,e,hd⟩
  ·refine⟨⟨o,I.kIn p o hk,hc⟩,λa e=>?_⟩;cases e;exact⟨o,I.kIn _ o hk,hd⟩
  ·have z:∃o,s.heap.get? p=some o/\o.ExactDict:=by
    rcases hk with ⟨hU,hk⟩|⟨hU,hk⟩
    ·obtain⟨_,_,_,_,o,_,_,e,ex,_⟩:=I.hok p _ hk;exact⟨o,e,ex⟩
    ·obtain⟨_,_,_,_,o,_,_,e,ex,_⟩:=I.hok p _ hk;exact⟨o,e,ex⟩
   obtain⟨o,e,ex⟩:=z;refine⟨⟨o,e,ex.1⟩,λa e2=>?_⟩;cases e2;exact⟨o,e,ex.2.1⟩
  ·obtain⟨o,_,_,_,e,ex,_⟩:=I.hok p _ hk;refine⟨⟨o,e,ex.1⟩,λa e2=>?_⟩;cases e2;exact⟨o,e,ex.2.1⟩
 |_=>exact yN ty
def tBM(K:yt)(T:String)(r:V->Wi->Hp->VK->Prop)(to:TE)(t:TA):TE:=λY H Q=>to Y H λx H1=>tyV K T x H1/\t Y H1 λxs H2=>r x xs H2 Q
variable {o e:yB}{es:Qz}{to:TE}{t:TA}{name:yj}{kD cpos:YZ}{T id:String}{r:V->Wi->Hp->VK->Prop}
def zrw(pa:PlainAttrs T)(slot:Slot T name id)(hty:typeOf (.builtin id)=pure (.type "method_descriptor"))(hm:MtR X id r)(ho:PE X o to)(ha:PA X (e::es) t)
 (kG:Yq o name X.env (yV o X.env)=yV o X.env:=by rfl)
 (kH:((yW cpos (yh (e::es) X.env)).all (λx=>!x.1)&&(xi cpos (Yv [] X.env)).all (λx=>x.1.isSome)
  && decide ((e::es).length+([]:List YQ).length+(if([]:List YQ).isEmpty then 0 else 1)<30))=true:=by rfl)
 (kE:(kD.endLine==cpos.line)=true:=by rfl) (hs:yh (e::es) X.env=(false,yV e X.env)::yh es X.env:=by rfl) (kF:(yW cpos (yh es X.env)).any (·.1)=false:=by rfl) :
 PE X (.Call (.Attribute o name kD) (e::es) [] cpos) (tBM X.K T r to t):=by
 intro U s Y H Q I h;refine wpAny_Call_method_late kG kH kE rfl (thn (ho U s Y H _ I h) λv s1 ⟨x,H1,I1,r1,ty,q1⟩=>?_);obtain⟨h1,h2⟩:=z1z I1 r1 ty;refine⟨T,id,pa,slot,hty,h1,h2,?_⟩;have hA:=ha cpos U s1 Y H1 _ I1 q1;rw[hs]at hA ⊢;refine Calls.callWith_builtin (by show(false||(yW cpos (yh es X.env)).any (·.1))=false;rw[kF]<;>rfl) (Xn ?_);exact thn hA λus s2 ⟨vs,H2,I2,r2,q2⟩=>hm U s2 Y H2 x vs v us Q I2 r1 r2 q2
end
def MtM(X:Cx)(id:String)(r:V->Wi->Hp->VK->Prop):Prop :=
 ∀(U:Qb) (s:yd) (Y:St) (H:Hp) (x:V) (xs:Wi) (v:yb) (us:List yb) (Q:VK),Inv X U Y H s->RelV x v->Vals xs us->r x xs H Q ->
  yp (yx X.prog X.w) X.A (call (.builtin id) (v::us)) (EP X U Y Q) X.xe s
def Vals.SG{x:V}{xs:Wi}{us:List yb}(h:Vals (x::xs) us):∃u ws,us=u::ws/\RelV x u/\Vals xs ws:=by
 cases h with
 |cons r t=>exact⟨_,_,rfl,r,t⟩
def Vals.SH{us:List yb}(h:Vals [] us):us=[]:=by
 cases h;rfl
def Vals.one{x:V}{us:List yb}(h:Vals [x] us):∃u,us=[u]/\RelV x u:=by
 obtain⟨u,ws,e,r,t⟩:=h.SG;exact⟨u,by rw[e,t.SH],r⟩
def Vals.reverse{xs:Wi}{us:List yb}(h:Vals xs us):Vals xs.reverse us.reverse:=by
 induction h with
 |nil=>exact .nil
 |cons r t ih=>rw[List.reverse_cons,List.reverse_cons];exact Vals.append ih (.cons r .nil)
def Vals.rep{xs:Wi}{us:List yb}(h:Vals xs us):∀k:Nat,Vals (yy k xs).flatten (yy k us).flatten
 |0 =>.nil
 |k+1=>by
  rw[Nw,Nw,Lm,Lm];exact Vals.append h (Vals.rep h k)
def z6n(hW:List yb):∀(k:Nat)(kB:List yb),
 List.foldl (λx1 x2=>x1++x2) kB.toArray (yy k hW.toArray)=(kB++(yy k hW).flatten).toArray
 |0,kB=>by simp
 |k+1,kB=>by
  have e:kB.toArray++hW.toArray=(kB++hW).toArray:=by simp
  have e2:(kB++hW)++(yy k hW).flatten=kB++(yy (k+1) hW).flatten:=by
   rw[Nw,Lm,Lf]
  rw[<-e2,<-z6n hW k (kB++hW),<-e,Nw,Ln]
section
variable {X:Cx}{U:Qb}{Y:St}{H:Hp}{s:yd}{l b:yg}{xs ys zs:Wi}
def Inv.lset{hW hW':List yb}{n:Nat}{f:Array yb->Array yb}{t':Nat}(I:Inv X U Y H s)(hH:H l=some (.lst xs))
 (e:s.heap.get? l=some {cls:=.type "list",data:=.seq hW.toArray n }) (hf:f hW.toArray=hW'.toArray) (hv:Vals ys hW') (hz:ys.length<=yD) :
 Inv X U Y (upd H l (.lst ys)) {s with heap:=s.heap.update l (Xm f),toks:=t' }:=by
 have q:=PySem.IsL.update e f;rw[hf]at q;refine I.write (x:=l) (e:=l) (by rw[hH];exact trivial) (.inl rfl) (λb' u hb hu=>(yY s.heap (Xm f) (Yi hb)).trans hu) ⟨_,q⟩ ?_;exact⟨hz,hW',_,hv,q⟩
def Inv.lnew{hW:List yb}{t':Nat}(I:Inv X U Y H s)(hv:Vals ys hW)(hz:ys.length<=yD) :
 Inv X U Y (upd H s.heap.objs.size (.lst ys)) {s with heap:=s.heap.push {cls:=.type "list",data:=.seq hW.toArray },toks:=t' } :=
 I.laid (λ_ _ q=>ye _ q) (yo _) ⟨hz,hW,0,hv,yr _ rfl⟩
def Inv.fresh(I:Inv X U Y H s):H s.heap.objs.size=none:=I.hok.fresh (yo _)
def Inv.SI(I:Inv X U Y H s)(hH:H l=some (.lst xs)):xs.length<=yD/\∃(hW:List yb)(n:Nat),Vals xs hW/\xs.length=hW.length/\s.heap.get? l=some {cls:=.type "list",data:=.seq hW.toArray n }:=by
 obtain⟨z,hW,n,r,e⟩:=I.hok l _ hH;exact⟨z,hW,n,r,r.length,e⟩
def SJ{n:Nat}(h:n<=yD):Builtin.List.listTooLong n=false:=by
 unfold Builtin.List.listTooLong;exact decide_eq_false (by omega)
def zby:V->Wi->Hp->VK->Prop:=λx vs H Q=>∃l xs y,x=.ref l/\vs=[y]/\H l=some (.lst xs)/\xs.length<yD/\Q .non (upd H l (.lst (xs++[y])))
def zgt:MtM X "list.append" zby:=by
 intro U s Y H x vs v us Q I rx rv h;obtain⟨l,xs,y,rfl,rfl,hH,hz,q⟩:=h;cases rx;obtain⟨u,rfl,ru⟩:=rv.one;obtain⟨z,hW,n,r,hl,e⟩:=I.SI hH;refine xU F.slot_list_append ⟨_,e,rfl⟩ F.entry_list_append (F.args_list_append_2 _ _) (PySem.list_append l hW.toArray n u (by rw[Nx];omega)) ⟨e,?_⟩;refine⟨.non,_,I.lset (hW':=hW++[u]) hH e (by simp) (r.append (.cons ru .nil)) ?_,rfl,q⟩;rw[Lq,Lx];omega
def zxC:R2:=λx y H Q=>∃l b xs zs,x=.ref l/\y=.ref b/\H l=some (.lst xs)/\H b=some (.lst zs)/\xs.length+zs.length<=yD/\∀p,H p=none->Q (.ref p) (upd H p (.lst (xs++zs)))
def zgz:OpR X (xh .Add) zxC:=by
 intro U s Y H x y v u Q I rx ry h;obtain⟨l,b,xs,zs,rfl,rfl,hH,hB,hz,q⟩:=h;cases rx;cases ry;obtain⟨z,hW,n,r,hl,e⟩:=I.SI hH;obtain⟨z2,its2,n2,r2,hl2,e2⟩:=I.SI hB;refine PySem.P.add_list e e2 ?_ (by rw[Nx,Nx];omega);have ea:hW.toArray++its2.toArray=(hW++its2).toArray:=by simp
 rw[ea];exact⟨.ref _,_,I.lnew (t':=s.toks) (r.append r2) (by rw[Lq];omega),rfl,q _ I.fresh⟩
def zQC:R2:=λx y H Q=>∃l k xs,x=.ref l/\y=.int k/\H l=some (.lst xs)/\-(2^63)<=k/\k<2^63/\xs.length*k.toNat<=yD /\
 ∀p,H p=none->Q (.ref p) (upd H p (.lst (yy k.toNat xs).flatten))
def zIu{α:Type}(xs:List α)(k:Nat):(yy k xs).flatten.length=k*xs.length:=by
 induction k with
 |zero=>simp
 |succ k ih=>rw[Nw,Lm,Lq,ih,Nat.succ_mul,Nat.add_comm]
def zaA:OpR X (xh .Mult) zQC:=by
 intro U s Y H x y v u Q I rx ry h;obtain⟨l,k,xs,rfl,rfl,hH,h1,h2,hz,q⟩:=h;cases rx;obtain⟨t,rfl⟩:=ry;obtain⟨z,hW,n,r,hl,e⟩:=I.SI hH;have kA:hW.toArray.size*k.toNat<=yD:=by rw[Nx,<-hl];exact hz
 have hcap:¬hW.toArray.size*k.toNat>(2^63-1) / 8:=by
  have:(yD:Nat)<=(2^63-1) / 8:=by decide
  omega
 have hfit:¬(!Builtin.List.listFitsIndex k)=true:=by
  rw[fitsIndex_both h1 h2];exact yF
 have hlong:¬Builtin.List.listTooLong (hW.toArray.size*k.toNat)=true:=by
  rw[SJ kA];exact yF
 have kQ:List.foldl (λx1 x2=>x1++x2) #[] (yy (if hW.toArray.isEmpty=true then 0 else k.toNat) hW.toArray)=(yy k.toNat hW).flatten.toArray:=by
  have f0:∀m:Nat,List.foldl (λx1 x2=>x1++x2) #[] (yy m hW.toArray)=(yy m hW).flatten.toArray:=λm=>by
   have:=z6n hW m [];rw[List.nil_append]at this;exact this
  rw[f0]
  cases hW with
  |nil=>simp
  |cons a r'=>rw[if_neg (by simp)]
 refine wpAny_binaryOp_repeat_ref (T:="list") (U:="int") (by decide) ⟨_,e,rfl⟩ (λs'=>typeIs_int s' k t) noFill_list_mul F.fills_int_mul F.slot_int_rmul repeat_list F.slot_int_index.lookup
  (xU F.slot_int_rmul (typeIs_int s k t) F.entry_int_rmul (F.args_int_rmul_2 _ _) (int___rmul___int_list k t l hW.toArray n)
   ⟨e,rfl,⟨_,e,rfl⟩,xU F.slot_list_mul ⟨_,e,rfl⟩ F.entry_list_mul (F.args_list_mul_2 _ _) (AutoListH.list___mul___list_int_3 l hW.toArray n k t hfit hcap hlong) ⟨e,?_⟩⟩)
 rw[kQ];exact⟨.ref _,_,I.lnew (t':=s.toks) (r.rep k.toNat) (by rw[zIu,Nat.mul_comm];exact hz),rfl,q _ I.fresh⟩
variable {prog:yu}{w:yG}{A:yH}{E:yb->yd->Prop}
end
end L2
namespace Att
open PySem PySem.W PySem.Calls PyProof.Rows
def zDk{P:Params}{h:yU}:∀(ns:Qg)(vs:List yb),WellAll P h vs (ns.map WData.int)->IntsAre vs ns:=by
 intro ns
 induction ns with
 |nil=>
  intro vs w;rw[Nh]at w;cases w;exact .nil
 |cons n ns ih=>
  intro vs w;rw[Nf]at w
  cases w with
  |cons a b=>
   cases a;exact .cons _ _ (ih _ b)
def zvs{l:OpenLaw}{n:Nat}(hn:l.most=some n){P:Params}{h:yU}{args:List WData}{vals:List yb}
 (hpre:l.row.toRowW.claim.pre args=true) (hwl:WellAll P h vals args) :
 ∃a vs ns,vals=[yI a]/\args=[WData.list (ns.map WData.int)]/\h.get? a=some {cls:=.type "list",data:=.seq vs.toArray }/\IntsAre vs ns/\ns.length<=n:=by
 have hsh:WShape.hasAll [] args [.list .int]=true:=(pre_splitW hpre).1;have hc:l.pre.holds [] {args:=args } = true:=(pre_splitW hpre).2;obtain⟨d,r,rfl,h1,h2⟩:=hasAllW_cons hsh;obtain rfl:=hasAllW_nil h2;obtain⟨xs,rfl,h3⟩:=hasW_list h1;obtain⟨ns,rfl⟩:=items_int h3
 have kA:ns.length<=n:=by
  unfold OpenLaw.pre at hc
  have h4:(WTm.not (.lt (.lit (.int (n:Int))) (.len (.arg 0)))).holds [] {args:=[.list (ns.map .int)]} = true:=by
   have h4:=(holds_andW hc).1;rw[hn]at h4;exact h4
  have h5:=condW_of h4 (w_not (w_lt w_lit (w_len_list (w_arg rfl))));rw[Lu]at h5;refine Xs λq=>?_;have q':(n:Int)<((ns.length:Nat):Int):=by omega
  first
   |(rw[decide_eq_true q']at h5;exact absurd h5 (by decide))
   |(simp at h5;omega)
 cases hwl with
 |cons w1 w2=>
  cases w2
  cases w1 with
  |list ho hall=>exact⟨_,_,ns,rfl,rfl,ho,zDk ns _ hall,kA⟩
def z6t(l:OpenLaw)(args:List WData):l.row.toRowW.claim.post args (.bool true) args=true :=
 postW_of (r:=l.row.toRowW) (X:=(true==true))
  (show WShape.has [] (.bool true) .bool=true by first|rfl|decide|simp[WShape.has,WShape.arms,WShape.armsAll])
  (show(WTm.eq .res (.lit (.bool true))).value [] {args:=args,res:=some (.bool true),after:=args } = some (.bool (true==true)) from w_eq_bool (w_res rfl) w_lit) rfl
def Sd{l:OpenLaw}{n:Nat}{q:yu}{loose:Qx}{XP:(yj->Option yb)->yU->Prop}{YP:yG->yU->Prop}{d:DefRec}
 (hn:l.most=some n) (hdf:d.params.defaults=[])
 (call:∀(w:yG)(s₀ s₁:yd)(mg mb:yj->Option yb)(fa:yg)(o:YH)(pm cd doc:yb)(a:yg)(vs:List yb)(ns:Qg),
  Ground q loose [] XP w s₀ mg mb s₁.heap->YP w s₁.heap ->
  s₁.heap.get? fa=some o->o.data=.func (docDef d.name d.params d.body d.scope pm cd doc)->s₁.heap.CodeRec cd d.name->mg d.name=some (.ref fa) ->
  s₁.heap.get? a=some {cls:=.type "list",data:=.seq vs.toArray }->IntsAre vs ns->ns.length<=n->s₁.gens = #[] ->
  Xf (yx l.prog w) callerA (.call (.ref fa) ⟨[.ref a],[]⟩) (λr s'=>r=.ok (.ret (.bool true))/\OldK s₁.heap s'.heap/\s'.os=s₁.os/\AllBare s'.gens) s₁) :
 WalkO q loose XP YP l.row.toRowW d [] (λf vs=>PySem.call f vs):=by
 intro w s₀ s₁ mg mb φ σ fa o pm cd doc dV kV ho hd hcd hD hmg hg args vals as hpre hlay hrd hwl hlo;obtain rfl:dV=.none:=Dflts.none hD hdf;obtain rfl:kV=.none:=Dflts.noKw hD;obtain⟨a,vs,ns,rfl,rfl,hobj,hints,kA⟩:=zvs hn hpre hwl;refine enter_call (YW (call w s₀ s₁ mg mb fa o pm cd doc a vs ns φ σ ho (fd_plain hd) hcd hmg hobj hints kA hg) λr s' hq=>?_);obtain⟨rfl,h2,h3,h4⟩:=hq;exact⟨.inl ⟨.bool true,.bool true,[],rfl,λ_=>rfl,.bool true,z6t l _,λ_=>⟨List.Pairwise.nil,λ_ hm=>(nomatch hm)⟩⟩,h2,h3,h4⟩
section
variable {prog:yu}{w:yG}{A:yH}{E:yb->yd->Prop}{s:yd}{K:Frag}
end
end Att
namespace L2
open PySem PySem.Spec PyProof.Rows
def z4o:∀{vs:List yb} {ns:Qg},IntsAre vs ns->Vals (ns.map V.int) vs
 |_,_,.nil =>.nil
 |_,_,.cons n t h =>.cons ⟨t,rfl⟩ (z4o h)
def zcB(H:Hp):Prop:=∀b,H b=none\/∃o xs,H b=some (.frz o (.lst xs))
def zpw{P:yu}{w:yG}{K:yt}{mg mb:yj->Option yb}{CX:CXT}{k:Nat}{fa a:yg}{fd:yP}{x:yj}{sp:Sp}{s₁:yd}{vs:List yb}{ns:Qg}
 (KX:K.In s₁.heap) (hns:s₁.heap.Ns yf mg) (hb:s₁.heap.Ns builtinsNs mb) (hbb:∀x:yj,x≠"__name__"->mb x=yK x) (hlim:s₁.heap.NoLimit) (hg:s₁.gens = #[])
 (ha:s₁.heap.get? a=some {cls:=.type "list",data:=.seq vs.toArray }) (hi:IntsAre vs ns) (hl:ns.length<=yD) (hr:tN k callerA)
 (F:∀base:yU,K.In base->base.Ns yf mg->tS P w K mg base CX k fa fd [x] sp) (hbind:∀(s:yd)(u:yb),BindsTo s fd ⟨[u],[]⟩ [(x,u)])
 (hsp:∀H:Hp,zcB H->SqL K H a (ns.map V.int)->sp [.ref a] H (λv _=>v=.bl true) λ_ _ _=>False)
 (hCX:∀H e s',CX [] H s₁ (λ_ _ _=>False) e s'->False) :
 Xf (yx P w) callerA (.call (.ref fa) ⟨[.ref a],[]⟩) (λr s'=>r=.ok (.ret (.bool true))/\OldK s₁.heap s'.heap/\s'.os=s₁.os/\AllBare s'.gens) s₁:=by
 have rv:=z4o hi;have lenV:=hi.length
 have core:∀H:Hp,zcB H->SqL K H a (ns.map V.int)->HOk P w H s₁.heap->(∀b,H b≠none->b=a)->(H a≠none->K.lookup a=none) ->
  Xf (yx P w) callerA (.call (.ref fa) ⟨[.ref a],[]⟩) (λr s'=>r=.ok (.ret (.bool true))/\OldK s₁.heap s'.heap/\s'.os=s₁.os/\AllBare s'.gens) s₁:=by
  intro H hO hS hok hA hK;have base_of:∀{b:yg} {o:YH},s₁.heap.get? b=some o->H b=none->(zSv s₁.heap H).get? b=some o:=λe n=>zBw e n
  have noA:∀{b:yg} {o:YH} {es:Array xt} {ep:Nat},s₁.heap.get? b=some o->o.data=.dict es ep->H b=none:=λ{b o es ep} e d=>by
   cases q:H b with
   |none=>rfl
   |some u=>
    have e':b=a:=hA b (by rw[q];simp);subst e';rw[ha]at e;cases e;have d':Data.seq vs.toArray _=Data.dict es ep:=d;cases d'
  have nsK:∀{b:yg} {m:yj->Option yb},s₁.heap.Ns b m->(zSv s₁.heap H).Ns b m:=λ{b m} ⟨o,es,ep,e,d,r⟩=>⟨o,es,ep,base_of e (noA e d),d,r⟩
  have hKb:K.In (zSv s₁.heap H):=λb o e=>base_of (KX b o e) (by
   cases q:H b with
   |none=>rfl
   |some u=>
    have e':b=a:=hA b (by rw[q];simp);subst e';rw[hK (by rw[q];simp)]at e;cases e)
  have hM:Mod K mg (zSv s₁.heap H):=⟨hKb,nsK hns,⟨mb,nsK hb,hbb⟩,let ⟨mc,h1,h2⟩:=hlim;⟨mc,nsK h1,h2⟩⟩
  have e0:sT P w K mg (zSv s₁.heap H) callerA [] s₁ H:=⟨rfl,hM,λb o e=>z7x e,Nat.le_of_eq (zVs _ _),trivial,λb hb=>absurd (show b∈([]:Qv) from hb) (by simp),hok,.of_eq hg⟩
  refine YW ((F _ hKb (nsK hns)).run callerA [] s₁ H ⟨[.ref a],[]⟩ [.ref a] [.ref a] _ _ hr e0 (hbind s₁ (.ref a)) (.cons rfl .nil) (hsp H hO hS)) λr s' h=>?_
  cases r with
  |error e=>exact(hCX H e s' h).elim
  |ok fl=>
   cases fl with
   |next=>exact yN h
   |brk=>exact yN h
   |cont=>exact yN h
   |ret u=>
    obtain⟨v,H',os,bare,un,hok',r',q⟩:=h;have q':v=.bl true:=q;subst q';obtain rfl:u=Value.bool true:=r';refine⟨rfl,OldK.of_keep λb o e=>?_,os,bare⟩
    cases q:H b with
    |none=>exact un.keep b o e q (by intro z;exact absurd (show b∈([]:Qv) from z) (by simp)) (by simp)
    |some u=>
     rcases hO b with z|⟨ob,xs,z⟩
     ·rw[q]at z;cases z
     ·have z2:=un.TL b ob _ z;obtain⟨e1,_⟩:=hok b _ z;obtain⟨e2,_⟩:=hok' b _ z2;rw[e]at e1;cases e1;exact e2
 cases hk:K.lookup a with
 |some o=>
  have e:=KX a o hk;rw[ha]at e;cases e;refine core (λ_=>none) (λ_ =>.inl rfl) (.inr ⟨_,vs.toArray,_,hk,rfl,rfl,rfl,by rw[Nx,lenV];exact hl,by simpa using rv⟩) (λb u z=>by have z':(none:Option HO)=some u:=z;cases z') (λb z=>absurd rfl z) λz=>absurd rfl z
 |none=>
  refine core (λb=>if b=a then some (.frz {cls:=.type "list",data:=.seq vs.toArray } (.lst (ns.map V.int))) else none) (λb=>?_) (.inl (.inr ⟨{cls:=.type "list",data:=.seq vs.toArray },if_pos rfl⟩)) (λb u z=>?_) (λb z=>?_) λ_=>hk
  ·by_cases hb:b=a
   ·exact .inr ⟨_,_,if_pos hb⟩
   ·exact .inl (if_neg hb)
  ·by_cases hb:b=a
   ·have z':=(if_pos hb).symm.trans z;cases z';subst hb;exact⟨ha,by rw[Lu];exact hl,vs,_,rv,ha⟩
   ·have z':=(if_neg hb).symm.trans z;cases z'
  ·by_cases hb:b=a
   ·exact hb
   ·exact absurd (if_neg hb) z
def walk_of{l:W.OpenLaw}{n k:Nat}{q:yu}{loose:Qx}{XP:(yj->Option yb)->yU->Prop}{YP:yG->yU->Prop}{d:DefRec}{K:Params->yt}{CX:yG->CXT}{sp:yG->Sp}{x:yj}
 (hn:l.most=some n) (hn2:n<=yD) (hdf:d.params.defaults=[]) (hr:tN k callerA)
 (hY:∀(w:yG)(h:yU),YP w h->(K w.params).In h)
 (F:∀(w:yG)(mg:yj->Option yb)(fa:yg)(h:yU),(K w.params).In h->h.Ns yf mg->mg d.name=some (.ref fa) ->
  ∃fd:yP,(∀(s:yd)(u:yb),BindsTo s fd ⟨[u],[]⟩ [(x,u)]) /\
   ∀base:yU,(K w.params).In base->base.Ns yf mg->tS l.prog w (K w.params) mg base (CX w) k fa fd [x] (sp w))
 (hsp:∀(w:yG)(H:Hp)(a:yg)(ns:Qg),ns.length<=n->zcB H->SqL (K w.params) H a (ns.map V.int)->sp w [.ref a] H (λv _=>v=.bl true) λ_ _ _=>False)
 (hCX:∀(w:yG)(H:Hp)(s:yd)(e:yb)(s':yd),CX w [] H s (λ_ _ _=>False) e s'->False) :
 W.WalkO q loose XP YP l.row.toRowW d [] (λf vs=>PySem.call f vs):=by
 refine Att.Sd hn hdf λw s₀ s₁ mg mb fa o pm cd doc a vs ns φ σ ho hd hcd hmg hobj hints kA hg=>?_;have KX:=hY w _ σ;obtain⟨fd,hb,hF⟩:=F w mg fa _ KX φ.T.g hmg;exact zpw KX φ.T.g φ.T.b φ.T.builtins φ.T.nolimit hg hobj hints (yA kA hn2) hr hF hb (λH hO hS=>hsp w H a ns kA hO hS) λH e s'=>hCX w H s₁ e s'
def zeg(s:yR)(j:Nat):yR:=match s with
 |.ClassDef _ _ _ body _ _ _ _ _ _ _=>body.getD j (.Pass ⟨0,0,0,0⟩)
 |_ =>.Pass ⟨0,0,0,0⟩
def zSd(s:yR):Arguments:=match s with
 |.FunctionDef _ a _ _ _ _ _ _ _ _=>a
 |_=>{posonlyargs:=[],args:=[],vararg:=none,kwonlyargs:=[],kw_defaults:=[],kwarg:=none,defaults:=[]}
def z9b(s:yR):Wc:=match s with
 |.FunctionDef _ _ b _ _ _ _ _ _ _=>b
 |_=>[]
def zo(s:yR):xG:=match s with
 |.FunctionDef _ _ _ _ _ _ sc _ _ _=>sc
 |_=>{kind:=.function,names:=[],isGenerator:=false,isCoroutine:=false }
abbrev CX0:CXT:=λ_ _ _ _ _ _=>False
abbrev E0:XK:=λ_ _ _=>False
def Se{X:Cx}:zJh CX0 X E0:=λ_ _ _ _ _ _ _ h=>h.elim
structure Fun(K:yt)(x qual:yj)(st:yR)(f:yg)(fd:yP):Prop where
 ex:∃(oc:yb)(od:Qw)(kV doc pm:yb)(an:Qw)(cdv ct:yb)(osl:Array (Option yb)),
  fd=W.fnOf x qual (zSd st) (z9b st) (zo st) .none kV doc pm an cdv ct/\K.lookup f=some ⟨oc,od,.func fd,osl⟩/\W.codeIn K cdv qual=true
 kp:W.keepIn K (.ref f)=true
section
variable {P:yu}{w:yG}{K:yt}{mg:yj->Option yb}{base:yU}
def Fun.ok{x qual:yj}{st:yR}{f:yg}{fd:yP}{N ps:Qx}{k:Nat}{sp:Sp}(F:Fun K x qual st f fd)(S:tj N ps (zo st))(len:∀vs H Q E,sp vs H Q E->vs.length=ps.length)
 (hbody:∀(cdv:yb)(A:yH)(outer:Qp)(s:yd)(H:Hp)(vs:Wi)(Q:VK)(E:XK),tN k (A.deeper (Xl qual (zo st) s.heap.objs.size f cdv))->sp vs H Q E ->
  ∃t,PSs (zfv CX0 P w K mg base N qual (zo st) f cdv A outer s H E).nox (z9b st) t/\t {nx:=λ_ H'=>Q .non H',rt:=Q } (start N vs) H):tS P w K mg base CX0 (k+1) f fd ps sp:=by
 obtain⟨oc,od,kV,doc,pm,an,cdv,ct,osl,rfl,lk,hcd⟩:=F.ex;refine zXz lk hcd S len λA outer s H vs Q E hr hsp=>?_;obtain⟨t,h,q⟩:=hbody cdv A outer s H vs Q E hr hsp;exact⟨t,h.nox,q⟩
def Fun.binds{x qual:yj}{st:yR}{f:yg}{fd:yP}{ps:Qx}(F:Fun K x qual st f fd)
 (h:∀(kV doc pm:yb)(an:Qw)(cdv ct:yb)(us:List yb),us.length=ps.length->bindArgs (W.fnOf x qual (zSd st) (z9b st) (zo st) .none kV doc pm an cdv ct) ⟨us,[]⟩=pure (ps.zip us)):Binds K fd ps []:=by
 obtain⟨oc,od,kV,doc,pm,an,cdv,ct,osl,rfl,lk,hcd⟩:=F.ex;exact .all (h kV doc pm an cdv ct)
def z7e{x qual:yj}{st:yR}{f:yg}{oc:yb}{od an:Qw}{osl:Array (Option yb)}{kV doc pm cdv ct:yb}(l:K.lookup f=some ⟨oc,od,.func (W.fnOf x qual (zSd st) (z9b st) (zo st) .none kV doc pm an cdv ct),osl⟩)
 (c:W.codeIn K cdv qual=true) (k:W.keepIn K (.ref f)=true):Fun K x qual st f (W.fnOf x qual (zSd st) (z9b st) (zo st) .none kV doc pm an cdv ct):=⟨⟨oc,od,kV,doc,pm,an,cdv,ct,osl,rfl,l,c⟩,k⟩
end
def TY{n:Nat}(h:n<=1000):n<yD:=Nat.lt_of_le_of_lt h (by decide)
section
variable {X:Cx}
def pv(i:Nat){x:yj}{pos:YZ}(hN:X.N[i]?=some x:=by rfl)(hv:Vis X.env.scope x:=by first|exact Or.inl rfl|exact Or.inr (Or.inl rfl)|exact Or.inr (Or.inr rfl))(hd:(x==("__debug__":yj))=false:=by decide)
 (hcd:(x==("__classdict__":yj))=false:=by decide):PE X (.Name x pos) (zez i):=zgx hN hv hd hcd
end
def Sf{A B:Prop}(h:B):if false=true then A else B:=by
 rw[if_neg yF];exact h
def Sg{A B:Prop}(h:A):if true=true then A else B:=by
 rw[if_pos rfl];exact h
def zMl(f:Array yb->Array yb)(o:YH):(xK f o).dict=o.dict:=by
 unfold xK
 split<;>rfl
def Trc(B h:yU)(e:yg)(x:yb):Prop:=x=.none\/∃T oT ts y,x=.ref T/\B.get? T=none/\T≠e/\h.get? T=some oT/\oT.data=.fields ts/\ts[3]?=some y
def Vx(vs:Array yb)(x:yb):Prop:=vs[1]?=some x/\vs[2]?=some .none
structure Fly(B:yU)(l:Qp)(e:yg)(cls:yb)(dx:Qw)(h:yU):Prop where
 st:B.StaysIn h
 new:B.get? e=none
 ff:h.FunFrames B l
 ob:∃oe vs x,h.get? e=some oe/\oe.cls=cls/\oe.dict=dx/\oe.data=.fields vs/\Vx vs x/\Trc B h e x
section
variable {M:Model}{A:yH}{E:yb->yd->Prop}{s:yd}{B:yU}{l outer:Qp}{env:Env}{e L:yg}{cls:yb}{dx:Qw}{Q:Unit->yd->Prop}
def Fly.recW{h:yU}{T:yg}{oT:YH}{ts:Array yb}(F:Fly B l e cls dx h)(hb:B.get? T=none)(hT:h.get? T=some oT)(hd:oT.data=.fields ts)(g:Array yb->Array yb)
 (hob:∃oe vs x,(h.update T (xK g)).get? e=some oe/\oe.cls=cls/\oe.dict=dx/\oe.data=.fields vs/\Vx vs x/\Trc B (h.update T (xK g)) e x) :
 Fly B l e cls dx (h.update T (xK g))/\h.UpToSlots (h.update T (xK g)):=by
 have other:∀b,b≠T->(h.update T (xK g)).get? b=h.get? b:=λb hb=>yY _ _ (Yi hb)
 have noR:∀b o,h.get? b=some o->(∀vs,o.data≠.fields vs)->b≠T:=λb o q hn z=>by
  rw[z,hT]at q;cases q;exact hn ts hd
 exact⟨⟨λb o q=>(other b λz=>by rw[z,hb]at q;cases q).trans (F.st b o q),F.new,F.ff.of_keeps λb o q hn=>⟨o,(other b (noR b o q hn)).trans q,rfl⟩,hob⟩,λb o q hn=>⟨o.slots,(other b (noR b o q hn)).trans q⟩⟩
def zsf(F:Fly B l e cls dx s.heap)(h:∀h',Fly B l e cls dx h'->s.heap.UpToSlots h'->Q () {s with heap:=h' }):yp M A (setFlight (.ref e) none) Q E s:=by
 obtain⟨oe,vs,x,he,hc,hx,hd,h1,tr⟩:=F.ob;unfold setFlight;refine ya (Yt he hd h1.1 ?_);rcases tr with rfl|⟨T,oT,ts,y,rfl,hb,kN,hT,hdT,h3⟩
 ·rw[if_neg (by decide)];exact yi (h _ F (.refl _))
 ·rw[if_pos (show(yI T != Ym)=true from by simp)];have h3':=(Array.getElem?_eq_some_iff.mp h3).1;refine xu hT hdT h3' ?_
  obtain⟨F',u⟩:=F.recW hb hT hdT (·.setIfInBounds 3 ((none:Qw).elim Ym λf=>YU f))
   ⟨oe,vs,_,(yY _ _ kN).trans he,hc,hx,hd,h1,.inr ⟨T,_,_,.none,rfl,hb,kN,Yb _ hT (xy (YK hdT _)),YK hdT _,by simp[h3']⟩⟩
  exact h _ F' u
def z9t{head:yb}{hadNext:Bool}(kR:A.frames=some (env::outer))(hf:env.frame=some L)(F:Fly B (env::outer) e cls dx s.heap)(h:∀h',Fly B (env::outer) e cls dx h'->s.heap.UpToSlots h'->Q () {s with heap:=h' }) :
 yp M A (do let a <-frameOf env;let pl <-entryPlaceOf L hadNext;let b <-EntryCells.newEntry head a .none (YU L) .none pl;setField (.ref e) 1 b) Q E s:=by
 obtain⟨oe,vs,x,he,hc,hx,hd,h1,tr⟩:=F.ob;have hl:=F.ff
 have hene:e∉(env::outer).filterMap (·.frame):=λhm=>by
  obtain⟨_,o,ho,hnf⟩:=hl.mem hm;rw[he]at ho;cases ho;exact hnf vs hd
 refine ya (wpAny_frameOf_fun kR hl hf λh₁ hs=>?_);refine ya (wpAny_entryPlaceOf λpl kM=>?_);unfold EntryCells.newEntry newFields;refine ya (yX ?_ (kM.sizeOk5 _ _ _ _ _));generalize hts:([head,yI L,Ym,YU L,Ym]++(if pl.isEmpty=true then yy 6 Ym else pl))=ts;have hts3:ts.toArray[3]?=some (YU L):=by rw[<-hts];simp
 have he₁:h₁.get? e=some oe:=(hs.2.1 e hene).trans he;have hn:h₁.objs.size≠e:=Yo (yn he₁);have kb:B.StaysIn h₁:=λb o q=>(hs.2.1 b λhm=>by rw[(hl.mem hm).1]at q;cases q).trans (F.st b o q);have he₂:=ye (h:=h₁) {cls:=.type "traceback",dict:=none,data:=.fields ts.toArray } he₁;refine xu he₂ hd (Array.getElem?_eq_some_iff.mp h1.1).1 (h _ ?_ ?_)
 all_goals
  have keep:∀b o,b≠e->h₁.get? b=some o->((h₁.push {cls:=.type "traceback",dict:=none,data:=.fields ts.toArray }).update e (xK (·.setIfInBounds 1 (yI h₁.objs.size)))).get? b=some o:=λb o hbe hb=>by
   rw[yY _ _ (Yi hbe)];exact ye _ hb
  have noR:∀b o,s.heap.get? b=some o->(∀vs,o.data≠.fields vs)->b≠e:=λb o q hn z=>by
   rw[z,he]at q;cases q;exact hn vs hd
 ·refine⟨λb o q=>keep b o (λz=>by rw[z,F.new]at q;cases q) (kb b o q),F.new,hl.of_keeps λb o q hn=>?_,?_⟩
  ·obtain⟨sl,z⟩:=hs.2.2 b o q;exact⟨_,keep b _ (noR b o q hn) z,rfl⟩
  ·have hd₃:=YK hd (·.setIfInBounds 1 (yI h₁.objs.size));refine⟨_,_,_,Yb _ he₂ (xy hd₃),(Obj.cls_mapFields _ _).trans hc,(zMl _ _).trans hx,hd₃,⟨by simp[(Array.getElem?_eq_some_iff.mp h1.1).1],by rw[Array.getElem?_setIfInBounds_ne (by decide)];exact h1.2⟩,.inr ⟨h₁.objs.size,{cls:=.type "traceback",dict:=none,data:=.fields ts.toArray },ts.toArray,YU L,rfl,kb.fresh,hn,?_,rfl,hts3⟩⟩;exact(yY _ _ (Yi hn)).trans (yr h₁ rfl)
 ·intro b o q hn;obtain⟨sl,z⟩:=hs.2.2 b o q;exact⟨sl,keep b _ (noR b o q hn) z⟩
def zdl(kR:A.frames=some (env::outer))(hf:env.frame=some L)(F:Fly B (env::outer) e cls dx s.heap)(h:∀h',Fly B (env::outer) e cls dx h'->s.heap.UpToSlots h'->Q () {s with heap:=h' }) :
 yp M A (noteFrame (.ref e) env) Q E s:=by
 obtain⟨oe,vs,x,he,hc,hx,hd,h1,tr⟩:=F.ob;unfold noteFrame;simp only[hf];refine ya (Yt he hd h1.1 ?_);rcases tr with rfl|⟨T,oT,ts,y,rfl,hb,kN,hT,hdT,h3⟩
 ·rw[if_neg (by decide)];exact z9t kR hf F h
 ·rw[if_pos (show(yI T != Ym)=true from by simp)];refine ya (Yt hT hdT h3 ?_)
  by_cases hy:(y==YU L)=true
  ·rw[if_pos hy];exact yi (h _ F (.refl _))
  ·rw[if_neg hy];have h3':=(Array.getElem?_eq_some_iff.mp h3).1;refine ya (xu hT hdT h3' ?_)
   obtain⟨F',u⟩:=F.recW hb hT hdT (·.setIfInBounds 3 Ym)
    ⟨oe,vs,_,(yY _ _ kN).trans he,hc,hx,hd,h1,.inr ⟨T,_,_,.none,rfl,hb,kN,Yb _ hT (xy (YK hdT _)),YK hdT _,by simp[h3']⟩⟩
   exact z9t kR hf F' λh' F'' u'=>h h' F'' (u.trans u')
def zuu(kR:A.frames=some (env::outer))(hf:env.frame=some L)(F:Fly B (env::outer) e cls dx s.heap)(h:∀h',Fly B outer e cls dx h'->s.heap.UpToSlots h'->Q () {s with heap:=h' }) :
 yp M A (leaving env (.ref e)) Q E s:=by
 unfold leaving;refine ya (zdl kR hf F λh1 F1 u1=>?_);refine zsf (s:={s with heap:=h1 }) F1 λh2 F2 u2=>?_;exact h h2 ⟨F2.st,F2.new,F2.ff.2.2,F2.ob⟩ (u1.trans u2)
end
def tD.there{P:yu}{w:yG}{H:Hp}{h:yU}{a:yg}{o:HO}(x:tD P w H h a o):∃u,h.get? a=some u:=by
 cases o with
 |lst xs=>obtain⟨_,_,_,_,e⟩:=x;exact⟨_,e⟩
 |tup xs=>obtain⟨_,_,_,o,e,_⟩:=x;exact⟨_,e⟩
 |dK hU=>obtain⟨_,_,_,_,o,_,_,e,_⟩:=x;exact⟨_,e⟩
 |dT hU=>obtain⟨_,_,_,_,o,_,_,e,_⟩:=x;exact⟨_,e⟩
 |set S n=>obtain⟨o,_,_,_,e,_⟩:=x;exact⟨_,e⟩
 |ins C dx fs=>obtain⟨_,_,_,e,_⟩:=x;exact⟨_,e⟩
 |own y=>obtain⟨_,e⟩:=x;exact⟨_,e⟩
 |xd fs=>obtain⟨_,⟨_,_,_,e,_⟩,_⟩:=x;exact⟨_,e⟩
 |rng lo hi=>obtain⟨_,_,_,e⟩:=x;exact⟨_,e⟩
 |frz ob u=>obtain⟨e,_⟩:=x;exact⟨_,e⟩
 |tbl ps=>exact⟨_,(show h.get? a=some _ from x)⟩
 |met f y=>exact⟨_,(show h.get? a=some _ from x)⟩
 |ext G=>obtain⟨_,⟨_,e⟩,_⟩:=x;exact⟨_,e⟩
structure Cov(outer:Qp)(H':Hp)(h B:yU):Prop where
 tr:∀b o,H' b=some o->∃u,B.get? b=some u
 old:∀b o,h.get? b=some o->b∉frs outer->∃u,B.get? b=some u
structure sU(P:yu)(w:yG)(outer:Qp)(H:Hp)(s:yd)(C:yb)(dx:Qw)(H':Hp)(e:yb)(s':yd):Prop where
 os:s'.os=s.os
 bare:AllBare s'.gens
 un:Un (frs outer) [] H H' s.heap s'.heap
 hok:HOk P w H' s'.heap
 fly:∃a B,e=.ref a/\Fly B outer a C dx s'.heap/\Cov outer H' s.heap B
def CXq(P:yu)(w:yG):CXT:=λouter H s E e s'=>∃C dx H',sU P w outer H s C dx H' e s'/\E C dx H'
section
variable {P:yu}{w:yG}{outer:Qp}{H H':Hp}{h0 h h' B base:yU}
def zYp(u:Un (frs outer) [] H H' h0 h)(c:Cov outer H' h0 B)(st:B.StaysIn h)(st':B.StaysIn h')(sm:h.UpToSlots h')(ff:h0.FunFrames base outer)(frf:∀b∈frs outer,H b=none):Un (frs outer) [] H H' h0 h' where
 keep:=λb o q n hb hx=>by
  obtain⟨v,hv⟩:=c.old b o q hb;have e1:=u.keep b o q n hb hx;have e2:=st b v hv;rw[e1]at e2;cases e2;exact st' b o hv
 slot:=λb o q n hb hx=>by
  obtain⟨sl,e1⟩:=u.slot b o q n hb hx;obtain⟨_,o',ho',hd⟩:=ff.mem hb;rw[q]at ho';cases ho';obtain⟨sl',e2⟩:=sm b _ e1 hd;exact⟨sl',e2⟩
 free:=u.free
 there:=λb o q hx=>by
  by_cases hb:b∈frs outer
  ·obtain⟨sl,e1⟩:=u.slot b o q (frf b hb) hb hx;obtain⟨_,o',ho',hd⟩:=ff.mem hb;rw[q]at ho';cases ho';obtain⟨sl',e2⟩:=sm b _ e1 hd;exact⟨_,e2⟩
  ·obtain⟨v,hv⟩:=c.old b o q hb;exact⟨v,st' b v hv⟩
 tups:=u.tups
 TL:=u.TL
 TR:=u.TR
def zFm(x:HOk P w H' h)(c:Cov outer H' h0 B)(st:B.StaysIn h)(st':B.StaysIn h'):HOk P w H' h':=λa o e=>by
 refine(x a o e).stay (λb u hb q=>?_) (λ_ q=>q) λ_ _ q=>q
 have hb:∃o',H' b=some o':=by
  rcases hb with rfl|hb
  ·exact⟨_,e⟩
  ·exact⟨_,hb⟩
 obtain⟨o',hb⟩:=hb;obtain⟨v,hv⟩:=c.tr b o' hb;have e2:=st b v hv;rw[q]at e2;cases e2;exact st' b u hv
variable {X:Cx}{U:Qb}{Y:St}{s s':yd}{C:yb}{a:yg}{dx:Qw}
def Inv.fly{B h':yU}(I:Inv X U Y H s)(F:sU X.prog X.w X.stack H s C dx H' (.ref a) s')(c:Cov X.stack H' s.heap B)(st:B.StaysIn s'.heap)(st':B.StaysIn h')(sm:s'.heap.UpToSlots h'){t':Nat}{d':Drawn} :
 Inv X U Y H' {s' with heap:=h',toks:=t',drawn:=d' } :=
 I.SD F.os (zYp F.un c st st' sm I.stack I.TM) (zFm F.hok c st st') F.bare λb z=>absurd z (by simp)
def Inv.madeX{h':yU}{vs:List yb}(I:Inv X U Y H s)(hm:Heap.MadeExcOf s.heap h' a C vs):sU X.prog X.w X.stack H s C none H (.ref a) {s with heap:=h' }:=by
 have hin:∀env∈X.stack,∀b,env.frame=some b->b∈frs X.stack:=λenv he b hb=>List.mem_filterMap.mpr ⟨env,he,hb⟩;obtain⟨t,he,_,_⟩:=hm.there
 have hn:(W.hideAll s.heap (frs X.stack)).get? a=none:=by
  cases q:(W.hideAll s.heap (frs X.stack)).get? a with
  |none=>rfl
  |some o=>have:=W.of_hideAll _ q;rw[hm.new]at this;cases this
 refine⟨rfl,I.bare,Un.kept hm.keeps,I.hok.kept hm.keeps,a,W.hideAll s.heap (frs X.stack),rfl,⟨λb o q=>hm.keeps b o (W.of_hideAll _ q),hn,?_,⟨_,_,_,he,rfl,rfl,rfl,⟨rfl,rfl⟩,.inl rfl⟩⟩,?_⟩
 ·exact(W.funFrames_hide I.stack hin).of_keeps λb o hb _=>⟨o,hm.keeps b o hb,rfl⟩
 ·exact⟨λb o q=>by
   obtain⟨u,hu⟩:=(I.hok b o q).there;exact⟨u,W.hideAll_get _ hu λhm=>by rw[I.TM b hm]at q;cases q⟩,λb o q hb=>⟨o,W.hideAll_get _ q hb⟩⟩
end
def zGl(X:Cx)(C:yb)(dx:Qw)(H':Hp):Prop:=∀U Y H s e s',Inv X U Y H s->sU X.prog X.w X.stack H s C dx H' e s'->X.xe e s'
section
variable {P:yu}{w:yG}{K:yt}{mg:yj->Option yb}{base:yU}{N:Qx}{qual:yj}{scope:xG}{f:yg}{cd:yb}{A:yH}{outer:Qp}{s:yd}{H H':Hp}{E:XK}{C:yb}{dx:Qw}
def zYx{X:Cx}{U:Qb}{Y:St}{H1:Hp}{s1:yd}{B:yU}(I:Inv X U Y H1 s1)(hs:X.stack=X.env::X.outer)(hf:X.env.frame=some X.env.locals)(hex:X.ex=[])(c:Cov X.stack H' s1.heap B):Cov X.outer H' X.s₀.heap B where
 tr:=c.tr
 old:=λb o q hb=>by
  obtain⟨o1,e1⟩:=I.base.there b o q (by rw[hex];simp);refine c.old b o1 e1 ?_;rw[hs];unfold frs;rw[Lj,hf];intro hm;rcases List.mem_cons.mp hm with rfl|hm
  ·exact absurd (yv (yn q) I.ok.above) (Yk _)
  ·exact hb hm
def zps(hE:E C dx H'):zGl (zfv (CXq P w) P w K mg base N qual scope f cd A outer s H E) C dx H':=by
 intro U Y H1 s1 e s' I F;have hf:(Xl qual scope s.heap.objs.size f cd).frame=some (Xl qual scope s.heap.objs.size f cd).locals:=rfl;obtain⟨a,B,rfl,fl,c⟩:=F.fly;refine zuu I.ok.frames hf fl λh'' fl' sm=>?_;have δ:Inv (zfv (CXq P w) P w K mg base N qual scope f cd A outer s H E) U Y H' {s' with heap:=h'' }:=I.fly F c fl.st fl'.st sm;exact⟨C,dx,H',⟨δ.os,δ.bare,δ.base,δ.hok,a,B,rfl,fl',zYx (X:=zfv (CXq P w) P w K mg base N qual scope f cd A outer s H E) I rfl rfl rfl c⟩,hE⟩
end
end L2
namespace M
open PySem PySem.Spec PyProof.Rows L2
inductive D where
 |non|bl (b:Bool)|int (i:Int)|str (x:yj)|ty (n:String)
  |tup (ds:List D)
  |fz (ds:List D)
  |loc (n:Nat)
  |own (c:yj)
inductive tu where
 |lst (ds:List D)
  |dct (hU:List (Int×D))
  |dcf (hU:List (Int×D))
  |exc (c:yj) (fs:List (yj×D))
  |ins (c:yj) (fs:List (yj×D))
abbrev Mem:=List tu
abbrev Wm:=List D
abbrev Wn:=Option D
abbrev Wp:=List (Int×D)
abbrev Wq:=List (yj×D)
abbrev Wr:=D->Mem->Prop
def zSp(a C:yg)(dx:Qw):yU->Prop:=λh=>∃o vs,h.get? a=some o/\o.cls=.ref C/\o.dict=dx/\o.data=.fields vs/\vs[2]?=some .none
abbrev Loc:=List (Wn)
section
variable (K:yt)
def FzL(H:Hp)(a:yg)(vs:Wi):Prop :=
 (∃o,H a=some (.frz o (.lst vs)))\/∃(o:YH)(hW:Array yb)(n:Nat),K.lookup a=some o/\o.cls=.type "list"/\o.dict=none/\o.data=.seq hW n/\hW.size<=yD/\Vals vs hW.toList
mutual
def tq(Z:Qv)(H:Hp):D->V->Prop
 |.non,v=>v=.non
 |.bl b,v=>v=.bl b
 |.int i,v=>v=.int i
 |.str x,v=>v=.str x
 |.ty n,v=>v=.ty n
 |.tup ds,v=>∃a vs,v=.ref a/\H a=some (.tup vs)/\tf Z H ds vs
 |.fz ds,v=>∃a vs,v=.ref a/\FzL K H a vs/\tf Z H ds vs
 |.loc n,v=>∃a,v=.ref a/\Z[n]?=some a
 |.own c,v=>∃a,v=.ref a/\yJ K yf c=some (some (.ref a))
def tf(Z:Qv)(H:Hp):Wm->Wi->Prop
 |[],vs=>vs=[]
 |d::ds,vs=>∃v r,vs=v::r/\tq Z H d v/\tf Z H ds r
end
def Si(Z:Qv)(H:Hp)(fs:Wq)(dx:Qw):Prop:=(fs=[]/\dx=none)\/∃p vs,dx=some p/\H p=some (.xd vs)/\vs.map (·.1)=fs.map (·.1)/\tf K Z H (fs.map (·.2)) (vs.map (·.2))
def Sj(Z:Qv)(H:Hp)(a:yg):tu->Prop
 |.lst ds=>∃vs,H a=some (.lst vs)/\tf K Z H ds vs
 |.dct hU=>∃vs,H a=some (.dK vs)/\vs.map (·.1)=hU.map (λp=>yL p.1)/\tf K Z H (hU.map (·.2)) (vs.map (·.2))
 |.dcf hU=>∃o vs,H a=some (.frz o (.dK vs))/\vs.map (·.1)=hU.map (λp=>yL p.1)/\tf K Z H (hU.map (·.2)) (vs.map (·.2))
 |.exc c fs=>∃C dx,yJ K yf c=some (some (.ref C))/\H a=some (.ext (zSp a C dx))/\Si K Z H fs dx
 |.ins c fs=>∃C dx vs,yJ K yf c=some (some (.ref C))/\H a=some (.ins C dx vs)/\vs.map (·.1)=fs.map (·.1)/\tf K Z H (fs.map (·.2)) (vs.map (·.2))
structure tF(Z:Qv)(H:Hp)(O:Mem):Prop where
 nd:Z.Nodup
 len:Z.length=O.length
 at_:∀(n:Nat) a o,Z[n]?=some a->O[n]?=some o->Sj K Z H a o
structure Ext(Z:Qv)(H:Hp)(Z':Qv)(H':Hp):Prop where
 pre:∃more,Z'=Z++more
 tup:∀a vs,H a=some (.tup vs)->H' a=some (.tup vs)
 frz:∀a o u,H a=some (.frz o u)->H' a=some (.frz o u)
 xd:∀a fs,H a=some (.xd fs)->H' a=some (.xd fs)
def Su(Z:Qv)(H:Hp)(Y:L2.St)(J:Loc):Prop:=∀(i:Nat) d,J[i]?=some (some d)->∃v,Y[i]?=some (some v)/\tq K Z H d v
end
section
variable {K:yt}{Z Z' Z'':Qv}{H H' H'':Hp}{O:Mem}{Y:L2.St}{J:Loc}
def Ext.refl:Ext Z H Z H:=⟨⟨[],by simp⟩,λ_ _ h=>h,λ_ _ _ h=>h,λ_ _ h=>h⟩
def Ext.trans(a:Ext Z H Z' H')(b:Ext Z' H' Z'' H''):Ext Z H Z'' H'':=by
 obtain⟨m,e⟩:=a.pre;obtain⟨m',e'⟩:=b.pre;exact⟨⟨m++m',by rw[e',e,Lf]⟩,λ_ _ h=>b.tup _ _ (a.tup _ _ h),λ_ _ _ h=>b.frz _ _ _ (a.frz _ _ _ h),λ_ _ h=>b.xd _ _ (a.xd _ _ h)⟩
def Ext.get(e:Ext Z H Z' H'){n:Nat}{a:yg}(h:Z[n]?=some a):Z'[n]?=some a:=by
 obtain⟨m,e⟩:=e.pre;rw[e,yq (List.getElem?_eq_some_iff.mp h).1];exact h
def Ext.fz(e:Ext Z H Z' H'){a:yg}{vs:Wi}(h:FzL K H a vs):FzL K H' a vs:=by
 rcases h with ⟨o,h⟩|h
 ·exact .inl ⟨o,e.frz _ _ _ h⟩
 ·exact .inr h
mutual
def tq.ext(e:Ext Z H Z' H'):∀{d:D} {v:V},tq K Z H d v->tq K Z' H' d v
 |.non,_,h=>by unfold tq at h ⊢;exact h
 |.bl _,_,h=>by unfold tq at h ⊢;exact h
 |.int _,_,h=>by unfold tq at h ⊢;exact h
 |.str _,_,h=>by unfold tq at h ⊢;exact h
 |.ty _,_,h=>by unfold tq at h ⊢;exact h
 |.tup ds,_,h=>by
  unfold tq at h ⊢;obtain⟨a,vs,e1,e2,r⟩:=h;exact⟨a,vs,e1,e.tup _ _ e2,tf.ext e r⟩
 |.fz ds,_,h=>by
  unfold tq at h ⊢;obtain⟨a,vs,e1,e2,r⟩:=h;exact⟨a,vs,e1,e.fz e2,tf.ext e r⟩
 |.loc n,_,h=>by
  unfold tq at h ⊢;obtain⟨a,e1,e2⟩:=h;exact⟨a,e1,e.get e2⟩
 |.own c,_,h=>by unfold tq at h ⊢;exact h
def tf.ext(e:Ext Z H Z' H'):∀{ds:Wm} {vs:Wi},tf K Z H ds vs->tf K Z' H' ds vs
 |[],_,h=>by unfold tf at h ⊢;exact h
 |d::ds,_,h=>by
  unfold tf at h ⊢;obtain⟨v,r,e1,h1,h2⟩:=h;exact⟨v,r,e1,tq.ext e h1,tf.ext e h2⟩
end
def Su.ext(e:Ext Z H Z' H')(h:Su K Z H Y J):Su K Z' H' Y J:=λi d q=>
 let ⟨v,e1,r⟩:=h i d q
 ⟨v,e1,r.ext e⟩
def tf.length:∀{ds:Wm} {vs:Wi},tf K Z H ds vs->ds.length=vs.length
 |[],_,h=>by unfold tf at h;subst h;rfl
 |d::ds,_,h=>by
  unfold tf at h;obtain⟨v,r,e1,_,h2⟩:=h;subst e1;have:=tf.length h2;simp[this]
def tf.get:∀{ds:Wm} {vs:Wi} {i:Nat} {d:D},tf K Z H ds vs->ds[i]?=some d->∃v,vs[i]?=some v/\tq K Z H d v
 |[],_,_,_,_,q=>by simp at q
 |d::ds,_,0,d',h,q=>by
  unfold tf at h;obtain⟨v,r,e1,h1,_⟩:=h;subst e1;simp at q;subst q;exact⟨v,by simp,h1⟩
 |d::ds,_,i+1,d',h,q=>by
  unfold tf at h;obtain⟨v,r,e1,_,h2⟩:=h;subst e1;obtain⟨w,e2,h3⟩:=tf.get (i:=i) h2 (by simpa using q);exact⟨w,by simpa using e2,h3⟩
def tf.cons{d:D}{v:V}{ds:Wm}{vs:Wi}(h1:tq K Z H d v)(h2:tf K Z H ds vs):tf K Z H (d::ds) (v::vs):=by
 unfold tf;exact⟨v,vs,rfl,h1,h2⟩
def tf.nil:tf K Z H [] []:=by unfold tf;rfl
def tf.cons_inv{d:D}{ds:Wm}{vs:Wi}(h:tf K Z H (d::ds) vs):∃v r,vs=v::r/\tq K Z H d v/\tf K Z H ds r:=by
 unfold tf at h;exact h
def tf.nil_inv{vs:Wi}(h:tf K Z H [] vs):vs=[]:=by unfold tf at h;exact h
def tf.append:∀{ds es:Wm} {vs us:Wi},tf K Z H ds vs->tf K Z H es us->tf K Z H (ds++es) (vs++us)
 |[],_,_,_,h,q=>by rw[h.nil_inv];exact q
 |d::ds,_,_,_,h,q=>by
  obtain⟨v,r,rfl,h1,h2⟩:=h.cons_inv;exact .cons h1 (tf.append h2 q)
def tf.take:∀{ds:Wm} {vs:Wi} (n:Nat),tf K Z H ds vs->tf K Z H (ds.take n) (vs.take n)
 |[],_,n,h=>by rw[h.nil_inv];simp[tf.nil]
 |d::ds,_,0,h=>by simp[tf.nil]
 |d::ds,_,n+1,h=>by
  obtain⟨v,r,rfl,h1,h2⟩:=h.cons_inv;simpa using tf.cons h1 (tf.take n h2)
def tf.drop:∀{ds:Wm} {vs:Wi} (n:Nat),tf K Z H ds vs->tf K Z H (ds.drop n) (vs.drop n)
 |[],_,n,h=>by rw[h.nil_inv];simp[tf.nil]
 |d::ds,_,0,h=>by simpa using h
 |d::ds,_,n+1,h=>by
  obtain⟨v,r,rfl,h1,h2⟩:=h.cons_inv;simpa using tf.drop n h2
def tf.set:∀{ds:Wm} {vs:Wi} {d:D} {v:V} (n:Nat),tq K Z H d v->tf K Z H ds vs->tf K Z H (ds.set n d) (vs.set n v)
 |[],_,_,_,n,_,h=>by rw[h.nil_inv];simp[tf.nil]
 |d::ds,_,_,_,0,q,h=>by
  obtain⟨v,r,rfl,h1,h2⟩:=h.cons_inv;simpa using tf.cons q h2
 |d::ds,_,_,_,n+1,q,h=>by
  obtain⟨v,r,rfl,h1,h2⟩:=h.cons_inv;simpa using tf.cons h1 (tf.set n q h2)
def tq.int_inv{i:Int}{v:V}(h:tq K Z H (.int i) v):v=.int i:=by unfold tq at h;exact h
def tq.tI{i:Bool}{v:V}(h:tq K Z H (.bl i) v):v=.bl i:=by unfold tq at h;exact h
def tq.tG{v:V}(h:tq K Z H .non v):v=.non:=by unfold tq at h;exact h
def tq.str_inv{x:yj}{v:V}(h:tq K Z H (.str x) v):v=.str x:=by unfold tq at h;exact h
def tq.ty_inv{x:String}{v:V}(h:tq K Z H (.ty x) v):v=.ty x:=by unfold tq at h;exact h
def tq.tR{ds:Wm}{v:V}(h:tq K Z H (.tup ds) v):∃a vs,v=.ref a/\H a=some (.tup vs)/\tf K Z H ds vs:=by unfold tq at h;exact h
def tq.sE{ds:Wm}{v:V}(h:tq K Z H (.fz ds) v):∃a vs,v=.ref a/\FzL K H a vs/\tf K Z H ds vs:=by unfold tq at h;exact h
def tq.tx{n:Nat}{v:V}(h:tq K Z H (.loc n) v):∃a,v=.ref a/\Z[n]?=some a:=by unfold tq at h;exact h
def tq.sV{c:yj}{v:V}(h:tq K Z H (.own c) v):∃a,v=.ref a/\yJ K yf c=some (some (.ref a)):=by unfold tq at h;exact h
def tq.own{c:yj}{a:yg}(h:yJ K yf c=some (some (.ref a))):tq K Z H (.own c) (.ref a):=by unfold tq;exact⟨a,rfl,h⟩
def tq.int{i:Int}:tq K Z H (.int i) (.int i):=by unfold tq;rfl
def tq.bl{i:Bool}:tq K Z H (.bl i) (.bl i):=by unfold tq;rfl
def tq.non:tq K Z H .non .non:=by unfold tq;rfl
def tq.str{x:yj}:tq K Z H (.str x) (.str x):=by unfold tq;rfl
def tq.ty{x:String}:tq K Z H (.ty x) (.ty x):=by unfold tq;rfl
def tq.tup{ds:Wm}{a:yg}{vs:Wi}(e:H a=some (.tup vs))(h:tf K Z H ds vs):tq K Z H (.tup ds) (.ref a):=by unfold tq;exact⟨a,vs,rfl,e,h⟩
def tq.fz{ds:Wm}{a:yg}{vs:Wi}(e:FzL K H a vs)(h:tf K Z H ds vs):tq K Z H (.fz ds) (.ref a):=by unfold tq;exact⟨a,vs,rfl,e,h⟩
def tq.loc{n:Nat}{a:yg}(e:Z[n]?=some a):tq K Z H (.loc n) (.ref a):=by unfold tq;exact⟨a,rfl,e⟩
def FzL.sq{a:yg}{vs:Wi}(h:FzL K H a vs):SqL K H a vs:=by
 rcases h with h|h
 ·exact .inl (.inr h)
 ·exact .inr h
def Sj.some{a:yg}{o:tu}(h:Sj K Z H a o):∃u,H a=some u:=by
 cases o with
 |lst ds=>obtain⟨vs,e,_⟩:=h;exact⟨_,e⟩
 |dct hU=>obtain⟨vs,e,_⟩:=h;exact⟨_,e⟩
 |dcf hU=>obtain⟨o,vs,e,_⟩:=h;exact⟨_,e⟩
 |exc c fs=>obtain⟨C,dx,_,e,_⟩:=h;exact⟨_,e⟩
 |ins c fs=>obtain⟨C,dx,vs,_,e,_⟩:=h;exact⟨_,e⟩
def tF.mem_some(R:tF K Z H O){a:yg}(h:a∈Z):∃u,H a=some u:=by
 obtain⟨n,h1,e⟩:=List.mem_iff_getElem.mp h;have h2:n<O.length:=by rw[<-R.len];exact h1
 exact(R.at_ n a O[n] (by rw[yE h1,e]) (by simp[h2])).some
def Si.ext{fs:Wq}{dx:Qw}(e:Ext Z H Z' H')(h:Si K Z H fs dx):Si K Z' H' fs dx:=by
 rcases h with h|⟨p,vs,e1,e2,e3,r⟩
 ·exact .inl h
 ·exact .inr ⟨p,vs,e1,e.xd _ _ e2,e3,r.ext e⟩
def Sj.ext{a:yg}{o:tu}(e:Ext Z H Z' H')(h:Sj K Z H a o)(s:H' a=H a):Sj K Z' H' a o:=by
 cases o with
 |lst ds=>obtain⟨vs,q,r⟩:=h;exact⟨vs,s.trans q,r.ext e⟩
 |dct hU=>obtain⟨vs,q,q2,r⟩:=h;exact⟨vs,s.trans q,q2,r.ext e⟩
 |dcf hU=>obtain⟨o,vs,q,q2,r⟩:=h;exact⟨o,vs,s.trans q,q2,r.ext e⟩
 |exc c fs=>obtain⟨C,dx,n,q,r⟩:=h;exact⟨C,dx,n,s.trans q,r.ext e⟩
 |ins c fs=>obtain⟨C,dx,vs,n,q,q2,r⟩:=h;exact⟨C,dx,vs,n,s.trans q,q2,r.ext e⟩
def Ext.new{p:yg}{o:HO}(hp:H p=none):Ext Z H Z (upd H p o) :=
 ⟨⟨[],by simp⟩,λa vs e=>by rw[zE (zA e hp)];exact e,λa o u e=>by rw[zE (zA e hp)];exact e,λa fs e=>by rw[zE (zA e hp)];exact e⟩
def tF.other(R:tF K Z H O)(e:Ext Z H Z H')(s:∀a∈Z,H' a=H a):tF K Z H' O :=
 ⟨R.nd,R.len,λn a o h1 h2=>(R.at_ n a o h1 h2).ext e (s a (No h1))⟩
def tF.Th(R:tF K Z H O){p:yg}{o:HO}(hp:H p=none):tF K Z (upd H p o) O :=
 R.other (Ext.new hp) λa ha=>by
  obtain⟨u,e⟩:=R.mem_some ha;exact zE (zA e hp)
def Ext.push{p:yg}{o:HO}(hp:H p=none):Ext Z H (Z++[p]) (upd H p o) :=
 ⟨⟨[p],rfl⟩,(Ext.new (Z:=Z) hp).tup,(Ext.new (Z:=Z) hp).frz,(Ext.new (Z:=Z) hp).xd⟩
def tF.push(R:tF K Z H O){p:yg}{o:HO}{lo:tu}(hp:H p=none)(h:Sj K (Z++[p]) (upd H p o) p lo):tF K (Z++[p]) (upd H p o) (O++[lo]):=by
 refine⟨?_,by simp[R.len],λn a u h1 h2=>?_⟩
 ·rw[Nr];refine⟨R.nd,by simp,λa ha b hb=>?_⟩;simp at hb;subst hb;obtain⟨u,e⟩:=R.mem_some ha;exact zA e hp
 ·by_cases hn:n<Z.length
  ·rw[yq hn]at h1;rw[yq (by rw[<-R.len];exact hn)]at h2;have q:=R.at_ n a u h1 h2;obtain⟨z,e⟩:=q.some;exact q.ext (Ext.push hp) (zE (zA e hp))
  ·have hl:n<(Z++[p]).length:=(List.getElem?_eq_some_iff.mp h1).1;have e:n=Z.length:=by simp at hl;omega
   subst e;rw[yS (yo _)]at h1;rw[R.len,yS (yo _)]at h2;simp at h1 h2;subst h1 h2;exact h
def zwb{p:yg}(R:tF K Z H O):(Z++[p])[O.length]?=some p:=by
 rw[<-R.len];simp
def Ext.wr{p:yg}{o:HO}(hm:Mut (H p)):Ext Z H Z (upd H p o) :=
 ⟨⟨[],by simp⟩,λa vs e=>by rw[zE (by rintro rfl;rw[e]at hm;exact hm)];exact e,λa o u e=>by rw[zE (by rintro rfl;rw[e]at hm;exact hm)];exact e,λa fs e=>by rw[zE (by rintro rfl;rw[e]at hm;exact hm)];exact e⟩
def tF.wr(R:tF K Z H O){n:Nat}{p:yg}{o:HO}{lo:tu}(hm:Mut (H p))(hn:Z[n]?=some p)(h:Sj K Z (upd H p o) p lo):tF K Z (upd H p o) (O.set n lo):=by
 have kJ:=(List.getElem?_eq_some_iff.mp hn).1;refine⟨R.nd,by simp[R.len],λm a u h1 h2=>?_⟩
 by_cases hmn:m=n
 ·subst hmn;rw[hn]at h1;cases h1;rw[yO (by rw[<-R.len];exact kJ)]at h2;cases h2;exact h
 ·rw[yQ (Yi hmn)]at h2
  have hap:a≠p:=by
   rintro rfl;obtain⟨x1,y1⟩:=List.getElem?_eq_some_iff.mp h1;obtain⟨x2,y2⟩:=List.getElem?_eq_some_iff.mp hn;exact hmn ((List.getElem_inj R.nd).mp (y1.trans y2.symm))
  exact(R.at_ m a u h1 h2).ext (Ext.wr hm) (zE hap)
end
abbrev FE:=Loc->Mem->Option (D×Mem)
abbrev FT:=Loc->Mem->Option (Bool×Mem)
abbrev FA:=Loc->Mem->Option (List D×Mem)
inductive Out where
 |next (J:Loc) (O:Mem)|ret (d:D) (O:Mem)|brk (J:Loc) (O:Mem)|cont (J:Loc) (O:Mem)
  |exc (c:yj) (fs:Wq) (O:Mem)
abbrev FS:=Loc->Mem->Option Out
section
variable (K:yt)
structure At(Z:Qv)(H:Hp)(Y:L2.St)(J:Loc)(O:Mem):Prop where
 st:Su K Z H Y J
 hp:tF K Z H O
 len:Y.length=J.length
def tM(G:FE):TE:=λY H Q=>∃Z J O d O',At K Z H Y J O/\G J O=some (d,O')/\∀Z' H' v,Ext Z H Z' H'->tF K Z' H' O'->tq K Z' H' d v->Q v H'
def tMT(G:FT):TT:=λY H Q=>∃Z J O b O',At K Z H Y J O/\G J O=some (b,O')/\∀Z' H',Ext Z H Z' H'->tF K Z' H' O'->Q b H'
def tMA(G:FA):TA:=λY H Q=>∃Z J O ds O',At K Z H Y J O/\G J O=some (ds,O')/\∀Z' H' vs,Ext Z H Z' H'->tF K Z' H' O'->tf K Z' H' ds vs->Q vs H'
def sx(W:XK)(Z:Qv)(H:Hp)(E:Ends):Out->Prop
 |.next J' O'=>∀Z' Y' H',Ext Z H Z' H'->At K Z' H' Y' J' O'->E.nx Y' H'
 |.brk J' O'=>∀Z' Y' H',Ext Z H Z' H'->At K Z' H' Y' J' O'->E.bk Y' H'
 |.cont J' O'=>∀Z' Y' H',Ext Z H Z' H'->At K Z' H' Y' J' O'->E.ct Y' H'
 |.ret d O'=>∀Z' v H',Ext Z H Z' H'->tF K Z' H' O'->tq K Z' H' d v->E.rt v H'
 |.exc c fs O'=>∀Z' H' C dx,PySem.W.nsIn K yf c=some (some (.ref C))->Ext Z H Z' H'->tF K Z' H' O'->Si K Z' H' fs dx->W (.ref C) dx H'
def tMS(W:XK)(ψ:FS):TS:=λE Y H=>∃Z J O o,At K Z H Y J O/\ψ J O=some o/\sx K W Z H E o
end
def ME(X:Cx)(e:yB)(G:FE):Prop:=PE X e (tM X.K G)
def MT(X:Cx)(e:yB)(G:FT):Prop:=PT X e (tMT X.K G)
def MW(X:Cx)(e:yB)(G:FT):Prop:=PW X e (tMT X.K G)
def MA(X:Cx)(es:Qz)(G:FA):Prop:=PA X es (tMA X.K G)
def MS(X:Cx)(st:yR)(ψ:FS):Prop:=PS X st (tMS X.K (zGl X) ψ)
def MSs(X:Cx)(st:Wc)(ψ:FS):Prop:=PSs X st (tMS X.K (zGl X) ψ)
abbrev FF:=Wm->Mem->Option (D×Mem)
def spM(K:yt)(n:Nat)(F:FF):Sp:=λvs H Q _=>vs.length=n/\∃Z ds O d O',tf K Z H ds vs/\tF K Z H O/\F ds O=some (d,O')/\∀Z' H' v,Ext Z H Z' H'->tF K Z' H' O'->tq K Z' H' d v->Q v H'
def At.ext{K:yt}{Z Z':Qv}{H H':Hp}{Y:L2.St}{J:Loc}{O O':Mem}(a:At K Z H Y J O)(e:Ext Z H Z' H')(R:tF K Z' H' O'):At K Z' H' Y J O':=⟨a.st.ext e,R,a.len⟩
def zdd{X:Cx}{e:yB}{t:TE}{G:FE}(h:PE X e t)(w:∀Z J O Y H d O' Q,At X.K Z H Y J O->G J O=some (d,O')->(∀Z' H' v,Ext Z H Z' H'->tF X.K Z' H' O'->tq X.K Z' H' d v->Q v H')->t Y H Q):ME X e G :=
 by intro U s Y H Q I hh;obtain⟨Z,J,O,d,O',a,e,k⟩:=hh;exact h U s Y H Q I (w Z J O Y H d O' Q a e k)
def zEx{X:Cx}{e:yB}{t:TT}{G:FT}(h:PT X e t)(w:∀Z J O Y H b O' Q,At X.K Z H Y J O->G J O=some (b,O')->(∀Z' H',Ext Z H Z' H'->tF X.K Z' H' O'->Q b H')->t Y H Q):MT X e G :=
 by intro U s Y H Q I hh;obtain⟨Z,J,O,d,O',a,e,k⟩:=hh;exact h U s Y H Q I (w Z J O Y H d O' Q a e k)
def zvz{X:Cx}{e:yB}{t:TT}{G:FT}(h:PW X e t)(w:∀Z J O Y H b O' Q,At X.K Z H Y J O->G J O=some (b,O')->(∀Z' H',Ext Z H Z' H'->tF X.K Z' H' O'->Q b H')->t Y H Q):MW X e G :=
 λwh U s Y H Q I ⟨Z,J,O,d,O',a,e,k⟩=>h wh U s Y H Q I (w Z J O Y H d O' Q a e k)
def zcA{X:Cx}{e:Qz}{t:TA}{G:FA}(h:PA X e t)(w:∀Z J O Y H ds O' Q,At X.K Z H Y J O->G J O=some (ds,O')->(∀Z' H' vs,Ext Z H Z' H'->tF X.K Z' H' O'->tf X.K Z' H' ds vs->Q vs H')->t Y H Q):MA X e G :=
 λpos U s Y H Q I ⟨Z,J,O,d,O',a,e,k⟩=>h pos U s Y H Q I (w Z J O Y H d O' Q a e k)
def zXk{X:Cx}{e:yR}{t:TS}{ψ:FS}(h:PS X e t)(w:∀Z J O Y H o E,At X.K Z H Y J O->ψ J O=some o->sx X.K (zGl X) Z H E o->t E Y H):MS X e ψ :=
 by intro U s Y H E I hh;obtain⟨Z,J,O,o,a,e,k⟩:=hh;exact h U s Y H E I (w Z J O Y H o E a e k)
def z7w{X:Cx}{e:Wc}{t:TS}{ψ:FS}(h:PSs X e t)(w:∀Z J O Y H o E,At X.K Z H Y J O->ψ J O=some o->sx X.K (zGl X) Z H E o->t E Y H):MSs X e ψ :=
 by intro U s Y H E I hh;obtain⟨Z,J,O,o,a,e,k⟩:=hh;exact h U s Y H E I (w Z J O Y H o E a e k)
end M
namespace M
open PySem PySem.Spec PyProof.Rows L2
def zh{α β:Type}{o:Option α}{f:α->Option β}{b:β}(h:o.bind f=some b):∃a,o=some a/\f a=some b:=by
 cases o with
 |none=>cases h
 |some a=>exact⟨a,rfl,h⟩
section
variable {X:Cx}{a b c e:yB}{es:Qz}{G ψ χ:FE}{pos:YZ}
@[simp] def zp(i:Nat):FE:=λJ O=>match J[i]? with
 |some (some d)=>some (d,O)
 |_=>none
@[simp] def fC(d:D):FE:=λ_ O=>some (d,O)
def zmz{i:Nat}{x:yj}(h:PE X (.Name x pos) (zez i)):ME X (.Name x pos) (zp i) :=
 zdd h λZ J O Y H d O' Q A e k=>by
  unfold zp at e
  split at e
  ·rename_i d' hd
   cases e;obtain⟨v,hv,r⟩:=A.st i _ hd;exact⟨v,hv,k Z H v Ext.refl A.hp r⟩
  ·cases e
def zUw{v:V}{d:D}(h:PE X e (tC v))(r:∀Z H,tq X.K Z H d v):ME X e (fC d) :=
 zdd h λZ J O Y H d' O' Q A e k=>by
  cases e;exact k Z H v Ext.refl A.hp (r Z H)
def zm{i j}:ME X (.Constant (.int i) j pos) (fC (.int i)):=zUw z1A λ_ _ =>.int
def zYo{i j}:ME X (.Constant (.bool i) j pos) (fC (.bl i)):=zUw zQB λ_ _ =>.bl
def zRh{j}:ME X (.Constant .none j pos) (fC .non):=zUw zNz λ_ _ =>.non
def zS{x j}:ME X (.Constant (.str x) j pos) (fC (.str x)):=zUw zzu λ_ _ =>.str
def mv(i:Nat){x:yj}(hN:X.N[i]?=some x:=by rfl)(hv:Vis X.env.scope x:=by first|exact Or.inl rfl|exact Or.inr (Or.inl rfl)|exact Or.inr (Or.inr rfl))(hd:(x==("__debug__":yj))=false:=by decide)
 (hcd:(x==("__classdict__":yj))=false:=by decide):ME X (.Name x pos) (zp i):=zmz (zgx hN hv hd hcd)
def zPi{x:yj}{i:Int}(hm:∃t,X.mg x=some (.int i t))(hg:Gl X x:=by rfl)(hd:(x==("__debug__":yj))=false:=by decide):ME X (.Name x pos) (fC (.int i)) :=
 let ⟨t,ht⟩:=hm
 zUw (zVp (v:=V.int i) hg ht ⟨t,rfl⟩ hd) λ_ _ =>.int
def zyo{x:yj}{T:String}(hm:X.mg x=none)(hb:yK x=some (.type T))(hg:Gl X x:=by rfl)(hn:x≠"__name__":=by decide)(hd:(x==("__debug__":yj))=false:=by decide):ME X (.Name x pos) (fC (.ty T)) :=
 zUw (zxy (v:=V.ty T) hg hm hb (show L2.RelV (V.ty T) (YR T) from rfl) hn hd) λ_ _ =>.ty
abbrev φ2:=D->D->Mem->Option (D×Mem)
def rM(K:yt)(g:φ2):R2:=λx y H Q=>∃Z dx dy O d O',tq K Z H dx x/\tq K Z H dy y/\tF K Z H O/\g dx dy O=some (d,O')/\∀Z' H' v,Ext Z H Z' H'->tF K Z' H' O'->tq K Z' H' d v->Q v H'
def OpM(X:Cx)(f:yb->yb->Sem yb)(g:φ2):Prop:=OpR X f (rM X.K g)
def OpM.of{X:Cx}{f:yb->yb->Sem yb}{g:φ2}(h:∀(U:Qb) (s:yd) (Y:L2.St) (H:Hp) (x y:V) (v u:yb) (Q:VK),Inv X U Y H s->RelV x v->RelV y u->∀(Z:Qv)(dx dy:D)(O:Mem)(d:D)(O':Mem),tq X.K Z H dx x->tq X.K Z H dy y->tF X.K Z H O->g dx dy O=some (d,O')->(∀Z' H' v,Ext Z H Z' H'->tF X.K Z' H' O'->tq X.K Z' H' d v->Q v H')->yp (yx X.prog X.w) X.A (f v u) (EP X U Y Q) X.xe s):OpM X f g:=by
 intro U s Y H x y v u Q I rx ry hh;obtain⟨Z,dx,dy,O,d,O',r1,r2,R,e,k⟩:=hh;exact h U s Y H x y v u Q I rx ry Z dx dy O d O' r1 r2 R e k
@[simp] def zy(g:φ2)(G ψ:FE):FE:=λJ O=>(G J O).bind λp=>(ψ J p.2).bind λq=>g p.1 q.1 q.2
def znp{g:φ2}{Z:Qv}{J:Loc}{O:Mem}{Y:L2.St}{H:Hp}{d:D}{O':Mem}{Q:VK}(A:At X.K Z H Y J O)(e:zy g G ψ J O=some (d,O'))
 (k:∀Z' H' v,Ext Z H Z' H'->tF X.K Z' H' O'->tq X.K Z' H' d v->Q v H'):tOp (rM X.K g) (tM X.K G) (tM X.K ψ) Y H Q:=by
 obtain⟨⟨x,O1⟩,e1,e⟩:=zh e;obtain⟨⟨y,O2⟩,e2,e⟩:=zh e;refine⟨Z,J,O,x,O1,A,e1,λZ1 H1 v x1 R1 r1=>?_⟩;refine⟨Z1,J,O1,y,O2,A.ext x1 R1,e2,λZ2 H2 u x2 R2 r2=>?_⟩;exact⟨Z2,x,y,O2,d,O',r1.ext x2,r2,R2,e,λZ3 H3 w x3 R3 r3=>k Z3 H3 w (x1.trans (x2.trans x3)) R3 r3⟩
def zP{op:Operator}{g:φ2}(ho:OpM X (xh op) g)(ha:ME X a G)(hb:ME X b ψ):ME X (.BinOp a op b pos) (zy g G ψ) :=
 zdd (zrA ho ha hb) λ_ _ _ _ _ _ _ _ A e k=>znp A e k
def zfh{op:CmpOp}{g:φ2}(ho:OpM X (Yg op) g)(ha:ME X a G)(hb:ME X b ψ)(hm:behindInMarks op b=false:=by first|exact sZ _ (by decide) (by decide)|rfl|with_unfolding_all rfl):ME X (.Compare a [op] [b] pos) (zy g G ψ) :=
 zdd (z0x ho ha hb hm) λ_ _ _ _ _ _ _ _ A e k=>znp A e k
@[simp] def zdb(G:FE):FT:=λJ O=>(G J O).bind λp=>match p.1 with
 |.bl b=>some (b,p.2)
 |_=>none
def zGq{J:Loc}{O O':Mem}{b:Bool}(h:zdb G J O=some (b,O')):G J O=some (.bl b,O'):=by
 obtain⟨⟨x,O1⟩,e1,e⟩:=zh h;dsimp only at e
 split at e
 ·cases e;exact e1
 ·cases e
def z5{op:CmpOp}{g:φ2}(ho:OpM X (Yg op) g)(ha:ME X a G)(hb:ME X b ψ)(hm:behindInMarks op b=false:=by first|exact sZ _ (by decide) (by decide)|rfl|with_unfolding_all rfl):MT X (.Compare a [op] [b] pos) (zdb (zy g G ψ)) :=
 zEx (zOx ho ha hb hm) λZ J O Y H b O' Q A e k=>znp (Q:=λx H'=>∃k,x=.bl k/\Q k H') A (zGq e) λZ' H' v x R r=>⟨b,r.tI,k Z' H' x R⟩
@[simp] def zah:φ2:=λx y O=>match x,y with
 |.int i,.int j=>some (.int (i+j),O)
 |.tup as,.tup bs=>bif decide (as.length+bs.length<=1000000) then some (.tup (as++bs),O) else none
 |.loc l,.loc m=>match O[l]?,O[m]? with
  |some (.lst as),some (.lst bs)=>bif decide (as.length+bs.length<=1000000) then some (.loc O.length,O++[.lst (as++bs)]) else none
  |_,_=>none
 |_,_=>none
@[simp] def zxs:φ2:=λx y O=>match x,y with
 |.int i,.int j=>some (.int (i-j),O)
 |_,_=>none
def zKl(i j:Int):Bool:=decide (-(2^64)<i/\i<2^64)||decide (-(2^64)<j/\j<2^64)||(decide (i.natAbs<2^1000)&&decide (j.natAbs<2^1000))
def z9v{i j:Int}(h:zKl i j=true):IntMulOk i j:=by
 unfold zKl at h;rw[Bool.or_eq_true,Bool.or_eq_true,yM]at h;rcases h with (h|h)|⟨h1,h2⟩
 ·have h:=of_decide_eq_true h;exact .of_left (intBits_le_64 h.1 h.2)
 ·have h:=of_decide_eq_true h;exact .of_right (intBits_le_64 h.1 h.2)
 ·exact .of_le (m:=1000) (n:=1000) (intBits_le (of_decide_eq_true h1)) (intBits_le (of_decide_eq_true h2)) (by decide)
def zvj:φ2:=λx y O=>match x,y with
 |.int i,.int j=>bif zKl i j then some (.int (i*j),O) else none
 |.tup ds,.int n=>bif decide (2<=n/\n<=1000/\0<ds.length/\ds.length<=1000) then some (.tup (yy n.toNat ds).flatten,O) else none
 |.loc l,.int n=>match O[l]? with
  |some (.lst ds)=>bif decide (n<=1000/\-(2^62)<=n/\ds.length<=1000) then some (.loc O.length,O++[.lst (yy n.toNat ds).flatten]) else none
  |_=>none
 |_,_=>none
@[simp] def z5p:φ2:=λx y O=>match x,y with
 |.int i,.int j=>bif decide (0<j) then some (.int (i%j),O) else none
 |_,_=>none
@[simp] def zfz:φ2:=λx y O=>match x,y with
 |.int i,.int j=>bif decide (0<j/\j<1606938044258990275541962092341162602522202993782792835301376) then some (.int (i / j),O) else none
 |_,_=>none
def z6u:φ2:=λx y O=>match x,y with
 |.int i,.int j=>bif decide (0<=j/\j<=100000/\i.natAbs<1606938044258990275541962092341162602522202993782792835301376) then some (.int (i^j.toNat),O) else none
 |_,_=>none
def zJ{α:Type}{c:Bool}{o:Option α}{x:α}(h:(bif c then o else none)=some x):c=true/\o=some x:=by
 cases c with
 |true=>exact⟨rfl,h⟩
 |false=>cases h
def zln{f:yb->yb->Sem yb}{g:φ2}{C:Int->Int->Prop}{h:Int->Int->Int}(o:OpR X f (rI C λi j =>.int (h i j)))
 (w:∀x y O d O',g x y O=some (d,O')->∃i j,x=.int i/\y=.int j/\C i j/\d=.int (h i j)/\O'=O):OpM X f g:=by
 refine OpM.of λU s Y H x y v u Q I rx ry Z dx dy O d O' r1 r2 R e k=>?_;obtain⟨i,j,rfl,rfl,hc,rfl,rfl⟩:=w _ _ _ _ _ e;refine o U s Y H x y v u Q I rx ry ⟨i,j,r1.int_inv,r2.int_inv,hc,?_⟩;exact k Z H _ Ext.refl R .int
def zuk:OpM X (xh .Sub) zxs:=zln (C:=λ_ _=>True) (h:=λi j=>i-j) (opI λ_ _ _ _ _ _ _ _ q=>sub_int q) λx y O d O' e=>by
 unfold zxs at e
 split at e
 ·cases e;exact⟨_,_,rfl,rfl,trivial,rfl,rfl⟩
 ·cases e
def zRd:OpM X (xh .Mod) z5p:=zln (h:=λi j=>i%j) zHz λx y O d O' e=>by
 unfold z5p at e
 split at e
 ·obtain⟨h1,e⟩:=zJ e;cases e;have h2:=of_decide_eq_true h1;exact⟨_,_,rfl,rfl,h2,rfl,rfl⟩
 ·cases e
def zNA(i j:Int):Prop:=0<j/\j<1606938044258990275541962092341162602522202993782792835301376
def z0v:OpR X (xh .FloorDiv) (rI zNA λi j =>.int (i / j)):=opI λi j _ _ _ _ _ hc q=>by
 have h1:(0:Int)<j:=hc.1;have h2:j<1606938044258990275541962092341162602522202993782792835301376:=hc.2;refine floordiv_int (by omega) (by rw[Int.fdiv_eq_ediv_of_nonneg i (by omega)];exact q) (.inl (PyProof.noPylong_of_log2 ?_));have:j.natAbs.log2<200:=(Nat.log2_lt (by omega)).mpr (by rw[show 2^200=1606938044258990275541962092341162602522202993782792835301376 from rfl];omega);omega
def zCp:OpM X (xh .FloorDiv) zfz:=zln (C:=zNA) (h:=λi j=>i / j) z0v λx y O d O' e=>by
 unfold zfz at e
 split at e
 ·obtain⟨h1,e⟩:=zJ e;cases e;have h2:=of_decide_eq_true h1;exact⟨_,_,rfl,rfl,h2,rfl,rfl⟩
 ·cases e
def zVz(i j:Int):Prop:=0<=j/\j<=100000/\i.natAbs<1606938044258990275541962092341162602522202993782792835301376
def zBy:OpR X (xh .Pow) (rI zVz λi j =>.int (i^j.toNat)):=opI λi j _ _ _ _ _ hc q=>by
 refine pow_int hc.1 ?_ q;have hb:Builtin.Int.intBits i<=200:=intBits_le (by rw[show 2^200=1606938044258990275541962092341162602522202993782792835301376 from rfl];exact hc.2.2);have h2:=hc.2.1;have h1:=hc.1
 calc (Builtin.Int.intBits i:Int)*j<=200*100000:=Int.mul_le_mul (by omega) h2 h1 (by omega)
  _<=2^27:=by decide
def zNi:OpM X (xh .Pow) z6u:=zln (C:=zVz) (h:=λi j=>i^j.toNat) zBy λx y O d O' e=>by
 unfold z6u at e
 split at e
 ·obtain⟨h1,e⟩:=zJ e;cases e;have h2:=of_decide_eq_true h1;exact⟨_,_,rfl,rfl,h2,rfl,rfl⟩
 ·cases e
@[simp] def zNj(p:Int->Int->Bool):φ2:=λx y O=>match x,y with
 |.int i,.int j=>some (.bl (p i j),O)
 |_,_=>none
def zzn{f:yb->yb->Sem yb}{p:Int->Int->Bool}(o:OpR X f (rI0 λi j =>.bl (p i j))):OpM X f (zNj p):=by
 refine OpM.of λU s Y H x y v u Q I rx ry Z dx dy O d O' r1 r2 R e k=>?_;unfold zNj at e
 split at e
 ·cases e;exact o U s Y H x y v u Q I rx ry ⟨_,_,r1.int_inv,r2.int_inv,k Z H _ Ext.refl R .bl⟩
 ·cases e
def znm:OpM X (Yg .Lt) (zNj λi j=>decide (i<j)):=zzn zLB
def zjq:OpM X (Yg .LtE) (zNj λi j=>decide (i<=j)):=zzn zxB
def zZo:OpM X (Yg .Gt) (zNj λi j=>decide (j<i)):=zzn zWB
def z5w:OpM X (Yg .GtE) (zNj λi j=>decide (j<=i)):=zzn z4B
@[simp] def z4s(g g':φ2)(G ψ χ:FE):FE:=λJ O=>(G J O).bind λp=>(ψ J p.2).bind λq=>(g p.1 q.1 q.2).bind λr=>match r.1 with
 |.bl true=>(χ J r.2).bind λt=>g' q.1 t.1 t.2
 |.bl false=>some (.bl false,r.2)
 |_=>none
def zmq{op op':CmpOp}{g g':φ2}(ho:OpM X (Yg op) g)(ho':OpM X (Yg op') g')(ha:ME X a G)(hb:ME X b ψ)(hc:ME X c χ)
 (hm:lastMarks [op,op'] [b,c]=false:=by with_unfolding_all rfl):ME X (.Compare a [op,op'] [b,c] pos) (z4s g g' G ψ χ) :=
 zdd (zuw ho ho' ha hb hc hm) λZ J O Y H d O' Q A e k=>by
  obtain⟨⟨x,O1⟩,e1,e⟩:=zh e;obtain⟨⟨y,O2⟩,e2,e⟩:=zh e;obtain⟨⟨z,O3⟩,e3,e⟩:=zh e;refine⟨Z,J,O,x,O1,A,e1,λZ1 H1 v x1 R1 r1=>?_⟩;refine⟨Z1,J,O1,y,O2,A.ext x1 R1,e2,λZ2 H2 u x2 R2 r2=>?_⟩;refine⟨Z2,x,y,O2,z,O3,r1.ext x2,r2,R2,e3,λZ3 H3 w x3 R3 r3=>?_⟩;dsimp only at e
  split at e
  ·rename_i hz
   refine⟨true,r3.tI,Sg ?_⟩;obtain⟨⟨t,O4⟩,e4,e⟩:=zh e;refine⟨Z3,J,O3,t,O4,A.ext (x1.trans (x2.trans x3)) R3,e4,λZ4 H4 w' x4 R4 r4=>?_⟩;exact⟨Z4,y,t,O4,d,O',r2.ext (x3.trans x4),r4,R4,e,λZ5 H5 w5 x5 R5 r5=>k Z5 H5 w5 (x1.trans (x2.trans (x3.trans (x4.trans x5)))) R5 r5⟩
  ·cases e;exact⟨false,r3.tI,Sf (k Z3 H3 _ (x1.trans (x2.trans x3)) R3 .bl)⟩
  ·cases e
@[simp] def zIv(G ψ:FE):FE:=λJ O=>(G J O).bind λp=>match p.1 with
 |.bl true=>ψ J p.2
 |.bl false=>some (.bl false,p.2)
 |_=>none
@[simp] def fOr(G ψ:FE):FE:=λJ O=>(G J O).bind λp=>match p.1 with
 |.bl false=>ψ J p.2
 |.bl true=>some (.bl true,p.2)
 |_=>none
@[simp] def zIB(G:FE):FE:=λJ O=>(G J O).bind λp=>match p.1 with
 |.bl b=>some (.bl (!b),p.2)
 |_=>none
def z5n{op}(h:ME X a G):ME X (.BoolOp op [a] pos) G:=zOz h
def zjk{rest:Qz}(ha:ME X a G)(hb:ME X (.BoolOp .And (b::rest) pos) ψ):ME X (.BoolOp .And (a::b::rest) pos) (zIv G ψ) :=
 zdd (ztz ha hb) λZ J O Y H d O' Q A e k=>by
  obtain⟨⟨x,O1⟩,e1,e⟩:=zh e;refine⟨Z,J,O,x,O1,A,e1,λZ1 H1 v x1 R1 r1=>?_⟩;dsimp only at e
  split at e
  ·exact⟨true,r1.tI,Sg ⟨Z1,J,O1,d,O',A.ext x1 R1,e,λZ2 H2 w x2 R2 r2=>k Z2 H2 w (x1.trans x2) R2 r2⟩⟩
  ·cases e;exact⟨false,r1.tI,Sf (k Z1 H1 _ x1 R1 .bl)⟩
  ·cases e
def zpz(ha:ME X a G):ME X (.UnaryOp .Not a pos) (zIB G) :=
 zdd (z7z ha) λZ J O Y H d O' Q A e k=>by
  obtain⟨⟨x,O1⟩,e1,e⟩:=zh e;refine⟨Z,J,O,x,O1,A,e1,λZ1 H1 v x1 R1 r1=>?_⟩;dsimp only at e
  split at e
  ·rename_i q
   cases e;exact⟨q,r1.tI,k Z1 H1 _ x1 R1 .bl⟩
  ·cases e
@[simp] def zht(G ψ:FT):FT:=λJ O=>(G J O).bind λp=>bif p.1 then ψ J p.2 else some (false,p.2)
@[simp] def zJs(G ψ:FT):FT:=λJ O=>(G J O).bind λp=>bif p.1 then some (true,p.2) else ψ J p.2
@[simp] def z9n(G:FT):FT:=λJ O=>(G J O).bind λp=>some (!p.1,p.2)
def zGh{G:FE}(h:ME X a G)(he:∀whole,isTrue a X.env whole=(do let v <-whole;standAt a.pos;xO [v] (truthy v)):=by intro _;rfl):MT X a (zdb G) :=
 zEx (z3A h he) λZ J O Y H b O' Q A e k=>⟨Z,J,O,.bl b,O',A,zGq e,λZ' H' v x R r=>⟨b,r.tI,k Z' H' x R⟩⟩
def MW.mt{G:FT}(h:MW X a G):MT X a G:=h _
def zAp{G:FT}(h:MT X a G):MW X (.BoolOp .And [a] pos) G:=zUy h
def zgj{G:FT}(h:MT X a G):MW X (.BoolOp .Or [a] pos) G:=zlz h
def zBt{G ψ:FT}{rest:Qz}(ha:MT X a G)(hb:MW X (.BoolOp .And (b::rest) pos) ψ):MW X (.BoolOp .And (a::b::rest) pos) (zht G ψ) :=
 zvz (zwz ha hb) λZ J O Y H b O' Q A e k=>by
  obtain⟨⟨x,O1⟩,e1,e⟩:=zh e;refine⟨Z,J,O,x,O1,A,e1,λZ1 H1 x1 R1=>?_⟩
  cases x with
  |true=>exact Sg ⟨Z1,J,O1,b,O',A.ext x1 R1,e,λZ2 H2 x2 R2=>k Z2 H2 (x1.trans x2) R2⟩
  |false=>
   cases e;exact Sf (k Z1 H1 x1 R1)
def zxn{G ψ:FT}{rest:Qz}(ha:MT X a G)(hb:MW X (.BoolOp .Or (b::rest) pos) ψ):MW X (.BoolOp .Or (a::b::rest) pos) (zJs G ψ) :=
 zvz (zDB ha hb) λZ J O Y H b O' Q A e k=>by
  obtain⟨⟨x,O1⟩,e1,e⟩:=zh e;refine⟨Z,J,O,x,O1,A,e1,λZ1 H1 x1 R1=>?_⟩
  cases x with
  |false=>exact Sf ⟨Z1,J,O1,b,O',A.ext x1 R1,e,λZ2 H2 x2 R2=>k Z2 H2 (x1.trans x2) R2⟩
  |true=>
   cases e;exact Sg (k Z1 H1 x1 R1)
def zOl{G:FT}(ha:MT X a G):MT X (.UnaryOp .Not a pos) (z9n G) :=
 zEx (z8z ha) λZ J O Y H b O' Q A e k=>by
  obtain⟨⟨x,O1⟩,e1,e⟩:=zh e;cases e;exact⟨Z,J,O,x,O1,A,e1,λZ1 H1 x1 R1=>k Z1 H1 x1 R1⟩
structure MAn(X:Cx)(es:Qz)(G:FA):Prop where
 ma:MA X es G
 len:∀J O ds O',G J O=some (ds,O')->ds.length=es.length
@[simp] def zC:FA:=λ_ O=>some ([],O)
@[simp] def zi(G:FE)(ψ:FA):FA:=λJ O=>(G J O).bind λp=>(ψ J p.2).bind λq=>some (p.1::q.1,q.2)
def zd:MAn X [] zC:=⟨zcA zPg λZ J O Y H ds O' Q A e k=>by
 cases e;exact k Z H [] Ext.refl A.hp .nil,λ_ _ _ _ e=>by cases e;rfl⟩
def ziz:yB->Bool
 |.Starred ..=>false
 |_=>true
def zvc{e:yB}{es:Qz}{env:Env}(h:ziz e=true):yh (e::es) env=(false,yV e env)::yh es env:=by
 cases e<;>first|rfl|cases h
def zb{G:FE}{ψ:FA}(ha:ME X e G)(hr:MAn X es ψ)(hs:yh (e::es) X.env=(false,yV e X.env)::yh es X.env:=by exact zvc rfl):MAn X (e::es) (zi G ψ) :=
 ⟨zcA (zQd ha hr.ma hs) λZ J O Y H ds O' Q A e k=>by
  obtain⟨⟨x,O1⟩,e1,e⟩:=zh e;obtain⟨⟨y,O2⟩,e2,e⟩:=zh e;cases e;refine⟨Z,J,O,x,O1,A,e1,λZ1 H1 v x1 R1 r1=>?_⟩;refine⟨Z1,J,O1,y,O2,A.ext x1 R1,e2,λZ2 H2 u x2 R2 r2=>?_⟩;exact k Z2 H2 _ (x1.trans x2) R2 (.cons (r1.ext x2) r2),λJ O ds O' e=>by
  obtain⟨⟨x,O1⟩,e1,e⟩:=zh e;obtain⟨⟨y,O2⟩,e2,e⟩:=zh e;cases e;have:=hr.len _ _ _ _ e2;simp[this]⟩
@[simp] def zto(G:FA):FE:=λJ O=>(G J O).bind λp=>some (.tup p.1,p.2)
@[simp] def zsl(G:FA):FE:=λJ O=>(G J O).bind λp=>some (.loc p.2.length,p.2++[.lst p.1])
def zye{x1}{G:FA}(h:MAn X es G)(hn:es.length<=1000:=by decide):ME X (.Tuple es x1 pos) (zto G) :=
 zdd (zMA h.ma) λZ J O Y H d O' Q A e k=>by
  obtain⟨⟨x,O1⟩,e1,e⟩:=zh e;cases e;refine⟨Z,J,O,x,O1,A,e1,λZ1 H1 vs x1 R1 r1=>⟨?_,λp hp=>?_⟩⟩
  ·rw[<-r1.length,h.len _ _ _ _ e1];exact YI (TY hn)
  ·exact k Z1 _ _ (x1.trans (Ext.new hp)) (R1.Th hp) (.tup zx (r1.ext (Ext.new hp)))
def zDd{G:FA}(h:MAn X es G)(hn:es.length<=1000:=by decide):ME X (.List es pos) (zsl G) :=
 zdd (z2z h.ma) λZ J O Y H d O' Q A e k=>by
  obtain⟨⟨x,O1⟩,e1,e⟩:=zh e;cases e;refine⟨Z,J,O,x,O1,A,e1,λZ1 H1 vs x1 R1 r1=>⟨?_,λp hp=>?_⟩⟩
  ·rw[<-r1.length,h.len _ _ _ _ e1];exact YI (TY hn)
  ·exact k _ _ _ (x1.trans (Ext.push hp)) (R1.push hp ⟨vs,zx,r1.ext (Ext.push hp)⟩) (.loc (zwb R1))
@[simp] def zw(F:FF)(G:FA):FE:=λJ O=>(G J O).bind λp=>F p.1 p.2
def zMt{k n:Nat}{f:yg}{fd:yP}{ps:Qx}{F:FF}{x:yj}{p:YZ}{G:FA}(φ:tS X.prog X.w X.K X.mg X.base CX0 k f fd ps (spM X.K n F))(hr:tN k X.A)(hm:X.mg x=some (.ref f))(hk:W.keepIn X.K (.ref f)=true)(hb:Binds X.K fd ps [])
 (ha:MAn X (e::es) G) (hn:(e::es).length=n:=by rfl) (hg:Gl X x:=by rfl) (hdb:(x==("__debug__":yj))=false:=by decide) (he:yh (e::es) X.env=(false,yV e X.env)::yh es X.env:=by exact zvc rfl) (kM:(yW pos (yh es X.env)).any (·.1)=false:=by rfl) :
 ME X (.Call (.Name x p) (e::es) [] pos) (zw F G) :=
 zdd (zUx φ hr hg hm hk hb .nil Se ha.ma hdb he kM) λZ J O Y H d O' Q A e k=>by
  obtain⟨⟨x,O1⟩,e1,e⟩:=zh e;refine⟨Z,J,O,x,O1,A,e1,λZ1 H1 vs x1 R1 r1=>?_⟩;show spM X.K n F (vs++[]) H1 Q E0;rw[Lg];exact⟨by rw[<-r1.length,ha.len _ _ _ _ e1];exact hn,Z1,x,O1,d,O',r1,R1,e,λZ2 H2 v x2 R2 r2=>k Z2 H2 v (x1.trans x2) R2 r2⟩
abbrev GL:=Wm->Mem->Option (D×Mem)
def rCM(K:yt)(g:GL):Wi->Hp->VK->Prop:=λvs H Q=>∃Z ds O d O',tf K Z H ds vs/\tF K Z H O/\g ds O=some (d,O')/\∀Z' H' v,Ext Z H Z' H'->tF K Z' H' O'->tq K Z' H' d v->Q v H'
def tJ(X:Cx)(f:yb)(g:GL):Prop:=zqi X f (rCM X.K g)
def tJ.of{X:Cx}{f:yb}{g:GL}(h:∀(U:Qb) (s:yd) (Y:L2.St) (H:Hp) (xs:Wi) (us:List yb) (Q:VK),Inv X U Y H s->Vals xs us->∀(Z:Qv)(ds:Wm)(O:Mem)(d:D)(O':Mem),tf X.K Z H ds xs->tF X.K Z H O->g ds O=some (d,O')->(∀Z' H' v,Ext Z H Z' H'->tF X.K Z' H' O'->tq X.K Z' H' d v->Q v H')->yp (yx X.prog X.w) X.A (call f us) (EP X U Y Q) X.xe s):tJ X f g:=by
 intro U s Y H xs us Q I r hh;obtain⟨Z,ds,O,d,O',r1,R,e,k⟩:=hh;exact h U s Y H xs us Q I r Z ds O d O' r1 R e k
def zhC{g:GL}{G:FA}{Z:Qv}{J:Loc}{O:Mem}{Y:L2.St}{H:Hp}{d:D}{O':Mem}{Q:VK}(A:At X.K Z H Y J O)(e:zw g G J O=some (d,O'))
 (k:∀Z' H' v,Ext Z H Z' H'->tF X.K Z' H' O'->tq X.K Z' H' d v->Q v H'):tCB (rCM X.K g) (tMA X.K G) Y H Q:=by
 obtain⟨⟨x,O1⟩,e1,e⟩:=zh e;exact⟨Z,J,O,x,O1,A,e1,λZ1 H1 vs x1 R1 r1=>⟨Z1,x,O1,d,O',r1,R1,e,λZ2 H2 v x2 R2 r2=>k Z2 H2 v (x1.trans x2) R2 r2⟩⟩
def zK{g:GL}{id:String}{x:yj}{p:YZ}{G:FA}(hc:tJ X (.builtin id) g)(hm:X.mg x=none)(hv:yK x=some (.builtin id))(ha:MAn X (e::es) G)(hg:Gl X x:=by rfl)(hn:x≠"__name__":=by decide)(hdb:(x==("__debug__":yj))=false:=by decide)
 (he:yh (e::es) X.env=(false,yV e X.env)::yh es X.env:=by exact zvc rfl) (kM:(yW pos (yh es X.env)).any (·.1)=false:=by rfl):ME X (.Call (.Name x p) (e::es) [] pos) (zw g G) :=
 zdd (z7q hc hg hm hv ha.ma hn hdb he kM) λ_ _ _ _ _ _ _ _ A e k=>zhC A e k
def zbb{g:GL}{T:String}{x:yj}{p:YZ}{G:FA}(hc:tJ X (.type T) g)(hm:X.mg x=none)(hv:yK x=some (.type T))(ha:MAn X (e::es) G)(hg:Gl X x:=by rfl)(hn:x≠"__name__":=by decide)(hdb:(x==("__debug__":yj))=false:=by decide)
 (he:yh (e::es) X.env=(false,yV e X.env)::yh es X.env:=by exact zvc rfl) (kM:(yW pos (yh es X.env)).any (·.1)=false:=by rfl):ME X (.Call (.Name x p) (e::es) [] pos) (zw g G) :=
 zdd (z6e hc hg hm hv ha.ma hn hdb he kM) λ_ _ _ _ _ _ _ _ A e k=>zhC A e k
variable {K:yt}{Z:Qv}{H:Hp}{O:Mem}
@[simp] def items(O:Mem):D->Option (Wm)
 |.tup ds=>some ds
 |.fz ds=>some ds
 |.loc n=>match O[n]? with
  |some (.lst ds)=>some ds
  |_=>none
 |_=>none
def zki{d:D}{v:V}{ds:Wm}(R:tF K Z H O)(r:tq K Z H d v)(e:items O d=some ds):∃p vs,v=.ref p/\(SqL K H p vs\/SqT K H p vs)/\tf K Z H ds vs:=by
 unfold items at e
 split at e
 ·cases e;obtain⟨a,vs,e1,e2,q⟩:=r.tR;exact⟨a,vs,e1,.inr (SqT.of e2),q⟩
 ·cases e;obtain⟨a,vs,e1,e2,q⟩:=r.sE;exact⟨a,vs,e1,.inl e2.sq,q⟩
 ·split at e
  ·rename_i h
   cases e;obtain⟨a,e1,e2⟩:=r.tx;obtain⟨vs,e3,q⟩:=R.at_ _ _ _ e2 h;exact⟨a,vs,e1,.inl (SqL.of e3),q⟩
  ·cases e
 ·cases e
@[simp] def gIx:φ2:=λx y O=>match y with
 |.int i=>(items O x).bind λds=>(atI ds i).bind λd=>some (d,O)
 |_=>none
def zmy{K:yt}{Z:Qv}{H:Hp}{ds:Wm}{vs:Wi}{i:Int}{d:D}(r:tf K Z H ds vs)(e:atI ds i=some d):∃v,atI vs i=some v/\tq K Z H d v:=by
 unfold atI at e ⊢;rw[r.length]at e;obtain⟨j,e1,e2⟩:=zh e;obtain⟨v,e3,q⟩:=r.get e2;exact⟨v,by rw[e1];exact e3,q⟩
def ixM:IxR X (rM X.K gIx):=by
 intro value slice U s Y H x y v u Q I rx ry ⟨Z,dx,dy,O,d,O',r1,r2,R,e,k⟩ hs;unfold gIx at e
 split at e
 ·obtain⟨ds,e1,e⟩:=zh e;obtain⟨d',e2,e⟩:=zh e;cases e;obtain⟨p,vs,rfl,hq,rr⟩:=zki R r1 e1;obtain⟨w,e3,q⟩:=zmy rr e2;rcases hq with hq|hq
  ·exact z6w value slice U s Y H _ y v u Q I rx ry (.inl ⟨p,vs,_,w,rfl,r2.int_inv,hq,e3,k Z H w Ext.refl R q⟩) hs
  ·exact z6w value slice U s Y H _ y v u Q I rx ry (.inr (.inl ⟨p,vs,_,w,rfl,r2.int_inv,hq,e3,k Z H w Ext.refl R q⟩)) hs
 ·cases e
def zN(ha:ME X a G)(hb:ME X b ψ)(hs:zkk b:=by exact λ_ _=>rfl):ME X (.Subscript a b pos) (zy gIx G ψ) :=
 zdd (zYv ixM ha hb hs) λ_ _ _ _ _ _ _ _ A e k=>znp A e k
@[simp] def zxl:GL:=λds O=>match ds with
 |[d]=>(items O d).bind λxs=>some (.int xs.length,O)
 |_=>none
def zmb:tJ X (.builtin "len") zxl:=by
 refine tJ.of λU s Y H xs us Q I r Z ds O d O' r1 R e k=>?_;unfold zxl at e
 split at e
 ·obtain⟨ds,e1,e⟩:=zh e;cases e;obtain⟨v,rr,rfl,q1,q2⟩:=r1.cons_inv;have q2:=q2.nil_inv;subst q2;obtain⟨p,vs,rfl,hq,rr⟩:=zki R q1 e1;exact zSo U s Y H _ us Q I r ⟨p,vs,rfl,hq,k Z H _ Ext.refl R (by rw[rr.length];exact .int)⟩
 ·cases e
@[simp] def zTv:GL:=λds O=>match ds with
 |[d]=>(items O d).bind λxs=>some (.loc O.length,O++[.lst xs])
 |_=>none
def z4r:tJ X (.type "list") zTv:=by
 refine tJ.of λU s Y H xs us Q I r Z ds O d O' r1 R e k=>?_;unfold zTv at e
 split at e
 ·obtain⟨ds,e1,e⟩:=zh e;cases e;obtain⟨v,rr,rfl,q1,q2⟩:=r1.cons_inv;have q2:=q2.nil_inv;subst q2;obtain⟨p,vs,rfl,hq,rr⟩:=zki R q1 e1;exact zjj U s Y H _ us Q I r ⟨p,vs,rfl,hq,λl hl=>k _ _ _ (Ext.push hl) (R.push hl ⟨vs,zx,rr.ext (Ext.push hl)⟩) (.loc (zwb R))⟩
 ·cases e
@[simp] def zEg:GL:=λds O=>match ds with
 |[.tup xs]=>some (.tup xs,O)
 |[d]=>(items O d).bind λxs=>some (.tup xs,O)
 |_=>none
def zMc:tJ X (.type "tuple") zEg:=by
 refine tJ.of λU s Y H xs us Q I r Z ds O d O' r1 R e k=>?_
 have key:∃x ys,ds=[x]/\items O x=some ys/\d=.tup ys/\O'=O:=by
  unfold zEg at e
  split at e
  ·cases e;exact⟨_,_,rfl,rfl,rfl,rfl⟩
  ·obtain⟨ds,e1,e⟩:=zh e;cases e;exact⟨_,_,rfl,e1,rfl,rfl⟩
  ·cases e
 obtain⟨x,ys,rfl,e1,rfl,rfl⟩:=key;obtain⟨v,rr,rfl,q1,q2⟩:=r1.cons_inv;have q2:=q2.nil_inv;subst q2
 cases x with
 |tup zs=>
  cases e1;obtain⟨a,vs,rfl,e2,q⟩:=q1.tR;exact zTf U s Y H _ us Q I r ⟨a,vs,rfl,.inr ⟨SqT.of e2,k Z H _ Ext.refl R q1⟩⟩
 |fz zs=>
  cases e1;obtain⟨a,vs,rfl,e2,q⟩:=q1.sE;exact zTf U s Y H _ us Q I r ⟨a,vs,rfl,.inl ⟨e2.sq,λl hl=>k Z _ _ (Ext.new hl) (R.Th hl) (.tup zx (q.ext (Ext.new hl)))⟩⟩
 |loc n=>
  unfold items at e1;dsimp only at e1
  split at e1
  ·rename_i h
   cases e1;obtain⟨a,rfl,e2⟩:=q1.tx;obtain⟨vs,e3,q⟩:=R.at_ _ _ _ e2 h;exact zTf U s Y H _ us Q I r ⟨a,vs,rfl,.inl ⟨SqL.of e3,λl hl=>k Z _ _ (Ext.new hl) (R.Th hl) (.tup zx (q.ext (Ext.new hl)))⟩⟩
  ·cases e1
 |_=>cases e1
end
def zGo{prog:yu}{w:yG}{A:yH}{R:Result->yd->Prop}{s:yd}{elt target iter:yB}{ifs:Qz}{scope:xG}{pos:YZ}{it kB:yb}{env:Env}(I:Nat->yd->Prop)
 (turn:∀n s,I n s->yp (yx prog w) A (pyNext it) (λr s₁=>match r with
  |none=>R (.ok .next) s₁
  |some v=>yp (yx prog w) A (letOwnedTupleGo target it v) (λ_ s₁'=>yp (yx prog w) A (assign target env v) (λ_ s₂=>
   yp (yx prog w) A (forIn ifs true λc r=>if r=true then do let ok <-isTrue c env (yV c env);pure (xa ok) else pure (xa r)) (λok s₃=>
    if ok=true then yp (yx prog w) A (yV elt env) (λx s₄=>
     yp (yx prog w) A (call (.builtin "list.append") [kB,x]) (λ_ s₅=>∃m,m<n/\I m s₅) (λ_ _=>False) s₄) (λ_ _=>False) s₃
    else ∃m,m<n/\I m s₃) (λ_ _=>False) s₂) (λ_ _=>False) s₁') (λ_ _=>False) s₁) (λ_ _=>False) s)
 (n:Nat) (h:I n s) :
 Xf (yx prog w) A (.compLoop (.ListComp elt [⟨target,iter,ifs,0⟩] scope pos) 0 it kB env) R s:=by
 refine codeAny_loop rfl I (λn s hI=>?_) n h;show yp _ A ((compTurn (.ListComp elt [⟨target,iter,ifs,0⟩] scope pos) 0 it kB env).onRaise (λx=>do noteFrame x env;theTreesLotGoes x)) _ _ s;refine wpAny_noted ?_;rw[compTurn_list];refine ya (xf (ya (yZ (turn n s hI) (λr s₁ h₁=>?_) λ_ _ h'=>h'.elim)))
 cases r with
 |none=>exact yi h₁
 |some v=>
  refine ya (yZ h₁ (λ_ s₁' h₁=>?_) λ_ _ h'=>h'.elim);refine ya (yZ h₁ (λ_ s₂ h₂=>ya (yZ h₂ (λok s₃ h₃=>?_) λ_ _ h'=>h'.elim)) λ_ _ h'=>h'.elim)
  cases ok with
  |false=>exact yi ⟨rfl,h₃⟩
  |true=>
   exact ya (ya (yZ h₃ (λx s₄ h₄=>ya (yZ h₄ (λ_ s₅ h₅=>yi (yi ⟨rfl,h₅⟩)) λ_ _ h'=>h'.elim)) λ_ _ h'=>h'.elim))
def zUb(cells:Qa):List (yj×xj)->Qa->Qa
 |[],kB=>kB
 |(n,k)::r,kB=>zUb cells r (if k == .free then(match cells.lookup n with|some c=>(n,c)::kB|none=>kB) else kB)
def zaj{env:Env}:∀(names:List (yj×xj)) (kB:Qa),(∀x∈names,x.2=.free->∃c,env.cells.lookup x.1=some c) ->
 (forIn names kB λ(x:yj×xj) (cs:Qa)=>(match x with|(name,kind)=>if kind == .free then do let c <-cellOf env name;pure (xa ((name,c)::cs)) else pure (xa cs):Sem (ForInStep (Qa))))=(pure (zUb env.cells names kB):Sem (Qa))
 |[],kB,_=>rfl
 |(n,k)::r,kB,h=>by
  have ih:=λkB'=>zaj r kB' λx hx=>h x (Nm _ hx);rw[List.forIn_cons]
  by_cases hk:k=.free
  ·subst hk;obtain⟨c,hc⟩:=h (n,.free) Nn rfl;have e:cellOf env n=pure c:=by unfold cellOf;rw[hc]
   have:zUb env.cells ((n,yw)::r) kB=zUb env.cells r ((n,c)::kB):=by
    show zUb env.cells r (if(yw==yw)=true then(match env.cells.lookup n with|some c=>(n,c)::kB|none=>kB) else kB)=_;rw[hc];rfl
   rw[this,<-ih];show((do let c <-cellOf env n;pure (xa ((n,c)::kB))) >>= _:Sem _)=_;rw[e];rfl
  ·have hb:(k==yw)=false:=by simpa using hk
   have:zUb env.cells ((n,k)::r) kB=zUb env.cells r kB:=by
    show zUb env.cells r (if(k==yw)=true then _ else kB)=_;rw[hb];rfl
   rw[this,<-ih];simp only[hb,Bool.false_eq_true,if_false];rfl
def zZi{scope:xG}{env:Env}(h:∀x∈scope.names,x.2=.free->∃c,env.cells.lookup x.1=some c):closureFor scope env=pure (zUb env.cells scope.names []):=by
 have e:=zaj (env:=env) scope.names [] h;unfold closureFor;show(forIn scope.names [] _ >>= λr=>pure r:Sem _)=_;rw[show(forIn scope.names ([]:Qa) λ(x:yj×xj) (r:Qa)=>(match x with|(name,kind)=>if kind == .free then do let c <-cellOf env name;pure (xa ((name,c)::r)) else pure (xa r):Sem (ForInStep (Qa))))=pure (zUb env.cells scope.names []) from e];rfl
def zyn{cells:Qa}{x:yj}{c:yg}:∀(names:List (yj×xj)) (kB:Qa),(zUb cells names kB).lookup x=some c->kB.lookup x=some c\/cells.lookup x=some c
 |[],_,h =>.inl h
 |(n,k)::r,kB,h=>by
  rcases zyn r _ h with q|q
  ·by_cases hk:(k==yw)=true
   ·rw[if_pos hk]at q
    cases e:cells.lookup n with
    |none=>rw[e]at q;exact .inl q
    |some a=>
     rw[e]at q;simp only[Lz]at q
     by_cases hx:(x==n)=true
     ·rw[hx]at q;have hx':x=n:=by simpa using hx
      subst hx';cases q;exact .inr e
     ·have hx':(x==n)=false:=by simpa using hx
      rw[hx']at q;exact .inl q
   ·rw[if_neg hk]at q;exact .inl q
  ·exact .inr q
def z2s{cells:Qa}{x:yj}:∀(names:List (yj×xj)) (kB:Qa),(kB.lookup x).isSome=true->((zUb cells names kB).lookup x).isSome=true
 |[],_,h=>h
 |(n,k)::r,kB,h=>by
  refine z2s r _ ?_
  by_cases hk:(k==yw)=true
  ·rw[if_pos hk]
   cases e:cells.lookup n with
   |none=>exact h
   |some a=>
    simp only[Lz]
    by_cases hx:(x==n)=true
    ·rw[hx];rfl
    ·have hx':(x==n)=false:=by simpa using hx
     rw[hx'];exact h
  ·rw[if_neg hk];exact h
def z2w{cells:Qa}{x:yj}{c:yg}(hc:cells.lookup x=some c):∀(names:List (yj×xj)) (kB:Qa),(x,yw)∈names->((zUb cells names kB).lookup x).isSome=true
 |[],_,h=>by cases h
 |(n,k)::r,kB,h=>by
  rcases List.mem_cons.mp h with h|h
  ·cases h;refine z2s r _ ?_;rw[if_pos (by rfl),hc];simp[Lz]
  ·exact z2w hc r _ h
def cxC(X:Cx)(own:Qx)(fr:Qf)(scope:xG)(cl:Qa)(C:yg)(s₀:yd)(H₀:Hp)(fp:Qv):Cx :=
 {X with N:=own++fr.map λi=>X.N.getD i Xr,s₀:=s₀,H₀:=H₀,env:=compEnvC scope cl C X.env,outer:=X.stack,ex:=fp,fn:=λx=>scope.names.lookup x==some .cell,xe:=λ_ _=>False }
def σC(n:Nat)(fr:Qf)(Y:L2.St):L2.St:=yy n none++fr.map λi=>(Y[i]?).getD none
def zXv(Y Y':L2.St):Prop:=Y'.length=Y.length/\∀(i:Nat) v,Y[i]?=some (some v)->Y'[i]?=some (some v)
def PF(X:Cx)(ifs:Qz)(t:TT):Prop:=∀(U:Qb) (s:yd) (Y:L2.St) (H:Hp) (Q:Bool->Hp->Prop),Inv X U Y H s->t Y H Q ->
 yp (yx X.prog X.w) X.A (forIn ifs true λc r=>if r=true then do let ok <-isTrue c X.env (yV c X.env);pure (xa ok) else pure (xa r)) (TP X U Y Q) X.xe s
def zkx{X:Cx}:PF X [] (λY H Q=>Q true H):=λU s Y H Q I h=>wpAny_tests_nil ⟨H,I,h⟩
def zxz{X:Cx}{c:yB}{t:TT}(h:PT X c t):PF X [c] t:=λU s Y H Q I hw=>wpAny_tests_one (h U s Y H Q I hw)
def tLC(n:Nat)(fr:Qf)(wi:TI)(g:TG)(tc:TT)(te:TE):TE:=λY H Q=>wi Y H λδ H1=>∃W:Nat->Nat->Wi->Hp->Prop,(∃m,W 0 m [] H1)/\∀i m ys H,W i m ys H ->
 (δ.stop i H/\∀p,H p=none->Q (.ref p) (upd H p (.lst ys))) \/
 (δ.go i H/\ys.length<yD/\∀x H',δ.yld i H x H'->g x (σC n fr Y) H' λY2 H2=>zXv (σC n fr Y) Y2/\tc Y2 H2 λb H3=>
  if b=true then te Y2 H3 λy H4=>∃m',m'<m/\W (i+1) m' (ys++[y]) H4 else ∃m',m'<m/\W (i+1) m' ys H3)
section
variable {X:Cx}{own:Qx}{fr:Qf}{scope:xG}{U:Qb}{Y:L2.St}{H:Hp}{s:yd}
def z4e{env:Env}{x:yj}{k:xj}:∀{names:List (yj×xj)},(names.map λ(n,k)=>if(k==yw&&env.scope.kind == .function&&env.kindOf n==some .cell) then(n,yT) else(n,k)).lookup x=some k ->
 (k=.cell\/k=.free)->(x,yw)∈names\/(x,yT)∈names
 |[],h,_=>by simp at h
 |(n,k')::r,h,hk=>by
  rw[Nf]at h
  by_cases hx:x=n
  ·subst hx
   by_cases hb:(k'==yw&&env.scope.kind == .function&&env.kindOf x==some .cell)=true
   ·have:k'=.free:=by
     simp only[yM,beq_iff_eq]at hb;exact hb.1.1
    subst this;exact .inl Nn
   ·have h2:((x,k')::r.map λ(n,k)=>if(k==yw&&env.scope.kind == .function&&env.kindOf n==some .cell) then(n,yT) else(n,k)).lookup x=some k:=by
     have e:(if(k'==yw&&env.scope.kind == .function&&env.kindOf x==some .cell)=true then(x,yT) else(x,k'))=(x,k'):=if_neg hb;rw[<-e];exact h
    simp only[Lz,beq_self_eq_true]at h2;cases h2;rcases hk with rfl|rfl
    ·exact .inr Nn
    ·exact .inl Nn
  ·have hx':(x==n)=false:=by simpa using hx
   have h2:(r.map λ(n,k)=>if(k==yw&&env.scope.kind == .function&&env.kindOf n==some .cell) then(n,yT) else(n,k)).lookup x=some k:=by
    by_cases hb:(k'==yw&&env.scope.kind == .function&&env.kindOf n==some .cell)=true
    ·have e:(if(k'==yw&&env.scope.kind == .function&&env.kindOf n==some .cell)=true then(n,yT) else(n,k'))=(n,yT):=if_pos hb;have h3:((n,yT)::r.map λ(n,k)=>if(k==yw&&env.scope.kind == .function&&env.kindOf n==some .cell) then(n,yT) else(n,k)).lookup x=some k:=by rw[<-e];exact h
     simpa only[Lz,hx'] using h3
    ·have e:(if(k'==yw&&env.scope.kind == .function&&env.kindOf n==some .cell)=true then(n,yT) else(n,k'))=(n,k'):=if_neg hb;have h3:((n,k')::r.map λ(n,k)=>if(k==yw&&env.scope.kind == .function&&env.kindOf n==some .cell) then(n,yT) else(n,k)).lookup x=some k:=by rw[<-e];exact h
     simpa only[Lz,hx'] using h3
   rcases z4e h2 hk with q|q
   ·exact .inl (Nm _ q)
   ·exact .inr (Nm _ q)
def zhj{env:Env}{x:yj}:∀{names:List (yj×xj)},names.lookup x=some .free ->
 (names.map λ(n,k)=>if(k==yw&&env.scope.kind == .function&&env.kindOf n==some .cell) then(n,yT) else(n,k)).lookup x=some .cell \/
 (names.map λ(n,k)=>if(k==yw&&env.scope.kind == .function&&env.kindOf n==some .cell) then(n,yT) else(n,k)).lookup x=some .free
 |[],h=>by simp at h
 |(n,k')::r,h=>by
  rw[Nf]
  by_cases hx:x=n
  ·subst hx;simp only[Lz,beq_self_eq_true]at h;cases h
   by_cases hb:(yw==yw&&env.scope.kind == .function&&env.kindOf x==some .cell)=true
   ·have e:(if(yw==yw&&env.scope.kind == .function&&env.kindOf x==some .cell)=true then(x,yT) else(x,yw))=(x,yT):=if_pos hb
    left
    show YD x ((if(yw==yw&&env.scope.kind == .function&&env.kindOf x==some .cell)=true then(x,yT) else(x,yw))::_)=_;rw[e];simp[Lz]
   ·have e:(if(yw==yw&&env.scope.kind == .function&&env.kindOf x==some .cell)=true then(x,yT) else(x,yw))=(x,yw):=if_neg hb
    right
    show YD x ((if(yw==yw&&env.scope.kind == .function&&env.kindOf x==some .cell)=true then(x,yT) else(x,yw))::_)=_;rw[e];simp[Lz]
  ·have hx':(x==n)=false:=by simpa using hx
   simp only[Lz,hx']at h;have ih:=zhj (env:=env) h
   have step:∀k,(r.map λ(n,k)=>if(k==yw&&env.scope.kind == .function&&env.kindOf n==some .cell) then(n,yT) else(n,k)).lookup x=some k ->
    YD x ((if(k'==yw&&env.scope.kind == .function&&env.kindOf n==some .cell)=true then(n,yT) else(n,k'))::(r.map λ(n,k)=>if(k==yw&&env.scope.kind == .function&&env.kindOf n==some .cell) then(n,yT) else(n,k)))=some k:=λk hk=>by
     by_cases hb:(k'==yw&&env.scope.kind == .function&&env.kindOf n==some .cell)=true
     ·rw[if_pos hb];simpa only[Lz,hx'] using hk
     ·rw[if_neg hb];simpa only[Lz,hx'] using hk
   rcases ih with ih|ih
   ·exact .inl (step _ ih)
   ·exact .inr (step _ ih)
def z9p{b:yg}(I:Inv X U Y H s)(h1:b≠X.env.locals)(h2:b∉X.fs):b∉frs X.stack:=λz=>
 (List.mem_cons.mp (I.sR b z)).elim h1 h2
def σC_get{n:Nat}{i:Nat}{v:V}(h:(σC n fr Y)[i]?=some (some v)):n<=i/\∃j,fr[i-n]?=some j/\Y[j]?=some (some v):=by
 unfold σC at h
 by_cases hi:i<n
 ·rw[yq (by simpa using hi),YM]at h
  split at h<;>cases h
 ·have hi:n<=i:=Xs hi;rw[yS (by simpa using hi),Xb,yk]at h
  cases e:fr[i-n]? with
  |none=>rw[e]at h;cases h
  |some j=>
   rw[e]at h;refine⟨hi,j,rfl,?_⟩;have h':(Y[j]?).getD none=some v:=Yn h
   cases e2:Y[j]? with
   |none=>rw[e2]at h';cases h'
   |some o=>rw[e2]at h';exact congrArg some h'
def z8l:∀(names:List (yj×xj)) (n:Nat) (kB:Qa),Yr n names kB=Yr n names []++kB
 |[],n,kB=>rfl
 |(x,k)::r,n,kB=>by
  unfold Yr
  split
  ·rw[z8l r (n+1) ((x,n)::kB),z8l r (n+1) [(x,n)]];simp
  ·exact z8l r n kB
def zbm:∀(names:List (yj×xj)) (n:Nat) (x:yj) (c:yg),(x,c)∈Yr n names []->n<=c/\(x,yT)∈names
 |[],n,x,c,h=>by cases h
 |(y,k)::r,n,x,c,h=>by
  unfold Yr at h
  split at h
  ·rename_i hk
   rw[z8l]at h;rcases List.mem_append.mp h with h|h
   ·obtain⟨h1,h2⟩:=zbm r (n+1) x c h;exact⟨Nat.le_of_succ_le h1,Nm _ h2⟩
   ·have e:(x,c)=(y,n):=by simpa using h
    cases e;rw[beq_iff_eq.mp hk];exact⟨yo _,Nn⟩
  ·obtain⟨h1,h2⟩:=zbm r n x c h;exact⟨h1,Nm _ h2⟩
def zZp{names:List (yj×xj)}{n:Nat}{kB:Qa}{x:yj}{c:yg}(h:(Yr n names kB).lookup x=some c):(Yr n names []).lookup x=some c\/((Yr n names []).lookup x=none/\kB.lookup x=some c):=by
 rw[z8l,List.lookup_append]at h
 cases e:(Yr n names []).lookup x with
 |none=>rw[e]at h;exact .inr ⟨rfl,h⟩
 |some d=>rw[e]at h;exact .inl h
def zsy{names:List (yj×xj)}{n:Nat}{x:yj}(hn:∀y∈names,names.lookup y.1=some y.2)(h:(x,yw)∈names):(Yr n names []).lookup x=none:=by
 cases e:(Yr n names []).lookup x with
 |none=>rfl
 |some c=>
  have h1:=hn _ (zbm _ _ _ _ (Yd e)).2;have h2:=hn _ h;rw[h1]at h2;cases h2
def zkv{fp:Qv}{D C:yg}{lo:Nat}{h1:yU}{t:Nat}{mC:yj->Option yb}{oD:YH}(I:Inv X U Y H s)(hf:∀b∈fp,z0q X U H b)(hfl:∀b∈fp,b<s.heap.objs.size)
 (hk:scope.kind=.function) (hnm:∀y∈scope.names,scope.names.lookup y.1=some y.2) (kO:∀x∈scope.names,x.2=.free->(X.env.kindOf x.1=some .cell\/X.env.kindOf x.1=some .free))
 (kR:∀i∈fr,∃x,X.N[i]?=some x/\scope.names.lookup x=some .free) (hlo:C<lo) (hOC:CellsOk h1 lo (Yr lo scope.names []))
 (old:∀b o,s.heap.get? b=some o->h1.get? b=some o) (hD:s.heap.objs.size<=D) (hC:s.heap.objs.size<=C) (hDC:D≠C) (hDlo:D<lo) (eD:h1.get? D=some oD) (dD:∀v,oD.data≠.cell v) (nC:h1.Ns C mC) :
 Inv (cxC X own fr scope (Yr lo scope.names (zUb X.env.cells scope.names [])) C s H fp) (U++[(D,oD)]) (σC own.length fr Y) H {s with heap:=h1,toks:=t }:=by
 have cl1:∀x c,(zUb X.env.cells scope.names []).lookup x=some c->X.env.cells.lookup x=some c:=λx c e=>by
  rcases zyn _ _ e with q|q
  ·cases q
  ·exact q
 have clH:∀x,(x,yw)∈scope.names->∃c,(Yr lo scope.names (zUb X.env.cells scope.names [])).lookup x=some c/\X.env.cells.lookup x=some c:=λx hx=>by
  obtain⟨c,hc⟩:=I.ok.has x (kO _ hx rfl);obtain⟨c',hc'⟩:=Option.isSome_iff_exists.mp (z2w hc scope.names [] hx);exact⟨c',by rw[z8l,List.lookup_append,zsy hnm hx];exact hc',cl1 _ _ hc'⟩
 have two:∀x c,(Yr lo scope.names (zUb X.env.cells scope.names [])).lookup x=some c->((Yr lo scope.names []).lookup x=some c/\lo<=c)\/X.env.cells.lookup x=some c:=λx c e=>by
  rcases zZp e with q|⟨_,q⟩
  ·exact .inl ⟨q,(zbm _ _ _ _ (Yd q)).1⟩
  ·exact .inr (cl1 _ _ q)
 have oldc:∀x c,X.env.cells.lookup x=some c->c<s.heap.objs.size:=λx c e=>by
  obtain⟨v,o,ho,_⟩:=I.cell x c e;exact yn ho
 have hslo:s.heap.objs.size<=lo:=yA hC (YI hlo)
 refine⟨⟨I.ok.mod,hk,I.ok.glob,I.ok.blt,hC,λx y c e1 e2=>?inj,λx hx=>?_,λx c hx e=>?cab,I.ok.hd,I.ok.frames,.inl rfl,λb hb=>⟨?_,λx c e=>?exf⟩,I.bs,yA I.ok.bsz I.sz,λb o e hb=>?_,λb hb=>?_,I.stack,I.TM⟩,
  rfl,I.bare,Un.kept old,⟨mC,nC,λi x v h1 h2 h3=>?_⟩,λx c e=>?cell,I.hok.fresh hC,λx c e=>?freeC,λp hp=>?_,I.hok.kept old,?_⟩
 case inj=>
  rcases two x c e1 with ⟨q1,l1⟩|q1
  ·rcases two y c e2 with ⟨q2,_⟩|q2
   ·exact name_of_addr hOC.apart (Yd q1) (Yd q2)
   ·exact absurd (yv (oldc y c q2) (yA hslo l1)) (Yk _)
  ·rcases two y c e2 with ⟨_,l2⟩|q2
   ·exact absurd (yv (oldc x c q1) (yA hslo l2)) (Yk _)
   ·exact I.ok.inj x y c q1 q2
 case cab=>
  have hx:(scope.names.lookup x==some .cell)=true:=hx;obtain⟨d,hd⟩:=Option.isSome_iff_exists.mp (W.cellsFrom_some scope.names lo [] (.inl (beq_iff_eq.mp hx)));rcases zZp (show(Yr lo scope.names (zUb X.env.cells scope.names [])).lookup x=some c from e) with q|⟨q,_⟩
  ·exact yA hslo (zbm _ _ _ _ (Yd q)).1
  ·rw[q]at hd;cases hd
 case exf=>
  rcases two x c e with ⟨_,l⟩|q
  ·exact Yo (yv (hfl b hb) (yA hslo l))
  ·exact(hf b hb).2.2.2.2.1 x c q
 case cell=>
  rcases two x c e with ⟨q,_⟩|q
  ·exact⟨none,(hOC.empty x c (Yd q)).1⟩
  ·obtain⟨v,o,ho,hd⟩:=I.cell x c q;exact⟨v,o,old _ _ ho,hd⟩
 case freeC=>
  rcases two x c e with ⟨_,l⟩|q
  ·exact I.hok.fresh (yA hslo l)
  ·exact I.freeC x c q
 ·have hx':(relabel scope X.env).names.lookup x=some .cell\/(relabel scope X.env).names.lookup x=some .free:=hx
  have hm:(x,yw)∈scope.names\/(x,yT)∈scope.names:=by
   rcases hx' with h|h
   ·exact z4e (env:=X.env) h (.inl rfl)
   ·exact z4e (env:=X.env) h (.inr rfl)
  rcases hm with hm|hm
  ·obtain⟨c,e,_⟩:=clH x hm;exact⟨c,e⟩
  ·exact Option.isSome_iff_exists.mp (W.cellsFrom_some scope.names lo _ (.inl (hnm _ hm)))
 ·exact yC (yv (hfl b hb) hC)
 ·rcases(hf b hb).2.2.2.1 with z|z
  ·exact I.ok.Sy b o e z
  ·exact absurd (yv (yn e) (yA I.ok.bsz z)) (Yk _)
 ·exact z9p I (hf b hb).2.1 (hf b hb).2.2.1
 ·obtain⟨hi,j,e1,e2⟩:=σC_get h2;have hjm:j∈fr:=No e1;obtain⟨y,ey,ly⟩:=kR j hjm
  have hxy:x=y:=by
   have h1':(own++fr.map λi=>X.N.getD i Xr)[i]?=some x:=h1;rw[yS hi,yk,e1]at h1';have h1'':X.N.getD j Xr=x:=Yn h1';rw[Lo,ey]at h1'';exact h1''.symm
  subst hxy;have hm:(x,yw)∈scope.names:=Yd ly
  have hv:Vis X.env.scope x:=by
   rcases kO _ hm rfl with q|q
   ·exact .inr (.inl q)
   ·exact .inr (.inr q)
  obtain⟨m,hn,hl⟩:=id I.loc;obtain⟨u,ru,q⟩:=hl j x v ey e2 hv;obtain⟨c,c1,c2⟩:=clH x hm;refine⟨u,ru,.inr ⟨zhj (env:=X.env) ly,c,c1,?_⟩⟩;rcases q with ⟨k,_⟩|⟨k,c',e',z⟩
  ·rcases kO _ hm rfl with q|q
   ·rw[show X.env.kindOf (x,yw).1=X.env.kindOf x from rfl,k]at q;cases q
   ·rw[show X.env.kindOf (x,yw).1=X.env.kindOf x from rfl,k]at q;cases q
  ·rw[c2]at e';cases e';obtain⟨o,ho,hd⟩:=z;exact⟨o,old _ _ ho,hd⟩
 ·have hp':p∈X.pn++(U++[(D,oD)]):=hp;rw[<-Lf]at hp';rcases List.mem_append.mp hp' with hp'|hp'
  ·obtain⟨a1,a2,a3,a4,a5⟩:=I.pin p hp';exact⟨old _ _ a1,a2,yC (yv (yn a1) hC),z9p I a3 a4,a5⟩
  ·have:p=(D,oD):=by simpa using hp'
   subst this;refine⟨eD,I.hok.fresh hD,hDC,λz=>?_,dD⟩;rcases List.mem_cons.mp (I.sR _ z) with z|z
   ·exact absurd (yv I.lt (z▸hD)) (Yk _)
   ·exact I.nofs hD z
 ·show(σC own.length fr Y).length=(own++fr.map λi=>X.N.getD i Xr).length;unfold σC;simp
end
def HOk.SK{P:yu}{w:yG}{H:Hp}{h:yU}{a:yg}{o:HO}(x:HOk P w H h)(hn:H a=none)(new:tD P w (upd H a o) h a o):HOk P w (upd H a o) h:=λb u e=>by
 by_cases hb:b=a
 ·subst hb;rw[zx]at e;cases e;exact new
 ·rw[zE hb]at e;exact(x b u e).stay (λc v _ q=>q) (λc q=>by rw[zE (zA q hn)];exact q) λc xs q=>by rw[zE (zA q hn)];exact q
def newEnvC{M:Model}{A:yH}{E:yb->yd->Prop}{s:yd}{scope:xG}{globals:yg}{cl:Qa}{qual:yj}{env:Env}{Q:Env->yd->Prop}
 (hQ:Q (newEnv scope s.heap.objs.size globals (Yr (s.heap.objs.size+1) scope.names cl) qual none .none (some env) builtinsNs) {s with heap:=pushCells (s.heap.push {cls:=.type "dict",data:=.dict #[]}) scope.names }) :
 yp M A (newFunctionEnv scope globals cl [] qual none .none (some env)) Q E s:=by
 simp only[newFunctionEnv,Option.isSome_some,if_true];refine ya (wpAny_alloc ?_);refine ya (wpAny_layCells _ (λname kind cells=>by cases hkc:kind==yT<;>simp[hkc]) _ _ _ _ ?_);rw[show({s with heap:=s.heap.push {cls:=.type "dict",data:=.dict #[]}}:yd).heap.objs.size=s.heap.objs.size+1 from YG ..];refine ya ?_;rw[List.forIn_nil];exact yi (yi hQ)
section
variable {X:Cx}{own:Qx}{fr:Qf}{scope:xG}
structure So(X:Cx)(U:Qb)(Y:L2.St)(H:Hp)(ys:Wi)(D C:yg)(s:yd):Prop where
 inv:Inv X U Y (upd H D (.lst ys)) s
 free:H D=none
 freeC:upd H D (.lst ys) C=none
 own:∃m,s.heap.Ns C m
 notL:C≠X.env.locals
 young:X.s₀.heap.objs.size<=C
 sW:∀x c,X.env.cells.lookup x=some c->c≠C
 SL:∀p∈X.pn++U,p.1≠C
def zUq{U:Qb}{Y:L2.St}{tg:yB}{B:It->Nat->Nat->Wi->Hp->(Nat->Nat->Wi->Hp->Prop)->Prop}{itv:yb}{s2:yd}(hc:X.calm=true)
 (h:PIE X U Y tg (λδ H1=>∃W:Nat->Nat->Wi->Hp->Prop,(∃m,W 0 m [] H1)/\∀i m ys H,W i m ys H->B δ i m ys H W) itv s2):PIE X U Y tg (λδ H1=>∃W:Nat->Nat->Wi->Hp->Prop,(∃m,W 0 m [] H1)/\∀i m ys H,W i m ys H->(X.calm=true\/δ.q X.A H)/\B δ i m ys H W) itv s2:=by
 obtain⟨it,fp,tn,δ,H',e,I,T,t0,f,W,w0,wt⟩:=h;exact⟨it,fp,tn,δ,H',e,I,T,t0,f,W,w0,λi m ys H z=>⟨.inl hc,wt i m ys H z⟩⟩
def zFp{elt tg iter:yB}{ifs:Qz}{pos:YZ}{g:TG}{tc:TT}{te:TE}{U:Qb}{Y:L2.St}{s2:yd}{Qn:Wi->Hp->Prop}{itv:yb}{RR:yb->yg->Result->yd->Prop}(own:Qx)(fr:Qf) 
 (hg:∀cl C s₀ H₀ fp,PG (cxC X own fr scope cl C s₀ H₀ fp) tg g) (hq:∀cl C s₀ H₀ fp,PF (cxC X own fr scope cl C s₀ H₀ fp) ifs tc) (he:∀cl C s₀ H₀ fp,PE (cxC X own fr scope cl C s₀ H₀ fp) elt te)
 (hk:scope.kind=.function) (hnm:∀y∈scope.names,scope.names.lookup y.1=some y.2)
 (kO:∀x∈scope.names,x.2=.free->(X.env.kindOf x.1=some .cell\/X.env.kindOf x.1=some .free)) (kR:∀i∈fr,∃x,X.N[i]?=some x/\scope.names.lookup x=some .free)
 (h2:PIE X U Y tg (λδ H1=>∃W:Nat->Nat->Wi->Hp->Prop,(∃m,W 0 m [] H1)/\∀i m ys H,W i m ys H->(X.calm=true\/δ.q X.A H) /\
  ((δ.stop i H∧Qn ys H)∨(δ.go i H∧ys.length<yD∧∀ x H',δ.yld i H x H'→g x (σC own.length fr Y) H' fun Y2 H2=>zXv (σC own.length fr Y) Y2∧tc Y2 H2 fun b H3 =>
    if b=true then te Y2 H3 λy H4=>∃m',m'<m/\W (i+1) m' (ys++[y]) H4 else ∃m',m'<m/\W (i+1) m' ys H3))) itv s2)
 (fin:∀ys H D C s4,Qn ys H->So X U Y H ys D C s4->RR (.ref D) C (.ok .next) s4) :
 yp (yx X.prog X.w) X.A (newList []) (λkB s₃=>yp (yx X.prog X.w) X.A (newFunctionEnv scope X.env.globals (zUb X.env.cells scope.names []) [] X.env.qual none .none (some X.env)) (λcenv s₄=>
  Xf (yx X.prog X.w) X.A (.compStart (.ListComp elt [⟨tg,iter,ifs,0⟩] scope pos) 0 itv kB {cenv with scope:=relabel scope X.env }) (RR kB cenv.locals) s₄) X.xe s₃) X.xe s2:=by
 obtain⟨it,fp,tn,δ,H2,e,I2,T,st2,f2,W,⟨m0,w0⟩,turn⟩:=h2;subst e
 have hfl:∀b∈fp,b<s2.heap.objs.size:=λb hb=>by
  obtain⟨o,e,_⟩:=T.obj _ _ st2 b hb;exact yn e
 refine yX (newEnvC ?_);dsimp only;generalize hH2:s2.heap.push {cls:=.type "list",dict:=none,data:=.seq ([]:List yb).toArray } = φ2;have hC:φ2.objs.size=s2.heap.objs.size+1:=by rw[<-hH2,YG]
 have hDC:s2.heap.objs.size≠φ2.objs.size:=by rw[hC];exact yC (xP _)
 have hCle:s2.heap.objs.size<=φ2.objs.size:=by rw[hC];exact Nat.le_succ _
 have below:∀b,b<s2.heap.objs.size->b≠φ2.objs.size/\b≠s2.heap.objs.size:=λb hb=>⟨by rw[hC];exact yC (xI hb),yC hb⟩
 have hns₁:(pushCells (φ2.push {cls:=.type "dict",data:=.dict #[]}) scope.names).Ns φ2.objs.size (λ_=>none):=(Heap.Ns.new φ2 (.type "dict")).keeps λb o e=>pushCells_keeps _ _ _ _ e
 have hok₁:CellsOk (pushCells (φ2.push {cls:=.type "dict",data:=.dict #[]}) scope.names) (φ2.objs.size+1) (Yr (φ2.objs.size+1) scope.names []):=by
  have:=cellsFrom_ok scope.names (φ2.push {cls:=.type "dict",data:=.dict #[]}) (φ2.objs.size+1) [] ⟨λ_ _ hm=>(nomatch hm),List.Pairwise.nil⟩ (by rw[YG];exact yo _);rw[YG]at this;exact this
 have hk₁:∀b o,φ2.get? b=some o->(pushCells (φ2.push {cls:=.type "dict",data:=.dict #[]}) scope.names).get? b=some o:=λb o e=>pushCells_keeps _ _ _ _ (ye _ e);generalize pushCells (φ2.push {cls:=.type "dict",data:=.dict #[]}) scope.names=h₁ at hns₁ hok₁ hk₁ ⊢;have old:∀b o,s2.heap.get? b=some o->h₁.get? b=some o:=λb o e=>hk₁ b o (hH2▸ye _ e);have hacc:h₁.get? s2.heap.objs.size=some {cls:=.type "list",data:=.seq ([]:List yb).toArray 0 }:=hk₁ _ _ (hH2▸yr _ rfl);generalize hXC:cxC X own fr scope (Yr (φ2.objs.size+1) scope.names (zUb X.env.cells scope.names [])) φ2.objs.size s2 H2 fp=XC;have eenv:compEnvC scope (Yr (φ2.objs.size+1) scope.names (zUb X.env.cells scope.names [])) φ2.objs.size X.env=XC.env:=by rw[<-hXC];rfl
 have eprog:XC.prog=X.prog:=by rw[<-hXC];rfl
 have ew:XC.w=X.w:=by rw[<-hXC];rfl
 have eA:XC.A=X.A:=by rw[<-hXC];rfl
 have eK:XC.K=X.K:=by rw[<-hXC];rfl
 have exe:XC.xe=λ_ _=>False:=by rw[<-hXC];rfl
 have eloc:XC.env.locals=φ2.objs.size:=by rw[<-hXC];rfl
 have eex:XC.ex=fp:=by rw[<-hXC];rfl
 have efs:XC.fs=frs X.stack:=by rw[<-hXC];rfl
 have es0:XC.s₀=s2:=by rw[<-hXC];rfl
 have eH0:XC.H₀=H2:=by rw[<-hXC];rfl
 have epn:XC.pn=X.pn:=by rw[<-hXC];rfl
 have ecells:∀x c,XC.env.cells.lookup x=some c->X.env.cells.lookup x=some c\/φ2.objs.size<c:=λx c e=>by
  rw[<-hXC]at e;rcases zZp (show(Yr (φ2.objs.size+1) scope.names (zUb X.env.cells scope.names [])).lookup x=some c from e) with q|⟨_,q⟩
  ·exact .inr (zbm _ _ _ _ (Yd q)).1
  ·rcases zyn _ _ q with q|q
   ·cases q
   ·exact .inl q
 have hg':PG XC tg g:=hXC▸hg _ _ _ _ _;have hq':PF XC ifs tc:=hXC▸hq _ _ _ _ _;have he':PE XC elt te:=hXC▸he _ _ _ _ _
 have fpok:∀{H':Hp} {pl:Qb},(∀b∈fp,H' b=none)->(∀p∈pl,p.1=s2.heap.objs.size)->∀b∈fp,z0q XC (U++pl) H' b:=λ{H' pl} hn kM b hb=>by
  obtain⟨_,f2,f3,f4,f5,f6⟩:=f2 b hb;refine⟨hn b hb,by rw[eloc];exact(below b (hfl b hb)).1,by rw[efs];exact z9p I2 f2 f3,.inl (by rw[eex];exact hb),λx c e=>?c5,λp hp=>?_⟩
  case c5=>
   rcases ecells x c e with q|q
   ·exact f5 x c q
   ·exact Yo (yv (hfl b hb) (yA hCle (YI q)))
  rw[epn,<-Lf]at hp;rcases List.mem_append.mp hp with hp|hp
  ·exact f6 p hp
  ·rw[kM p hp];exact Yi (below b (hfl b hb)).2
 have loop:∀s₃:yd,s₃ = {s2 with heap:=h₁ } ->
  Xf (yx X.prog X.w) X.A (.compLoop (.ListComp elt [⟨tg,iter,ifs,0⟩] scope pos) 0 (.ref it) (.ref s2.heap.objs.size) (compEnvC scope (Yr (φ2.objs.size+1) scope.names (zUb X.env.cells scope.names [])) φ2.objs.size X.env))
   (RR (.ref s2.heap.objs.size) φ2.objs.size) s₃:=by
  rintro s₃ rfl;have I0:=zkv (own:=own) (fr:=fr) (t:=s2.toks) (lo:=φ2.objs.size+1) I2 f2 hfl hk hnm kO kR (xP _) hok₁ old (yo _) hCle hDC (Nat.lt_succ_of_le hCle) hacc (by intro v z;cases z) hns₁;rw[hXC]at I0
  refine zGo (λn s'=>∃(i:Nat)(ys:Wi)(hW:Array yb)(k:Nat)(H':Hp),Inv XC (U++[(s2.heap.objs.size,({cls:=.type "list",data:=.seq hW k }:YH))]) (σC own.length fr Y) H' s'/\Vals ys hW.toList/\ys.length<=yD/\tn i s'.heap/\(∀b∈fp,H' b=none)/\W i n ys H') ?_ m0
   ⟨0,[],#[],0,H2,I0,.nil,Ys _,T.keep _ _ _ st2 (λb hb o e=>old b o e),λb hb=>(f2 b hb).1,w0⟩
  rintro n s3 ⟨i,ys,hW,kk,H3,I3,rv,hz,st3,fr3,w3⟩
  have pl1:∀p∈[(s2.heap.objs.size,({cls:=.type "list",data:=.seq hW kk }:YH))],p.1=s2.heap.objs.size:=λp hp=>by
   rw[List.mem_singleton.mp hp]
  obtain⟨cal,tt⟩:=turn i n ys H3 w3;have ecalm:XC.calm=true\/δ.q XC.A H3:=by rw[<-hXC];exact cal
  rcases tt with ⟨stop,qn⟩|⟨go,kJ,step⟩
  ·have td:=T.done XC eprog ew eK i _ s3 _ H3 (λ_ _=>False) ecalm I3 (fpok fr3 pl1) st3 stop;rw[eA]at td;refine thn td λr s4 ⟨hr,I4⟩=>?_;subst hr;obtain⟨m,hn,_⟩:=id I4.loc;rw[eloc]at hn;obtain⟨p1,p2,p3,p4,p5⟩:=I4.pin (s2.heap.objs.size,_) (Nj _ (Nj _ Nn));have hnC:H3 φ2.objs.size=none:=by have:=I4.free;rw[eloc]at this;exact this
   have hokf:HOk X.prog X.w (upd H3 s2.heap.objs.size (.lst ys)) s4.heap:=by
    refine HOk.SK (by have:=I4.hok;rw[eprog,ew]at this;exact this) p2 ⟨hz,hW.toList,kk,rv,by simpa using p1⟩
   have u0:Un (frs X.stack) fp H2 H3 s2.heap s4.heap:=by
    have:=I4.base;rw[efs,eex,es0,eH0]at this;exact this
   have u1:Un (frs X.stack) fp H2 (upd H3 s2.heap.objs.size (.lst ys)) s2.heap s4.heap:=by
    have bd:∀b o,s2.heap.get? b=some o->b≠s2.heap.objs.size:=λb o e=>(below b (yn e)).2;refine⟨u0.keep,u0.slot,λb o e n hx=>by rw[zE (bd b o e)];exact u0.free b o e n hx,u0.there,λb xs e=>?_,λb o u e=>?_,λb ps e=>?_⟩
    ·have q:=u0.tups b xs e;rw[zE (zA q p2)];exact q
    ·have q:=u0.TL b o u e;rw[zE (zA q p2)];exact q
    ·obtain⟨more,q⟩:=u0.TR b ps e;exact⟨more,by rw[zE (zA q p2)];exact q⟩
   have os4:s4.os=s2.os:=by have:=I4.os;rw[es0]at this;exact this
   have IF:Inv X U Y (upd H3 s2.heap.objs.size (.lst ys)) {s2 with heap:=s4.heap,gens:=s4.gens,drawn:=s4.drawn,toks:=s4.toks } :=
    I2.call (h':=s4.heap) (ch:=fp) u1 hokf I4.bare λb hb=>by
     obtain⟨_,f2,f3,f4,f5,f6⟩:=f2 b hb;exact⟨f4,f2,f5,f6⟩
   have es:s4 = {s2 with heap:=s4.heap,gens:=s4.gens,drawn:=s4.drawn,toks:=s4.toks }:=by
    obtain⟨a1,a2,a3,a4,a5⟩:=s4;have:a5=s2.os:=os4;subst this;rfl
   rw[<-es]at IF;refine fin ys H3 _ _ s4 qn ⟨IF,p2,by rw[zE (Yi hDC)];exact hnC,⟨m,hn⟩,Yi (below _ I2.lt).1,yA I2.sz hCle,λx c e=>?_,λp hp=>?_⟩
   ·obtain⟨v,o,ho,_⟩:=I2.cell x c e;exact(below c (yn ho)).1
   ·exact(below p.1 (yn (I2.pin p hp).1)).1
  ·have td:=T.item XC eprog ew eK i _ s3 _ H3 (λ_ _=>False) ecalm I3 (fpok fr3 pl1) st3 go;rw[eA]at td;refine thn td λr s4 ⟨u,hr,h4⟩=>?_;subst hr;refine thn h4 λ_ s5 ⟨x,H5,I5,r5,y5,st5,fr5⟩=>?_;have I5':=I5.pinned (fpok fr5 pl1) (T.obj _ _ st5);have hgw:=hg' _ s5 _ H5 x u _ I5' r5 (step x H5 y5);rw[exe,eprog,ew,eA]at hgw;rw[eenv];refine thn hgw λ_ s6 ⟨Y6,H6,I6,⟨hsl,kX⟩,q6⟩=>?_;have hqw:=hq' _ s6 Y6 H6 _ I6 q6;rw[exe,eprog,ew,eA]at hqw;refine thn hqw λok s7 ⟨H7,I7,q7⟩=>?_
   have back:∀{H8:Hp} {s8:yd},Inv XC (U++[(s2.heap.objs.size,({cls:=.type "list",data:=.seq hW kk }:YH))]++zQn fp s5.heap) Y6 H8 s8 ->
    Inv XC (U++[(s2.heap.objs.size,({cls:=.type "list",data:=.seq hW kk }:YH))]) (σC own.length fr Y) H8 s8/\tn (i+1) s8.heap/\∀b∈fp,H8 b=none:=λ{H8 s8} I8=>by
    refine⟨I8.TU.weak hsl.symm kX,T.keep _ _ _ st5 λb hb o e=>(I8.pin (b,o) (Nj _ (Nj _ (zXg hb e)))).1,λb hb=>?_⟩;obtain⟨o,e,d⟩:=T.obj _ _ st5 b hb;exact(I8.pin (b,o) (Nj _ (Nj _ (zXg hb e)))).2.1
   cases ok with
   |false=>
    have q7':∃m',m'<n/\W (i+1) m' ys H7:=by simpa using q7
    rw[if_neg yF];obtain⟨m',hm,w7⟩:=q7';obtain⟨δ1,δ2,δ3⟩:=back I7;exact⟨m',hm,i+1,ys,hW,kk,H7,δ1,rv,hz,δ2,δ3,w7⟩
   |true=>
    rw[if_pos rfl]at q7 ⊢;have hew:=he' _ s7 Y6 H7 _ I7 q7;rw[exe,eprog,ew,eA]at hew;refine thn hew λy s8 ⟨vy,H8,I8,r8,m',hm,w8⟩=>?_;obtain⟨δ1,δ2,δ3⟩:=back I8;obtain⟨p1,p2,p3,p4,p5⟩:=δ1.pin (s2.heap.objs.size,_) (Nj _ (Nj _ Nn));have hil:hW.size=ys.length:=by rw[rv.length];simp
    refine append_at (hsz:=by rw[hil];exact hz) p1 λh9 sb9 e9=>?_;have Df:s2.heap.objs.size∉fp:=λz=>absurd (hfl _ z) (Yk _);have δ0:Inv XC U (σC own.length fr Y) H8 s8:=δ1.TU
    have δ9:Inv XC U (σC own.length fr Y) H8 {s8 with heap:=h9 }:=by
     refine δ0.turned (t':=s8.toks) (it:=s2.heap.objs.size) (λb o hb e=>(sb9.2 b hb).trans e) p2 p3 (.inr (by rw[es0];exact yo _)) (λx c e z=>?_) (λp hp z=>?_)
     ·rcases ecells x c e with q|q
      ·obtain⟨v,o,ho,_⟩:=I2.cell x c q;exact(below c (yn ho)).2 z
      ·exact Yo (Nat.lt_of_le_of_lt hCle q) z
     ·rw[epn]at hp;exact(below p.1 (yn (I2.pin p hp).1)).2 z
    refine⟨m',hm,i+1,ys++[vy],hW.push y,kk+1,H8,δ9.sS λp hp=>?_,?_,by simp;exact kJ,T.keep _ _ _ δ2 (λb hb o e=>(sb9.2 b (λz=>Df (z▸hb))).trans e),δ3,w8⟩
    ·rcases List.mem_append.mp hp with hp|hp
     ·exact δ9.pin p (Nj _ hp)
     ·have e:=List.mem_singleton.mp hp;subst e;exact⟨e9,p2,p3,p4,by intro v z;cases z⟩
    ·rw[Array.toList_push];exact rv.append (.cons r8 .nil)
 exact codeAny_compStart_list (loop _ rfl) (T.self X.A 0 _ _ _ (T.keep _ _ _ st2 λb hb o e=>old b o e) (loop _ rfl))
def So.gone{U:Qb}{Y:L2.St}{H:Hp}{ys:Wi}{D C:yg}{s:yd}(w:So X U Y H ys D C s){h':yU}(sb:Yz C s.heap h'):Inv X U Y (upd H D (.lst ys)) {s with heap:=h' } :=
 w.inv.turned (t':=s.toks) (λb o hb e=>(sb.2 b hb).trans e) w.freeC (Yi (Yi w.notL)) (.inr w.young) w.sW w.SL
def zBB{elt tg iter:yB}{ifs:Qz}{pos:YZ}{wi:TI}{g:TG}{tc:TT}{te:TE}(own:Qx)(fr:Qf)(hc:X.calm=true)(hi:PI X tg iter wi)
 (hg:∀cl C s₀ H₀ fp,PG (cxC X own fr scope cl C s₀ H₀ fp) tg g) (hq:∀cl C s₀ H₀ fp,PF (cxC X own fr scope cl C s₀ H₀ fp) ifs tc) (he:∀cl C s₀ H₀ fp,PE (cxC X own fr scope cl C s₀ H₀ fp) elt te)
 (hk:scope.kind=.function) (hnm:∀y∈scope.names,scope.names.lookup y.1=some y.2)
 (kO:∀x∈scope.names,x.2=.free->(X.env.kindOf x.1=some .cell\/X.env.kindOf x.1=some .free)) (kR:∀i∈fr,∃x,X.N[i]?=some x/\scope.names.lookup x=some .free)
 (hs:∀x,Yu iter X.env x=pure x:=by intro _;rfl):PE X (.ListComp elt [⟨tg,iter,ifs,0⟩] scope pos) (tLC own.length fr wi g tc te):=by
 intro U s Y H Q I h;rw[eval_ListComp];have hclos:closureFor scope X.env=pure (zUb X.env.cells scope.names []):=zZi λx hx e=>I.ok.has x.1 (kO x hx e);refine wpAny_comprehension_free (use:=none) rfl hs hclos hk (λx hx e=>by rw[hnm x hx,e]) ?_;show yp _ _ (yV iter X.env) _ _ s;refine thn (hi U s Y H _ I h) λv s1 h1=>thn h1 λitv s2 h2=>?_;refine zFp (RR:=λkB C=>compPost (yx X.prog X.w) X.A X.xe none (EP X U Y Q) kB C) own fr hg hq he hk hnm kO kR (zUq hc h2) λys H3 D C s4 q w=>?_;obtain⟨m,hn⟩:=w.own;exact⟨m,hn,λh' sb=>⟨.ref D,_,w.gone sb,rfl,q D w.free⟩⟩
def z6v{elt tg iter:yB}{ifs:Qz}{pos spos py:YZ}{wi:TI}{g:TG}{tc:TT}{te:TE}{y:yj}{i:Nat}(own:Qx)(fr:Qf)(hN:X.N.Nodup)(hiN:X.N[i]?=some y)(hy:X.env.scope.names.lookup y=some .local)(hc:X.calm=true)(hi:PI X tg iter wi)
 (hsw:xD (.ListComp elt [⟨tg,iter,ifs,0⟩] scope pos) (some (.Name y py)) spos.line X.env=pure true)
 (hg:∀cl C s₀ H₀ fp,PG (cxC X own fr scope cl C s₀ H₀ fp) tg g) (hq:∀cl C s₀ H₀ fp,PF (cxC X own fr scope cl C s₀ H₀ fp) ifs tc) (he:∀cl C s₀ H₀ fp,PE (cxC X own fr scope cl C s₀ H₀ fp) elt te)
 (hk:scope.kind=.function) (hnm:∀y∈scope.names,scope.names.lookup y.1=some y.2)
 (kO:∀x∈scope.names,x.2=.free->(X.env.kindOf x.1=some .cell\/X.env.kindOf x.1=some .free)) (kR:∀i∈fr,∃x,X.N[i]?=some x/\scope.names.lookup x=some .free)
 (hs:∀x,Yu iter X.env x=pure x:=by intro _;rfl):PS X (.Assign [.Name y py] (.ListComp elt [⟨tg,iter,ifs,0⟩] scope pos) spos) (ztB (tLC own.length fr wi g tc te) (zew i)):=by
 intro U s Y H E I h;rw[exec_Assign_Name_used _ _ _ _ hsw];refine ya (xf (ya ?_));have hclos:closureFor scope X.env=pure (zUb X.env.cells scope.names []):=zZi λx hx e=>I.ok.has x.1 (kO x hx e);show yp _ X.A (do let _ <-comprehension (.ListComp elt [⟨tg,iter,ifs,0⟩] scope pos) scope X.env _ (newList []) false (yV iter X.env) (some (assign (.Name y py) X.env))) _ _ s;refine ya (yZ (wpAny_comprehension_free (use:=some (assign (.Name y py) X.env)) (Q:=λ_ s'=>SP X U E .next s') rfl hs hclos hk (λx hx e=>by rw[hnm x hx,e]) ?_) (λ_ s' hq=>yi (yi hq)) λ_ _ e=>e);show yp _ _ (yV iter X.env) _ _ s;refine thn (hi U s Y H _ I h) λv s1 h1=>thn h1 λitv s2 h2=>?_;refine zFp (RR:=λkB C=>compPost (yx X.prog X.w) X.A X.xe (some (assign (.Name y py) X.env)) (λ_ s'=>SP X U E .next s') kB C) own fr hg hq he hk hnm kO kR (zUq hc h2) λys H3 D C s4 q w=>?_;show yp _ X.A (assign (.Name y py) X.env (.ref D)) _ _ s4;obtain⟨m,hn⟩:=w.own;refine wpAny_assign_Name (zXn (v:=V.ref D) w.inv hN hiN (.inl hy) rfl (λs5 I5 ⟨a,sb,ha⟩=>?_) (.inr hy))
 have haC:C≠a:=by
  rcases ha with e|e
  ·rw[e];exact w.notL
  ·exact Yi (w.sW y a e)
 refine⟨m,hn.sameBut sb haC,λh' sb'=>?_⟩;refine⟨_,_,I5.turned (t':=s5.toks) (λb o hb e=>(sb'.2 b hb).trans e) w.freeC w.notL (.inr w.young) w.sW w.SL,q D w.free⟩
variable {K:yt}{Z Z1:Qv}{H H1:Hp}
def sx.ext{W:XK}{E:Ends}{o:Out}(h:sx K W Z H E o)(x:Ext Z H Z1 H1):sx K W Z1 H1 E o:=by
 cases o with
 |next J O=>exact λZ' Y' H' x' A=>h Z' Y' H' (x.trans x') A
 |brk J O=>exact λZ' Y' H' x' A=>h Z' Y' H' (x.trans x') A
 |cont J O=>exact λZ' Y' H' x' A=>h Z' Y' H' (x.trans x') A
 |ret d O=>exact λZ' v H' x' R r=>h Z' v H' (x.trans x') R r
 |exc c fs O=>exact λZ' H' C dx hc x' R r=>h Z' H' C dx hc (x.trans x') R r
def At.set{Y:L2.St}{J:Loc}{O:Mem}{d:D}{v:V}(A:At K Z H Y J O)(r:tq K Z H d v)(i:Nat):At K Z H (Y.set i (some v)) (J.set i (some d)) O:=by
 refine⟨λj d' e=>?_,A.hp,by simp[A.len]⟩
 by_cases hj:j=i
 ·subst hj
  have hl:j<J.length:=by
   have:=(List.getElem?_eq_some_iff.mp e).1;simpa using this
  rw[yO hl]at e;cases e;exact⟨v,by rw[yO (by rw[A.len];exact hl)],r⟩
 ·rw[yQ (Yi hj)]at e;obtain⟨u,e1,q⟩:=A.st j d' e;exact⟨u,by rw[yQ (Yi hj)];exact e1,q⟩
variable {a b c e:yB}{es:Qz}{G ψ χ:FE}{pos:YZ}{st:yR}{rest:Wc}
@[simp] def z1b:FS:=λJ O=>some (.next J O)
@[simp] def zfb(p q:FS):FS:=λJ O=>match p J O with
 |some (.next J' O')=>q J' O'
 |o=>o
def z6:MSs X [] z1b:=z7w ztx λZ J O Y H o E A e k=>by
 cases e;exact k Z Y H Ext.refl A
def zn{p:FS}(h:MS X st p):MSs X [st] p:=zen h
def zj{p q:FS}(h1:MS X st p)(h2:MSs X rest q):MSs X (st::rest) (zfb p q) :=
 z7w (zHq h1 h2) λZ J O Y H o E A e k=>by
  unfold zfb at e;show tMS X.K (zGl X) p {E with nx:=tMS X.K (zGl X) q E } Y H
  cases ep:p J O with
  |none=>rw[ep]at e;cases e
  |some op=>
   rw[ep]at e;refine⟨Z,J,O,op,A,ep,?_⟩
   cases op with
   |next J' O'=>exact λZ' Y' H' x' A'=>⟨Z',J',O',o,A',e,k.ext x'⟩
   |brk J' O'=>cases e;exact k
   |cont J' O'=>cases e;exact k
   |ret d O'=>cases e;exact k
   |exc C fs O'=>cases e;exact k
@[simp] def zbc(G:FE):FS:=λJ O=>(G J O).bind λp=>some (.ret p.1 p.2)
def zF(h:ME X e G):MS X (.Return (some e) pos) (zbc G):=zXk (zTu h) λZ J O Y H o E A e k=>by
 obtain⟨⟨x,O1⟩,e1,e⟩:=zh e;cases e;exact⟨Z,J,O,x,O1,A,e1,λZ' H' v x' R r=>k Z' v H' x' R r⟩
@[simp] def zcp(G:FE):FS:=λJ O=>(G J O).bind λp=>some (.next J p.2)
def zCn(h:ME X e G)(hs:xD e none pos.line X.env=pure false:=by rfl):MS X (.Expr e pos) (zcp G):=zXk (ziu h hs) λZ J O Y H o E A e k=>by
 obtain⟨⟨x,O1⟩,e1,e⟩:=zh e;cases e;exact⟨Z,J,O,x,O1,A,e1,λZ' H' v x' R r=>k Z' Y H' x' (A.ext x' R)⟩
@[simp] def z6c(i:Nat)(G:FE):FS:=λJ O=>(G J O).bind λp=>some (.next (J.set i (some p.1)) p.2)
def zT{x:yj}{pos':YZ}(i:Nat)(he:ME X e G)(hN:X.N.Nodup:=by first|assumption|decide)(hi:X.N[i]?=some x:=by rfl)(hx:L2.Loc X.env.scope x:=by first|exact Or.inl rfl|exact Or.inr rfl)(hs:xD e (some (.Name x pos')) pos.line X.env=pure false:=by rfl)
 (hf:X.fn x=true\/X.env.scope.names.lookup x=some .local:=by first|exact .inl rfl|exact .inr rfl|assumption):MS X (.Assign [.Name x pos'] e pos) (z6c i G):=zXk (zRz hN hi hx he hs hf) λZ J O Y H o E A e k=>by
 obtain⟨⟨x,O1⟩,e1,e⟩:=zh e;cases e;exact⟨Z,J,O,x,O1,A,e1,λZ' H' v x' R r=>k Z' _ H' x' ((A.ext x' R).set r i)⟩
@[simp] def sIf(c:FT)(p q:FS):FS:=λJ O=>(c J O).bind λt=>bif t.1 then p J t.2 else q J t.2
def z8b{s1 s2:Wc}{t:FT}{p q:FS}(hc:MT X c t)(h1:MSs X s1 p)(h2:MSs X s2 q):MS X (.If c s1 s2 pos) (sIf t p q):=zXk (z0B hc h1 h2) λZ J O Y H o E A e k=>by
 obtain⟨⟨x,O1⟩,e1,e⟩:=zh e;refine⟨Z,J,O,x,O1,A,e1,λZ' H' x' R=>?_⟩
 cases x with
 |true=>exact Sg ⟨Z',J,O1,o,A.ext x' R,e,k.ext x'⟩
 |false=>exact Sf ⟨Z',J,O1,o,A.ext x' R,e,k.ext x'⟩
def zig:FS:=λ_ _=>none
def z8c:MS X st zig:=zXk zyv λ_ _ _ _ _ _ _ _ e _=>by cases e
abbrev FG:=D->Loc->Mem->Option (Loc×Mem)
abbrev FGs:=Wm->Loc->Mem->Option (Loc×Mem)
def tMG(K:yt)(g:FG):TG:=λv Y H Q=>∃Z J O d J' O',At K Z H Y J O/\tq K Z H d v/\g d J O=some (J',O')/\∀Z' Y' H',Ext Z H Z' H'->At K Z' H' Y' J' O'->Q Y' H'
def zFC(K:yt)(g:FGs):TGs:=λvs Y H Q=>∃Z J O ds J' O',At K Z H Y J O/\tf K Z H ds vs/\g ds J O=some (J',O')/\∀Z' Y' H',Ext Z H Z' H'->At K Z' H' Y' J' O'->Q Y' H'
def MG(X:Cx)(t:yB)(g:FG):Prop:=PG X t (tMG X.K g)
def MGs(X:Cx)(t:Qz)(g:FGs):Prop:=PGs X t (zFC X.K g)
def mg_of{t:yB}{tt:TG}{g:FG}(h:PG X t tt)(w:∀Z J O d J' O' v Y H Q,At X.K Z H Y J O->tq X.K Z H d v->g d J O=some (J',O')->(∀Z' Y' H',Ext Z H Z' H'->At X.K Z' H' Y' J' O'->Q Y' H')->tt v Y H Q):MG X t g :=
 by intro U s Y H v u Q I r hh;obtain⟨Z,J,O,d,J',O',A,q,e,k⟩:=hh;exact h U s Y H v u Q I r (w Z J O d J' O' v Y H Q A q e k)
def zNw{t:Qz}{tt:TGs}{g:FGs}(h:PGs X t tt)(w:∀Z J O d J' O' v Y H Q,At X.K Z H Y J O->tf X.K Z H d v->g d J O=some (J',O')->(∀Z' Y' H',Ext Z H Z' H'->At X.K Z' H' Y' J' O'->Q Y' H')->tt v Y H Q):MGs X t g :=
 by intro U s Y H v u Q I r hh;obtain⟨Z,J,O,d,J',O',A,q,e,k⟩:=hh;exact h U s Y H v u Q I r (w Z J O d J' O' v Y H Q A q e k)
@[simp] def gN(i:Nat):FG:=λd J O=>some (J.set i (some d),O)
def zwc{x:yj}(i:Nat)(hN:X.N.Nodup:=by first|assumption|decide)(hi:X.N[i]?=some x:=by rfl)(hx:L2.Loc X.env.scope x:=by first|exact Or.inl rfl|exact Or.inr rfl)(hf:X.fn x=true\/X.env.scope.names.lookup x=some .local:=by first|exact .inl rfl|exact .inr rfl|assumption):MG X (.Name x pos) (gN i) :=
 mg_of (z6o hN hi hx hf) λZ J O d J' O' v Y H Q A q e k=>by
  cases e;exact k Z _ H Ext.refl (A.set q i)
@[simp] def zVi:FGs:=λds J O=>match ds with
 |[]=>some (J,O)
 |_=>none
@[simp] def zDc(g:FG)(gs:FGs):FGs:=λds J O=>match ds with
 |d::r=>(g d J O).bind λp=>gs r p.1 p.2
 |_=>none
def zRm:MGs X [] zVi:=zNw zXs λZ J O ds J' O' vs Y H Q A q e k=>by
 unfold zVi at e
 split at e
 ·cases e;exact⟨q.nil_inv,k Z Y H Ext.refl A⟩
 ·cases e
def zRe{g:FG}{gs:FGs}(h1:MG X e g)(h2:MGs X es gs)(hs:(YT (e::es) X.env).map (·.2)=assign e X.env::(YT es X.env).map (·.2):=by rfl):MGs X (e::es) (zDc g gs) :=
 zNw (zTq h1 h2 hs) λZ J O ds J' O' vs Y H Q A q e k=>by
  unfold zDc at e
  split at e
  ·obtain⟨⟨J1,O1⟩,e1,e⟩:=zh e;obtain⟨v,r,rfl,q1,q2⟩:=q.cons_inv;refine⟨v,r,rfl,Z,J,O,_,J1,O1,A,q1,e1,λZ1 Y1 H1 x1 A1=>?_⟩;exact⟨Z1,J1,O1,_,J',O',A1,q2.ext x1,e,λZ2 Y2 H2 x2 A2=>k Z2 Y2 H2 (x1.trans x2) A2⟩
  ·cases e
@[simp] def gT(n:Nat)(gs:FGs):FG:=λd J O=>match d with
 |.tup ds=>bif ds.length==n then gs ds J O else none
 |_=>none
def ztq{k n:Nat}{gs:FGs}(h:MGs X es gs)(hc:X.calm=true:=by rfl)(hn:(YT es X.env).length=n:=by rfl)(kT:(YT es X.env).findIdx? (·.1)=none:=by rfl):MG X (.Tuple es k pos) (gT n gs) :=
 mg_of (zox hc h hn kT) λZ J O d J' O' v Y H Q A q e k=>by
  unfold gT at e
  split at e
  ·obtain⟨h1,e⟩:=zJ e;obtain⟨a,vs,rfl,e2,q2⟩:=q.tR;exact⟨a,vs,rfl,SqT.of e2,by rw[<-q2.length];exact beq_iff_eq.mp h1,Z,J,O,_,J',O',A,q2,e,k⟩
  ·cases e
@[simp] def gAt(G ψ:FE):FG:=λd J O=>(G J O).bind λp=>(ψ J p.2).bind λq=>match p.1,q.1 with
 |.loc n,.int i=>match q.2[n]? with
  |some (.lst ds)=>(ixN ds.length i).bind λj=>some (J,q.2.set n (.lst (ds.set j d)))
  |_=>none
 |_,_=>none
def z3y{o i:yB}(ho:ME X o G)(hi:ME X i ψ)(ha:∀v,assign (.Subscript o i pos) X.env v=(do
 let ov <-xO [v] (yV o X.env)
 let iv <-xO [v,ov] (yV i X.env)
 standAt pos
 xO [v,ov,iv] (setItem ov iv v)
 release [v,ov,iv] []):=by intro _;rfl):MG X (.Subscript o i pos) (gAt G ψ) :=
 mg_of (z3w ho hi zvw ha) λZ J O d J' O' v Y H Q A q e k=>by
  obtain⟨⟨x,O1⟩,e1,e⟩:=zh e;obtain⟨⟨y,O2⟩,e2,e⟩:=zh e;refine⟨Z,J,O,x,O1,A,e1,λZ1 H1 v1 x1 R1 r1=>?_⟩;refine⟨Z1,J,O1,y,O2,A.ext x1 R1,e2,λZ2 H2 v2 x2 R2 r2=>?_⟩;dsimp only at e
  split at e
  ·split at e
   ·rename_i hm
    obtain⟨j,e3,e⟩:=zh e;cases e;obtain⟨ad,rfl,hr⟩:=(r1.ext x2).tx;obtain⟨vs,hv,q3⟩:=R2.at_ _ _ _ hr hm;have kP:Mut (H2 ad):=by rw[hv];trivial
    refine⟨ad,vs,_,j,rfl,r2.int_inv,hv,by rw[<-q3.length];exact e3,?_⟩;have xx:=x1.trans x2;have R3:=R2.wr (o:=.lst (vs.set j v)) (lo:=.lst _) kP hr ⟨_,zx,tf.ext (Ext.wr kP) (q3.set j (q.ext xx))⟩;exact k Z2 Y _ (xx.trans (Ext.wr kP)) (A.ext (xx.trans (Ext.wr kP)) R3)
   ·cases e
  ·cases e
@[simp] def z3u(G:FE)(g:FG):FS:=λJ O=>(G J O).bind λp=>(g p.1 J p.2).bind λq=>some (.next q.1 q.2)
def zgl{tg:yB}{g:FG}(he:ME X e G)(hg:MG X tg g)(hs:swapsWithSole [tg] e pos.line X.env=pure false:=by rfl)(hw:swappedStores [tg] e X.env=pure none:=by rfl)
 (h1:(YT [tg] X.env).map (·.2)=[assign tg X.env]:=by rfl):MS X (.Assign [tg] e pos) (z3u G g):=zXk (zFz he hg hs hw h1) λZ J O Y H o E A e k=>by
 obtain⟨⟨x,O1⟩,e1,e⟩:=zh e;obtain⟨⟨J1,O2⟩,e2,e⟩:=zh e;cases e;refine⟨Z,J,O,x,O1,A,e1,λZ1 H1 v1 x1 R1 r1=>?_⟩;exact⟨Z1,J,O1,x,J1,O2,A.ext x1 R1,r1,e2,λZ2 Y2 H2 x2 A2=>k Z2 Y2 H2 (x1.trans x2) A2⟩
abbrev FI:=Loc->Mem->Option (List D×(Mem->Bool)×Mem)
structure Sq(K:yt)(δ:It)(Z:Qv)(H:Hp)(ds:Wm)(ok:Mem->Bool):Prop where
 go:∀Z' H' O' (i:Nat),Ext Z H Z' H'->tF K Z' H' O'->ok O'=true->i<ds.length->δ.go i H'
 yld:∀Z' H' O' (i:Nat) x H'' d,Ext Z H Z' H'->tF K Z' H' O'->ok O'=true->ds[i]?=some d->δ.yld i H' x H''->Ext Z' H' Z' H''/\tF K Z' H'' O'/\tq K Z' H'' d x
 stop:∀Z' H' O',Ext Z H Z' H'->tF K Z' H' O'->ok O'=true->δ.stop ds.length H'
def tMI(K:yt)(G:FI):TI:=λY H R=>∃Z J O ds ok O',At K Z H Y J O/\G J O=some (ds,ok,O')/\∀Z' H' δ,Ext Z H Z' H'->tF K Z' H' O'->Sq K δ Z' H' ds ok->R δ H'
def MI(X:Cx)(tg iter:yB)(G:FI):Prop:=PI X tg iter (tMI X.K G)
def zns{tg it:yB}{t:TI}{G:FI}(h:PI X tg it t)(w:∀Z J O Y H ds ok O' R,At X.K Z H Y J O->G J O=some (ds,ok,O')->(∀Z' H' δ,Ext Z H Z' H'->tF X.K Z' H' O'->Sq X.K δ Z' H' ds ok->R δ H')->t Y H R):MI X tg it G :=
 by intro U s Y H R I hh;obtain⟨Z,J,O,ds,ok,O',A,e,k⟩:=hh;exact h U s Y H R I (w Z J O Y H ds ok O' R A e k)
@[simp] def yes:Mem->Bool:=λ_=>true
@[simp] def z2k(G:FA):FI:=λJ O=>(G J O).bind λp=>match p.1 with
 |[.int j]=>bif decide (-(2^62)<=j/\j<2^62) then some ((yz j.toNat).map λ(k:Nat) =>.int k,yes,p.2) else none
 |_=>none
def z2j{tg:yB}{p:YZ}{G:FA}(hm:X.mg "range"=none)(ha:MAn X [a] G)(hg:Gl X "range":=by rfl)(hs:yh [a] X.env=[(false,yV a X.env)]:=by rfl):MI X tg (.Call (.Name "range" p) [a] [] pos) (z2k G) :=
 zns (zpt hg hm ha.ma hs) λZ J O Y H ds ok O' R A e k=>by
  obtain⟨⟨x,O1⟩,e1,e⟩:=zh e;refine⟨Z,J,O,x,O1,A,e1,λZ1 H1 v1 x1 R1 r1=>?_⟩;dsimp only at e
  split at e
  ·rename_i j
   obtain⟨h1,e⟩:=zJ e;have h2:=of_decide_eq_true h1;cases e;obtain⟨w,r,rfl,q1,q2⟩:=r1.cons_inv;refine⟨j,by rw[q1.int_inv,q2.nil_inv],h2.1,h2.2,k Z1 H1 _ x1 R1 ⟨λZ' H' O' i _ _ _ h=>by rw[Lu,Lv]at h;exact h,λZ' H' O' i x H'' d _ RR _ e ⟨y1,y2⟩=>⟨y1▸Ext.refl,y1▸RR,?_⟩,λZ' H' O' _ _ _=>by show j.toNat<=_;simp⟩⟩;rw[yk]at e
   cases e3:(yz j.toNat)[i]? with
   |none=>rw[e3]at e;cases e
   |some m=>
    rw[e3]at e
    have hmi:m=i:=by
     obtain⟨w1,w2⟩:=List.getElem?_eq_some_iff.mp e3;simpa using w2.symm
    subst hmi;have e':D.int (m:Nat)=d:=Yn e;subst e';rw[y2,show(0:Int)+(m:Nat)=(m:Int) by omega];exact .int
  ·cases e
def zax{K:yt}{Z:Qv}{H:Hp}{a:yg}{vs:Wi}{ds:Wm}(h:H a=some (.tup vs))(r:tf K Z H ds vs):Sq K (Itt K a) Z H ds yes:=by
 refine⟨λZ' H' O' i x R _ hi=>?_,λZ' H' O' i x H'' d x' R _ e ⟨y1,y2⟩=>⟨y1▸Ext.refl,y1▸R,y1▸?_⟩,λZ' H' O' x R _=>⟨vs,SqT.of (x.tup _ _ h),by rw[r.length];exact yo _⟩⟩
 ·have hi':i<vs.length:=by rw[<-r.length];exact hi
  exact⟨vs,vs[i],SqT.of (x.tup _ _ h),by simp[hi']⟩
 ·have q:=y2 vs (SqT.of (x'.tup _ _ h));obtain⟨w,e1,rr⟩:=(r.ext x').get e;rw[q]at e1;cases e1;exact rr
@[simp] def znx(G:FE):FI:=λJ O=>(G J O).bind λp=>match p.1 with
 |.tup ds=>some (ds,yes,p.2)
 |_=>none
def zlA{tg:yB}(h:ME X a G):MI X tg a (znx G) :=
 zns (zuA h) λZ J O Y H ds ok O' R A e k=>by
  obtain⟨⟨x,O1⟩,e1,e⟩:=zh e;refine⟨Z,J,O,x,O1,A,e1,λZ1 H1 v1 x1 R1 r1=>?_⟩;dsimp only at e
  split at e
  ·cases e;obtain⟨a,vs,rfl,e2,q2⟩:=r1.tR;exact⟨a,rfl,⟨vs,SqT.of e2⟩,k Z1 H1 _ x1 R1 (zax e2 q2)⟩
  ·cases e
def zQo(n:Nat)(ds:Wm):Mem->Bool:=λO=>@decide (O[n]?=some (.lst ds)) (Classical.propDecidable _)
def Tu{n:Nat}{ds:Wm}{O:Mem}:zQo n ds O=true↔O[n]?=some (.lst ds):=by
 unfold zQo;exact @decide_eq_true_iff _ (Classical.propDecidable _)
def sL(G:FE):FI:=λJ O=>(G J O).bind λp=>match p.1 with
 |.fz ds=>some (ds,yes,p.2)
 |.loc n=>match p.2[n]? with
  |some (.lst ds)=>some (ds,zQo n ds,p.2)
  |_=>none
 |_=>none
def zlr{K:yt}{Z:Qv}{H:Hp}{a:yg}{ds:Wm}{ok:Mem->Bool}(h:∀Z' H' O',Ext Z H Z' H'->tF K Z' H' O'->ok O'=true->∃vs,SqL K H' a vs/\tf K Z' H' ds vs):Sq K (Itl K a) Z H ds ok:=by
 refine⟨λZ' H' O' i x R o hi=>?_,λZ' H' O' i x H'' d x' R o e ⟨y1,y2⟩=>⟨y1▸Ext.refl,y1▸R,y1▸?_⟩,λZ' H' O' x R o=>?_⟩
 ·obtain⟨vs,s,r⟩:=h Z' H' O' x R o;have hi':i<vs.length:=by rw[<-r.length];exact hi
  exact⟨vs,vs[i],s,by simp[hi']⟩
 ·obtain⟨vs,s,r⟩:=h Z' H' O' x' R o;have q:=y2 vs s;obtain⟨w,e1,rr⟩:=r.get e;rw[q]at e1;cases e1;exact rr
 ·obtain⟨vs,s,r⟩:=h Z' H' O' x R o;exact⟨vs,s,by rw[r.length];exact yo _⟩
def zVt{tg:yB}(h:ME X a G):MI X tg a (sL G) :=
 zns (zQu h) λZ J O Y H ds ok O' R A e k=>by
  obtain⟨⟨x,O1⟩,e1,e⟩:=zh e;refine⟨Z,J,O,x,O1,A,e1,λZ1 H1 v1 x1 R1 r1=>?_⟩;dsimp only at e
  split at e
  ·cases e;obtain⟨a,vs,rfl,e2,q2⟩:=r1.sE;exact⟨a,rfl,⟨vs,e2.sq⟩,k Z1 H1 _ x1 R1 (zlr λZ' H' O' x _ _=>⟨vs,(x.fz e2).sq,q2.ext x⟩)⟩
  ·split at e
   ·rename_i hm
    cases e;obtain⟨a,rfl,e2⟩:=r1.tx;obtain⟨vs,e3,q3⟩:=R1.at_ _ _ _ e2 hm;refine⟨a,rfl,⟨vs,SqL.of e3⟩,k Z1 H1 _ x1 R1 (zlr λZ' H' O'' x R' o=>?_)⟩;obtain⟨vs',e4,q4⟩:=R'.at_ _ _ _ (x.get e2) (Tu.mp o);exact⟨vs',SqL.of e4,q4⟩
   ·cases e
  ·cases e
def zDi(g:FG)(body:FS)(ok:Mem->Bool):Wm->FS
 |[],J,O=>bif ok O then some (.next J O) else none
 |x::xs,J,O=>bif ok O then(g x J O).bind λp=>match body p.1 p.2 with
  |some (.next J' O')=>zDi g body ok xs J' O'
  |some (.cont J' O')=>zDi g body ok xs J' O'
  |some (.brk J' O')=>some (.next J' O')
  |some (.ret d O')=>some (.ret d O')
  |some (.exc C fs O')=>some (.exc C fs O')
  |none=>none
  else none
@[simp] def zzo(i:FI)(g:FG)(body:FS):FS:=λJ O=>(i J O).bind λp=>zDi g body p.2.1 p.1 J p.2.2
def zjg{tg iter:yB}{body:Wc}{i:FI}{g:FG}{p:FS}(hi:MI X tg iter i)(hg:MG X tg g)(hb:MSs X body p)(hx:PassesOwn (yx X.prog X.w) X.A X.env X.xe:=by first|exact PassesOwn.never|exact PassesOwn.leaving)(hc:X.calm=true:=by rfl)
 (hs:∀x,Yu iter X.env x=pure x:=by intro _;rfl):MS X (.For tg iter body [] pos) (zzo i g p) :=
 zXk (zjz hx hc hi hg hb hs) λZ J O Y H o E A e k=>by
  obtain⟨⟨ds,ok,O1⟩,e1,e⟩:=zh e;refine⟨Z,J,O,ds,ok,O1,A,e1,λZ1 H1 δ x1 R1 II=>?_⟩;refine⟨λi m Y' H'=>∃Z' J' O',Ext Z1 H1 Z' H'/\At X.K Z' H' Y' J' O'/\i<=ds.length/\m=ds.length-i/\zDi g p ok (ds.drop i) J' O'=some o,⟨_,Z1,J,O1,Ext.refl,A.ext x1 R1,Ys _,rfl,e⟩,?_⟩;rintro i m Y' H' ⟨Z',J',O',x',A',hi,rfl,ef⟩
  by_cases kJ:i<ds.length
  ·right
   have hd:ds.drop i=ds[i]::ds.drop (i+1):=xA kJ;rw[hd]at ef;unfold zDi at ef;obtain⟨hok,ef⟩:=zJ ef;obtain⟨⟨J2,O2⟩,e2,ef⟩:=zh ef;refine⟨II.go Z' H' O' i x' A'.hp hok kJ,λY3 H3=>∃Z3 J3 O3,Ext Z1 H1 Z3 H3/\At X.K Z3 H3 Y3 J3 O3/\zDi g p ok (ds.drop (i+1)) J3 O3=some o,λY3 H3 ⟨Z3,J3,O3,x3,A3,e3⟩=>⟨ds.length-(i+1),by omega,Z3,J3,O3,x3,A3,kJ,rfl,e3⟩,λx H'' y=>?_⟩;obtain⟨xe,Re,rx⟩:=II.yld Z' H' O' i x H'' ds[i] x' A'.hp hok (by simp[kJ]) y;have x':=x'.trans xe;refine⟨Z',J',O',ds[i],J2,O2,A'.ext xe Re,rx,e2,λZ4 Y4 H4 x4 A4=>?_⟩
   cases eb:p J2 O2 with
   |none=>rw[eb]at ef;cases ef
   |some ob=>
    rw[eb]at ef;refine⟨Z4,J2,O2,ob,A4,eb,?_⟩;have x5:=x'.trans x4
    cases ob with
    |next J6 O6=>exact λZ6 Y6 H6 x6 A6=>⟨Z6,J6,O6,x5.trans x6,A6,ef⟩
    |cont J6 O6=>exact λZ6 Y6 H6 x6 A6=>⟨Z6,J6,O6,x5.trans x6,A6,ef⟩
    |brk J6 O6=>cases ef;exact(k.ext x1).ext x5
    |ret d O6=>cases ef;exact(k.ext x1).ext x5
    |exc C fs O6=>cases ef;exact(k.ext x1).ext x5
  ·left
   have e0:i=ds.length:=by omega
   subst e0;rw[List.drop_length]at ef;unfold zDi at ef;obtain⟨hok,ef⟩:=zJ ef;cases ef;exact⟨II.stop Z' H' O' x' A'.hp hok,k Z' Y' H' (x1.trans x') A'⟩
end
def z4u(g:FG)(c:FT)(G:FE)(ok:Mem->Bool)(J:Loc):Wm->Wm->Mem->Option (D×Mem)
 |[],ys,O=>bif ok O then some (.loc O.length,O++[.lst ys]) else none
 |x::xs,ys,O=>bif ok O then(g x J O).bind λp=>(c p.1 p.2).bind λt=>bif t.1 then(G p.1 t.2).bind λq=>z4u g c G ok J xs (ys++[q.1]) q.2 else z4u g c G ok J xs ys t.2 else none
@[simp] def δC(n:Nat)(fr:Qf)(J:Loc):Loc:=yy n none++fr.map λi=>(J[i]?).getD none
@[simp] def few(ds:Wm):Bool:=decide (ds.length<=1000000)
@[simp] def fLC(n:Nat)(fr:Qf)(i:FI)(g:FG)(c:FT)(G:FE):FE:=λJ O=>(i J O).bind λp=>bif few p.1 then z4u g c G p.2.1 (δC n fr J) p.1 [] p.2.2 else none
def MF(X:Cx)(ifs:Qz)(c:FT):Prop:=PF X ifs (tMT X.K c)
@[simp] def zph:FT:=λ_ O=>some (true,O)
def zhc{X:Cx}:MF X [] zph:=by intro U s Y H Q I hh;obtain⟨Z,J,O,b,O',A,e,k⟩:=hh;exact zkx U s Y H Q I (by cases e;exact k Z H Ext.refl A.hp)
def zEt{X:Cx}{e:yB}{c:FT}(h:MT X e c):MF X [e] c:=zxz h
def At.δC{K:yt}{Z:Qv}{H:Hp}{Y:L2.St}{J:Loc}{O:Mem}(A:At K Z H Y J O)(n:Nat)(fr:Qf):At K Z H (σC n fr Y) (M.δC n fr J) O:=by
 refine⟨λi d e=>?_,A.hp,by unfold σC M.δC;simp⟩;unfold M.δC at e;unfold σC
 by_cases hi:i<n
 ·rw[yq (by simpa using hi),YM]at e
  split at e<;>cases e
 ·have hi:n<=i:=Xs hi;rw[yS (by simpa using hi),Xb,yk]at e;rw[yS (by simpa using hi),Xb,yk]
  cases e1:fr[i-n]? with
  |none=>rw[e1]at e;cases e
  |some j=>
   rw[e1]at e;have e2:(J[j]?).getD none=some d:=Yn e
   have e3:J[j]?=some (some d):=by
    cases q:J[j]? with
    |none=>rw[q]at e2;cases e2
    |some z=>rw[q]at e2;exact congrArg some e2
   obtain⟨v,hv,r⟩:=A.st j d e3;exact⟨v,by rw[xF,hv];rfl,r⟩
def sf(n:Nat)(Y Y':L2.St):Prop:=Y'.length=Y.length/\∀(i:Nat),n<=i->Y'[i]?=Y[i]?
def sf.refl{n:Nat}{Y:L2.St}:sf n Y Y:=⟨rfl,λ_ _=>rfl⟩
def sf.trans{n:Nat}{Y Y1 Y2:L2.St}(a:sf n Y Y1)(b:sf n Y1 Y2):sf n Y Y2:=⟨b.1.trans a.1,λi h=>(b.2 i h).trans (a.2 i h)⟩
def tGc(K:yt)(n:Nat)(g:FG):TG:=λv Y H Q=>∃Z J O d J' O',At K Z H Y J O/\tq K Z H d v/\g d J O=some (J',O')/\∀Z' Y' H',Ext Z H Z' H'->At K Z' H' Y' J' O'->sf n Y Y'->Q Y' H'
def zBC(K:yt)(n:Nat)(g:FGs):TGs:=λvs Y H Q=>∃Z J O ds J' O',At K Z H Y J O/\tf K Z H ds vs/\g ds J O=some (J',O')/\∀Z' Y' H',Ext Z H Z' H'->At K Z' H' Y' J' O'->sf n Y Y'->Q Y' H'
def MGc(X:Cx)(n:Nat)(t:yB)(g:FG):Prop:=PG X t (tGc X.K n g)
def zhB(X:Cx)(n:Nat)(t:Qz)(g:FGs):Prop:=PGs X t (zBC X.K n g)
section
variable {X:Cx}{e:yB}{es:Qz}{pos:YZ}{n:Nat}
def zU{x:yj}(i:Nat)(hin:i<n:=by decide)(hN:X.N.Nodup:=by first|assumption|decide)(hi:X.N[i]?=some x:=by rfl)(hx:L2.Loc X.env.scope x:=by first|exact Or.inl rfl|exact Or.inr rfl)(hf:X.fn x=true\/X.env.scope.names.lookup x=some .local:=by first|exact .inl rfl|exact .inr rfl|assumption):MGc X n (.Name x pos) (gN i) :=
 by intro U s Y H v u Q I r hh;obtain⟨Z,J,O,d,J',O',A,q,e,k⟩:=hh;exact z6o hN hi hx hf U s Y H v u Q I r (by
  cases e;exact k Z _ H Ext.refl (A.set q i) ⟨by simp,λj hj=>yQ (by omega)⟩)
def zPj:zhB X n [] zVi:=by intro U s Y H v u Q I r hh;obtain⟨Z,J,O,d,J',O',A,q,e,k⟩:=hh;exact zXs U s Y H v u Q I r (by
 unfold zVi at e
 split at e
 ·cases e;exact⟨q.nil_inv,k Z Y H Ext.refl A sf.refl⟩
 ·cases e)
def zId{g:FG}{gs:FGs}(h1:MGc X n e g)(h2:zhB X n es gs)(hs:(YT (e::es) X.env).map (·.2)=assign e X.env::(YT es X.env).map (·.2):=by rfl):zhB X n (e::es) (zDc g gs) :=
 by intro U s Y H vs us Q I r hh;obtain⟨Z,J,O,ds,J',O',A,q,e,k⟩:=hh;exact zTq h1 h2 hs U s Y H vs us Q I r (by
  unfold zDc at e
  split at e
  ·obtain⟨⟨J1,O1⟩,e1,e⟩:=zh e;obtain⟨v,vr,rfl,q1,q2⟩:=q.cons_inv;refine⟨v,vr,rfl,Z,J,O,_,J1,O1,A,q1,e1,λZ1 Y1 H1 x1 A1 f1=>?_⟩;exact⟨Z1,J1,O1,_,J',O',A1,q2.ext x1,e,λZ2 Y2 H2 x2 A2 f2=>k Z2 Y2 H2 (x1.trans x2) A2 (f1.trans f2)⟩
  ·cases e)
def zTm{k m:Nat}{gs:FGs}(h:zhB X n es gs)(hc:X.calm=true:=by rfl)(hn:(YT es X.env).length=m:=by rfl)(kT:(YT es X.env).findIdx? (·.1)=none:=by rfl):MGc X n (.Tuple es k pos) (gT m gs) :=
 by intro U s Y H v u Q I r hh;obtain⟨Z,J,O,d,J',O',A,q,e,k⟩:=hh;exact zox hc h hn kT U s Y H v u Q I r (by
  unfold gT at e
  split at e
  ·obtain⟨h1,e⟩:=zJ e;obtain⟨a,vs,rfl,e2,q2⟩:=q.tR;exact⟨a,vs,rfl,SqT.of e2,by rw[<-q2.length];exact beq_iff_eq.mp h1,Z,J,O,_,J',O',A,q2,e,k⟩
  ·cases e)
end
def zYu{n:Nat}{fr:Qf}{Y Y':L2.St}(f:sf n (σC n fr Y) Y'):zXv (σC n fr Y) Y':=by
 refine⟨f.1,λi v e=>?_⟩;obtain⟨hi,_⟩:=σC_get e;rw[f.2 i hi];exact e
def Ts:1000000<yD:=by rw[YC];decide
def znC{K:yt}{n:Nat}{fr:Qf}{i:FI}{g:FG}{c:FT}{G:FE}{Z:Qv}{J:Loc}{O:Mem}{Y:L2.St}{H:Hp}{d:D}{O':Mem}{Q:VK}(A:At K Z H Y J O)(e:fLC n fr i g c G J O=some (d,O'))
 (k:∀Z' H' v,Ext Z H Z' H'->tF K Z' H' O'->tq K Z' H' d v->Q v H'):tLC n fr (tMI K i) (tGc K n g) (tMT K c) (tM K G) Y H Q:=by
 obtain⟨⟨ds,ok,O1⟩,e1,e⟩:=zh e;obtain⟨kH,e⟩:=zJ e;have kH:ds.length<=1000000:=of_decide_eq_true kH;refine⟨Z,J,O,ds,ok,O1,A,e1,λZ1 H1 δ x1 R1 II=>?_⟩;refine⟨λi m ys H'=>∃Z' es O2,Ext Z1 H1 Z' H'/\tF K Z' H' O2/\tf K Z' H' es ys/\es.length<=i/\i<=ds.length/\m=ds.length-i/\z4u g c G ok (δC n fr J) (ds.drop i) es O2=some (d,O'),⟨_,Z1,[],O1,Ext.refl,R1,.nil,Ys _,Ys _,rfl,e⟩,?_⟩;rintro i m ys H' ⟨Z',es,O2,x',R',re,hel,hi,rfl,ef⟩
 by_cases kJ:i<ds.length
 ·right
  have hd:ds.drop i=ds[i]::ds.drop (i+1):=xA kJ;rw[hd]at ef;unfold z4u at ef;obtain⟨hok,ef⟩:=zJ ef;obtain⟨⟨J2,O3⟩,e2,ef⟩:=zh ef;obtain⟨⟨b,O4⟩,e3,ef⟩:=zh ef;refine⟨II.go Z' H' O2 i x' R' hok kJ,?_,λx H'' y=>?_⟩
  ·rw[<-re.length];exact Nat.lt_of_le_of_lt (yA hel (yA hi kH)) Ts
  ·obtain⟨xe,Re,rx⟩:=II.yld Z' H' O2 i x H'' ds[i] x' R' hok (by simp[kJ]) y;have x':=x'.trans xe;have re:=re.ext xe;have A':At K Z' H'' (σC n fr Y) (δC n fr J) O2:=((A.ext x1 R1).ext x' Re).δC n fr;refine⟨Z',_,O2,ds[i],J2,O3,A',rx,e2,λZ4 Y4 H4 x4 A4 f4=>⟨zYu f4,?_⟩⟩;refine⟨Z4,J2,O3,b,O4,A4,e3,λZ5 H5 x5 R5=>?_⟩
   cases b with
   |false=>exact Sf ⟨ds.length-(i+1),by omega,Z5,es,O4,x'.trans (x4.trans x5),R5,re.ext (x4.trans x5),by omega,kJ,rfl,ef⟩
   |true=>
    obtain⟨⟨y,O6⟩,e4,ef⟩:=zh ef;refine Sg ⟨Z5,J2,O4,y,O6,A4.ext x5 R5,e4,λZ6 H6 v x6 R6 r6=>?_⟩;exact⟨ds.length-(i+1),by omega,Z6,es++[y],O6,x'.trans (x4.trans (x5.trans x6)),R6,(re.ext (x4.trans (x5.trans x6))).append (.cons r6 .nil),by simp;exact hel,kJ,rfl,ef⟩
 ·left
  have e0:i=ds.length:=by omega
  subst e0;rw[List.drop_length]at ef;unfold z4u at ef;obtain⟨hok,ef⟩:=zJ ef;cases ef;refine⟨II.stop Z' H' O2 x' R' hok,λp hp=>?_⟩;exact k _ _ _ (x1.trans (x'.trans (Ext.push hp))) (R'.push hp ⟨ys,zx,re.ext (Ext.push hp)⟩) (.loc (zwb R'))
def zwB{X:Cx}{scope:xG}{elt tg iter:yB}{ifs:Qz}{pos:YZ}{i:FI}{g:FG}{c:FT}{G:FE}(own:Qx)(fr:Qf)(hi:MI X tg iter i)
 (hg:∀cl C s₀ H₀ fp,MGc (cxC X own fr scope cl C s₀ H₀ fp) own.length tg g) (hq:∀cl C s₀ H₀ fp,MF (cxC X own fr scope cl C s₀ H₀ fp) ifs c) (he:∀cl C s₀ H₀ fp,ME (cxC X own fr scope cl C s₀ H₀ fp) elt G)
 (hc:X.calm=true:=by rfl) (hk:scope.kind=.function:=by rfl) (hnm:∀y∈scope.names,scope.names.lookup y.1=some y.2:=by decide)
 (kO:∀x∈scope.names,x.2=.free->(X.env.kindOf x.1=some .cell\/X.env.kindOf x.1=some .free):=by decide) (kR:∀i∈fr,∃x,X.N[i]?=some x/\scope.names.lookup x=some .free)
 (hs:∀x,Yu iter X.env x=pure x:=by intro _;rfl):ME X (.ListComp elt [⟨tg,iter,ifs,0⟩] scope pos) (fLC own.length fr i g c G) :=
 zdd (zBB (wi:=tMI X.K i) (g:=tGc X.K own.length g) (tc:=tMT X.K c) (te:=tM X.K G) own fr hc hi (λcl C s₀ H₀ fp=>hg cl C s₀ H₀ fp) (λcl C s₀ H₀ fp=>hq cl C s₀ H₀ fp) (λcl C s₀ H₀ fp=>he cl C s₀ H₀ fp) hk hnm kO kR hs) λZ J O Y H d O' Q A e k=>znC A e k
def toP(O:Mem):Nat->D->Option xB
 |0,_=>none
 |n+1,d=>match d with
  |.non=>some .none
  |.bl b=>some (.bool b)
  |.int i=>some (.int i)
  |.str x=>bif Yw x then some (.str x) else none
  |.ty _=>none
  |.own _=>none
  |.tup ds=>(ds.mapM (toP O n)).bind λps=>some (.tuple ps)
  |.fz ds=>(ds.mapM (toP O n)).bind λps=>some (.list ps)
  |.loc k=>match O[k]? with
   |some (.lst ds)=>(ds.mapM (toP O n)).bind λps=>some (.list ps)
   |_=>none
def zqj{f:D->Option xB}{ps:List xB}(h:([]:Wm).mapM f=some ps):ps=[]:=by
 simp at h;exact h
def zbi{f:D->Option xB}{d:D}{ds:Wm}{ps:List xB}(h:(d::ds).mapM f=some ps):∃p r,f d=some p/\ds.mapM f=some r/\ps=p::r:=by
 rw[Nb]at h;obtain⟨p,e1,h⟩:=zh h;obtain⟨r,e2,h⟩:=zh h;cases h;exact⟨p,r,e1,e2,rfl⟩
def zem{f:D->Option xB}{m:Nat}(hf:∀d p,f d=some p->p.canLay0=true/\p.depth<=m):∀{ds:Wm} {ps:List xB},ds.mapM f=some ps->Xg ps=true/\PyData.depthAll ps<=m
 |[],ps,h=>by rw[zqj h];exact⟨rfl,Ys _⟩
 |d::ds,ps,h=>by
  obtain⟨p,r,e1,e2,rfl⟩:=zbi h;obtain⟨h1,h2⟩:=hf d p e1;obtain⟨h3,h4⟩:=zem hf e2;refine⟨?_,?_⟩
  ·simp only[Xg,h1,h3,Bool.and_true]
  ·simp only[PyData.depthAll];omega
def z3h{O:Mem}:∀(n:Nat)(d:D)(p:xB),toP O n d=some p->p.canLay0=true/\p.depth<=n
 |0,d,p,h=>by cases h
 |n+1,d,p,h=>by
  have seq:∀{ds:Wm} {c:List xB->xB},(∀ps,(c ps).canLay0=Xg ps)->(∀ps,(c ps).depth=PyData.depthAll ps+1)->((ds.mapM (toP O n)).bind λps=>some (c ps))=some p->p.canLay0=true/\p.depth<=n+1:=λ{ds c} h1 h2 h=>by
   obtain⟨ps,e1,e2⟩:=zh h;cases e2;obtain⟨q1,q2⟩:=zem (z3h n) e1;exact⟨by rw[h1];exact q1,by rw[h2];omega⟩
  unfold toP at h
  cases d with
  |non=>cases h;exact⟨rfl,Ys _⟩
  |bl b=>cases h;exact⟨rfl,Ys _⟩
  |int b=>cases h;exact⟨rfl,Ys _⟩
  |str x=>
   obtain⟨h1,h2⟩:=zJ h;cases h2;exact⟨h1,Ys _⟩
  |ty _=>cases h
  |own _=>cases h
  |tup ds=>exact seq (λ_=>rfl) (λ_=>rfl) h
  |fz ds=>exact seq (λ_=>rfl) (λ_=>rfl) h
  |loc k=>
   dsimp only at h
   split at h
   ·exact seq (λ_=>rfl) (λ_=>rfl) h
   ·cases h
section
variable {X:Cx}{U:Qb}{Y:L2.St}{H:Hp}{s:yd}{Z:Qv}{O:Mem}
def zxi{f:D->Option xB}(hf:∀d p v u,f d=some p->tq X.K Z H d v->RelV v u->∃as,Reads s.heap u p as):∀{ds:Wm} {ps:List xB} {vs:Wi} {us:List yb},ds.mapM f=some ps->tf X.K Z H ds vs->Vals vs us->∃as,ReadsAll s.heap us ps as
 |[],ps,vs,us,h,r,q=>by
  rw[zqj h];rw[r.nil_inv]at q;cases q;exact⟨[],.nil⟩
 |d::ds,ps,vs,us,h,r,q=>by
  obtain⟨p,pr,e1,e2,rfl⟩:=zbi h;obtain⟨v,vr,rfl,r1,r2⟩:=r.cons_inv
  cases q with
  |cons q1 q2=>
   obtain⟨a1,h1⟩:=hf _ _ _ _ e1 r1 q1;obtain⟨a2,h2⟩:=zxi hf e2 r2 q2;exact⟨_,.cons h1 h2⟩
def z8f(I:Inv X U Y H s)(R:tF X.K Z H O):∀(n:Nat)(d:D)(p:xB)(v:V)(u:yb),toP O n d=some p->tq X.K Z H d v->RelV v u->∃as,Reads s.heap u p as
 |0,d,p,v,u,h,_,_=>by cases h
 |n+1,d,p,v,u,h,r,q=>by
  unfold toP at h
  cases d with
  |non=>cases h;rw[r.tG]at q;cases q;exact⟨_,.none⟩
  |bl b=>cases h;rw[r.tI]at q;cases q;exact⟨_,.bool b⟩
  |int b=>cases h;rw[r.int_inv]at q;obtain⟨t,rfl⟩:=q;exact⟨_,.int b t⟩
  |str x=>
   obtain⟨h1,h2⟩:=zJ h;cases h2;rw[r.str_inv]at q;obtain⟨t,rfl⟩:=q;exact⟨_,.str x t⟩
  |ty _=>cases h
  |own _=>cases h
  |tup ds=>
   obtain⟨ps,e1,e2⟩:=zh h;cases e2;obtain⟨a,vs,rfl,e3,rr⟩:=r.tR;cases q;obtain⟨hW,rv,⟨o,ho,hc,k,hd⟩,_⟩:=I.tuple (SqT.of e3);obtain⟨as,ha⟩:=zxi (z8f I R n) e1 rr rv;exact⟨_,reads_tuple_at ho hc hd (by simpa using ha)⟩
  |fz ds=>
   obtain⟨ps,e1,e2⟩:=zh h;cases e2;obtain⟨a,vs,rfl,e3,rr⟩:=r.sE;cases q;obtain⟨hW,rv,⟨o,k,ho,hc,_,hd⟩,_⟩:=I.list e3.sq;obtain⟨as,ha⟩:=zxi (z8f I R n) e1 rr rv;exact⟨_,reads_list_at ho hc hd (by simpa using ha)⟩
  |loc k=>
   dsimp only at h
   split at h
   ·rename_i hm
    obtain⟨ps,e1,e2⟩:=zh h;cases e2;obtain⟨a,rfl,e2⟩:=r.tx;obtain⟨vs,e3,rr⟩:=R.at_ _ _ _ e2 hm;cases q;obtain⟨hW,rv,⟨o,k,ho,hc,_,hd⟩,_⟩:=I.list (SqL.of (K:=X.K) e3);obtain⟨as,ha⟩:=zxi (z8f I R n) e1 rr rv;exact⟨_,reads_list_at ho hc hd (by simpa using ha)⟩
   ·cases h
end
def gEq:φ2:=λx y O=>(toP O 8 x).bind λp=>(toP O 8 y).bind λq=>some (.bl (Yc p q),O)
def gNe:φ2:=λx y O=>(toP O 8 x).bind λp=>(toP O 8 y).bind λq=>some (.bl (!PyData.eqv p q),O)
def z0h{O:Mem}{d:D}{p:xB}(h:toP O 8 d=some p):SeqAt.shaped p=true:=by
 obtain⟨h1,h2⟩:=z3h 8 d p h;unfold SeqAt.shaped;rw[h1,decide_eq_true (by omega)];rfl
section
variable {X:Cx}{a b c e:yB}{es:Qz}{G ψ χ:FE}{pos:YZ}
def zac(hu:X.A.units+64<cLine):OpM X (Yg .Eq) gEq:=by
 refine OpM.of λU s Y H x y v u Q I rx ry Z dx dy O d O' r1 r2 R e k=>?_;obtain⟨p,e1,e⟩:=zh e;obtain⟨q,e2,e⟩:=zh e;cases e;obtain⟨as,h1⟩:=z8f I R 8 dx p x v e1 r1 rx;obtain⟨bs,h2⟩:=z8f I R 8 dy q y u e2 r2 ry;exact eq_dataH h1 h2 (z0h e1) (z0h e2) hu ⟨.bl _,H,I,rfl,k Z H _ Ext.refl R .bl⟩
def zqk(hu:X.A.units+64<cLine):OpM X (Yg .NotEq) gNe:=by
 refine OpM.of λU s Y H x y v u Q I rx ry Z dx dy O d O' r1 r2 R e k=>?_;obtain⟨p,e1,e⟩:=zh e;obtain⟨q,e2,e⟩:=zh e;cases e;obtain⟨as,h1⟩:=z8f I R 8 dx p x v e1 r1 rx;obtain⟨bs,h2⟩:=z8f I R 8 dy q y u e2 r2 ry;exact ne_dataH h1 h2 (z0h e1) (z0h e2) hu ⟨.bl _,H,I,rfl,k Z H _ Ext.refl R .bl⟩
@[simp] def gIs:φ2:=λx y O=>match x,y with
 |.bl i,.bl j=>some (.bl (i==j),O)
 |.non,.non=>some (.bl true,O)
 |.bl _,.non=>some (.bl false,O)
 |.int _,.non=>some (.bl false,O)
 |.str _,.non=>some (.bl false,O)
 |.tup _,.non=>some (.bl false,O)
 |.loc _,.non=>some (.bl false,O)
 |_,_=>none
@[simp] def z5k:φ2:=λx y O=>match x,y with
 |.bl i,.bl j=>some (.bl (i != j),O)
 |.non,.non=>some (.bl false,O)
 |.bl _,.non=>some (.bl true,O)
 |.int _,.non=>some (.bl true,O)
 |.str _,.non=>some (.bl true,O)
 |.tup _,.non=>some (.bl true,O)
 |.loc _,.non=>some (.bl true,O)
 |_,_=>none
def zbA:OpM X (Yg .Is) gIs:=by
 refine OpM.of λU s Y H x y v u Q I rx ry Z dx dy O d O' r1 r2 R e k=>?_;unfold gIs at e
 split at e<;>cases e
 ·rw[r1.tI]at rx;rw[r2.tI]at ry;cases rx;cases ry;exact is_bool ⟨.bl _,H,I,rfl,k Z H _ Ext.refl R .bl⟩
 ·exact zjm U s Y H x y v u Q I rx ry ⟨r2.tG,by rw[r1.tG];exact k Z H _ Ext.refl R .bl⟩
 ·exact zjm U s Y H x y v u Q I rx ry ⟨r2.tG,by rw[r1.tI];exact k Z H _ Ext.refl R .bl⟩
 ·exact zjm U s Y H x y v u Q I rx ry ⟨r2.tG,by rw[r1.int_inv];exact k Z H _ Ext.refl R .bl⟩
 ·exact zjm U s Y H x y v u Q I rx ry ⟨r2.tG,by rw[r1.str_inv];exact k Z H _ Ext.refl R .bl⟩
 ·exact zjm U s Y H x y v u Q I rx ry ⟨r2.tG,by obtain⟨a,vs,rfl,_⟩:=r1.tR;exact k Z H _ Ext.refl R .bl⟩
 ·exact zjm U s Y H x y v u Q I rx ry ⟨r2.tG,by obtain⟨a,rfl,_⟩:=r1.tx;exact k Z H _ Ext.refl R .bl⟩
def zcl:OpM X (Yg .IsNot) z5k:=by
 refine OpM.of λU s Y H x y v u Q I rx ry Z dx dy O d O' r1 r2 R e k=>?_;unfold z5k at e
 split at e<;>cases e
 ·rw[r1.tI]at rx;rw[r2.tI]at ry;cases rx;cases ry;exact isnot_bool ⟨.bl _,H,I,rfl,k Z H _ Ext.refl R .bl⟩
 ·exact zEi U s Y H x y v u Q I rx ry ⟨r2.tG,by rw[r1.tG];exact k Z H _ Ext.refl R .bl⟩
 ·exact zEi U s Y H x y v u Q I rx ry ⟨r2.tG,by rw[r1.tI];exact k Z H _ Ext.refl R .bl⟩
 ·exact zEi U s Y H x y v u Q I rx ry ⟨r2.tG,by rw[r1.int_inv];exact k Z H _ Ext.refl R .bl⟩
 ·exact zEi U s Y H x y v u Q I rx ry ⟨r2.tG,by rw[r1.str_inv];exact k Z H _ Ext.refl R .bl⟩
 ·exact zEi U s Y H x y v u Q I rx ry ⟨r2.tG,by obtain⟨a,vs,rfl,_⟩:=r1.tR;exact k Z H _ Ext.refl R .bl⟩
 ·exact zEi U s Y H x y v u Q I rx ry ⟨r2.tG,by obtain⟨a,rfl,_⟩:=r1.tx;exact k Z H _ Ext.refl R .bl⟩
inductive Ty where
 |non|bl|int|str|tup|lst|dict
 deriving DecidableEq
@[simp] def zgB(O:Mem):D->Option Ty
 |.non=>some .non
 |.bl _=>some .bl
 |.int _=>some .int
 |.str _=>some .str
 |.tup _=>some .tup
 |.loc n=>match O[n]? with
  |some (.lst _)=>some .lst
  |some (.dct _)=>some .dict
  |_=>none
 |_=>none
@[simp] def Ty.name:Ty->String
 |.non=>"NoneType" | .bl=>"bool" | .int=>"int" | .str=>"str" | .tup=>"tuple" | .lst=>"list" | .dict=>"dict"
@[simp] def zYB:Ty->Ty->Bool
 |.bl,.int=>true
 |.non,.non=>true
 |.bl,.bl=>true
 |.int,.int=>true
 |.str,.str=>true
 |.tup,.tup=>true
 |.lst,.lst=>true
 |.dict,.dict=>true
 |_,_=>false
@[simp] def z5u(c:Ty):GL:=λds O=>match ds with
 |[x,.ty n]=>bif n==c.name then(zgB O x).bind λt=>some (.bl (zYB t c),O) else none
 |_=>none
def z2y{K:yt}{Z:Qv}{H:Hp}{O:Mem}{x:D}{v:V}{t:Ty}(R:tF K Z H O)(r:tq K Z H x v)(e:zgB O x=some t):sv K H v (.type t.name):=by
 cases x with
 |non=>cases e;rw[r.tG];exact .non
 |bl b=>cases e;rw[r.tI];exact .bl b
 |int b=>cases e;rw[r.int_inv];exact .int b
 |str b=>cases e;rw[r.str_inv];exact .str b
 |tup ds=>cases e;obtain⟨a,vs,rfl,e2,_⟩:=r.tR;exact .tup e2
 |loc n=>
  unfold zgB at e;dsimp only at e
  split at e
  ·rename_i hm;cases e;obtain⟨a,rfl,e2⟩:=r.tx;obtain⟨vs,e3,_⟩:=R.at_ _ _ _ e2 hm;exact .lst e3
  ·rename_i hm;cases e;obtain⟨a,rfl,e2⟩:=r.tx;obtain⟨vs,e3,_⟩:=R.at_ _ _ _ e2 hm;exact .dK e3
  ·cases e
 |_=>cases e
def zsz(K:yt)(t c:Ty):W.kitOne K (.type t.name) (.type c.name)=some (zYB t c):=by
 cases t<;>cases c<;>first|rfl|decide +kernel
def zUg(c:Ty):tJ X (.builtin "isinstance") (z5u c):=by
 refine tJ.of λU s Y H xs us Q I r Z ds O d O' r1 R e k=>?_;unfold z5u at e
 split at e
 ·obtain⟨hn,e⟩:=zJ e;obtain⟨t,e1,e⟩:=zh e;cases e;obtain⟨v,rr,rfl,q1,q2⟩:=r1.cons_inv;obtain⟨v2,rr2,rfl,q3,q4⟩:=q2.cons_inv;rw[q4.nil_inv,q3.ty_inv,beq_iff_eq.mp hn]at r
  cases r with
  |cons ra rb=>
   cases rb with
   |cons rc rd=>
    cases rd;cases rc;exact zZt I ra (z2y R q1 e1) (zsz X.K t c) λtk=>⟨.bl _,H,I.tok tk,rfl,k Z H _ Ext.refl R .bl⟩
 ·cases e
@[simp] def zgC:D->Bool
 |.bl _=>true
 |_=>false
@[simp] def blB:D->Bool
 |.bl b=>b
 |_=>false
@[simp] def zRA:GL:=λds O=>match ds with
 |[.loc n]=>match O[n]? with
  |some (.lst xs)=>bif xs.all zgC then some (.bl (xs.all blB),O) else none
  |_=>none
 |_=>none
def zlo(hc:X.calm=true):tJ X (.builtin "all") zRA:=by
 refine tJ.of λU s Y H xs us Q I r Z ds O d O' r1 R e k=>?_;unfold zRA at e
 split at e
 ·split at e
  ·rename_i n _ ys hm
   obtain⟨hb,e⟩:=zJ e;cases e;obtain⟨v,rr,rfl,q1,q2⟩:=r1.cons_inv;obtain⟨a,rfl,e2⟩:=q1.tx;obtain⟨vs,e3,q3⟩:=R.at_ _ _ _ e2 hm;rw[q2.nil_inv]at r;obtain⟨u,rfl,ru⟩:=vals1 r;cases ru;obtain⟨hW,rv,pl,hz⟩:=I.list (SqL.of (K:=X.K) e3);have kJ:a<s.heap.objs.size:=by obtain⟨_,_,e,_⟩:=pl;exact yn e
   refine call_all_walk (wpAny_pyIter_list pl.isList ?_);refine⟨_,_,_,_,_,_,λi=>blB (ys.getD i .non),rfl,Walks.list (A:=X.A.in1) (I.ok.hd hc) s.heap.objs.size a (yC kJ) hW.toArray,⟨⟨_,yr _ rfl,rfl,rfl⟩,pl.isList.push _⟩,?_,λh' tk hk=>?_⟩
   ·intro i w s' Q' E' hP hQ;have hi:hW[i]?=some w:=by simpa using hP
    have hil:i<ys.length:=by
     have h1:=(List.getElem?_eq_some_iff.mp hi).1;rw[q3.length,rv.length];exact h1
    have hyi:ys[i]?=some ys[i]:=by simp[hil]
    obtain⟨vv,ev,rvv⟩:=q3.get hyi;obtain⟨ww,ew,rww⟩:=rv.get ev;rw[hi]at ew;cases ew;have hall:=List.all_eq_true.mp hb ys[i] (Lp hil)
    have hQ':Q' (blB ys[i]) s':=by
     have e:ys.getD i .non=ys[i]:=by rw[Lo,hyi];rfl
     rw[<-e];exact hQ
    cases hyb:ys[i] with
    |bl b=>
     rw[hyb]at rvv hQ';rw[rvv.tI]at rww;cases rww;exact YS hQ'
    |_=>rw[hyb]at hall;cases hall
   ·have hsz:hW.toArray.size=ys.length:=by rw[q3.length,rv.length];simp
    have eall:((yz hW.toArray.size).all λi=>blB (ys.getD i .non))=ys.all blB:=by
     rw[hsz,Bool.eq_iff_iff,Lb,Lb];constructor
     ·intro h y hy;obtain⟨i,hi,rfl⟩:=List.mem_iff_getElem.mp hy;have:=h i (by simpa using hi);rw[Lo,show ys[i]?=some ys[i] by simp[hi]]at this;exact this
     ·intro h i hi;have hi':i<ys.length:=by simpa using hi
      rw[Lo,show ys[i]?=some ys[i] by simp[hi']];exact h ys[i] (Lp hi')
    rw[eall];have I1:Inv X U Y H {s with heap:=s.heap.push {cls:=.type "list_iterator",data:=.fields #[.ref a,.int 0 0]}}:=I.kept (t':=s.toks) λb o e=>ye _ e;have kR:=I1.hok;refine⟨.bl _,H,I.kept (h':=h') (t':=tk) λb o e=>hk b o (by simpa using yC (yn e)) (ye _ e),rfl,k Z H _ Ext.refl R .bl⟩
  ·cases e
 ·cases e
def zvv{scope:xG}{elt tg iter:yB}{ifs:Qz}{spos py:YZ}{y:yj}{fi:FI}{g:FG}{ct:FT}(i:Nat)(own:Qx)(fr:Qf)(hi:MI X tg iter fi)
 (hg:∀cl C s₀ H₀ fp,MGc (cxC X own fr scope cl C s₀ H₀ fp) own.length tg g) (hq:∀cl C s₀ H₀ fp,MF (cxC X own fr scope cl C s₀ H₀ fp) ifs ct) (he:∀cl C s₀ H₀ fp,ME (cxC X own fr scope cl C s₀ H₀ fp) elt G)
 (kR:∀i∈fr,∃x,X.N[i]?=some x/\scope.names.lookup x=some .free)
 (hN:X.N.Nodup:=by first|assumption|decide) (hiN:X.N[i]?=some y:=by rfl) (hy:X.env.scope.names.lookup y=some .local:=by rfl)
 (hsw:xD (.ListComp elt [⟨tg,iter,ifs,0⟩] scope pos) (some (.Name y py)) spos.line X.env=pure true:=by rfl)
 (hc:X.calm=true:=by rfl) (hk:scope.kind=.function:=by rfl) (hnm:∀y∈scope.names,scope.names.lookup y.1=some y.2:=by decide)
 (kO:∀x∈scope.names,x.2=.free->(X.env.kindOf x.1=some .cell\/X.env.kindOf x.1=some .free):=by decide)
 (hs:∀x,Yu iter X.env x=pure x:=by intro _;rfl):MS X (.Assign [.Name y py] (.ListComp elt [⟨tg,iter,ifs,0⟩] scope pos) spos) (z6c i (fLC own.length fr fi g ct G)) :=
 zXk (z6v (wi:=tMI X.K fi) (g:=tGc X.K own.length g) (tc:=tMT X.K ct) (te:=tM X.K G) own fr hN hiN hy hc hi hsw (λcl C s₀ H₀ fp=>hg cl C s₀ H₀ fp) (λcl C s₀ H₀ fp=>hq cl C s₀ H₀ fp) (λcl C s₀ H₀ fp=>he cl C s₀ H₀ fp) hk hnm kO kR hs) λZ J O Y H o E A e k=>by
  obtain⟨⟨x,O1⟩,e1,e⟩:=zh e;cases e;exact znC A e1 λZ' H' v x' R r=>k Z' _ H' x' ((A.ext x' R).set r i)
end
@[simp] def zvb:Option Out->Option (D×Mem)
 |some (.ret d O)=>some (d,O)
 |some (.next _ O)=>some (.non,O)
 |_=>none
@[simp] def zG(N:Qx)(ds:Wm):Loc:=ds.map some++yy (N.length-ds.length) none
def zir{K:yt}{Z:Qv}{H:Hp}{O:Mem}{N:Qx}{ds:Wm}{vs:Wi}(r:tf K Z H ds vs)(R:tF K Z H O):At K Z H (L2.start N vs) (zG N ds) O:=by
 refine⟨λi d e=>?_,R,by unfold L2.start zG;simp[r.length]⟩;unfold zG at e;unfold L2.start
 by_cases hi:i<ds.length
 ·rw[yq (by simpa using hi),yk]at e
  cases e1:ds[i]? with
  |none=>rw[e1]at e;cases e
  |some d'=>
   rw[e1]at e;cases e;obtain⟨v,e2,q⟩:=r.get e1;refine⟨v,?_,q⟩;rw[yq (by simpa[<-r.length] using hi),yk,e2];rfl
 ·rw[yS (by simpa using hi),YM]at e
  split at e<;>cases e
def fnM{P:yu}{w:yG}{K:yt}{mg:yj->Option yb}{base:yU}{x qual:yj}{st:yR}{f:yg}{fd:yP}{N ps:Qx}{k n:Nat}{F:FF}(φ:Fun K x qual st f fd)(S:tj N ps (zo st))(hn:ps.length=n)
 (hbody:∀(cdv:yb)(A:yH)(outer:Qp)(s:yd)(H:Hp)(E:XK),tN k (A.deeper (Xl qual (zo st) s.heap.objs.size f cdv)) ->
  ∃p,MSs (zfv CX0 P w K mg base N qual (zo st) f cdv A outer s H E).nox (z9b st) p/\∀ds O d O',ds.length=n->F ds O=some (d,O')->zvb (p (zG N ds) O)=some (d,O')) :
 tS P w K mg base CX0 (k+1) f fd ps (spM K n F):=by
 refine φ.ok S (λvs H Q E h=>by rw[hn];exact h.1) (λcdv A outer s H vs Q E hr h=>?_);obtain⟨p,hp,hF⟩:=hbody cdv A outer s H E hr;refine⟨_,hp,?_⟩;obtain⟨hl,Z,ds,O,d,O',r,R,e,k⟩:=h;have e':=hF ds O d O' (by rw[r.length];exact hl) e
 cases eo:p (zG N ds) O with
 |none=>rw[eo]at e';cases e'
 |some o=>
  rw[eo]at e';refine⟨Z,zG N ds,O,o,zir r R,eo,?_⟩
  cases o with
  |ret d2 O2=>cases e';exact λZ' v H' x' R' r'=>k Z' H' v x' R' r'
  |next J2 O2=>cases e';exact λZ' Y' H' x' A'=>k Z' H' .non x' A'.hp .non
  |brk _ _=>cases e'
  |cont _ _=>cases e'
  |exc _ _ _=>cases e'
def zLs(sc inner:xG):Bool:=(inner.kind == .function)&&inner.names.all (λy=>inner.names.lookup y.1==some y.2) &&
 inner.names.all λx=>x.2 != .free||sc.names.lookup x.1==some .cell||sc.names.lookup x.1==some .free
def zYh{sc inner:xG}(h:zLs sc inner=true):inner.kind=.function:=by
 unfold zLs at h;simp only[yM,beq_iff_eq]at h;exact h.1.1
def zGm{sc inner:xG}(h:zLs sc inner=true):∀y∈inner.names,inner.names.lookup y.1=some y.2:=by
 unfold zLs at h;simp only[yM]at h;intro y hy;exact beq_iff_eq.mp (List.all_eq_true.mp h.1.2 y hy)
def zsi{sc inner:xG}(h:zLs sc inner=true):∀x∈inner.names,x.2=.free->(sc.names.lookup x.1=some .cell\/sc.names.lookup x.1=some .free):=by
 unfold zLs at h;simp only[yM]at h;intro y hy e;have:=List.all_eq_true.mp h.2 y hy;simpa[e] using this
def zQ{N:Qx}(h:decide N.Nodup=true):N.Nodup:=of_decide_eq_true h
def zRb{P:Nat->Prop}:∀i∈([]:Qf),P i:=λi h=>nomatch h
def zyc{P:Nat->Prop}{i:Nat}{l:Qf}(h:P i)(r:∀j∈l,P j):∀j∈i::l,P j:=λj hj=>by
 rcases List.mem_cons.mp hj with rfl|hj
 ·exact h
 ·exact r j hj
section
variable {X:Cx}{a b c e:yB}{es:Qz}{G ψ χ:FE}{pos:YZ}
def mlc{scope:xG}{elt tg iter:yB}{ifs:Qz}{i:FI}{g:FG}{ct:FT}(own:Qx)(fr:Qf)(hi:MI X tg iter i)
 (hg:∀cl C s₀ H₀ fp,MGc (cxC X own fr scope cl C s₀ H₀ fp) own.length tg g) (hq:∀cl C s₀ H₀ fp,MF (cxC X own fr scope cl C s₀ H₀ fp) ifs ct) (he:∀cl C s₀ H₀ fp,ME (cxC X own fr scope cl C s₀ H₀ fp) elt G)
 (kR:∀i∈fr,∃x,X.N[i]?=some x/\scope.names.lookup x=some .free) (hok:zLs X.env.scope scope=true:=by rfl) (hc:X.calm=true:=by rfl) (hs:∀x,Yu iter X.env x=pure x:=by intro _;rfl) :
 ME X (.ListComp elt [⟨tg,iter,ifs,0⟩] scope pos) (fLC own.length fr i g ct G) :=
 zwB own fr hi hg hq he hc (zYh hok) (zGm hok) (zsi hok) kR hs
def mslc{scope:xG}{elt tg iter:yB}{ifs:Qz}{spos py:YZ}{y:yj}{fi:FI}{g:FG}{ct:FT}(i:Nat)(own:Qx)(fr:Qf)(hi:MI X tg iter fi)
 (hg:∀cl C s₀ H₀ fp,MGc (cxC X own fr scope cl C s₀ H₀ fp) own.length tg g) (hq:∀cl C s₀ H₀ fp,MF (cxC X own fr scope cl C s₀ H₀ fp) ifs ct) (he:∀cl C s₀ H₀ fp,ME (cxC X own fr scope cl C s₀ H₀ fp) elt G)
 (kR:∀i∈fr,∃x,X.N[i]?=some x/\scope.names.lookup x=some .free) (hN:X.N.Nodup) (hiN:X.N[i]?=some y:=by rfl) (hy:X.env.scope.names.lookup y=some .local:=by rfl)
 (hsw:xD (.ListComp elt [⟨tg,iter,ifs,0⟩] scope pos) (some (.Name y py)) spos.line X.env=pure true:=by rfl) (hok:zLs X.env.scope scope=true:=by rfl) (hc:X.calm=true:=by rfl) (hs:∀x,Yu iter X.env x=pure x:=by intro _;rfl) :
 MS X (.Assign [.Name y py] (.ListComp elt [⟨tg,iter,ifs,0⟩] scope pos) spos) (z6c i (fLC own.length fr fi g ct G)) :=
 zvv i own fr hi hg hq he kR hN hiN hy hsw hc (zYh hok) (zGm hok) (zsi hok) hs
structure FnAt(K:yt)(mg:yj->Option yb)(x:yj)(st:yR)(ps:Qx)(f:yg)(fd:yP):Prop where
 fn:Fun K x x st f fd
 at_:mg x=some (.ref f)
 bd:Binds K fd ps []
def tz{k j n:Nat}{st:yR}{f:yg}{fd:yP}{ps:Qx}{F:FF}{x:yj}{p:YZ}{G:FA}(B:FnAt X.K X.mg x st ps f fd)(φ:tS X.prog X.w X.K X.mg X.base CX0 j f fd ps (spM X.K n F))(hr:tN k X.A)
 (ha:MAn X (e::es) G) (hj:j<=k:=by decide) (hn:(e::es).length=n:=by rfl) (hg:Gl X x:=by rfl) (hdb:(x==("__debug__":yj))=false:=by decide) (he:yh (e::es) X.env=(false,yV e X.env)::yh es X.env:=by exact zvc rfl) (kM:(yW pos (yh es X.env)).any (·.1)=false:=by rfl) :
 ME X (.Call (.Name x p) (e::es) [] pos) (zw F G):=zMt φ (hr.mono hj) B.at_ B.fn.kp B.bd ha hn hg hdb he kM
def cat0{prog:yu}{w:yG}{A:yH}{E:yb->yd->Prop}{s:yd}{t b:yg}{vs ws:List yb}{Q:yb->yd->Prop}(ht:IsTup s.heap t vs.toArray)(hb:IsTup s.heap b ws.toArray)(hv:vs=[])(h:Q (.ref b) s) :
 yp (yx prog w) A (xh .Add (.ref t) (.ref b)) Q E s:=by
 obtain⟨⟨cls,dd,data,sl⟩,ho,hc,n,hd⟩:=id ht;obtain⟨⟨cls2,dd2,data2,sl2⟩,ho2,hc2,n2,hd2⟩:=id hb;simp only at hc hd hc2 hd2;subst hc hd hc2 hd2;refine concat_meets ⟨_,ho,rfl⟩ ⟨_,ho2,rfl⟩ noFill_tuple_add seq_tuple_add PySem.F.slot_tuple_add PySem.F.entry_tuple_add (PySem.F.args_tuple_add_2 _ _) (tuple_addW0 t b vs.toArray ws.toArray n n2 dd dd2 sl sl2 (by rw[hv];rfl)) ⟨ho,ho2,h⟩
def zhb:OpM X (xh .Add) zah:=by
 refine OpM.of λU s Y H x y v u Q I rx ry Z dx dy O d O' r1 r2 R e k=>?_;unfold zah at e
 split at e
 ·cases e;rw[r1.int_inv]at rx;rw[r2.int_inv]at ry;obtain⟨t,rfl⟩:=rx;obtain⟨t',rfl⟩:=ry;exact add_int ⟨.int _,H,I.tok _,⟨_,rfl⟩,k Z H _ Ext.refl R .int⟩
 ·rename_i as bs
  obtain⟨h1,e⟩:=zJ e;have h1:=of_decide_eq_true h1;cases e;obtain⟨a1,vs,rfl,e1,q1⟩:=r1.tR;obtain⟨a2,ws,rfl,e2,q2⟩:=r2.tR;have hm:=Ts;have hl1:=q1.length;have hl2:=q2.length
  by_cases hv:vs=[]
  ·cases rx;cases ry;obtain⟨hW,rv,p1,_⟩:=I.tuple (SqT.of (K:=X.K) e1);obtain⟨its2,rv2,p2,_⟩:=I.tuple (SqT.of (K:=X.K) e2);refine cat0 p1 p2 (rv.sB.mpr hv) ⟨.ref a2,H,I,rfl,k Z H _ Ext.refl R ?_⟩;have ha:as=[]:=by rw[hv]at hl1;exact List.length_eq_zero_iff.mp hl1
   rw[ha,List.nil_append];exact r2
  ·refine zsx U s Y H _ _ v u Q I rx ry ⟨a1,a2,vs,ws,rfl,rfl,SqT.of e1,SqT.of e2,hv,by omega,λhw=>?_,λ_ p hp=>?_⟩
   ·have hb:bs=[]:=by rw[hw]at hl2;exact List.length_eq_zero_iff.mp hl2
    rw[hb,Lg]at k;exact k Z H _ Ext.refl R r1
   ·exact k Z _ _ (Ext.new hp) (R.Th hp) (.tup zx ((q1.append q2).ext (Ext.new hp)))
 ·split at e
  ·rename_i hm1 hm2
   obtain⟨h1,e⟩:=zJ e;have h1:=of_decide_eq_true h1;cases e;obtain⟨a1,rfl,e1⟩:=r1.tx;obtain⟨a2,rfl,e2⟩:=r2.tx;obtain⟨vs,e3,q1⟩:=R.at_ _ _ _ e1 hm1;obtain⟨ws,e4,q2⟩:=R.at_ _ _ _ e2 hm2;have hm:=Ts;have hl1:=q1.length;have hl2:=q2.length;exact zgz U s Y H _ _ v u Q I rx ry ⟨a1,a2,vs,ws,rfl,rfl,e3,e4,by omega,λp hp=>k _ _ _ (Ext.push hp) (R.push hp ⟨_,zx,(q1.append q2).ext (Ext.push hp)⟩) (.loc (zwb R))⟩
  ·cases e
 ·cases e
def zNl:fillsNumberSlot (.type "tuple") "mul"=pure false :=
 PyProof.Rows.fillsNumberSlot_seq (id:="tuple.__mul__") (r:=some (.builtin "tuple.__rmul__")) PySem.F.slot_tuple_mul.lookup (by decide +kernel) PySem.F.slot_tuple_rmul.lookup (by decide +kernel)
def zTr:seqRepeat? (.type "tuple")=pure (some (.builtin "tuple.__mul__")):=by
 unfold seqRepeat?;rw[PyProof.Rows.seqSlot_of (T:="tuple") (name:="__mul__") (id:="tuple.__mul__") PySem.F.slot_tuple_mul.lookup (by decide +kernel),PyProof.Rows.seqSlot_of (T:="tuple") (name:="__rmul__") (id:="tuple.__rmul__") PySem.F.slot_tuple_rmul.lookup (by decide +kernel)];rfl
def zFi(i:Int)(t:Tok)(l:yg)(items:Array yb)(n:Nat)(dd:Qw)(sl:Array (Option yb)) :
 Meets (YN.«int.__rmul__» ⟨[.int i t,.ref l],[]⟩) (λ_ R s=>s.heap.get? l=some {cls:=.type "tuple",dict:=dd,data:=.seq items n,slots:=sl }/\R (.ok (.ret Value.notImplemented)) s) :=
 .of_wp λprog w A R s h=>by
  obtain⟨hp,g,d,tk,os⟩:=s;obtain⟨hl,h⟩:=h
  wp_walk
  exact⟨_,rfl,h⟩
def zIm(l:yg)(items:Array yb)(n:Nat)(dd:Qw)(sl:Array (Option yb))(i:Int)(t:Tok)(h2:2<=i)(h3:i<=1000)(h4:items.isEmpty=false)(h5:items.size<=1000)
 (hsz:((yy i.toNat items).foldl (λx1 x2=>x1++x2) #[]).size<=yD) :
 Meets (YN.«tuple.__mul__» ⟨[.ref l,.int i t],[]⟩) (λ_ R s=>s.heap.get? l=some {cls:=.type "tuple",dict:=dd,data:=.seq items n,slots:=sl } /\
  R (.ok (.ret (yI s.heap.objs.size))) {s with heap:=s.heap.push {cls:=YR "tuple",data:=Data.seq ((yy i.toNat items).foldl (λx1 x2=>x1++x2) #[])},toks:=s.toks }) :=
 .of_wp λprog w A R s h=>by
  obtain⟨hp,g,d,tk,os⟩:=s;obtain⟨hl,h⟩:=h;have f1:=AutoSeq1.idx_int
  have c1:¬((decide (i < -(2^63))||decide (i≥2^63))=true):=by
   rw[decide_eq_false (by omega),decide_eq_false (by omega)];exact yF
  have c2:¬((items.isEmpty||i==1)=true):=by
   rw[h4,show(i==1)=false by simp;omega];exact yF
  have c3:¬((decide (i<=0)||items.isEmpty)=true):=by
   rw[h4,decide_eq_false (by omega)];exact yF
  have c4:¬((items.size:Int)*i>(2^63-1) / 8):=by
   have h6:(items.size:Int)*i<=1000*1000:=Int.mul_le_mul (by omega) h3 (by omega) (by omega);omega
  have c5:¬(Builtin.Tuple.tupleTooMany ((items.size:Int)*i)=true):=by
   have h6:(items.size:Int)*i<=1000*1000:=Int.mul_le_mul (by omega) h3 (by omega) (by omega);have hz:(yD:Int)=16777216:=by rw[YC];rfl
   unfold Builtin.Tuple.tupleTooMany;rw[decide_eq_false (by omega)];exact yF
  wp_walk using wpAny_loadPart' hl
  rw[if_neg c1]
  wp_walk using wpAny_loadPart' hl
  rw[if_neg c2];dsimp only;rw[if_neg c3,if_neg c4,if_neg c5];refine ya (m:=xg _) (yX (yi ⟨_,rfl,h⟩) hsz)
def zRl(hW:List yb):∀(n:Nat)(kB:List yb),List.foldl (λx1 x2=>x1++x2) kB.toArray (yy n hW.toArray)=(kB++(yy n hW).flatten).toArray
 |0,kB=>by simp
 |n+1,kB=>by
  rw[Nw,Ln,List.append_toArray,zRl hW n,Nw,Lm,Lf]
def zep{K:yt}{Z:Qv}{H:Hp}{ds:Wm}{vs:Wi}(r:tf K Z H ds vs):∀n:Nat,tf K Z H (yy n ds).flatten (yy n vs).flatten
 |0 =>.nil
 |n+1=>by
  rw[Nw,Nw,Lm,Lm];exact r.append (zep r n)
def zan{vs:Wi}{us:List yb}(r:Vals vs us):∀n:Nat,Vals (yy n vs).flatten (yy n us).flatten
 |0 =>.nil
 |n+1=>by
  rw[Nw,Nw,Lm,Lm];exact r.append (zan r n)
def zNc:OpM X (xh .Mult) zvj:=by
 refine OpM.of λU s Y H x y v u Q I rx ry Z dx dy O d O' r1 r2 R e k=>?_;unfold zvj at e
 split at e
 ·obtain⟨h1,e⟩:=zJ e;cases e;rw[r1.int_inv]at rx;rw[r2.int_inv]at ry;obtain⟨t,rfl⟩:=rx;obtain⟨t',rfl⟩:=ry;exact mul_int ⟨.int _,H,I.tok _,⟨_,rfl⟩,k Z H _ Ext.refl R .int⟩ (z9v h1)
 ·rename_i ds i
  obtain⟨h1,e⟩:=zJ e;have h1:=of_decide_eq_true h1;obtain⟨h2,h3,h4,h5⟩:=h1;cases e;obtain⟨a1,vs,rfl,e1,q1⟩:=r1.tR;rw[r2.int_inv]at ry;cases rx;obtain⟨t,rfl⟩:=ry;obtain⟨hW,rv,⟨⟨cls,dd,data,sl⟩,ho,hc,n,hd⟩,hz⟩:=I.tuple (SqT.of (K:=X.K) e1);simp only at hc hd;subst hc hd;have hl:hW.length=ds.length:=by rw[q1.length,rv.length]
  have kA:((yy i.toNat vs).flatten).length<=yD:=by
   rw[zIu];have hm:=Ts;have h6:i.toNat*vs.length<=1000*1000:=Nat.mul_le_mul (by omega) (by rw[<-q1.length];exact h5);omega
  have e2:=zRl hW i.toNat [];rw[List.nil_append]at e2
  have hsz:((yy i.toNat hW.toArray).foldl (λx1 x2=>x1++x2) #[]).size<=yD:=by
   rw[show(#[]:Array yb)=([]:List yb).toArray from rfl,e2,Nx,<-(zan rv i.toNat).length];exact kA
  refine wpAny_binaryOp_repeat_ref (T:="tuple") (U:="int") (by decide) ⟨_,ho,rfl⟩ (λs'=>typeIs_int s' i t) zNl PySem.F.fills_int_mul PySem.F.slot_int_rmul zTr PySem.F.slot_int_index.lookup
   (xU PySem.F.slot_int_rmul (typeIs_int s i t) PySem.F.entry_int_rmul (PySem.F.args_int_rmul_2 _ _) (zFi i t a1 hW.toArray n dd sl)
    ⟨ho,rfl,⟨_,ho,rfl⟩,xU PySem.F.slot_tuple_mul ⟨_,ho,rfl⟩ PySem.F.entry_tuple_mul (PySem.F.args_tuple_mul_2 _ _) (zIm a1 hW.toArray n dd sl i t h2 h3 (by rw[List.isEmpty_toArray,List.isEmpty_eq_false_iff_exists_mem];exact⟨_,Lp (by omega:0<hW.length)⟩) (by rw[Nx,hl];exact h5) hsz) ⟨ho,?_⟩⟩)
  rw[show(#[]:Array yb)=([]:List yb).toArray from rfl,e2];have hf:=I.hok.fresh (yo s.heap.objs.size);refine⟨.ref s.heap.objs.size,_,I.laid (t':=s.toks) (o:=.tup (yy i.toNat vs).flatten) (λb ob q=>ye _ q) (yo _) ?_,rfl,k Z _ _ (Ext.new hf) (R.Th hf) (.tup zx ((zep q1 i.toNat).ext (Ext.new hf)))⟩;exact⟨kA,_,zan rv i.toNat,IsTup.new _ _⟩
 ·rename_i l n
  split at e
  ·rename_i ds hm
   obtain⟨h1,e⟩:=zJ e;have h1:=of_decide_eq_true h1;obtain⟨h2,h3,h4⟩:=h1;cases e;obtain⟨a1,rfl,ea⟩:=r1.tx;obtain⟨vs,e3,q3⟩:=R.at_ _ _ _ ea hm;refine zaA U s Y H _ _ v u Q I rx ry ⟨a1,n,vs,rfl,r2.int_inv,e3,by omega,by omega,?_,λp hp=>k _ _ _ (Ext.push hp) (R.push hp ⟨_,zx,(zep q3 n.toNat).ext (Ext.push hp)⟩) (.loc (zwb R))⟩;have hmi:=Ts;have h6:vs.length*n.toNat<=1000*1000:=Nat.mul_le_mul (by rw[<-q3.length];exact h4) (by omega);omega
  ·cases e
 ·cases e
abbrev FO:=Loc->Mem->Option (Option Int×Mem)
def tMO(K:yt)(G:FO):TO:=λY H Q=>∃Z J O o O',At K Z H Y J O/\G J O=some (o,O')/\∀Z' H',Ext Z H Z' H'->tF K Z' H' O'->Q o H'
def MO(X:Cx)(e:Option yB)(G:FO):Prop:=PO X e (tMO X.K G)
@[simp] def pNo:FO:=λ_ O=>some (none,O)
@[simp] def zbB(G:FE):FO:=λJ O=>(G J O).bind λp=>match p.1 with
 |.int i=>some (some i,p.2)
 |_=>none
def cutD(xs:Wm)(lo hi:Qk):Wm:=(xs.drop (HT.sIx xs.length 0 lo)).take (HT.sIx xs.length xs.length hi-HT.sIx xs.length 0 lo)
@[simp] def fSl(G:FE)(lo hi:FO):FE:=λJ O=>(G J O).bind λp=>(lo J p.2).bind λl=>(hi J l.2).bind λh=>match p.1 with
 |.tup ds=>some (.tup (cutD ds l.1 h.1),h.2)
 |.loc n=>match h.2[n]? with
  |some (.lst ds)=>some (.loc h.2.length,h.2++[.lst (cutD ds l.1 h.1)])
  |_=>none
 |_=>none
end
def zwu{prog:yu}{w:yG}{A:yH}{E:yb->yd->Prop}{s:yd}{t sl:yg}{items:Array yb}{vl vu:yb}{lo hi:Qk}{Q:yb->yd->Prop}(ht:IsTup s.heap t items)(hs:s.heap.IsSliceOf sl vl vu .none)(pl:IsPart vl lo)(pu:IsPart vu hi)
 (hw:HT.sIx items.size 0 lo=0/\HT.sIx items.size items.size hi=items.size) (h:Q (.ref t) s):yp (yx prog w) A (getItem (.ref t) (.ref sl)) Q E s:=by
 obtain⟨os,hos,hcs,hds⟩:=id hs;have hTs:s.TypeIs (.ref sl) "slice":=⟨os,hos,hcs⟩
 unfold getItem
 try with_reducible refine Yl ?_
 first|refine ya (yi ?_)|skip
 refine ya (wpAny_sequenceKey ht.typeIs (by decide) ?_)
 refine ya (Yp (name:=YV "__getitem__") ht.typeIs xc
  (Yj xc ht.typeIs entry_tuple_getitem ?_ (args_tuple_getitem _ _)))
 show yp _ _ (Builtin.Tuple.tupleItemsOf (.ref t) >>= _) _ _ s;refine ya (tupleItemsOf_ ht ?_);refine ya (wpAny_typeOf hTs ?_);rw[if_pos (by decide)];refine ya (HT.TK hs pl pu ?_)
 have hyes:(((HT.sIx items.size 0 lo:Nat):Int)==0&&(1:Int)==1&&(HT.sIx items.size items.size hi-HT.sIx items.size 0 lo)==items.size)=true:=by
  rw[hw.1,hw.2];simp
 show yp _ _ (if(((HT.sIx items.size 0 lo:Nat):Int)==0&&(1:Int)==1&&(HT.sIx items.size items.size hi-HT.sIx items.size 0 lo)==items.size)=true then _ else _) _ _ s;rw[if_pos hyes];refine ya (m:=Builtin.Tuple.tupleIsExact _) ?_;unfold Builtin.Tuple.tupleIsExact;refine ya (wpAny_typeOf ht.typeIs (yi ?_));rw[if_pos (by decide)];exact ya (wpAny_rule (yi ⟨_,rfl,yi h⟩))
section
variable {X:Cx}{a b c e:yB}{es:Qz}{G ψ χ:FE}{pos p2:YZ}{lo hi:Option yB}
def rSl(K:yt):V->Qk->Qk->Hp->VK->Prop:=λx lo hi H Q=>∃a xs,x=.ref a/\H a=some (.tup xs) /\
 ((HT.sIx xs.length 0 lo=0/\HT.sIx xs.length xs.length hi=xs.length)->Q (.ref a) H)/\∀p,H p=none->Q (.ref p) (upd H p (.tup (zUs xs lo hi)))
def zBz:SlR X (rSl X.K):=by
 intro U s Y H x v vl vu lo hi sl Q I rx hs pl pu h;obtain⟨a,xs,rfl,hx,h1,h2⟩:=h
 by_cases hw:HT.sIx xs.length 0 lo=0/\HT.sIx xs.length xs.length hi=xs.length
 ·cases rx;obtain⟨hW,r,ht,hz⟩:=I.tuple (SqT.of (K:=X.K) hx);have kA:hW.toArray.size=xs.length:=by rw[Nx];exact r.length.symm
  exact⟨"tuple",_,PyProof.Rows.slot_tuple_getitem.lookup,ht.typeIs,zwu ht hs pl pu (by rw[kA];exact hw) ⟨.ref a,H,I,rfl,h1 hw⟩⟩
 ·exact z0z U s Y H _ v vl vu lo hi sl Q I rx hs pl pu ⟨a,xs,rfl,SqT.of hx,hw,h2⟩
def zMz:MO X none pNo:=by intro U s Y H Q I hh;obtain⟨Z,J,O,o,O',A,e,k⟩:=hh;exact zRx U s Y H Q I (by cases e;exact k Z H Ext.refl A.hp)
def zlx(h:ME X e G):MO X (some e) (zbB G):=by intro U s Y H Q I hh;obtain⟨Z,J,O,o,O',A,e,k⟩:=hh;exact zHx h U s Y H Q I (by
 obtain⟨⟨x,O1⟩,e1,e⟩:=zh e;refine⟨Z,J,O,x,O1,A,e1,λZ1 H1 v x1 R1 r1=>?_⟩;dsimp only at e
 split at e
 ·cases e;exact⟨_,r1.int_inv,k Z1 H1 x1 R1⟩
 ·cases e)
def zUp{K:yt}{Z:Qv}{H:Hp}{ds:Wm}{vs:Wi}{lo hi:Qk}(r:tf K Z H ds vs):tf K Z H (cutD ds lo hi) (zUs vs lo hi):=by
 unfold cutD zUs;rw[r.length];exact(r.drop _).take _
def zTA{l h:FO}(he:ME X e G)(hl:MO X lo l)(hu:MO X hi h):ME X (.Subscript e (.Slice lo hi none p2) pos) (fSl G l h) :=
 zdd (zAw (SlR.or zBz zry) he hl hu) λZ J O Y H d O' Q A e k=>by
  obtain⟨⟨x,O1⟩,e1,e⟩:=zh e;obtain⟨⟨o1,O2⟩,e2,e⟩:=zh e;obtain⟨⟨o2,O3⟩,e3,e⟩:=zh e;refine⟨Z,J,O,x,O1,A,e1,λZ1 H1 v x1 R1 r1=>?_⟩;refine⟨Z1,J,O1,o1,O2,A.ext x1 R1,e2,λZ2 H2 x2 R2=>?_⟩;refine⟨Z2,J,O2,o2,O3,A.ext (x1.trans x2) R2,e3,λZ3 H3 x3 R3=>?_⟩;dsimp only at e
  split at e
  ·cases e;obtain⟨a,vs,rfl,ea,q⟩:=(r1.ext (x2.trans x3)).tR;have xx:=x1.trans (x2.trans x3);refine .inl ⟨a,vs,rfl,ea,λhw=>k Z3 H3 _ xx R3 (.tup ea ?_),λp hp=>k Z3 _ _ (xx.trans (Ext.new hp)) (R3.Th hp) (.tup zx ((zUp q).ext (Ext.new hp)))⟩
   have e4:zUs vs o1 o2=vs:=by
    unfold zUs;rw[hw.1,hw.2,Nat.sub_zero,List.drop_zero,Ny]
   have:=zUp (lo:=o1) (hi:=o2) q;rw[e4]at this;exact this
  ·split at e
   ·rename_i hm
    cases e;obtain⟨a,rfl,ea⟩:=(r1.ext (x2.trans x3)).tx;obtain⟨vs,ev,q⟩:=R3.at_ _ _ _ ea hm;have xx:=x1.trans (x2.trans x3);exact .inr ⟨a,vs,rfl,SqL.of ev,λp hp=>k _ _ _ (xx.trans (Ext.push hp)) (R3.push hp ⟨_,zx,(zUp q).ext (Ext.push hp)⟩) (.loc (zwb R3))⟩
   ·cases e
  ·cases e
@[simp] def zEC(G:FE):FE:=λJ O=>(G J O).bind λp=>match p.1 with
 |.int i=>some (.int (-i),p.2)
 |_=>none
def big{U:Qb}{Y:L2.St}{H:Hp}{s:yd}(I:Inv X U Y H s):sysModules<s.heap.objs.size:=by
 have h:yf<s.heap.objs.size:=(I.mod.glob.keeps I.bk).lt;exact Nat.lt_trans (by decide) h
@[simp] def zaB:FE:=λ_ O=>some (.loc O.length,O++[.dct []])
def zcx:ME X (.Dict [] [] pos) zaB:=by
 intro U s Y H Q I hh;obtain⟨Z,J,O,d,O',A,e,k⟩:=hh;cases e;have hf:=I.hok.fresh (yo s.heap.objs.size);refine wpAny_Dict_empty ⟨.ref s.heap.objs.size,_,I.laid (a:=s.heap.objs.size) (o:=.dK []) (t':=s.toks) (λ_ _ q=>ye _ q) (yo _) ?_,rfl,k _ _ _ (Ext.push hf) (A.hp.push hf ⟨[],zx,rfl,.nil⟩) (.loc (zwb A.hp))⟩;exact⟨Ys _,beq_eq_false_iff_ne.mpr (Yi (yC (big I))),[],.nil,Heap.DictOf.new _⟩
def zve:D->Bool
 |.non | .bl _ | .int _ | .str _=>true
 |_=>false
def eqF:D->D->Bool
 |.non,.non=>true
 |.bl a,.bl b=>a==b
 |.bl a,.int b=>(if a then 1 else 0)==b
 |.int a,.bl b=>a==(if b then 1 else 0)
 |.int a,.int b=>a==b
 |.str a,.str b=>a==b
 |_,_=>false
def zoj:φ2:=λx y O=>(items O y).bind λds=>bif zve x&&ds.all zve then some (.bl (!ds.any λd=>eqF d x),O) else none
def ztm{K:yt}{Z:Qv}{H:Hp}{d:D}{v:V}(r:tq K Z H d v)(f:zve d=true):zFk v=true:=by
 cases d with
 |non=>rw[r.tG];rfl
 |bl b=>rw[r.tI];rfl
 |int b=>rw[r.int_inv];rfl
 |str b=>rw[r.str_inv];rfl
 |_=>cases f
def ztu{K:yt}{Z:Qv}{H:Hp}{d d':D}{v v':V}(r:tq K Z H d v)(r':tq K Z H d' v')(f:zve d=true)(f':zve d'=true):eqV v v'=eqF d d':=by
 cases d with
 |non=>rw[r.tG];cases d' with
  |non=>rw[r'.tG];rfl
  |bl b=>rw[r'.tI];rfl
  |int b=>rw[r'.int_inv];rfl
  |str b=>rw[r'.str_inv];rfl
  |_=>cases f'
 |bl b=>rw[r.tI];cases d' with
  |non=>rw[r'.tG];rfl
  |bl b=>rw[r'.tI];rfl
  |int b=>rw[r'.int_inv];rfl
  |str b=>rw[r'.str_inv];rfl
  |_=>cases f'
 |int b=>rw[r.int_inv];cases d' with
  |non=>rw[r'.tG];rfl
  |bl b=>rw[r'.tI];rfl
  |int b=>rw[r'.int_inv];rfl
  |str b=>rw[r'.str_inv];rfl
  |_=>cases f'
 |str b=>rw[r.str_inv];cases d' with
  |non=>rw[r'.tG];rfl
  |bl b=>rw[r'.tI];rfl
  |int b=>rw[r'.int_inv];rfl
  |str b=>rw[r'.str_inv];rfl
  |_=>cases f'
 |_=>cases f
def z3s{K:yt}{Z:Qv}{H:Hp}{x:D}{v:V}(rx:tq K Z H x v)(fx:zve x=true):∀{ds:Wm} {vs:Wi},tf K Z H ds vs->ds.all zve=true->vs.all zFk=true/\inV v vs=ds.any λd=>eqF d x
 |[],_,r,_=>by rw[r.nil_inv];exact⟨rfl,rfl⟩
 |d::ds,_,r,f=>by
  obtain⟨w,ws,rfl,r1,r2⟩:=r.cons_inv;rw[La,yM]at f;obtain⟨h1,h2⟩:=z3s rx fx r2 f.2;refine⟨by rw[La,ztm r1 f.1,h1];rfl,?_⟩;unfold inV at h2 ⊢;rw[Lc,Lc,h2,ztu r1 rx f.1 fx]
def zui:OpM X (Yg .NotIn) zoj:=by
 refine OpM.of λU s Y H x y v u Q I rx ry Z dx dy O d O' r1 r2 R e k=>?_;obtain⟨ds,e1,e⟩:=zh e;obtain⟨h1,e⟩:=zJ e;rw[yM]at h1;cases e;obtain⟨p,vs,rfl,hq,rr⟩:=zki R r2 e1;obtain⟨h3,h4⟩:=z3s r1 h1.1 rr h1.2;exact zOn U s Y H x _ v u Q I rx ry ⟨p,vs,rfl,hq,ztm r1 h1.1,h3,by rw[if_pos rfl,h4];exact k Z H _ Ext.refl R .bl⟩
abbrev GM:=D->Wm->Mem->Option (D×Mem)
@[simp] def zPn(g:GM)(G:FE)(ψ:FA):FE:=λJ O=>(G J O).bind λp=>match p.1 with
 |.loc n=>match p.2[n]? with
  |some (.lst _)=>(ψ J p.2).bind λq=>g (.loc n) q.1 q.2
  |_=>none
 |_=>none
@[simp] def znh:GM:=λx ds O=>match x,ds with
 |.loc n,[d]=>match O[n]? with
  |some (.lst xs)=>bif decide (xs.length<=1000000) then some (.non,O.set n (.lst (xs++[d]))) else none
  |_=>none
 |_,_=>none
def MtG(X:Cx)(id:String)(g:GM):Prop:=MtR X id λx xs H Q=>∃Z dx ds O d O',tq X.K Z H dx x/\tf X.K Z H ds xs/\tF X.K Z H O/\g dx ds O=some (d,O')/\∀Z' H' v,Ext Z H Z' H'->tF X.K Z' H' O'->tq X.K Z' H' d v->Q v H'
def MtG.of{X:Cx}{id:String}{g:GM}(h:∀(U:Qb) (s:yd) (Y:L2.St) (H:Hp) (x:V) (xs:Wi) (v:yb) (us:List yb) (Q:VK),Inv X U Y H s->RelV x v->Vals xs us->∀(Z:Qv)(dx:D)(ds:Wm)(O:Mem)(d:D)(O':Mem),tq X.K Z H dx x->tf X.K Z H ds xs->tF X.K Z H O->g dx ds O=some (d,O')->(∀Z' H' v,Ext Z H Z' H'->tF X.K Z' H' O'->tq X.K Z' H' d v->Q v H')->yp (yx X.prog X.w) X.A (call (.builtin id) (v::us)) (EP X U Y Q) X.xe s):MtG X id g:=by
 intro U s Y H x xs v us Q I rx rs hh;obtain⟨Z,dx,ds,O,d,O',r1,r2,R,e,k⟩:=hh;exact h U s Y H x xs v us Q I rx rs Z dx ds O d O' r1 r2 R e k
def zRt{o:yB}{ψ:FA}{name:yj}{id:String}{g:GM}{kD:YZ}(slot:Slot "list" name id)(hty:typeOf (.builtin id)=pure (.type "method_descriptor"))(hm:MtG X id g)(ho:ME X o G)(ha:MAn X (e::es) ψ)
 (kG:Yq o name X.env (yV o X.env)=yV o X.env:=by rfl)
 (kH:((yW pos (yh (e::es) X.env)).all (λx=>!x.1)&&(xi pos (Yv [] X.env)).all (λx=>x.1.isSome)
  && decide ((e::es).length+([]:List YQ).length+(if([]:List YQ).isEmpty then 0 else 1)<30))=true:=by rfl)
 (kE:(kD.endLine==pos.line)=true:=by rfl) (hs:yh (e::es) X.env=(false,yV e X.env)::yh es X.env:=by rfl) (kF:(yW pos (yh es X.env)).any (·.1)=false:=by rfl) :
 ME X (.Call (.Attribute o name kD) (e::es) [] pos) (zPn g G ψ) :=
 zdd (zrw PySem.F.plainAttrs_list slot hty hm ho ha.ma kG kH kE hs kF) λZ J O Y H d O' Q A e k=>by
  obtain⟨⟨x,O1⟩,e1,e⟩:=zh e;refine⟨Z,J,O,x,O1,A,e1,λZ1 H1 v x1 R1 r1=>?_⟩;dsimp only at e
  split at e
  ·split at e
   ·rename_i hm'
    obtain⟨⟨ds,O2⟩,e2,e⟩:=zh e;obtain⟨a,rfl,ea⟩:=r1.tx;obtain⟨vs,e3,q3⟩:=R1.at_ _ _ _ ea hm';refine⟨.inl ⟨rfl,vs,SqL.of e3⟩,Z1,J,O1,ds,O2,A.ext x1 R1,e2,λZ2 H2 vs2 x2 R2 r2=>?_⟩;exact⟨Z2,_,ds,O2,d,O',r1.ext x2,r2,R2,e,λZ3 H3 v3 x3 R3 r3=>k Z3 H3 v3 (x1.trans (x2.trans x3)) R3 r3⟩
   ·cases e
  ·cases e
def zEr:MtG X "list.append" znh:=by
 refine MtG.of λU s Y H x xs v us Q I rx rs Z dx ds O d O' r1 r2 R e k=>?_;unfold znh at e
 split at e
 ·split at e
  ·rename_i hm
   obtain⟨h1,e⟩:=zJ e;have h1:=of_decide_eq_true h1;cases e;obtain⟨a,rfl,ea⟩:=r1.tx;obtain⟨vs,e3,q3⟩:=R.at_ _ _ _ ea hm;obtain⟨w,r,rfl,q1,q2⟩:=r2.cons_inv;rw[q2.nil_inv]at rs;have hl:=q3.length;have hmi:=Ts;have kP:Mut (H a):=by rw[e3];trivial
   refine zgt U s Y H _ _ v us Q I rx rs ⟨a,vs,w,rfl,rfl,e3,by omega,?_⟩;exact k Z _ _ (Ext.wr kP) (R.wr kP ea ⟨_,zx,tf.ext (Ext.wr kP) (q3.append (.cons q1 .nil))⟩) .non
  ·cases e
 ·cases e
def zYk{o:yB}{ψ:FA}{kD:YZ}(ho:ME X o G)(ha:MAn X (e::es) ψ)
 (kG:Yq o "append" X.env (yV o X.env)=yV o X.env:=by rfl)
 (kH:((yW pos (yh (e::es) X.env)).all (λx=>!x.1)&&(xi pos (Yv [] X.env)).all (λx=>x.1.isSome)
  && decide ((e::es).length+([]:List YQ).length+(if([]:List YQ).isEmpty then 0 else 1)<30))=true:=by rfl)
 (kE:(kD.endLine==pos.line)=true:=by rfl) (hs:yh (e::es) X.env=(false,yV e X.env)::yh es X.env:=by rfl) (kF:(yW pos (yh es X.env)).any (·.1)=false:=by rfl) :
 ME X (.Call (.Attribute o "append" kD) (e::es) [] pos) (zPn znh G ψ):=zRt PySem.F.slot_list_append PySem.F.type_list_append zEr ho ha kG kH kE hs kF
end
end M
namespace M
open PySem
def RS(xs:Array Nat):Prop:=xs.toList.Pairwise (· < ·)
structure TOk(L:Bool)(t:SetTable):Prop where
 rs:RS t.place
 nd:t.dummies = #[]
 led:t.led=L
section
variable {prog:yu}{w:yG}{A:yH}{E:yb->yd->Prop}{s:yd}
def stored{o:YH}{h:yU}{a:yg}{es:Array (Int×yb)}{ep:Nat}{t:SetTable}(ho:h.get? a=some o)(hd:o.data=.set es ep t)(es1:Array (Int×yb))(t1:SetTable) :
 (h.update a (Obj.putSet es1 t1)).get? a=some {o with data:=.set es1 (ep+1) t1 }:=by
 have e:=putSet_of es1 t1 hd;have q:=Yb (Obj.putSet es1 t1) ho (by rw[e];rfl);rw[e]at q;exact q
end
def Tt:Slot "set_iterator" "__next__" "set_iterator.__next__" :=
 .of (owner:="set_iterator") (n:="__next__") (by rw[typeLookup_type,Xc];kernel_rfl) (by decide +kernel) (by decide +kernel) (by decide +kernel) (by first|exact .inl (by decide +kernel)|exact .inr (by decide +kernel)) (by rw[isSubtype_type];kernel_rfl)
def zij:Slot "set_iterator" "__iter__" "set_iterator.__iter__" :=
 .of (owner:="set_iterator") (n:="__iter__") (by rw[typeLookup_type,Xc];kernel_rfl) (by decide +kernel) (by decide +kernel) (by decide +kernel) (by first|exact .inl (by decide +kernel)|exact .inr (by decide +kernel)) (by rw[isSubtype_type];kernel_rfl)
def zsm:entryFor table "set_iterator.__next__"=some YN.«set_iterator.__next__»:=entryFor_of_tree (by kernel_rfl)
def z4m:entryFor table "set_iterator.__iter__"=some YN.«dict_keyiterator.__iter__»:=entryFor_alias (id':="dict_keyiterator.__iter__") (by kernel_rfl) rfl (by decide +kernel) (by kernel_rfl)
def zJn(a:yb):argsOk "set_iterator.__next__" ⟨[a],[]⟩:=by unfold argsOk;kernel_rfl
def zSn(a:yb):argsOk "set_iterator.__iter__" ⟨[a],[]⟩:=by unfold argsOk;kernel_rfl
def zco:entryFor table "set.__iter__"=some YN.«frozenset.__iter__»:=entryFor_alias (id':="frozenset.__iter__") (by kernel_rfl) rfl (by decide +kernel) (by kernel_rfl)
def SIt(h:yU)(it a:yg)(first:yb)(i n ep:Nat):Prop:=∃o,h.get? it=some o/\o.cls=.type "set_iterator"/\o.data=.fields #[first,.int i 0,.ref a,.int n 0,.int ep 0]
def SOb(h:yU)(a:yg)(es:Array (Int×yb))(ep:Nat)(t:SetTable):Prop:=∃o,h.get? a=some o/\o.cls=.type "set"/\o.data=.set es ep t/\t.fits es.size=true
section
variable {prog:yu}{w:yG}{A:yH}{E:yb->yd->Prop}{s:yd}
def SIt.typeIs{it a:yg}{first:yb}{i n ep:Nat}(x:SIt s.heap it a first i n ep):s.TypeIs (.ref it) "set_iterator":=let ⟨o,ho,hc,_⟩:=x;⟨o,ho,hc⟩
def SIt.at'{h h':yU}{it a:yg}{first:yb}{i n ep:Nat}(x:SIt h it a first i n ep)(k:∀o,h.get? it=some o->h'.get? it=some o):SIt h' it a first i n ep:=let ⟨o,ho,r⟩:=x;⟨o,k o ho,r⟩
def SOb.at'{h h':yU}{a:yg}{es:Array (Int×yb)}{ep:Nat}{t:SetTable}(x:SOb h a es ep t)(k:∀o,h.get? a=some o->h'.get? a=some o):SOb h' a es ep t:=let ⟨o,ho,r⟩:=x;⟨o,k o ho,r⟩
def zny{it:yg}{o:YH}{vs:Array yb}{Q:Option yb->yd->Prop}(hh:A.handled=none)(ho:s.heap.get? it=some o)(hd:o.data=.fields vs)(h2:2<vs.size)
 (hQ:∀h',Heap.ExtBut it s.heap h'->Q none {s with heap:=h' }) :
 yp (yx prog w) A.in1 (do setField (.ref it) 2 .none;raiseNew (<-newExc (.type "StopIteration") []):Sem Fin)
  (λ_ _=>False) (λe s'=>yp (yx prog w) A (do if <-isInstance e (.type "StopIteration") then pure none else throw e) Q E s') s:=by
 refine ya (xu ho hd h2 ?_);refine ya ?_;simp only[newExc,newTuple];refine ya (yX ?_ (by size_fits));refine ya (m:=Xk _ _) (wpAny_of_eq (a:=Ym) (by first|rfl|(simp only[Xk];rfl)) ?_);refine yX ?_ (by size_fits);simp only[raiseNew];refine ya (wpAny_handled ?_);have e:A.in1.handled=none:=hh;rw[e];refine ya (yi (wpAny_throw ?_));refine ya (Xq (T:="StopIteration") (b:=true) ⟨_,yr _ rfl,rfl⟩ isSubtype_stop ?_);exact yi (hQ _ (((Heap.SameBut.update s.heap it _).extBut.push _).push _))
variable {it a:yg}{es:Array (Int×yb)}{ep i:Nat}{t:SetTable}{Q:Option yb->yd->Prop}
def zHy(n:Nat):¬(((n:Int) != (n:Int))=true):=by simp
def zas{slot:Nat}(hh:A.handled=none)(hI:SIt s.heap it a (.int slot 0) i es.size ep)(hO:SOb s.heap a es ep t)
 (hn:∀(Q':Option (yb×Nat)->yd->Prop) (E':yb->yd->Prop),Q' none s->yp (yx prog w) A.in1 (setNext a slot i ep) Q' E' s)
 (hQ:∀h',Heap.ExtBut it s.heap h'->Q none {s with heap:=h' }):yp (yx prog w) A (pyNext (.ref it)) Q E s:=by
 obtain⟨o,ho,hc,hd⟩:=id hI;obtain⟨oa,hoa,_,kU,hfa⟩:=hO;unfold pyNext;refine ya (wpAny_attempt (Yp (name:=YV "__next__") hI.typeIs Tt (Yj Tt hI.typeIs zsm ?_ (zJn _))));unfold YN.«set_iterator.__next__»;refine ya (m:=slotArgs "__next__" 0 ⟨[yI it],[]⟩) (yi ?_);refine ya (wpAny_fieldsOf ho hd ?_);dsimp only;refine ya (wpAny_setEntries_of hoa kU hfa ?_);rw[if_neg (zHy es.size)];refine ya (hn _ _ ?_);dsimp only;exact yZ (zny (Q:=Q) (E:=E) hh ho hd (by simp) hQ) (λ_ _ z=>z.elim) λ_ _ z=>z
def zDh{Q:Bool->yd->Prop}(h:Q (w.params.followText "set-order") s):yp (yx prog w) A setsByText Q E s:=by
 unfold setsByText;exact ya (wpAny_askSetting (yi h))
def zIt{slot:Nat}(hw:w.params.followText "set-order"=true)(hO:SOb s.heap a es ep t){Q:Option (yb×Nat)->yd->Prop}(h:Q (((pickOrder (w.params.setOrder a ep) es)[i]?).map λe=>(e.2,slot)) s) :
 yp (yx prog w) A (setNext a slot i ep) Q E s:=by
 obtain⟨oa,hoa,_,kU,hfa⟩:=hO;unfold setNext;refine ya (Xh hoa kU hfa ?_);dsimp only;refine ya (zDh ?_);rw[hw,if_pos rfl,if_neg (by simp)];unfold setWalk;refine ya (ya (Xh hoa kU hfa ?_));dsimp only;refine ya (zDh ?_);rw[hw,if_pos rfl];exact ya (wpAny_askSetting (yi (yi h)))
variable {I:yg}
def zSx{first:yb}{n:Nat}{Q:yb->yd->Prop}(hI:SIt s.heap I a first i n ep)(h:Q (.ref I) s):yp (yx prog w) A (pyIter (.ref I)) Q E s:=by
 refine wpAny_pyIter_slot hI.typeIs zij (Yj zij hI.typeIs z4m ?_ (zSn _));unfold YN.«dict_keyiterator.__iter__»;refine ya (m:=slotArgs "__iter__" 0 ⟨[yI I],[]⟩) (yi ?_);exact yi ⟨_,rfl,"set_iterator",_,hI.typeIs,Tt.lookup,h⟩
def zMv{Q:Bool->yd->Prop}(hT:s.TypeIs (.ref a) "set")(hq:Q false s):yp (yx prog w) A (xr (.ref a)) Q E s:=by
 unfold xr;refine ya (xn hT F.slot_set_len.lookup ?_);generalize hn:("set.__len__":String)=nm
 wp_delta
 rw[show splitId nm=some ("set","__len__") from by subst hn;decide +kernel];subst hn;refine ya (Xq (T:="set") (b:=true) hT (by rw[isSubtype_type];kernel_rfl) ?_);refine xb (λno=>absurd no (by decide)) λ_=>?_;refine xb (λ_=>?_) λno=>absurd (by decide +kernel) no;exact ya (wpAny_typeOf hT (yi hq))
end
end M
namespace M
open PySem PyProof.Rows
section
variable {prog:yu}{w:yG}{A:yH}{E:yb->yd->Prop}{s:yd}{a:yg}
def zrz(s:yd)(ks:Qg)(p:yg)(s':yd):Prop :=
 ∃(out:Array yb)(ns:Qg)(e:Nat),s'.heap.get? p=some {cls:=.type "list",data:=.seq out e }/\IntsAre out.toList ns/\ns.Perm ks/\ns.Pairwise (·<=·)/\s.heap.objs.size<=p/\(∀b o,s.heap.get? b=some o->s'.heap.get? b=some o)/\s'.os=s.os/\s'.gens=s.gens
variable {R:Result->yd->Prop}{I:yg}{fp wr:Qv}{n:Nat}{P:Nat->yb->Prop}{St:Nat->yU->Prop}
abbrev zCg(w:yG):YH:={cls:=.type "set",dict:=none,data:=.set #[] 0 (.fresh 0 0 (!w.params.followText "set-order"))}
def zLy(a:yb){Q:yb->yd->Prop}(h:Q (.ref s.heap.objs.size) {s with heap:=s.heap.push (zCg w)}) :
 Xf (yx prog w) A (.call (.builtin "set.__new__") ⟨[.type "set",a],[]⟩) (wants Q E) s:=by
 refine codeAny_of_tree ?_;show yp _ A.in1 (do checkBuiltinCall "set.__new__" ⟨[.type "set",a],[]⟩;again (.builtin "set.__new__" ⟨[.type "set",a],[]⟩)) _ _ s;refine ya (wpAny_of_eq (PySem.F.newCall_set_1 a) (yi ⟨plainId_quiet PySem.F.plain_set_new _,xm PySem.F.entry_set_new ?_⟩));rw[xk PySem.F.plain_set_new _];unfold YN.«set.__new__» Builtin.Frozenset.newClass;have kX:=PySem.sub_set_self;obtain⟨hp,g,d,tk,os⟩:=s;dsimp only
 wp_walk
 refine wpAny_askSetting (yi ?_);dsimp only;simp only[newObj];refine ya (wpAny_alloc (yi ?_));exact yi h
end
end M
namespace M
open PySem PySem.Spec PyProof.Rows L2
section
variable {X:Cx}{U:Qb}{Y:L2.St}{H:Hp}{s s':yd}
def zgr{p:yg}{o:HO}(I:Inv X U Y H s)(ho:s'.os=s.os)(hg:s'.gens=s.gens)(k:∀b u,s.heap.get? b=some u->s'.heap.get? b=some u)(hp:s.heap.objs.size<=p)(new:tD X.prog X.w (upd H p o) s'.heap p o):Inv X U Y (upd H p o) s' :=
 I.SD (ch:=[]) ho (Un.laid k hp (I.hok.fresh hp)) (I.hok.laid k hp new) (by rw[hg];exact I.bare) λb z=>nomatch z
def zNg:∀{us:List yb} {ns:Qg},IntsAre us ns->Vals (ns.map V.int) us
 |_,_,.nil =>.nil
 |_,_,.cons n t r =>.cons ⟨t,rfl⟩ (zNg r)
end
def zGC:D->Qk
 |.int i=>some i
 |_=>none
def zzk(ds:Wm):Option (Qg):=ds.mapM zGC
@[simp] theorem zEh:∀ns:Qg,zzk (ns.map D.int)=some ns
 |[]=>rfl
 |i::ns=>by
  have:=zEh ns;unfold zzk at this ⊢;rw[Nf,Nb,this];rfl
def zAi:∀{ds:Wm} {ns:Qg},zzk ds=some ns->ds=ns.map D.int
 |[],ns,h=>by
  unfold zzk at h;simp at h;subst h;rfl
 |d::ds,ns,h=>by
  unfold zzk at h;rw[Nb]at h;obtain⟨i,e1,h⟩:=zh h;obtain⟨r,e2,h⟩:=zh h;cases h
  cases d with
  |int j=>cases e1;rw[zAi (show zzk ds=some r from e2)];rfl
  |_=>cases e1
def zbr{K:yt}{Z:Qv}{H:Hp}:∀{ns:Qg} {vs:Wi},tf K Z H (ns.map D.int) vs->vs=ns.map V.int
 |[],vs,r=>r.nil_inv
 |i::ns,vs,r=>by
  obtain⟨v,q,rfl,h1,h2⟩:=r.cons_inv;rw[h1.int_inv,zbr h2];rfl
def zwi{K:yt}{Z:Qv}{H:Hp}:∀{ns:Qg},tf K Z H (ns.map D.int) (ns.map V.int)
 |[] =>.nil
 |i::ns =>.cons .int zwi
def zvf{a b:Qg}(p:a.Perm b)(ha:a.Pairwise (·<=·))(hb:b.Pairwise (·<=·)):a=b:=p.eq_of_pairwise (λ_ _ _ _ h1 h2=>Int.le_antisymm h1 h2) ha hb
def zhn(ns:Qg):(ns.mergeSort λa b=>decide (a<=b)).Pairwise (·<=·):=by
 have:=List.pairwise_mergeSort (le:=λa b:Int=>decide (a<=b)) (λa b c h1 h2=>by simp at h1 h2 ⊢;omega) (λa b=>by simp;omega) ns;exact this.imp λh=>by simpa using h
section
variable {X:Cx}{a b c e:yB}{es:Qz}{G ψ χ:FE}{pos pos2 p1 p2:YZ}
variable {prog:yu}{w:yG}{A:yH}{E:yb->yd->Prop}{s:yd}
@[simp] def zWf(G:FE):FI:=λJ O=>(G J O).bind λp=>match p.1 with
 |.tup ds=>some (ds,yes,p.2)
 |.fz ds=>some (ds,yes,p.2)
 |.loc n=>match p.2[n]? with
  |some (.lst ds)=>some (ds,zQo n ds,p.2)
  |_=>none
 |_=>none
def zYb{tg:yB}(h:ME X a G):MI X tg a (zWf G):=by
 intro U s Y H R I hh;obtain⟨Z,J,O,ds,ok,O',A,e,k⟩:=hh
 cases e1:G J O with
 |none=>unfold zWf at e;rw[e1]at e;cases e
 |some p=>
  obtain⟨x,O1⟩:=p
  cases x with
  |tup zs=>exact zlA h U s Y H R I ⟨Z,J,O,ds,ok,O',A,by unfold zWf at e;unfold znx;rw[e1]at e ⊢;exact e,k⟩
  |fz zs=>exact zVt h U s Y H R I ⟨Z,J,O,ds,ok,O',A,by unfold zWf at e;unfold sL;rw[e1]at e ⊢;exact e,k⟩
  |loc n=>exact zVt h U s Y H R I ⟨Z,J,O,ds,ok,O',A,by unfold zWf at e;unfold sL;rw[e1]at e ⊢;exact e,k⟩
  |_=>unfold zWf at e;rw[e1]at e;cases e
end
def zHo{K:yt}{h:yU}{C:yg}{bmB:List yb}{newId:String}(X:K.In h)(q:W.excIn K C bmB newId=true) :
 ∃bm N nm qn bs hdct sn sub ab col dd k0 k1 k2 k3 k5 mN,h.get? C=some (xl nm qn C N bs bm hdct sn sub ab col dd k0 k1 k2 k3 k5 newId)/\h.Ns N mN/\mN "__init__"=none/\OwnTail h bmB bm:=by
 unfold W.excIn at q
 split at q
 ·rename_i dd cd sl ho
  split at q
  ·rename_i C' bm k0 k1 k2 k3 n k5 hm hs
   simp only[yM,beq_iff_eq,Bool.not_eq_true']at q;obtain⟨⟨⟨⟨⟨rfl,rfl⟩,hdel⟩,ht⟩,hok⟩,hni⟩:=q;obtain⟨nm,bs,mro,ns,qn,hd,sn,sub,ab,col,del⟩:=cd;dsimp only at hm hdel hok hni;subst hm hdel
   have hsl:sl = #[k0,k1,k2,k3,some (.builtin n),k5]:=by
    obtain⟨l⟩:=sl;simp only at hs;rw[hs]
   subst hsl;exact⟨bm,ns,nm,qn,bs,hd,sn,sub,ab,col,dd,k0,k1,k2,k3,k5,_,X _ _ ho,.of_isNs (W.isNs_of_in X hok),W.nsMap_none_of_in X hok hni,W.tail_of_in X ht⟩
  ·cases q
 ·cases q
section
variable {X:Cx}{e:yB}{es:Qz}{pos np cpos:YZ}{x:yj}{C:yg}{B newId initId:String}{bmB:List yb}
@[simp] def zEo(c:yj)(G:FA):FS:=λJ O=>(G J O).bind λp=>some (.exc c [] p.2)
def zkq{G:FA}(hn:yJ X.K yf x=some (some (.ref C)))(q:W.excIn X.K C bmB newId=true)(FB:ExcBaseFacts B newId initId bmB)(ha:MAn X (e::es) G)(hl:(e::es).length<=1000:=by decide)(hh:X.calm=true:=by rfl)(hg:Gl X x:=by rfl)
 (he:yh (e::es) X.env=(false,yV e X.env)::yh es X.env:=by exact zvc rfl) (kM:(yW cpos (yh es X.env)).any (·.1)=false:=by rfl) (hdb:(x==("__debug__":yj))=false:=by decide) :
 MS X (.Raise (some (.Call (.Name x np) (e::es) [] cpos)) none pos) (zEo x G):=by
 intro U s Y H D I ⟨Z,J,O,o,A,eo,k⟩;obtain⟨⟨ds,O1⟩,e1,eo⟩:=zh eo;cases eo;obtain⟨bm,N,nm,qn,bs,hdct,sn,sub,ab,col,dd,k0,k1,k2,k3,k5,mN,hC,hN,hni,T⟩:=zHo I.mod.kin q
 have kM':(yW cpos (yh (e::es) X.env)).any (·.1)=false:=by
  rw[he];show(false||(yW cpos (yh es X.env)).any (·.1))=false;rw[kM];rfl
 refine wpAny_Raise_call_subT (C:=C) (nm:=nm) (q:=qn) (N:=N) (bs:=bs) (bm:=bm) (hdct:=hdct) (sn:=sn) (sub:=sub) (ab:=ab) (col:=col) (dd:=dd) (k0:=k0) (k1:=k1) (k2:=k2) (k3:=k3) (k5:=k5)
  FB (mN:=mN) (T.hasType FB.hasBase) (I.ok.hd hh) kM' hni (zpf I hg (Yx I.mod.kin I.mod.glob hn) ⟨rfl,?_⟩ hdb)
 have h:=ha.ma cpos U s Y H (λvs H'=>vs.length<=yD/\zGl X (.ref C) none H') I ⟨Z,J,O,ds,O1,A,e1,λZ' H' vs x' R r=>⟨by
  rw[<-r.length,ha.len _ _ _ _ e1];exact YI (TY hl),k Z' H' C none hn x' R (.inl ⟨rfl,rfl⟩)⟩⟩
 rw[he]at h ⊢;refine Xn (yZ h (λus s2 h2=>?_) λ_ _ y=>y);obtain⟨vs,H',I',r,hl,hw⟩:=h2;exact⟨rfl,by rw[<-r.length];exact hl,I'.bk _ _ hC,hN.keeps I'.bk,T.keeps I'.bk,λh' a hm=>hw U Y H' s2 (.ref a) _ I' (I'.madeX hm)⟩
end
inductive RO where
 |ok (d:D) (O:Mem)
 |exc (c:yj) (fs:Wq) (O:Mem)
abbrev FX:=Wm->Mem->Option RO
def ROk(K:yt)(Z:Qv)(H:Hp)(Q:VK)(E:XK):RO->Prop
 |.ok d O'=>∀Z' H' v,Ext Z H Z' H'->tF K Z' H' O'->tq K Z' H' d v->Q v H'
 |.exc c fs O'=>∀Z' H' C dx,yJ K yf c=some (some (.ref C))->Ext Z H Z' H'->tF K Z' H' O'->Si K Z' H' fs dx->E (.ref C) dx H'
def ROk.ext{K:yt}{Z Z1:Qv}{H H1:Hp}{Q:VK}{E:XK}{r:RO}(h:ROk K Z H Q E r)(x:Ext Z H Z1 H1):ROk K Z1 H1 Q E r:=by
 cases r with
 |ok d O=>exact λZ' H' v x' R r=>h Z' H' v (x.trans x') R r
 |exc c fs O=>exact λZ' H' C dx hc x' R r=>h Z' H' C dx hc (x.trans x') R r
def spX(K:yt)(n:Nat)(F:FX):Sp:=λvs H Q E=>vs.length=n/\∃Z ds O r,tf K Z H ds vs/\tF K Z H O/\F ds O=some r/\ROk K Z H Q E r
@[simp] def zaz:Option Out->Option RO
 |some (.ret d O)=>some (.ok d O)
 |some (.next _ O)=>some (.ok .non O)
 |some (.exc c fs O)=>some (.exc c fs O)
 |_=>none
def fnX{P:yu}{w:yG}{K:yt}{mg:yj->Option yb}{base:yU}{x qual:yj}{st:yR}{f:yg}{fd:yP}{N ps:Qx}{k n:Nat}{F:FX}(φ:Fun K x qual st f fd)(S:tj N ps (zo st))(hn:ps.length=n)
 (hbody:∀(cdv:yb)(A:yH)(outer:Qp)(s:yd)(H:Hp)(E:XK),tN k (A.deeper (Xl qual (zo st) s.heap.objs.size f cdv)) ->
  ∃p,MSs (zfv (CXq P w) P w K mg base N qual (zo st) f cdv A outer s H E) (z9b st) p/\∀ds O r,ds.length=n->F ds O=some r->zaz (p (zG N ds) O)=some r) :
 tS P w K mg base (CXq P w) (k+1) f fd ps (spX K n F):=by
 obtain⟨oc,od,kV,doc,pm,an,cdv,ct,osl,rfl,lk,hcd⟩:=φ.ex;refine zXz lk hcd S (λvs H Q E h=>by rw[hn];exact h.1) λA outer s H vs Q E hr h=>?_;obtain⟨p,hp,hF⟩:=hbody cdv A outer s H E hr;refine⟨_,hp,?_⟩;obtain⟨hl,Z,ds,O,r,rv,R,e,hk⟩:=h;have e':=hF ds O r (by rw[rv.length];exact hl) e
 cases eo:p (zG N ds) O with
 |none=>rw[eo]at e';cases e'
 |some o=>
  rw[eo]at e';refine⟨Z,zG N ds,O,o,zir rv R,eo,?_⟩
  cases o with
  |ret d2 O2=>cases e';exact λZ' v H' x' R' r'=>hk Z' H' v x' R' r'
  |next J2 O2=>cases e';exact λZ' Y' H' x' A'=>hk Z' H' .non x' A'.hp .non
  |exc c fs O2=>cases e';exact λZ' H' C dx hc x' R' r'=>zps (hk Z' H' C dx hc x' R' r')
  |brk _ _=>cases e'
  |cont _ _=>cases e'
section
variable {X:Cx}{e:yB}{es:Qz}{pos p spos:YZ}{x:yj}{k j n:Nat}{st:yR}{f:yg}{fd:yP}{ps:Qx}{F:FX}{G:FA}
def tCX(K:PySem.W.Frag)(W:XK)(n:Nat)(F:FX)(G:FA):TE:=zIs (spX K n F) [] W (tMA K G)
def zhx{K:PySem.W.Frag}{W:XK}{Z:Qv}{J:Loc}{O:Mem}{Y:L2.St}{H:Hp}{Q:VK}{ds:Wm}{O1:Mem}{r:RO}(A:At K Z H Y J O)(e1:G J O=some (ds,O1))(hl:ds.length=n)(e2:F ds O1=some r)(h:ROk K Z H Q W r):tCX K W n F G Y H Q :=
 ⟨Z,J,O,ds,O1,A,e1,λZ1 H1 vs x1 R1 r1=>by
  show spX K n F (vs++[]) H1 Q W;rw[Lg];exact⟨by rw[<-r1.length];exact hl,Z1,ds,O1,r,r1,R1,e2,h.ext x1⟩⟩
@[simp] def zSB(F:FX)(G:FA)(g:D->Loc->Mem->Out):FS:=λJ O=>(G J O).bind λp=>match F p.1 p.2 with
 |some (.ok d O')=>some (g d J O')
 |some (.exc c fs O')=>some (.exc c fs O')
 |none=>none
def zEq{g:D->Loc->Mem->Out}{J:Loc}{O:Mem}{o:Out}(h:zSB F G g J O=some o):∃ds O1 r,G J O=some (ds,O1)/\F ds O1=some r/\o=match r with
 |.ok d O'=>g d J O'
 |.exc c fs O' =>.exc c fs O':=by
 obtain⟨⟨ds,O1⟩,e1,h⟩:=zh h;refine⟨ds,O1,?_⟩
 cases e2:F ds O1 with
 |none=>rw[e2]at h;cases h
 |some r=>
  rw[e2]at h
  cases r with
  |ok d O'=>cases h;exact⟨_,e1,rfl,rfl⟩
  |exc c fs O'=>cases h;exact⟨_,e1,rfl,rfl⟩
@[simp] def zXu(F:FX)(G:FA):FS:=zSB F G λ_ J O =>.next J O
@[simp] def zUv(i:Nat)(F:FX)(G:FA):FS:=zSB F G λd J O =>.next (J.set i (some d)) O
end
end M
namespace L2
open PySem PySem.Spec PyProof.Rows
section
variable {X:Cx}{U:Qb}{Y:St}{H:Hp}{s:yd}
def zMm{M:Model}{A:yH}{E:yb->yd->Prop}{i:Nat}{x:yj}{pos:YZ}{Q:Unit->yd->Prop}(I:Inv X U Y H s)(hN:X.N.Nodup)(hi:X.N[i]?=some x)(hk:X.env.scope.names.lookup x=some .local)
 (h:∀s',Inv X U (Y.set i none) H s'->Q () s'):yp M A (do bindName X.env x .none;unbindBehindTheSuite X.env x pos) Q E s:=by
 obtain⟨m,hn,hl⟩:=id I.loc;have hcls:(X.env.scope.kind == .class||(X.env.scope.kind == .module&&X.env.locals != X.env.globals))=false:=by rw[I.ok.kind];rfl
 have hiσ:i<Y.length:=by rw[I.len];exact(List.getElem?_eq_some_iff.mp hi).1
 refine wpAny_nameGoes_keeps hk hn hcls λh' v hn' hs=>?_;have old:∀b o,X.s₀.heap.get? b=some o->b≠X.env.locals:=λb o e=>yC (yv (yn e) I.ok.above)
 have hok:HOk X.prog X.w H h':=λb ob e=>by
  refine(I.hok b ob e).stay (λc w' hc q=>(hs.2 c ?_).trans q) (λ_ q=>q) λ_ _ q=>q;rintro rfl;rcases hc with rfl|hc
  ·rw[I.free]at e;cases e
  ·rw[I.free]at hc;cases hc
 refine h _ ⟨I.ok,I.os,I.bare,⟨λb o e n hb hx=>(hs.2 b (old b o e)).trans (I.base.keep b o e n hb hx),λb o e n hb hx=>?_,I.base.free,λb o e hx=>?_,I.base.tups,I.base.TL,I.base.TR⟩,⟨_,hn',λj y v' e1 e2 e3=>?_⟩,λy c e=>?_,I.free,I.freeC,λp hp=>?_,hok,by simpa using I.len⟩
 ·obtain⟨sl,e1⟩:=I.base.slot b o e n hb hx;exact⟨sl,(hs.2 b (old b o e)).trans e1⟩
 ·obtain⟨o',e1⟩:=I.base.there b o e hx;exact⟨o',(hs.2 b (old b o e)).trans e1⟩
 ·by_cases hj:j=i
  ·subst hj;rw[yO hiσ]at e2;cases e2
  ·rw[yQ (Yi hj)]at e2;obtain⟨u',r',q⟩:=hl j y v' e1 e2 e3;refine⟨u',r',?_⟩;rcases q with ⟨k,e⟩|⟨k,c,e,z⟩
   ·refine .inl ⟨k,?_⟩;have:y≠x:=λe=>hj (zAm hN e1 (e▸hi));simp[this,e]
   ·exact .inr ⟨k,c,e,z.sameBut hs (I.cne y c e)⟩
 ·obtain⟨w',z⟩:=I.cell y c e;exact⟨w',z.sameBut hs (I.cne y c e)⟩
 ·obtain⟨p1,p2,p3,p4,p5⟩:=I.pin p hp;exact⟨(hs.2 p.1 p3).trans p1,p2,p3,p4,p5⟩
abbrev Cx.suite(X:Cx)(v:yb):Cx:={X with A:=X.A.mark (some v),calm:=false,xe:=λ_ _=>False }
def Inv.suite(I:Inv X U Y H s)(v:yb):Inv (X.suite v) U Y H s :=
 ⟨⟨I.ok.mod,I.ok.kind,I.ok.glob,I.ok.blt,I.ok.above,I.ok.inj,I.ok.has,I.ok.cab,λz=>absurd z (by simp),I.ok.frames,I.ok.stk,I.ok.exf,I.ok.bs,I.ok.bsz,I.ok.Sy,I.ok.SC,I.ok.ss,I.ok.frf⟩,
  I.os,I.bare,I.base,I.loc,I.cell,I.free,I.freeC,I.pin,I.hok,I.len⟩
def Inv.Tz{v:yb}(ok:X.Ok)(I:Inv (X.suite v) U Y H s):Inv X U Y H s :=
 ⟨ok,I.os,I.bare,I.base,I.loc,I.cell,I.free,I.freeC,I.pin,I.hok,I.len⟩
def HOk.SK{P:yu}{w:yG}{h:yU}{a:yg}{o:HO}(x:HOk P w H h)(hn:H a=none)(new:tD P w (upd H a o) h a o):HOk P w (upd H a o) h:=λb u e=>by
 by_cases hb:b=a
 ·subst hb;rw[zx]at e;cases e;exact new
 ·rw[zE hb]at e;exact(x b u e).stay (λc v _ q=>q) (λc q=>by rw[zE (zA q hn)];exact q) λc xs q=>by rw[zE (zA q hn)];exact q
variable {M:Model}{A:yH}{E:yb->yd->Prop}{h:yU}{g:Array GenState}{d:Drawn}{t:Nat}{os:OsState}
def zdh{nm q:yj}{C N:yg}{bs bm:List yb}{hdct:Bool}{sn:Qx}{sub:List yb}{ab:Bool}{col:Qq}{dd:Qw}{k0 k1 k2 k3 k5:Option yb}{newId:String}
 {nm' q':yj} {C' N':yg} {bs' bm':List yb} {SM:Bool} {sn':Qx} {sub':List yb} {ab':Bool} {col':Qq} {dd':Qw} {k0' k1' k2' k3' k5':Option yb} {newId':String} {e:yg} {oe:YH} {b:Bool} {Q:Bool->yd->Prop}
 (hC:h.get? C=some (xl nm q C N bs bm hdct sn sub ab col dd k0 k1 k2 k3 k5 newId)) (hC':h.get? C'=some (xl nm' q' C' N' bs' bm' SM sn' sub' ab' col' dd' k0' k1' k2' k3' k5' newId'))
 (he:h.get? e=some oe) (hcls:oe.cls=.ref C) (kG:bm'.contains (.type "BaseException")=true) (hb:(yI C::bm).contains (.ref C')=b) (hq:Q b ⟨h,g,d,t,os⟩):yp M A (excMatches (.ref e) (.ref C')) Q E ⟨h,g,d,t,os⟩:=by
 have hcB:(yI C'::bm').contains (.type "BaseException")=true:=by rw[List.contains_cons,kG,Bool.or_true]
 have f:=tc_notTuple;unfold excMatches
 cases b with
 |true=>
  repeat (first|(with_reducible refine YF he ?_;rw[hcls])|with_reducible refine YF hC' ?_|(with_reducible refine xp hC' ?_;rw[hcB])|(with_reducible refine xp hC ?_;rw[hb])|wp_step)
  exact hq
 |false=>
  repeat (first|(with_reducible refine YF he ?_;rw[hcls])|with_reducible refine YF hC' ?_|(with_reducible refine xp hC' ?_;rw[hcB])|(with_reducible refine xp hC ?_;rw[hb])|wp_step)
  exact hq
end
def zFt{K:yt}{h:yU}{C:yg}{v:yb}{b:Bool}{nm q:yj}{N:yg}{bs bm:List yb}{hdct:Bool}{sn:Qx}{sub:List yb}{ab:Bool}{col:Qq}{dd:Qw}{k0 k1 k2 k3 k5:Option yb}{newId:String}(X:K.In h)(e:Xe K C v=some b)
 (hC:h.get? C=some (xl nm q C N bs bm hdct sn sub ab col dd k0 k1 k2 k3 k5 newId)):(yI C::bm).contains v=b:=by
 obtain⟨cd,a,z⟩:=Option.bind_eq_some_iff.mp e;unfold W.clsIn at a
 split at a
 ·rename_i ho
  cases a;have:=X _ _ ho;rw[hC]at this;cases this
  split at z
  ·cases z
  ·cases z;rfl
 ·cases a
end L2
namespace M
open PySem PySem.Spec PyProof.Rows L2
def XP(X:Cx)(U:Qb)(Y:L2.St)(W:XK)(e:yb)(s':yd):Prop:=∃H1 s1 C dx H',Inv X U Y H1 s1/\sU X.prog X.w X.stack H1 s1 C dx H' e s'/\W C dx H'
def PX1(X:Cx)(st:yR)(ψ:FS):Prop:=∀(U:Qb) (s:yd) (Y:L2.St) (H:Hp) (D:Ends) (W:XK),Inv X U Y H s->tMS X.K W ψ D Y H->yp (yx X.prog X.w) X.A (exec st X.env) (SP X U D) (XP X U Y W) s
def PX(X:Cx)(sts:Wc)(ψ:FS):Prop:=∀(U:Qb) (s:yd) (Y:L2.St) (H:Hp) (D:Ends) (W:XK),Inv X U Y H s->tMS X.K W ψ D Y H->yp (yx X.prog X.w) X.A (execs sts X.env) (SP X U D) (XP X U Y W) s
section
variable {X:Cx}{c e:yB}{es:Qz}{pos p spos:YZ}{x:yj}{k j n:Nat}{st:yR}{f:yg}{fd:yP}{ps:Qx}{F:FX}{G:FA}
def zqt{ψ:FS}(h:PX1 X st ψ):PX X [st] ψ:=by
 intro U s Y H D W I q;refine wpAny_execs_cons (thn (h U s Y H D W I q) λf s1 q=>?_)
 cases f with
 |next=>exact xW q
 |ret v=>exact q
 |brk=>exact q
 |cont=>exact q
end
abbrev FH:=yj->Wq->FS
def Cau(X:Cx)(U:Qb)(Y:L2.St)(C:yb)(dx:Qw)(H':Hp)(a:yg)(s':yd):Prop:=∃H1 s1,Inv X U Y H1 s1/\sU X.prog X.w X.stack H1 s1 C dx H' (.ref a) s'
def z7t{P:yu}{w:yG}{outer:Qp}{H H':Hp}{s s':yd}{C:yb}{dx:Qw}{a:yg}{B base h2:yU}(F:sU P w outer H s C dx H' (.ref a) s')(c:Cov outer H' s.heap B)(st:B.StaysIn s'.heap)(fl:Fly B outer a C dx h2)(sm:s'.heap.UpToSlots h2)
 (ff:s.heap.FunFrames base outer) (frf:∀b∈frs outer,H b=none):sU P w outer H s C dx H' (.ref a) {s' with heap:=h2 } :=
 ⟨F.os,F.bare,zYp F.un c st fl.st sm ff frf,zFm F.hok c st fl.st,a,B,rfl,fl,c⟩
def MH(X:Cx)(hs:List ExceptHandler)(η:FH):Prop :=
 ∀U Y C c fs dx H' a s' Z J O o D,Cau X U Y (.ref C) dx H' a s'->yJ X.K yf c=some (some (.ref C))->Si X.K Z H' fs dx->At X.K Z H' Y J O->η c fs J O=some o->sx X.K (zGl X) Z H' D o ->
  yp (yx X.prog X.w) X.A (handleBy (.ref a) X.env hs) (SP X U D) X.xe s'
@[simp] def zBv:FH:=λ_ _ _ _=>none
def zop{X:Cx}{hs:List ExceptHandler}:MH X hs zBv:=λ_ _ _ _ _ _ _ _ _ _ _ _ _ _ _ _ _ _ e _=>by cases e
@[simp] def zss(p:FS)(η:FH):FS:=λJ O=>match p J O with
 |some (.exc c fs O')=>η c fs J O'
 |o=>o
def zru{X:Cx}{body:Wc}{h0:ExceptHandler}{hs:List ExceptHandler}{pos:YZ}{p:FS}{η:FH}(hb:PX X body p)(hh:MH X (h0::hs) η)(kT:X.stack=X.env::X.outer:=by rfl)(hfm:X.env.frame=some X.env.locals:=by rfl):MS X (.Try body (h0::hs) [] [] pos) (zss p η):=by
 intro U s Y H D I ⟨Z,J,O,o,A,eo,kk⟩
 have calm:∀o',p J O=some o'->(∀c fs O',o'≠.exc c fs O')->yp (yx X.prog X.w) X.A (exec (.Try body (h0::hs) [] [] pos) X.env) (SP X U D) X.xe s:=λo' ep kN=>by
  have eo':o'=o:=by
   unfold zss at eo;rw[ep]at eo
   cases o' with
   |exc c fs O'=>exact absurd rfl (kN c fs O')
   |next _ _=>cases eo;rfl
   |ret _ _=>cases eo;rfl
   |brk _ _=>cases eo;rfl
   |cont _ _=>cases eo;rfl
  subst eo';refine wpAny_Try_except (yZ (hb U s Y H D E0 I ⟨Z,J,O,o',A,ep,?_⟩) (λfl s1 q=>?_) λe s1 ⟨_,_,_,_,_,_,_,z⟩=>z.elim)
  ·cases o' with
   |exc c fs O'=>exact absurd rfl (kN c fs O')
   |next _ _=>exact kk
   |ret _ _=>exact kk
   |brk _ _=>exact kk
   |cont _ _=>exact kk
  ·cases fl with
   |next=>exact xW q
   |ret v=>exact q
   |brk=>exact q
   |cont=>exact q
 cases ep:p J O with
 |none=>unfold zss at eo;rw[ep]at eo;cases eo
 |some o'=>
  cases o' with
  |next _ _=>exact calm _ ep (by intros;simp)
  |ret _ _=>exact calm _ ep (by intros;simp)
  |brk _ _=>exact calm _ ep (by intros;simp)
  |cont _ _=>exact calm _ ep (by intros;simp)
  |exc c fs O'=>
   have eo:η c fs J O'=some o:=by unfold zss at eo;rw[ep]at eo;exact eo
   refine wpAny_Try_except (yZ (hb U s Y H {nx:=λ_ _=>False,rt:=λ_ _=>False } (λCv dx H'=>∃C Z',Cv=.ref C/\yJ X.K yf c=some (some (.ref C))/\Ext Z H Z' H'/\tF X.K Z' H' O'/\Si X.K Z' H' fs dx) I
    ⟨Z,J,O,_,A,ep,λZ' H' C dx hc x' R r=>⟨C,Z',rfl,hc,x',R,r⟩⟩) (λfl s1 q=>?_) λe s1 q=>?_)
   ·cases fl with
    |next=>obtain⟨_,_,_,z⟩:=q;exact z.elim
    |ret v=>obtain⟨_,_,_,_,_,z⟩:=q;exact z.elim
    |brk=>obtain⟨_,_,_,z⟩:=q;exact z.elim
    |cont=>obtain⟨_,_,_,z⟩:=q;exact z.elim
   ·obtain⟨H1,s2,Cv,dx,H',I1,F,C,Z',rfl,hc,x',R,rX⟩:=q;obtain⟨a,B,rfl,fl,cov⟩:=F.fly;have fl':Fly B (X.env::X.outer) a (.ref C) dx s1.heap:=by rw[<-kT];exact fl
    have kR:X.A.frames=some (X.env::X.outer):=by rw[<-kT];exact I.ok.frames
    refine zdl kR hfm fl' λh2 fl2 sm2=>zsf (s:={s1 with heap:=h2 }) fl2 λh3 fl3 sm3=>?_;rw[<-kT]at fl3;exact hh U Y C c fs dx H' a {s1 with heap:=h3 } Z' J O' o D ⟨H1,s2,I1,z7t (h2:=h3) F cov fl.st fl3 (sm2.trans sm3) I1.stack I1.TM⟩ hc rX (A.ext x' R) eo (kk.ext x')
@[simp] def behind(i:Nat):Option Out->Option Out
 |some (.next J O)=>some (.next (J.set i none) O)
 |some (.ret d O)=>some (.ret d O)
 |some (.brk J O)=>some (.brk (J.set i none) O)
 |some (.cont J O)=>some (.cont (J.set i none) O)
 |_=>none
@[simp] def hAs(i:Nat)(tb:List (yj×Bool))(q:FS)(η:FH):FH:=λc fs J O=>match tb.lookup c with
 |some true=>behind i (q (J.set i (some (.loc O.length))) (O++[.exc c fs]))
 |some false=>η c fs J O
 |none=>none
def Tx(K:yt)(D0:yg)(tb:List (yj×Bool)):Prop:=∀c b,tb.lookup c=some b->∀C,yJ K yf c=some (some (.ref C))->W.ktsIn K C "BaseException"=true/\Xe K C (.ref D0)=some b
def At.unset{K:yt}{Z:Qv}{H:Hp}{Y:L2.St}{J:Loc}{O:Mem}(A:At K Z H Y J O)(i:Nat):At K Z H (Y.set i none) (J.set i none) O:=by
 refine⟨λj d' e=>?_,A.hp,by simp[A.len]⟩
 by_cases hj:j=i
 ·subst hj
  have hl:j<J.length:=by
   have:=(List.getElem?_eq_some_iff.mp e).1;simpa using this
  rw[yO hl]at e;cases e
 ·rw[yQ (Yi hj)]at e;obtain⟨u,e1,q⟩:=A.st j d' e;exact⟨u,by rw[yQ (Yi hj)];exact e1,q⟩
def zeC(X:Cx)(a:yg)(i:Nat)(st:Wc)(q:FS):Prop:=∀(U:Qb) (s:yd) (Y:L2.St) (H:Hp) (D:Ends),Inv X U Y H s->(∃Z J O o n C dx,At X.K Z H Y J O/\J[i]?=some (some (.loc n))/\Z[n]?=some a/\H a=some (.ext (zSp a C dx))/\q J O=some o/\sx X.K (zGl X) Z H D o) ->
 yp (yx X.prog X.w) X.A (execs st X.env) (SP X U D) X.xe s
def zfx{X:Cx}{d n:yj}{D0:yg}{b0:yR}{suite:Wc}{pos np:YZ}{rest:List ExceptHandler}{q:FS}{η:FH}(i:Nat)(tb:List (yj×Bool))(hd:yJ X.K yf d=some (some (.ref D0)))(hk:W.ktsIn X.K D0 "BaseException"=true)(ht:Tx X.K D0 tb)
 (hq:∀a,zeC (X.suite (.ref a)) a i (b0::suite) q) (hr:MH X rest η) (hg:Gl X d:=by rfl) (hN:X.N.Nodup:=by first|assumption|decide) (hi:X.N[i]?=some n:=by rfl) (hl:X.env.scope.names.lookup n=some .local:=by rfl) (hdb:(d==("__debug__":yj))=false:=by decide) :
 MH X (.ExceptHandler (some (.Name d np)) (some n) (b0::suite) pos::rest) (hAs i tb q η):=by
 intro U Y C c fs dx H' a s' Z J O o D hcau hc hX A eo kk;obtain⟨H1,s1,I1,F⟩:=hcau;obtain⟨a',B,ea,fl,cov⟩:=F.fly;cases ea;have δ:Inv X U Y H' s':=I1.fly F cov fl.st fl.st (.refl _);obtain⟨oe,vs,y,he,kW,hdx,hfd,h1,tr⟩:=fl.ob
 cases hb:tb.lookup c with
 |none=>unfold hAs at eo;rw[hb]at eo;cases eo
 |some b=>
  obtain⟨kC,mC⟩:=ht c b hb C hc;obtain⟨nm,qn,N,bs,bm,hdct,sn,sub,ab,col,dd,k0,k1,k2,k3,k5,newId,hC,_,_⟩:=W.kts_cls δ.kIn kC;obtain⟨nm',qn',N',bs',bm',SM,sn',sub',ab',col',dd',k0',k1',k2',k3',k5',newId',hC',kG',_⟩:=W.kts_cls δ.kIn hk;refine wpAny_handleBy_cons (codeAny_handlers_test (zpf (X:=X.suite (.ref a)) (δ.suite (.ref a)) hg (Yx δ.mod.kin δ.mod.glob hd) ?_ hdb)) (by intro z;cases z);obtain⟨hh,g,dr,tk,os⟩:=s';refine zdh hC hC' he kW kG' (zFt δ.kIn mC hC) ?_
  cases b with
  |false=>
   unfold hAs at eo;rw[hb]at eo;exact hr U Y C c fs dx H' a _ Z J O o D ⟨H1,s1,I1,F⟩ hc hX A eo kk
  |true=>
   unfold hAs at eo;rw[hb]at eo;refine codeAny_handlers_suite_as (zsf (s:=⟨hh,g,dr,tk,os⟩) fl λh2 fl2 sm2=>?_)
   have hna:H' a=none:=by
    cases z:H' a with
    |none=>rfl
    |some u=>obtain⟨w,hw⟩:=cov.tr a u z;rw[fl.new]at hw;cases hw
   have hold:∀b o,s1.heap.get? b=some o->b≠a:=λb o ho z=>by
    subst z
    by_cases hm:b∈frs X.stack
    ·obtain⟨_,o',ho',hnf⟩:=fl.ff.mem hm;rw[he]at ho';cases ho';exact hnf _ hfd
    ·obtain⟨w,hw⟩:=cov.old b o ho hm;rw[fl.new]at hw;cases hw
   have u2:=zYp F.un cov fl.st fl2.st sm2 I1.stack I1.TM;have ok2:=zFm F.hok cov fl.st fl2.st;obtain⟨oe2,vs2,y2,he2,hcl2,hdx2,hfd2,hv2,_⟩:=fl2.ob
   have δ3:Inv X U Y (upd H' a (.ext (zSp a C dx))) ⟨h2,g,dr,tk,os⟩:=by
    refine I1.SD (s':=⟨h2,g,dr,tk,os⟩) (ch:=[]) F.os ⟨u2.keep,u2.slot,λb o e1 e2 e3=>?_,u2.there,λb xs z=>?_,λb ob u z=>?_,λb ps z=>?_⟩ (ok2.SK hna ⟨⟨oe2,vs2,he2,hcl2,hdx2,hfd2,hv2.2⟩,⟨_,he2⟩,λx1 x2 z1 z2=>?_⟩) F.bare λb z=>absurd z (by simp)
    ·rw[zE (hold b o e1)];exact u2.free b o e1 e2 e3
    ·have:=u2.tups b xs z;rw[zE (zA this hna)];exact this
    ·have:=u2.TL b ob u z;rw[zE (zA this hna)];exact this
    ·obtain⟨m,this⟩:=u2.TR b ps z;exact⟨m,by rw[zE (zA this hna)];exact this⟩
    ·obtain⟨o1,v1,w1,w2⟩:=z1;exact⟨o1,v1,z2 _ w1,w2⟩
   refine zOh (X:=X.suite (.ref a)) (v:=.ref a) (u:=.ref a) (δ3.suite (.ref a)) hN hi (.inl hl) rfl (λs3 I3=>?_) (.inr hl)
   have A3:At X.K (Z++[a]) (upd H' a (.ext (zSp a C dx))) (Y.set i (some (.ref a))) (J.set i (some (.loc O.length))) (O++[.exc c fs]) :=
    (A.ext (Ext.push hna) (A.hp.push (o:=.ext (zSp a C dx)) (lo:=.exc c fs) hna ⟨C,dx,hc,zx,hX.ext (Ext.push hna)⟩)).set (.loc (zwb A.hp)) i
   cases eq:q (J.set i (some (.loc O.length))) (O++[.exc c fs]) with
   |none=>rw[eq]at eo;cases eo
   |some o'=>
    rw[eq]at eo;have kk':=kk.ext (Ext.push (o:=.ext (zSp a C dx)) hna);refine yZ (hq a U s3 _ _ {nx:=λY' H2=>D.nx (Y'.set i none) H2,rt:=D.rt,bk:=λY' H2=>D.bk (Y'.set i none) H2,ct:=λY' H2=>D.ct (Y'.set i none) H2 } I3 ⟨_,_,_,o',O.length,C,dx,A3,yO (by rw[<-A.len,δ.len];exact(List.getElem?_eq_some_iff.mp hi).1),zwb A.hp,zx,eq,?_⟩) (λf4 s4 hs4=>?_) λ_ _ z=>z.elim
    ·cases o' with
     |next J' O'=>cases eo;exact λZ' Y' H2 x2 A2=>kk' Z' _ H2 x2 (A2.unset i)
     |brk J' O'=>cases eo;exact λZ' Y' H2 x2 A2=>kk' Z' _ H2 x2 (A2.unset i)
     |cont J' O'=>cases eo;exact λZ' Y' H2 x2 A2=>kk' Z' _ H2 x2 (A2.unset i)
     |ret d' O'=>cases eo;exact kk'
     |exc _ _ _=>cases eo
    ·cases f4 with
     |next=>obtain⟨Y4,H4,I4,z⟩:=hs4;exact zMm (I4.Tz δ.ok) hN hi hl λs5 I5=>⟨_,H4,I5,z⟩
     |brk=>obtain⟨Y4,H4,I4,z⟩:=hs4;exact zMm (I4.Tz δ.ok) hN hi hl λs5 I5=>⟨_,H4,I5,z⟩
     |cont=>obtain⟨Y4,H4,I4,z⟩:=hs4;exact zMm (I4.Tz δ.ok) hN hi hl λs5 I5=>⟨_,H4,I5,z⟩
     |ret u=>obtain⟨v4,Y4,H4,I4,r4,z⟩:=hs4;exact zMm (I4.Tz δ.ok) hN hi hl λs5 I5=>⟨v4,_,H4,I5,r4,z⟩
@[simp] def zgk(tb:List (yj×Bool))(q:FS)(η:FH):FH:=λc fs J O=>match tb.lookup c with
 |some true=>(match q J O with
  |some (.exc _ _ _)=>none
  |o=>o)
 |some false=>η c fs J O
 |none=>none
def zRu{X:Cx}{d:yj}{D0:yg}{b0:yR}{suite:Wc}{pos np:YZ}{rest:List ExceptHandler}{q:FS}{η:FH}(tb:List (yj×Bool))(hd:yJ X.K yf d=some (some (.ref D0)))(hk:W.ktsIn X.K D0 "BaseException"=true)(ht:Tx X.K D0 tb)
 (hq:∀v,MSs (X.suite v) (b0::suite) q) (hr:MH X rest η) (hg:Gl X d:=by rfl) (hdb:(d==("__debug__":yj))=false:=by decide) :
 MH X (.ExceptHandler (some (.Name d np)) none (b0::suite) pos::rest) (zgk tb q η):=by
 intro U Y C c fs dx H' a s' Z J O o D hcau hc hX A eo kk;obtain⟨H1,s1,I1,F⟩:=hcau;obtain⟨a',B,ea,fl,cov⟩:=F.fly;cases ea;have δ:Inv X U Y H' s':=I1.fly F cov fl.st fl.st (.refl _);obtain⟨oe,vs,y,he,kW,hdx,hfd,h1,tr⟩:=fl.ob
 cases hb:tb.lookup c with
 |none=>unfold zgk at eo;rw[hb]at eo;cases eo
 |some b=>
  obtain⟨kC,mC⟩:=ht c b hb C hc;obtain⟨nm,qn,N,bs,bm,hdct,sn,sub,ab,col,dd,k0,k1,k2,k3,k5,newId,hC,_,_⟩:=W.kts_cls δ.kIn kC;obtain⟨nm',qn',N',bs',bm',SM,sn',sub',ab',col',dd',k0',k1',k2',k3',k5',newId',hC',kG',_⟩:=W.kts_cls δ.kIn hk;refine wpAny_handleBy_cons (codeAny_handlers_test (zpf (X:=X.suite (.ref a)) (δ.suite (.ref a)) hg (Yx δ.mod.kin δ.mod.glob hd) ?_ hdb)) (by intro z;cases z);obtain⟨hh,g,dr,tk,os⟩:=s';refine zdh hC hC' he kW kG' (zFt δ.kIn mC hC) ?_
  cases b with
  |false=>
   unfold zgk at eo;rw[hb]at eo;exact hr U Y C c fs dx H' a _ Z J O o D ⟨H1,s1,I1,F⟩ hc hX A eo kk
  |true=>
   unfold zgk at eo;rw[hb]at eo;refine codeAny_handlers_suite (zsf (s:=⟨hh,g,dr,tk,os⟩) fl λh2 fl2 sm2=>?_);have δ2:Inv X U Y H' ⟨h2,g,dr,tk,os⟩:=I1.fly F cov fl.st fl2.st sm2
   cases eq:q J O with
   |none=>rw[eq]at eo;cases eo
   |some o'=>
    rw[eq]at eo;refine yZ (hq (.ref a) U _ Y H' D (δ2.suite _) ⟨Z,J,O,o',A,eq,?_⟩) (λf4 s4 hs4=>?_) λ_ _ z=>z.elim
    ·cases o' with
     |next J' O'=>cases eo;exact kk
     |brk J' O'=>cases eo;exact kk
     |cont J' O'=>cases eo;exact kk
     |ret d' O'=>cases eo;exact kk
     |exc _ _ _=>cases eo
    ·cases f4 with
     |next=>obtain⟨Y4,H4,I4,z⟩:=hs4;exact⟨Y4,H4,I4.Tz δ.ok,z⟩
     |brk=>obtain⟨Y4,H4,I4,z⟩:=hs4;exact⟨Y4,H4,I4.Tz δ.ok,z⟩
     |cont=>obtain⟨Y4,H4,I4,z⟩:=hs4;exact⟨Y4,H4,I4.Tz δ.ok,z⟩
     |ret u=>obtain⟨v4,Y4,H4,I4,r4,z⟩:=hs4;exact⟨v4,Y4,H4,I4.Tz δ.ok,r4,z⟩
end M
namespace PySem.W
open PySem PySem.Spec PySem.Calls PyProof.Rows
structure AskC(K:Frag)(C:yg):Prop where
 cl:(clsIn K C).isSome=true
 ga:findIn K (.ref C) "__getattribute__"=some (some (.builtin "BaseException.__getattribute__"))
 gk:findIn K (.ref C) "__getattr__"=some none
 be:mroIn K C (.type "BaseException")=some true
 ha:findIn K (.ref C) "__class__"=some (some (.builtin "object.__class__"))
 hn:specialIn K (.builtin "object.__class__") "__get__"=some (some (.builtin "getset_descriptor.__get__"))
 tk:takesIn K (.builtin "object.__class__")=some true
 hm:mroIn K C (.type "object")=some true
section
variable {prog:yu}{w:yG}{A:yH}{E:yb->yd->Prop}{s:yd}{K:Frag}{x D:yg}{ox:YH}{odo:Option YH}
def zQt{M:Model}{nameV:yb}{Q:Unit->yd->Prop}(X:K.In s.heap)(I:InstAt s.heap x ox D odo)(c:AskC K D)(hq:Q () s):yp M A (checkBuiltinCall "BaseException.__getattribute__" ⟨[.ref x,nameV],[]⟩) Q E s:=by
 have hk:builtinKind "BaseException.__getattribute__"=some .slot:=by decide +kernel
 have hsplit:splitId "BaseException.__getattribute__"=some ("BaseException","__getattribute__"):=by decide +kernel
 have ha:=F.args_bexc_ga (.ref x) nameV;have L0:=I.type (M:=M);have L1:=looks_mroIn (M:=M) X c.be;obtain⟨hh,g,d,t,os⟩:=s;simp only[checkBuiltinCall,hk,hsplit];refine ya ?_
 ·unfold isInstance
  repeat (first|with_reducible refine L0.at ?_|with_reducible refine L1.at ?_|wp_step)
  exact hq
end
end PySem.W
namespace M
open PySem PySem.Spec PyProof.Rows L2
section
variable {X:Cx}
def zXw{x:yj}{a:yg}{pos:YZ}(hn:yJ X.K yf x=some (some (.ref a)))(hm:X.mg x=some (.ref a))(hg:Gl X x:=by rfl)(hd:(x==("__debug__":yj))=false:=by decide):ME X (.Name x pos) (fC (.own x)) :=
 zUw (zVp (v:=V.ref a) hg hm rfl hd) λ_ _ =>.own hn
inductive CN where
 |own (c:yj)
 |ty (n:String)
 deriving DecidableEq
abbrev Kit:=List ((Option yj×CN)×Bool)
def zoC(K:yt):CN->yb->Prop
 |.own d,v=>∃a,yJ K yf d=some (some (.ref a))/\v=.ref a
 |.ty n,v=>v=.type n
structure KitOk(K:yt)(tb:Kit):Prop where
 non:∀d b v,tb.lookup (none,d)=some b->zoC K d v->W.kitOne K (.type "NoneType") v=some b
 ask:∀c d b,tb.lookup (some c,d)=some b->∀C,yJ K yf c=some (some (.ref C))->W.AskC K C
 exc:∀c d b v,tb.lookup (some c,d)=some b->zoC K d v->∀C,yJ K yf c=some (some (.ref C))->W.kitOne K (.ref C) v=some b
variable {K:yt}{D0:yg}{tb:List (yj×Bool)}{kt:Kit}
def Tx.nil:Tx K D0 []:=λc b h=>by cases h
def Tx.cons{c:yj}{C:yg}{b:Bool}(hc:yJ K yf c=some (some (.ref C)))(k:W.ktsIn K C "BaseException"=true)(m:Xe K C (.ref D0)=some b)(r:Tx K D0 tb):Tx K D0 ((c,b)::tb):=λc' b' h C' hC'=>by
 unfold YD at h
 split at h
 ·rename_i e
  cases h;rw[beq_iff_eq.mp e,hc]at hC';cases hC';exact⟨k,m⟩
 ·exact r c' b' h C' hC'
end
structure MSsl(X:Cx)(sts:Wc)(ψ:FS):Prop where
 h:MSs X sts ψ
end M
namespace PySem
open Sem (wp)
section
variable {prog:yu}{w:yG}{A:yH}{E:yb->yd->Prop}{h:yU}{g:Array GenState}{d:Drawn}{t:Nat}{os:OsState}
variable {nm q:yj}{C N fI:yg}{bs bm bmB:List yb}{hdct:Bool}{sn:Qx}{sub:List yb}{ab:Bool}{col:Qq}{dd:Qw}{k0 k1 k2 k3 k5:Option yb}{B newId initId:String}
abbrev zch(h:yU)(C:yg)(rest:List yb):yU:=(h.push {cls:=.type "tuple",data:=.seq rest.toArray }).push {cls:=.ref C,data:=.fields #[.ref h.objs.size,.none,.none,.none,.bool false,.none]}
def zXh(F:ExcBaseFacts B newId initId bmB)(T:OwnTail h bmB bm){rest:List yb}{Q:Fin->yd->Prop}
 (hC:h.get? C=some (xl nm q C N bs bm hdct sn sub ab col dd k0 k1 k2 k3 k5 newId)) (L:W.Looks (yx prog w) h (typeLookup (.ref C) "__init__") (some (.ref fI))) (LB:∀self,W.Looks (yx prog w) h (bindSpecial (.ref fI) self) (.ref fI,[self]))
 (hq:yp (yx prog w) A (call (.ref fI) (.ref (h.objs.size+1)::rest)) (λv s'=>v=.none/\Q (.done (.ret (.ref (h.objs.size+1)))) s') E ⟨zch h C rest,g,d,t,os⟩) (hrest:rest.length<=yD:=by size_fits) :
 yp (yx prog w) A (YN.«type.__call__» ⟨.ref C::rest,[]⟩) Q E ⟨h,g,d,t,os⟩:=by
 repeat (first|with_reducible refine YF hC ?_|with_reducible refine wpAny_madeBy_exc hC ?_|wp_step)
 refine codeAny_call_builtin_code (Code.quiet_builtin _ F.quiet) (wpAny_check_new_subT F T hC ?_);refine codeAny_exc_new_subT F T hC ?_ hrest;show yp _ _ _ _ _ _;have k:∀b o,h.get? b=some o->(zch h C rest).get? b=some o:=λb o e=>ye _ (ye _ e);have hC₁:=k _ _ hC;have hget:(zch h C rest).get? (h.objs.size+1)=some {cls:=.ref C,data:=.fields #[.ref h.objs.size,.none,.none,.none,.bool false,.none]}:=by heap_get
 have hcC:(yI C::bm).contains (.ref C)=true:=by simp
 have T₁:=T.keeps k;unfold isInstance
 repeat (first|with_reducible refine YF hget ?_|(with_reducible refine xp hC₁ ?_;rw[hcC])|wp_step)
 show yp _ _ (typeLookup (.ref C) _) _ _ _;refine L _ _ _ _ k ?_;refine Yl (ya (LB _ _ _ _ _ k ?_));refine ya (yZ hq (λv s' hv=>?_) λ_ _ x=>x);obtain⟨rfl,hv⟩:=hv
 repeat wp_step
 exact hv
def z9m(F:ExcBaseFacts B newId initId bmB)(T:OwnTail h bmB bm){rest:List yb}{Q:yb->yd->Prop}
 (hC:h.get? C=some (xl nm q C N bs bm hdct sn sub ab col dd k0 k1 k2 k3 k5 newId)) (L:W.Looks (yx prog w) h (typeLookup (.ref C) "__init__") (some (.ref fI))) (LB:∀self,W.Looks (yx prog w) h (bindSpecial (.ref fI) self) (.ref fI,[self]))
 (hq:yp (yx prog w) (A.under (.builtin "type.__call__" ⟨.ref C::rest,[]⟩)) (call (.ref fI) (.ref (h.objs.size+1)::rest)) (λv s'=>v=.none/\Q (.ref (h.objs.size+1)) s') E ⟨zch h C rest,g,d,t,os⟩) (hrest:rest.length<=yD:=by size_fits) :
 yp (yx prog w) A (call (.ref C) rest) Q E ⟨h,g,d,t,os⟩:=by
 have f1:=tc_lookup;have f2:=tc_bind (.ref C);have hT:(⟨h,g,d,t,os⟩:yd).TypeIs (.ref C) "type":=⟨_,hC,rfl⟩
 refine wpAny_call (codeAny_of_tree ?_);show yp _ _ (callAny (.ref C) _) _ _ _
 repeat (any_goals (first|assumption|with_reducible refine YF hC ?_|wp_step))
 refine⟨rfl,?_⟩;refine codeAny_call_builtin_at (Code.quiet_builtin _ (by decide +kernel)) entry_typeCall (wpAny_check_type_call_sub hC (zXh (hrest:=hrest) F T hC L LB ?_));exact hq
def zVf{M:Model}{s:yd}{env:Env}{x:Sem yb}{Q:Flow->yd->Prop}(kG:bm.contains (.type "BaseException")=true)(hh:A.handled=none)
 (h:yp M A x (λv s₁=>∃e de te,v=.ref e/\s₁.heap.get? C=some (xl nm q C N bs bm hdct sn sub ab col dd k0 k1 k2 k3 k5 newId)/\s₁.heap.get? e=some {cls:=.ref C,dict:=de,data:=.fields #[.ref te,.none,.none,.none,.bool false,.none]}/\E (.ref e) s₁) E s) :
 yp M A (raiseStmt env (some x) none) Q E s:=by
 have hcB:(yI C::bm).contains (.type "BaseException")=true:=by rw[List.contains_cons,kG,Bool.or_true]
 unfold raiseStmt;refine ya (yZ h (λv s₁ h₁=>?_) λ_ _ x=>x);obtain⟨e,de,te,rfl,hC,he,hE⟩:=h₁;obtain⟨hp,g,d,tk,os⟩:=s₁
 repeat (first|with_reducible refine YF he ?_|with_reducible refine YF hC ?_|(with_reducible refine xp hC ?_;rw[hcB])|wp_step)
 exact wpAny_raiseNew_none hh hE
variable {s:yd}{env:Env}
variable {nm q:yj}{C N fI:yg}{bs bm bmB:List yb}{hdct:Bool}{sn:Qx}{sub:List yb}{ab:Bool}{col:Qq}{dd:Qw}{k0 k1 k2 k3 k5:Option yb}{B newId initId:String}
def zll(F:ExcBaseFacts B newId initId bmB){x:yj}{np cpos pos:YZ}{args:Qz}{Q:Flow->yd->Prop}
 (kG:bm.contains (.type "BaseException")=true) (hh:A.handled=none) (kF:(yW cpos (yh args env)).any (·.1)=false)
 (h:yp (yx prog w) A (yV (.Name x np) env) (λf s₁=>f=.ref C/\yp (yx prog w) A (evalArgs (.ref C) true (yW cpos (yh args env)) [])
  (λa s₂=>a.kw=[]/\a.pos.length<=yD/\s₂.heap.get? C=some (xl nm q C N bs bm hdct sn sub ab col dd k0 k1 k2 k3 k5 newId)/\W.Looks (yx prog w) s₂.heap (typeLookup (.ref C) "__init__") (some (.ref fI))/\OwnTail s₂.heap bmB bm/\(∀self,W.Looks (yx prog w) s₂.heap (bindSpecial (.ref fI) self) (.ref fI,[self])) /\
   yp (yx prog w) (A.under (.builtin "type.__call__" ⟨.ref C::a.pos,[]⟩)) (call (.ref fI) (.ref (s₂.heap.objs.size+1)::a.pos)) (λv s₃=>v=.none/\s₃.heap.get? C=some (xl nm q C N bs bm hdct sn sub ab col dd k0 k1 k2 k3 k5 newId) /\
    (∃de te,s₃.heap.get? (s₂.heap.objs.size+1)=some {cls:=.ref C,dict:=de,data:=.fields #[.ref te,.none,.none,.none,.bool false,.none]})/\E (.ref (s₂.heap.objs.size+1)) s₃) E {s₂ with heap:=zch s₂.heap C a.pos }) E s₁) E s) :
 yp (yx prog w) A (exec (.Raise (some (.Call (.Name x np) args [] cpos)) none pos) env) Q E s:=by
 rw[arm_exec_Raise]
 first
  |refine ya (xf (zVf (C:=C) (nm:=nm) (q:=q) (N:=N) (bs:=bs) (bm:=bm) (hdct:=hdct) (sn:=sn) (sub:=sub) (ab:=ab) (col:=col) (dd:=dd) (k0:=k0) (k1:=k1) (k2:=k2) (k3:=k3) (k5:=k5) (newId:=newId) kG hh (ya (yZ (wpAny_Call_ofName (yZ h (λf s₁ h₁=>?_) λ_ _ x=>x)) (λv s₃ h₃=>ya (xf (yi h₃))) λ_ _ x=>x))))
  |(simp only[evalOpt,Option.map];refine ya (xf (zVf (C:=C) (nm:=nm) (q:=q) (N:=N) (bs:=bs) (bm:=bm) (hdct:=hdct) (sn:=sn) (sub:=sub) (ab:=ab) (col:=col) (dd:=dd) (k0:=k0) (k1:=k1) (k2:=k2) (k3:=k3) (k5:=k5) (newId:=newId) kG hh (ya (yZ (wpAny_Call_ofName (yZ h (λf s₁ h₁=>?_) λ_ _ x=>x)) (λv s₃ h₃=>ya (xf (yi h₃))) λ_ _ x=>x)))))
  |(refine ya (xf (zVf (C:=C) (nm:=nm) (q:=q) (N:=N) (bs:=bs) (bm:=bm) (hdct:=hdct) (sn:=sn) (sub:=sub) (ab:=ab) (col:=col) (dd:=dd) (k0:=k0) (k1:=k1) (k2:=k2) (k3:=k3) (k5:=k5) (newId:=newId) kG hh ?_));refine ya (yZ (wpAny_Call_ofName (yZ h (λf s₁ h₁=>?_) λ_ _ x=>x)) (λv s₃ h₃=>ya (xf (yi h₃))) λ_ _ x=>x))
 obtain⟨rfl,h₁⟩:=h₁;unfold callWith;refine ya (Yl (yZ h₁ (λa s₂ h₂=>ya (xf ?_)) λ_ _ x=>x));obtain⟨kD,akw⟩:=a;obtain⟨hkw,kA,hC,L,T,LB,h₂⟩:=h₂;obtain rfl:akw=[]:=hkw;obtain⟨hp,g,d,tk,os⟩:=s₂;simp only[kF];refine ya (wpAny_keeperOf_exc hC ?_);refine ya (z9m (hrest:=kA) F T hC L LB ?_);refine yZ h₂ (λv s₃ h₃=>?_) λ_ _ x=>x;obtain⟨rfl,hC3,⟨de,te,he⟩,hE⟩:=h₃;exact⟨rfl,ya (Yl (wpAny_point (yi ⟨_,de,te,rfl,hC3,he,hE⟩)))⟩
end
end PySem
namespace PySem
open Sem (wp)
section
variable {prog:yu}{w:yG}{A:yH}{E:yb->yd->Prop}{h:yU}{g:Array GenState}{d:Drawn}{t:Nat}{os:OsState}
variable {nm q:yj}{C N:yg}{bs bm bmB:List yb}{hdct:Bool}{sn:Qx}{sub:List yb}{ab:Bool}{col:Qq}{dd:Qw}{k0 k1 k2 k3 k5:Option yb}{B newId initId:String}
def zUt(F:ExcBaseFacts B newId initId bmB)(T:OwnTail h bmB bm){e te:yg}{de:Qw}{rest:List yb}{Q:yb->yd->Prop}
 (hC:h.get? C=some (xl nm q C N bs bm hdct sn sub ab col dd k0 k1 k2 k3 k5 newId)) (he:h.get? e=some {cls:=.ref C,dict:=de,data:=.fields #[.ref te,.none,.none,.none,.bool false,.none]})
 (hq:∀h',(∀b o,b≠e->h.get? b=some o->h'.get? b=some o)->h'.get? e=some {cls:=.ref C,dict:=de,data:=.fields #[.ref h.objs.size,.none,.none,.none,.bool false,.none]}->h.objs.size<=h'.objs.size->Q .none ⟨h',g,d,t,os⟩) (hrest:rest.length<=yD:=by size_fits) :
 yp (yx prog w) A (call (.builtin initId) (.ref e::rest)) Q E ⟨h,g,d,t,os⟩:=by
 refine wpAny_call (Xo F.init.plain F.initEntry (wpAny_check_init_subT F T hC he rfl ?_))
 wp_walk
 refine hq _ (λb o hb eb=>?_) ?_ ?_
 ·rw[yY _ _ (Yi hb)];exact ye _ eb
 ·rw[Yb _ (ye _ he) rfl];rfl
 ·simp
end
end PySem
namespace PySem.W
open PySem PySem.Spec PySem.Calls PyProof.Rows
open Builtin Builtin.ObjectAttr
abbrev bmV:List yb:=[.type "ValueError",.type "Exception",.type "BaseException",.type "object"]
def Tn:List yb->List yb
 |.ref _::r=>Tn r
 |l=>l
def zat{v:yb}{r:List yb}(q:¬∃c,v=.ref c):Tn (v::r)=v::r:=by
 unfold Tn
 split
 ·rename_i z;cases z;exact absurd ⟨_,rfl⟩ q
 ·rfl
def zPl(self:yb):∀{l:List yb},Tn l=bmV->refuseLoop self "__setattr__" l=pure ()
 |[],h=>by cases h
 |v::r,h=>by
  by_cases q:∃c,v=.ref c
  ·obtain⟨c,rfl⟩:=q;rw[refuseLoop_ref];exact zPl self (l:=r) h
  ·rw[zat q]at h;rw[h];exact PySem.F.store_ValueError.passes self
def zlq:∀{l:List yb},Tn l=bmV->l.contains (.type "object")=true/\l.isEmpty=false
 |[],h=>by cases h
 |v::r,h=>by
  refine⟨?_,rfl⟩
  by_cases q:∃c,v=.ref c
  ·obtain⟨c,rfl⟩:=q;rw[List.contains_cons,(zlq (l:=r) h).1,Bool.or_true]
  ·rw[zat q]at h;rw[h];decide
section
variable {prog:yu}{w:yG}{A:yH}{E:yb->yd->Prop}{s:yd}{K:Frag}{x C:yg}{ox:YH}{name:yj}{v:yb}{cd:ClassData}
def zQx{R:Result->yd->Prop}{od:Option YH}{tk:Tok}(X:K.In s.heap)(I:InstAt s.heap x ox C od)(hc:clsIn K C=some cd)(ho:Tn cd.mro=bmV)(ha:findIn K (.ref C) name=some none)
 (h:yp (yx prog w) A.in1 (storeInOwnDict (.ref x) (.ref C) (.str name tk) name v false)
  (λfin s'=>match fin with | .done f=>R (.ok f) s' | .again c'=>c'.quiet=true/\Xf (yx prog w) A c' R s') (λe s'=>R (.error e) s') s) :
 Xf (yx prog w) A (.call (.builtin "object.__setattr__") ⟨[.ref x,.str name tk,v],[]⟩) R s:=by
 have SF:=PySem.F.store_object;obtain⟨h1,h2⟩:=zlq ho;have sub:Looks (yx prog w) s.heap (isInstance (.ref x) (.type "object")) true:=I.type.andThen (looks_mroIn X (by unfold mroIn;rw[hc,ym,if_neg (by rw[h2];decide),h1]));refine Xo SF.slot.plain SF.entry (@check_slot (yx prog w) _ _ s "object.__setattr__" "object" "__setattr__" (.ref x) [.str name tk,v] [] _ SF.kind SF.split sub (SF.args (.ref x) (.str name tk) v) ?_);have hm:Looks (yx prog w) s.heap (mroOf (.ref C)) cd.mro:=(looks_clsIn X hc).andThen .now;rw[osa_eq,refuse_eq];refine ya (ya (I.type.here (ya (hm.here ?_))));rw[zPl _ ho];refine yi (ya (I.type.here (ya ((looks_findIn X ha).here (ya (yi (a:=none) ?_))))));exact h
def set_exc{Q:Unit->yd->Prop}{vs:Array yb}(X:K.In s.heap)(I:InstAt s.heap x ox C none)(hdt:ox.data=.fields vs)
 (hs:findIn K (.ref C) "__setattr__"=some (some (.builtin "object.__setattr__"))) (hc:clsIn K C=some cd) (ho:Tn cd.mro=bmV) (hd:cd.hasDict=true) (ha:findIn K (.ref C) name=some none)
 (h:∀(h':yU)(p:yg)(tk:Nat),h'.get? x=some {ox with dict:=some p }->h'.Ns1 p (λy=>if y=name then some v else none)->s.heap.objs.size<=p->(∀b o,b≠x->s.heap.get? b=some o->h'.get? b=some o)->Q () {s with heap:=h',toks:=tk }) :
 yp (yx prog w) A (setAttr (.ref x) name v) Q E s:=by
 obtain⟨hx,kW,hno,hdd⟩:=id I;obtain⟨oc,odi,oda,osl⟩:=ox;dsimp only at kW hdt;subst kW hdt
 cases odi with
 |some dx=>exact hdd.elim
 |none=>
  refine set_plain X I hs (zQx (s:={s with toks:=s.toks+1 }) X I hc ho ha ?_);refine ya (yi (ya (ya (wpAny_loadPart hx (ya (Looks.here (s:={s with toks:=s.toks+1 }) (looks_clsIn X hc) ?_))))));rw[hd];have hx₁:(s.heap.push {cls:=.type "dict",data:=.dict #[]}).get? x=some ⟨.ref C,none,.fields vs,osl⟩:=ye _ hx;have hxs:x≠s.heap.objs.size:=yC (yn hx);refine ya (wpAny_alloc' ?_);refine ya (wpAny_update' hx₁ ?_);refine yi (a:=some s.heap.objs.size) ?_
  have hgd:((s.heap.push {cls:=.type "dict",data:=.dict #[]}).update x λo=>{cls:=o.cls,dict:=some s.heap.objs.size,data:=o.data,slots:=o.slots }).get? s.heap.objs.size
   = some {cls:=.type "dict",data:=.dict #[]} :=
   (Heap.get?_update_ne _ _ _ _ hxs.symm).trans (Heap.get?_push_at rfl rfl)
  have hnd:((s.heap.push {cls:=.type "dict",data:=.dict #[]}).update x λo=>{cls:=o.cls,dict:=some s.heap.objs.size,data:=o.data,slots:=o.slots }).Ns s.heap.objs.size (λ_=>none) :=
   ⟨_,#[],_,hgd,rfl,λe he=>absurd he (by simp),λ_=>rfl⟩
  show yp _ _ (storeInDict s.heap.objs.size (.str name _) name v) _ _ _;unfold storeInDict newKeyGuard;refine ya (yi (ya (wpAny_nsSet1 (Heap.Ns1.of_empty hnd) λh' hn' hs'=>?_)));obtain⟨oD,esD,epD,hoD,hdD,hcD⟩:=hn'.count (Within.cons name v Within.nil);refine ya (wpAny_lookBehind hoD (by rw[hdD];exact pastItsLine_dict (yA hcD (by rw[Lr,List.length_nil,YC];omega))) ?_);refine yi ?_;refine h h' s.heap.objs.size _ ?_ hn' (yo _) (λb o hb q=>?_)
  ·exact(hs'.2 x hxs).trans (Yb _ hx₁ rfl)
  ·exact(hs'.2 b (yC (yn q))).trans ((Heap.get?_update_ne _ _ _ _ hb).trans (ye _ q))
variable {D:yg}{odo:Option YH}
def zms{tk:Tok}{Q:Fin->yd->Prop}(X:K.In s.heap)(I:InstAt s.heap x ox D odo)(e:findObj K D odo name=some (.value v))(hq:Q (.done (.ret v)) s):yp (yx prog w) A (YN.«object.__getattribute__» ⟨[.ref x,.str name tk],[]⟩) Q E s:=by
 have L0:=I.type (M:=yx prog w);have L1:=looks_find (M:=yx prog w) X I e;obtain⟨hh,g,d,t,os⟩:=s
 repeat (any_goals (first|assumption|with_reducible refine L0.at ?_|with_reducible refine L1.at ?_|wp_step))
def SN{expr:Bool}{Q:yb->yd->Prop}(X:K.In s.heap)(I:InstAt s.heap x ox D odo)(c:AskC K D)(e:findObj K D odo name=some (.value v))(hv:handedIn v=true)(h:Q v {s with toks:=s.toks+1 }):yp (yx prog w) A (getAttr (.ref x) name expr) Q E s:=by
 have L0:=I.type (M:=yx prog w);have L1:=looks_findIn (M:=yx prog w) X c.ga;have L2:=looks_findIn (M:=yx prog w) X c.gk;have f3:=F.excAttr_ValueError.ga.bind (.ref x);have hx2:(xZ "BaseException.__getattribute__" == xZ "object.__getattribute__")=false:=by decide +kernel
 have hx1:(onTheHeap (yI D)&&xZ "BaseException.__getattribute__" == xZ "object.__getattribute__")=false:=by rw[hx2];rfl
 obtain⟨hh,g,d,t,os⟩:=s;unfold getAttr getAttrBy
 repeat (any_goals (first|assumption|with_reducible refine L0.at ?_|with_reducible refine L1.at ?_|with_reducible refine L2.at ?_|wp_step))
 rw[show(expr&&onTheHeap (xZ "BaseException.__getattribute__"))=false from Bool.and_false _,if_neg (by decide)];unfold boundAndCalled
 repeat (any_goals (first|assumption|with_reducible refine L0.at ?_|with_reducible refine L1.at ?_|with_reducible refine L2.at ?_|wp_step))
 refine Xo F.excAttr_ValueError.ga.plain F.entry_bexc_ga (zQt (s:=⟨hh,g,d,t+1,os⟩) X I c (zms (s:=⟨hh,g,d,t+1,os⟩) X I e ?_))
 repeat (any_goals (first|assumption|wp_step))
 show yp _ _ (handedOut v) _ _ _;rw[handedOut_of hv];exact yi h
end
end PySem.W
namespace L2
open PySem PySem.Spec PyProof.Rows
def zzz{H:Hp}{a:yg}{o:HO}(h:H a=some o):upd H a o=H:=by
 funext b
 unfold upd
 split
 ·rename_i e
  rw[e,h]
 ·rfl
def era(H:Hp)(e:yg):Hp:=λb=>if b=e then none else H b
def zfi{H:Hp}{e b:yg}(h:b≠e):era H e b=H b:=by unfold era;rw[if_neg h]
def zTj{H:Hp}{e:yg}:era H e e=none:=by unfold era;rw[if_pos rfl]
section
variable {P:yu}{w:yG}{fs ex:Qv}{H H':Hp}{h h':yU}{e:yg}{G:yU->Prop}
def Un.era(u:Un fs ex H H' h h')(he:H e=none):Un fs ex H (era H' e) h h' where
 keep:=u.keep
 slot:=u.slot
 free:=λb o q n hx=>by
  by_cases z:b=e
  ·rw[z];exact zTj
  ·rw[zfi z];exact u.free b o q n hx
 there:=u.there
 tups:=λb xs q=>by rw[zfi (zA q he)];exact u.tups b xs q
 TL:=λb o v q=>by rw[zfi (zA q he)];exact u.TL b o v q
 TR:=λb ps q=>by rw[zfi (zA q he)];exact u.TR b ps q
def HOk.era(k:HOk P w H h)(he:H e=some (.ext G)):HOk P w (era H e) h:=λb o q=>by
 by_cases z:b=e
 ·rw[z,zTj]at q;cases q
 ·rw[zfi z]at q;refine(k b o q).stay (λ_ _ _ r=>r) (λc r=>?_) λc xs r=>?_
  ·rw[zfi λy=>by rw[y,he]at r;cases r];exact r
  ·rw[zfi λy=>by rw[y,he]at r;cases r];exact r
end
end L2
namespace M
open PySem PySem.Spec PyProof.Rows L2
def zao(a C:yg)(dx:Qw):yU->Prop:=λh=>∃te,h.get? a=some {cls:=.ref C,dict:=dx,data:=.fields #[.ref te,.none,.none,.none,.bool false,.none]}
def zyp{P:yu}{w:yG}{H:Hp}{h:yU}{a C:yg}{dx:Qw}(x:zao a C dx h):tD P w H h a (.ext (zao a C dx)):=by
 obtain⟨te,e⟩:=x;exact⟨⟨te,e⟩,⟨_,e⟩,λh1 h2 ⟨t,q⟩ k=>⟨t,k _ q⟩⟩
structure Sz(K:yt)(C NE fI:yg)(f:yj):Prop where
 ob:∃nm q N bs sn sub ab col dd k0 k1 k2 k3 k5,K.lookup C=some (xl nm q C N bs (.ref NE::W.bmV) true sn sub ab col dd k0 k1 k2 k3 k5 "ValueError.__new__")
 ini:Yh K (.ref C) "__init__"=some (some (.ref fI))
 fn:W.typeIn K (.ref fI)=some (.type "function")
 ne:W.excIn K NE W.bmV "ValueError.__new__"=true
 sa:Yh K (.ref C) "__setattr__"=some (some (.builtin "object.__setattr__"))
 at_:Yh K (.ref C) f=some none
 gt:W.specialIn K (.ref NE) "__getattribute__"=some (some (.builtin "type.__getattribute__"))
 rd:W.readsIn K NE (.type "type")=true
 fc:W.findCls K (.ref NE) (.type "type") "__init__"=some (.val (.builtin "ValueError.__init__"))
def Sz.tail{K:yt}{C NE fI:yg}{f:yj}(ρ:Sz K C NE fI f){h:yU}(X:K.In h):OwnTail h W.bmV (.ref NE::W.bmV):=by
 obtain⟨bm,N,nm,qn,bs,hdct,sn,sub,ab,col,dd,k0,k1,k2,k3,k5,mN,hC,hN,hni,T⟩:=zHo X ρ.ne;exact .own hC hN hni .base
section
variable {X:Cx}{v o value:yB}{e:yB}{es:Qz}{tv ta:TE}{t:TA}{C NE fI:yg}{f:yj}{np kD pos pos' p1 p2 p3 p4:YZ}{x1 x2:yj}{j1 j2:Nat}
def zky(ρ:Sz X.K C NE fI f)(hm:X.mg "NestError"=some (.ref NE))(ha:PA X (e::es) t){pl:Sem Bool}(hg:Gl X "NestError":=by rfl)
 (kT:yh (e::es) X.env=(false,yV e X.env)::yh es X.env:=by rfl) (kM:(yW pos (yh es X.env)).any (·.1)=false:=by rfl)
 (ht:yV (.Call (.Attribute (.Name "NestError" np) "__init__" kD) (e::es) [] pos) X.env=(do
  let ov <-yV (.Name "NestError" np) X.env
  standAt kD.atName
  let (f,first) <-xO [ov] (getMethod ov "__init__" pl)
  callWith pos f first (yW pos (yh (e::es) X.env)) (xi pos (Yv [] X.env))):=by rfl) :
 PE X (.Call (.Attribute (.Name "NestError" np) "__init__" kD) (e::es) [] pos) (λY H Q=>t Y H λvs H1=>∃a x,vs=[.ref a,x]/\H1 a=some (.ext (zao a C none))/\Q .non H1):=by
 intro U s Y H Q I h;refine W.methodCall_KW (pl:=pl) (zpf I hg hm ?_ (by decide)) ht;refine W.method_cls I.kIn ρ.gt (W.cls_value I.kIn ρ.rd ρ.fc (by decide +kernel) ?_);refine PyProof.Rows.callWith_builtin1 (thn (ha pos U _ Y H _ (I.tok _) h) λus s1 ⟨vs,H1,I1,r1,a,x,ev,ea,q⟩=>?_) kT kM;subst ev;obtain⟨u1,u2,rfl,ra,rx⟩:=vals2 r1;obtain rfl:u1=yI a:=ra;obtain⟨⟨te,ho⟩,_,_⟩:=(show tD X.prog X.w H1 s1.heap a (.ext (zao a C none)) from I1.hok a _ ea)
 obtain⟨nm,qn,N,bs,sn,sub,ab,col,dd,k0,k1,k2,k3,k5,lk⟩:=ρ.ob;have T:=ρ.tail I1.kIn;have hC:=I1.kIn _ _ lk;obtain⟨hp,g,d,tk,os⟩:=s1;refine zUt xv T hC ho (λh' keep he hsz=>?_) (show 1<=yD by rw[YC];decide);refine⟨.non,H1,?_,rfl,q⟩;have δ:=I1.write (x:=a) (e:=a) (o:=.ext (zao a C none)) (h':=h') (t':=tk) (by rw[ea];trivial) (.inl rfl) keep ⟨_,he⟩ (zyp ⟨_,he⟩)
 rwa [zzz ea]at δ
def zJu(ρ:Sz X.K C NE fI f)(ho:PE X o ta)(hv:PE X value tv)(hs:xD value (some (.Attribute o f pos')) pos.line X.env=pure false:=by rfl) :
 PS X (.Assign [.Attribute o f pos'] value pos) (λD Y H=>tv Y H λy H1=>ta Y H1 λx H2=>∃a,x=.ref a/\H2 a=some (.ext (zao a C none))/\∀p,H2 p=none->p≠a->D.nx Y (upd (upd H2 p (.xd [(f,y)])) a (.ext (zao a C (some p))))):=by
 intro U s Y H D I h;refine plainObj_wpAny_Assign_Attribute (thn (hv U s Y H _ I h) λu s1 ⟨y,H1,I1,ry,q⟩=>thn (ho U s1 Y H1 _ I1 q) λov s2 ⟨x,H2,I2,rx,a,ex,ea,q2⟩=>?_) hs;subst ex;obtain rfl:ov=yI a:=rx;obtain⟨⟨te,hob⟩,_,_⟩:=(show tD X.prog X.w H2 s2.heap a (.ext (zao a C none)) from I2.hok a _ ea)
 obtain⟨nm,qn,N,bs,sn,sub,ab,col,dd,k0,k1,k2,k3,k5,lk⟩:=ρ.ob
 obtain⟨cd,hc,hmro,hhd⟩:∃cd,W.clsIn X.K C=some cd/\W.Tn cd.mro=W.bmV/\cd.hasDict=true:=by
  unfold W.clsIn;rw[lk];exact⟨_,rfl,rfl,rfl⟩
 refine W.set_exc I2.kIn ⟨hob,rfl,rfl,trivial⟩ rfl ρ.sa hc hmro hhd ρ.at_ λh' p tk he hn hp keep=>⟨Y,_,?_,q2 p (I2.hok.fresh hp) ?_⟩
 ·have hpn:H2 p=none:=I2.hok.fresh hp;have hpa:p≠a:=λz=>absurd (yv (yn hob) (z▸hp)) (Yk _);have hpg:∀b ob,s2.heap.get? b=some ob->b≠p:=λb ob r z=>absurd (yv (yn r) (z▸hp)) (Yk _);have hup:∀b,b≠a->b≠p->upd (upd H2 p (.xd [(f,y)])) a (.ext (zao a C (some p))) b=H2 b:=λb n1 n2=>by rw[zE n1,zE n2]
  have ne_a:∀b ob,H2 b=some ob->(∀G,ob≠.ext G)->b≠a:=λb ob r n z=>by rw[z,ea]at r;cases r;exact n _ rfl
  have ne_p:∀b ob,H2 b=some ob->b≠p:=λb ob r=>zA r hpn;refine I2.un (t':=tk) ⟨?_,?_,?_,?_,?_,?_,?_⟩ ?_
  ·exact λb ob r n _ _=>keep b ob (λz=>by rw[z,ea]at n;cases n) r
  ·exact λb ob r n _ _=>⟨ob.slots,keep b ob (λz=>by rw[z,ea]at n;cases n) r⟩
  ·exact λb ob r n _=>by rw[hup b (λz=>by rw[z,ea]at n;cases n) (hpg b ob r)];exact n
  ·exact λb ob r _=>by
    by_cases z:b=a
    ·exact⟨_,by rw[z];exact he⟩
    ·exact⟨_,keep b ob z r⟩
  ·exact λb xs r=>by rw[hup b (ne_a b _ r λ_ z=>by cases z) (ne_p b _ r)];exact r
  ·exact λb ob w r=>by rw[hup b (ne_a b _ r λ_ z=>by cases z) (ne_p b _ r)];exact r
  ·exact λb ps r=>⟨#[],by rw[hup b (ne_a b _ r λ_ z=>by cases z) (ne_p b _ r),Array.append_empty];exact r⟩
  ·intro b ob r
   by_cases z:b=a
   ·subst z;rw[zx]at r;cases r;exact zyp ⟨te,he⟩
   ·by_cases z2:b=p
    ·subst z2;rw[zE z,zx]at r;cases r;refine⟨_,hn,λg=>?_⟩
     by_cases zg:g=f
     ·have hb:(g==f)=true:=beq_iff_eq.mpr zg;simp only[YD,hb,if_pos zg];exact ry
     ·have hb:(g==f)=false:=beq_eq_false_iff_ne.mpr zg;simp only[YD,hb,if_neg zg];trivial
    ·rw[hup b z z2]at r;refine(I2.hok b ob r).stay (λc w hc r'=>keep c w (λz3=>?_) r') (λc r'=>?_) λc xs r'=>?_
     ·subst z3;rcases hc with hc|hc
      ·exact z hc.symm
      ·rw[ea]at hc;cases hc
     ·rw[hup c (ne_a c _ r' λ_ z=>by cases z) (ne_p c _ r')];exact r'
     ·rw[hup c (ne_a c _ r' λ_ z=>by cases z) (ne_p c _ r')];exact r'
 ·exact λz=>absurd (yv (yn hob) (z▸hp)) (Yk _)
variable {x:yj}{cpos:YZ}{k:Nat}{fd:yP}{ps:Qx}{G:FA}
def flyI{U:Qb}{Y:L2.St}{H H2:Hp}{s s':yd}{a p te:yg}(I:Inv X U Y H s)(I3:Inv X U Y H2 s')(hos:s'.os=s.os)(un:Un (frs X.stack) [] H H2 s.heap s'.heap)(ha:s.heap.objs.size<=a)(h2:∃G,H2 a=some (.ext G))
 (he:s'.heap.get? a=some {cls:=.ref C,dict:=some p,data:=.fields #[.ref te,.none,.none,.none,.bool false,.none]}):sU X.prog X.w X.stack H s (.ref C) (some p) (era H2 a) (.ref a) s':=by
 have hn:H a=none:=I.hok.fresh ha;obtain⟨G,h2⟩:=h2;have hin:∀env∈X.stack,∀b,env.frame=some b->b∈a::frs X.stack:=λenv he b hb=>Nm _ (List.mem_filterMap.mpr ⟨env,he,hb⟩);refine⟨hos,I3.bare,un.era hn,I3.hok.era h2,a,W.hideAll s'.heap (a::frs X.stack),rfl,⟨λb o q=>W.of_hideAll _ q,W.hideAll_none _ Nn,W.funFrames_hide I3.stack hin,⟨_,_,_,he,rfl,rfl,rfl,⟨rfl,rfl⟩,.inl rfl⟩⟩,?_⟩;refine⟨λb o q=>?_,λb o q hb=>?_⟩
 ·by_cases z:b=a
  ·rw[z,zTj]at q;cases q
  ·rw[zfi z]at q;obtain⟨u,hu⟩:=(I3.hok b o q).there;refine⟨u,W.hideAll_get _ hu λhm=>?_⟩;rcases List.mem_cons.mp hm with hm|hm
   ·exact z hm
   ·rw[I3.TM b hm]at q;cases q
 ·obtain⟨u,hu⟩:=un.there b o q (by simp);refine⟨u,W.hideAll_get _ hu λhm=>?_⟩;rcases List.mem_cons.mp hm with hm|hm
  ·exact absurd (yv (yn q) (hm▸ha)) (Yk _)
  ·exact hb hm
end
structure AtC(K:yt)(c f:yj):Prop where
 ok:∀C,yJ K yf c=some (some (.ref C))->W.AskC K C/\Yh K (.ref C) f=some none/\W.hasDictIn K C=true
@[simp] def fAt(c f:yj)(G:FE):FE:=λJ O=>(G J O).bind λp=>match p.1 with
 |.loc n=>match p.2[n]? with
  |some (.exc c' fs)=>if c'=c then(fs.lookup f).bind λd=>some (d,p.2) else none
  |_=>none
 |_=>none
def zZl{K:yt}{Z:Qv}{H:Hp}{f:yj}{d:D}:∀{fs:Wq} {vs:Wk},vs.map (·.1)=fs.map (·.1)->tf K Z H (fs.map (·.2)) (vs.map (·.2))->fs.lookup f=some d->∃v,vs.lookup f=some v/\tq K Z H d v
 |[],_,_,_,h=>by cases h
 |(g,d0)::fs,[],e,_,_=>by cases e
 |(g,d0)::fs,(g',v0)::vs,e,r,h=>by
  simp only[Nf,YJ]at e;obtain⟨rfl,e⟩:=e;obtain⟨v,rr,e2,q1,q2⟩:=r.cons_inv;simp only[Nf,YJ]at e2;obtain⟨rfl,rfl⟩:=e2;unfold YD at h ⊢
  split at h
  ·cases h;exact⟨_,rfl,q1⟩
  ·exact zZl e q2 h
def zZs{c f:yj}{G:FE}{J:Loc}{O O':Mem}{d:D}(h:fAt c f G J O=some (d,O')):∃n fs,G J O=some (.loc n,O')/\O'[n]?=some (.exc c fs)/\fs.lookup f=some d:=by
 obtain⟨⟨d1,O1⟩,e1,h2⟩:=zh h;clear h
 cases d1 with
 |loc n=>
  replace h2:(match O1[n]? with
   |some (.exc c' fs)=>if c'=c then(fs.lookup f).bind λd=>some (d,O1) else none
   |_=>none)=some (d,O'):=h2
  cases hm:O1[n]? with
  |none=>rw[hm]at h2;cases h2
  |some o=>
   rw[hm]at h2
   cases o with
   |exc c' fs=>
    by_cases hc:c'=c
    ·subst hc;simp only[if_true]at h2;obtain⟨d2,e2,h3⟩:=zh h2;cases h3;exact⟨n,fs,e1,hm,e2⟩
    ·simp only[if_neg hc]at h2;cases h2
   |lst _=>cases h2
   |dct _=>cases h2
   |dcf _=>cases h2
   |ins _ _=>cases h2
 |_=>cases h2
def zpB{X:Cx}{o:yB}{pos:YZ}{c f:yj}{G:FE}(ρ:AtC X.K c f)(ho:ME X o G)(hb:Yq o f X.env (yV o X.env)=yV o X.env:=by rfl):ME X (.Attribute o f pos) (fAt c f G):=by
 intro U s Y H Q I ⟨Z,J,O,d,O1,A,eo,kk⟩;obtain⟨n,fs,e1,hm,e2⟩:=zZs eo
 refine zSt hb (thn (ho U s Y H (λv H1=>∃a Z1,v=.ref a/\Z1[n]?=some a/\Ext Z H Z1 H1/\tF X.K Z1 H1 O1) I ⟨Z,J,O,.loc n,O1,A,e1,λZ1 H1 v x1 R1 r1=>by
  obtain⟨a,rfl,e3⟩:=r1.tx;exact⟨a,Z1,rfl,e3,x1,R1⟩⟩) λu s1 ⟨v,H1,I1,r1,a,Z1,ev,e3,x1,R1⟩=>?_)
 subst ev;obtain rfl:u=yI a:=r1;obtain⟨C,dx,hn,hH,hX⟩:=R1.at_ _ _ _ e3 hm;obtain⟨⟨ob,vs,h1,h2,h3,h4,_⟩,_,_⟩:=(show tD X.prog X.w H1 s1.heap a (.ext (zSp a C dx)) from I1.hok a _ hH)
 obtain⟨Zc,Zf,Zd⟩:=ρ.ok C hn;rcases hX with ⟨hfs,_⟩|⟨p,ws,rfl,hp,hk,hr⟩
 ·rw[hfs]at e2;cases e2
 ·obtain⟨w1,l1,rw1⟩:=zZl hk hr e2;obtain⟨mA,hns,hro⟩:=(show tD X.prog X.w H1 s1.heap p (.xd ws) from I1.hok p _ hp)
  obtain⟨u1,hu1,ru1⟩:=se.some_of (v:=w1) (o:=mA f) (by rw[<-l1];exact hro f);obtain⟨od,hod,hl⟩:=zio hns;have δ:W.InstAt s1.heap a ob C (some od):=⟨h1,h2,by unfold W.notCls;rw[h4],by rw[h3];exact hod⟩
  exact W.SN I1.kIn δ Zc (W.findObj_own Zd Zf rfl (by rw[hl,hu1])) (zYn ru1) ⟨w1,H1,I1.tok _,ru1,kk Z1 H1 w1 x1 R1 rw1⟩
def zwx(s:yR):yR:=match s with
 |.ClassDef _ _ _ b _ _ _ _ _ _ _=>b.getD 0 (.Pass ⟨0,0,0,0⟩)
 |_ =>.Pass ⟨0,0,0,0⟩
structure Sv(K:yt)(mg:yj->Option yb)(c f qual:yj)(st:yR)(ps:Qx)(C NE fI:yg)(fd:yP):Prop where
 nm:yJ K yf c=some (some (.ref C))
 ne:mg "NestError"=some (.ref NE)
 ex:Sz K C NE fI f
 fn:Fun K "__init__" qual st fI fd
 bd:Binds K fd ps []
def zTd(ns:Qg):Prop:=ns.length<=100/\∀n∈ns,n.natAbs<1606938044258990275541962092341162602522202993782792835301376
def zVl:∀ns:Qg,(∀n∈ns,n.natAbs<1606938044258990275541962092341162602522202993782792835301376)->PyData.showableAll (ns.map xL)=true/\PyData.hasDictAll (ns.map xL)=false/\PyData.depthAll (ns.map xL)=0/\PyData.leavesShortAll 230 (ns.map xL)=true/\PyData.bulkAll (ns.map xL)=ns.length
 |[],_=>⟨rfl,rfl,rfl,rfl,rfl⟩
 |n::ns,h=>by
  obtain⟨h1,h2,h3,h4,h5⟩:=zVl ns λm hm=>h m (Nm _ hm)
  have hl2:n.natAbs.log2<200:=by
   by_cases z:n.natAbs=0
   ·rw[z];decide
   ·exact(Nat.log2_lt z).mpr (yv (h n Nn) (by decide))
  have hl:n.natAbs.log2<1920:=Nat.lt_trans hl2 (by decide);have ht:=int_text_length_le (k:=200) (by decide) hl2
  have hs:(PyData.shown (.int n)).length<=230:=by
   simp only[PyData.shown];rw[PySem.ofString_length];omega
  refine⟨?_,?_,?_,?_,?_⟩
  ·simp only[Nf,PyData.showableAll,PyData.showable,decide_eq_true hl,h1,Bool.and_self]
  ·simp only[Nf,PyData.hasDictAll,PyData.hasDict,h2,Bool.or_self]
  ·simp only[Nf,PyData.depthAll,PyData.depth,h3,Nat.max_self]
  ·simp only[Nf,PyData.leavesShortAll,PyData.leavesShort,decide_eq_true hs,h4,Bool.and_self]
  ·simp only[Nf,PyData.bulkAll,PyData.bulk,h5,Lr];omega
def zdm{h:yU}:∀{ns:Qg} {hW:List yb},Vals (ns.map V.int) hW->ReadsAll h hW (ns.map xL) []
 |[],_,r=>by cases r;exact .nil
 |n::ns,_,r=>by
  cases r with
  |cons r1 r2=>
   obtain⟨t,rfl⟩:=(show ∃t,_=Value.int n t from r1)
   exact .cons (as:=[]) (bs:=[]) (.int n t) (zdm r2)
section
variable {X:Cx}{v:yB}{tv:TE}{p1 p2 p4:YZ}{x1:yj}{j1:Nat}
def zEv(hv:PE X v tv)(hg:X.A.guards=some [])(hu:X.A.units+64<cLine)(h1:x1.length<=1000:=by decide) :
 PE X (.JoinedStr [.Constant (.str x1) j1 p1,.FormattedValue v 114 none p2] p4) (λY H Q=>tv Y H λx H1=>∃a ns,x=.ref a/\H1 a=some (.lst (ns.map V.int))/\zTd ns/\∀y,Q (.str y) H1):=by
 intro U s Y H Q I h;have z0:(Xr:yj).length=0:=rfl;refine wpAny_JoinedStr ?_;show Joins _ _ _ [yV (.Constant (.str x1) j1 p1) X.env,yV (.FormattedValue v 114 none p2) X.env] _ _ _;refine Calls.Constant_str ⟨x1,_,rfl,by rw[strLen_append,z0,YC];omega,?_⟩;refine wpAny_FormattedValue_repr (thn (hv U _ Y H _ (I.tok _) h) λu s1 ⟨x,H1,I1,r1,a,ns,ex,ea,hs,q⟩=>?_);subst ex;obtain rfl:u=yI a:=r1;obtain⟨_,hW,n,rv,ho⟩:=(show tD X.prog X.w H1 s1.heap a (.lst (ns.map V.int)) from I1.hok a _ ea)
 obtain⟨s1',s2',s3',s4',s5'⟩:=zVl ns hs.2;have rd:Reads s1.heap (.ref a) (.list (ns.map xL)) [a] :=.list (as:=[]) ho rfl rfl (by rw[List.toList_toArray];exact zdm rv)
 have hz:(PyData.shown (.list (ns.map xL))).length<=33000:=by
  have:=PyData.shown_le_bulk 230 (by decide) (.list (ns.map xL)) (by simp only[PyData.leavesShort];exact s4');simp only[PyData.bulk,s5']at this;have:=hs.1;omega
 refine pyReprObj_of_reads rd (by simp only[PyData.showable];exact s1') (PyData.noDict_hsm (by simp only[PyData.hasDict];exact s2')) hg (by simp only[PyData.depth,s3'];omega) (λ_ _ e=>e) (λh' u tk keep=>?_) (by rw[YC];omega);have I2:Inv X U Y H1 {s1 with heap:=h',toks:=tk }:=I1.kept keep
 have last:∀t s2,Inv X U Y H1 s2->∃y t',Value.str (PyData.shown (.list (ns.map xL))) t=.str y t'/\((Xr++x1)++y).length<=yD /\
  Joins (yx X.prog X.w) X.A X.xe [] ((Xr++x1)++y) (λout s₁=>out.length<=yD/\EP X U Y Q (.str out s₁.toks) {s₁ with toks:=s₁.toks+1 }) s2:=λt s2 δ=>by
  have hl:((Xr++x1)++PyData.shown (.list (ns.map xL))).length<=yD:=by rw[strLen_append,strLen_append,z0,YC];omega
  exact⟨_,t,rfl,hl,hl,⟨.str _,H1,δ.tok _,⟨_,rfl⟩,q _⟩⟩
 exact wpAny_formatField_str (last _ _ I2) (last _ _ (I2.tok _)) (by rw[YC];omega)
end
def spL(C:yg)(f:yj):Sp:=λvs H Q _=>∃e a ns,vs=[.ref e,.ref a]/\zTd ns/\H a=some (.lst (ns.map V.int))/\H e=some (.ext (zao e C none)) /\
 ∀l p,H l=none->l≠e->H p=none->p≠e->p≠l->Q .non (upd (upd (upd H l (.lst (ns.map V.int))) p (.xd [(f,.ref l)])) e (.ext (zao e C (some p))))
instance smallDec(ns:Qg):Decidable (zTd ns):=by unfold zTd;exact inferInstance
@[simp] def zNf(c f:yj)(G:FA):FS:=λJ O=>(G J O).bind λp=>match p.1 with
 |[.loc n]=>match p.2[n]? with
  |some (.lst ds)=>(zzk ds).bind λns=>bif decide (zTd ns) then some (.exc c [(f,.loc p.2.length)] (p.2++[.lst ds])) else none
  |_=>none
 |_=>none
def z7o{c f:yj}{G:FA}{J:Loc}{O:Mem}{o:Out}(h:zNf c f G J O=some o):∃n ns O1,G J O=some ([.loc n],O1)/\O1[n]?=some (.lst (ns.map D.int))/\zTd ns/\o=.exc c [(f,.loc O1.length)] (O1++[.lst (ns.map D.int)]):=by
 obtain⟨⟨ds,O1⟩,e1,h2⟩:=zh h;clear h;rcases ds with _|⟨d,ds⟩
 ·cases h2
 ·rcases ds with _|⟨d2,ds⟩
  ·cases d with
   |loc n=>
    replace h2:(match O1[n]? with
     |some (.lst ds)=>(zzk ds).bind λns=>bif decide (zTd ns) then some (.exc c [(f,.loc O1.length)] (O1++[.lst ds])) else none
     |_=>none)=some o:=h2
    cases hm:O1[n]? with
    |none=>rw[hm]at h2;cases h2
    |some ob=>
     rw[hm]at h2
     cases ob with
     |lst ds=>
      replace h2:((zzk ds).bind λns=>bif decide (zTd ns) then some (.exc c [(f,.loc O1.length)] (O1++[.lst ds])) else none)=some o:=h2;obtain⟨ns,e2,h3⟩:=zh h2;have e3:=zAi e2;subst e3
      by_cases hs:zTd ns
      ·rw[decide_eq_true hs]at h3;cases h3;exact⟨n,ns,O1,e1,hm,hs,rfl⟩
      ·rw[decide_eq_false hs]at h3;cases h3
     |dct _=>cases h2
     |dcf _=>cases h2
     |exc _ _=>cases h2
     |ins _ _=>cases h2
   |_=>cases h2
  ·cases d<;>cases h2
def zCo{K:yt}{Z:Qv}{H:Hp}:∀{ns:Qg} {vs:Wi},tf K Z H (ns.map D.int) vs->vs=ns.map V.int
 |[],_,r=>r.nil_inv
 |n::ns,_,r=>by
  obtain⟨v,rr,rfl,q1,q2⟩:=r.cons_inv;rw[q1.int_inv,zCo q2];rfl
def zxt{H:Hp}{a l p:yg}{o o' u1 u2:HO}(ha:H a=none)(hl:l≠a)(hp:p≠a):era (upd (upd (upd (upd H a o) l u1) p u2) a o') a=upd (upd H l u1) p u2:=by
 funext b
 by_cases z:b=a
 ·rw[z,zTj,zE (Yi hp),zE (Yi hl),ha]
 ·rw[zfi z,zE z]
  by_cases z2:b=p
  ·rw[z2,zx,zx]
  ·rw[zE z2,zE z2]
   by_cases z3:b=l
   ·rw[z3,zx,zx]
   ·rw[zE z3,zE z,zE z3]
section
variable {X:Cx}{x:yj}{e:yB}{np cpos pos:YZ}{C NE fI:yg}{f:yj}{k:Nat}{fd:yP}{ps:Qx}{G:FA}
set_option maxHeartbeats 800000 in
def zDo(hn:yJ X.K yf x=some (some (.ref C)))(ρ:Sz X.K C NE fI f)(φ:tS X.prog X.w X.K X.mg X.base CX0 1 fI fd ps (spL C f))(hb:Binds X.K fd ps [])(hr:tN k X.A)(ha:MAn X [e] G)(hk:2<=k:=by decide)(hh:X.calm=true:=by rfl)(hg:Gl X x:=by rfl)
 (he:yh [e] X.env=(false,yV e X.env)::yh [] X.env:=by exact zvc rfl) (hdb:(x==("__debug__":yj))=false:=by decide) :
 MS X (.Raise (some (.Call (.Name x np) [e] [] cpos)) none pos) (zNf x f G):=by
 intro U s Y H Dn I ⟨Z,J,O,o,A,eo,kk⟩;obtain⟨n,ns,O1,e1,hm,hsm,rfl⟩:=z7o eo;clear eo;obtain⟨nm,qn,N,bs,sn,sub,ab,col,dd,k0,k1,k2,k3,k5,lk⟩:=ρ.ob
 have kM':(yW cpos (yh [e] X.env)).any (·.1)=false:=by
  rw[he];rfl
 refine zll (C:=C) (fI:=fI) (nm:=nm) (q:=qn) (N:=N) (bs:=bs) (bm:=.ref NE::W.bmV) (hdct:=true) (sn:=sn) (sub:=sub) (ab:=ab) (col:=col) (dd:=dd) (k0:=k0) (k1:=k1) (k2:=k2) (k3:=k3) (k5:=k5) (newId:="ValueError.__new__")
  xv ((ρ.tail I.kIn).hasType PySem.F.excBase_ValueError.hasBase) (I.ok.hd hh) kM' (zpf I hg (Yx I.mod.kin I.mod.glob hn) ⟨rfl,?_⟩ hdb)
 have h:=ha.ma cpos U s Y H (λvs H'=>∃a Z',vs=[.ref a]/\Z'[n]?=some a/\Ext Z H Z' H'/\tF X.K Z' H' O1) I ⟨Z,J,O,[.loc n],O1,A,e1,λZ' H' vs x' R r=>by
  obtain⟨v,rr,rfl,q1,q2⟩:=r.cons_inv;obtain⟨a,rfl,e3⟩:=q1.tx;exact⟨a,Z',by rw[q2.nil_inv],e3,x',R⟩⟩
 rw[he]at h ⊢;refine Xn (yZ h (λus s2 h2=>?_) λ_ _ y=>y);obtain⟨vs,H',I',r,a,Z',rfl,e3,x',R⟩:=h2;obtain⟨u,rfl,ru⟩:=vals1 r;obtain rfl:u=yI a:=ru;obtain⟨ws,hHa,rws⟩:=R.at_ _ _ _ e3 hm;obtain rfl:=zCo rws;have hz:(zch s2.heap C [.ref a]).get? (s2.heap.objs.size+1)=some {cls:=.ref C,dict:=none,data:=.fields #[.ref s2.heap.objs.size,.none,.none,.none,.bool false,.none]}:=by heap_get
 have kp:∀b o,s2.heap.get? b=some o->(zch s2.heap C [.ref a]).get? b=some o:=λb o q=>ye _ (ye _ q);have hsz:s2.heap.objs.size<=s2.heap.objs.size+1:=Nat.le_succ _;have kR:H' (s2.heap.objs.size+1)=none:=I'.hok.fresh hsz
 have I2:Inv X U Y (upd H' (s2.heap.objs.size+1) (.ext (zao (s2.heap.objs.size+1) C none))) {s2 with heap:=zch s2.heap C [.ref a]} :=
  I'.laid (a:=s2.heap.objs.size+1) (t':=s2.toks) kp hsz (zyp ⟨_,hz⟩)
 have sp:spL C f [.ref (s2.heap.objs.size+1),.ref a] (upd H' (s2.heap.objs.size+1) (.ext (zao (s2.heap.objs.size+1) C none))) (λv H2=>v=.non/\∃l p,H' l=none/\l≠s2.heap.objs.size+1/\H' p=none/\p≠s2.heap.objs.size+1/\p≠l /\
  H2=upd (upd (upd (upd H' (s2.heap.objs.size+1) (.ext (zao (s2.heap.objs.size+1) C none))) l (.lst (ns.map V.int))) p (.xd [(f,.ref l)])) (s2.heap.objs.size+1) (.ext (zao (s2.heap.objs.size+1) C (some p)))) E0 :=
  ⟨_,a,ns,rfl,hsm,by rw[zE (zA hHa kR)];exact hHa,zx,λl p hl hle hp hpe kM=>⟨rfl,l,p,by rwa [zE hle]at hl,hle,by rwa [zE hpe]at hp,hpe,kM,rfl⟩⟩
 have hl:([yI (s2.heap.objs.size+1),.ref a]++[]).length=ps.length:=φ.len _ _ _ _ sp;refine⟨rfl,(show 1<=yD by rw[YC];decide),I'.kIn _ _ lk,W.looks_findIn I'.kIn ρ.ini,ρ.tail I'.kIn,λself=>W.bind_fn I'.kIn self ρ.fn,?_⟩;have kK:tN 1 (X.A.under (.builtin "type.__call__" ⟨.ref C::[.ref a],[]⟩)):=tN.make (k:=1) (hr.mono hk) C [.ref a] [];have henv:=I2.SE.make C [.ref a] [];have hbind:=hb {s2 with heap:=zch s2.heap C [.ref a]} [.ref (s2.heap.objs.size+1),.ref a] I2.kIn hl;have hvals:Vals [V.ref (s2.heap.objs.size+1),.ref a] ([yI (s2.heap.objs.size+1),.ref a]++[]) :=.cons rfl (.cons rfl .nil);have run:=φ.run _ X.stack _ _ _ _ _ _ E0 kK henv hbind hvals sp;show yp (yx X.prog X.w) (X.A.under (.builtin "type.__call__" ⟨.ref C::[.ref a],[]⟩)) (call (.ref fI) [.ref (s2.heap.objs.size+1),.ref a]) _ _ {s2 with heap:=zch s2.heap C [.ref a]};refine wpAny_call (YW run λrr s' hq=>?_)
 cases rr with
 |error ex=>exact yN hq
 |ok fl=>
  cases fl with
  |next=>exact yN hq
  |brk=>exact yN hq
  |cont=>exact yN hq
  |ret uu=>
   obtain⟨v,H2,hos,hbare,un,hok,rv,ev,l,p,hl0,hle,hp0,hpe,kM,e2⟩:=hq;subst ev;obtain rfl:uu=Ym:=rv;obtain⟨_,H3,I3,_,_,e4⟩:=I2.after (Q:=λv' H''=>v'=V.non/\H''=H2) ⟨V.non,H2,hos,hbare,un,hok,rfl,rfl,rfl⟩;rw[e4]at I3;have h3:H2 (s2.heap.objs.size+1)=some (.ext (zao (s2.heap.objs.size+1) C (some p))):=by rw[e2];exact zx
   obtain⟨⟨te,he3⟩,_,_⟩:=(show tD X.prog X.w H2 s'.heap (s2.heap.objs.size+1) (.ext (zao (s2.heap.objs.size+1) C (some p))) from I3.hok _ _ h3)
   refine⟨rfl,I3.kIn _ _ lk,⟨_,te,he3⟩,?_⟩;have F:=flyI (C:=C) (te:=te) I' I3 hos ((Un.laid kp hsz kR).trans un) hsz ⟨_,h3⟩ he3;rw[e2,zxt kR hle hpe]at F;have R1:tF X.K (Z'++[l]) (upd H' l (.lst (ns.map V.int))) (O1++[.lst (ns.map D.int)]):=R.push hl0 ⟨_,zx,rws.ext (Ext.push hl0)⟩;have hp1:upd H' l (.lst (ns.map V.int)) p=none:=by rw[zE kM];exact hp0
   refine kk (Z'++[l]) (upd (upd H' l (.lst (ns.map V.int))) p (.xd [(f,.ref l)])) C (some p) hn ((x'.trans (Ext.push hl0)).trans (Ext.new hp1)) (R1.Th hp1) (.inr ⟨p,[(f,.ref l)],rfl,zx,rfl,?_⟩) U Y H' s2 (.ref (s2.heap.objs.size+1)) s' I' F;have hpg:=zwb (p:=l) R;simp[tf,tq,hpg]
variable {a b c:yB}{es:Qz}{G ψ χ:FE}{pos2 p1 p2:YZ}
def zPv(p:yg)(j:Int):HO:=.ext λh=>∃t u v,IsRange h p 0 j 1 t u v
def zPp:zqi X (.type "range") (λxs H Q=>∃j:Int,xs=[.int j]/\∀p,H p=none->Q (.ref p) (upd H p (zPv p j))):=by
 intro U s Y H xs us Q I r ⟨j,e,k⟩;subst e;obtain⟨u,rfl,ru⟩:=vals1 r;obtain⟨t,rfl⟩:=ru;refine call_range_1 ?_;refine⟨.ref s.heap.objs.size,_,I.laid (t':=s.toks+1+1) (λb o e=>ye _ e) (yo _) (show tD X.prog X.w _ _ _ (zPv _ j) from⟨⟨_,_,_,IsRange.new _ _ _ _ _ _ _⟩,⟨_,yr _ rfl⟩,λh1 h2 ⟨t,u,v,x⟩ y=>⟨t,u,v,y _ x⟩⟩),rfl,k _ I.fresh⟩
def zsr{hW:Array yb}{n:Nat}(h:ItemsOf (λi v=>∃t,v=.int (0+i*1) t) hW n):Vals ((yz n).map λ(k:Nat)=>V.int k) hW.toList:=by
 obtain⟨h1,h2⟩:=h
 have key:∀(l:List yb)(m:Nat),(∀i (hi:i<l.length),∃t,l[i]=.int ((m+i:Nat):Int) t)->Vals ((List.range' m l.length).map λ(k:Nat)=>V.int k) l:=by
  intro l
  induction l with
  |nil=>intro m _;exact .nil
  |cons x xs ih=>
   intro m h;obtain⟨t,e⟩:=h 0 (by simp);refine .cons ⟨t,by simpa using e⟩ (ih (m+1) λi hi=>?_);obtain⟨t,e⟩:=h (i+1) (by simpa using hi);exact⟨t,by rw[show m+1+i=m+(i+1) by omega];simpa using e⟩
 have:=key hW.toList 0 λi hi=>?_
 ·rw[List.range_eq_range',<-h1];simpa using this
 ·have hi':i<hW.size:=by simpa using hi
  obtain⟨t,e⟩:=h2 i hW[i] (by simp[hi']);exact⟨t,by simpa using e⟩
def zpn(G:FE):FE:=λJ O=>(G J O).bind λp=>match p.1 with
 |.int j=>bif decide (-(2^62)<=j/\j<=1000000) then some (.loc p.2.length,p.2++[.lst ((yz j.toNat).map λ(k:Nat) =>.int k)]) else none
 |_=>none
def zur(hc:X.calm=true):zqi X (.type "list") (λxs H Q=>∃p j,xs=[.ref p]/\H p=some (zPv p j)/\-(2^62)<=j/\j<=1000000/\∀l,H l=none->Q (.ref l) (upd H l (.lst ((yz j.toNat).map λ(k:Nat)=>V.int k)))):=by
 intro U s Y H xs us Q I r ⟨p,j,e,hq,h1,h2,k⟩;subst e;obtain⟨u,rfl,ru⟩:=vals1 r;cases ru;obtain⟨⟨t,u,v,hr⟩,_,_⟩:=I.hok p _ hq;have hn:Builtin.Range.rangeSize 0 j 1=(j.toNat:Nat):=by rw[rangeSize_one];split<;>omega
 refine call_list_range (n:=j.toNat) (I.ok.hd hc) hr (small_one (by decide) (by decide) h1 (by omega)) hn (by omega) λh' tk kB' c' kp e hi=>?_;have hm:=Ts;have hv:=zsr hi;refine⟨.ref s.heap.objs.size,_,I.laid (t':=tk) kp (yo _) (show tD X.prog X.w _ h' _ (.lst _) from⟨by simp;omega,kB'.toList,c',hv,by simpa using e⟩),rfl,k _ I.fresh⟩
def zit(hm1:X.mg "list"=none)(hv1:yK "list"=some (.type "list"))(hm2:X.mg "range"=none)(h:ME X e G)(hc:X.calm=true:=by rfl)(hg1:Gl X "list":=by rfl)(hg2:Gl X "range":=by rfl)
 (he:yh [e] X.env=(false,yV e X.env)::yh [] X.env:=by rfl) (he2:yh [.Call (.Name "range" p2) [e] [] pos2] X.env=(false,yV (.Call (.Name "range" p2) [e] [] pos2) X.env)::yh [] X.env:=by rfl) :
 ME X (.Call (.Name "list" p1) [.Call (.Name "range" p2) [e] [] pos2] [] pos) (zpn G) :=
 zdd (z6e (zur hc) hg1 hm1 hv1 (zQd (z6e zPp hg2 hm2 boot_range (zQd h zPg he) (by decide) (by decide) he rfl) zPg he2) (by decide) (by decide) he2 rfl) λZ J O Y H d O' Q A e k=>by
  obtain⟨⟨x,O1⟩,e1,e⟩:=zh e;refine⟨Z,J,O,x,O1,A,e1,λZ1 H1 v x1 R1 r1=>?_⟩;dsimp only at e
  split at e
  ·rename_i j
   obtain⟨hb,e⟩:=zJ e;have hb:=of_decide_eq_true hb;cases e;refine⟨j,by rw[r1.int_inv],λp1 hp1=>⟨p1,j,rfl,zx,hb.1,hb.2,λl hl=>?_⟩⟩;have R2:=R1.Th (o:=zPv p1 j) hp1;refine k _ _ _ (x1.trans ((Ext.new hp1).trans (Ext.push hl))) (R2.push hl ⟨_,zx,?_⟩) (.loc (zwb R2));have hr:=λZ H=>@zwi X.K Z H ((yz j.toNat).map λ(k:Nat)=>(k:Int));simp only[Ng]at hr;exact hr _ _
  ·cases e
@[simp] def zeB:GL:=λds O=>match ds with
 |[.loc n]=>match O[n]? with
  |some (.lst xs)=>bif xs.all zgC then some (.bl (xs.any blB),O) else none
  |_=>none
 |_=>none
def zau(hc:X.calm=true):tJ X (.builtin "any") zeB:=by
 refine tJ.of λU s Y H xs us Q I r Z ds O d O' r1 R e k=>?_;unfold zeB at e
 split at e
 ·split at e
  ·rename_i n _ ys hm
   obtain⟨hb,e⟩:=zJ e;cases e;obtain⟨v,rr,rfl,q1,q2⟩:=r1.cons_inv;obtain⟨a,rfl,e2⟩:=q1.tx;obtain⟨vs,e3,q3⟩:=R.at_ _ _ _ e2 hm;rw[q2.nil_inv]at r;obtain⟨u,rfl,ru⟩:=vals1 r;cases ru;obtain⟨hW,rv,pl,hz⟩:=I.list (SqL.of (K:=X.K) e3);have kJ:a<s.heap.objs.size:=by obtain⟨_,_,e,_⟩:=pl;exact yn e
   refine call_any_walk (wpAny_pyIter_list pl.isList ?_);refine⟨_,_,_,_,_,_,λi=>blB (ys.getD i .non),rfl,Walks.list (A:=X.A.in1) (I.ok.hd hc) s.heap.objs.size a (yC kJ) hW.toArray,⟨⟨_,yr _ rfl,rfl,rfl⟩,pl.isList.push _⟩,?_,λh' tk hk=>?_⟩
   ·intro i w s' Q' E' hP hQ;have hi:hW[i]?=some w:=by simpa using hP
    have hil:i<ys.length:=by
     have h1:=(List.getElem?_eq_some_iff.mp hi).1;rw[q3.length,rv.length];exact h1
    have hyi:ys[i]?=some ys[i]:=by simp[hil]
    obtain⟨vv,ev,rvv⟩:=q3.get hyi;obtain⟨ww,ew,rww⟩:=rv.get ev;rw[hi]at ew;cases ew;have hall:=List.all_eq_true.mp hb ys[i] (Lp hil)
    have hQ':Q' (blB ys[i]) s':=by
     have e:ys.getD i .non=ys[i]:=by rw[Lo,hyi];rfl
     rw[<-e];exact hQ
    cases hyb:ys[i] with
    |bl b=>
     rw[hyb]at rvv hQ';rw[rvv.tI]at rww;cases rww;exact YS hQ'
    |_=>rw[hyb]at hall;cases hall
   ·have hsz:hW.toArray.size=ys.length:=by rw[q3.length,rv.length];simp
    have eall:((yz hW.toArray.size).any λi=>blB (ys.getD i .non))=ys.any blB:=by
     rw[hsz,Bool.eq_iff_iff,Ld,Ld];constructor
     ·rintro⟨i,hi,h⟩;have hi':i<ys.length:=by simpa using hi
      rw[Lo,show ys[i]?=some ys[i] by simp[hi']]at h;exact⟨_,Lp hi',h⟩
     ·rintro⟨y,hy,h⟩;obtain⟨i,hi,rfl⟩:=List.mem_iff_getElem.mp hy;refine⟨i,by simpa using hi,?_⟩;rw[Lo,show ys[i]?=some ys[i] by simp[hi]];exact h
    rw[eall];refine⟨.bl _,H,I.kept (h':=h') (t':=tk) λb o e=>hk b o (by simpa using yC (yn e)) (ye _ e),rfl,k Z H _ Ext.refl R .bl⟩
  ·cases e
 ·cases e
@[simp] def z9y:GL:=λds O=>match ds with
 |[.int i]=>some (.int i,O)
 |[.bl b]=>some (.int (if b then 1 else 0),O)
 |_=>none
def zEs:tJ X (.type "int") z9y:=by
 refine tJ.of λU s Y H xs us Q I r Z ds O d O' r1 R e k=>?_;unfold z9y at e
 split at e
 ·cases e;obtain⟨v,rr,rfl,q1,q2⟩:=r1.cons_inv;exact zho U s Y H _ us Q I r (.inl ⟨_,by rw[q1.int_inv,q2.nil_inv],k Z H _ Ext.refl R .int⟩)
 ·cases e;obtain⟨v,rr,rfl,q1,q2⟩:=r1.cons_inv;exact zho U s Y H _ us Q I r (.inr ⟨_,by rw[q1.tI,q2.nil_inv],k Z H _ Ext.refl R .int⟩)
 ·cases e
@[simp] def z8v:GL:=λds O=>match ds with
 |[.int i,.int j]=>some (.int (if j<i then j else i),O)
 |_=>none
@[simp] def zyB:GL:=λds O=>match ds with
 |[.int i,.int j]=>some (.int (if j>i then j else i),O)
 |_=>none
def zgs(hc:X.calm=true):tJ X (.builtin "min") z8v:=by
 refine tJ.of λU s Y H xs us Q I r Z ds O d O' r1 R e k=>?_;unfold z8v at e
 split at e
 ·cases e;obtain⟨v,rr,rfl,q1,q2⟩:=r1.cons_inv;obtain⟨v2,rr2,rfl,q3,q4⟩:=q2.cons_inv;exact zAs hc U s Y H _ us Q I r ⟨_,_,by rw[q1.int_inv,q3.int_inv,q4.nil_inv],k Z H _ Ext.refl R .int⟩
 ·cases e
@[simp] def fIf(c:FT)(G ψ:FE):FE:=λJ O=>(c J O).bind λp=>bif p.1 then G J p.2 else ψ J p.2
def zsB{t:FT}(hc:MT X c t)(ha:ME X a G)(hb:ME X b ψ):ME X (.IfExp c a b pos) (fIf t G ψ) :=
 zdd (zkw hc ha hb) λZ J O Y H d O' Q A e k=>by
  obtain⟨⟨x,O1⟩,e1,e⟩:=zh e;refine⟨Z,J,O,x,O1,A,e1,λZ1 H1 x1 R1=>?_⟩
  cases x with
  |true=>exact Sg ⟨Z1,J,O1,d,O',A.ext x1 R1,e,λZ2 H2 v x2 R2 r2=>k Z2 H2 v (x1.trans x2) R2 r2⟩
  |false=>exact Sf ⟨Z1,J,O1,d,O',A.ext x1 R1,e,λZ2 H2 v x2 R2 r2=>k Z2 H2 v (x1.trans x2) R2 r2⟩
variable {prog:yu}{w:yG}{A:yH}{E:yb->yd->Prop}{s:yd}
def nextT{it t:yg}{i:Nat}{items:Array yb}{x:yb}{Q:yb->yd->Prop}(hit:s.heap.IsTupleIter it t i)(ht:s.heap.IsTuple t items)(hx:items[i]?=some x)
 (hQ:∀h',h'.IsTupleIter it t (i+1)->Yz it s.heap h'->Q x {s with heap:=h' }):yp (yx prog w) A (YE (.ref it)) Q E s:=by
 obtain⟨ob,hob,kW,hfs⟩:=id hit;obtain⟨ot,hot,_,m,hits⟩:=ht;unfold YE;refine ya (Yp (name:=YV "__next__") hit.typeIs xw (Yj xw hit.typeIs F.entry_tuple_iterator_next ?_ (F.args_tuple_iterator_next_1 _)));show yp _ _ (field (.ref it) 0 >>= _) _ _ s;refine ya (Yt hob hfs (x:=.ref t) rfl ?_);show yp _ _ (if(yI t==Ym)=true then _ else field (.ref it) 1 >>= _) _ _ s;rw[if_neg (show ¬(yI t==Ym)=true from yF)];refine ya (Yt hob hfs (x:=.int i 0) rfl ?_);show yp _ _ (seqItems? (.ref t) >>= _) _ _ s;refine ya (wpAny_seqItems hot hits ?_);simp only[xH,hx];refine ya (xu hob hfs (by simp) (yi ⟨x,rfl,yi (hQ _ ?_ (Heap.SameBut.update ..))⟩));refine⟨_,Yb _ hob (xy (YK hfs _)),(Obj.cls_mapFields ..).trans kW,?_⟩;rw[YK hfs];simp[YU]
def zsu{it t:yg}{i:Nat}{items:Array yb}{Q:yb->yd->Prop}(hh:A.handled=none)(hit:s.heap.IsTupleIter it t i)(ht:s.heap.IsTuple t items)(hx:items[i]?=none)
 (hE:∀h' e,Heap.ExtBut it s.heap h'->(∃o,h'.get? e=some o/\o.cls=.type "StopIteration")->E (.ref e) {s with heap:=h' }):yp (yx prog w) A (YE (.ref it)) Q E s:=by
 obtain⟨ob,hob,kW,hfs⟩:=id hit;obtain⟨ot,hot,_,m,hits⟩:=ht;unfold YE;refine ya (Yp (name:=YV "__next__") hit.typeIs xw (Yj xw hit.typeIs F.entry_tuple_iterator_next ?_ (F.args_tuple_iterator_next_1 _)));show yp _ _ (field (.ref it) 0 >>= _) _ _ s;refine ya (Yt hob hfs (x:=.ref t) rfl ?_);show yp _ _ (if(yI t==Ym)=true then _ else field (.ref it) 1 >>= _) _ _ s;rw[if_neg (show ¬(yI t==Ym)=true from yF)];refine ya (Yt hob hfs (x:=.int i 0) rfl ?_);show yp _ _ (seqItems? (.ref t) >>= _) _ _ s;refine ya (wpAny_seqItems hot hits ?_);simp only[xH,hx];refine ya (wpAny_rule (ya (xu hob hfs (by simp) ?_)));show yp _ _ (newExc (.type "StopIteration") [] >>= _) _ _ _;refine ya ?_;simp only[newExc,newTuple];refine ya (yX ?_ (by size_fits));refine ya (m:=Xk _ _) (wpAny_of_eq (a:=Ym) (by first|rfl|(simp only[Xk];rfl)) ?_);refine yX ?_ (by size_fits);simp only[raiseNew];refine ya (wpAny_handled ?_)
 first|rw[show A.in1.handled=none from hh]|rw[hh]
 exact ya (yi (wpAny_throw (hE _ _ (((Heap.SameBut.update ..).extBut.push _).push _) ⟨_,yr _ rfl,rfl⟩)))
def zno{e it:yg}{i:Int}{x old:yb}{N:yU->Prop}{Q:Option yb->yd->Prop}(he:IsEnum s.heap e it i old)(kN:e≠it)
 (nx:∀(A':yH)(Q':yb->yd->Prop)(E':yb->yd->Prop),(∀h1,N h1->Yz it s.heap h1->Q' x {s with heap:=h1 })->yp (yx prog w) A' (YE (.ref it)) Q' E' s)
 (hN:∀h h',N h->(∀o,h.get? it=some o->h'.get? it=some o)->N h')
 (hQ:∀h',IsEnumOut h' e it (i+1) x s.heap.objs.size->N h'->h'.get? s.heap.objs.size=some {cls:=.type "tuple",data:=.seq #[.int i s.toks,x]}->h'.objs.size=s.heap.objs.size+1 ->
  (∀b o,b≠e->b≠it->s.heap.get? b=some o->h'.get? b=some o)->Q (some (.ref s.heap.objs.size)) {s with heap:=h',toks:=s.toks+1 }):yp (yx prog w) A (pyNext (.ref e)) Q E s:=by
 obtain⟨hp,g,d,tk,os⟩:=s;have hT:Shared.TypeIs ⟨hp,g,d,tk,os⟩ (.ref e) "enumerate":=⟨_,he,rfl⟩
 unfold pyNext;refine ya (wpAny_attempt (Yp (name:=YV "__next__") hT Xd (Yj Xd hT F.entry_enumerate_next ?_ (F.args_enumerate_next_1 _))));show yp _ _ (field (.ref e) 2 >>= _) _ _ _;refine ya (Yt he rfl (x:=.ref it) rfl (ya (nx _ _ _ λh1 n1 sb1=>?_)));replace sb1:Yz it hp h1:=sb1;have e1:IsEnum h1 e it i old:=(sb1.2 e kN).trans he;show yp _ _ (field (.ref e) 3 >>= _) _ _ ⟨h1,g,d,tk,os⟩;refine ya (Yt e1 rfl (x:=YU i) rfl ?_);show yp _ _ (field (.ref e) 4 >>= _) _ _ ⟨h1,g,d,tk,os⟩;refine ya (Yt e1 rfl (x:=.none) rfl ?_);show yp _ _ (mkInt i >>= _) _ _ ⟨h1,g,d,tk,os⟩;refine ya (wpAny_mkInt ?_);show yp _ _ (setField (.ref e) 3 (YU (i+1)) >>= _) _ _ ⟨h1,g,d,tk+1,os⟩;refine ya (xV e1 (by simp) λh2 e2 sb2=>?_);replace sb2:Yz e h1 h2:=sb2;replace e2:IsEnum h2 e it (i+1) old:=e2;show yp _ _ (setField (.ref e) 4 .none >>= _) _ _ ⟨h2,g,d,tk+1,os⟩;refine ya (xV e2 (by simp) λh3 e3 sb3=>?_);replace sb3:Yz e h2 h3:=sb3;replace e3:IsEnum h3 e it (i+1) old:=e3;show yp _ _ (newTuple [.int i tk,x] >>= _) _ _ ⟨h3,g,d,tk+1,os⟩;refine ya (wpAny_newTuple ?_);have z3:h3.objs.size=hp.objs.size:=by rw[sb3.1,sb2.1,sb1.1]
 have el:e<hp.objs.size:=yn he;have ne4:hp.objs.size≠e:=Yo el;obtain⟨h4,hh4⟩:∃h4,h4=h3.push {cls:=.type "tuple",data:=.seq #[.int i tk,x]}:=⟨_,rfl⟩
 have e4:IsEnum h4 e it (i+1) old:=by rw[hh4];exact ye _ e3
 have t4:h4.get? hp.objs.size=some {cls:=.type "tuple",data:=.seq #[.int i tk,x]}:=by rw[hh4,<-z3];exact yr _ rfl
 have z4:h4.objs.size=hp.objs.size+1:=by rw[hh4,YG,z3]
 have up:∀b o,b≠e->h1.get? b=some o->h4.get? b=some o:=λb o hb q=>by
  rw[hh4];exact ye _ ((sb3.2 b hb).trans ((sb2.2 b hb).trans q))
 show yp _ _ (Builtin.SmallTypes.ownedTupleIsFree (.ref e) >>= _) _ _ ⟨h3.push {cls:=.type "tuple",data:=.seq #[.int i tk,x]},g,d,tk+1,os⟩;rw[<-hh4,z3];refine ya ?_;unfold Builtin.SmallTypes.ownedTupleIsFree;refine ya (Yt e4 rfl (x:=.none) rfl (yi ?_));simp only[if_true];refine ya (wpAny_rule (ya (Yt e4 rfl (x:=old) rfl (ya (xV e4 (by simp) λh5 e5 sb5=>?_)))));replace sb5:Yz e h4 h5:=sb5;replace e5:IsEnum h5 e it (i+1) x:=e5;show yp _ _ (Builtin.SmallTypes.ownedTupleHandOut (.ref e) (.ref hp.objs.size) >>= _) _ _ ⟨h5,g,d,tk+1,os⟩;refine ya ?_;unfold Builtin.SmallTypes.ownedTupleHandOut;refine ya (xV e5 (by simp) λh6 e6 sb6=>?_);replace sb6:Yz e h5 h6:=sb6;replace e6:IsEnumOut h6 e it (i+1) x hp.objs.size:=e6;refine xV e6 (by simp) λh7 e7 sb7=>?_;replace sb7:Yz e h6 h7:=sb7;replace e7:IsEnumOut h7 e it (i+1) x hp.objs.size:=e7;have up7:∀b o,b≠e->h4.get? b=some o->h7.get? b=some o:=λb o hb q=>(sb7.2 b hb).trans ((sb6.2 b hb).trans ((sb5.2 b hb).trans q));refine ya (wpAny_letGo (yi ⟨_,rfl,yi (hQ h7 e7 (hN _ _ n1 λo q=>up7 _ _ (Yi kN) (up _ _ (Yi kN) q)) (up7 _ _ ne4 t4) ?_ λb o h1 h2 q=>up7 _ _ h1 (up _ _ h1 ((sb1.2 b h2).trans q)))⟩));show h7.objs.size=hp.objs.size+1;rw[sb7.1,sb6.1,sb5.1,z4]
def z3q{e it:yg}{i:Int}{old:yb}{Q:Option yb->yd->Prop}(he:IsEnum s.heap e it i old)
 (nx:∀(A':yH)(Q':yb->yd->Prop)(E':yb->yd->Prop),A'.handled=A.handled->(∀h' x,Heap.ExtBut it s.heap h'->(∃o,h'.get? x=some o/\o.cls=.type "StopIteration")->E' (.ref x) {s with heap:=h' })->yp (yx prog w) A' (YE (.ref it)) Q' E' s)
 (hQ:∀h',Heap.ExtBut it s.heap h'->Q none {s with heap:=h' }):yp (yx prog w) A (pyNext (.ref e)) Q E s:=by
 have hT:s.TypeIs (.ref e) "enumerate":=⟨_,he,rfl⟩
 unfold pyNext;refine ya (wpAny_attempt (Yp (name:=YV "__next__") hT Xd (Yj Xd hT F.entry_enumerate_next ?_ (F.args_enumerate_next_1 _))));show yp _ _ (field (.ref e) 2 >>= _) _ _ _;refine ya (Yt he rfl (x:=.ref it) rfl (ya (nx _ _ _ rfl λh' x eb ⟨o,ho,hc⟩=>?_)));exact ya (Xq (T:="StopIteration") (b:=true) ⟨o,ho,hc⟩ isSubtype_stop (yi (hQ _ eb)))
variable {U:Qb}{Y:L2.St}{H:Hp}
def zCm{fp:Qv}(hf:∀b∈fp,z0q X U H b){b:yg}{u:HO}(e:H b=some u):b∉fp:=λz=>by rw[(hf b z).1]at e;cases e
def zzA{fp:Qv}(hf:∀b∈fp,z0q X U H b):∀b∈fp,(b∈X.ex\/X.s₀.heap.objs.size<=b)/\b≠X.env.locals/\(∀x c,X.env.cells.lookup x=some c->c≠b)/\∀p∈X.pn++U,p.1≠b:=λb hb=>by
 obtain⟨_,f1,_,f3,f4,f5⟩:=hf b hb;exact⟨f3,f1,f4,f5⟩
def z5l{fp:Qv}{h':yU}{t':Nat}(I:Inv X U Y H s)(hf:∀b∈fp,z0q X U H b)(k:∀b o,b∉fp->s.heap.get? b=some o->h'.get? b=some o):Inv X U Y H {s with heap:=h',toks:=t' }:=by
 refine I.call (g':=s.gens) (t':=t') (d':=s.drawn) (ch:=fp) ⟨λb o e _ _ hx=>k b o hx e,λb o e _ _ hx=>⟨o.slots,k b o hx e⟩,λ_ _ _ n _=>n,λb o e hx=>⟨o,k b o hx e⟩,λ_ _ e=>e,λ_ _ _ e=>e,λ_ ps e=>⟨#[],by rw[e];simp⟩⟩ (λa o e=>?_) I.bare (zzA hf);refine(I.hok a o e).stay (λb u hb q=>k b u ?_ q) (λ_ q=>q) λ_ _ q=>q;rcases hb with rfl|hb
 ·exact zCm hf e
 ·exact zCm hf hb
def z2e{fp:Qv}{h':yU}{t':Nat}{p:yg}{o:HO}(I:Inv X U Y H s)(hf:∀b∈fp,z0q X U H b)(k:∀b o,b∉fp->s.heap.get? b=some o->h'.get? b=some o)(hp:s.heap.objs.size<=p)
 (new:tD X.prog X.w (upd H p o) h' p o):Inv X U Y (upd H p o) {s with heap:=h',toks:=t' }:=by
 have hn:=I.hok.fresh hp;have kJ:∀b ob,s.heap.get? b=some ob->b≠p:=λb ob e=>yC (yv (yn e) hp)
 refine I.call (g':=s.gens) (t':=t') (d':=s.drawn) (ch:=fp) ⟨λb o e _ _ hx=>k b o hx e,λb o e _ _ hx=>⟨o.slots,k b o hx e⟩,λb ob e n _=>by rw[zE (kJ b ob e)];exact n,λb o e hx=>⟨o,k b o hx e⟩,
  λ_ _ e=>by rw[zE (zA e hn)];exact e,λ_ _ _ e=>by rw[zE (zA e hn)];exact e,λ_ ps e=>⟨#[],by rw[zE (zA e hn),e];simp⟩⟩ (λa u e=>?_) I.bare (zzA hf)
 by_cases ha:a=p
 ·subst ha;rw[zx]at e;cases e;exact new
 ·rw[zE ha]at e;refine(I.hok a u e).stay (λb u hb q=>k b u ?_ q) (λb q=>by rw[zE (zA q hn)];exact q) λb xs q=>by rw[zE (zA q hn)];exact q
  rcases hb with rfl|hb
  ·exact zCm hf e
  ·exact zCm hf hb
def Ien(δ:It):It:=⟨δ.go,λi H x H'=>∃p y,x=.ref p/\H p=none/\H'=upd H p (.tup [.int i,y])/\δ.yld i H y H,δ.stop,λ_ _=>False⟩
def zYt{P:yu}{w:yG}{H:Hp}{h:yU}{p:yg}{x y:V}{u v:yb}(e:h.get? p=some {cls:=.type "tuple",data:=.seq #[u,v]})(rx:RelV x u)(ry:RelV y v):tD P w H h p (.tup [x,y]) :=
 ⟨by rw[YC];simp,[u,v],.cons rx (.cons ry .nil),⟨_,e,rfl,_,rfl⟩⟩
def zWr{P:yu}{w:yG}{K:yt}{elts:Qz}{x1}{pos:YZ}(a e it:yg)(kN:e≠it):Turn P w K (.Tuple elts x1 pos) (Ien (Itl K a)) [e,it] e (λi h=>(∃old,IsEnum h e it i old)/\h.IsListIter it a i) where
 mem:=by simp
 obj:=λi h ⟨⟨old,he⟩,st⟩ b hb=>by
  have hb:b=e\/b=it:=by simpa using hb
  rcases hb with rfl|rfl
  ·exact⟨_,he,λv z=>by have z':Data.fields _=Data.cell v:=z;cases z'⟩
  ·obtain⟨o,q,c,d⟩:=st;exact⟨o,q,λv z=>by rw[d]at z;cases z⟩
 keep:=λi h h' ⟨⟨old,he⟩,st⟩ k=>⟨⟨old,k e (by simp) _ he⟩,st.at λo q=>k it (by simp) o q⟩
 item:=by
  intro X hP hw hK i U s Y H E hc I hf ⟨⟨old,he⟩,st⟩ hg;replace hc:=hc.elim id yN;subst hP hw hK;obtain⟨xs,x,hq,hx⟩:=hg;obtain⟨hW,rv,p,hz⟩:=I.list hq;obtain⟨u,hu,ru⟩:=rv.get hx;refine zno (N:=λh=>h.IsListIter it a (i+1)) he kN (λA' Q' E' hQ=>wpAny_nextOf_list_item st p.isList (x:=u) (by simpa using hu) λh' st' sb=>hQ h' st' sb) (λh h' n k=>n.at λo q=>k o q) λh' eo n' t' z' kk=>?_;refine⟨_,rfl,wpAny_letOwnedTupleGo_enum eo λh2 e2 sb2=>?_⟩;replace sb2:Yz e h' h2:=sb2;have kJ:e<s.heap.objs.size:=yn he;have t2:=(sb2.2 s.heap.objs.size (Yo kJ)).trans t';have kR:=I.hok.fresh (yo s.heap.objs.size)
  have I2:Inv X U Y (upd H s.heap.objs.size (.tup [.int i,x])) {s with heap:=h2,toks:=s.toks+1 }:=by
   refine z2e I hf (λb o hb q=>?_) (yo _) (zYt t2 ⟨_,rfl⟩ ru);simp only[Nk,Nu,or_false,not_or]at hb;exact(sb2.2 b hb.1).trans (kk b o hb.1 hb.2 q)
  refine⟨.ref s.heap.objs.size,_,I2,rfl,⟨_,x,rfl,kR,rfl,rfl,λys hy=>by rw[I.Sa hy hq];exact hx⟩,⟨⟨u,by simpa using e2⟩,n'.at λo q=>(sb2.2 it (Yi kN)).trans q⟩,λb hb=>?_⟩
  ·rw[zE]
   ·exact(hf b hb).1
   ·rintro rfl;have hb:s.heap.objs.size=e\/s.heap.objs.size=it:=by simpa using hb
    rcases hb with q|q
    ·exact absurd kJ (by rw[q];exact Yk _)
    ·obtain⟨o,qo,_⟩:=st;exact absurd (yn qo) (by rw[q];exact Yk _)
 done:=by
  intro X hP hw hK i U s Y H E hc I hf ⟨⟨old,he⟩,st⟩ hg;replace hc:=hc.elim id yN;subst hP hw hK;obtain⟨xs,hq,hx⟩:=hg;obtain⟨hW,rv,p,hz⟩:=I.list hq;have hl:=rv.length;refine z3q he (λA' Q' E' hA hE=>wpAny_nextOf_list_end (hA.trans (I.ok.hd hc)) st p.isList (by simp;omega) hE) λh' eb=>⟨rfl,z5l (t':=s.toks) I hf λb o hb q=>eb b o (λz=>hb (by simp[z])) q⟩
 self:=λ_ _ _ _ _ ⟨⟨old,he⟩,_⟩ h=>wpAny_pyIter_enum he h
def z7r{P:yu}{w:yG}{K:yt}{elts:Qz}{x1}{pos:YZ}(a e it:yg)(kN:e≠it):Turn P w K (.Tuple elts x1 pos) (Ien (Itt K a)) [e,it] e (λi h=>(∃old,IsEnum h e it i old)/\h.IsTupleIter it a i) where
 mem:=by simp
 obj:=λi h ⟨⟨old,he⟩,st⟩ b hb=>by
  have hb:b=e\/b=it:=by simpa using hb
  rcases hb with rfl|rfl
  ·exact⟨_,he,λv z=>by have z':Data.fields _=Data.cell v:=z;cases z'⟩
  ·obtain⟨o,q,c,d⟩:=st;exact⟨o,q,λv z=>by rw[d]at z;cases z⟩
 keep:=λi h h' ⟨⟨old,he⟩,st⟩ k=>⟨⟨old,k e (by simp) _ he⟩,st.at λo q=>k it (by simp) o q⟩
 item:=by
  intro X hP hw hK i U s Y H E hc I hf ⟨⟨old,he⟩,st⟩ hg;replace hc:=hc.elim id yN;subst hP hw hK;obtain⟨xs,x,hq,hx⟩:=hg;obtain⟨hW,rv,p,hz⟩:=I.tuple hq;obtain⟨u,hu,ru⟩:=rv.get hx;refine zno (N:=λh=>h.IsTupleIter it a (i+1)) he kN (λA' Q' E' hQ=>nextT st (show s.heap.IsTuple a hW.toArray from p) (x:=u) (by simpa using hu) λh' st' sb=>hQ h' st' sb) (λh h' n k=>n.at λo q=>k o q) λh' eo n' t' z' kk=>?_;refine⟨_,rfl,wpAny_letOwnedTupleGo_enum eo λh2 e2 sb2=>?_⟩;replace sb2:Yz e h' h2:=sb2;have kJ:e<s.heap.objs.size:=yn he;have t2:=(sb2.2 s.heap.objs.size (Yo kJ)).trans t';have kR:=I.hok.fresh (yo s.heap.objs.size)
  have I2:Inv X U Y (upd H s.heap.objs.size (.tup [.int i,x])) {s with heap:=h2,toks:=s.toks+1 }:=by
   refine z2e I hf (λb o hb q=>?_) (yo _) (zYt t2 ⟨_,rfl⟩ ru);simp only[Nk,Nu,or_false,not_or]at hb;exact(sb2.2 b hb.1).trans (kk b o hb.1 hb.2 q)
  refine⟨.ref s.heap.objs.size,_,I2,rfl,⟨_,x,rfl,kR,rfl,rfl,λys hy=>by rw[I.sK hy hq];exact hx⟩,⟨⟨u,by simpa using e2⟩,n'.at λo q=>(sb2.2 it (Yi kN)).trans q⟩,λb hb=>?_⟩
  ·rw[zE]
   ·exact(hf b hb).1
   ·rintro rfl;have hb:s.heap.objs.size=e\/s.heap.objs.size=it:=by simpa using hb
    rcases hb with q|q
    ·exact absurd kJ (by rw[q];exact Yk _)
    ·obtain⟨o,qo,_⟩:=st;exact absurd (yn qo) (by rw[q];exact Yk _)
 done:=by
  intro X hP hw hK i U s Y H E hc I hf ⟨⟨old,he⟩,st⟩ hg;replace hc:=hc.elim id yN;subst hP hw hK;obtain⟨xs,hq,hx⟩:=hg;obtain⟨hW,rv,p,hz⟩:=I.tuple hq;have hl:=rv.length;refine z3q he (λA' Q' E' hA hE=>zsu (hA.trans (I.ok.hd hc)) st (show s.heap.IsTuple a hW.toArray from p) (by simp;omega) hE) λh' eb=>⟨rfl,z5l (t':=s.toks) I hf λb o hb q=>eb b o (λz=>hb (by simp[z])) q⟩
 self:=λ_ _ _ _ _ ⟨⟨old,he⟩,_⟩ h=>wpAny_pyIter_enum he h
def zMs(l:yg)(items:Array yb)(n:Nat)(dct:Qw)(sl:Array (Option yb)) :
 Meets (YN.«enumerate.__new__» ⟨[.type "enumerate",.ref l],[]⟩) (λ_ R s=>s.heap.get? l=some {cls:=.type "tuple",dict:=dct,data:=.seq items n,slots:=sl } /\
  R (.ok (.ret (.ref (s.heap.push {cls:=.type "tuple_iterator",data:=.fields #[.ref l,.int 0 0]}).objs.size)))
   {s with heap:=(s.heap.push {cls:=.type "tuple_iterator",data:=.fields #[.ref l,.int 0 0]}).push {cls:=.type "enumerate",data:=.fields #[.none,.bool false,.ref s.heap.objs.size,YU 0,.none,.none]}}) :=
 .of_wp λprog w A R s h=>by
  obtain⟨hp,g,d,tk,os⟩:=s;obtain⟨hl,h⟩:=h;have kX:=sub_enumerate;have hL:Heap.IsTuple (Shared.heap ⟨hp,g,d,tk,os⟩) l items:=⟨_,hl,rfl,n,rfl⟩
  wp_walk using xM hl
  refine wpAny_stack_any λst=>yi ?_
  split
  ·rename_i c _ _ _ _ _
   cases (c==YR "enumerate")
   ·wp_walk using xM hl,wpAny_pyIter_tuple hL
    exact⟨_,rfl,h⟩
   ·wp_walk using xM hl,wpAny_pyIter_tuple hL
    exact⟨_,rfl,h⟩
  ·wp_walk using xM hl,wpAny_pyIter_tuple hL
   exact⟨_,rfl,h⟩
def zos{prog:yu}{w:yG}{A:yH}{E:yb->yd->Prop}{l:yg}{items:Array yb}{Q:yb->yd->Prop}(hL:s.heap.IsTuple l items)
 (h:∀h',IsEnum h' (s.heap.objs.size+1) s.heap.objs.size 0 .none->h'.IsTupleIter s.heap.objs.size l 0->h'.objs.size=s.heap.objs.size+2 ->
  (∀b o,s.heap.get? b=some o->h'.get? b=some o)->Q (.ref (s.heap.objs.size+1)) {s with heap:=h' }):yp (yx prog w) A (call (.type "enumerate") [.ref l]) Q E s:=by
 obtain⟨⟨c,dct,dt,sl⟩,hl,hc,n,hd⟩:=hL;replace hc:c=.type "tuple":=hc;replace hd:dt=.seq items n:=hd;subst hc hd;refine callType_new F.called_enumerate (by decide) (F.typeCall_enumerate_1 _) (F.newCall_enumerate_1 _) (λobj=>F.args_object_init_2 obj _) F.entry_enumerate_new (zMs l items n dct sl) ⟨hl,?_⟩;have hz:(s.heap.push {cls:=.type "tuple_iterator",data:=.fields #[.ref l,.int 0 0]}).objs.size=s.heap.objs.size+1:=YG ..
 have he:IsEnum ((s.heap.push {cls:=.type "tuple_iterator",data:=.fields #[.ref l,.int 0 0]}).push {cls:=.type "enumerate",data:=.fields #[.none,.bool false,.ref s.heap.objs.size,YU 0,.none,.none]}) (s.heap.objs.size+1) s.heap.objs.size 0 .none:=by
  have:=yr (s.heap.push {cls:=.type "tuple_iterator",data:=.fields #[.ref l,.int 0 0]}) (o:={cls:=.type "enumerate",data:=.fields #[.none,.bool false,.ref s.heap.objs.size,YU 0,.none,.none]}) rfl;rw[hz]at this;exact this
 show _/\_;rw[hz];exact⟨⟨_,he,rfl⟩,h _ he ⟨_,ye _ (yr _ rfl),rfl,rfl⟩ (by rw[YG,hz]) λb o x=>ye _ (ye _ x)⟩
def zwC(K:yt)(tl:TE):TI:=λY H R=>tl Y H λx H1=>∃a,x=.ref a/\((∃xs,SqL K H1 a xs)/\R (Ien (Itl K a)) H1\/(∃xs,SqT K H1 a xs)/\R (Ien (Itt K a)) H1)
def z5y{l:yB}{tl:TE}{elts:Qz}{x1}{tp p pos:YZ}(hg:Gl X "enumerate")(hm:X.mg "enumerate"=none)(hv:yK "enumerate"=some (.type "enumerate"))(hl:PE X l tl)(hs:yh [l] X.env=[(false,yV l X.env)]:=by rfl) :
 PI X (.Tuple elts x1 tp) (.Call (.Name "enumerate" p) [l] [] pos) (zwC X.K tl):=by
 intro U s Y H R I h
 refine Call_ (zmk I hg hm hv (YO (thn (zQd hl zPg hs pos U s Y H (λvs H1=>match vs with
  |[x]=>∃a,x=.ref a/\((∃xs,SqL X.K H1 a xs)/\R (Ien (Itl X.K a)) H1\/(∃xs,SqT X.K H1 a xs)/\R (Ien (Itt X.K a)) H1)
  |_=>False) I h) λus s1 ⟨vs,H1,I1,r1,q1⟩=>?_) hs rfl))
 dsimp only at q1
 split at q1
 case h_2=>exact q1.elim
 obtain⟨a,e,q⟩:=q1;subst e
 cases r1 with
 |cons r rr=>
  cases rr;cases r
  have fin:∀h':yU,(∀b o,s1.heap.get? b=some o->h'.get? b=some o)->∀b∈[s1.heap.objs.size+1,s1.heap.objs.size],z0q X U H1 b:=λh' kp b hb=>by
   have hb:b=s1.heap.objs.size+1\/b=s1.heap.objs.size:=by simpa using hb
   rcases hb with rfl|rfl
   ·exact I1.Sb (Nat.le_succ _) (I1.hok.fresh (Nat.le_succ _))
   ·exact I1.Sb (yo _) (I1.hok.fresh (yo _))
  have kN:s1.heap.objs.size+1≠s1.heap.objs.size:=Nat.succ_ne_self _;rcases q with ⟨⟨xs,hq⟩,q⟩|⟨⟨xs,hq⟩,q⟩
  ·obtain⟨hW,rv,pl,hz⟩:=I1.list hq;refine call_enumerate_list pl.isList λh' e1 i1 z1 kp=>?_;refine wpAny_pyIter_enum (s:={s1 with heap:=h' }) e1 ?_;exact⟨_,[s1.heap.objs.size+1,s1.heap.objs.size],_,_,H1,rfl,I1.kept (t':=s1.toks) kp,zWr a _ _ kN,⟨⟨_,e1⟩,i1⟩,fin h' kp,q⟩
  ·obtain⟨hW,rv,pl,hz⟩:=I1.tuple hq;refine zos (show s1.heap.IsTuple a hW.toArray from pl) λh' e1 i1 z1 kp=>?_;refine wpAny_pyIter_enum (s:={s1 with heap:=h' }) e1 ?_;exact⟨_,[s1.heap.objs.size+1,s1.heap.objs.size],_,_,H1,rfl,I1.kept (t':=s1.toks) kp,z7r a _ _ kN,⟨⟨_,e1⟩,i1⟩,fin h' kp,q⟩
def zbh(ds:Wm):Wm:=ds.zipIdx.map λp =>.tup [.int (p.2:Nat),p.1]
def zEd(ds:Wm):(zbh ds).length=ds.length:=by simp[zbh]
def zjn{ds:Wm}{i:Nat}{d:D}(h:(zbh ds)[i]?=some d):∃y,ds[i]?=some y/\d=.tup [.int i,y]:=by
 unfold zbh at h;rw[yk,Xp]at h
 cases e:ds[i]? with
 |none=>rw[e]at h;cases h
 |some y=>
  rw[e]at h;refine⟨y,rfl,?_⟩;have:=Yn h;rw[<-this];simp
@[simp] def zsn(G:FE):FI:=λJ O=>(G J O).bind λp=>match p.1 with
 |.tup ds=>some (zbh ds,yes,p.2)
 |.fz ds=>some (zbh ds,yes,p.2)
 |.loc n=>match p.2[n]? with
  |some (.lst ds)=>some (zbh ds,zQo n ds,p.2)
  |_=>none
 |_=>none
def zHp{K:yt}{δ:It}{Z:Qv}{H:Hp}{ds:Wm}{ok:Mem->Bool}(h:Sq K δ Z H ds ok):Sq K (Ien δ) Z H (zbh ds) ok:=by
 refine⟨λZ' H' O' i x R o hi=>h.go Z' H' O' i x R o (by rw[zEd]at hi;exact hi),λZ' H' O' i x H'' d x' R o e ⟨p,y,e1,hp,e2,yl⟩=>?_,λZ' H' O' x R o=>by rw[zEd];exact h.stop Z' H' O' x R o⟩;obtain⟨z,ez,rfl⟩:=zjn e;obtain⟨_,_,rz⟩:=h.yld Z' H' O' i y H' z x' R o ez yl;subst e1 e2;exact⟨Ext.new hp,R.Th hp,.tup zx (.cons .int (.cons (rz.ext (Ext.new hp)) .nil))⟩
def zoh{a:yB}{G:FE}{elts:Qz}{x1}{tp p pos:YZ}(hm:X.mg "enumerate"=none)(hv:yK "enumerate"=some (.type "enumerate"))(h:ME X a G)(hg:Gl X "enumerate":=by rfl)(hs:yh [a] X.env=[(false,yV a X.env)]:=by rfl) :
 MI X (.Tuple elts x1 tp) (.Call (.Name "enumerate" p) [a] [] pos) (zsn G) :=
 zns (z5y hg hm hv h hs) λZ J O Y H ds ok O' R A e k=>by
  obtain⟨⟨x,O1⟩,e1,e⟩:=zh e;refine⟨Z,J,O,x,O1,A,e1,λZ1 H1 v1 x1 R1 r1=>?_⟩;dsimp only at e
  split at e
  ·cases e;obtain⟨a,vs,rfl,e2,q2⟩:=r1.tR;exact⟨a,rfl,.inr ⟨⟨vs,SqT.of e2⟩,k Z1 H1 _ x1 R1 (zHp (zax e2 q2))⟩⟩
  ·cases e;obtain⟨a,vs,rfl,e2,q2⟩:=r1.sE;exact⟨a,rfl,.inl ⟨⟨vs,e2.sq⟩,k Z1 H1 _ x1 R1 (zHp (zlr λZ' H' O' x _ _=>⟨vs,(x.fz e2).sq,q2.ext x⟩))⟩⟩
  ·split at e
   ·rename_i hm
    cases e;obtain⟨a,rfl,e2⟩:=r1.tx;obtain⟨vs,e3,q3⟩:=R1.at_ _ _ _ e2 hm;refine⟨a,rfl,.inl ⟨⟨vs,SqL.of e3⟩,k Z1 H1 _ x1 R1 (zHp (zlr λZ' H' O'' x R' o=>?_))⟩⟩;obtain⟨vs',e4,q4⟩:=R'.at_ _ _ _ (x.get e2) (Tu.mp o);exact⟨vs',SqL.of e4,q4⟩
   ·cases e
  ·cases e
@[simp] def zfk:GM:=λx ds O=>match x,ds with
 |.loc n,[d]=>match O[n]? with
  |some (.lst xs)=>bif zve d&&xs.all zve then some (.int (xs.countP λy=>eqF y d:Nat),O) else none
  |_=>none
 |_,_=>none
def zWn{x:V}:∀{xs:Wi} {us:List yb},Vals xs us->xs.all zFk=true->us.countP (eqU x)=xs.countP λy=>eqV y x
 |_,_,.nil,_=>rfl
 |y::xs,u::us,.cons r t,f=>by
  rw[La,yM]at f;rw[Lh,Lh,z5s r f.1,zWn t f.2]
def zUo{K:yt}{Z:Qv}{H:Hp}{x:D}{v:V}(rx:tq K Z H x v)(fx:zve x=true):∀{ds:Wm} {vs:Wi},tf K Z H ds vs->ds.all zve=true->(vs.countP λy=>eqV y v)=ds.countP λd=>eqF d x
 |[],_,r,_=>by rw[r.nil_inv];rfl
 |d::ds,_,r,f=>by
  obtain⟨w,ws,rfl,r1,r2⟩:=r.cons_inv;rw[La,yM]at f;rw[Lh,Lh,zUo rx fx r2 f.2,ztu r1 rx f.1 fx]
def z8s:MtG X "list.count" zfk:=by
 refine MtG.of λU s Y H x xs v us Q I rx rs Z dx ds O d O' r1 r2 R e k=>?_;unfold zfk at e
 split at e
 ·split at e
  ·rename_i hm
   obtain⟨h1,e⟩:=zJ e;rw[yM]at h1;cases e;obtain⟨a,rfl,ea⟩:=r1.tx;obtain⟨vs,e3,q3⟩:=R.at_ _ _ _ ea hm;obtain⟨w,r,rfl,q1,q2⟩:=r2.cons_inv;rw[q2.nil_inv]at rs;obtain⟨u,rfl,ru⟩:=vals1 rs;cases rx;obtain⟨z,hW,n,rv,hl,el⟩:=I.SI e3;obtain⟨fv,_⟩:=z3s q1 h1.1 q3 h1.2;refine xU PySem.F.slot_list_count ⟨_,el,rfl⟩ PySem.F.entry_list_count (PySem.F.args_list_count_2 _ _) (SeqAt.list_countAt a hW.toArray n _ _ u (eqU w)) ⟨el,λy hy=>zMj ru (ztm q1 h1.1) rv fv y (by simpa using hy),?_⟩;refine⟨.int _,H,I.tok _,⟨_,rfl⟩,?_⟩;rw[show hW.toArray.toList=hW by simp,zWn rv fv,zUo q1 h1.1 q3 h1.2];exact k Z H _ Ext.refl R .int
  ·cases e
 ·cases e
def zjw{o:yB}{ψ:FA}{kD:YZ}(ho:ME X o G)(ha:MAn X (e::es) ψ)
 (kG:Yq o "count" X.env (yV o X.env)=yV o X.env:=by rfl)
 (kH:((yW pos (yh (e::es) X.env)).all (λx=>!x.1)&&(xi pos (Yv [] X.env)).all (λx=>x.1.isSome)
  && decide ((e::es).length+([]:List YQ).length+(if([]:List YQ).isEmpty then 0 else 1)<30))=true:=by rfl)
 (kE:(kD.endLine==pos.line)=true:=by rfl) (hs:yh (e::es) X.env=(false,yV e X.env)::yh es X.env:=by rfl) (kF:(yW pos (yh es X.env)).any (·.1)=false:=by rfl) :
 ME X (.Call (.Attribute o "count" kD) (e::es) [] pos) (zPn zfk G ψ):=zRt PySem.F.slot_list_count PySem.F.type_list_count z8s ho ha kG kH kE hs kF
@[simp] def zjA(i:Nat)(g:φ2)(G:FE):FS:=λJ O=>match J[i]? with
 |some (some x)=>(G J O).bind λp=>(g x p.1 p.2).bind λq=>some (.next (J.set i (some q.1)) q.2)
 |_=>none
def zGv:φ2:=λx y O=>match x,y with
 |.int i,.int j=>some (.int (i+j),O)
 |_,_=>none
def zly:OpM X (inplaceOp .Add) zGv:=by
 refine OpM.of λU s Y H x y v u Q I rx ry Z dx dy O d O' r1 r2 R e k=>?_;unfold zGv at e
 split at e
 ·cases e;exact zXx U s Y H x y v u Q I rx ry ⟨_,_,r1.int_inv,r2.int_inv,k Z H _ Ext.refl R .int⟩
 ·cases e
def zYz{x:yj}{op:Operator}{g:φ2}{pos':YZ}(i:Nat)(ho:OpM X (inplaceOp op) g)(he:ME X e G)(hN:X.N.Nodup:=by assumption)(hi:X.N[i]?=some x:=by rfl)(hx:L2.Loc X.env.scope x:=by first|exact Or.inl rfl|exact Or.inr rfl)
 (hf:X.fn x=true\/X.env.scope.names.lookup x=some .local:=by first|exact .inl rfl|exact .inr rfl|assumption):MS X (.AugAssign (.Name x pos') op e pos) (zjA i g G) :=
 zXk (zIA (ti:=rM X.K g) hN hi hx he (λU s Y H x y v u Q I rx ry q=>ho U s Y H x y v u Q I rx ry q) hf) λZ J O Y H o E A e k=>by
  unfold zjA at e
  split at e
  ·rename_i d hd
   obtain⟨v,hv,rv⟩:=A.st i _ hd;obtain⟨⟨y,O1⟩,e1,e⟩:=zh e;obtain⟨⟨z,O2⟩,e2,e⟩:=zh e;cases e;refine⟨v,hv,Z,J,O,y,O1,A,e1,λZ1 H1 w x1 R1 r1=>?_⟩;refine⟨Z1,d,y,O1,z,O2,rv.ext x1,r1,R1,e2,λZ2 H2 w2 x2 R2 r2=>?_⟩;exact k Z2 _ H2 (x1.trans x2) ((A.ext (x1.trans x2) R2).set r2 i)
  ·cases e
def zfc(c:FT)(body:FS):Nat->FS
 |0,_,_=>none
 |n+1,J,O=>(c J O).bind λp=>bif p.1 then(match body J p.2 with
  |some (.next J' O')=>zfc c body n J' O'
  |some (.cont J' O')=>zfc c body n J' O'
  |some (.brk J' O')=>some (.next J' O')
  |some (.ret d O')=>some (.ret d O')
  |some (.exc C fs O')=>some (.exc C fs O')
  |none=>none) else some (.next J p.2)
def zdr(n:Nat)(c:FT)(body:FS):FS:=zfc c body n
def zhr{body:Wc}{t:FT}{p:FS}(n:Nat)(hc:MT X c t)(hb:MSs X body p)(hx:PassesOwn (yx X.prog X.w) X.A X.env X.xe:=by first|exact PassesOwn.never|exact PassesOwn.leaving):MS X (.While c body [] pos) (zdr n t p) :=
 zXk (zhw hx hc hb) λZ J O Y H o E A e k=>by
  refine⟨λm Y' H'=>∃Z' J' O',Ext Z H Z' H'/\At X.K Z' H' Y' J' O'/\zfc t p m J' O'=some o,⟨n,Z,J,O,Ext.refl,A,e⟩,?_⟩;rintro m Y' H' ⟨Z',J',O',x',A',ew⟩
  cases m with
  |zero=>cases ew
  |succ m=>
   unfold zfc at ew;obtain⟨⟨b,O1⟩,e1,ew⟩:=zh ew;refine⟨Z',J',O',b,O1,A',e1,λZ1 H1 x1 R1=>?_⟩;have xx:=x'.trans x1
   cases b with
   |false=>
    cases ew;exact Sf (k Z1 Y' H1 xx (A'.ext x1 R1))
   |true=>
    refine Sg ⟨λY3 H3=>∃Z3 J3 O3,Ext Z H Z3 H3/\At X.K Z3 H3 Y3 J3 O3/\zfc t p m J3 O3=some o,λY3 H3 q=>⟨m,xP _,q⟩,?_⟩;dsimp only[cond_true]at ew
    cases eb:p J' O1 with
    |none=>rw[eb]at ew;cases ew
    |some ob=>
     rw[eb]at ew;refine⟨Z1,J',O1,ob,A'.ext x1 R1,eb,?_⟩
     cases ob with
     |next J6 O6=>exact λZ6 Y6 H6 x6 A6=>⟨Z6,J6,O6,xx.trans x6,A6,ew⟩
     |cont J6 O6=>exact λZ6 Y6 H6 x6 A6=>⟨Z6,J6,O6,xx.trans x6,A6,ew⟩
     |brk J6 O6=>cases ew;exact k.ext xx
     |ret d O6=>cases ew;exact k.ext xx
     |exc C fs O6=>cases ew;exact k.ext xx
end
end M
namespace L2
open PySem PySem.Spec PyProof.Rows
section
variable {κ:Type}[DecidableEq κ]
def znr(hU:List (κ×V))(k:κ):Option V:=(hU.find? λkv=>decide (kv.1=k)).map (·.2)
def zBe(hU:List (κ×V))(k:κ)(v:V):List (κ×V) :=
 if(hU.any λkv=>decide (kv.1=k))=true then hU.map (λkv=>if kv.1=k then(kv.1,v) else kv) else hU++[(k,v)]
def zDq{p:κ×V}{r:List (κ×V)}{k:κ}(e:p.1=k):znr (p::r) k=some p.2:=by simp[znr,xX,e]
def zer{p:κ×V}{r:List (κ×V)}{k:κ}(e:¬p.1=k):znr (p::r) k=znr r k:=by simp[znr,xX,e]
def zgp(hU:List (κ×V))(k:κ)(v:V):(zBe hU k v).length<=hU.length+1:=by
 unfold zBe
 split
 ·rw[Lu];omega
 ·rw[Lq,Lr,List.length_nil];omega
def se.sM{o:Option V}{u:Option yb}(r:se o u):o.isSome=u.isSome:=by
 cases o with
 |none=>cases u with
  |none=>rfl
  |some _=>exact(show False from r).elim
 |some _=>cases u with
  |none=>exact(show False from r).elim
  |some _=>rfl
def KV.val{hU:List (κ×V)}{vs:List (κ×yb)}(r:KV hU vs)(k:κ):se (znr hU k) (valueAt vs k):=by
 unfold KV at r
 induction r with
 |nil=>exact xT
 |@cons p q ps qs h t ih=>
  obtain⟨h1,h2⟩:=h
  by_cases e:p.1=k
  ·have e':q.1=k:=h1.symm.trans e;have b:valueAt (q::qs) k=some q.2:=by simp[valueAt,xX,e']
   rw[zDq e,b];exact h2
  ·have e':¬q.1=k:=λz=>e (h1.trans z);have b:valueAt (q::qs) k=valueAt qs k:=by simp[valueAt,xX,e']
   rw[zer e,b];exact ih
def KV.any{hU:List (κ×V)}{vs:List (κ×yb)}(r:KV hU vs)(k:κ):(hU.any λkv=>decide (kv.1=k))=vs.any λkv=>decide (kv.1=k):=by
 unfold KV at r
 induction r with
 |nil=>rfl
 |cons h t ih=>rw[Lc,Lc,ih,h.1]
def KV.repl{hU:List (κ×V)}{vs:List (κ×yb)}(r:KV hU vs)(k:κ){y:V}{u:yb}(ry:RelV y u) :
 KV (hU.map λkv=>if kv.1=k then(kv.1,y) else kv) (vs.map λkv=>if kv.1=k then(kv.1,u) else kv):=by
 unfold KV at r ⊢
 induction r with
 |nil=>exact .nil
 |@cons p q ps qs h t ih=>
  rw[Nf,Nf];refine .cons ?_ ih;obtain⟨h1,h2⟩:=h
  by_cases e:p.1=k
  ·rw[if_pos e,if_pos (h1.symm.trans e)];exact⟨h1,ry⟩
  ·rw[if_neg e,if_neg (λz=>e (h1.trans z))];exact⟨h1,h2⟩
def KV.put{hU:List (κ×V)}{vs:List (κ×yb)}(r:KV hU vs)(k:κ){y:V}{u:yb}(ry:RelV y u):KV (zBe hU k y) (stored vs k u):=by
 unfold zBe stored;rw[r.any k]
 by_cases e:(vs.any λkv=>decide (kv.1=k))=true
 ·rw[if_pos e,if_pos e];exact r.repl k ry
 ·rw[if_neg e,if_neg e];exact Paired.snoc r ⟨rfl,ry⟩
def KV.keys{hU:List (κ×V)}{vs:List (κ×yb)}(r:KV hU vs):hU.map (·.1)=vs.map (·.1):=by
 unfold KV at r
 induction r with
 |nil=>rfl
 |cons h t ih=>rw[Nf,Nf,ih,h.1]
def KV.length{hU:List (κ×V)}{vs:List (κ×yb)}(r:KV hU vs):hU.length=vs.length:=Paired.length r
end
def zGr{P:yu}{w:yG}{k:Key}{u:yb}(r:RelV (kV k) u):(zCb P w).is k u=true:=by
 cases k with
 |inl i=>obtain⟨t,e⟩:=(show ∃t,u=Value.int i t from r);subst e;exact zvp P w i t
 |inr x=>obtain⟨t,e⟩:=(show ∃t,u=Value.str x t from r);subst e;exact zjp P w x t
def zrx{P:yu}{w:yG}{H:Hp}{h:yU}{a:yg}{hU:Wj}(ok:HOk P w H h)(e:H a=some (.dK hU)):hU.length<=yD/\(a==sysModules)=false/\∃vs,KV hU vs/\h.DictOf (zCb P w) a vs :=
 show tD P w H h a (.dK hU) from ok a _ e
end L2
namespace M
open PySem PySem.Spec PyProof.Rows L2
def zLd(hU:Wp)(i:Int):Wn:=(hU.find? λp=>decide (p.1=i)).map (·.2)
def zhs(hU:Wp)(i:Int)(d:D):Wp:=if(hU.any λp=>decide (p.1=i))=true then hU.map (λp=>if p.1=i then(p.1,d) else p) else hU++[(i,d)]
@[simp] def zWc(O:Mem):D->Option (Wp)
 |.loc n=>match O[n]? with
  |some (.dct hU)=>some hU
  |some (.dcf hU)=>some hU
  |_=>none
 |_=>none
def RdK(H:Hp)(a:yg)(vs:Wj):Prop:=H a=some (.dK vs)\/∃o,H a=some (.frz o (.dK vs))
def zdj{P:yu}{w:yG}{H:Hp}{h:yU}{a:yg}{hU:Wj}(ok:HOk P w H h)(e:RdK H a hU):hU.length<=yD/\(a==sysModules)=false/\∃vs,KV hU vs/\h.DictOf (zCb P w) a vs:=by
 rcases e with e|⟨o,e⟩
 ·exact zrx ok e
 ·exact(show tD P w H h a (.frz o (.dK hU)) from ok a _ e).2
section
variable {K:yt}{Z:Qv}{H:Hp}{O:Mem}
def z0g{d:D}{v:V}{hU:Wp}(R:tF K Z H O)(r:tq K Z H d v)(e:zWc O d=some hU):∃p vs,v=.ref p/\RdK H p vs/\vs.map (·.1)=hU.map (λp=>yL p.1)/\tf K Z H (hU.map (·.2)) (vs.map (·.2)):=by
 unfold zWc at e
 split at e
 ·split at e
  ·rename_i hm
   cases e;obtain⟨a,e1,e2⟩:=r.tx;obtain⟨vs,e3,q1,q2⟩:=R.at_ _ _ _ e2 hm;exact⟨a,vs,e1,.inl e3,q1,q2⟩
  ·rename_i hm
   cases e;obtain⟨a,e1,e2⟩:=r.tx;obtain⟨o,vs,e3,q1,q2⟩:=R.at_ _ _ _ e2 hm;exact⟨a,vs,e1,.inr ⟨o,e3⟩,q1,q2⟩
  ·cases e
 ·cases e
def zLj:∀{hU:Wp} {vs:Wj} (i:Int),vs.map (·.1)=hU.map (λp=>yL p.1)->tf K Z H (hU.map (·.2)) (vs.map (·.2)) ->
 (∀d,zLd hU i=some d->∃v,znr vs (yL i)=some v/\tq K Z H d v)/\(zLd hU i=none->znr vs (yL i)=none)
 |[],vs,i,h1,h2=>by
  have:vs=[]:=by simpa using h1
  subst this;exact⟨λd h=>(by cases h),λ_=>rfl⟩
 |(j,d)::hU,vs,i,h1,h2=>by
  cases vs with
  |nil=>simp at h1
  |cons q vs=>
   obtain⟨k,v⟩:=q;rw[Nf,Nf,YJ]at h1;obtain⟨hk,h1⟩:=h1;have hk:k=yL j:=hk;subst hk;obtain⟨v',r,e,q1,q2⟩:=h2.cons_inv;rw[Nf,YJ]at e;obtain⟨e1,e2⟩:=e;subst e2;have e1:v=v':=e1;subst e1;obtain⟨ih1,ih2⟩:=zLj i h1 q2
   by_cases hj:j=i
   ·subst hj;have a1:zLd ((j,d)::hU) j=some d:=by simp[zLd]
    have a2:znr ((yL j,v)::vs) (yL j)=some v:=zDq rfl;rw[a1,a2];exact⟨λd' h=>(by cases h;exact⟨v,rfl,q1⟩),λh=>(by cases h)⟩
   ·have a1:zLd ((j,d)::hU) i=zLd hU i:=by simp[zLd,hj]
    have a2:znr ((yL j,v)::vs) (yL i)=znr vs (yL i):=zer (λz=>hj (by simpa using z));rw[a1,a2];exact⟨ih1,ih2⟩
def zKj(hU:Wp)(vs:Wj)(i:Int)(d:D)(v:V)(h:vs.map (·.1)=hU.map (λp=>yL p.1)):(zBe vs (yL i) v).map (·.1)=(zhs hU i d).map (λp=>yL p.1):=by
 have hany:(vs.any λkv=>decide (kv.1=yL i))=hU.any λp=>decide (p.1=i):=by
  have e1:(vs.any λkv=>decide (kv.1=yL i))=(vs.map (·.1)).any λk=>decide (k=yL i):=by rw[Le];rfl
  rw[e1,h,Le]
  congr 1
  funext p
  simp
 unfold zBe zhs;rw[hany]
 split
 ·rw[Ng,Ng]
  have e1:(λx:Key×V=>x.1)∘(λkv=>if kv.1=yL i then(kv.1,v) else kv)=λx=>x.1:=by
   funext x;simp only[Function.comp];split<;>rfl
  have e2:(λp:Int×D=>(yL p.1:Key))∘(λp=>if p.1=i then(p.1,d) else p)=λp=>yL p.1:=by
   funext x;simp only[Function.comp];split<;>rfl
  rw[e1,e2];exact h
 ·simp[h]
def zSq:∀(hU:Wp) (vs:Wj) (i:Int) {d:D} {v:V},tq K Z H d v->vs.map (·.1)=hU.map (λp=>yL p.1)->tf K Z H (hU.map (·.2)) (vs.map (·.2)) ->
 tf K Z H ((hU.map λp=>if p.1=i then(p.1,d) else p).map (·.2)) ((vs.map λkv=>if kv.1=yL i then(kv.1,v) else kv).map (·.2))
 |[],vs,i,d,v,r,h1,h2=>by
  have:vs=[]:=by simpa using h1
  subst this;exact .nil
 |(j,e)::hU,vs,i,d,v,r,h1,h2=>by
  cases vs with
  |nil=>simp at h1
  |cons q vs=>
   obtain⟨k,u⟩:=q;rw[Nf,Nf,YJ]at h1;obtain⟨hk,h1⟩:=h1;have hk:k=yL j:=hk;subst hk;obtain⟨v',r',e',q1,q2⟩:=h2.cons_inv;rw[Nf,YJ]at e';obtain⟨e1,e2⟩:=e';subst e2;have e1:u=v':=e1;subst e1;have ih:=zSq hU vs i r h1 q2;simp only[Nf]
   by_cases hj:j=i
   ·subst hj;rw[if_pos rfl,if_pos rfl];exact .cons r ih
   ·rw[if_neg hj,if_neg (λz=>hj (by simpa using z))];exact .cons q1 ih
def zFx{hU:Wp}{vs:Wj}{i:Int}{d:D}{v:V}(r:tq K Z H d v)(h1:vs.map (·.1)=hU.map (λp=>yL p.1))(h2:tf K Z H (hU.map (·.2)) (vs.map (·.2))) :
 tf K Z H ((zhs hU i d).map (·.2)) ((zBe vs (yL i) v).map (·.2)):=by
 have hany:(vs.any λkv=>decide (kv.1=yL i))=hU.any λp=>decide (p.1=i):=by
  have e1:(vs.any λkv=>decide (kv.1=yL i))=(vs.map (·.1)).any λk=>decide (k=yL i):=by rw[Le];rfl
  rw[e1,h1,Le]
  congr 1
  funext p
  simp
 unfold zBe zhs;rw[hany]
 split
 ·exact zSq hU vs i r h1 h2
 ·simp only[Nc,Nf,Nh];exact h2.append (.cons r .nil)
variable {X:Cx}{a b c e:yB}{es:Qz}{G ψ χ:FE}{pos:YZ}
@[simp] def zYw:φ2:=λx y O=>match y with
 |.int i=>(zWc O x).bind λhU=>(zLd hU i).bind λd=>some (d,O)
 |_=>none
def zJx{U:Qb}{s:yd}{Y:L2.St}{H:Hp}{p:yg}{vs:Wj}{k:Key}{v:V}{u:yb}{A:yH}{E:yb->yd->Prop}{Q:yb->yd->Prop}(I:Inv X U Y H s)(e:RdK H p vs)(l:znr vs k=some v)(ry:RelV (kV k) u)
 (h:∀w' s',Inv X U Y H s'->RelV v w'->Q w' s'):yp (yx X.prog X.w) A (getItem (.ref p) u) Q E s:=by
 obtain⟨z,hd,us,rel,dd⟩:=zdj I.hok e;obtain⟨w',hw,rw'⟩:=se.some_of (v:=v) (o:=valueAt us k) (by rw[<-l];exact rel.val k);exact wpAny_getItem_of (zGr ry) dd.mapOf hw (h w' _ (I.tok _) rw')
def ixD:IxR X (rM X.K zYw):=by
 intro value slice U s Y H x y v u Q I rx ry ⟨Z,dx,dy,O,d,O',r1,r2,R,e,k⟩ hs;unfold zYw at e
 split at e
 ·rename_i i
  obtain⟨hU,e1,e⟩:=zh e;obtain⟨d',e2,e⟩:=zh e;cases e;obtain⟨p,vs,rfl,hq,q1,q2⟩:=z0g R r1 e1;obtain⟨w',e3,rw'⟩:=(zLj i q1 q2).1 _ e2;cases rx;rw[r2.int_inv]at ry
  have hT:s.TypeIs (.ref p) "dict":=by
   obtain⟨_,_,us,_,dd⟩:=zdj I.hok hq;exact dd.typeIs
  unfold subscriptTail;refine ya ?_;rw[getitemInPython_of_ne hT.not_modules];refine ya (xn hT PySem.F.slot_dict_getitem.lookup ?_)
  have fin:yp (yx X.prog X.w) X.A (subscripted slice false (.ref p) u) (λr s₃=>yp (yx X.prog X.w) X.A (letTemporaryGo value (.ref p) r >>= λ_=>pure r) (EP X U Y Q) X.xe s₃) X.xe s:=by
   rw[hs];exact wpAny_operating (zJx I hq e3 ry λw2 s2 I2 r2=>ya (wpAny_letTemporaryGo (yi ⟨_,H,I2,r2,k Z H _ Ext.refl R rw'⟩)))
  first
   |exact yi (ya fin)
   |exact ya (yi (ya fin))
   |exact ya fin
 ·cases e
def zvu(ha:ME X a G)(hb:ME X b ψ)(hs:zkk b:=by intro _ _;rfl):ME X (.Subscript a b pos) (zy zYw G ψ) :=
 zdd (zYv ixD ha hb hs) λ_ _ _ _ _ _ _ _ A e k=>znp A e k
@[simp] def zjC:φ2:=λx y O=>match x with
 |.int i=>(zWc O y).bind λhU=>some (.bl (zLd hU i).isSome,O)
 |_=>none
@[simp] def zol:φ2:=λx y O=>match x with
 |.int i=>(zWc O y).bind λhU=>some (.bl (!(zLd hU i).isSome),O)
 |_=>none
def zWA{U:Qb}{s:yd}{Y:L2.St}{H:Hp}{p:yg}{vs:Wj}{k:Key}{u:yb}{A:yH}{E:yb->yd->Prop}{Q:yb->yd->Prop}(I:Inv X U Y H s)(e:RdK H p vs)(ry:RelV (kV k) u)
 (h:∀s',Inv X U Y H s'->Q (.bool (znr vs k).isSome) s'):yp (yx X.prog X.w) A (Yg .In u (.ref p)) Q E s:=by
 obtain⟨z,hd,us,rel,dd⟩:=zdj I.hok e;refine wpAny_in_of (zGr ry) hd dd.mapOf ?_;rw[<-(rel.val k).sM];exact h _ (I.tok _)
def zJq{K:yt}{Z:Qv}{H:Hp}{hU:Wp}{vs:Wj}(i:Int)(q1:vs.map (·.1)=hU.map (λp=>yL p.1))(q2:tf K Z H (hU.map (·.2)) (vs.map (·.2))):(znr vs (yL i)).isSome=(zLd hU i).isSome:=by
 obtain⟨h1,h2⟩:=zLj i q1 q2
 cases e:zLd hU i with
 |none=>rw[h2 e];rfl
 |some d=>
  obtain⟨v,ev,_⟩:=h1 d e;rw[ev];rfl
def z4y:OpM X (Yg .In) zjC:=by
 refine OpM.of λU s Y H x y v u Q I rx ry Z dx dy O d O' r1 r2 R e k=>?_;unfold zjC at e
 split at e
 ·rename_i i
  obtain⟨hU,e1,e⟩:=zh e;cases e;obtain⟨p,vs,rfl,hq,q1,q2⟩:=z0g R r2 e1;cases ry;rw[r1.int_inv]at rx;refine zWA (k:=yL i) I hq rx λs' I'=>⟨.bl _,H,I',rfl,?_⟩
  rw[zJq i q1 q2];exact k Z H _ Ext.refl R .bl
 ·cases e
def z3r:OpM X (Yg .NotIn) zol:=by
 refine OpM.of λU s Y H x y v u Q I rx ry Z dx dy O d O' r1 r2 R e k=>?_;unfold zol at e
 split at e
 ·rename_i i
  obtain⟨hU,e1,e⟩:=zh e;cases e;obtain⟨p,vs,rfl,hq,q1,q2⟩:=z0g R r2 e1;cases ry;rw[r1.int_inv]at rx;obtain⟨z,hd,us,rel,dd⟩:=zdj I.hok hq;refine wpAny_notIn_of (zGr (k:=yL i) rx) hd dd.mapOf ⟨.bl _,H,I.tok _,rfl,?_⟩;rw[<-(rel.val (yL i)).sM,zJq i q1 q2];exact k Z H _ Ext.refl R .bl
 ·cases e
@[simp] def zbz(G ψ:FE):FG:=λd J O=>(G J O).bind λp=>(ψ J p.2).bind λq=>match p.1,q.1 with
 |.loc n,.int i=>match q.2[n]? with
  |some (.dct hU)=>bif decide (hU.length<=1000000) then some (J,q.2.set n (.dct (zhs hU i d))) else none
  |_=>none
 |_,_=>none
def zRv:zTB X (λo i v H Q=>∃p vs k,o=.ref p/\i=kV k/\H p=some (.dK vs)/\vs.length<yD/\Q (upd H p (.dK (zBe vs k v)))):=by
 intro U s Y H o i v ov iv u Q I ro ri rv ⟨p,vs,k,e1,e2,e3,hl,q⟩;subst e1 e2;cases ro;obtain⟨z,hd,us,rel,dd⟩:=zrx I.hok e3;have hz:us.length<=yD:=by rw[<-rel.length];exact z
 have hl':(zBe vs k v).length<=yD:=by have:=zgp vs k v;omega
 refine wpAny_setItem_pairs (hsz:=hz) (zGr ri) dd λh' dd' hs=>⟨_,I.write (x:=p) (e:=p) (by rw[e3];exact xT) (.inl rfl) (λb q hb z=>(hs.2 b hb).trans z) ?_ (show tD X.prog X.w _ h' p (.dK (zBe vs k v)) from⟨hl',hd,_,rel.put k rv,dd'⟩),q⟩
 obtain⟨q,_,_,hq,_⟩:=dd';exact⟨q,hq⟩
def zCq{o i:yB}(ho:ME X o G)(hi:ME X i ψ)(ha:∀v,assign (.Subscript o i pos) X.env v=(do
 let ov <-xO [v] (yV o X.env)
 let iv <-xO [v,ov] (yV i X.env)
 standAt pos
 xO [v,ov,iv] (setItem ov iv v)
 release [v,ov,iv] []):=by intro _;rfl):MG X (.Subscript o i pos) (zbz G ψ) :=
 mg_of (z3w ho hi zRv ha) λZ J O d J' O' v Y H Q A q e k=>by
  obtain⟨⟨x,O1⟩,e1,e⟩:=zh e;obtain⟨⟨y,O2⟩,e2,e⟩:=zh e;refine⟨Z,J,O,x,O1,A,e1,λZ1 H1 v1 x1 R1 r1=>?_⟩;refine⟨Z1,J,O1,y,O2,A.ext x1 R1,e2,λZ2 H2 v2 x2 R2 r2=>?_⟩;dsimp only at e
  split at e
  ·rename_i n j _
   split at e
   ·rename_i hU hm
    obtain⟨h1,e⟩:=zJ e;have h1:=of_decide_eq_true h1;cases e;obtain⟨ad,rfl,hr⟩:=(r1.ext x2).tx;obtain⟨vs,hv,q1,q2⟩:=R2.at_ _ _ _ hr hm;have kP:Mut (H2 ad):=by rw[hv];trivial
    have kA:vs.length=hU.length:=by
     have:=congrArg xS q1;simpa using this
    have hmi:=Ts;refine⟨ad,vs,yL j,rfl,r2.int_inv,hv,by omega,?_⟩;have xx:=x1.trans x2;have R3:=R2.wr (o:=.dK (zBe vs (yL j) v)) (lo:=.dct (zhs hU j d)) kP hr ⟨_,zx,zKj hU vs j d v q1,tf.ext (Ext.wr kP) (zFx (q.ext xx) q1 q2)⟩;exact k Z2 Y _ (xx.trans (Ext.wr kP)) (A.ext (xx.trans (Ext.wr kP)) R3)
   ·cases e
  ·cases e
def znl(hU:Wp):Wm:=hU.map λp =>.int p.1
@[simp] def z4n:GL:=λds O=>match ds with
 |[x]=>(zWc O x).bind λhU=>some (.loc O.length,O++[.lst (znl hU)])
 |_=>none
def zcu{P:yu}{w:yG}{H:Hp}{h:yU}{p:yg}{vs:Wj}(ok:HOk P w H h)(e:RdK H p vs):∃us ep,KV vs us/\h.DictAt (zCb P w) p us ep:=by
 obtain⟨_,_,us,rel,o,es,ep,h1,h2,h3,h4⟩:=zdj ok e;exact⟨us,ep,rel,o,es,h1,h2,h3,h4⟩
def zwk{P:yu}{w:yG}:∀{vs:Wj} {us:List (Key×yb)} {hW:List yb},KV vs us->hW.length=us.length->(∀(j:Nat)(v:yb),hW[j]?=some v->∃(k:Key)(x:yb),us[j]?=some (k,x)/\(zCb P w).is k v=true)->Vals (vs.map λp=>kV p.1) hW
 |[],us,hW,r,hl,h=>by
  cases r;have:hW=[]:=List.length_eq_zero_iff.mp (by simpa using hl);subst this;exact .nil
 |p::vs,us,hW,r,hl,h=>by
  cases r with
  |@cons _ q _ qs hq t=>
   cases hW with
   |nil=>simp at hl
   |cons i hW=>
    refine .cons ?_ (zwk t (by simpa using hl) λj v e=>by
     obtain⟨k,x,h1,h2⟩:=h (j+1) v (by simpa using e);exact⟨k,x,by simpa using h1,h2⟩)
    obtain⟨k,x,h1,h2⟩:=h 0 i rfl;have e:q=(k,x):=by simpa using h1
    have ek:p.1=k:=by rw[hq.1,e]
    show RelV (kV p.1) i;rw[ek]
    cases k with
    |inl n=>
     rcases zsb ((zLi P w _ _).symm.trans h2) with ⟨j,t,e1,e2⟩|⟨j,t,e1,e2⟩
     ·cases e1;exact⟨t,e2⟩
     ·cases e1
    |inr n=>
     rcases zsb ((zLi P w _ _).symm.trans h2) with ⟨j,t,e1,e2⟩|⟨j,t,e1,e2⟩
     ·cases e1
     ·cases e1;exact⟨t,e2⟩
def zMp(hc:X.calm=true):tJ X (.type "list") z4n:=by
 refine tJ.of λU s Y H xs us Q I r Z ds O d O' r1 R e k=>?_;unfold z4n at e
 split at e
 ·obtain⟨hU,e1,e⟩:=zh e;cases e;obtain⟨v,rr,rfl,q1,q2⟩:=r1.cons_inv;rw[q2.nil_inv]at r;obtain⟨p,vs,rfl,hq,w1,w2⟩:=z0g R q1 e1;obtain⟨u,rfl,ru⟩:=vals1 r;cases ru;obtain⟨hz,hd,_⟩:=zdj I.hok hq;obtain⟨us',ep,rel,da⟩:=zcu I.hok hq;have hl:=rel.length;refine W.kdl_call (W.kdl_dict hd) (I.ok.hd hc) da (by omega) λh' tk kB' c' kp e2 hi=>?_;obtain⟨hi1,hi2⟩:=hi;have hv:=zwk (P:=X.prog) (w:=X.w) (hW:=kB'.toList) rel (by simpa using hi1) λj v e=>hi2 j v (by simpa using e)
  have hkv:(vs.map λp=>kV p.1)=(hU.map λp=>V.int p.1):=by
   have:(vs.map (·.1)).map kV=(hU.map λp=>(yL p.1:Key)).map kV:=by rw[w1]
   rw[Ng,Ng]at this;exact this
  rw[hkv]at hv
  have gD:hU.length=vs.length:=by
   have:=congrArg xS w1;simpa using this.symm
  have hf:=I.fresh;refine⟨.ref s.heap.objs.size,_,I.laid (t':=tk) kp (yo _) (show tD X.prog X.w _ h' _ (.lst _) from⟨by simp;omega,kB'.toList,c',hv,by simpa using e2⟩),rfl,k _ _ _ (Ext.push hf) (R.push hf ⟨_,zx,?_⟩) (.loc (zwb R))⟩;have hr:=λZ H=>@zwi X.K Z H (hU.map (·.1));simp only[Ng]at hr;exact hr _ _
 ·cases e
end
def Itd(a:yg)(o:YH)(vs:Wj):It:=⟨λi H=>H a=some (.frz o (.dK vs))/\i<vs.length,λi H x H'=>H'=H/\∃p,vs[i]?=some p/\x=kV p.1,λi H=>H a=some (.frz o (.dK vs))/\vs.length<=i,λ_ _=>False⟩
def zkr{P:yu}{w:yG}{H:Hp}{h:yU}{a:yg}{o:YH}{vs:Wj}{es:Array xt}{ep:Nat}(ok:HOk P w H h)(e:H a=some (.frz o (.dK vs)))(hd:o.data=.dict es ep):∃us,KV vs us/\h.DictAt (zCb P w) a us ep:=by
 obtain⟨h0,_,_,us,rel,o',es',ep',h1,h2,h3,h4⟩:=(show tD P w H h a (.frz o (.dK vs)) from ok a _ e)
 rw[h0]at h1;cases h1;rw[hd]at h3;cases h3;exact⟨us,rel,o,es,h0,h2,hd,h4⟩
def zxu{P:yu}{w:yG}{K:yt}{tg:yB}(a it:yg)(o:YH)(vs:Wj)(es:Array xt)(ep:Nat)(hd:o.data=.dict es ep):Turn P w K tg (Itd a o vs) [it] it (λi h=>h.IsKeyIter it a i vs.length ep) where
 mem:=by simp
 obj:=λi h st b hb=>by
  have e:b=it:=by simpa using hb
  subst e;obtain⟨o,e,c,d⟩:=st;exact⟨o,e,λv z=>by rw[d]at z;cases z⟩
 keep:=λi h h' st k=>st.at λo e=>k it (by simp) o e
 item:=by
  intro X hP hw hK i U s Y H E hc I hf st hg;replace hc:=hc.elim id yN;subst hP hw hK;obtain⟨hq,hi⟩:=hg;obtain⟨us,rel,da⟩:=zkr I.hok hq hd;have hl:=rel.length;obtain⟨f0,f1,f2,f3,f4,f5⟩:=hf it (by simp);have hx:us[i]?=some ((us[i]'(by omega)).1,(us[i]'(by omega)).2):=by simp[show i<us.length by omega]
  rw[hl]at st ⊢;refine wpAny_pyNext_dict_item st da hx λkey h' kI st' sb=>?_;have I1:Inv X U Y H {s with heap:=h' }:=I.turned (t':=s.toks) (λb o hb e=>(sb.2 b hb).trans e) f0 f1 f3 f4 f5;obtain⟨o',e',c',d'⟩:=id st';have hk:vs[i]?=some vs[i]:=by simp[hi]
  have hkk:(vs[i]).1=(us[i]'(by omega)).1:=by
   have h1:(vs.map (·.1))[i]?=(us.map (·.1))[i]?:=by rw[rel.keys]
   simp only[yk,hk,yE (show i<us.length by omega),xF,Xi]at h1;exact h1
  have rk:RelV (kV (vs[i]).1) key:=by
   rw[hkk];rcases zsb ((zLi X.prog X.w _ _).symm.trans kI) with ⟨j,t,e1,e2⟩|⟨j,t,e1,e2⟩
   ·rw[e1];exact⟨t,e2⟩
   ·rw[e1];exact⟨t,e2⟩
  exact⟨key,rfl,zys (s:={s with heap:=h' }) e' c' d' (by decide) ⟨kV (vs[i]).1,H,I1,rk,⟨rfl,_,hk,rfl⟩,st',λb hb=>(hf b hb).1⟩⟩
 done:=by
  intro X hP hw hK i U s Y H E hc I hf st hg;replace hc:=hc.elim id yN;subst hP hw hK;obtain⟨hq,hi⟩:=hg;obtain⟨us,rel,da⟩:=zkr I.hok hq hd;have hl:=rel.length;obtain⟨f0,f1,f2,f3,f4,f5⟩:=hf it (by simp);rw[hl]at st;exact wpAny_pyNext_dict_end (I.ok.hd hc) st da (by simp;omega) λh' eb=>⟨rfl,I.turned (t':=s.toks) (λb o hb e=>eb b o hb e) f0 f1 f3 f4 f5⟩
 self:=λ_ _ _ _ _ st h=>wpAny_pyIter_keyiter st h
section
variable {X:Cx}{a b c e:yB}{es:Qz}{G ψ χ:FE}{pos:YZ}{tg:yB}
def zXC(tl:TE):TI:=λY H R=>tl Y H λx H1=>∃p vs,x=.ref p/\((H1 p=some (.dK vs)/\∀o,R (Itd p o vs) (upd H1 p (.frz o (.dK vs))))\/∃o,H1 p=some (.frz o (.dK vs))/\R (Itd p o vs) H1)
def zMx{l:yB}{tl:TE}(hl:PE X l tl):PI X tg l (zXC tl):=by
 intro U s Y H R I h;refine thn (hl U s Y H _ I h) λv s1 ⟨x,H1,I1,r1,q1⟩=>?_;obtain⟨p,vs,e,q⟩:=q1;subst e;cases r1
 have fin:∀(H2:Hp)(o:YH),Inv X U Y H2 s1->H2 p=some (.frz o (.dK vs))->R (Itd p o vs) H2->yp (yx X.prog X.w) X.A (pyIter (.ref p)) (PIE X U Y tg R) X.xe s1:=λH2 o I2 e2 q2=>by
  obtain⟨h0,hz,hd,us,rel,o',es,ep,h1,h2,h3,h4⟩:=(show tD X.prog X.w H2 s1.heap p (.frz o (.dK vs)) from I2.hok p _ e2)
  rw[h0]at h1;cases h1;have da:s1.heap.DictAt (zCb X.prog X.w) p us ep:=⟨o,es,h0,h2,h3,h4⟩
  refine wpAny_pyIter_dict hd da ?_;refine⟨s1.heap.objs.size,[s1.heap.objs.size],_,_,H2,rfl,I2.kept (t':=s1.toks) λb o e=>ye _ e,zxu p _ o vs es ep h3,⟨_,yr _ rfl,rfl,by rw[rel.length];rfl⟩,λb hb=>?_,q2⟩;have e:b=s1.heap.objs.size:=by simpa using hb
  subst e;exact I2.Sb (yo _) (I2.hok.fresh (yo _))
 rcases q with ⟨e1,q⟩|⟨o,e1,q⟩
 ·have hok:=I1.hok p _ e1;obtain⟨hz,hd,us,rel,o,es,ep,h1,h2⟩:=(show tD X.prog X.w H1 s1.heap p (.dK vs) from hok)
  have I2:Inv X U Y (upd H1 p (.frz o (.dK vs))) {s1 with heap:=s1.heap,toks:=s1.toks }:=by
   refine I1.write (x:=p) (e:=p) (by rw[e1];exact xT) (.inl rfl) (λb u _ e=>e) ⟨o,h1⟩ ?_;exact⟨h1,hz,hd,us,rel,o,es,ep,h1,h2⟩
  exact fin _ o I2 zx (q o)
 ·exact fin H1 o I1 e1 q
@[simp] def zay(G:FE):FI:=λJ O=>(G J O).bind λp=>match p.1 with
 |.loc n=>match p.2[n]? with
  |some (.dct hU)=>some (znl hU,yes,p.2.set n (.dcf hU))
  |some (.dcf hU)=>some (znl hU,yes,p.2)
  |_=>none
 |_=>none
def zIw{K:yt}{Z:Qv}{H:Hp}{p:yg}{o:YH}{vs:Wj}{hU:Wp}(h:H p=some (.frz o (.dK vs)))(q1:vs.map (·.1)=hU.map (λp=>yL p.1)):Sq K (Itd p o vs) Z H (znl hU) yes:=by
 have kA:vs.length=hU.length:=by
  have:=congrArg xS q1;simpa using this
 have gA:(znl hU).length=hU.length:=by simp[znl]
 refine⟨λZ' H' O' i x R _ hi=>⟨x.frz _ _ _ h,by rw[gA]at hi;omega⟩,λZ' H' O' i x H'' d x' R _ e ⟨y1,q,y2,y3⟩=>⟨y1▸Ext.refl,y1▸R,y1▸?_⟩,λZ' H' O' x R _=>⟨x.frz _ _ _ h,by rw[gA];omega⟩⟩;have h1:(vs.map (·.1))[i]?=(hU.map (λp=>(yL p.1:Key)))[i]?:=by rw[q1]
 rw[yk,yk,y2]at h1;unfold znl at e;rw[yk]at e
 cases hk:hU[i]? with
 |none=>rw[hk]at e;cases e
 |some z=>
  rw[hk]at e h1;cases e;have h1:q.1=yL z.1:=by simpa using h1
  rw[y3,h1];exact .int
def zZx(h:ME X a G):MI X tg a (zay G) :=
 zns (zMx h) λZ J O Y H ds ok O' R A e k=>by
  obtain⟨⟨x,O1⟩,e1,e⟩:=zh e;refine⟨Z,J,O,x,O1,A,e1,λZ1 H1 v1 x1 R1 r1=>?_⟩;dsimp only at e
  split at e
  ·split at e
   ·rename_i hm
    cases e;obtain⟨p,rfl,ep⟩:=r1.tx;obtain⟨vs,e3,q1,q2⟩:=R1.at_ _ _ _ ep hm;have kP:Mut (H1 p):=by rw[e3];trivial
    refine⟨p,vs,rfl,.inl ⟨e3,λo=>?_⟩⟩;exact k Z1 _ _ (x1.trans (Ext.wr kP)) (R1.wr kP ep ⟨o,vs,zx,q1,tf.ext (Ext.wr kP) q2⟩) (zIw zx q1)
   ·rename_i hm
    cases e;obtain⟨p,rfl,ep⟩:=r1.tx;obtain⟨o,vs,e3,q1,q2⟩:=R1.at_ _ _ _ ep hm;exact⟨p,vs,rfl,.inr ⟨o,e3,k Z1 _ _ x1 R1 (zIw e3 q1)⟩⟩
   ·cases e
  ·cases e
def zdt{prog:yu}{w:yG}{A:yH}{E:yb->yd->Prop}{s:yd}{Q:Int->yd->Prop}(h:Q 0xFCA86420 {s with toks:=s.toks+1 }):yp (yx prog w) A (pyHash .none) Q E s:=by
 unfold pyHash;have hv:[Ym].any Value.onHeap=false:=rfl;refine ya ?_;rw[cRoomFor,if_neg (by rw[hv];exact yF)];refine yi ?_;refine ya (xn (typeIs_none s) PySem.F.slot_NoneType_hash.lookup ?_);show yp _ _ (if(some (xZ "NoneType.__hash__")==some Ym)=true then _ else _) Q E s;rw[if_neg (by rw[beq_builtin_none];exact yF)];refine ya (xn (typeIs_none s) PySem.F.slot_NoneType_hash.lookup ?_);show yp _ _ (callSpecialIfBoundUnlessNone? .none "__hash__" _ >>= _) Q E s;refine ya (wpAny_callSpecialIfBoundUnlessNone?_slot (typeIs_none s) PySem.F.slot_NoneType_hash (Yj PySem.F.slot_NoneType_hash (typeIs_none s) PySem.F.entry_NoneType_hash ?_ (PySem.F.args_NoneType_hash_1 _)));show yp _ _ (do ret (<-mkInt 0xFCA86420)) _ _ s;refine wpAny_ret_mkInt ?_;show yp _ _ (if(decide (-(2:Int)^63<=0xFCA86420)&&decide ((0xFCA86420:Int)<2^63))=true then _ else _) Q E _;rw[if_pos (by decide)];exact yi h
def zcs{i:Int}(h0:0<=i)(h1:i<1000):hashInt i=i:=by
 have e:(i.natAbs%(2^61-1):Nat)=i.natAbs:=Nat.mod_eq_of_lt (by omega)
 have hr:rawHash i=i:=by
  unfold rawHash;dsimp only;rw[if_neg (by omega:¬i<0)];have:((i.natAbs%(2^61-1:Nat):Nat):Int)=i:=by rw[e];omega
  rw[show((i.natAbs:Int)%((2^61-1:Nat):Int))=i by rw[<-Int.natCast_emod];exact this];rw[if_neg (by simp;omega)]
 unfold hashInt;rw[hr,if_neg (by simp;omega)]
def zMn:Key->Bool
 |.inl i=>decide (0<=i/\i<1000)
 |.inr _=>false
def zIk{P:yu}{w:yG}:∀{es:List xt} {us:List (Key×yb)},Pairs (zCb P w) es us->(∀e∈es,∃k,(zCb P w).is k e.key=true/\e.hash=(zCb P w).hash k)->(us.all λq=>zMn q.1)=true->∀e∈es,(e.hash==0xFCA86420)=false
 |_,_,.nil,_,_=>λe he=>by cases he
 |_,_,.cons (kv:=kv) hk hv t,hh,hs=>λe he=>by
  rw[La,yM]at hs;rcases List.mem_cons.mp he with rfl|he
  ·obtain⟨k',h1,h2⟩:=hh e Nn;have ek:=(zCb P w).inj _ _ _ hk h1;rw[h2,<-ek];have hsm:zMn kv.1=true:=hs.1
   cases hkv:kv.1 with
   |inl i=>
    rw[hkv]at hsm;have hi:=of_decide_eq_true (show decide (0<=i/\i<1000)=true from hsm);show(hashInt i==0xFCA86420)=false;rw[zcs hi.1 hi.2];simp;omega
   |inr x=>rw[hkv]at hsm;cases hsm
  ·exact zIk t (λe he=>hh e (Nm _ he)) hs.2 e he
def zXy{prog:yu}{w:yG}{A:yH}{E:yb->yd->Prop}{s:yd}{p:yg}{us:List (Key×yb)}{Q:yb->yd->Prop}(hd:(p==sysModules)=false)(dd:s.heap.DictOf (zCb prog w) p us)(hs:(us.all λq=>zMn q.1)=true)
 (h:Q (.bool false) {s with toks:=s.toks+1 }):yp (yx prog w) A (Yg .In .none (.ref p)) Q E s:=by
 obtain⟨o,es,ep,ho,hx,hdat,hk,hp,hn⟩:=id dd;have hno:=zIk hp (λe he=>hk e (by simpa using he)) hs
 have kM:placesWithHash es.size (λi=>es[i]?.map (·.hash)) 0xFCA86420=[]:=by
  unfold placesWithHash;rw[List.filter_eq_nil_iff];intro i hi;have hi:i<es.size:=by simpa using hi
  dsimp only;rw[Array.getElem?_eq_getElem hi];have:=hno es[i] (by simp);simpa using this
 show yp _ _ (do return .bool (<-contains (.ref p) .none)) Q E s;refine ya ?_;unfold contains
 try with_reducible refine Yl ?_
 refine ya (xn dd.typeIs slot_dict_contains.lookup ?_);show yp _ _ (if(some (xZ "dict.__contains__")==some Ym)=true then _ else _) _ E s;rw[if_neg (by rw[beq_builtin_none];exact yF)];refine ya (wpAny_callSpecialUnlessNone?_slot (name:=YV "__contains__") dd.typeIs slot_dict_contains (Yj slot_dict_contains dd.typeIs entry_dict_contains ?_ (args_dict_contains _ _)));show yp _ _ (dictGet p .none >>= _) _ _ s;refine ya ?_;unfold dictGet
 try with_reducible refine Yl ?_
 refine ya (zdt (ya ?_));unfold dictFind
 try with_reducible refine Yl ?_
 refine ya (wpAny_dictEntries (s:={s with toks:=s.toks+1 }) ho hdat ?_);dsimp only;rw[kM];rw[if_pos (by rfl)];unfold dictWalkPlain;refine ya ?_;rw[List.forIn_nil];refine yi ?_;refine yi (yi ?_);show yp _ _ (Builtin.Dict.pendingKey? p .none >>= _) _ _ _;exact ya (wpAny_pendingKey_other hd (yi ⟨_,rfl,YS (yi h)⟩))
@[simp] def zgo:φ2:=λx y O=>match x with
 |.int i=>(zWc O y).bind λhU=>some (.bl (zLd hU i).isSome,O)
 |.non=>(zWc O y).bind λhU=>bif hU.all (λp=>decide (0<=p.1/\p.1<1000)) then some (.bl false,O) else none
 |_=>none
def zKq:OpM X (Yg .In) zgo:=by
 refine OpM.of λU s Y H x y v u Q I rx ry Z dx dy O d O' r1 r2 R e k=>?_;unfold zgo at e
 split at e
 ·rename_i i
  exact z4y U s Y H x y v u Q I rx ry ⟨Z,.int i,dy,O,d,O',r1,r2,R,e,k⟩
 ·obtain⟨hU,e1,e⟩:=zh e;obtain⟨hsm,e⟩:=zJ e;cases e;obtain⟨p,vs,rfl,hq,q1,q2⟩:=z0g R r2 e1;cases ry;rw[r1.tG]at rx;cases rx;obtain⟨z,hd,us,rel,dd⟩:=zdj I.hok hq;refine zXy hd dd ?_ ⟨.bl false,H,I.tok _,rfl,k Z H _ Ext.refl R .bl⟩;have e1:(us.all λq=>zMn q.1)=(us.map (·.1)).all zMn:=by rw[List.all_map];rfl
  rw[e1,<-rel.keys,q1,List.all_map];exact hsm
 ·cases e
variable {prog:yu}{w:yG}{A:yH}{E:yb->yd->Prop}{s:yd}
def zds:typeLookup (.type "list_reverseiterator") "__len__"=pure none:=by rw[typeLookup_type,Xc];kernel_rfl
def zCw:typeLookup (.type "list_reverseiterator") "__length_hint__"=pure (some (.builtin "list_reverseiterator.__length_hint__")):=by rw[typeLookup_type,Xc];kernel_rfl
def zwv{r:yg}{Q:Bool->yd->Prop}(hT:s.TypeIs (.ref r) "list_reverseiterator")(h:Q false s):yp (yx prog w) A (xr (.ref r)) Q E s:=by
 unfold xr;refine ya (xn hT zds ?_);show yp _ _ (specialOf (yI r) (YV "__length_hint__") >>= _) _ _ _;refine ya (xn hT zCw ?_);generalize hid:("list_reverseiterator.__length_hint__":String)=id0
 wp_delta
 rw[show splitId id0=some ("list_reverseiterator","__length_hint__") from by subst hid;decide +kernel];subst hid;refine ya (Xq (T:="list_reverseiterator") (b:=true) hT (by rw[isSubtype_type];kernel_rfl) ?_);refine xb (λhab=>absurd hab (by decide)) (λ_=>?_);refine xb (λ_=>?_) (λhab=>absurd (by decide +kernel) hab);refine xb (λhab=>absurd hab (by decide +kernel)) (λ_=>?_);exact yi h
def zFv{I l:yg}{items:Array yb}{Q:yb->yd->Prop}(hh:A.handled=none)(kN:l≠I)(hI:s.heap.IsRevIter I l ((items.size:Int)-1))(hl:s.heap.IsList l items)(hn:items.size<=yD)
 (hQ:∀h' tk kB' c',(∀b o,b≠I->s.heap.get? b=some o->h'.get? b=some o)->h'.get? s.heap.objs.size=some {cls:=.type "list",dict:=none,data:=.seq kB' c',slots:=#[]}->ItemsOf (λi v=>items[items.size-1-i]?=some v) kB' items.size->Q (.ref s.heap.objs.size) {s with heap:=h',toks:=tk }) :
 yp (yx prog w) A (call (.type "list") [.ref I]) Q E s:=by
 have hIlt:I<s.heap.objs.size:=by obtain⟨o,ho,_⟩:=hI;exact yn ho
 have hllt:l<s.heap.objs.size:=by obtain⟨o,ho,_⟩:=hl;exact yn ho
 refine callType_codes (Q₁:=λobj s₁=>obj=.ref s.heap.objs.size/\s₁ = {s with heap:=s.heap.push {cls:=.type "list",data:=.seq #[]}}) PySem.F.called_list (PySem.F.typeCall_list_1 _) PySem.F.entry_list_init (code_list_new _ ⟨rfl,rfl⟩) λobj s₁ h₁=>?_;obtain⟨rfl,rfl⟩:=h₁;generalize hS0:s.heap.objs.size=S;have hSI:S≠I:=by rw[<-hS0];exact Yo hIlt
 have hSl:S≠l:=by rw[<-hS0];exact Yo hllt
 have hS:(s.heap.push {cls:=.type "list",data:=.seq #[]}).get? S=some {cls:=.type "list",data:=.seq #[]}:=by rw[<-hS0];exact yr _ rfl
 refine⟨⟨_,hS,rfl⟩,PySem.F.args_list_init_2 _ _,?_⟩;have oldS:∀b o,s.heap.get? b=some o->b≠S:=λb o e=>by rw[<-hS0];exact yC (yn e)
 have W:=(Walks.listRev (prog:=prog) (w:=w) (A:=A.in1.in1) hh I l kN items).toS;show yp _ _ (do let old <-Builtin.List.listItems (.ref S);Builtin.List.listUpdate (.ref S) (λ_=>#[]);letGo old.toList.reverse;YA (.ref S) (.ref I) .none) _ _ _;refine ya ?_;unfold Builtin.List.listItems;refine ya (wpAny_seqItems hS rfl (yi ?_));show yp _ _ (updateSeq S (λ_=>#[]) >>= λ_=>letGo (#[]:Array yb).toList.reverse >>= λ_=>YA (.ref S) (.ref I) .none) _ _ _;refine ya (wpAny_updateSeq hS rfl ?_);have hS2:=Yb (Xm (λ_=>(#[]:Array yb))) hS rfl;generalize hh2:(s.heap.push {cls:=.type "list",data:=.seq #[]}).update S (Xm (λ_=>(#[]:Array yb)))=h2 at hS2 ⊢
 have k2:∀b o,s.heap.get? b=some o->h2.get? b=some o:=λb o e=>by
  rw[<-hh2];exact(yY _ _ (Yi (oldS b o e))).trans (ye _ e)
 refine ya (wpAny_letGo ?_);have hI2:h2.IsRevIter I l ((items.size:Int)-1):=hI.at λo e=>k2 _ _ e;have hl2:h2.IsList l items:=hl.at λo e=>k2 _ _ e;unfold YA;refine ya (wpAny_typeOf (T:="list_reverseiterator") (Heap.IsRevIter.typeIs (s:={s with heap:=h2 }) hI2) ?_);have h1:xN (.ref S) (.ref I)=false:=by simp[xN,hSI]
 have h2':(YR "list_reverseiterator" == YR "list")=false:=by decide
 have h3':(YR "list_reverseiterator" == YR "tuple")=false:=by decide
 simp only[h1,h2',h3',Bool.or_false,Bool.false_eq_true,if_false];refine ya (wpAny_pyIter_revIter (s:={s with heap:=h2 }) hI2 ?_);refine ya (Yl (zwv (Heap.IsRevIter.typeIs (s:={s with heap:=h2 }) hI2) ?_));refine xb (λhab=>absurd hab (by decide)) (λ_=>?_)
 have hSf:S∉[I,l]:=by
  simp only[Nk,Nu,or_false,not_or];exact⟨hSI,hSl⟩
 refine yi ⟨plainId_quiet PySem.F.plain_extend_loop _,codeAny_extend_loopS W hn S hSf _ items.size 0 _ #[] _ rfl (Ys _) ⟨Ys _,by simpa using hI2,hl2⟩ hS2 (ItemsOf.nil _) λs' kB' c' hm hS' hacc=>?_⟩;rw[Moved.eq_with hm];refine⟨rfl,?_⟩;rw[<-hS0]at hS' ⊢;refine hQ s'.heap s'.toks kB' c' (λb o hb e=>hm.heap b o (λkL=>?_) (k2 b o e)) hS' hacc;rcases List.mem_cons.mp kL with e'|kL
 ·exact oldS b o e e'
 ·exact hb (List.mem_singleton.mp kL)
variable {pos2 p1 p2:YZ}
def zav(G:FE):FE:=λJ O=>(G J O).bind λp=>match p.1 with
 |.loc n=>match p.2[n]? with
  |some (.lst ds)=>some (.loc p.2.length,p.2++[.lst ds.reverse])
  |_=>none
 |_=>none
def zEw{items:List yb}{vs:Wi}{hW:List yb}(rv:Vals vs items)(hl:hW.length=items.length)(h:∀(j:Nat)(v:yb),hW[j]?=some v->items[items.length-1-j]?=some v):Vals vs.reverse hW:=by
 have e:hW=items.reverse:=by
  refine Li λj=>?_
  by_cases hj:j<hW.length
  ·have h1:hW[j]?=some hW[j]:=by simp[hj]
   rw[List.getElem?_reverse (by omega),h j _ h1,h1]
  ·rw[Yy (by omega),Yy (by simp;omega)]
 rw[e];exact rv.reverse
def zws{K:yt}{Z:Qv}{H:Hp}:∀{ds:Wm} {vs:Wi},tf K Z H ds vs->tf K Z H ds.reverse vs.reverse
 |[],vs,r=>by rw[r.nil_inv];exact .nil
 |d::ds,vs,r=>by
  obtain⟨v,q,rfl,h1,h2⟩:=r.cons_inv;rw[List.reverse_cons,List.reverse_cons];exact(zws h2).append (.cons h1 .nil)
def zmB(X:Cx)(tl:TE):TE:=λY H Q=>tl Y H λx H1=>∃a ys,x=.ref a/\SqL X.K H1 a ys/\∀q,H1 q=none->Q (.ref q) (upd H1 q (.lst ys.reverse))
def zMy{l:yB}{tl:TE}(hm1:X.mg "list"=none)(hv1:yK "list"=some (.type "list"))(hm2:X.mg "reversed"=none)(hv2:yK "reversed"=some (.type "reversed"))(hl:PE X l tl)(hc:X.calm=true)(hg1:Gl X "list")(hg2:Gl X "reversed")
 (he:yh [l] X.env=(false,yV l X.env)::yh [] X.env) (he2:yh [.Call (.Name "reversed" p2) [l] [] pos2] X.env=(false,yV (.Call (.Name "reversed" p2) [l] [] pos2) X.env)::yh [] X.env) :
 PE X (.Call (.Name "list" p1) [.Call (.Name "reversed" p2) [l] [] pos2] [] pos) (zmB X tl):=by
 intro U s Y H Q I h;refine YL (zmk I hg1 hm1 hv1 ?_ (by decide) (by decide));refine YO ?_ he2 rfl;rw[he2];show yp _ _ (spliced ((false,yV (.Call (.Name "reversed" p2) [l] [] pos2) X.env)::yW pos (yh [] X.env))) _ _ s;refine Calls.spliced_cons ?_;refine YL (zmk I hg2 hm2 hv2 ?_ (by decide) (by decide))
 refine YO (thn (zQd hl zPg he pos2 U s Y H (λvs H1=>match vs with
  |[x]=>∃a ys,x=.ref a/\SqL X.K H1 a ys/\∀q,H1 q=none->Q (.ref q) (upd H1 q (.lst ys.reverse))
  |_=>False) I h) λus s1 ⟨vs,H1,I1,r1,q1⟩=>?_) he rfl
 dsimp only at q1
 split at q1
 case h_2=>exact q1.elim
 obtain⟨a,ys,e,hq,q⟩:=q1;subst e
 cases r1 with
 |cons r rr=>
  cases rr;cases r;obtain⟨hW,rv,pl,hz⟩:=I1.list hq;have kA:=rv.length;refine call_reversed_list pl.isList ?_;refine Calls.spliced_nil ?_;have I2:Inv X U Y H1 {s1 with heap:=s1.heap.push (revObj a ((hW.toArray.size:Int)-1))}:=I1.kept (t':=s1.toks) λb o e=>ye _ e;have halt:a<s1.heap.objs.size:=by obtain⟨_,_,e,_⟩:=pl;exact yn e
  have hf:∀b∈[s1.heap.objs.size],z0q X U H1 b:=λb hb=>by
   have e:b=s1.heap.objs.size:=by simpa using hb
   subst e;exact I1.Sb (yo _) (I1.hok.fresh (yo _))
  refine zFv (s:={s1 with heap:=s1.heap.push (revObj a ((hW.toArray.size:Int)-1))}) (I.ok.hd hc) (yC halt) ⟨_,yr _ rfl,rfl,rfl⟩ (pl.isList.push _) (by simp;omega) λh' tk kB' c' kp e hi=>?_;obtain⟨hi1,hi2⟩:=hi;have hv:=zEw (hW:=kB'.toList) rv (by simpa using hi1) λj v e=>by simpa using hi2 j v (by simpa using e)
  refine⟨.ref _,_,z2e (t':=tk) I2 hf (λb o hb e=>kp b o (by simpa using hb) e) (yo _) (show tD X.prog X.w _ h' _ (.lst ys.reverse) from⟨by simp;omega,kB'.toList,c',hv,by simpa using e⟩),rfl,q _ (I2.hok.fresh (yo _))⟩
def zpx(hm1:X.mg "list"=none)(hv1:yK "list"=some (.type "list"))(hm2:X.mg "reversed"=none)(hv2:yK "reversed"=some (.type "reversed"))(h:ME X e G)(hc:X.calm=true:=by rfl)(hg1:Gl X "list":=by rfl)(hg2:Gl X "reversed":=by rfl)
 (he:yh [e] X.env=(false,yV e X.env)::yh [] X.env:=by rfl) (he2:yh [.Call (.Name "reversed" p2) [e] [] pos2] X.env=(false,yV (.Call (.Name "reversed" p2) [e] [] pos2) X.env)::yh [] X.env:=by rfl) :
 ME X (.Call (.Name "list" p1) [.Call (.Name "reversed" p2) [e] [] pos2] [] pos) (zav G) :=
 zdd (zMy hm1 hv1 hm2 hv2 h hc hg1 hg2 he he2) λZ J O Y H d O' Q A e k=>by
  obtain⟨⟨x,O1⟩,e1,e⟩:=zh e;refine⟨Z,J,O,x,O1,A,e1,λZ1 H1 v x1 R1 r1=>?_⟩;dsimp only at e
  split at e
  ·split at e
   ·rename_i hm
    cases e;obtain⟨p,rfl,ep⟩:=r1.tx;obtain⟨vs,e3,q⟩:=R1.at_ _ _ _ ep hm;exact⟨p,vs,rfl,SqL.of e3,λq' hq'=>k _ _ _ (x1.trans (Ext.push hq')) (R1.push hq' ⟨_,zx,(zws q).ext (Ext.push hq')⟩) (.loc (zwb R1))⟩
   ·cases e
  ·cases e
variable {te:TE}{stp:yB}{ts:TO}
def zLl(ns:Qg):Qg:=ns.mergeSort λa b=>decide (a<=b)
def zkg:GL:=λds O=>match ds with
 |[.loc n]=>match O[n]? with
  |some (.lst xs)=>(zzk xs).bind λns=>bif decide (ns.length<64) then some (.loc O.length,O++[.lst ((zLl ns).map .int)]) else none
  |_=>none
 |_=>none
def zxe(hc:X.calm=true):tJ X (.builtin "sorted") zkg:=by
 refine tJ.of λU s Y H xs us Q I r Z ds O d O' r1 R e k=>?_;unfold zkg at e
 split at e
 ·split at e
  ·rename_i hm
   obtain⟨ns,e2,e⟩:=zh e;obtain⟨hp,e⟩:=zJ e;have hp:=of_decide_eq_true hp;cases e;rw[zAi e2]at hm;obtain⟨v,rr,rfl,q1,q2⟩:=r1.cons_inv;obtain⟨a,rfl,ea⟩:=q1.tx;obtain⟨vs,e3,q3⟩:=R.at_ _ _ _ ea hm;rw[zbr q3]at e3;rw[q2.nil_inv]at r;obtain⟨u,rfl,ru⟩:=vals1 r;cases ru;obtain⟨hW,rv,pl,hz⟩:=I.list (SqL.of (K:=X.K) e3);have hl:hW.length=ns.length:=by rw[<-rv.length];simp
   refine sorted_ints pl.isList (zlm rv) (by omega) λout ns' a1 a2 a3=>?_;have hms:ns'=zLl ns:=zvf (a2.trans (Nq _ _).symm) a3 (zhn _);subst hms;obtain⟨e0,he⟩:=sortedAll_at s.heap hW out;have hf:=I.hok.fresh (Nat.le_succ s.heap.objs.size);have kA:(zLl ns).length=ns.length:=a2.length_eq;refine⟨.ref (s.heap.objs.size+1),_,I.laid (t':=s.toks) (o:=.lst ((zLl ns).map V.int)) (λ_ _=>sortedAll_old) (Nat.le_succ _) ?_,rfl,k _ _ _ (Ext.push hf) (R.push hf ⟨_,zx,zwi⟩) (.loc (zwb R))⟩;exact⟨by simp;rw[YC];omega,out.toList,e0,zNg a1,by simpa using he⟩
  ·cases e
 ·cases e
end
end M
namespace M
open PySem PyProof.Rows
section
variable {prog:yu}{w:yG}{A:yH}{E:yb->yd->Prop}{s:yd}
end
end M
namespace M
open PySem PySem.Spec PyProof.Rows L2
section
variable {X:Cx}{U:Qb}{Y:L2.St}{H:Hp}{s s':yd}
variable {a b c e:yB}{es:Qz}{G ψ χ:FE}{pos pos2 p1 p2:YZ}
variable {prog:yu}{w:yG}{A:yH}{E:yb->yd->Prop}{T:String}{r d:yg}{n:Nat}{P:Nat->yb->Prop}{OK:yU->Prop}
def zdC(s:yd)(P:Nat->yb->Prop)(n:Nat):Result->yd->Prop:=λrr s'=>∃h' tk kB' c',rr=.ok (.ret (.ref s.heap.objs.size))/\s' = {s with heap:=h',toks:=tk }/\(∀b o,s.heap.get? b=some o->h'.get? b=some o)/\h'.get? s.heap.objs.size=some {cls:=.type "list",dict:=none,data:=.seq kB' c',slots:=#[]}/\ItemsOf P kB' n
def zlp{Q:List yb->yd->Prop}(K:W.KdlSrc prog w T r d n P OK)(hh:A.handled=none)(hok:OK s.heap)(hn:n<=yD)
 (h:∀h' tk kB',(∀b o,s.heap.get? b=some o->h'.get? b=some o)->s.heap.objs.size<=h'.objs.size->ItemsOf P kB' n->Q kB'.toList {s with heap:=h',toks:=tk }) :
 yp (yx prog w) A (collect (.ref r)) Q E s:=by
 have kJ:=K.there _ hok;unfold collect;refine ya (wpAny_runValue (xm F.entry_proto_collect ?_));rw[xk F.plain_proto_collect _];show yp _ A.in1 (newList [] >>= λl=>again (.builtin "list.__iadd__" ⟨[l,.ref r],[]⟩)) _ _ s;refine ya (yX ?_);have hS:(s.heap.push {cls:=.type "list",data:=.seq ([]:List yb).toArray }).get? s.heap.objs.size=some {cls:=.type "list",data:=.seq #[]}:=yr _ rfl;refine yi ⟨plainId_quiet F.plain_list_iadd _,YW (xm (R:=zdC s P n) F.entry_list_iadd ?_) λrr s' ⟨h',tk,kB',c',e1,e2,hk,hS',hacc⟩=>?_⟩
 ·rw[xk F.plain_list_iadd _];show yp _ A.in1 (YA (.ref s.heap.objs.size) (.ref r) (.ref s.heap.objs.size)) _ _ _;exact W.kdl_extend (R:=zdC s P n) (A:=A) (s:={s with heap:=s.heap.push {cls:=.type "list",data:=.seq ([]:List yb).toArray }}) K hh (K.keep _ _ hok λb _ o e=>ye _ e) _ (Yo kJ.1) (Yo kJ.2) _ _ hS (λh' tk kB' c' hk hS' hacc=>⟨h',tk,kB',c',rfl,rfl,λb o e=>hk b o (yC (yn e)) (ye _ e),hS',hacc⟩) hn
 ·subst e1 e2;dsimp only;refine ya (wpAny_load hS' ?_);exact yi (h h' tk kB' hk (YI (yn hS')) hacc)
def zjs{ks:Qg}{Q:yb->yd->Prop}(K:W.KdlSrc prog w T r d n P OK)(hh:A.handled=none)(hok:OK s.heap)(h64:n<64)(hint:∀kB:Array yb,ItemsOf P kB n->IntsAre kB.toList ks)(h:∀p s',zrz s ks p s'->Q (.ref p) s') :
 yp (yx prog w) A (call (.builtin "sorted") [.ref r]) Q E s:=by
 refine Calls.call_function_entry kind_sorted plain_sorted entry_sorted (args_sorted1 _) ?_;unfold YN.«sorted»;refine ya (m:=checkCount "sorted" 1 1 _) (yi ?_);refine ya (zlp (A:=A.in1) K hh hok (yA (YI h64) (by rw[YC];decide)) λh1 tk kB hk hsz hacc=>?_);have hI:=hint kB hacc
 have hl:kB.toList.length<64:=by
  have:=hacc.1;simp only[xo];omega
 refine ya (wpAny_newList ?_ (by rw[YC];omega));have kQ:(h1.push (seqObj "list" kB.toList.toArray 0)).get? h1.objs.size=some (seqObj "list" kB.toList.toArray 0):=yr _ rfl;refine ya (Yl (Yj slot_list_sort ⟨_,kQ,rfl⟩ entry_list_sort (list_sort_tree kQ hI (by simp at hl ⊢;omega) λout ns q1 q2 q3=>⟨_,rfl,?_⟩) (args_list_sort _)));obtain⟨e,he⟩:=sortedHeap_at (out:=out) kQ;refine yi ⟨_,rfl,h _ _ ⟨out,ns,e,he,q1,q2,q3,hsz,λb ob eb=>?_,rfl,rfl⟩⟩;have hb1:=hk _ _ eb;have hlt1:b<h1.objs.size:=yn hb1;show(sortedHeap (h1.push (seqObj "list" kB.toList.toArray 0)) h1.objs.size kB.toList out).get? b=some ob;rw[sortedHeap_old (yC hlt1) (by rw[size_push'];exact xI hlt1)];exact ye _ hb1
def zyq:GL:=λds O=>match ds with
 |[x]=>(zWc O x).bind λhU=>bif decide (hU.length<64) then some (.loc O.length,O++[.lst ((zLl (hU.map (·.1))).map .int)]) else none
 |_=>none
def z3p(hc:X.calm=true):tJ X (.builtin "sorted") zyq:=by
 refine tJ.of λU s Y H xs us Q I r Z ds O d O' r1 R e k=>?_;unfold zyq at e
 split at e
 ·obtain⟨hU,e1,e⟩:=zh e;obtain⟨h64,e⟩:=zJ e;have h64:=of_decide_eq_true h64;cases e;obtain⟨v,rr,rfl,q1,q2⟩:=r1.cons_inv;rw[q2.nil_inv]at r;obtain⟨p,vs,rfl,hq,w1,w2⟩:=z0g R q1 e1;obtain⟨u,rfl,ru⟩:=vals1 r;cases ru;obtain⟨hz,hd,_⟩:=zdj I.hok hq;obtain⟨us',ep,rel,da⟩:=zcu I.hok hq;have hl:=rel.length
  have hkv:(vs.map λp=>kV p.1)=((hU.map (·.1)).map V.int):=by
   have:(vs.map (·.1)).map kV=(hU.map λp=>(yL p.1:Key)).map kV:=by rw[w1]
   rw[Ng,Ng]at this;rw[Ng];exact this
  have gD:hU.length=vs.length:=by
   have:=congrArg xS w1;simpa using this.symm
  refine zjs (ks:=hU.map (·.1)) (W.kdl_dict hd) (I.ok.hd hc) da (by omega) (λkB hi=>?_) λq s' ⟨out,ns,e',h1,h2,h3,h4,h5,h6,h7,h8⟩=>?_
  ·obtain⟨hi1,hi2⟩:=hi;have hv:=zwk (P:=X.prog) (w:=X.w) (hW:=kB.toList) rel (by simpa using hi1) λj v e=>hi2 j v (by simpa using e);rw[hkv]at hv;exact zlm hv
  ·have hms:ns=zLl (hU.map (·.1)):=zvf (h3.trans (Nq _ _).symm) h4 (zhn _);subst hms;have kA:(zLl (hU.map (·.1))).length=(hU.map (·.1)).length:=h3.length_eq;rw[Lu]at kA;have hf:=I.hok.fresh h5;refine⟨.ref q,_,zgr I h7 h8 h6 h5 (show tD X.prog X.w _ s'.heap _ (.lst ((zLl (hU.map (·.1))).map V.int)) from⟨by simp;rw[YC];omega,out.toList,e',zNg h2,by simpa using h1⟩),rfl,k _ _ _ (Ext.push hf) (R.push hf ⟨_,zx,zwi⟩) (.loc (zwb R))⟩
 ·cases e
end
def z1n(K:yt)(c f:yj):Prop:=∀C,yJ K yf c=some (some (.ref C))->Cls K C/\sg K C f
def zqq{K:yt}{Z:Qv}{H:Hp}{f:yj}{d:D}:∀{fs:Wq} {vs:Wk},vs.map (·.1)=fs.map (·.1)->tf K Z H (fs.map (·.2)) (vs.map (·.2))->fs.lookup f=some d->∃v,vs.lookup f=some v/\tq K Z H d v
 |[],_,_,_,e=>by cases e
 |(g,x)::fs,[],h,_,_=>by cases h
 |(g,x)::fs,(g',y)::vs,h,r,e=>by
  obtain⟨h1,h2⟩:=yc h;have h1:g'=g:=h1;subst h1;obtain⟨v,q,e1,r1,r2⟩:=r.cons_inv;obtain⟨e2,e3⟩:=yc e1;subst e2 e3;rw[Lz]at e ⊢
  cases hb:f==g' with
  |true=>rw[hb]at e;cases e;exact⟨_,rfl,r1⟩
  |false=>rw[hb]at e;exact zqq h2 r2 e
def zrq{f:yj}:∀{fs:Wq} {vs:Wk},vs.map (·.1)=fs.map (·.1)->fs.lookup f=none->vs.lookup f=none
 |[],[],_,_=>rfl
 |[],_::_,h,_=>by cases h
 |_::_,[],h,_=>by cases h
 |(g,x)::fs,(g',y)::vs,h,e=>by
  obtain⟨h1,h2⟩:=yc h;have h1:g'=g:=h1;subst h1;rw[Lz]at e ⊢
  cases hb:f==g' with
  |true=>rw[hb]at e;cases e
  |false=>rw[hb]at e;exact zrq h2 e
def zHi(f:yj)(d:D):Wq->Wq
 |[]=>[(f,d)]
 |(g,x)::r=>if g=f then(g,d)::r else(g,x)::zHi f d r
def zpu{K:yt}{Z:Qv}{H:Hp}{f:yj}{d:D}{v:V}(rd:tq K Z H d v):∀{fs:Wq} {vs:Wk},vs.map (·.1)=fs.map (·.1)->tf K Z H (fs.map (·.2)) (vs.map (·.2)) ->
 (zrl f v vs).map (·.1)=(zHi f d fs).map (·.1)/\tf K Z H ((zHi f d fs).map (·.2)) ((zrl f v vs).map (·.2))
 |[],[],_,_=>⟨rfl,.cons rd .nil⟩
 |[],_::_,h,_=>by cases h
 |_::_,[],h,_=>by cases h
 |(g,x)::fs,(g',y)::vs,h,r=>by
  obtain⟨h1,h2⟩:=yc h;have h1:g'=g:=h1;subst h1;obtain⟨v',q,e1,r1,r2⟩:=r.cons_inv;obtain⟨e2,e3⟩:=yc e1;subst e2 e3;unfold zrl zHi
  by_cases hg:g'=f
  ·rw[if_pos hg,if_pos hg];exact⟨h,.cons rd r2⟩
  ·rw[if_neg hg,if_neg hg];obtain⟨k1,k2⟩:=zpu rd h2 r2;exact⟨by show g'::_=g'::_;rw[k1],.cons r1 k2⟩
section
variable {X:Cx}{a o e:yB}{es:Qz}{G:FE}{ψ:FA}{pos kD:YZ}{c f m:yj}
@[simp] def zrs(c f:yj)(G:FE):FE:=λJ O=>(G J O).bind λp=>match p.1 with
 |.loc n=>match p.2[n]? with
  |some (.ins c' fs)=>bif c'==c then(fs.lookup f).bind λd=>some (d,p.2) else none
  |_=>none
 |_=>none
def zsj(T:z1n X.K c f)(h:ME X a G)(hb:Yq a f X.env (yV a X.env)=yV a X.env:=by rfl):ME X (.Attribute a f pos) (zrs c f G) :=
 zdd (zHA h hb) λZ J O Y H d O' Q A e k=>by
  obtain⟨⟨x,O1⟩,e1,e⟩:=zh e;refine⟨Z,J,O,x,O1,A,e1,λZ1 H1 v x1 R1 r1=>?_⟩;dsimp only at e
  split at e
  ·split at e
   ·rename_i hm
    obtain⟨hc,e3⟩:=zJ e;clear e;have hc:=eq_of_beq hc;subst hc;obtain⟨d',e2,e4⟩:=zh e3;cases e4;obtain⟨a,rfl,ea⟩:=r1.tx;obtain⟨C,dx,vs,hn,hH,hk,hv⟩:=R1.at_ _ _ _ ea hm;obtain⟨cl,na⟩:=T C hn;obtain⟨v,hl,rv⟩:=zqq hk hv e2;exact⟨a,C,dx,vs,v,rfl,hH,cl,na,hl,k Z1 H1 v x1 R1 rv⟩
   ·cases e
  ·cases e
@[simp] def zqp(c f:yj)(G ψ:FE):FS:=λJ O=>(ψ J O).bind λy=>(G J y.2).bind λp=>match p.1 with
 |.loc n=>match p.2[n]? with
  |some (.ins c' fs)=>bif (c'==c)&&decide (fs.length<1000) then some (.next J (p.2.set n (.ins c (zHi f y.1 fs)))) else none
  |_=>none
 |_=>none
def zBq{value:yB}{χ:FE}{pos':YZ}(T:z1n X.K c f)(ha:ME X o G)(hv:ME X value χ)(hs:xD value (some (.Attribute o f pos')) pos.line X.env=pure false:=by rfl):MS X (.Assign [.Attribute o f pos'] value pos) (zqp c f G χ) :=
 zXk (zkz ha hv hs) λZ J O Y H o E A e k=>by
  obtain⟨⟨y,O1⟩,e1,e⟩:=zh e;refine⟨Z,J,O,y,O1,A,e1,λZ1 H1 vy x1 R1 r1=>?_⟩;obtain⟨⟨x,O2⟩,e2,e⟩:=zh e;refine⟨Z1,J,O1,x,O2,A.ext x1 R1,e2,λZ2 H2 v x2 R2 r2=>?_⟩;dsimp only at e
  split at e
  ·split at e
   ·rename_i n c' fs hm
    obtain⟨hc,e3⟩:=zJ e;clear e;rw[yM]at hc;have hl:=of_decide_eq_true hc.2;have hc:=eq_of_beq hc.1;subst hc;cases e3;obtain⟨a,rfl,ea⟩:=r2.tx;obtain⟨C,dx,vs,hn,hH,hk,hvs⟩:=R2.at_ _ _ _ ea hm;obtain⟨cl,na⟩:=T C hn
    have kA:vs.length<1000:=by
     have:=congrArg xS hk;rw[Lu,Lu]at this;omega
    refine⟨a,C,dx,vs,rfl,hH,cl,na,kA,?_⟩;have kP:Mut (H2 a):=by rw[hH];trivial
    obtain⟨k1,k2⟩:=zpu (f:=f) (r1.ext (x2.trans (Ext.wr (o:=.ins C dx (zrl f vy vs)) kP))) hk (hvs.ext (Ext.wr (o:=.ins C dx (zrl f vy vs)) kP));have R3:=R2.wr (lo:=.ins c' (zHi f y fs)) kP ea ⟨C,dx,zrl f vy vs,hn,zx,k1,k2⟩;exact k Z2 Y _ (x1.trans (x2.trans (Ext.wr kP))) ((A.ext x1 R1).ext (x2.trans (Ext.wr kP)) R3)
   ·cases e
  ·cases e
@[simp] def zgc(c m:yj)(G:FE)(ψ:FA):FA:=λJ O=>(G J O).bind λp=>match p.1 with
 |.loc n=>match p.2[n]? with
  |some (.ins c' fs)=>bif (c'==c)&&(fs.lookup m).isNone then(ψ J p.2).bind λq=>some (.loc n::q.1,q.2) else none
  |_=>none
 |_=>none
def zmr{J:Loc}{O O':Mem}{ds:Wm}(h:zgc c m G ψ J O=some (ds,O')):∃n fs O1 as,G J O=some (.loc n,O1)/\O1[n]?=some (.ins c fs)/\fs.lookup m=none/\ψ J O1=some (as,O')/\ds=.loc n::as:=by
 obtain⟨⟨x,O1⟩,e1,h⟩:=zh h;dsimp only at h
 split at h
 ·split at h
  ·rename_i n c' fs hm
   obtain⟨hc,h3⟩:=zJ h;clear h;rw[yM]at hc;have h1:=eq_of_beq hc.1;have h2:=Option.isNone_iff_eq_none.mp hc.2;subst h1;obtain⟨⟨as,O2⟩,e2,h4⟩:=zh h3;cases h4;exact⟨_,fs,O1,as,e1,hm,h2,e2,rfl⟩
  ·cases h
 ·cases h
structure MethAt(K:yt)(c m qual:yj)(st:yR)(ps:Qx)(C f:yg)(fd:yP):Prop where
 nm:yJ K yf c=some (some (.ref C))
 cl:Cls K C
 me:Meth K C m f
 fn:Fun K m qual st f fd
 bd:Binds K fd ps []
variable {C g:yg}{fd:yP}{ps:Qx}{qual:yj}{st:yR}{CX:CXT}{sp:Sp}{E:XK}{j k n:Nat}{F:FF}{FXm:FX}
def zjt{t:TA}{Z:Qv}{J:Loc}{O:Mem}{Y:L2.St}{H:Hp}{Q:VK}{ds:Wm}{O1:Mem}(B:MethAt X.K c m qual st ps C g fd)(A:At X.K Z H Y J O)(e1:zgc c m G ψ J O=some (ds,O1))(ht:∀Y H R,tMA X.K ψ Y H R->t Y H R)
 (kk:∀Z' H' vs,Ext Z H Z' H'->tF X.K Z' H' O1->tf X.K Z' H' ds vs->sp (vs++[]) H' Q E):zVx C m sp [] E (tM X.K G) t Y H Q:=by
 obtain⟨n,fs,μo,as,ea,hm,gD,eψ,rfl⟩:=zmr e1;refine⟨Z,J,O,.loc n,μo,A,ea,λZ1 H1 v x1 R1 r1=>?_⟩;obtain⟨a,rfl,ea'⟩:=r1.tx;obtain⟨C',dx,vs,hn',hH,hk,hv⟩:=R1.at_ _ _ _ ea' hm;have hC:=B.nm;rw[hn']at hC;cases hC;refine⟨a,dx,vs,rfl,hH,zrq hk gD,ht _ _ _ ⟨Z1,J,μo,as,O1,A.ext x1 R1,eψ,λZ2 H2 vs2 x2 R2 r2=>?_⟩⟩;exact kk Z2 H2 (.ref a::vs2) (x1.trans x2) R2 (.cons (r1.ext x2) r2)
def zzx{pl:Sem Bool}(B:MethAt X.K c m qual st ps C g fd)(φ:tS X.prog X.w X.K X.mg X.base CX j g fd ps sp)(hr:tN k X.A)(hx:zJh CX X E)(ho:ME X o G)(ha:MAn X (e::es) ψ)(hj:j<=k)
 (kT:yh (e::es) X.env=(false,yV e X.env)::yh es X.env:=by exact zvc rfl) (kM:(yW pos (yh es X.env)).any (·.1)=false:=by rfl)
 (ht:yV (.Call (.Attribute o m kD) (e::es) [] pos) X.env=(do
  let ov <-yV o X.env
  standAt kD.atName
  let (f,first) <-xO [ov] (getMethod ov m pl)
  callWith pos f first (yW pos (yh (e::es) X.env)) (xi pos (Yv [] X.env))):=by rfl) :
 PE X (.Call (.Attribute o m kD) (e::es) [] pos) (zIs sp [] E (tMA X.K (zgc c m G ψ))):=by
 intro U s Y H Q I h;obtain⟨Z,J,O,ds,O1,A,e1,kk⟩:=h;exact z0y ho B.cl B.me φ (hr.mono hj) B.bd .nil hx ha.ma kT kM ht U s Y H Q I (zjt B A e1 (λ_ _ _ h=>h) kk)
def zHv{pl:Sem Bool}(B:MethAt X.K c m qual st ps C g fd)(φ:tS X.prog X.w X.K X.mg X.base CX j g fd ps sp)(hr:tN k X.A)(hx:zJh CX X E)(ho:ME X o G)(hj:j<=k)
 (ht:yV (.Call (.Attribute o m kD) [] [] pos) X.env=(do
  let ov <-yV o X.env
  standAt kD.atName
  let (f,first) <-xO [ov] (getMethod ov m pl)
  callWith pos f first (yW pos (yh [] X.env)) (xi pos (Yv [] X.env))):=by rfl) :
 PE X (.Call (.Attribute o m kD) [] [] pos) (zIs sp [] E (tMA X.K (zgc c m G zC))):=by
 intro U s Y H Q I h;obtain⟨Z,J,O,ds,O1,A,e1,kk⟩:=h
 exact zKv ho B.cl B.me φ (hr.mono hj) B.bd .nil hx ht U s Y H Q I (zjt B A e1 (λY H R h=>by
  obtain⟨Z,J,O,ds,O',A,e,k⟩:=h;cases e;exact k Z H [] Ext.refl A.hp .nil) kk)
def z8j{J:Loc}{O O':Mem}{ds:Wm}(ha:∀J O ds O',ψ J O=some (ds,O')->ds.length+1=n)(h:zgc c m G ψ J O=some (ds,O')):ds.length=n:=by
 obtain⟨_,_,_,as,_,_,_,e,rfl⟩:=zmr h;exact ha _ _ _ _ e
def zZw(h:PE X a (zIs (spM X.K n F) [] E0 (tMA X.K ψ)))(hl:∀J O ds O',ψ J O=some (ds,O')->ds.length=n):ME X a (zw F ψ) :=
 zdd h λZ J O Y H d O' Q A eo kk=>by
  obtain⟨⟨ds,O1⟩,e1,eo⟩:=zh eo;refine⟨Z,J,O,ds,O1,A,e1,λZ1 H1 vs x1 R1 r1=>?_⟩;show spM X.K n F (vs++[]) H1 Q E0;rw[Lg];exact⟨by rw[<-r1.length];exact hl _ _ _ _ e1,Z1,ds,O1,d,O',r1,R1,eo,λZ2 H2 v x2 R2 r2=>kk Z2 H2 v (x1.trans x2) R2 r2⟩
abbrev zeo(X:Cx)(o:yB)(m:yj)(es:Qz)(kD pos:YZ)(pl:Sem Bool):Prop:=yV (.Call (.Attribute o m kD) es [] pos) X.env=(do
 let ov <-yV o X.env
 standAt kD.atName
 let (f,first) <-xO [ov] (getMethod ov m pl)
 callWith pos f first (yW pos (yh es X.env)) (xi pos (Yv [] X.env)))
def TV{pl:Sem Bool}(B:MethAt X.K c m qual st ps C g fd)(φ:tS X.prog X.w X.K X.mg X.base CX0 j g fd ps (spM X.K n F))(hr:tN k X.A)(ho:ME X o G)(ha:MAn X (e::es) ψ)(hj:j<=k:=by decide)(hn:(e::es).length+1=n:=by rfl)
 (kT:yh (e::es) X.env=(false,yV e X.env)::yh es X.env:=by exact zvc rfl) (kM:(yW pos (yh es X.env)).any (·.1)=false:=by rfl) (ht:zeo X o m (e::es) kD pos pl:=by rfl) :
 ME X (.Call (.Attribute o m kD) (e::es) [] pos) (zw F (zgc c m G ψ)) :=
 zZw (zzx B φ hr Se ho ha hj kT kM ht) λ_ _ _ _ h=>z8j (λ_ _ _ _ h=>by rw[ha.len _ _ _ _ h];exact hn) h
def sF{pl:Sem Bool}(B:MethAt X.K c m qual st ps C g fd)(φ:tS X.prog X.w X.K X.mg X.base CX0 j g fd ps (spM X.K 1 F))(hr:tN k X.A)(ho:ME X o G)(hj:j<=k:=by decide)(ht:zeo X o m [] kD pos pl:=by rfl) :
 ME X (.Call (.Attribute o m kD) [] [] pos) (zw F (zgc c m G zC)) :=
 zZw (zHv B φ hr Se ho hj ht) λ_ _ _ _ h=>z8j (λ_ _ _ _ h=>by cases h;rfl) h
def znz{pl:Sem Bool}(B:MethAt X.K c m qual st ps C g fd)(φ:tS X.prog X.w X.K X.mg X.base (CXq X.prog X.w) j g fd ps (spX X.K n FXm))(hr:tN k X.A)(ho:ME X.nox o G)(ha:MAn X.nox (e::es) ψ)(hj:j<=k)
 (kT:yh (e::es) X.env=(false,yV e X.env)::yh es X.env) (kM:(yW pos (yh es X.env)).any (·.1)=false) (ht:zeo X o m (e::es) kD pos pl)
 {U:Qb} {s:yd} {Y:L2.St} {H:Hp} {Q:VK} {W:XK} (I:Inv X U Y H s) (h:tCX X.K W n FXm (zgc c m G ψ) Y H Q):yp (yx X.prog X.w) X.A (yV (.Call (.Attribute o m kD) (e::es) [] pos) X.env) (EP X U Y Q) (XP X U Y W) s:=by
 obtain⟨Z,J,O,ds,O1,A,e1,kk⟩:=h;refine PySem.W.methodCall_KW (pl:=pl) (yZ (ho U s Y H _ (I.sA _) (zjt (sp:=spX X.K n FXm) (E:=W) (Q:=Q) (t:=tMA X.K ψ) B A e1 (λ_ _ _ h=>h) kk)) (λu s1 h1=>?_) λ_ _ z=>z.elim) ht;obtain⟨x,H1,I1,rx,a,dx,fs,ex,ea,l,q⟩:=h1;have I1:=I1.TD;subst ex;obtain rfl:u=yI a:=rx;refine zXi I1 ea B.cl B.me l ?_;refine PySem.W.callWith_K (first:=[.ref a]) (h₀:=X.base) I.ok.mod.kin B.me.kp (yZ (ha.ma pos U s1 Y H1 _ (I1.sA _) q) (λus s2 h2=>?_) λ_ _ z=>z.elim) kT kM;obtain⟨vs,H2,I2,r,q2⟩:=h2;have I2:=I2.TD;refine⟨I2.kIn,?_⟩;have r2:Vals (.ref a::(vs++[])) (yI a::us++[]) :=.cons rfl (r.append .nil);have hl:(yI a::us++[]).length=ps.length:=by rw[<-r2.length];exact φ.len _ _ _ _ q2
 refine wpAny_call (YW (φ.run X.A X.stack s2 H2 ⟨.ref a::us,[]⟩ (.ref a::us++[]) (.ref a::(vs++[])) Q W (hr.mono hj) I2.SE (B.bd s2 (.ref a::us) I2.kIn hl) r2 q2) λrr s' hq=>?_)
 cases rr with
 |error ex=>
  obtain⟨C,dx,H',Fl,hw⟩:=hq;exact⟨H2,s2,C,dx,H',I2,Fl,hw⟩
 |ok fl=>
  cases fl with
  |ret u=>exact I2.after hq
  |next=>exact yN hq
  |brk=>exact yN hq
  |cont=>exact yN hq
def zFw{pl:Sem Bool}{spos:YZ}(B:MethAt X.K c m qual st ps C g fd)(φ:tS X.prog X.w X.K X.mg X.base (CXq X.prog X.w) j g fd ps (spX X.K n FXm))(hr:tN k X.A)(ho:ME X.nox o G)(ha:MAn X.nox (e::es) ψ)(hj:j<=k:=by decide)(hn:(e::es).length+1=n:=by rfl)
 (kT:yh (e::es) X.env=(false,yV e X.env)::yh es X.env:=by exact zvc rfl) (kM:(yW pos (yh es X.env)).any (·.1)=false:=by rfl) (ht:zeo X o m (e::es) kD pos pl:=by rfl)
 (hs:xD (.Call (.Attribute o m kD) (e::es) [] pos) none spos.line X.env=pure false:=by rfl):PX1 X (.Expr (.Call (.Attribute o m kD) (e::es) [] pos) spos) (zXu FXm (zgc c m G ψ)):=by
 intro U s Y H D W I ⟨Z,J,O,o,A,eo,kk⟩;obtain⟨ds,O1,r,e1,e2,rfl⟩:=zEq eo;refine wpAny_Expr_any (thn (znz B φ hr ho ha hj kT kM ht I (Q:=λ_ H'=>D.nx Y H') (zhx A e1 (z8j (λ_ _ _ _ h=>by rw[ha.len _ _ _ _ h];exact hn) e1) e2 ?_)) λv s1 ⟨y,H1,I1,r1,q1⟩=>⟨Y,H1,I1,q1⟩) I.quiet hs
 cases r with
 |ok d O'=>exact λZ' H' v x' R r=>kk Z' Y H' x' (A.ext x' R)
 |exc c fs O'=>exact kk
def zOs{pl:Sem Bool}{spos py:YZ}{y:yj}(i:Nat)(B:MethAt X.K c m qual st ps C g fd)(φ:tS X.prog X.w X.K X.mg X.base (CXq X.prog X.w) j g fd ps (spX X.K n FXm))(hr:tN k X.A)(ho:ME X.nox o G)(ha:MAn X.nox (e::es) ψ)(hj:j<=k:=by decide)(hn:(e::es).length+1=n:=by rfl)
 (hN:X.N.Nodup:=by first|assumption|decide) (hi:X.N[i]?=some y:=by rfl) (hy:L2.Loc X.env.scope y:=by first|exact Or.inl rfl|exact Or.inr rfl)
 (kT:yh (e::es) X.env=(false,yV e X.env)::yh es X.env:=by exact zvc rfl) (kM:(yW pos (yh es X.env)).any (·.1)=false:=by rfl) (ht:zeo X o m (e::es) kD pos pl:=by rfl)
 (hs:xD (.Call (.Attribute o m kD) (e::es) [] pos) (some (.Name y py)) spos.line X.env=pure false:=by rfl) (hf:X.fn y=true\/X.env.scope.names.lookup y=some .local:=by first|exact .inl rfl|exact .inr rfl|assumption) :
 PX1 X (.Assign [.Name y py] (.Call (.Attribute o m kD) (e::es) [] pos) spos) (zUv i FXm (zgc c m G ψ)):=by
 intro U s Y H D W I ⟨Z,J,O,o,A,eo,kk⟩;obtain⟨ds,O1,r,e1,e2,rfl⟩:=zEq eo;refine wpAny_Assign_Name (thn (znz B φ hr ho ha hj kT kM ht I (Q:=λv H'=>D.nx (Y.set i (some v)) H') (zhx A e1 (z8j (λ_ _ _ _ h=>by rw[ha.len _ _ _ _ h];exact hn) e1) e2 ?_)) λv s1 ⟨y,H1,I1,r1,q1⟩=>?_) hs
 ·cases r with
  |ok d O'=>exact λZ' H' v x' R r=>kk Z' _ H' x' ((A.ext x' R).set r i)
  |exc c fs O'=>exact kk
 ·exact zOh I1 hN hi hy r1 (λs2 I2=>⟨_,H1,I2,q1⟩) hf
@[simp] def zes(c:yj)(F:FF)(ψ:FA):FE:=λJ O=>(ψ J O).bind λq=>(F (.loc q.2.length::q.1) (q.2++[.ins c []])).bind λr=>match r.1 with
 |.non=>some (.loc q.2.length,r.2)
 |_=>none
def mmake{p:YZ}(mk:Mk X.K C g)(hc:yJ X.K yf c=some (some (.ref C)))(hm:X.mg c=some (.ref C))(bd:Binds X.K fd ps [])(φ:tS X.prog X.w X.K X.mg X.base CX0 j g fd ps (spM X.K n F))(hr:tN k X.A)(ha:MAn X (e::es) ψ)
 (hj:j+1<=k:=by decide) (hn:(e::es).length+1=n:=by rfl) (hg:Gl X c:=by rfl) (hdb:(c==("__debug__":yj))=false:=by decide) (he:yh (e::es) X.env=(false,yV e X.env)::yh es X.env:=by exact zvc rfl) (kM:(yW pos (yh es X.env)).any (·.1)=false:=by rfl) :
 ME X (.Call (.Name c p) (e::es) [] pos) (zes c F ψ) :=
 zdd (z6y mk φ (hr.mono hj) hg hm bd .nil Se ha.ma hdb he kM) λZ J O Y H d O' Q A eo kk=>by
  obtain⟨⟨ds,O1⟩,e1,eo⟩:=zh eo;refine⟨Z,J,O,ds,O1,A,e1,λZ1 H1 vs x1 R1 r1 x dx nx ndx nex=>?_⟩;obtain⟨⟨r,O2⟩,e2,eo⟩:=zh eo;dsimp only at eo
  split at eo
  ·cases eo;have nx2:(upd H1 dx (.own x)) x=none:=by rw[zE (Yi nex)];exact nx
   have R2:tF X.K Z1 (upd H1 dx (.own x)) O1:=R1.Th ndx;have R3:=R2.push (lo:=.ins c []) nx2 ⟨C,dx,[],hc,zx,rfl,.nil⟩;have X3:=(Ext.new (Z:=Z1) (o:=.own x) ndx).trans (Ext.push (o:=.ins C dx []) nx2);rw[Lg];refine⟨by rw[Lr,<-r1.length,ha.len _ _ _ _ e1];exact hn,Z1++[x],.loc O1.length::ds,O1++[.ins c []],.non,_,.cons (.loc (zwb R2)) (r1.ext X3),R3,e2,λZ4 H4 v x4 R4 r4=>⟨r4.tG,kk Z4 H4 (.ref x) (x1.trans (X3.trans x4)) R4 (.loc (x4.get (zwb R2)))⟩⟩
  ·cases eo
def SO{x x0:yj}{p:YZ}{f:yg}(hm:X.mg x=some (.ref f))(B:FnAt X.K X.mg x0 st ps f fd)(φ:tS X.prog X.w X.K X.mg X.base CX0 j f fd ps (spM X.K n F))(hr:tN k X.A)
 (ha:MAn X (e::es) ψ) (hj:j<=k:=by decide) (hn:(e::es).length=n:=by rfl) (hg:Gl X x:=by rfl) (hdb:(x==("__debug__":yj))=false:=by decide) (he:yh (e::es) X.env=(false,yV e X.env)::yh es X.env:=by exact zvc rfl) (kM:(yW pos (yh es X.env)).any (·.1)=false:=by rfl) :
 ME X (.Call (.Name x p) (e::es) [] pos) (zw F ψ):=zMt φ (hr.mono hj) hm B.fn.kp B.bd ha hn hg hdb he kM
@[simp] def zxo(g:GM)(G:FE)(ψ:FA):FE:=λJ O=>(G J O).bind λp=>match p.1 with
 |.loc n=>match p.2[n]? with
  |some (.dct _)=>(ψ J p.2).bind λq=>g (.loc n) q.1 q.2
  |_=>none
 |_=>none
def zmw{o:yB}{ψ:FA}{name:yj}{id:String}{g:GM}{kD:YZ}(slot:Slot "dict" name id)(hty:typeOf (.builtin id)=pure (.type "method_descriptor"))(hm:MtG X id g)(ho:ME X o G)(ha:MAn X (e::es) ψ)
 (kG:Yq o name X.env (yV o X.env)=yV o X.env:=by rfl)
 (kH:((yW pos (yh (e::es) X.env)).all (λx=>!x.1)&&(xi pos (Yv [] X.env)).all (λx=>x.1.isSome)
  && decide ((e::es).length+([]:List YQ).length+(if([]:List YQ).isEmpty then 0 else 1)<30))=true:=by rfl)
 (kE:(kD.endLine==pos.line)=true:=by rfl) (hs:yh (e::es) X.env=(false,yV e X.env)::yh es X.env:=by rfl) (kF:(yW pos (yh es X.env)).any (·.1)=false:=by rfl) :
 ME X (.Call (.Attribute o name kD) (e::es) [] pos) (zxo g G ψ) :=
 zdd (zrw PySem.F.plainAttrs_dict slot hty hm ho ha.ma kG kH kE hs kF) λZ J O Y H d O' Q A e k=>by
  obtain⟨⟨x,O1⟩,e1,e⟩:=zh e;refine⟨Z,J,O,x,O1,A,e1,λZ1 H1 v x1 R1 r1=>?_⟩;dsimp only at e
  split at e
  ·split at e
   ·rename_i hm'
    obtain⟨⟨ds,O2⟩,e2,e⟩:=zh e;obtain⟨a,rfl,ea⟩:=r1.tx;obtain⟨vs,e3,q3⟩:=R1.at_ _ _ _ ea hm';refine⟨.inr (.inr (.inl ⟨rfl,.inl ⟨vs,e3⟩⟩)),Z1,J,O1,ds,O2,A.ext x1 R1,e2,λZ2 H2 vs2 x2 R2 r2=>?_⟩;exact⟨Z2,_,ds,O2,d,O',r1.ext x2,r2,R2,e,λZ3 H3 v3 x3 R3 r3=>k Z3 H3 v3 (x1.trans (x2.trans x3)) R3 r3⟩
   ·cases e
  ·cases e
def zVv(vs:Wj)(k:Key):Wj:=vs.filter λp=>decide (p.1≠k)
def zGx(hU:Wp)(i:Int):Wp:=hU.filter λp=>decide (p.1≠i)
def zXA{vs:Wj}{us:List (Key×yb)}(r:KV vs us)(k:Key):KV (zVv vs k) (without us k):=by
 unfold KV at r ⊢
 induction r with
 |nil=>exact .nil
 |@cons p q ps qs h t ih=>
  unfold zVv without at ih ⊢;rw[Lk,Lk,h.1]
  split
  ·exact .cons h ih
  ·exact ih
def zLt{K:yt}{Z:Qv}{H:Hp}:∀{hU:Wp} {vs:Wj} (i:Int),vs.map (·.1)=hU.map (λp=>yL p.1)->tf K Z H (hU.map (·.2)) (vs.map (·.2)) ->
 (zVv vs (yL i)).map (·.1)=(zGx hU i).map (λp=>yL p.1)/\tf K Z H ((zGx hU i).map (·.2)) ((zVv vs (yL i)).map (·.2))
 |[],vs,i,h1,h2=>by
  have:vs=[]:=by simpa using h1
  subst this;exact⟨rfl,.nil⟩
 |(j,d)::hU,[],i,h1,h2=>by simp at h1
 |(j,d)::hU,(k,u)::vs,i,h1,h2=>by
  rw[Nf,Nf,YJ]at h1;obtain⟨hk,h1⟩:=h1;have hk:k=yL j:=hk;subst hk;obtain⟨v',r',e',q1,q2⟩:=h2.cons_inv;rw[Nf,YJ]at e';obtain⟨e1,e2⟩:=e';subst e2;have e1:u=v':=e1;subst e1;obtain⟨i1,i2⟩:=zLt (K:=K) (Z:=Z) (H:=H) i h1 q2;unfold zVv zGx at i1 i2 ⊢
  by_cases hj:j=i
  ·subst hj;rw[List.filter_cons_of_neg (by simp),List.filter_cons_of_neg (by simp)];exact⟨i1,i2⟩
  ·rw[List.filter_cons_of_pos (by simp[hj]),List.filter_cons_of_pos (by simp[hj])];exact⟨by rw[Nf,Nf,i1],.cons q1 i2⟩
@[simp] def zJr:GM:=λx ds O=>match x,ds with
 |.loc n,[.int i]=>match O[n]? with
  |some (.dct hU)=>(zLd hU i).bind λd=>some (d,O.set n (.dct (zGx hU i)))
  |_=>none
 |_,_=>none
def ztv:MtG X "dict.pop" zJr:=by
 refine MtG.of λU s Y H x xs v us Q I rx rs Z dx ds O d O' r1 r2 R e k=>?_;unfold zJr at e
 split at e
 ·rename_i n i
  split at e
  ·rename_i hU hm
   obtain⟨d',e1,e⟩:=zh e;cases e;obtain⟨p,rfl,ea⟩:=r1.tx;obtain⟨vs,hH,q1,q2⟩:=R.at_ _ _ _ ea hm;obtain⟨w,r,rfl,q3,q4⟩:=r2.cons_inv;rw[q4.nil_inv,q3.int_inv]at rs;obtain⟨u,rfl,ru⟩:=vals1 rs;cases rx;obtain⟨z,hd,us,rel,dd⟩:=zrx I.hok hH;obtain⟨v',ev,r'⟩:=(zLj _ q1 q2).1 _ e1;have rv:=rel.val (yL i);rw[ev]at rv;obtain⟨u',eu,ru'⟩:=se.some_of rv;have hz:us.length<=yD:=by rw[<-rel.length];exact z
   have kP:Mut (H p):=by rw[hH];trivial
   have hpart:(keyPart u).isSome=true:=by obtain⟨t,rfl⟩:=ru;rfl
   refine call_meetsIn PySem.F.slot_dict_pop dd.typeIs PySem.F.entry_dict_pop (PySem.F.args_dict_pop_2 _ _) (meets_dict_pop_there (zCb X.prog X.w) p (zGr (k:=yL i) ru) [] (.inl rfl) hpart) ⟨us,u',dd,hz,eu,λh' dd' hs=>?_⟩;have hl':(zVv vs (yL i)).length<=yD:=yA (List.length_filter_le _ _) z;have I1:Inv X U Y (upd H p (.dK (zVv vs (yL i)))) {s with heap:=h',toks:=s.toks+1 }:=I.write (x:=p) (e:=p) kP (.inl rfl) (λb q hb z=>(hs.2 b hb).trans z) (by obtain⟨q,_,_,hq,_⟩:=dd';exact⟨q,hq⟩) (show tD X.prog X.w _ h' p (.dK (zVv vs (yL i))) from⟨hl',hd,_,zXA rel _,dd'⟩);obtain⟨p1,p2⟩:=zLt i q1 (q2.ext (Ext.wr (o:=.dK (zVv vs (yL i))) kP));exact⟨v',_,I1,ru',k Z _ _ (Ext.wr kP) (R.wr kP ea ⟨_,zx,p1,p2⟩) (r'.ext (Ext.wr kP))⟩
  ·cases e
 ·cases e
def zzy{o:yB}{ψ:FA}{kD:YZ}(ho:ME X o G)(ha:MAn X (e::es) ψ)
 (kG:Yq o "pop" X.env (yV o X.env)=yV o X.env:=by rfl)
 (kH:((yW pos (yh (e::es) X.env)).all (λx=>!x.1)&&(xi pos (Yv [] X.env)).all (λx=>x.1.isSome)
  && decide ((e::es).length+([]:List YQ).length+(if([]:List YQ).isEmpty then 0 else 1)<30))=true:=by rfl)
 (kE:(kD.endLine==pos.line)=true:=by rfl) (hs:yh (e::es) X.env=(false,yV e X.env)::yh es X.env:=by rfl) (kF:(yW pos (yh es X.env)).any (·.1)=false:=by rfl) :
 ME X (.Call (.Attribute o "pop" kD) (e::es) [] pos) (zxo zJr G ψ):=zmw PySem.F.slot_dict_pop PySem.F.type_dict_pop ztv ho ha kG kH kE hs kF
end
structure si(K:yt)(mg:yj->Option yb)(c:yj)(st:yR)(ps:Qx)(C f:yg)(fd:yP):Prop where
 nm:yJ K yf c=some (some (.ref C))
 mgc:mg c=some (.ref C)
 mkc:Mk K C f
 fn:Fun K "__init__" (c ++ ".__init__") st f fd
 bd:Binds K fd ps []
section
variable {X:Cx}{e:yB}{es:Qz}{ψ:FA}{pos p:YZ}{c:yj}{C g:yg}{fd:yP}{ps:Qx}{st:yR}{j k n:Nat}{F:FF}
def SQ(B:si X.K X.mg c st ps C g fd)(φ:tS X.prog X.w X.K X.mg X.base CX0 j g fd ps (spM X.K n F))(hr:tN k X.A)(ha:MAn X (e::es) ψ)
 (hj:j+1<=k:=by decide) (hn:(e::es).length+1=n:=by rfl) (hg:Gl X c:=by rfl) (hdb:(c==("__debug__":yj))=false:=by decide) (he:yh (e::es) X.env=(false,yV e X.env)::yh es X.env:=by exact zvc rfl) (kM:(yW pos (yh es X.env)).any (·.1)=false:=by rfl) :
 ME X (.Call (.Name c p) (e::es) [] pos) (zes c F ψ):=mmake B.mkc B.nm B.mgc B.bd φ hr ha hj hn hg hdb he kM
def FnAt.al{K:yt}{mg:yj->Option yb}{x y:yj}{f:yg}(B:FnAt K mg x st ps f fd)(h:mg y=mg x):mg y=some (.ref f):=h.trans B.at_
variable {prog:yu}{w:yG}{A:yH}{R:Result->yd->Prop}{I:yg}{fp wr:Qv}{P:Nat->yb->Prop}{St:Nat->yU->Prop}
variable {E:yb->yd->Prop}{s:yd}
variable {P:yu}{K:yt}{mg:yj->Option yb}{base:yU}{x qual:yj}{f:yg}{N:Qx}
variable {G ψ:FE}
section
variable {K:yt}{Z:Qv}{H H':Hp}
end
variable {a b:yB}
@[simp] def zpg:φ2:=λx y O=>match x,y with
 |.str a,.str b=>bif decide (a.length+b.length<=1000000) then some (.str (a++b),O) else none
 |_,_=>none
def zHc:OpM X (xh .Add) zpg:=by
 refine OpM.of λU s Y H x y v u Q I rx ry Z dx dy O d O' r1 r2 R e k=>?_;unfold zpg at e
 split at e
 ·obtain⟨h0,e⟩:=zJ e;have h0:=of_decide_eq_true h0;cases e;exact z6l U s Y H x y v u Q I rx ry ⟨_,_,r1.str_inv,r2.str_inv,yA h0 (by decide),k Z H _ Ext.refl R .str⟩
 ·cases e
@[simp] def zIp:GL:=λds O=>match ds with
 |[.str a]=>bif decide (a.length<=1000000) then some (.int a.length,O) else none
 |_=>none
def zJi:tJ X (.builtin "len") zIp:=by
 refine tJ.of λU s Y H xs us Q I r Z ds O d O' r1 R e k=>?_;unfold zIp at e
 split at e
 ·obtain⟨h1,e⟩:=zJ e;have h1:=of_decide_eq_true h1;cases e;obtain⟨v,rr,rfl,q1,q2⟩:=r1.cons_inv;have q2:=q2.nil_inv;subst q2;exact zZn U s Y H _ us Q I r ⟨_,by rw[q1.str_inv],yA h1 (by decide),k Z H _ Ext.refl R .int⟩
 ·cases e
@[simp] def zZm:φ2:=λx y O=>match x,y with
 |.str a,.str b=>some (.bl (Builtin.Str.occurrences b a 0 b.length 1).isEmpty,O)
 |_,_=>none
def zLr:OpM X (Yg .NotIn) zZm:=by
 refine OpM.of λU s Y H x y v u Q I rx ry Z dx dy O d O' r1 r2 R e k=>?_;unfold zZm at e
 split at e
 ·cases e;exact z7n U s Y H x y v u Q I rx ry ⟨_,_,r1.str_inv,r2.str_inv,by rw[Bool.not_not];exact k Z H _ Ext.refl R .bl⟩
 ·cases e
@[simp] def zJw:φ2:=λx y O=>match x,y with
 |.str z,.int i=>bif decide (z.length<=1000000) then(atI z.cps.toList i).bind λc=>some (.str ⟨#[c]⟩,O) else none
 |_,_=>none
def ixMS:IxR X (rM X.K zJw):=by
 intro value slice U s Y H x y v u Q I rx ry ⟨Z,dx,dy,O,d,O',r1,r2,R,e,k⟩ hs;unfold zJw at e
 split at e
 ·obtain⟨h0,e⟩:=zJ e;have h0:=of_decide_eq_true h0;obtain⟨c,e1,e⟩:=zh e;cases e;exact zjx value slice U s Y H _ y v u Q I rx ry ⟨_,_,c,r1.str_inv,r2.int_inv,yA h0 (by decide),e1,k Z H _ Ext.refl R .str⟩ hs
 ·cases e
def znu(ha:ME X a G)(hb:ME X b ψ)(hs:zkk b:=by exact λ_ _=>rfl):ME X (.Subscript a b pos) (zy zJw G ψ) :=
 zdd (zYv ixMS ha hb hs) λ_ _ _ _ _ _ _ _ A e k=>znp A e k
@[simp] def zkf:GL:=λds O=>match ds with
 |[.int i]=>bif decide (i.natAbs.log2<1920) then some (.str (toString i),O) else none
 |_=>none
def zpb:tJ X (.type "str") zkf:=by
 refine tJ.of λU s Y H xs us Q I r Z ds O d O' r1 R e k=>?_;unfold zkf at e
 split at e
 ·obtain⟨h1,e⟩:=zJ e;have h1:=of_decide_eq_true h1;cases e;obtain⟨v,rr,rfl,q1,q2⟩:=r1.cons_inv;have q2:=q2.nil_inv;subst q2;exact zkj U s Y H _ us Q I r ⟨_,by rw[q1.int_inv],h1,k Z H _ Ext.refl R .str⟩
 ·cases e
end
end M
namespace M
open PySem PySem.Spec PyProof.Rows L2 PySem.Builtin PySem.Builtin.Str
def zhp{X:Cx}{x y:yj}{pos:YZ}(hm:∃t,X.mg x=some (.str y t))(hg:Gl X x:=by rfl)(hd:(x==("__debug__":yj))=false:=by decide):ME X (.Name x pos) (fC (.str y)):=by
 obtain⟨t,h⟩:=hm;exact zUw (zVp (v:=V.str y) hg h ⟨t,rfl⟩ hd) λ_ _ =>.str
section
variable {X:Cx}{e:yB}{es:Qz}{G:FE}{pos:YZ}
@[simp] def z2c(g:GM)(G:FE)(ψ:FA):FE:=λJ O=>(G J O).bind λp=>match p.1 with
 |.str x=>(ψ J p.2).bind λq=>g (.str x) q.1 q.2
 |_=>none
def zon{o:yB}{ψ:FA}{name:yj}{id:String}{g:GM}{kD:YZ}(slot:Slot "str" name id)(hty:typeOf (.builtin id)=pure (.type "method_descriptor"))(hm:MtG X id g)(ho:ME X o G)(ha:MAn X (e::es) ψ)
 (kG:Yq o name X.env (yV o X.env)=yV o X.env:=by rfl)
 (kH:((yW pos (yh (e::es) X.env)).all (λx=>!x.1)&&(xi pos (Yv [] X.env)).all (λx=>x.1.isSome)
  && decide ((e::es).length+([]:List YQ).length+(if([]:List YQ).isEmpty then 0 else 1)<30))=true:=by rfl)
 (kE:(kD.endLine==pos.line)=true:=by rfl) (hs:yh (e::es) X.env=(false,yV e X.env)::yh es X.env:=by rfl) (kF:(yW pos (yh es X.env)).any (·.1)=false:=by rfl) :
 ME X (.Call (.Attribute o name kD) (e::es) [] pos) (z2c g G ψ) :=
 zdd (zrw PySem.F.plainAttrs_str slot hty hm ho ha.ma kG kH kE hs kF) λZ J O Y H d O' Q A e k=>by
  obtain⟨⟨x,O1⟩,e1,e⟩:=zh e;refine⟨Z,J,O,x,O1,A,e1,λZ1 H1 v x1 R1 r1=>?_⟩;dsimp only at e
  split at e
  ·obtain⟨⟨ds,O2⟩,e2,e⟩:=zh e;have ev:=r1.str_inv;subst ev;refine⟨rfl,Z1,J,O1,ds,O2,A.ext x1 R1,e2,λZ2 H2 vs2 x2 R2 r2=>?_⟩;exact⟨Z2,_,ds,O2,d,O',.str,r2,R2,e,λZ3 H3 v3 x3 R3 r3=>k Z3 H3 v3 (x1.trans (x2.trans x3)) R3 r3⟩
  ·cases e
def zfC:D->Qy
 |.str x=>some x
 |_=>none
def zyt:Wm->Option (Qx)
 |[]=>some []
 |d::ds=>(zfC d).bind λx=>(zyt ds).bind λxs=>some (x::xs)
@[simp] theorem zNn:∀ys:Qx,zyt (ys.map D.str)=some ys
 |[]=>rfl
 |y::ys=>by
  have:=zNn ys;show(zyt (ys.map D.str)).bind _=_;rw[this];rfl
def zVo:∀{ds:Wm} {ys:Qx},zyt ds=some ys->ds=ys.map D.str
 |[],ys,h=>by cases h;rfl
 |d::ds,ys,h=>by
  obtain⟨x,e1,h⟩:=zh (show(zfC d).bind _=_ from h);obtain⟨xs,e2,h⟩:=zh h;cases h;rw[zVo e2];cases d<;>cases e1
  rfl
def zcq{K:yt}{Z:Qv}{H:Hp}:∀{ys:Qx} {vs:Wi},tf K Z H (ys.map D.str) vs->vs=ys.map V.str
 |[],vs,r=>r.nil_inv
 |i::ns,vs,r=>by
  obtain⟨v,q,rfl,h1,h2⟩:=r.cons_inv;rw[h1.str_inv,zcq h2];rfl
def zbq{K:yt}{Z:Qv}{H:Hp}:∀{ys:Qx},tf K Z H (ys.map D.str) (ys.map V.str)
 |[] =>.nil
 |_::_ =>.cons .str zbq
def z7i:∀{ys:Qx} {us:List yb},Vals (ys.map V.str) us->StrsAre us ys
 |[],us,h=>by rw[h.SH];exact .nil
 |y::ys,us,h=>by
  obtain⟨u,ws,rfl,r,t⟩:=h.SG;obtain⟨k,rfl⟩:=r;exact .cons y k (z7i t)
def zej:∀{l:List (yj×Tok)},Vals ((l.map (·.1)).map V.str) (strValues l)
 |[] =>.nil
 |(y,t)::l =>.cons ⟨t,rfl⟩ zej
@[simp] def z2i:GM:=λx ds O=>match x,ds with
 |.str z,[.loc n]=>match O[n]? with
  |some (.lst xs)=>(zyt xs).bind λys=>bif decide ((ys.map (·.length)).sum+ys.length*z.length<=1000000) then some (.str (YX z ys),O) else none
  |_=>none
 |_,_=>none
def zmv:MtG X "str.join" z2i:=by
 refine MtG.of λU s Y H x xs v us Q I rx rs Z dx ds O d O' r1 r2 R e k=>?_;unfold z2i at e
 split at e
 ·split at e
  ·rename_i hm
   obtain⟨ys,e2,e⟩:=zh e;obtain⟨h1,e⟩:=zJ e;have h1:=of_decide_eq_true h1;cases e;have ev:=r1.str_inv;subst ev;obtain⟨t,rfl⟩:=rx;obtain⟨w,r,rfl,q1,q2⟩:=r2.cons_inv;rw[q2.nil_inv]at rs;obtain⟨a,rfl,ea⟩:=q1.tx;rw[zVo e2]at hm;obtain⟨vs,e3,q3⟩:=R.at_ _ _ _ ea hm;rw[zcq q3]at e3;obtain⟨u,rfl,ru⟩:=vals1 rs;cases ru;obtain⟨hW,rv,pl,hz⟩:=I.list (SqL.of (K:=X.K) e3);exact join_list pl.isList (z7i (by simpa using rv)) (yA h1 (by decide)) λt' k'=>⟨.str _,H,I.tok _,⟨t',rfl⟩,k Z H _ Ext.refl R .str⟩
  ·cases e
 ·cases e
def zAh{o:yB}{ψ:FA}{kD:YZ}(ho:ME X o G)(ha:MAn X (e::es) ψ)
 (kG:Yq o "join" X.env (yV o X.env)=yV o X.env:=by rfl)
 (kH:((yW pos (yh (e::es) X.env)).all (λx=>!x.1)&&(xi pos (Yv [] X.env)).all (λx=>x.1.isSome)
  && decide ((e::es).length+([]:List YQ).length+(if([]:List YQ).isEmpty then 0 else 1)<30))=true:=by rfl)
 (kE:(kD.endLine==pos.line)=true:=by rfl) (hs:yh (e::es) X.env=(false,yV e X.env)::yh es X.env:=by rfl) (kF:(yW pos (yh es X.env)).any (·.1)=false:=by rfl) :
 ME X (.Call (.Attribute o "join" kD) (e::es) [] pos) (z2c z2i G ψ):=zon PySem.F.slot_str_join PySem.F.type_str_join zmv ho ha kG kH kE hs kF
def zqw{prog:yu}{w:yG}{A:yH}{E:yb->yd->Prop}{s:yd}{x y:yj}{t u:Tok}{Q:yb->yd->Prop}(hy:(y.length==0)=false)
 (hq:∀l k,l.map (·.1)=xQ x y->Q (.ref s.heap.objs.size) {s with heap:=s.heap.push {cls:=.type "list",data:=.seq (strValues l).toArray },toks:=k })
 (hsz:x.length<=yD) (hsz2:(partsBetween x (occurrences x y 0 x.length (x.length+1)) y.length).length<=yD) :
 yp (yx prog w) A (call (.builtin "str.split") [.str x t,.str y u]) Q E s:=by
 cases h1:(decide (x.length<y.length)||decide (strKind x<strKind y))
 ·cases hf:(occurrences x y 0 x.length (x.length+1)).isEmpty
  ·refine xU F.slot_str_split (typeIs_str _ _ _) F.entry_str_split (F.args_str_split_2 _ _) (meets_str_split_sep x y t u h1 hy hf hsz hsz2) ?_;show wants Q E _ {s with toks:=_,heap:=s.heap.push {cls:=.type "list",data:=.seq (strsFrom s.toks (partsBetween x (occurrences x y 0 x.length (x.length+1)) y.length)).toArray }};rw[strsFrom_eq];exact hq (numbered s.toks _) _ ((numbered_texts _ _).trans ((if_neg (ne_true_of_eq_false h1)).trans (if_neg (ne_true_of_eq_false hf))).symm)
  ·exact xU F.slot_str_split (typeIs_str _ _ _) F.entry_str_split (F.args_str_split_2 _ _) (meets_str_split_not_found x y t u h1 hy hf)
    (hq [(x,t)] s.toks ((if_neg (ne_true_of_eq_false h1)).trans (if_pos hf)).symm)
 ·exact xU F.slot_str_split (typeIs_str _ _ _) F.entry_str_split (F.args_str_split_2 _ _) (meets_str_split_cannot_occur x y t u h1) (hq [(x,t)] s.toks (if_pos h1).symm)
def zcj(x:yj)(w:Nat):∀(cuts:Qf)(a:Nat),(Xj x w a cuts).length=cuts.length+1
 |[],a=>rfl
 |c::r,a=>by
  show(Xj x w _ r).length+1=_;rw[zcj x w r];rfl
def zHt(x y:yj):(partsBetween x (occurrences x y 0 x.length (x.length+1)) y.length).length<=x.length+2:=by
 rw[StrLaws.partsBetween_eq,zcj];have:=StrLaws.occ_length_le x y 0 x.length (x.length+1);omega
@[simp] def ztg:GM:=λx ds O=>match x,ds with
 |.str z,[.str y]=>bif decide (z.length<=1000000/\1<=y.length) then some (.loc O.length,O++[.lst ((xQ z y).map D.str)]) else none
 |_,_=>none
def zTt:MtG X "str.split" ztg:=by
 refine MtG.of λU s Y H x xs v us Q I rx rs Z dx ds O d O' r1 r2 R e k=>?_;unfold ztg at e
 split at e
 ·rename_i z y
  obtain⟨h1,e⟩:=zJ e;obtain⟨h1,h2⟩:=of_decide_eq_true h1;cases e;have ev:=r1.str_inv;subst ev;obtain⟨t,rfl⟩:=rx;obtain⟨w,r,rfl,q1,q2⟩:=r2.cons_inv;rw[q2.nil_inv,q1.str_inv]at rs;obtain⟨u,rfl,ru⟩:=vals1 rs;obtain⟨t',rfl⟩:=ru;have hmi:(1000000:Nat)+2<=yD:=by decide
  have hp:=zHt z y;refine zqw (by simp;omega) (λl k' hl=>?_) (by omega) (by omega);have hf:H s.heap.objs.size=none:=I.hok.fresh (yo _);have hw:=split_weight z y h2;have hll:((l.map (·.1)).map V.str).length<=yD:=by rw[Lu,hl];omega
  have I1:Inv X U Y (upd H s.heap.objs.size (.lst ((l.map (·.1)).map V.str))) {s with heap:=s.heap.push {cls:=.type "list",data:=.seq (strValues l).toArray },toks:=k' } :=
   I.laid (t':=k') (λb u e=>ye _ e) (yo _) ⟨hll,strValues l,0,zej,yr _ rfl⟩
  refine⟨.ref s.heap.objs.size,_,I1,rfl,?_⟩;rw[hl];exact k _ _ _ (Ext.push hf) (R.push hf ⟨_,zx,zbq⟩) (.loc (zwb R))
 ·cases e
def zMh{o:yB}{ψ:FA}{kD:YZ}(ho:ME X o G)(ha:MAn X (e::es) ψ)
 (kG:Yq o "split" X.env (yV o X.env)=yV o X.env:=by rfl)
 (kH:((yW pos (yh (e::es) X.env)).all (λx=>!x.1)&&(xi pos (Yv [] X.env)).all (λx=>x.1.isSome)
  && decide ((e::es).length+([]:List YQ).length+(if([]:List YQ).isEmpty then 0 else 1)<30))=true:=by rfl)
 (kE:(kD.endLine==pos.line)=true:=by rfl) (hs:yh (e::es) X.env=(false,yV e X.env)::yh es X.env:=by rfl) (kF:(yW pos (yh es X.env)).any (·.1)=false:=by rfl) :
 ME X (.Call (.Attribute o "split" kD) (e::es) [] pos) (z2c ztg G ψ):=zon PySem.F.slot_str_split PySem.F.type_str_split zTt ho ha kG kH kE hs kF
@[simp] def z8p:GL:=λds O=>match ds with
 |[.str x]=>bif decide (x.length<=640) then(intText? x).bind λn=>some (.int n,O) else none
 |_=>none
def zIr:tJ X (.type "int") z8p:=by
 refine tJ.of λU s Y H xs us Q I r Z ds O d O' r1 R e k=>?_;unfold z8p at e
 split at e
 ·obtain⟨h1,e⟩:=zJ e;have h1:=of_decide_eq_true h1;obtain⟨n,e1,e⟩:=zh e;cases e;obtain⟨v,rr,rfl,q1,q2⟩:=r1.cons_inv;rw[q2.nil_inv,q1.str_inv]at r;obtain⟨u,rfl,ru⟩:=vals1 r;obtain⟨t',rfl⟩:=ru;exact W.KIN.call_text e1 h1 ⟨.int _,H,I.tok _,⟨_,rfl⟩,k Z H _ Ext.refl R .int⟩
 ·cases e
def Its(x:yj):It:=⟨λi _=>i<x.cps.size,λi H v H'=>H'=H/\∃c,x.cps[i]?=some c/\v=.str ⟨#[c]⟩,λi _=>x.cps.size<=i,λ_ _=>False⟩
def zdw{P:yu}{w:yG}{K:yt}{tg:yB}(it:yg)(x:yj)(t:Tok):Turn P w K tg (Its x) [it] it (λi h=>h.IsStrIter it "str_ascii_iterator" x t i) where
 mem:=by simp
 obj:=λi h st b hb=>by
  have e:b=it:=by simpa using hb
  subst e;obtain⟨o,e,c,d⟩:=st;exact⟨o,e,λv z=>by rw[d]at z;cases z⟩
 keep:=λi h h' st k=>let ⟨o,ho,r⟩:=st;⟨o,k it (by simp) o ho,r⟩
 item:=by
  intro X hP hw hK i U s Y H E hc I hf st hg;replace hc:=hc.elim id yN;subst hP hw hK;obtain⟨f0,f1,f2,f3,f4,f5⟩:=hf it (by simp);have hg:i<x.cps.size:=hg;refine wpAny_pyNext_ascii_item st (c:=x.cps[i]) (by simp[hg]) λh' st' sb=>?_;have I1:Inv X U Y H {s with heap:=h',toks:=s.toks+1 }:=I.turned (λb o hb e=>(sb.2 b hb).trans e) f0 f1 f3 f4 f5;obtain⟨o,e,c,d⟩:=id st';exact⟨_,rfl,zys (s:={s with heap:=h',toks:=s.toks+1 }) e c d (by decide) ⟨.str ⟨#[x.cps[i]]⟩,H,I1,⟨_,rfl⟩,⟨rfl,_,by simp[hg],rfl⟩,st',λb hb=>(hf b hb).1⟩⟩
 done:=by
  intro X hP hw hK i U s Y H E hc I hf st hg;replace hc:=hc.elim id yN;subst hP hw hK;obtain⟨f0,f1,f2,f3,f4,f5⟩:=hf it (by simp);have hg:x.cps.size<=i:=hg;exact wpAny_pyNext_ascii_end (I.ok.hd hc) st (by simp;omega) λh' eb=>⟨rfl,I.turned (t':=s.toks) (λb o hb e=>eb b o hb e) f0 f1 f3 f4 f5⟩
 self:=λ_ _ _ _ _ st h=>wpAny_pyIter_striter_ascii st h
def zjB(tl:TE):TI:=λY H R=>tl Y H λv H1=>∃x:yj,v=.str x/\x.cps.all (· < 128)=true/\R (Its x) H1
def zgA{tg l:yB}{tl:TE}(hl:PE X l tl):PI X tg l (zjB tl):=by
 intro U s Y H R I h;refine thn (hl U s Y H _ I h) λv s1 ⟨x,H1,I1,r1,q1⟩=>?_;obtain⟨z,e,ha,q⟩:=q1;subst e;obtain⟨t,rfl⟩:=r1;refine wpAny_pyIter_ascii ha ?_;refine⟨s1.heap.objs.size,[s1.heap.objs.size],_,_,H1,rfl,I1.kept (t':=s1.toks) λb o e=>ye _ e,zdw _ z t,⟨_,yr _ rfl,rfl,rfl⟩,λb hb=>?_,q⟩;have e:b=s1.heap.objs.size:=by simpa using hb
 subst e;exact I1.Sb (yo _) (I1.hok.fresh (yo _))
def ztk(x:yj):Wm:=x.cps.toList.map λc =>.str ⟨#[c]⟩
@[simp] def z8A(G:FE):FI:=λJ O=>(G J O).bind λp=>match p.1 with
 |.str x=>bif x.cps.all (· < 128) then some (ztk x,yes,p.2) else none
 |_=>none
def z6z{tg a:yB}(h:ME X a G):MI X tg a (z8A G) :=
 zns (zgA h) λZ J O Y H ds ok O' R A e k=>by
  obtain⟨⟨x,O1⟩,e1,e⟩:=zh e;refine⟨Z,J,O,x,O1,A,e1,λZ1 H1 v1 x1 R1 r1=>?_⟩;dsimp only at e
  split at e
  ·rename_i z
   obtain⟨h1,e⟩:=zJ e;cases e;refine⟨z,r1.str_inv,h1,k Z1 H1 _ x1 R1 ⟨λZ' H' O' i _ _ _ h=>by show i<z.cps.size;simpa[ztk] using h,λZ' H' O' i x H'' d _ RR _ e ⟨y1,c,y2,y3⟩=>⟨y1▸Ext.refl,y1▸RR,?_⟩,λZ' H' O' _ _ _=>by simp[Its,ztk]⟩⟩;rw[y3];unfold ztk at e;rw[yk,Array.getElem?_toList,y2]at e;cases e;exact .str
  ·cases e
end
end M
namespace M
open PySem PySem.Spec PySem.Builtin PySem.Builtin.Str PyProof.Rows L2
section
variable {X:Cx}{a b e:yB}{es:Qz}{G ψ:FE}{pos:YZ}
def z7y{prog:yu}{w:yG}{A:yH}{E:yb->yd->Prop}{s:yd}{x y:yj}{t u:Tok}{Q:yb->yd->Prop}(hy:(y.length==0)=false)
 (h:∀ta tb tc k,Q (.ref s.heap.objs.size) {s with heap:=s.heap.push {cls:=.type "tuple",data:=.seq [.str (Ye x y).1 ta,.str (Ye x y).2.1 tb,.str (Ye x y).2.2 tc].toArray },toks:=k }) (hsz:x.length<=yD) :
 yp (yx prog w) A (call (.builtin "str.partition") [.str x t,.str y u]) Q E s:=by
 refine xU F.slot_str_partition (typeIs_str _ _ _) F.entry_str_partition (F.args_str_partition_2 _ _) (meets_str_partition x y t u hy hsz) ?_;have h':=h;unfold Ye at h';revert h'
 cases occurrences x y 0 x.length 1 with
 |nil=>intro h';exact h' _ _ _ _
 |cons i r=>intro h';exact h' _ _ _ _
@[simp] def zSr:GM:=λx ds O=>match x,ds with
 |.str z,[.str y]=>bif decide (z.length<=1000000/\1<=y.length) then some (.tup [.str (Ye z y).1,.str (Ye z y).2.1,.str (Ye z y).2.2],O) else none
 |_,_=>none
def zbw:MtG X "str.partition" zSr:=by
 refine MtG.of λU s Y H x xs v us Q I rx rs Z dx ds O d O' r1 r2 R e k=>?_;unfold zSr at e
 split at e
 ·rename_i z y
  obtain⟨h1,e⟩:=zJ e;obtain⟨h1,h2⟩:=of_decide_eq_true h1;cases e;have ev:=r1.str_inv;subst ev;obtain⟨t,rfl⟩:=rx;obtain⟨w,r,rfl,q1,q2⟩:=r2.cons_inv;rw[q2.nil_inv,q1.str_inv]at rs;obtain⟨u,rfl,ru⟩:=vals1 rs;obtain⟨t',rfl⟩:=ru;have hmi:=Ts;refine z7y (by simp;omega) (λta tb tc k'=>?_) (by omega);have hf:H s.heap.objs.size=none:=I.hok.fresh (yo _);refine⟨.ref s.heap.objs.size,_,I.laid (t':=k') (o:=.tup [.str (Ye z y).1,.str (Ye z y).2.1,.str (Ye z y).2.2]) (λb u e=>ye _ e) (yo _) ⟨?_,_,?_,⟨_,yr _ rfl,rfl,_,rfl⟩⟩,rfl,?_⟩
  ·show 3<=yD;omega
  ·exact .cons ⟨_,rfl⟩ (.cons ⟨_,rfl⟩ (.cons ⟨_,rfl⟩ .nil))
  ·exact k Z _ _ (Ext.new hf) (R.Th hf) (.tup zx (.cons .str (.cons .str (.cons .str .nil))))
 ·cases e
def zPx{o:yB}{ψ:FA}{kD:YZ}(ho:ME X o G)(ha:MAn X (e::es) ψ)
 (kG:Yq o "partition" X.env (yV o X.env)=yV o X.env:=by rfl)
 (kH:((yW pos (yh (e::es) X.env)).all (λx=>!x.1)&&(xi pos (Yv [] X.env)).all (λx=>x.1.isSome)
  && decide ((e::es).length+([]:List YQ).length+(if([]:List YQ).isEmpty then 0 else 1)<30))=true:=by rfl)
 (kE:(kD.endLine==pos.line)=true:=by rfl) (hs:yh (e::es) X.env=(false,yV e X.env)::yh es X.env:=by rfl) (kF:(yW pos (yh es X.env)).any (·.1)=false:=by rfl) :
 ME X (.Call (.Attribute o "partition" kD) (e::es) [] pos) (z2c zSr G ψ):=zon PySem.F.slot_str_partition PySem.F.type_str_partition zbw ho ha kG kH kE hs kF
def zik{prog:yu}{w:yG}{A:yH}{E:yb->yd->Prop}{s:yd}{d:yg}{o:YH}{es:Array xt}{ep:Nat}{x:yj}{t:Tok}{i:Nat}{en:xt}{Q:Option yb->yd->Prop}(ho:s.heap.get? d=some o)(hd:o.data=.dict es ep)(hall:(es.all λe=>isExactStrKey e.key)=true)(hi:es.findIdx? (·.key.isStr x)=some i)(hv:es[i]?=some en)
 (h:Q (some en.val) {s with toks:=s.toks+1 }):yp (yx prog w) A (dictGet d (.str x t)) Q E s:=by
 have kI:(zCb prog w).is (.inr x) (.str x t)=true:=zGr (k:=.inr x) ⟨_,rfl⟩
 have hkey2:(zCb prog w).is (.inr x) en.key=true:=by
  obtain⟨kJ,hi,_⟩:=Array.findIdx?_eq_some_iff_getElem.mp hi;rw[Array.getElem?_eq_getElem kJ]at hv;cases hv;rw[(zCb prog w).strs _ _ _ _ kI];exact hi
 unfold dictGet
 try with_reducible refine Yl ?_
 refine ya ((zCb prog w).pyHash kI (ya ?_));unfold dictFind
 try with_reducible refine Yl ?_
 refine ya (wpAny_dictEntries (s:={s with toks:=s.toks+1 }) ho hd ?_);dsimp only;rw[hall,if_pos rfl];unfold foundByValue;rw[hi];dsimp only;rw[hv];dsimp only;refine ya (wpAny_dictEpoch ho hd (ya ((zCb prog w).eqBool (a:=.inr x) (b:=.inr x) hkey2 kI (ya (wpAny_dictEpoch ho hd ?_)))));show yp _ _ (if(ep != ep)=true then _ else _) _ E _;rw[if_neg (by simp),decide_eq_true rfl];refine ya (wpAny_rule (yi ?_));exact ya (wpAny_dictEntries (s:={s with toks:=s.toks+1 }) ho hd (yi (by rw[hv];exact h)))
end
end M
namespace M
open PySem PySem.Spec PySem.Builtin PySem.Builtin.Str PyProof.Rows L2
def getItem_str{prog:yu}{w:yG}{A:yH}{E:yb->yd->Prop}{s:yd}{d:yg}{o:YH}{es:Array xt}{ep:Nat}{x:yj}{t:Tok}{i:Nat}{en:xt}{Q:yb->yd->Prop}(ho:s.heap.get? d=some o)(hc:o.cls=.type "dict")(hd:o.data=.dict es ep)(hall:(es.all λe=>isExactStrKey e.key)=true)(hi:es.findIdx? (·.key.isStr x)=some i)(hv:es[i]?=some en)
 (h:Q en.val {s with toks:=s.toks+1 }):yp (yx prog w) A (getItem (.ref d) (.str x t)) Q E s:=by
 have hT:s.TypeIs (.ref d) "dict":=⟨o,ho,hc⟩
 unfold getItem
 try with_reducible refine Yl ?_
 refine ya (wpAny_sequenceKey hT (by decide) ?_)
 refine ya (Yp (name:=YV "__getitem__") hT PySem.F.slot_dict_getitem
  (Yj PySem.F.slot_dict_getitem hT PySem.F.entry_dict_getitem ?_ (args_dict_getitem _ _)))
 show yp _ _ (dictGet d (.str x t) >>= _) _ _ s;refine ya (zik ho hd hall hi hv ?_);exact yi ⟨_,rfl,yi h⟩
def zrr(K:yt)(x:yj)(tb:List (yj×yj)):Prop:=∃(a:yg)(o:YH)(es:Array xt)(ep:Nat),yJ K yf x=some (some (.ref a))/\K.lookup a=some o/\o.cls=.type "dict"/\o.data=.dict es ep/\(es.all λe=>isExactStrKey e.key)=true /\
 ∀s c,tb.lookup s=some c->∃i en f,es.findIdx? (·.key.isStr s)=some i/\es[i]?=some en/\en.val=.ref f/\yJ K yf c=some (some (.ref f))
section
variable {X:Cx}{a b e:yB}{es:Qz}{G ψ:FE}{pos:YZ}
def zcz(n:yj)(tb:List (yj×yj)):φ2:=λx y O=>match x,y with
 |.own m,.str s=>bif m==n then(tb.lookup s).bind λc=>some (.own c,O) else none
 |_,_=>none
def ixAns{n:yj}{tb:List (yj×yj)}(T:zrr X.K n tb):IxR X (rM X.K (zcz n tb)):=by
 intro value slice U s Y H x y v u Q I rx ry ⟨Z,dx,dy,O,d,O',r1,r2,R,e,k⟩ hs;unfold zcz at e
 split at e
 ·rename_i m st
  obtain⟨h1,e5⟩:=zJ e;clear e;have h1:m=n:=by simpa using h1
  obtain⟨c,e2,e6⟩:=zh e5;clear e5;cases e6;subst h1;obtain⟨p,o,es,ep,hn,hl,hc,hd,hall,ht⟩:=T;obtain⟨i,en,f,hi,hv,hf,hcf⟩:=ht st c e2;obtain⟨p',rfl,hp⟩:=r1.sV
  have hpp:p'=p:=by
   rw[hn]at hp;cases hp;rfl
  subst hpp;cases rx;rw[r2.str_inv]at ry;obtain⟨t,rfl⟩:=ry;have ho:s.heap.get? p'=some o:=I.kIn _ _ hl;have hT:s.TypeIs (.ref p') "dict":=⟨o,ho,hc⟩
  unfold subscriptTail;refine ya ?_;rw[getitemInPython_of_ne hT.not_modules];refine ya (xn hT PySem.F.slot_dict_getitem.lookup ?_)
  have fin:yp (yx X.prog X.w) X.A (subscripted slice false (.ref p') (.str st t)) (λr s₃=>yp (yx X.prog X.w) X.A (letTemporaryGo value (.ref p') r >>= λ_=>pure r) (EP X U Y Q) X.xe s₃) X.xe s:=by
   rw[hs];refine wpAny_operating (getItem_str ho hc hd hall hi hv (ya (wpAny_letTemporaryGo (yi ⟨.ref f,H,I.tok _,?_,k Z H _ Ext.refl R (.own hcf)⟩))));rw[hf];rfl
  first
   |exact yi (ya fin)
   |exact ya (yi (ya fin))
   |exact ya fin
 ·cases e
def z3z{n:yj}{tb:List (yj×yj)}(T:zrr X.K n tb)(ha:ME X a G)(hb:ME X b ψ)(hs:zkk b:=by intro _ _;rfl):ME X (.Subscript a b pos) (zy (zcz n tb) G ψ) :=
 zdd (zYv (ixAns T) ha hb hs) λ_ _ _ _ _ _ _ _ A e k=>znp A e k
def zmA(i:Nat)(tb:List (yj×FF))(α:FA):FE:=λJ O=>match J[i]? with
 |some (some (.own c))=>(tb.lookup c).bind λF=>(α J O).bind λp=>F p.1 p.2
 |_=>none
def z9A(X:Cx)(k n:Nat)(tb:List (yj×FF)):Prop:=∀c F,tb.lookup c=some F->∃st ps f fd j,FnAt X.K X.mg c st ps f fd/\yJ X.K yf c=some (some (.ref f))/\j<=k/\tS X.prog X.w X.K X.mg X.base CX0 j f fd ps (spM X.K n F)
def dynNil{k n:Nat}:z9A X k n []:=λc F h=>by cases h
def sC{k n j:Nat}{c:yj}{F:FF}{st:yR}{ps:Qx}{f:yg}{fd:yP}{tb:List (yj×FF)}(B:FnAt X.K X.mg c st ps f fd)(h:∃f,yJ X.K yf c=some (some (.ref f))/\X.mg c=some (.ref f))(φ:tS X.prog X.w X.K X.mg X.base CX0 j f fd ps (spM X.K n F))(r:z9A X k n tb)(hj:j<=k:=by decide):z9A X k n ((c,F)::tb):=λc' F' e=>by
 rw[Lz]at e
 by_cases q:c'==c
 ·rw[q]at e;cases e;have q:=eq_of_beq q;subst q;obtain⟨f0,h1,h2⟩:=h;rw[B.at_]at h2;cases h2;exact⟨st,ps,f,fd,j,B,h1,hj,φ⟩
 ·rw[Bool.not_eq_true]at q;rw[q]at e;exact r c' F' e
def z0A{k i n:Nat}{y:yj}{p:YZ}{α:FA}{tb:List (yj×FF)}(hy:PE X (.Name y p) (zez i))(hT:z9A X k n tb)(hr:tN k X.A)
 (ha:MAn X (e::es) α) (hn:(e::es).length=n:=by rfl) (he:yh (e::es) X.env=(false,yV e X.env)::yh es X.env:=by exact zvc rfl) (kM:(yW pos (yh es X.env)).any (·.1)=false:=by rfl) :
 ME X (.Call (.Name y p) (e::es) [] pos) (zmA i tb α):=by
 intro U s Y H Q I hh;obtain⟨Z,J,O,d,O',A,e0,kk⟩:=hh;unfold zmA at e0
 split at e0
 ·rename_i c hc
  obtain⟨F,e1,e0⟩:=zh e0;obtain⟨⟨ds,O1⟩,e2,e0⟩:=zh e0;obtain⟨st,ps,f,fd,j,B,hcf,hj,φ⟩:=hT c F e1;obtain⟨v,hv,r⟩:=A.st i _ hc;obtain⟨f',rfl,hf'⟩:=r.sV
  have hff:f'=f:=by
   rw[hcf]at hf';cases hf';rfl
  subst hff;refine YL (thn (hy U s Y H (λw H'=>w=.ref f'/\H'=H) I ⟨_,hv,rfl,rfl⟩) λu s1 ⟨w,H1,I1,r1,hw⟩=>?_);obtain⟨rfl,rfl⟩:=hw;cases r1;refine W.callWith_K (h₀:=X.base) I1.ok.mod.kin B.fn.kp (thn (ha.ma pos U s1 Y _ (λvs H2=>spM X.K n F (vs++[]) H2 Q E0) I1 ⟨Z,J,O,ds,O1,A,e2,λZ1 H1 vs x1 R1 r1=>?_⟩) λus s2 ⟨vs,H2,I2,r,q⟩=>⟨I2.kIn,?_⟩) he kM
  ·show spM X.K n F (vs++[]) H1 Q E0;rw[Lg];exact⟨by rw[<-r1.length,ha.len _ _ _ _ e2];exact hn,Z1,ds,O1,d,O',r1,R1,e0,λZ2 H2 v x2 R2 r2=>kk Z2 H2 v (x1.trans x2) R2 r2⟩
  ·exact z6q φ (hr.mono hj) B.bd .nil Se I2 r q
 ·cases e0
end
end M
namespace M
open PySem PySem.Spec PySem.Builtin PySem.Builtin.Str PyProof.Rows L2
section
variable {X:Cx}
variable {prog:yu}{w:yG}{A:yH}{E:yb->yd->Prop}{s:yd}{l:yg}
end
end M
namespace M
open PySem PySem.Spec PyProof.Rows L2
section
variable {X:Cx}{o e:yB}{es:Qz}{G:FE}{ψ:FA}{pos kD:YZ}{c m qual:yj}{C g:yg}{fd:yP}{ps:Qx}{st:yR}{j k n:Nat}{FXm:FX}
end
abbrev OkM(P:yu)(w:yG)(K:yt)(mg:yj->Option yb)(base:yU)(j:Nat)(f:yg)(fd:yP)(ps:Qx)(n:Nat)(F:FF):Prop:=tS P w K mg base CX0 j f fd ps (spM K n F)
abbrev OkX(P:yu)(w:yG)(K:yt)(mg:yj->Option yb)(base:yU)(j:Nat)(f:yg)(fd:yP)(ps:Qx)(n:Nat)(F:FX):Prop:=tS P w K mg base (CXq P w) j f fd ps (spX K n F)
section
variable {P:yu}{w:yG}{K:yt}{mg:yj->Option yb}{base:yU}{x qual:yj}{st:yR}{f:yg}{fd:yP}{N ps:Qx}{k n:Nat}
def tK(φ:Fun K x qual st f fd)(S:tj N ps (zo st))(p:FS)(h:∀{cdv:yb} {A:yH} {outer:Qp} {s:yd} {H:Hp} {E:XK} (hr:tN k (A.deeper (Xl qual (zo st) s.heap.objs.size f cdv))),(A.deeper (Xl qual (zo st) s.heap.objs.size f cdv)).units+64<cLine ->
 MSs (zfv CX0 P w K mg base N qual (zo st) f cdv A outer s H E).nox (z9b st) p) (hn:ps.length=n:=by rfl):tS P w K mg base CX0 (k+1) f fd ps (spM K n λds O=>zvb (p (zG N ds) O)) :=
 fnM φ S hn λcdv A outer s H E hr=>⟨p,h hr hr.units,λ_ _ _ _ _ e=>e⟩
def fnYi(φ:Fun K x qual st f fd)(S:tj N ps (zo st))(p:FS)(h:∀{cdv:yb} {A:yH} {outer:Qp} {s:yd} {H:Hp} {E:XK} (hr:tN k (A.deeper (Xl qual (zo st) s.heap.objs.size f cdv))),(A.deeper (Xl qual (zo st) s.heap.objs.size f cdv)).units+64<cLine ->
 MSs (zfv (CXq P w) P w K mg base N qual (zo st) f cdv A outer s H E) (z9b st) p) (hn:ps.length=n:=by rfl):tS P w K mg base (CXq P w) (k+1) f fd ps (spX K n λds O=>zaz (p (zG N ds) O)) :=
 fnX φ S hn λcdv A outer s H E hr=>⟨p,h hr hr.units,λ_ _ _ _ e=>e⟩
def Tp{X:Cx}{pos:YZ}{G:FE}{scope:xG}{elt tg iter:yB}{ifs:Qz}{i:FI}{g:FG}{ct:FT}(own:Qx)(fr:Qf)(hi:MI X tg iter i)
 (hg:∀{cl C s₀ H₀ fp},MGc (cxC X own fr scope cl C s₀ H₀ fp) own.length tg g) (hq:∀{cl C s₀ H₀ fp},MF (cxC X own fr scope cl C s₀ H₀ fp) ifs ct) (he:∀{cl C s₀ H₀ fp},ME (cxC X own fr scope cl C s₀ H₀ fp) elt G)
 (kR:∀i∈fr,∃x,X.N[i]?=some x/\scope.names.lookup x=some .free) (hok:zLs X.env.scope scope=true:=by rfl) (hc:X.calm=true:=by rfl) (hs:∀x,Yu iter X.env x=pure x:=by intro _;rfl) :
 ME X (.ListComp elt [⟨tg,iter,ifs,0⟩] scope pos) (fLC own.length fr i g ct G) :=
 mlc own fr hi (λ_ _ _ _ _=>hg) (λ_ _ _ _ _=>hq) (λ_ _ _ _ _=>he) kR hok hc hs
def mslcI{X:Cx}{pos:YZ}{G:FE}{scope:xG}{elt tg iter:yB}{ifs:Qz}{spos py:YZ}{y:yj}{fi:FI}{g:FG}{ct:FT}(i:Nat)(own:Qx)(fr:Qf)(hi:MI X tg iter fi)
 (hg:∀{cl C s₀ H₀ fp},MGc (cxC X own fr scope cl C s₀ H₀ fp) own.length tg g) (hq:∀{cl C s₀ H₀ fp},MF (cxC X own fr scope cl C s₀ H₀ fp) ifs ct) (he:∀{cl C s₀ H₀ fp},ME (cxC X own fr scope cl C s₀ H₀ fp) elt G)
 (kR:∀i∈fr,∃x,X.N[i]?=some x/\scope.names.lookup x=some .free) (hN:X.N.Nodup) (hiN:X.N[i]?=some y:=by rfl) (hy:X.env.scope.names.lookup y=some .local:=by rfl)
 (hsw:xD (.ListComp elt [⟨tg,iter,ifs,0⟩] scope pos) (some (.Name y py)) spos.line X.env=pure true:=by rfl) (hok:zLs X.env.scope scope=true:=by rfl) (hc:X.calm=true:=by rfl) (hs:∀x,Yu iter X.env x=pure x:=by intro _;rfl) :
 MS X (.Assign [.Name y py] (.ListComp elt [⟨tg,iter,ifs,0⟩] scope pos) spos) (z6c i (fLC own.length fr fi g ct G)) :=
 mslc i own fr hi (λ_ _ _ _ _=>hg) (λ_ _ _ _ _=>hq) (λ_ _ _ _ _=>he) kR hN hiN hy hsw hok hc hs
end
end M
namespace M
open PySem PySem.Spec PySem.Builtin PyProof.Rows L2
def zBr{prog:yu}{w:yG}{d:yg}{x:yj}{t:Tok}:MeetsIn prog w (YN.«dict.get» ⟨[.ref d,.str x t],[]⟩) (λ_ R s=>∃o es ep i en,s.heap.get? d=some o/\o.data=.dict es ep/\(es.all λe=>isExactStrKey e.key)=true/\es.findIdx? (·.key.isStr x)=some i/\es[i]?=some en/\R (.ok (.ret en.val)) {s with toks:=s.toks+1 }) :=
 .of_wp λA R s ⟨o,es,ep,i,en,ho,hd,hall,hi,hv,h⟩=>by
  show yp _ _ (dictGet d (.str x t) >>= _) _ _ s;exact ya (zik ho hd hall hi hv (yi ⟨_,rfl,h⟩))
def zeq(K:yt)(x:yj)(tb:List (yj×Int)):Prop:=∃(a:yg)(o:YH)(es:Array xt)(ep:Nat),yJ K yf x=some (some (.ref a))/\K.lookup a=some o/\o.cls=.type "dict"/\o.dict=none/\o.data=.dict es ep/\(es.all λe=>isExactStrKey e.key)=true /\
 ∀s c,tb.lookup s=some c->∃i en t,es.findIdx? (·.key.isStr s)=some i/\es[i]?=some en/\en.val=.int c t
section
variable {X:Cx}{o e:yB}{es:Qz}{to:TE}{t:TA}{G:FE}{ψ:FA}{pos kD:YZ}{n:yj}{tb:List (yj×Int)}
def zJC(K:yt)(n:yj)(tb:List (yj×Int))(to:TE)(t:TA):TE:=λY H Q=>to Y H λx H1=>(∃p,x=.ref p/\yJ K yf n=some (some (.ref p)))/\t Y H1 λxs H2=>∃s i,xs=[.str s]/\tb.lookup s=some i/\Q (.int i) H2
def zYA(T:zeq X.K n tb)(ho:PE X o to)(ha:PA X (e::es) t)
 (kG:Yq o "get" X.env (yV o X.env)=yV o X.env:=by rfl)
 (kH:((yW pos (yh (e::es) X.env)).all (λx=>!x.1)&&(xi pos (Yv [] X.env)).all (λx=>x.1.isSome)
  && decide ((e::es).length+([]:List YQ).length+(if([]:List YQ).isEmpty then 0 else 1)<30))=true:=by rfl)
 (kE:(kD.endLine==pos.line)=true:=by rfl) (hs:yh (e::es) X.env=(false,yV e X.env)::yh es X.env:=by rfl) (kF:(yW pos (yh es X.env)).any (·.1)=false:=by rfl) :
 PE X (.Call (.Attribute o "get" kD) (e::es) [] pos) (zJC X.K n tb to t):=by
 intro U s Y H Q I h;obtain⟨a,ob,en,ep,hn,hl,hc,hdd,hd,hall,htb⟩:=T;refine wpAny_Call_method_late kG kH kE rfl (thn (ho U s Y H _ I h) λv s1 ⟨x,H1,I1,r1,⟨p,hx,hp⟩,q1⟩=>?_);subst hx;rw[hn]at hp;cases hp;cases r1;have h1:s1.heap.get? a=some ob:=I1.kIn _ _ hl;refine⟨"dict","dict.get",PySem.F.plainAttrs_dict,PySem.F.slot_dict_get,PySem.F.type_dict_get,⟨ob,h1,hc⟩,λb eb=>by cases eb;exact⟨ob,h1,hdd⟩,?_⟩;have hA:=ha pos U s1 Y H1 _ I1 q1;rw[hs]at hA ⊢;refine Calls.callWith_builtin (by show(false||(yW pos (yh es X.env)).any (·.1))=false;rw[kF]<;>rfl) (Xn ?_);refine thn hA λus s2 ⟨vs,H2,I2,r2,st,i,e2,gD,q2⟩=>?_;subst e2;obtain⟨u,rfl,tk,rfl⟩:=vals1 r2;have h2:s2.heap.get? a=some ob:=I2.kIn _ _ hl;obtain⟨j,em,tv,g1,g2,g3⟩:=htb st i gD;refine call_meetsIn PySem.F.slot_dict_get ⟨ob,h2,hc⟩ PySem.F.entry_dict_get (PySem.F.args_dict_get_2 _ _) zBr ⟨ob,en,ep,j,em,h2,hd,hall,g1,g2,?_⟩;exact⟨.int i,H2,I2.tok _,⟨tv,g3⟩,q2⟩
def zdB(n:yj)(tb:List (yj×Int))(G:FE)(ψ:FA):FE:=λJ O=>(G J O).bind λp=>match p.1 with
 |.own m=>bif m==n then(ψ J p.2).bind λq=>match q.1 with
  |[.str s]=>(tb.lookup s).bind λi=>some (.int i,q.2)
  |_=>none else none
 |_=>none
def zZz(T:zeq X.K n tb)(ho:ME X o G)(ha:MAn X (e::es) ψ)
 (kG:Yq o "get" X.env (yV o X.env)=yV o X.env:=by rfl)
 (kH:((yW pos (yh (e::es) X.env)).all (λx=>!x.1)&&(xi pos (Yv [] X.env)).all (λx=>x.1.isSome)
  && decide ((e::es).length+([]:List YQ).length+(if([]:List YQ).isEmpty then 0 else 1)<30))=true:=by rfl)
 (kE:(kD.endLine==pos.line)=true:=by rfl) (hs:yh (e::es) X.env=(false,yV e X.env)::yh es X.env:=by rfl) (kF:(yW pos (yh es X.env)).any (·.1)=false:=by rfl) :
 ME X (.Call (.Attribute o "get" kD) (e::es) [] pos) (zdB n tb G ψ) :=
 zdd (zYA T ho ha.ma kG kH kE hs kF) λZ J O Y H d O' Q A e k=>by
  obtain⟨⟨x,O1⟩,e1,e⟩:=zh e;refine⟨Z,J,O,x,O1,A,e1,λZ1 H1 v x1 R1 r1=>?_⟩;dsimp only at e
  split at e
  ·rename_i m
   obtain⟨hm,e5⟩:=zJ e;clear e;have hm:m=n:=by simpa using hm
   subst hm;obtain⟨⟨ds,O2⟩,e2,e⟩:=zh e5;obtain⟨p,rfl,hp⟩:=r1.sV;refine⟨⟨p,rfl,hp⟩,Z1,J,O1,ds,O2,A.ext x1 R1,e2,λZ2 H2 vs2 x2 R2 r2=>?_⟩;dsimp only at e
   split at e
   ·rename_i st
    obtain⟨i,e3,e⟩:=zh e;cases e;obtain⟨w,r,rfl,q3,q4⟩:=r2.cons_inv;rw[q4.nil_inv,q3.str_inv];exact⟨st,i,rfl,e3,k Z2 H2 _ (x1.trans x2) R2 .int⟩
   ·cases e
  ·cases e
end
end M
namespace M
open PySem PySem.Spec PyProof.Rows L2
section
variable {X:Cx}{scope:xG}
def zcC(A:yH)(n:Nat)(fr:Qf)(wi:TI)(g:TG)(tc:TT)(te:TE):TE:=λY H Q=>wi Y H λδ H1=>∃W:Nat->Nat->Wi->Hp->Prop,(∃m,W 0 m [] H1)/\∀i m ys H,W i m ys H->δ.q A H /\
 ((δ.stop i H/\∀p,H p=none->Q (.ref p) (upd H p (.lst ys))) \/
 (δ.go i H/\ys.length<yD/\∀x H',δ.yld i H x H'->g x (σC n fr Y) H' λY2 H2=>zXv (σC n fr Y) Y2/\tc Y2 H2 λb H3=>
  if b=true then te Y2 H3 λy H4=>∃m',m'<m/\W (i+1) m' (ys++[y]) H4 else ∃m',m'<m/\W (i+1) m' ys H3))
def zvA{elt tg iter:yB}{ifs:Qz}{pos:YZ}{wi:TI}{g:TG}{tc:TT}{te:TE}(own:Qx)(hi:PI X tg iter wi)
 (hg:∀{cl C s₀ H₀ fp},PG (cxC X own [] scope cl C s₀ H₀ fp) tg g) (hq:∀{cl C s₀ H₀ fp},PF (cxC X own [] scope cl C s₀ H₀ fp) ifs tc) (he:∀{cl C s₀ H₀ fp},PE (cxC X own [] scope cl C s₀ H₀ fp) elt te)
 (hok:zLs X.env.scope scope=true:=by rfl) (hs:∀x,Yu iter X.env x=pure x:=by intro _;rfl):PE X (.ListComp elt [⟨tg,iter,ifs,0⟩] scope pos) (zcC X.A own.length [] wi g tc te):=by
 intro U s Y H Q I h;rw[eval_ListComp];have hclos:closureFor scope X.env=pure (zUb X.env.cells scope.names []):=zZi λx hx e=>I.ok.has x.1 (zsi hok x hx e);refine wpAny_comprehension_free (use:=none) rfl hs hclos (zYh hok) (λx hx e=>by rw[zGm hok x hx,e]) ?_;show yp _ _ (yV iter X.env) _ _ s;refine thn (hi U s Y H _ I h) λv s1 h1=>thn h1 λitv s2 h2=>?_;obtain⟨it,fp,tn,δ,H',e,I',T,t0,f,W,w0,wt⟩:=h2;refine zFp (RR:=λkB C=>compPost (yx X.prog X.w) X.A X.xe none (EP X U Y Q) kB C) own [] (λ_ _ _ _ _=>hg) (λ_ _ _ _ _=>hq) (λ_ _ _ _ _=>he) (zYh hok) (zGm hok) (zsi hok) (by simp) ⟨it,fp,tn,δ,H',e,I',T,t0,f,W,w0,λi m ys H z=>⟨.inr (wt i m ys H z).1,(wt i m ys H z).2⟩⟩ λys H3 D C s4 q w=>?_;obtain⟨m,hn⟩:=w.own;exact⟨m,hn,λh' sb=>⟨.ref D,_,w.gone sb,rfl,q D w.free⟩⟩
end
def zeh(z:yj)(ns:Qg):yj:=YX z (ns.map λi=>(toString i:yj))
def zyh(z:yj)(ns:Qg):Bool:=decide (((ns.map λi=>(toString i:yj)).map (·.length)).sum+ns.length*z.length<=1000000)
def z6A:V->Wi->Hp->VK->Prop:=λx xs H Q=>∃z a ys,x=.str z/\xs=[.ref a]/\H a=some (.lst (ys.map V.str))/\(ys.map (·.length)).sum+ys.length*z.length<=1000000/\Q (.str (YX z ys)) H
def zev{X:Cx}:MtR X "str.join" z6A:=by
 intro U s Y H x xs v us Q I rx rs ⟨z,a,ys,hx,hxs,e3,h1,hq⟩;subst hx hxs;obtain⟨t,rfl⟩:=rx;obtain⟨u,rfl,ru⟩:=vals1 rs;cases ru;obtain⟨hW,rv,pl,hz⟩:=I.list (SqL.of (K:=X.K) e3);exact join_list pl.isList (z7i (by simpa using rv)) (yA h1 (by decide)) λt' k'=>⟨.str _,H,I.tok _,⟨t',rfl⟩,hq⟩
def zRC:Wi->Hp->VK->Prop:=λxs H Q=>∃i,xs=[.int i]/\i.natAbs.log2<1920/\Q (.str (toString i)) H
def z9w(K:yt)(A:yH)(z:yj):TS:=zpC (tBM K "str" z6A (tC (.str z)) (zFy (zcC A 1 [] (L2.sL K (zez 0)) (zew 0) (λ_ H Q=>Q true H) (tCB zRC (zFy (zez 0) z7A))) z7A))
def zxw{K:yt}{A:yH}{z:yj}{D:Ends}{Y:L2.St}{H:Hp}{l:yg}{ns:Qg}(h0:Y[0]?=some (some (.ref l)))(hl:H l=some (.lst (ns.map V.int)))(hA:zuq A H)(hs:zTd ns)(hw:zyh z ns=true)
 (hq:∀p ys,H p=none->D.rt (.str (zeh z ns)) (upd H p ys)):z9w K A z D Y H:=by
 have sq:SqL K H l (ns.map V.int):=SqL.of hl;refine⟨rfl,.ref l,h0,l,rfl,⟨_,sq⟩,λi m ys H'=>H'=H/\m=ns.length-i/\i<=ns.length/\ys=((ns.take i).map λn=>(toString n:yj)).map V.str,⟨ns.length,rfl,rfl,Ys _,by simp⟩,?_⟩;rintro i m ys H' ⟨rfl,rfl,hi,rfl⟩;refine⟨hA,?_⟩
 by_cases kJ:i<ns.length
 ·refine .inr ⟨⟨_,V.int ns[i],sq,by simp[kJ]⟩,TY (by have:=hs.1;simp;omega),?_⟩;rintro x H' ⟨rfl,hx⟩;have hx:=hx _ sq;obtain rfl:x=V.int ns[i]:=by simpa[kJ] using hx.symm
  have hb:ns[i].natAbs.log2<1920:=by
   have h2:=hs.2 _ (Lp kJ)
   by_cases h3:ns[i].natAbs=0
   ·rw[h3];decide
   ·exact(Nat.log2_lt h3).mpr (yv h2 (by decide))
  exact⟨⟨by simp[σC],λj v e=>by
   unfold σC at e;simp at e;obtain⟨_,e⟩:=List.getElem?_eq_some_iff.mp e;simp at e⟩,.int ns[i],by simp[σC],ns[i],rfl,hb,ns.length-(i+1),by omega,rfl,rfl,by omega,by rw[List.take_add_one,yE kJ,Nc,Nc];rfl⟩
 ·refine .inl ⟨⟨_,sq,by simp;omega⟩,λp hp=>?_⟩;have hi2:i=ns.length:=by omega
  subst hi2;exact⟨z,p,_,rfl,rfl,by rw[zx,Ny],by have:=of_decide_eq_true hw;simpa using this,hq p _ hp⟩
def z3l(P:yu)(w:yG)(K:yt)(mg:yj->Option yb)(base:yU)(f:yg)(fd:yP)(ps:Qx)(z:yj):Prop:=∀(A:yH)(outer:Qp)(s:yd)(H:Hp)(args:Args)(us:List yb)(l:yg)(ns:Qg)(Q:VK),
 A.depth<recursionLimit->sT P w K mg base A outer s H->BindsTo s fd args (ps.zip us)->Vals [.ref l] us->zuq A H->H l=some (.lst (ns.map V.int))->zTd ns->zyh z ns=true->(∀p ys,H p=none->Q (.str (zeh z ns)) (upd H p ys)) ->
  Xf (yx P w) A (.call (.ref f) args) (CR CX0 outer P w H s Q E0) s
def showOk{P:yu}{w:yG}{K:yt}{mg:yj->Option yb}{base:yU}{x z:yj}{st:yR}{f:yg}{fd:yP}{N ps:Qx}(φ:Fun K x x st f fd)(S:tj N ps (zo st))(hn:ps.length=1)
 (h:∀{cdv:yb} {A:yH} {outer:Qp} {s:yd} {H:Hp},PSs (cxB false CX0 P w K mg base N x (zo st) f cdv A outer s H E0) (z9b st) (z9w K (A.deeper (Xl x (zo st) s.heap.objs.size f cdv)) z)):z3l P w K mg base f fd ps z:=by
 intro A outer s H args us l ns Q hd e0 hb r hA hl hs hw hq;obtain⟨oc,od,kV,doc,pm,an,cdv,ct,osl,rfl,lk,hcd⟩:=φ.ex;exact zVw lk hcd S (by rw[hn];rfl) hd (λz=>by cases z) e0 hb r h (zxw rfl hl hA hs hw hq)
def zqz(A:yH)(z:yj)(ta:TA):TE:=λY H Q=>ta Y H λvs H1=>∃l ns,vs=[.ref l]/\zuq A H1/\H1 l=some (.lst (ns.map V.int))/\zTd ns/\zyh z ns=true/\∀p ys,H1 p=none->Q (.str (zeh z ns)) (upd H1 p ys)
section
variable {X:Cx}{st:yR}{g:yg}{fd:yP}{ps:Qx}{x z:yj}{e:yB}{p pos:YZ}{ta:TA}
def zQy(B:FnAt X.K X.mg x st ps g fd)(φ:z3l X.prog X.w X.K X.mg X.base g fd ps z)(hn:ps.length=1)(hd:X.A.depth<recursionLimit)(ha:PA X [e] ta)(hg:Gl X x)(hdb:(x==("__debug__":yj))=false)(he:yh [e] X.env=(false,yV e X.env)::yh [] X.env) :
 PE X (.Call (.Name x p) [e] [] pos) (zqz X.A z ta):=by
 intro U s Y H Q I h;refine YL (zpf I hg B.at_ ?_ hdb);refine W.callWith_K (h₀:=X.base) I.ok.mod.kin B.fn.kp (thn (ha pos U s Y H _ I h) λus s1 ⟨vs,H1,I1,r,l,ns,hv,hA,hl,hs,hw,q⟩=>⟨I1.kIn,?_⟩) he rfl;subst hv;have hb:=B.bd s1 us I1.kIn (by rw[Lg,<-r.length,hn];rfl);rw[Lg]at hb;refine wpAny_call (YW (φ X.A X.stack s1 H1 ⟨us,[]⟩ us l ns Q hd I1.SE hb r hA hl hs hw q) λrr s' hq=>?_)
 cases rr with
 |error e=>exact yN hq
 |ok fl=>
  cases fl with
  |ret u=>exact I1.after hq
  |next=>exact yN hq
  |brk=>exact yN hq
  |cont=>exact yN hq
end
@[simp] def zqu(i:Nat)(y z c f:yj):FS:=λJ O=>(fAt c f (zp i) J O).bind λp=>match p.1 with
 |.loc m=>match p.2[m]? with
  |some (.lst ds)=>(zzk ds).bind λns=>bif decide (zTd ns)&&(zyh z ns&&decide (y.length+(zeh z ns).length<=1000000)) then some (.ret (.str (y++zeh z ns)) p.2) else none
  |_=>none
 |_=>none
def zdu{i:Nat}{y z c f:yj}{J:Loc}{O:Mem}{o:Out}(h:zqu i y z c f J O=some o):∃m ns O1,fAt c f (zp i) J O=some (.loc m,O1)/\O1[m]?=some (.lst (ns.map D.int))/\zTd ns/\zyh z ns=true/\y.length+(zeh z ns).length<=1000000/\o=.ret (.str (y++zeh z ns)) O1:=by
 obtain⟨⟨d,O1⟩,e1,h⟩:=zh (show(fAt c f (zp i) J O).bind _=_ from h);dsimp only at h
 split at h
 ·split at h
  ·rename_i m _ _ hm
   obtain⟨ns,e2,h⟩:=zh h;obtain⟨h1,h⟩:=zJ h;cases h;simp only[yM,decide_eq_true_eq]at h1;exact⟨m,ns,O1,e1,by rw[<-zAi e2];exact hm,h1.1,h1.2.1,h1.2.2,rfl⟩
  ·cases h
 ·cases h
def z3n{K:yt}{Z:Qv}{H:Hp}:∀{ns:Qg} {vs:Wi},tf K Z H (ns.map D.int) vs->vs=ns.map V.int
 |[],vs,r=>r.nil_inv
 |i::ns,vs,r=>by
  obtain⟨v,q,rfl,h1,h2⟩:=r.cons_inv;rw[h1.int_inv,z3n h2];rfl
def zpq{X:Cx}{a:yg}{st:yR}{g:yg}{fd:yP}{ps:Qx}{x z c f y n:yj}{k:Nat}{j}{p1 p2 p3 p4 p5 p6 p7:YZ}(i:Nat)(B:FnAt X.K X.mg x st ps g fd)(φ:z3l X.prog X.w X.K X.mg X.base g fd ps z)(hr:tN k X.A)(ρ:AtC X.K c f)(hn:ps.length=1:=by rfl)
 (hN:X.N[i]?=some n:=by rfl) (hv:Vis X.env.scope n:=by first|exact Or.inl rfl|exact Or.inr (Or.inl rfl)|exact Or.inr (Or.inr rfl)) (hd1:(n==("__debug__":yj))=false:=by decide) (hcd:(n==("__classdict__":yj))=false:=by decide)
 (hg:Gl X x:=by rfl) (hdb:(x==("__debug__":yj))=false:=by decide) (hb:Yq (.Name n p3) f X.env (yV (.Name n p3) X.env)=yV (.Name n p3) X.env:=by rfl)
 (he:yh [.Attribute (.Name n p3) f p4] X.env=(false,yV (.Attribute (.Name n p3) f p4) X.env)::yh [] X.env:=by exact zvc rfl) :
 zeC (X.suite (.ref a)) a i [.Return (some (.BinOp (.Constant (.str y) j p1) .Add (.Call (.Name x p2) [.Attribute (.Name n p3) f p4] [] p5) p6)) p7] (zqu i y z c f):=by
 intro U s Y H D I ⟨Z,J,O,o,n0,C,dx,A,hi,hρ,hH,e,kk⟩;obtain⟨m,ns,O1,e1,hm,hs,hw,hb2,rfl⟩:=zdu e;obtain⟨n1,fs,e2,hx,hf⟩:=zZs e1
 obtain⟨rfl,rfl⟩:n1=n0/\O1=O:=by
  unfold zp at e2;rw[hi]at e2;simp at e2;exact⟨e2.1.symm,e2.2.symm⟩
 refine zen (zTu (zrA z6l zzu (zQy (X:=X.suite (.ref a)) (z:=z) (ta:=tMA X.K (zi (fAt c f (zp i)) zC)) B φ hn hr.depth (zb (zpB (X:=X.suite (.ref a)) ρ (mv i hN hv hd1 hcd) hb) zd).ma hg hdb he))) U s Y H D I ?_;refine⟨Z,J,O1,[.loc m],O1,A,by unfold zi;rw[e1];rfl,λZ' H' vs x' R' r'=>?_⟩;obtain⟨v,q,rfl,q1,q2⟩:=r'.cons_inv;rw[q2.nil_inv];obtain⟨l,rfl,el⟩:=q1.tx;obtain⟨ws,hl,rw1⟩:=R'.at_ _ _ _ el hm;obtain⟨C',dx',_,hH',_⟩:=R'.at_ _ _ _ (x'.get hρ) hx;refine⟨l,ns,rfl,⟨a,_,rfl,hH',λh ⟨o,vs,z1,_,_,z2,z3⟩=>⟨o,vs,z1,z2,z3⟩⟩,by rw[hl,z3n rw1],hs,hw,λp ys hp=>?_⟩;exact⟨y,_,rfl,rfl,yA hb2 (by decide),kk Z' _ _ (x'.trans (Ext.new hp)) (R'.Th hp) .str⟩
section
variable {prog:yu}{w:yG}{A:yH}{E:yb->yd->Prop}{s:yd}{a I l:yg}{ep:Nat}{t:SetTable}
def zDz(hO:SOb s.heap a #[] ep t){Q:Option (yb×Nat)->yd->Prop}(h:Q none s):yp (yx prog w) A (setNext a 0 0 ep) Q E s:=by
 obtain⟨oa,hoa,hca,kU,hfa⟩:=id hO
 cases hw:w.params.followText "set-order" with
 |true=>exact zIt hw hO h
 |false=>
  unfold setNext;refine ya (Xh hoa kU hfa ?_);dsimp only;refine ya (zDh ?_);rw[hw,if_neg yF];refine xb (λhab=>?_) λ_=>?_
  ·have hab:(!t.plain&&decide ((#[]:Array (Int×yb)).size>1))=true:=hab;simp at hab
  ·refine ya ?_
   have led:yp (yx prog w) A (if(!t.led && !(#[]:Array (Int×yb)).isEmpty)=true then unsupported "set:maker-not-led" else pure ()) (λ_ s'=>yp (yx prog w) A (pure none:Sem (Option (yb×Nat))) Q E s') E s:=by
    rw[if_neg (by simp)];exact yi (yi h)
   exact led
def zpA(hh:A.handled=none)(kN:a≠I):Walks prog w A I [I,a] [I] 0 (λ_ _=>False) (λ_ h=>SIt h I a (.int ((0:Nat):Int) 0) 0 0 ep/\SOb h a #[] ep t) where
 sub:=λb hb=>by simp at hb;simp[hb]
 frame:=λ_ _ _ st hk=>⟨st.1.at' λo e=>hk I (by simp) o e,st.2.at' λo e=>hk a (by simp) o e⟩
 item:=λi s Q E hi=>absurd hi (Nat.not_lt_zero _)
 done:=λs Q E st hQ=>zas (es:=#[]) hh st.1 st.2 (λQ' E' hq=>zDz st.2 hq) λh' x=>hQ h' s.toks λb o hb e=>x b o (λh=>hb (by simp[h])) e
 self:=λ_ _ _ _ st hQ=>zSx st.1 hQ
def zKA{Q:yb->yd->Prop}(hO:SOb s.heap a #[] ep t)(h:Q (.ref s.heap.objs.size) {s with heap:=s.heap.push {cls:=.type "set_iterator",data:=.fields #[YU 0,YU 0,.ref a,YU 0,YU ep]}}):yp (yx prog w) A (pyIter (.ref a)) Q E s:=by
 obtain⟨oa,hoa,hca,kU,hfa⟩:=id hO;have hTy:s.TypeIs (.ref a) "set":=⟨oa,hoa,hca⟩
 refine wpAny_pyIter_slot hTy F.slot_set_iter (Yj F.slot_set_iter hTy zco ?_ (F.args_set_iter_1 _));unfold YN.«frozenset.__iter__»;refine ya (m:=Builtin.Frozenset.slot0 "__iter__" ⟨[yI a],[]⟩) (yi ?_);unfold Builtin.Frozenset.sizeOf;refine ya (ya (wpAny_setEntries_of hoa kU hfa (yi ?_)));unfold setDrawn;refine ya (ya (Xh hoa kU hfa ?_));dsimp only;refine ya (zDh (yi ?_));refine xb (λhab=>?_) λ_=>?_
 ·have hab:(!w.params.followText "set-order" && (!t.plain&&decide ((#[]:Array (Int×yb)).size>1)))=true:=hab;simp at hab
 ·refine ya (yi ?_);refine ya ?_;unfold setEpoch;refine ya (Xh hoa kU hfa (yi ?_));unfold newFields;exact ya (yX (yi ⟨_,rfl,"set_iterator",_,⟨_,yr _ rfl,rfl⟩,Tt.lookup,h⟩))
def zot{Q:List yb->yd->Prop}(hh:A.handled=none)(hO:SOb s.heap a #[] ep t)(h:∀s',(∀b o,s.heap.get? b=some o->s'.heap.get? b=some o)->s'.os=s.os->s'.gens=s.gens->s.heap.objs.size<=s'.heap.objs.size->Q [] s'):yp (yx prog w) A (collect (.ref a)) Q E s:=by
 obtain⟨oa,hoa,hca,kU,hfa⟩:=id hO;have kJ:a<s.heap.objs.size:=yn hoa;unfold collect;refine ya (wpAny_runValue (xm F.entry_proto_collect ?_));rw[xk F.plain_proto_collect _];show yp _ A.in1 (newList [] >>= λl=>again (.builtin "list.__iadd__" ⟨[l,.ref a],[]⟩)) _ _ s;refine ya (yX ?_);refine yi ⟨plainId_quiet F.plain_list_iadd _,xm F.entry_list_iadd ?_⟩;rw[xk F.plain_list_iadd _];obtain⟨S,hSe⟩:∃S,S=s.heap.objs.size:=⟨_,rfl⟩
 have hL:(s.heap.push {cls:=.type "list",data:=.seq ([]:List yb).toArray }).get? S=some {cls:=.type "list",data:=.seq #[]}:=by rw[hSe];exact yr _ rfl
 have hk0:∀b o,s.heap.get? b=some o->(s.heap.push {cls:=.type "list",data:=.seq ([]:List yb).toArray }).get? b=some o:=λb o e=>ye _ e;have hz0:(s.heap.push {cls:=.type "list",data:=.seq ([]:List yb).toArray }).objs.size=S+1:=by rw[hSe,YG]
 show yp _ A.in1 (YA (.ref s.heap.objs.size) (.ref a) (.ref s.heap.objs.size)) _ _ _;rw[<-hSe];generalize s.heap.push {cls:=.type "list",data:=.seq ([]:List yb).toArray } = h0 at hL hk0 hz0 ⊢;have hO0:SOb h0 a #[] ep t:=hO.at' λo e=>hk0 _ o e;have hSa:S≠a:=by rw[hSe];exact Yo kJ
 have hTy:Shared.TypeIs {s with heap:=h0 } (.ref a) "set":=⟨oa,hk0 _ _ hoa,hca⟩
 unfold YA;refine ya (wpAny_typeOf hTy ?_);have g1:xN (.ref S) (.ref a)=false:=by simp[xN,hSa]
 have g2:(YR "set" == YR "list")=false:=by decide
 have g3:(YR "set" == YR "tuple")=false:=by decide
 simp only[g1,g2,g3,Bool.or_false,Bool.false_eq_true,if_false];refine ya (zKA (s:={s with heap:=h0 }) hO0 ?_);have hk1:∀b o,h0.get? b=some o->(h0.push {cls:=.type "set_iterator",data:=.fields #[YU 0,YU 0,.ref a,YU 0,YU ep]}).get? b=some o:=λb o e=>ye _ e;have st:SIt (h0.push {cls:=.type "set_iterator",data:=.fields #[YU 0,YU 0,.ref a,YU 0,YU ep]}) h0.objs.size a (.int ((0:Nat):Int) 0) 0 0 ep:=⟨_,yr _ rfl,rfl,by simp[YU]⟩
 generalize h0.push {cls:=.type "set_iterator",data:=.fields #[YU 0,YU 0,.ref a,YU 0,YU ep]} = h1 at hk1 st ⊢;rw[hz0]at st ⊢;have hL1:=hk1 _ _ hL;have hO1:SOb h1 a #[] ep t:=hO0.at' λo e=>hk1 _ o e;have haS:a<S:=by rw[hSe];exact kJ
 have hSf:S∉[S+1,a]:=by simp;omega
 refine ya (Yl (zMv ⟨oa,hk1 _ _ (hk0 _ _ hoa),hca⟩ ?_));have W:=zpA (prog:=prog) (w:=w) (A:=A.in1) (ep:=ep) (t:=t) hh (yC (xI haS))
 have fin:∀(h2:yU)(c:Nat),(∀b o,b≠S->h1.get? b=some o->h2.get? b=some o)->h2.get? S=some {cls:=.type "list",data:=.seq #[] c } ->
  Xf (yx prog w) A (.builtin "list.extend.loop" ⟨[.ref S,.ref (S+1),.ref S],[]⟩) (λr s'=>match r with
   |.ok (.ret v)=>yp (yx prog w) A (match v with
    |.ref b=>do
     let o <-load b
     match o.data with
     |.seq xs _=>pure xs.toList
     |_=>unsupported "internal:collect"
    |_=>unsupported "internal:collect") Q E s'
   |_=>False) {s with heap:=h2 }:=λh2 c hk2 hL2=>by
  refine codeAny_extend_loopS W.toS (Ys _) S hSf (.ref S) 0 0 _ #[] c rfl (Ys _) (W.frame 0 _ _ ⟨st,hO1⟩ λb hb o e=>hk2 b o (λq=>hSf (q▸hb)) e) hL2 (ItemsOf.nil _) λs' kB c' hm hS' hacc=>?_;refine ya (wpAny_load hS' (yi ?_));have e0:kB.toList=[]:=List.length_eq_zero_iff.mp (by simpa using hacc.1);rw[e0];refine h s' (λb o e=>?_) hm.os hm.gens (by rw[<-hSe];exact YI (yn hS'));have hb:b<S:=by rw[hSe];exact yn e
  exact hm.heap b o (by simp only[Nk,Nu,or_false,not_or];exact⟨yC hb,yC (xI hb)⟩) (hk2 b o (yC hb) (hk1 _ _ (hk0 _ _ e)))
 refine xb (λ_=>?_) λ_=>?_
 ·refine ya (wpAny_rule ?_);refine ya ?_;show yp _ _ (updateSeq S (·.push .none) >>= λ_=>updateSeq S (·.pop)) _ _ _;refine ya (wpAny_updateSeq hL1 rfl ?_);have hL2:=Yb (Xm (·.push Ym)) hL1 rfl;refine wpAny_updateSeq (hz:=by seq_fits) hL2 rfl ?_;have hL3:=Yb (Xm (·.pop)) hL2 rfl;refine yi ⟨plainId_quiet F.plain_extend_loop _,YW (fin _ _ (λb o hb e=>?_) hL3) λr s' z=>?_⟩
  ·exact(yY _ _ (Yi hb)).trans ((yY _ _ (Yi hb)).trans e)
  ·cases r with
   |error e=>exact z.elim
   |ok f=>cases f<;>exact z
 ·refine yi ⟨plainId_quiet F.plain_extend_loop _,YW (fin _ _ (λb o hb e=>e) hL1) λr s' z=>?_⟩
  cases r with
  |error e=>exact z.elim
  |ok f=>cases f<;>exact z
def zbv{Q:yb->yd->Prop}(hh:A.handled=none)(hO:SOb s.heap a #[] ep t)(h:∀p s',(∃e,s'.heap.get? p=some {cls:=.type "list",data:=.seq #[] e })->s.heap.objs.size<=p->(∀b o,s.heap.get? b=some o->s'.heap.get? b=some o)->s'.os=s.os->s'.gens=s.gens->Q (.ref p) s'):yp (yx prog w) A (call (.builtin "sorted") [.ref a]) Q E s:=by
 refine Calls.call_function_entry kind_sorted plain_sorted entry_sorted (args_sorted1 _) ?_;unfold YN.«sorted»;refine ya (m:=checkCount "sorted" 1 1 _) (yi ?_);refine ya (zot (A:=A.in1) hh hO λs1 hk hos hgn hsz=>?_);refine ya (wpAny_newList ?_ (by simp));have kQ:(s1.heap.push (seqObj "list" ([]:List yb).toArray 0)).get? s1.heap.objs.size=some (seqObj "list" ([]:List yb).toArray 0):=yr _ rfl;refine ya (Yl (Yj slot_list_sort ⟨_,kQ,rfl⟩ entry_list_sort (list_sort_tree kQ (ns:=[]) .nil (by simp) λout ns q1 q2 q3=>⟨_,rfl,?_⟩) (args_list_sort _)));obtain⟨e,he⟩:=sortedHeap_at (out:=out) kQ;have en:ns=[]:=q2.eq_nil;subst en
 have eo:out = #[]:=by
  have:out.toList=[]:=by cases q1':out.toList with
   |nil=>rfl
   |cons x xs=>rw[q1']at q1;cases q1
  exact Array.toList_inj.mp this
 subst eo;refine yi ⟨_,rfl,h _ _ ⟨e,he⟩ hsz (λb ob eb=>?_) hos hgn⟩;have hb1:=hk _ _ eb;have hlt1:b<s1.heap.objs.size:=yn hb1;show(sortedHeap (s1.heap.push (seqObj "list" ([]:List yb).toArray 0)) s1.heap.objs.size [] #[]).get? b=some ob;rw[sortedHeap_old (yC hlt1) (by rw[size_push'];exact xI hlt1)];exact ye _ hb1
set_option maxHeartbeats 3200000 in
def zZB{Q:yb->yd->Prop}(hh:A.handled=none)(hl:s.heap.IsList l #[])(h:∀s',(∃t,SOb s'.heap s.heap.objs.size #[] 0 t)->(∀b o,s.heap.get? b=some o->s'.heap.get? b=some o)->(∃h',s' = {s with heap:=h' })->Q (.ref s.heap.objs.size) s'):yp (yx prog w) A (call (.type "set") [.ref l]) Q E s:=by
 obtain⟨c,tl,hmro⟩:=PySem.F.called_set.mro;have hmade:=PySem.F.called_set.made;have kX:=PySem.F.called_set.sub;refine wpAny_call (codeAny_of_tree ?_);show yp _ _ (callAny (.type "set") _) _ _ _;refine yi ⟨Code.quiet_builtin _ (by decide +kernel),xm PySem.F.entry_type_call ?_⟩;rw[Around.under_plain (weight_type_call_type "set" [.ref l] []) rfl];have t1:=PySem.F.called_set.notType;have t2:=PySem.F.called_set.canCreate;have t3:=PySem.F.typeCall_set_1 (.ref l)
 repeat (any_goals (first|assumption|wp_step))
 refine YW (zLy (w:=w) (.ref l) (E:=E) (Q:=λob s1=>ob=.ref s.heap.objs.size/\s1 = {s with heap:=s.heap.push (zCg w)}) ⟨rfl,rfl⟩) λr s1 hr=>?_
 cases r with
 |error e=>exact hr
 |ok fl=>
  cases fl with
  |ret ob=>
   obtain⟨rfl,rfl⟩:=hr;have hS:(s.heap.push (zCg w)).get? s.heap.objs.size=some (zCg w):=yr _ rfl;have hT:Shared.TypeIs {s with heap:=s.heap.push (zCg w)} (.ref s.heap.objs.size) "set":=⟨_,hS,rfl⟩
   have i1:=PySem.F.called_set.init.lookup;have i2:=PySem.F.called_set.init.bind (.ref s.heap.objs.size)
   repeat (any_goals (first|assumption|wp_step))
   refine YW (Xo (R:=wants (λr s2=>r=.none/\(∃t,SOb s2.heap s.heap.objs.size #[] 0 t)/\(∀b o,s.heap.get? b=some o->s2.heap.get? b=some o)/\∃h',s2 = {s with heap:=h' }) E) PySem.F.called_set.init.plain PySem.F.entry_set_init (check_set_init_1 hT ?_)) λr2 s2 hr2=>?_
   ·obtain⟨ol,hol,kW,nl,gK⟩:=hl;obtain⟨ocls,odict,odata,oslots⟩:=ol;simp only at kW gK;subst kW;subst gK;have hol1:(s.heap.push (zCg w)).get? l=some {cls:=.type "list",dict:=odict,data:=.seq #[] nl,slots:=oslots }:=ye _ hol;have n1:=PySem.F.sub_list_set;have n2:=PySem.F.sub_list_frozenset;have n3:(YR "list" == YR "dict")=false:=by decide
    have hl1:(s.heap.push (zCg w)).IsList l #[]:=⟨_,hol1,rfl,nl,rfl⟩
    unfold YN.«set.__init__» noKeywords Builtin.Frozenset.updateFrom;generalize hPI:pyIter=PI
    wp_walk
    subst hPI;refine wpAny_pyIter_list hl1 ?_;refine ya (wpAny_runValue ?_);refine xm PyProof.Rows.F.entry_set_update_loop ?_;rw[xk PyProof.Rows.F.plain_set_update_loop _];show yp _ _ (pyNext (.ref _) >>= _) _ _ _;refine ya (wpAny_pyNext_list_end (l:=l) (i:=0) (items:=#[]) (by simp[hh]) ⟨_,yr _ rfl,rfl,rfl⟩ (hl1.push _) rfl λh' eb=>?_);have hz:(s.heap.push (zCg w)).objs.size=s.heap.objs.size+1:=by rw[YG]
    refine yi (yi ?_);show yp _ _ (ret Ym) _ _ _;refine yi ⟨rfl,⟨_,_,eb _ _ (by rw[hz];exact yC (xP _)) (ye _ hS),rfl,rfl,rfl⟩,λb o e=>eb _ _ (by rw[hz];exact yC (xI (yn e))) (ye _ (ye _ e)),h',rfl⟩
   ·cases r2 with
    |error e=>exact hr2
    |ok fl2=>
     cases fl2 with
     |ret r=>
      obtain⟨rfl,h1,h2,h3⟩:=hr2
      repeat (any_goals (first|assumption|wp_step))
      exact h _ h1 h2 h3
     |_=>exact hr2.elim
  |_=>exact hr.elim
end
abbrev zfB(p:yg):HO:=.ext λh=>∃ep t,SOb h p #[] ep t
@[simp] def zzq(G:FE):FE:=λJ O=>(G J O).bind λp=>match p.1 with
 |.loc n=>match p.2[n]? with
  |some (.lst [])=>some (.loc p.2.length,p.2++[.lst []])
  |_=>none
 |_=>none
section
variable {X:Cx}{e:yB}{G:FE}{pos pos2 p1 p2:YZ}
def zEu(hc:X.calm=true):zqi X (.type "set") (λxs H Q=>∃a,xs=[.ref a]/\SqL X.K H a []/\∀p,H p=none->Q (.ref p) (upd H p (zfB p))):=by
 intro U s Y H xs us Q I r ⟨a,e,hq,k⟩;subst e;obtain⟨u,rfl,rx⟩:=vals1 r;cases rx;obtain⟨hW,rv,pl,hz⟩:=I.list hq;obtain rfl:hW=[]:=rv.SH;refine zZB (I.ok.hd hc) pl.isList λs' ⟨t,hS⟩ hk ⟨h',e⟩=>?_;subst e;refine⟨.ref s.heap.objs.size,_,I.laid (t':=s.toks) hk (yo _) (show tD X.prog X.w _ h' _ (zfB _) from⟨⟨_,t,hS⟩,?_,λh1 h2 ⟨ep,t,x⟩ y=>⟨ep,t,x.at' y⟩⟩),rfl,k _ I.fresh⟩;obtain⟨o,ho,_⟩:=hS;exact⟨o,ho⟩
def zNr(hc:X.calm=true):zqi X (.builtin "sorted") (λxs H Q=>∃a,xs=[.ref a]/\H a=some (zfB a)/\∀p,H p=none->Q (.ref p) (upd H p (.lst []))):=by
 intro U s Y H xs us Q I r ⟨a,e,hq,k⟩;subst e;obtain⟨u,rfl,rx⟩:=vals1 r;cases rx;obtain⟨⟨ep,t,hS⟩,_,_⟩:=I.hok a _ hq;refine zbv (I.ok.hd hc) hS λp s' ⟨e,h1⟩ h5 h6 h7 h8=>?_;exact⟨.ref p,_,zgr I h7 h8 h6 h5 (show tD X.prog X.w _ s'.heap _ (.lst []) from⟨Ys _,[],e,.nil,h1⟩),rfl,k p (I.hok.fresh h5)⟩
def z5v(hm1:X.mg "sorted"=none)(hv1:yK "sorted"=some (.builtin "sorted"))(hm2:X.mg "set"=none)(hv2:yK "set"=some (.type "set"))(h:ME X e G)(hc:X.calm=true:=by rfl)(hg1:Gl X "sorted":=by rfl)(hg2:Gl X "set":=by rfl)
 (he:yh [e] X.env=(false,yV e X.env)::yh [] X.env:=by rfl) (he2:yh [.Call (.Name "set" p2) [e] [] pos2] X.env=(false,yV (.Call (.Name "set" p2) [e] [] pos2) X.env)::yh [] X.env:=by rfl) :
 ME X (.Call (.Name "sorted" p1) [.Call (.Name "set" p2) [e] [] pos2] [] pos) (zzq G) :=
 zdd (z7q (zNr hc) hg1 hm1 hv1 (zQd (z6e (zEu hc) hg2 hm2 hv2 (zQd h zPg he) (by decide) (by decide) he rfl) zPg he2) (by decide) (by decide) he2 rfl) λZ J O Y H d O' Q A e k=>by
  obtain⟨⟨x,O1⟩,e1,e⟩:=zh e;refine⟨Z,J,O,x,O1,A,e1,λZ1 H1 v x1 R1 r1=>?_⟩;dsimp only at e
  split at e
  ·split at e
   ·rename_i hm
    cases e;obtain⟨p,rfl,ep⟩:=r1.tx;obtain⟨vs,e3,q⟩:=R1.at_ _ _ _ ep hm;rw[q.nil_inv]at e3;refine⟨p,rfl,SqL.of e3,λp1 hp1=>⟨p1,rfl,zx,λp2 hp2=>?_⟩⟩;have R2:=R1.Th (o:=zfB p1) hp1;exact k _ _ _ (x1.trans ((Ext.new hp1).trans (Ext.push hp2))) (R2.push hp2 ⟨_,zx,.nil⟩) (.loc (zwb R2))
   ·cases e
  ·cases e
end
@[simp] theorem zaC{i j:Int}(h1:-18446744073709551616<j)(h2:j<18446744073709551616):zKl i j=true:=by
 unfold zKl;rw[decide_eq_true (p:=-(2^64)<j/\j<2^64) ⟨by omega,by omega⟩];simp
@[simp] theorem zZu{i j:Int}(h1:-18446744073709551616<i)(h2:i<18446744073709551616):zKl i j=true:=by
 unfold zKl;rw[decide_eq_true (p:=-(2^64)<i/\i<2^64) ⟨by omega,by omega⟩];simp
@[simp] theorem zmC{α:Type}(l:List α):(l.all λ_=>true)=true:=by simp
def zqx{O g:Mem}{n:Nat}(h:n<O.length):(O++g)[n]?=O[n]?:=yq h
def zO{O g:Mem}{n:Nat}{o:tu}(h:O[n]?=some o):(O++g)[n]?=some o:=by
 rw[zqx (List.getElem?_eq_some_iff.mp h).1];exact h
mutual
def zSm:∀p:xB,p.canLay0=true->Yc p p=true
 |.none,_=>rfl
 |.bool b,_=>by simp[Yc]
 |.int b,_=>by simp[Yc]
 |.str b,_=>by simp[Yc]
 |.list xs,h=>by
  unfold Yc;exact eqvAll_refl xs (by simpa[PyData.canLay0] using h)
 |.tuple xs,h=>by
  unfold Yc;exact eqvAll_refl xs (by simpa[PyData.canLay0] using h)
 |.dict _,h=>by simp[PyData.canLay0]at h
def eqvAll_refl:∀ps:List xB,Xg ps=true->Xa ps ps=true
 |[],_=>rfl
 |p::ps,h=>by
  simp only[Xg,yM]at h;unfold Xa;rw[zSm p h.1,eqvAll_refl ps h.2];rfl
end
def zzv{x y:D}{O:Mem}{p:xB}(h1:toP O 8 x=some p)(h2:toP O 8 y=some p):gEq x y O=some (.bl true,O):=by
 unfold gEq;rw[h1,h2];simp[zSm p (z3h 8 x p h1).1]
def zsw{x y:D}{O:Mem}{p:xB}(h1:toP O 8 x=some p)(h2:toP O 8 y=some p):gNe x y O=some (.bl false,O):=by
 unfold gNe;rw[h1,h2];simp[zSm p (z3h 8 x p h1).1]
def zGz{K:yt}{F:FF}{H:Hp}{a:yg}{ns:Qg}(hF:∃O',F [.fz (ns.map D.int)] []=some (.bl true,O'))(hO:zcB H)(hS:SqL K H a (ns.map V.int)):spM K 1 F [.ref a] H (λv _=>v=.bl true) λ_ _ _=>False:=by
 obtain⟨O',e⟩:=hF
 have fz:FzL K H a (ns.map V.int):=by
  rcases hS with (h|⟨o,h⟩)|h
  ·rcases hO a with z|⟨o,xs,z⟩
   ·rw[h]at z;cases z
   ·rw[h]at z;cases z
  ·exact .inl ⟨o,h⟩
  ·exact .inr h
 have hints:∀ns:Qg,tf K [] H (ns.map D.int) (ns.map V.int):=λns=>by
  induction ns with
  |nil=>exact .nil
  |cons i r ih=>exact .cons .int ih
 exact⟨rfl,[],[.fz (ns.map D.int)],[],.bl true,O',.cons (.fz fz (hints ns)) .nil,⟨List.nodup_nil,rfl,λn a o h1 _=>by simp at h1⟩,e,λZ' H' v _ _ r=>r.tI⟩
structure WE(G:FE)(J:Loc)(O:Mem)(Q:Wr):Prop where
 ex:∃d O',G J O=some (d,O')/\Q d O'
structure WT(G:FT)(J:Loc)(O:Mem)(Q:Bool->Mem->Prop):Prop where
 ex:∃d O',G J O=some (d,O')/\Q d O'
structure WA(G:FA)(J:Loc)(O:Mem)(Q:Wm->Mem->Prop):Prop where
 ex:∃d O',G J O=some (d,O')/\Q d O'
structure WO(G:FO)(J:Loc)(O:Mem)(Q:Qk->Mem->Prop):Prop where
 ex:∃d O',G J O=some (d,O')/\Q d O'
structure W2(g:φ2)(x y:D)(O:Mem)(Q:Wr):Prop where
 ex:∃d O',g x y O=some (d,O')/\Q d O'
structure WF(F:FF)(ds:Wm)(O:Mem)(Q:Wr):Prop where
 ex:∃d O',F ds O=some (d,O')/\Q d O'
structure WM(g:GM)(x:D)(ds:Wm)(O:Mem)(Q:Wr):Prop where
 ex:∃d O',g x ds O=some (d,O')/\Q d O'
structure WI(i:FI)(J:Loc)(O:Mem)(Q:Wm->(Mem->Bool)->Mem->Prop):Prop where
 ex:∃ds ok O',i J O=some (ds,ok,O')/\Q ds ok O'
structure WG(g:FG)(d:D)(J:Loc)(O:Mem)(Q:Loc->Mem->Prop):Prop where
 ex:∃J' O',g d J O=some (J',O')/\Q J' O'
structure WGs(g:FGs)(ds:Wm)(J:Loc)(O:Mem)(Q:Loc->Mem->Prop):Prop where
 ex:∃J' O',g ds J O=some (J',O')/\Q J' O'
structure WL(g:FG)(c:FT)(G:FE)(ok:Mem->Bool)(J:Loc)(xs ys:Wm)(O:Mem)(Q:Wr):Prop where
 ex:∃d O',z4u g c G ok J xs ys O=some (d,O')/\Q d O'
def Ek(nx:Loc->Mem->Prop)(rt:Wr)(bk ct:Loc->Mem->Prop):Out->Prop
 |.next J O=>nx J O
 |.ret d O=>rt d O
 |.brk J O=>bk J O
 |.cont J O=>ct J O
 |.exc _ _ _=>False
structure WS(ψ:FS)(J:Loc)(O:Mem)(nx:Loc->Mem->Prop)(rt:Wr)(bk ct:Loc->Mem->Prop):Prop where
 ex:∃o,ψ J O=some o/\Ek nx rt bk ct o
structure WFor(g:FG)(body:FS)(ok:Mem->Bool)(xs:Wm)(J:Loc)(O:Mem)(nx:Loc->Mem->Prop)(rt:Wr):Prop where
 ex:∃o,zDi g body ok xs J O=some o/\Ek nx rt (λ_ _=>False) (λ_ _=>False) o
def tm(O O':Mem):Prop:=∀(n:Nat)(o:tu),O[n]?=some o->O'[n]?=some o
def tm.refl{O:Mem}:tm O O:=λ_ _ h=>h
def tm.trans{O O1 O2:Mem}(a:tm O O1)(b:tm O1 O2):tm O O2:=λn o h=>b n o (a n o h)
def tm.app{O g:Mem}:tm O (O++g):=λ_ _ h=>zO h
def tm.to{O O1 g:Mem}(a:tm O O1):tm O (O1++g):=a.trans .app
def tm.len{O O':Mem}(a:tm O O'):O.length<=O'.length:=by
 rcases Nat.lt_or_ge O'.length O.length with h|h
 ·have:=a O'.length O[O'.length] (by simp[h]);simp at this
 ·exact h
def zq{O:Mem}{o:tu}:(O++[o])[O.length]?=some o:=by simp
def zR{O:Mem}{n:Nat}{o:tu}(h:O[n]?=some o):n<O.length:=(List.getElem?_eq_some_iff.mp h).1
def zPb{O:Mem}{n m:Nat}{o o':tu}(h:O[n]?=some o)(kN:m≠n):(O.set m o')[n]?=some o:=by
 rw[yQ kN];exact h
def zEb{O:Mem}{n:Nat}{o o':tu}(h:O[n]?=some o):(O.set n o')[n]?=some o':=by
 rw[yO (zR h)]
def zz{O:Mem}{n:Nat}{ds:Wm}(h:O[n]?=some (.lst ds)):items O (.loc n)=some ds:=by simp[h]
section
variable {G ψ χ:FE}{g g2:φ2}{J:Loc}{O:Mem}{Q:Wr}{i j:Int}{d x y:D}{ds xs:Wm}
def zf{n:Nat}(h:J[n]?=some (some d))(q:Q d O):WE (zp n) J O Q:=⟨d,O,by simp[h],q⟩
def w_c(q:Q d O):WE (fC d) J O Q:=⟨d,O,rfl,q⟩
def zu(h:WE G J O λx O1=>WE ψ J O1 λy O2=>W2 g x y O2 Q):WE (zy g G ψ) J O Q:=by
 obtain⟨x,O1,e1,y,O2,e2,d,O3,e3,q⟩:=h;exact⟨d,O3,by simp[e1,e2,e3],q⟩
def z9s(h:WE G J O λx O1=>∃b,x=.bl b/\(b=true->WE ψ J O1 Q)/\(b=false->Q (.bl false) O1)):WE (zIv G ψ) J O Q:=by
 obtain⟨x,O1,e1,b,rfl,h1,h2⟩:=h
 cases b with
 |true=>obtain⟨d,O2,e2,q⟩:=h1 rfl;exact⟨d,O2,by simp[e1,e2],q⟩
 |false=>exact⟨_,O1,by simp[e1],h2 rfl⟩
def zIC(h:WE G J O λx O1=>∃b,x=.bl b/\(b=false->WE ψ J O1 Q)/\(b=true->Q (.bl true) O1)):WE (fOr G ψ) J O Q:=by
 obtain⟨x,O1,e1,b,rfl,h1,h2⟩:=h
 cases b with
 |false=>obtain⟨d,O2,e2,q⟩:=h1 rfl;exact⟨d,O2,by simp[e1,e2],q⟩
 |true=>exact⟨_,O1,by simp[e1],h2 rfl⟩
def w_not(h:WE G J O λx O1=>∃b,x=.bl b/\Q (.bl (!b)) O1):WE (zIB G) J O Q:=by
 obtain⟨x,O1,e1,b,rfl,q⟩:=h;exact⟨_,O1,by simp[e1],q⟩
def zJB(h:WE G J O λx O1=>∃i,x=.int i/\Q (.int (-i)) O1):WE (zEC G) J O Q:=by
 obtain⟨x,O1,e1,b,rfl,q⟩:=h;exact⟨_,O1,by simp[e1],q⟩
def zKi{α:FA}(h:WA α J O λds O1=>Q (.tup ds) O1):WE (zto α) J O Q:=by
 obtain⟨x,O1,e1,q⟩:=h;exact⟨_,O1,by simp[e1],q⟩
def zTg{α:FA}(h:WA α J O λds O1=>Q (.loc O1.length) (O1++[.lst ds])):WE (zsl α) J O Q:=by
 obtain⟨x,O1,e1,q⟩:=h;exact⟨_,_,by simp[e1]<;>rfl,q⟩
def zuz(h:Q (.loc O.length) (O++[.dct []])):WE zaB J O Q:=⟨_,_,rfl,h⟩
def zNy{R:Qk->Mem->Prop}(q:R none O):WO pNo J O R:=⟨_,_,rfl,q⟩
def zKt{R:Qk->Mem->Prop}(h:WE G J O λx O1=>∃i,x=.int i/\R (some i) O1):WO (zbB G) J O R:=by
 obtain⟨x,O1,e1,i,rfl,q⟩:=h;exact⟨_,_,by simp[e1]<;>rfl,q⟩
def zt{F:FF}{α:FA}(h:WA α J O λds O1=>WF F ds O1 Q):WE (zw F α) J O Q:=by
 obtain⟨ds,O1,e1,d,O2,e2,q⟩:=h;exact⟨d,O2,by simp[e1,e2],q⟩
def zar{m:GM}{α:FA}(h:WE G J O λx O1=>∃n xs,x=.loc n/\O1[n]?=some (.lst xs)/\WA α J O1 λds O2=>WM m (.loc n) ds O2 Q):WE (zPn m G α) J O Q:=by
 obtain⟨x,O1,e1,n,xs,rfl,e2,ds,O2,e3,d,O3,e4,q⟩:=h;exact⟨d,O3,by simp[e1,e2,e3,e4],q⟩
def zQj{n:Nat}{fr:Qf}{it:FI}{tg:FG}{c:FT}(h:WI it J O λds ok O1=>few ds=true/\WL tg c G ok (δC n fr J) ds [] O1 Q):WE (fLC n fr it tg c G) J O Q:=by
 obtain⟨ds,ok,O1,e1,hf,d,O2,e2,q⟩:=h;exact⟨d,O2,by unfold fLC;simp only[e1,ym,hf,cond_true];exact e2,q⟩
def zL{R:Bool->Mem->Prop}(h:WE G J O λx O1=>∃b,x=.bl b/\R b O1):WT (zdb G) J O R:=by
 obtain⟨x,O1,e1,b,rfl,q⟩:=h;exact⟨_,_,by simp[e1]<;>rfl,q⟩
def zNq{c e:FT}{R:Bool->Mem->Prop}(h:WT c J O λb O1=>(b=true->WT e J O1 R)/\(b=false->R false O1)):WT (zht c e) J O R:=by
 obtain⟨b,O1,e1,h1,h2⟩:=h
 cases b with
 |true=>obtain⟨d,O2,e2,q⟩:=h1 rfl;exact⟨d,O2,by simp[e1,e2],q⟩
 |false=>exact⟨_,O1,by simp[e1],h2 rfl⟩
def zzj{c e:FT}{R:Bool->Mem->Prop}(h:WT c J O λb O1=>(b=false->WT e J O1 R)/\(b=true->R true O1)):WT (zJs c e) J O R:=by
 obtain⟨b,O1,e1,h1,h2⟩:=h
 cases b with
 |false=>obtain⟨d,O2,e2,q⟩:=h1 rfl;exact⟨d,O2,by simp[e1,e2],q⟩
 |true=>exact⟨_,O1,by simp[e1],h2 rfl⟩
def znk{c:FT}{R:Bool->Mem->Prop}(h:WT c J O λb O1=>R (!b) O1):WT (z9n c) J O R:=by
 obtain⟨b,O1,e1,q⟩:=h;exact⟨_,_,by simp[e1]<;>rfl,q⟩
def zyx{R:Bool->Mem->Prop}(q:R true O):WT zph J O R:=⟨_,_,rfl,q⟩
def zr{R:Wm->Mem->Prop}(q:R [] O):WA zC J O R:=⟨_,_,rfl,q⟩
def ze{α:FA}{R:Wm->Mem->Prop}(h:WE G J O λx O1=>WA α J O1 λxs O2=>R (x::xs) O2):WA (zi G α) J O R:=by
 obtain⟨x,O1,e1,xs,O2,e2,q⟩:=h;exact⟨_,_,by simp[e1,e2]<;>rfl,q⟩
def zUi(q:Q (.int (i+j)) O):W2 zah (.int i) (.int j) O Q:=⟨_,_,rfl,q⟩
def z8k{l m:Nat}{as bs:Wm}(h1:O[l]?=some (.lst as))(h2:O[m]?=some (.lst bs))(h:as.length+bs.length<=1000000)(q:Q (.loc O.length) (O++[.lst (as++bs)])):W2 zah (.loc l) (.loc m) O Q:=⟨_,_,by simp[h1,h2,h]<;>rfl,q⟩
def z7s(q:Q (.int (i-j)) O):W2 zxs (.int i) (.int j) O Q:=⟨_,_,rfl,q⟩
def zWx(h:zKl i j=true)(q:Q (.int (i*j)) O):W2 zvj (.int i) (.int j) O Q:=⟨_,_,by simp[zvj,h]<;>rfl,q⟩
def zoA(h:0<j)(q:Q (.int (i%j)) O):W2 z5p (.int i) (.int j) O Q:=⟨_,_,by simp[h]<;>rfl,q⟩
def zoB(h:0<j)(h':j<1606938044258990275541962092341162602522202993782792835301376)(q:Q (.int (i / j)) O):W2 zfz (.int i) (.int j) O Q:=⟨_,_,by simp[h,h']<;>rfl,q⟩
def zsp(h:0<=j)(h1:j<=100000)(h2:i.natAbs<1606938044258990275541962092341162602522202993782792835301376)(q:Q (.int (i^j.toNat)) O):W2 z6u (.int i) (.int j) O Q:=⟨_,_,by simp only[z6u];rw[decide_eq_true ⟨h,h1,h2⟩];rfl,q⟩
def z6i{r:Int->Int->Bool}(q:Q (.bl (r i j)) O):W2 (zNj r) (.int i) (.int j) O Q:=⟨_,_,rfl,q⟩
def zPc(h:items O x=some xs)(h2:atI xs i=some d)(q:Q d O):W2 gIx x (.int i) O Q:=⟨_,_,by show((items O x).bind λds=>(atI ds i).bind λd=>some (d,O))=_;rw[h,ym,h2,ym],q⟩
def zNo(q:Q (.bl (i==j)) O):W2 gEq (.int i) (.int j) O Q:=⟨_,_,by simp[gEq,toP,Yc]<;>rfl,q⟩
def zkA(q:Q (.bl (!(i==j))) O):W2 gNe (.int i) (.int j) O Q:=⟨_,_,by simp[gNe,toP,Yc]<;>rfl,q⟩
def z9B{p:xB}(h1:toP O 8 x=some p)(h2:toP O 8 y=some p)(q:Q (.bl true) O):W2 gEq x y O Q:=⟨_,_,zzv h1 h2,q⟩
def zGB{p:xB}(h1:toP O 8 x=some p)(h2:toP O 8 y=some p)(q:Q (.bl false) O):W2 gNe x y O Q:=⟨_,_,zsw h1 h2,q⟩
def zuB{p p':xB}(h1:toP O 8 x=some p)(h2:toP O 8 y=some p')(q:Q (.bl (Yc p p')) O):W2 gEq x y O Q:=⟨_,_,by simp[gEq,h1,h2]<;>rfl,q⟩
def zyC{p p':xB}(h1:toP O 8 x=some p)(h2:toP O 8 y=some p')(q:Q (.bl (!PyData.eqv p p')) O):W2 gNe x y O Q:=⟨_,_,by simp[gNe,h1,h2]<;>rfl,q⟩
def z3B{a b:Bool}(q:Q (.bl (a==b)) O):W2 gIs (.bl a) (.bl b) O Q:=⟨_,_,rfl,q⟩
def zlv{a b:Bool}(q:Q (.bl (a != b)) O):W2 z5k (.bl a) (.bl b) O Q:=⟨_,_,rfl,q⟩
def zPs(h:items O y=some xs)(h1:zve x=true)(h2:xs.all zve=true)(q:Q (.bl (!xs.any λd=>eqF d x)) O):W2 zoj x y O Q:=⟨_,_,by simp only[zoj,h,ym,h1,h2,Bool.and_self,cond_true],q⟩
def zuj(h:items O x=some xs)(q:Q (.int xs.length) O):WF zxl [x] O Q:=⟨_,_,by show((items O x).bind λxs=>some (D.int xs.length,O))=_;rw[h,ym],q⟩
def z8w(h:items O x=some xs)(q:Q (.loc O.length) (O++[.lst xs])):WF zTv [x] O Q:=⟨_,_,by show((items O x).bind λxs=>some (D.loc O.length,O++[tu.lst xs]))=_;rw[h,ym],q⟩
def zwg(h:items O x=some xs)(q:Q (.tup xs) O):WF zEg [x] O Q:=by
 refine⟨_,_,?_,q⟩;cases x<;>first|(cases h;rfl)|(simp only[zEg,h];rfl)
def zCB{c t:Ty}(h:zgB O x=some t)(q:Q (.bl (zYB t c)) O):WF (z5u c) [x,.ty c.name] O Q:=⟨_,_,by simp only[z5u,beq_self_eq_true,cond_true,h,ym],q⟩
def zqA{n:Nat}{bs:List Bool}(h:O[n]?=some (.lst (bs.map .bl)))(q:Q (.bl (bs.all λb=>b)) O):WF zRA [.loc n] O Q:=⟨_,_,by simp[h,List.all_map,Function.comp_def],q⟩
def zbn{n:Nat}(h:O[n]?=some (.lst xs))(hl:xs.length<=1000000)(q:Q .non (O.set n (.lst (xs++[d])))):WM znh (.loc n) [d] O Q:=⟨_,_,by simp[h,hl]<;>rfl,q⟩
def zHb{F:FF}{N:Qx}{p:FS}(hF:F=λds O=>zvb (p (zG N ds) O))(h:WS p (zG N ds) O (λ_ O'=>Q .non O') Q (λ_ _=>False) λ_ _=>False):WF F ds O Q:=by
 subst hF;obtain⟨o,e,k⟩:=h
 cases o with
 |next J' O'=>exact⟨_,_,by rw[e];rfl,k⟩
 |ret d O'=>exact⟨_,_,by rw[e];rfl,k⟩
 |brk _ _=>exact k.elim
 |cont _ _=>exact k.elim
 |exc _ _ _=>exact k.elim
def zal{α:FA}{R:Wm->(Mem->Bool)->Mem->Prop}(h:WA α J O λds O1=>∃j:Int,ds=[.int j]/\-(2^62)<=j/\j<2^62/\R ((yz j.toNat).map λ(k:Nat) =>.int k) yes O1):WI (z2k α) J O R:=by
 obtain⟨ds,O1,e1,j,rfl,h1,h2,q⟩:=h;refine⟨_,_,_,?_,q⟩;unfold z2k;simp only[e1,ym];rw[decide_eq_true ⟨h1,h2⟩];rfl
def zOd{R:Wm->(Mem->Bool)->Mem->Prop}(h:WE G J O λx O1=>(∃ds,x=.tup ds/\R ds yes O1)\/(∃ds,x=.fz ds/\R ds yes O1)\/∃n ds,x=.loc n/\O1[n]?=some (.lst ds)/\R ds (zQo n ds) O1):WI (zWf G) J O R:=by
 obtain⟨x,O1,e1,⟨ds,rfl,q⟩|⟨ds,rfl,q⟩|⟨n,ds,rfl,e2,q⟩⟩:=h
 ·exact⟨_,_,_,by simp[e1]<;>rfl,q⟩
 ·exact⟨_,_,_,by simp[e1]<;>rfl,q⟩
 ·exact⟨_,_,_,by simp[e1,e2]<;>rfl,q⟩
def zmf{n:Nat}{R:Loc->Mem->Prop}(q:R (J.set n (some d)) O):WG (gN n) d J O R:=⟨_,_,rfl,q⟩
def zlC{n:Nat}{gs:FGs}{R:Loc->Mem->Prop}(hl:ds.length=n)(h:WGs gs ds J O R):WG (gT n gs) (.tup ds) J O R:=by
 obtain⟨J',O',e,q⟩:=h;exact⟨J',O',by simp[hl,e],q⟩
def zyu{gs:FGs}{R:Loc->Mem->Prop}{a b:D}(h:WGs gs [a,b] J O R):WG (gT 2 gs) (.tup [a,b]) J O R:=zlC rfl h
def zkB{gs:FGs}{R:Loc->Mem->Prop}{a b c:D}(h:WGs gs [a,b,c] J O R):WG (gT 3 gs) (.tup [a,b,c]) J O R:=zlC rfl h
def zBs{R:Loc->Mem->Prop}(q:R J O):WGs zVi [] J O R:=⟨_,_,rfl,q⟩
def zkn{t:FG}{gs:FGs}{R:Loc->Mem->Prop}(h:WG t d J O λJ1 O1=>WGs gs ds J1 O1 R):WGs (zDc t gs) (d::ds) J O R:=by
 obtain⟨J1,O1,e1,J2,O2,e2,q⟩:=h;exact⟨J2,O2,by simp[e1,e2],q⟩
variable {nx:Loc->Mem->Prop}{rt:Wr}{bk ct:Loc->Mem->Prop}{p q:FS}
def zub(h:nx J O):WS z1b J O nx rt bk ct:=⟨.next J O,rfl,h⟩
def zB(h:WS p J O (λJ' O'=>WS q J' O' nx rt bk ct) rt bk ct):WS (zfb p q) J O nx rt bk ct:=by
 obtain⟨o,e,k⟩:=h
 cases o with
 |next J' O'=>obtain⟨o2,e2,k2⟩:=k;exact⟨o2,by simp[e,e2],k2⟩
 |ret d O'=>exact⟨.ret d O',by simp only[zfb,e],k⟩
 |brk d O'=>exact⟨.brk d O',by simp only[zfb,e],k⟩
 |cont d O'=>exact⟨.cont d O',by simp only[zfb,e],k⟩
 |exc _ _ _=>exact k.elim
def zGb{n:Nat}(h:WE G J O λd O'=>nx (J.set n (some d)) O'):WS (z6c n G) J O nx rt bk ct:=by
 obtain⟨d,O',e,k⟩:=h;exact⟨.next _ _,by simp only[z6c,e,ym],k⟩
def zfs{g:FG}(h:WE G J O λd O1=>WG g d J O1 nx):WS (z3u G g) J O nx rt bk ct:=by
 obtain⟨d,O1,e,J',O2,e2,k⟩:=h;exact⟨.next _ _,by simp only[z3u,e,ym,e2],k⟩
def zVn(h:WE G J O λ_ O'=>nx J O'):WS (zcp G) J O nx rt bk ct:=by
 obtain⟨d,O',e,k⟩:=h;exact⟨.next _ _,by simp only[zcp,e,ym],k⟩
def zLb(h:WE G J O rt):WS (zbc G) J O nx rt bk ct:=by
 obtain⟨d,O',e,k⟩:=h;exact⟨.ret _ _,by simp only[zbc,e,ym],k⟩
def zih{c:FT}(h:WT c J O λb O1=>(b=true->WS p J O1 nx rt bk ct)/\(b=false->WS q J O1 nx rt bk ct)):WS (sIf c p q) J O nx rt bk ct:=by
 obtain⟨b,O1,e,h1,h2⟩:=h
 cases b with
 |true=>obtain⟨o,e2,k⟩:=h1 rfl;exact⟨o,by simp[e,e2],k⟩
 |false=>obtain⟨o,e2,k⟩:=h2 rfl;exact⟨o,by simp[e,e2],k⟩
def zYi{it:FI}{g:FG}{body:FS}(h:WI it J O λds ok O1=>WFor g body ok ds J O1 nx rt):WS (zzo it g body) J O nx rt bk ct:=by
 obtain⟨ds,ok,O1,e,o,e2,k⟩:=h;refine⟨o,by simp only[zzo,e,ym];exact e2,?_⟩
 cases o with
 |next _ _=>exact k
 |ret _ _=>exact k
 |brk _ _=>exact k.elim
 |cont _ _=>exact k.elim
 |exc _ _ _=>exact k.elim
def zut{g:FG}{body:FS}{ok:Mem->Bool}{nx:Loc->Mem->Prop}{rt:Wr}(I:Nat->Loc->Mem->Prop):∀{xs:Wm} {n:Nat} {J:Loc} {O:Mem},I n J O->(∀m J O,I m J O->ok O=true) ->
 (∀(m:Nat)(x:D)(J:Loc)(O:Mem),xs[m]?=some x->I (n+m) J O->WG g x J O λJ1 O1=>WS body J1 O1 (I (n+m+1)) rt nx (I (n+m+1)))->(∀J O,I (n+xs.length) J O->nx J O)->WFor g body ok xs J O nx rt
 |[],n,J,O,h0,hok,_,hend=>⟨.next J O,by simp only[zDi,hok _ _ _ h0,cond_true],hend J O h0⟩
 |x::xs,n,J,O,h0,hok,hs,hend=>by
  obtain⟨J1,O1,e1,o,e2,k⟩:=hs 0 x J O rfl h0
  cases o with
  |next J2 O2=>
   obtain⟨o3,e3,k3⟩:=zut I (xs:=xs) (n:=n+1) (J:=J2) (O:=O2) k hok (λm y J O hy hI=>by
    have:=hs (m+1) y J O (by simpa using hy) (by rw[show n+(m+1)=n+1+m by omega];exact hI);rw[show n+(m+1)=n+1+m by omega]at this;exact this) (λJ O hI=>hend J O (by rw[Lr,show n+(xs.length+1)=n+1+xs.length by omega];exact hI))
   exact⟨o3,by simp only[zDi,hok _ _ _ h0,cond_true,e1,ym,e2];exact e3,k3⟩
  |cont J2 O2=>
   obtain⟨o3,e3,k3⟩:=zut I (xs:=xs) (n:=n+1) (J:=J2) (O:=O2) k hok (λm y J O hy hI=>by
    have:=hs (m+1) y J O (by simpa using hy) (by rw[show n+(m+1)=n+1+m by omega];exact hI);rw[show n+(m+1)=n+1+m by omega]at this;exact this) (λJ O hI=>hend J O (by rw[Lr,show n+(xs.length+1)=n+1+xs.length by omega];exact hI))
   exact⟨o3,by simp only[zDi,hok _ _ _ h0,cond_true,e1,ym,e2];exact e3,k3⟩
  |brk J2 O2=>exact⟨.next J2 O2,by simp only[zDi,hok _ _ _ h0,cond_true,e1,ym,e2],k⟩
  |ret d O2=>exact⟨.ret d O2,by simp only[zDi,hok _ _ _ h0,cond_true,e1,ym,e2],k⟩
  |exc _ _ _=>exact k.elim
end
def zix{g:FG}{c:FT}{G:FE}{ok:Mem->Bool}{J:Loc}{Q:Wr}(I:Nat->Wm->Mem->Prop):∀{xs ys:Wm} {n:Nat} {O:Mem},I n ys O->(∀m ys O,I m ys O->ok O=true) ->
 (∀(m:Nat)(x:D)(ys:Wm)(O:Mem),xs[m]?=some x->I (n+m) ys O->WG g x J O λJ1 O1=>WT c J1 O1 λb O2=>(b=true->WE G J1 O2 λd O3=>I (n+m+1) (ys++[d]) O3)/\(b=false->I (n+m+1) ys O2)) ->
 (∀ys O,I (n+xs.length) ys O->Q (.loc O.length) (O++[.lst ys]))->WL g c G ok J xs ys O Q
 |[],ys,n,O,h0,hok,_,hend=>⟨_,_,by simp only[z4u,hok _ _ _ h0,cond_true],hend ys O h0⟩
 |x::xs,ys,n,O,h0,hok,hs,hend=>by
  obtain⟨J1,O1,e1,b,O2,e2,ht,hf⟩:=hs 0 x ys O rfl h0
  have step:∀ys2 O3,I (n+1) ys2 O3->WL g c G ok J xs ys2 O3 Q:=λys2 O3 h=>zix I (n:=n+1) h hok (λm y ys O hy hI=>by
   have:=hs (m+1) y ys O (by simpa using hy) (by rw[show n+(m+1)=n+1+m by omega];exact hI);rw[show n+(m+1)=n+1+m by omega]at this;exact this) (λys O hI=>hend ys O (by rw[Lr,show n+(xs.length+1)=n+1+xs.length by omega];exact hI))
  cases b with
  |true=>
   obtain⟨d,O3,e3,h3⟩:=ht rfl;obtain⟨d',O4,e4,q⟩:=step _ _ h3;exact⟨d',O4,by simp only[z4u,hok _ _ _ h0,cond_true,e1,ym,e2,e3];exact e4,q⟩
  |false=>
   obtain⟨d',O4,e4,q⟩:=step _ _ (hf rfl);exact⟨d',O4,by simp only[z4u,hok _ _ _ h0,cond_true,e1,ym,e2,cond_false];exact e4,q⟩
def zNd{g:FG}{body:FS}{ok:Mem->Bool}{nx:Loc->Mem->Prop}{rt:Wr}{xs:Wm}{J:Loc}{O:Mem}(I:Nat->Loc->Mem->Prop)(h0:I 0 J O)(hok:∀m J O,I m J O->ok O=true)
 (hs:∀(m:Nat)(x:D)(J:Loc)(O:Mem),xs[m]?=some x->I m J O->WG g x J O λJ1 O1=>WS body J1 O1 (I (m+1)) rt nx (I (m+1))) (hend:∀J O,I xs.length J O->nx J O):WFor g body ok xs J O nx rt :=
 zut I (n:=0) h0 hok (λm x J O hx h=>by
  rw[Nat.zero_add]at h ⊢;exact hs m x J O hx h) (λJ O h=>hend J O (by rw[Nat.zero_add]at h;exact h))
def z7p{g:FG}{c:FT}{G:FE}{ok:Mem->Bool}{J:Loc}{Q:Wr}{xs:Wm}{O:Mem}(I:Nat->Wm->Mem->Prop)(h0:I 0 [] O)(hok:∀m ys O,I m ys O->ok O=true)
 (hs:∀(m:Nat)(x:D)(ys:Wm)(O:Mem),xs[m]?=some x->I m ys O->WG g x J O λJ1 O1=>WT c J1 O1 λb O2=>(b=true->WE G J1 O2 λd O3=>I (m+1) (ys++[d]) O3)/\(b=false->I (m+1) ys O2))
 (hend:∀ys O,I xs.length ys O->Q (.loc O.length) (O++[.lst ys])):WL g c G ok J xs [] O Q :=
 zix I (n:=0) h0 hok (λm x ys O hx h=>by
  rw[Nat.zero_add]at h ⊢;exact hs m x ys O hx h) (λys O h=>hend ys O (by rw[Nat.zero_add]at h;exact h))
def z0j{j m:Nat}{x:D}(h:((yz j).map λ(k:Nat)=>D.int k)[m]?=some x):m<j/\x=.int m:=by
 have h1:=(List.getElem?_eq_some_iff.mp h).1;simp at h1;refine⟨h1,?_⟩;simp[h1]at h;exact h.symm
def zVm{α:Type}{g:FG}{c:FT}{G:FE}{ok:Mem->Bool}{J:Loc}{Q:Wr}{O:Mem}(e:α->D)(l:List α)(f:α->D)(p:α->Bool)(hok:∀O',tm O O'->ok O'=true)
 (hs:∀x∈l,∀O',tm O O'->WG g (e x) J O' λJ1 O1=>WT c J1 O1 λb O2=>b=p x/\tm O O2/\(b=true->WE G J1 O2 λd O3=>d=f x/\tm O O3))
 (hq:∀O',tm O O'->Q (.loc O'.length) (O'++[.lst ((l.filter p).map f)])):WL g c G ok J (l.map e) [] O Q:=by
 refine z7p (λm ys O'=>tm O O'/\ys=((l.take m).filter p).map f) ⟨.refl,by simp⟩ (λm ys O' h=>hok O' h.1) (λm x ys O' hx h=>?_) (λys O' h=>?_)
 ·rw[yk]at hx
  cases hy:l[m]? with
  |none=>rw[hy]at hx;cases hx
  |some y=>
   rw[hy]at hx;cases hx;obtain⟨J1,O1,e1,b,O2,e2,hb,k2,h3⟩:=hs y (No hy) O' h.1
   have ht:l.take (m+1)=l.take m++[y]:=by
    rw[Nz,hy];rfl
   refine⟨J1,O1,e1,b,O2,e2,λhb1=>?_,λhb1=>⟨k2,?_⟩⟩
   ·obtain⟨d,O3,e3,rfl,k3⟩:=h3 hb1;refine⟨_,_,e3,k3,?_⟩;rw[ht,List.filter_append,Nc,<-h.2,List.filter_cons_of_pos (by rw[<-hb,hb1])];rfl
   ·rw[ht,List.filter_append,Nc,<-h.2,List.filter_cons_of_neg (by rw[<-hb,hb1];exact yF)];simp
 ·rw[Lu,Ny]at h;rw[h.2];exact hq O' h.1
def zic{α:Type}{g:FG}{G:FE}{ok:Mem->Bool}{J:Loc}{Q:Wr}{O:Mem}(e:α->D)(l:List α)(f:α->D)(hok:∀O',tm O O'->ok O'=true)
 (hs:∀x∈l,∀O',tm O O'->WG g (e x) J O' λJ1 O1=>WE G J1 O1 λd O3=>d=f x/\tm O O3/\tm O O1)
 (hq:∀O',tm O O'->Q (.loc O'.length) (O'++[.lst (l.map f)])):WL g zph G ok J (l.map e) [] O Q :=
 zVm e l f (λ_=>true) hok (λx hx O' k=>by
  obtain⟨J1,O1,e1,d,O3,e3,h1,h2,h3⟩:=hs x hx O' k;exact⟨J1,O1,e1,true,O1,rfl,rfl,h3,λ_=>⟨d,O3,e3,h1,h2⟩⟩) (λO' k=>by rw[List.filter_eq_self.mpr (λ_ _=>rfl)];exact hq O' k)
def zKb{ds:Wm}(h:ds.length<=1000000):few ds=true:=decide_eq_true h
def zrb{n:Nat}{ds:Wm}{O O':Mem}(h:O[n]?=some (.lst ds))(k:tm O O'):zQo n ds O'=true:=Tu.mpr (k n _ h)
end M
namespace M
open PySem PySem.Spec PyProof.Rows L2
structure KB(L:Qf)(O O':Mem):Prop where
 len:O.length<=O'.length
 at_:∀(n:Nat)(o:tu),n∉L->O[n]?=some o->O'[n]?=some o
section
variable {L:Qf}{O O1 O2 O':Mem}{n:Nat}{o:tu}
def KB.refl:KB L O O:=⟨yo _,λ_ _ _ h=>h⟩
def KB.trans(a:KB L O O1)(b:KB L O1 O2):KB L O O2:=⟨yA a.len b.len,λn o h e=>b.at_ n o h (a.at_ n o h e)⟩
def KB.app{g:Mem}(a:KB L O O1):KB L O (O1++g):=⟨by simp;have:=a.len;omega,λn o h e=>zO (a.at_ n o h e)⟩
def KB.set{m:Nat}(a:KB L O O1)(h:m∈L\/O.length<=m):KB L O (O1.set m o):=⟨by simp;exact a.len,λn o' hn e=>by
 rw[yQ]
 ·exact a.at_ n o' hn e
 ·rintro rfl;rcases h with h|h
  ·exact hn h
  ·exact absurd (zR e) (by omega)⟩
def KB.of_keep(a:tm O O'):KB L O O':=⟨a.len,λn o _ e=>a n o e⟩
def KB.sub{L':Qf}(a:KB L O O')(h:∀n∈L,n∈L'\/O.length<=n):KB L' O O':=⟨a.len,λn o hn e=>a.at_ n o (λq=>by
 rcases h n q with h|h
 ·exact hn h
 ·exact absurd (zR e) (by omega)) e⟩
variable {G ψ χ:FE}{g g2:φ2}{J:Loc}{Q:Wr}{i j:Int}{d x y:D}{ds xs:Wm}
def zLq(h:WE G J O λx O1=>∃j:Int,x=.int j/\(-(2^62)<=j/\j<=1000000)/\Q (.loc O1.length) (O1++[.lst ((yz j.toNat).map λ(k:Nat) =>.int k)])):WE (zpn G) J O Q:=by
 obtain⟨x,O1,e1,j,rfl,h1,q⟩:=h;exact⟨_,_,by simp only[zpn,e1,ym];rw[decide_eq_true h1];rfl,q⟩
def zhA{n:Nat}{bs:List Bool}(h:O[n]?=some (.lst (bs.map .bl)))(q:Q (.bl (bs.any λb=>b)) O):WF zeB [.loc n] O Q:=⟨_,_,by simp[h,Le,Function.comp_def],q⟩
def z9z(q:Q (.int i) O):WF z9y [.int i] O Q:=⟨_,_,rfl,q⟩
def zOw{b:Bool}(q:Q (.int (if b then 1 else 0)) O):WF z9y [.bl b] O Q:=⟨_,_,rfl,q⟩
def zdx(q:Q (.int (if j<i then j else i)) O):WF z8v [.int i,.int j] O Q:=⟨_,_,rfl,q⟩
def zdA(q:Q (.int (if j>i then j else i)) O):WF zyB [.int i,.int j] O Q:=⟨_,_,rfl,q⟩
def zJz{c:FT}(h:WT c J O λb O1=>(b=true->WE G J O1 Q)/\(b=false->WE ψ J O1 Q)):WE (fIf c G ψ) J O Q:=by
 obtain⟨b,O1,e,h1,h2⟩:=h
 cases b with
 |true=>obtain⟨d,O2,e2,k⟩:=h1 rfl;exact⟨d,O2,by simp[e,e2],k⟩
 |false=>obtain⟨d,O2,e2,k⟩:=h2 rfl;exact⟨d,O2,by simp[e,e2],k⟩
def z1w{l:Nat}{n:Int}(h:O[l]?=some (.lst xs))(h1:n<=1000)(h2:-(2^62)<=n)(h3:xs.length<=1000)(q:Q (.loc O.length) (O++[.lst (yy n.toNat xs).flatten])):W2 zvj (.loc l) (.int n) O Q :=
 ⟨_,_,by simp only[zvj,h];rw[decide_eq_true ⟨h1,h2,h3⟩];rfl,q⟩
def z2A{lo hi:FO}(h:WE G J O λx O1=>WO lo J O1 λl O2=>WO hi J O2 λu O3=>∃n ds,x=.loc n/\O3[n]?=some (.lst ds)/\Q (.loc O3.length) (O3++[.lst (cutD ds l u)])):WE (fSl G lo hi) J O Q:=by
 obtain⟨x,O1,e1,l,O2,e2,u,O3,e3,n,ds,rfl,e4,q⟩:=h;exact⟨_,_,by simp[e1,e2,e3,e4]<;>rfl,q⟩
def zRB{R:Loc->Mem->Prop}(h:WE G J O λx O1=>WE ψ J O1 λy O2=>∃(n:Nat)(i:Int)(zs:Wm),x=.loc n/\y=.int i/\O2[n]?=some (.lst zs)/\(0<=i/\i<zs.length)/\R J (O2.set n (.lst (zs.set i.toNat d)))):WG (gAt G ψ) d J O R:=by
 obtain⟨x,O1,e1,y,O2,e2,n,i,zs,rfl,rfl,e3,hi,q⟩:=h;have e4:ixN zs.length i=some i.toNat:=by unfold ixN;rw[if_pos hi.1,if_pos hi.2]
 exact⟨_,_,by simp[e1,e2,e3,e4]<;>rfl,q⟩
end
abbrev nat(S:Qf):Wm:=S.map λ(k:Nat)=>D.int k
def zYr(a b:Qf):nat (a++b)=nat a++nat b:=Nc
def zTi{α:Type}(f:α->Nat)(l:List α):nat (l.map f)=l.map λa=>D.int (f a:Nat):=Ng
class Enc(α:Type) where
 d:α->D
 p:α->xB
 dep:Nat
 rd:∀(O:Mem)(n:Nat)(a:α),toP O (n+dep) (d a)=some (p a)
 eq:∀a b:α,Yc (p a) (p b)=true↔a=b
instance:Enc Int:=⟨.int,.int,1,λ_ _ _=>rfl,λa b=>by simp[Yc]⟩
instance:Enc Nat:=⟨λ(k:Nat) =>.int k,λ(k:Nat) =>.int k,1,λ_ _ _=>rfl,λa b=>by simp[Yc];omega⟩
instance:Enc Bool:=⟨.bl,.bool,1,λ_ _ _=>rfl,λa b=>by simp[Yc]⟩
abbrev onD:Qj->D
 |none =>.non
 |some k =>.int k
instance:Enc (Qj):=⟨onD,fun|none =>.none|some k =>.int k,1,λ_ _ a=>by cases a<;>rfl,λa b=>by cases a<;>cases b<;>simp[Yc];omega⟩
def z0i{α:Type}[Enc α]:∀xs ys:List α,Xa (xs.map Enc.p) (ys.map Enc.p)=true↔xs=ys
 |[],[]=>by simp[Xa]
 |[],y::ys=>by simp[Xa]
 |x::xs,[]=>by simp[Xa]
 |x::xs,y::ys=>by
  rw[Nf,Nf,Xa,yM,Enc.eq,z0i xs ys,YJ]
def SR{α:Type}[Enc α](O:Mem)(n:Nat):∀xs:List α,(xs.map Enc.d).mapM (toP O (n+Enc.dep α))=some (xs.map Enc.p)
 |[]=>rfl
 |x::xs=>by rw[Nf,Nb,SR O n xs,Enc.rd];rfl
instance instEncList{α:Type}[Enc α]:Enc (List α):=⟨λxs =>.tup (xs.map Enc.d),λxs =>.tuple (xs.map Enc.p),Enc.dep α+1,λO n xs=>by
 show((xs.map Enc.d).mapM (toP O (n+Enc.dep α))).bind (λps=>some (PyData.tuple ps))=_;rw[SR];rfl,λa b=>by rw[Yc];exact z0i a b⟩
def zfr{O:Mem}{α:Type}[Enc α](a:α)(h:Enc.dep α<=8):toP O 8 (Enc.d a)=some (Enc.p a):=by
 have:=Enc.rd O (8-Enc.dep α) a;rw[Nat.sub_add_cancel h]at this;exact this
def zIj{b:Bool}{p:Prop}[Decidable p](h:b=true↔p):b=decide p:=by
 cases b<;>simp_all
section
variable {G ψ χ:FE}{g g2:φ2}{J:Loc}{O:Mem}{Q:Wr}{i j:Int}{d x y:D}{ds xs:Wm}{α:Type}[Enc α][DecidableEq α]
def zDy(a b:α)(q:Q (.bl (decide (a=b))) O)(hx:x=Enc.d a:=by rfl)(hy:y=Enc.d b:=by rfl)(h:Enc.dep α<=8:=by decide):W2 gEq x y O Q:=by
 subst hx hy;exact zuB (zfr a h) (zfr b h) (by rw[zIj (Enc.eq a b)];exact q)
def z5q{n:Nat}(as:List α)(e:O[n]?=some (.lst (as.map Enc.d)))(h:Enc.dep α<=7):toP O 8 (.loc n)=some (.list (as.map Enc.p)):=by
 show(match O[n]? with
  |some (.lst ds)=>(ds.mapM (toP O 7)).bind λps=>some (PyData.list ps)
  |_=>none)=_
 rw[e];show((as.map Enc.d).mapM (toP O 7)).bind (λps=>some (PyData.list ps))=_;have:=SR O (7-Enc.dep α) as;rw[Nat.sub_add_cancel h]at this;rw[this];rfl
def zSy(as bs:List α){m n:Nat}(e1:O[m]?=some (.lst (as.map Enc.d)))(e2:O[n]?=some (.lst (bs.map Enc.d)))(q:Q (.bl (decide (as=bs))) O)(h:Enc.dep α<=7:=by decide):W2 gEq (.loc m) (.loc n) O Q :=
 zuB (z5q as e1 h) (z5q bs e2 h) (by rw[Yc,zIj (z0i as bs)];exact q)
def zQq(S:Qf):(nat S).all zve=true:=List.all_eq_true.mpr λx hx=>by
 obtain⟨k,_,rfl⟩:=List.mem_map.mp hx;rfl
def z2t(k:Nat):∀S:Qf,((nat S).any λd=>eqF d (.int k))=decide (k∈S):=λS=>by
 refine zIj ?_;rw[Ld];constructor
 ·rintro⟨x,hx,e⟩;obtain⟨j,hj,rfl⟩:=List.mem_map.mp hx;have h1:(j:Int)=k:=beq_iff_eq.mp (show((j:Int)==(k:Int))=true from e);have h2:j=k:=by omega
  exact h2▸hj
 ·intro h;exact⟨.int k,List.mem_map.mpr ⟨k,h,rfl⟩,(show((k:Int)==(k:Int))=true from beq_self_eq_true _)⟩
def zwm{k:Nat}{S:Qf}(h:items O y=some (nat S))(q:Q (.bl (!decide (k∈S))) O):W2 zoj (.int k) y O Q:=zPs h rfl (zQq S) (by rw[z2t];exact q)
def zJt(S:Qc):(S.map onD).all zve=true:=List.all_eq_true.mpr λx hx=>by
 obtain⟨k,_,rfl⟩:=List.mem_map.mp hx;cases k<;>rfl
def zEA(a b:Qj):eqF (onD a) (onD b)=decide (a=b):=by
 cases a<;>cases b<;>try rfl
 rename_i a b
 show(((a:Nat):Int)==(b:Nat))=decide (some a=some b);rw[Bool.eq_iff_iff,beq_iff_eq,decide_eq_true_iff,Xi,Int.natCast_inj]
def zBn{S:Qf}{i:Nat}(h:i<S.length):atI (nat S) (i:Int)=some (.int (S.getD i 0:Nat)):=zed (by simp[h])
end
section
variable {G ψ χ:FE}{g g2:φ2}{J:Loc}{O:Mem}{Q:Wr}{i j:Int}{d x y:D}{ds xs:Wm}
def znj{R:Wm->(Mem->Bool)->Mem->Prop}(h:WE G J O λx O1=>(∃ds,x=.tup ds/\R (zbh ds) yes O1)\/(∃ds,x=.fz ds/\R (zbh ds) yes O1)\/∃n ds,x=.loc n/\O1[n]?=some (.lst ds)/\R (zbh ds) (zQo n ds) O1):WI (zsn G) J O R:=by
 obtain⟨x,O1,e1,⟨ds,rfl,q⟩|⟨ds,rfl,q⟩|⟨n,ds,rfl,e2,q⟩⟩:=h
 ·exact⟨_,_,_,by simp[e1]<;>rfl,q⟩
 ·exact⟨_,_,_,by simp[e1]<;>rfl,q⟩
 ·exact⟨_,_,_,by simp[e1,e2]<;>rfl,q⟩
def zSs{α:Type}(f:α->D)(xs:List α):zbh (xs.map f)=xs.zipIdx.map λp =>.tup [.int (p.2:Nat),f p.1]:=by
 refine Li λi=>?_;unfold zbh;simp only[yk,Xp];cases xs[i]?<;>rfl
def z1r{α:Type}{f:α->D}{xs:List α}{m:Nat}{x:D}(h:(zbh (xs.map f))[m]?=some x):∃y,xs[m]?=some y/\x=.tup [.int m,f y]:=by
 obtain⟨z,hz,rfl⟩:=zjn h;rw[yk]at hz
 cases e:xs[m]? with
 |none=>rw[e]at hz;cases hz
 |some y=>rw[e]at hz;cases hz;exact⟨y,rfl,rfl⟩
def zGu{n:Nat}(h:O[n]?=some (.lst xs))(h1:zve d=true)(h2:xs.all zve=true)(q:Q (.int (xs.countP λy=>eqF y d:Nat)) O):WM zfk (.loc n) [d] O Q:=⟨_,_,by simp only[zfk,h,h1,h2,Bool.and_self,cond_true],q⟩
variable {nx:Loc->Mem->Prop}{rt:Wr}{bk ct:Loc->Mem->Prop}{p q:FS}
def zXB{i:Nat}{g:φ2}{x:D}(hx:J[i]?=some (some x))(h:WE G J O λy O1=>W2 g x y O1 λd O2=>nx (J.set i (some d)) O2):WS (zjA i g G) J O nx rt bk ct:=by
 obtain⟨y,O1,e1,d,O2,e2,k⟩:=h;exact⟨.next _ _,by simp only[zjA,hx,e1,ym,e2],k⟩
def zQA{i j:Int}{Q:Wr}(q:Q (.int (i+j)) O):W2 zGv (.int i) (.int j) O Q:=⟨_,_,rfl,q⟩
def zmp{c:FT}{body:FS}(I:Nat->Loc->Mem->Prop):∀{n m:Nat} {J:Loc} {O:Mem},m<n->I m J O ->
 (∀m J O,I m J O->WT c J O λb O1=>(b=true->WS body J O1 (λJ' O'=>∃m',m'<m/\I m' J' O') rt nx (λJ' O'=>∃m',m'<m/\I m' J' O'))/\(b=false->nx J O1))->WS (zdr n c body) J O nx rt bk ct
 |0,m,J,O,h,_,_=>absurd h (Nat.not_lt_zero _)
 |n+1,m,J,O,h,h0,hs=>by
  obtain⟨b,O1,e1,ht,hf⟩:=hs m J O h0
  cases b with
  |false=>exact⟨.next J O1,by show zfc c body (n+1) J O=_;simp only[zfc,e1,ym,cond_false],hf rfl⟩
  |true=>
   obtain⟨o,e2,k⟩:=ht rfl
   have step:∀J' O',(∃m',m'<m/\I m' J' O')->∃o,zfc c body n J' O'=some o/\Ek nx rt bk ct o:=λJ' O' ⟨m',hm',hI⟩=>by
    obtain⟨o,e,k⟩:=zmp I (n:=n) (m:=m') (by omega) hI hs;exact⟨o,e,k⟩
   cases o with
   |next J' O'=>obtain⟨o,e3,k3⟩:=step J' O' k;exact⟨o,by show zfc c body (n+1) J O=_;simp only[zfc,e1,ym,cond_true,e2];exact e3,k3⟩
   |cont J' O'=>obtain⟨o,e3,k3⟩:=step J' O' k;exact⟨o,by show zfc c body (n+1) J O=_;simp only[zfc,e1,ym,cond_true,e2];exact e3,k3⟩
   |brk J' O'=>exact⟨.next J' O',by show zfc c body (n+1) J O=_;simp only[zfc,e1,ym,cond_true,e2],k⟩
   |ret d O'=>exact⟨.ret d O',by show zfc c body (n+1) J O=_;simp only[zfc,e1,ym,cond_true,e2],k⟩
   |exc _ _ _=>exact k.elim
end
def zte{α:Type}(f:α->D)(xs:List α)(d:α):zbh (xs.map f)=(yz xs.length).map λ(k:Nat) =>.tup [.int k,f (xs.getD k d)]:=by
 refine Li λi=>?_;unfold zbh;simp only[yk,Xp]
 by_cases h:i<xs.length
 ·simp[h]
 ·simp[h]
def zLw{s:yj}{O:Mem}{Q:Wr}(q:Q (.bl true) O):WF (z5u .str) [.str s,.ty "str"] O Q:=zCB (c:=.str) (t:=.str) rfl q
abbrev oiD:Qk->D
 |none =>.non
 |some k =>.int k
instance:Enc (Qk):=⟨oiD,fun|none =>.none|some k =>.int k,1,λ_ _ a=>by cases a<;>rfl,λa b=>by cases a<;>cases b<;>simp[Yc]⟩
def zUA:D->Bool
 |.non=>true
 |_=>false
def z0m{d:D}{O:Mem}{Q:Wr}(h:zve d=true)(q:Q (.bl (!zUA d)) O):W2 z5k d .non O Q:=by
 cases d<;>first|exact⟨_,_,rfl,q⟩|cases h
def zqv(a:Qj):zve (onD a)=true:=by cases a<;>rfl
def zvy(ds:Wm)(h:Nat):Nat:=ds.countP λy=>eqF y (.int h)
def zDt(hZ:Qc)(h:Nat):zvy (hZ.map onD) h=hZ.count (some h):=by
 unfold zvy List.count;rw[List.countP_map]
 congr 1
 funext a
 have:=zEA a (some h);show eqF (onD a) (onD (some h))=_;rw[this];exact(Bool.beq_eq_decide_eq a (some h)).symm
def zLu{n:Nat}{hZ:Qc}{h:Nat}{O:Mem}{Q:Wr}(e:O[n]?=some (.lst (hZ.map onD)))(q:Q (.int (hZ.count (some h):Nat)) O):WM zfk (.loc n) [.int h] O Q :=
 zGu e rfl (zJt hZ) (by rw[show(hZ.map onD).countP (λy=>eqF y (.int h))=hZ.count (some h) from zDt hZ h];exact q)
def zQl{n m:Nat}{p:Nat->Bool}(h:p m=true)(kJ:m<n)(hb:∀j<m,p j=false):(yz n).find? p=some m:=by
 rw[List.find?_eq_some_iff_append];refine⟨h,yz m,(List.range' (m+1) (n-m-1)),?_,λa ha=>by simp[hb a (by simpa using ha)]⟩
 have:yz n=yz m++List.range' m (n-m):=by
  have e:n=m+(n-m):=by omega
  have:=List.range'_append_1 (s:=0) (m:=m) (n:=n-m);rw[<-e]at this;rw[List.range_eq_range',List.range_eq_range',<-this];simp
 rw[this,show n-m=(n-m-1)+1 by omega,List.range'_succ];simp
def zqg{n:Nat}{p:Nat->Bool}(h:∀j<n,p j=false):(yz n).find? p=none:=by
 rw[List.find?_eq_none];intro x hx;rw[h x (by simpa using hx)];exact yF
section
variable {G ψ χ:FE}{g g2:φ2}{J:Loc}{O:Mem}{Q:Wr}{i j:Int}{d x y:D}{ds xs:Wm}{hU:Wp}{n:Nat}
def zef(h:O[n]?=some (.dct hU)):zWc O (.loc n)=some hU:=by simp[h]
def z1i(h:O[n]?=some (.dcf hU)):zWc O (.loc n)=some hU:=by simp[h]
def zvx(h:zWc O x=some hU)(h2:zLd hU i=some d)(q:Q d O):W2 zYw x (.int i) O Q:=⟨_,_,by simp only[zYw,h,ym,h2],q⟩
def zmx(h:zWc O y=some hU)(q:Q (.bl (zLd hU i).isSome) O):W2 zgo (.int i) y O Q:=⟨_,_,by simp only[zgo,h,ym],q⟩
def zFA(h:zWc O y=some hU)(h2:hU.all (λp=>decide (0<=p.1/\p.1<1000))=true)(q:Q (.bl false) O):W2 zgo .non y O Q:=⟨_,_,by simp only[zgo,h,ym,h2,cond_true],q⟩
def z8u(h:zWc O y=some hU)(q:Q (.bl (!(zLd hU i).isSome)) O):W2 zol (.int i) y O Q:=⟨_,_,by simp only[zol,h,ym],q⟩
def zfq{R:Loc->Mem->Prop}(h:WE G J O λx O1=>WE ψ J O1 λy O2=>∃(n:Nat)(i:Int)(hU:Wp),x=.loc n/\y=.int i/\O2[n]?=some (.dct hU)/\hU.length<=1000000/\R J (O2.set n (.dct (zhs hU i d)))):WG (zbz G ψ) d J O R:=by
 obtain⟨x,O1,e1,y,O2,e2,n,i,hU,rfl,rfl,e3,hi,q⟩:=h;exact⟨_,_,by simp[e1,e2,e3,hi]<;>rfl,q⟩
def zIx(h:zWc O x=some hU)(q:Q (.loc O.length) (O++[.lst (znl hU)])):WF z4n [x] O Q:=⟨_,_,by simp only[z4n,h,ym],q⟩
def zuy{R:Wm->(Mem->Bool)->Mem->Prop}(h:WE G J O λx O1=>∃n hU,x=.loc n/\O1[n]?=some (.dct hU)/\R (znl hU) yes (O1.set n (.dcf hU))):WI (zay G) J O R:=by
 obtain⟨x,O1,e1,n,hU,rfl,e2,q⟩:=h;exact⟨_,_,_,by simp[e1,e2]<;>rfl,q⟩
def zLz(h:WE G J O λx O1=>∃n ds,x=.loc n/\O1[n]?=some (.lst ds)/\Q (.loc O1.length) (O1++[.lst ds.reverse])):WE (zav G) J O Q:=by
 obtain⟨x,O1,e1,n,ds,rfl,e2,q⟩:=h;exact⟨_,_,by simp[zav,e1,e2]<;>rfl,q⟩
end
end M
namespace M
open PySem PySem.Spec PyProof.Rows L2 PySem.Builtin PySem.Builtin.Str
section
variable {G:FE}{J:Loc}{O:Mem}{Q:Wr}
def zMd{m:GM}{α:FA}(h:WE G J O λx O1=>∃z,x=.str z/\WA α J O1 λds O2=>WM m (.str z) ds O2 Q):WE (z2c m G α) J O Q:=by
 obtain⟨d,O1,e,z,rfl,ds,O2,e2,d',O',e3,q⟩:=h;exact⟨d',O',by simp[e,e2,e3],q⟩
def zGk{n:Nat}{ys:Qx}{z:yj}(h:O[n]?=some (.lst (ys.map .str)))(hl:(ys.map (·.length)).sum+ys.length*z.length<=1000000)(q:Q (.str (YX z ys)) O):WM z2i (.str z) [.loc n] O Q :=
 ⟨_,_,by simp only[z2i,h,zNn,ym,decide_eq_true hl,cond_true],q⟩
def zRk{z y:yj}{ds:Wm}(hs:(xQ z y).map D.str=ds)(h:z.length<=1000000)(h1:1<=y.length)(q:Q (.loc O.length) (O++[.lst ds])):WM ztg (.str z) [.str y] O Q :=
 ⟨_,_,by simp only[ztg];rw[decide_eq_true ⟨h,h1⟩,hs];rfl,q⟩
def zex{x:yj}{n:Int}(h:intText? x=some n)(hl:x.length<=640)(q:Q (.int n) O):WF z8p [.str x] O Q :=
 ⟨_,_,by simp only[z8p];rw[decide_eq_true hl,h];rfl,q⟩
def zhk{a b:yj}(h:a.length+b.length<=1000000)(q:Q (.str (a++b)) O):W2 zpg (.str a) (.str b) O Q :=
 ⟨_,_,by simp only[zpg];rw[decide_eq_true h];rfl,q⟩
def zYl{a:yj}(h:a.length<=1000000)(q:Q (.int a.length) O):WF zIp [.str a] O Q :=
 ⟨_,_,by simp only[zIp];rw[decide_eq_true h];rfl,q⟩
def z4q{a b:yj}(q:Q (.bl (occurrences b a 0 b.length 1).isEmpty) O):W2 zZm (.str a) (.str b) O Q:=⟨_,_,rfl,q⟩
def zGw{z:yj}{i:Int}{c:Nat}(h:z.length<=1000000)(e:atI z.cps.toList i=some c)(q:Q (.str ⟨#[c]⟩) O):W2 zJw (.str z) (.int i) O Q :=
 ⟨_,_,by simp only[zJw];rw[decide_eq_true h,e];rfl,q⟩
def z8h{i:Int}(h:i.natAbs.log2<1920)(q:Q (.str (toString i)) O):WF zkf [.int i] O Q :=
 ⟨_,_,by simp only[zkf];rw[decide_eq_true h];rfl,q⟩
def z4w{R:Wm->(Mem->Bool)->Mem->Prop}(h:WE G J O λx O1=>∃z,x=.str z/\z.cps.all (· < 128)=true/\R (ztk z) yes O1):WI (z8A G) J O R:=by
 obtain⟨d,O1,e,z,rfl,h1,q⟩:=h;exact⟨_,_,_,by simp only[z8A,e,ym,h1,cond_true],q⟩
end
end M
namespace M
open PySem PySem.Spec PyProof.Rows L2
section
variable {G χ:FE}{ψ:FA}{J:Loc}{O:Mem}{Q:Wr}{c f m:yj}
def zRn(h:WE G J O λx O1=>∃n fs d,x=.loc n/\O1[n]?=some (.ins c fs)/\fs.lookup f=some d/\Q d O1):WE (zrs c f G) J O Q:=by
 obtain⟨x,O1,e,n,fs,d,rfl,h1,h2,q⟩:=h;exact⟨d,O1,by simp only[zrs,e,ym,h1,beq_self_eq_true,cond_true,h2],q⟩
def zZq{nx:Loc->Mem->Prop}{rt:Wr}{bk ct:Loc->Mem->Prop}(h:WE χ J O λy O1=>WE G J O1 λx O2=>∃n fs,x=.loc n/\O2[n]?=some (.ins c fs)/\fs.length<1000/\nx J (O2.set n (.ins c (zHi f y fs)))):WS (zqp c f G χ) J O nx rt bk ct:=by
 obtain⟨y,O1,e1,x,O2,e2,n,fs,rfl,h1,h2,q⟩:=h;exact⟨.next J _,by simp only[zqp,e1,e2,ym,h1,beq_self_eq_true,decide_eq_true h2,Bool.and_self,cond_true],q⟩
def zKe{R:Wm->Mem->Prop}(h:WE G J O λx O1=>∃n fs,x=.loc n/\O1[n]?=some (.ins c fs)/\fs.lookup m=none/\WA ψ J O1 λds O2=>R (.loc n::ds) O2):WA (zgc c m G ψ) J O R:=by
 obtain⟨x,O1,e,n,fs,rfl,h1,h2,ds,O2,e2,q⟩:=h;exact⟨_,O2,by simp only[zgc,e,ym,h1,h2,beq_self_eq_true,Option.isNone_none,Bool.and_self,cond_true,e2],q⟩
def z0w{F:FF}(h:WA ψ J O λds O1=>WF F (.loc O1.length::ds) (O1++[.ins c []]) λd O2=>d=.non/\Q (.loc O1.length) O2):WE (zes c F ψ) J O Q:=by
 obtain⟨ds,O1,e,d,O2,e2,rfl,q⟩:=h;exact⟨_,O2,by simp only[zes,e,ym,e2],q⟩
def zAy{g:GM}(h:WE G J O λx O1=>∃n hU,x=.loc n/\O1[n]?=some (.dct hU)/\WA ψ J O1 λds O2=>WM g (.loc n) ds O2 Q):WE (zxo g G ψ) J O Q:=by
 obtain⟨x,O1,e,n,hU,rfl,h1,ds,O2,e2,d,O3,e3,q⟩:=h;exact⟨d,O3,by simp only[zxo,e,ym,h1,e2,e3],q⟩
def zfA{n:Nat}{i:Int}{hU:Wp}{d:D}(h:O[n]?=some (.dct hU))(h2:zLd hU i=some d)(q:Q d (O.set n (.dct (zGx hU i)))):WM zJr (.loc n) [.int i] O Q:=⟨_,_,by simp only[zJr,h,h2,ym],q⟩
end
end M
namespace M
open PySem PySem.W PyProof.Rows L2
def zup{h:yU}:∀{as:Qv} {a:yg} {o:YH},(kOf as h).lookup a=some o->h.get? a=some o
 |[],a,o,e=>by cases e
 |b::as,a,o,e=>by
  unfold kOf at e;rw[Lj]at e
  cases hb:h.get? b with
  |none=>rw[hb]at e;exact zup (as:=as) e
  |some u=>
   rw[hb]at e
   change YD a ((b,u)::kOf as h)=some o at e
   rw[Lz]at e
   by_cases q:a==b
   ·rw[q]at e;cases e;rw[eq_of_beq q];exact hb
   ·rw[Bool.not_eq_true]at q;rw[q]at e;exact zup (as:=as) e
def zRy{h:yU}:(znw h).In h:=λ_ _ e=>zup e
def zyw(s:yR):zNx s=zSd s:=by cases s<;>rfl
def ztw(s:yR):zKx s=z9b s:=by cases s<;>rfl
def zQs(s:yR):zTs s=zo s:=by cases s<;>rfl
def zad{K:Frag}{a:yg}{nm qual:yj}{st:yR}(e:zOe K a qual=zjf nm qual st):∃(oc:yb)(od:Qw)(sl:Array (Option yb)) (kV dc pm:yb) (an:Qw) (cd ct:yb),
 K.lookup a=some ⟨oc,od,.func (fnOf nm qual (zSd st) (z9b st) (zo st) .none kV dc pm an cd ct),sl⟩/\codeIn K cd qual=true/\keepIn K (.ref a)=true:=by
 rw[<-zyw,<-ztw,<-zQs];unfold zOe at e
 split at e
 ·rename_i oc od fd sl hl
  obtain⟨x1,x2,x3,x4,x5,x6,x7,x8,x9,x10,x11,x12,x13,x14,x15⟩:=fd;have e:=Yn e;simp only[sj.mk.injEq]at e;obtain⟨rfl,rfl,rfl,rfl,rfl,rfl,rfl,rfl,rfl,h1,h2⟩:=e;exact⟨_,_,_,_,_,_,_,_,_,hl,h1,h2⟩
 ·cases e
def fnl{K:Frag}{nm:yj}{st:yR}{l l':List (Option sj)}(e:z9 K nm::l=zab nm st::l'):(∃(f:yg)(oc:yb)(od:Qw)(sl:Array (Option yb)) (kV dc pm:yb) (an:Qw) (cd ct:yb),
 nsIn K yf nm=some (some (.ref f))/\K.lookup f=some ⟨oc,od,.func (fnOf nm nm (zSd st) (z9b st) (zo st) .none kV dc pm an cd ct),sl⟩/\codeIn K cd nm=true/\keepIn K (.ref f)=true)/\l=l':=by
 obtain⟨h1,h2⟩:=yc e;refine⟨?_,h2⟩;unfold z9 at h1
 split at h1
 ·rename_i a ha
  obtain⟨oc,od,sl,kV,dc,pm,an,cd,ct,q⟩:=zad (show zOe K a nm=zjf nm nm st from h1);exact⟨a,oc,od,sl,kV,dc,pm,an,cd,ct,ha,q⟩
 ·cases h1
def fnc{K:Frag}{nm:yj}{st:yR}{l l':List (Option sj)}(e:z9 K nm::l=zab nm st::l'):(∃(f:yg)(fd:yP),nsIn K yf nm=some (some (.ref f))/\Fun K nm nm st f fd)/\l=l':=by
 obtain⟨⟨f,oc,od,sl,kV,dc,pm,an,cd,ct,a,l,c,k⟩,e⟩:=fnl e;exact⟨⟨f,_,a,z7e l c k⟩,e⟩
def zxg{K:Frag}{nm:yj}{i:Int}(e:zmh K nm=some i):∃t,nsIn K yf nm=some (some (.int i t)):=by
 unfold zmh at e
 split at e
 ·rename_i h
  cases e;exact⟨_,h⟩
 ·cases e
def z2o{K:Frag}{nm:yj}{i:yj}(e:z6m K nm=some i):∃t,nsIn K yf nm=some (some (.str i t)):=by
 unfold z6m at e
 split at e
 ·rename_i h
  cases e;exact⟨_,h⟩
 ·cases e
def SS{l:OpenLaw}{q:yu}{loose:Qx}{d:DefRec}{α:Type}{obs:Frag->α}{good:α}{N:Nat}(said:l.wellSaid=true)
 (left:LeftO l.prog q loose (λ_=>true) (λs=>obs (znw s.heap)) (λ_=>good) N) (hdef:defOf q l.name=some (d,[])) (hp:l.prog.theDef l.name=some (d.params,d.body,d.scope))
 (hk:kwWritten? d.params.kwonlyargs d.params.kw_defaults=some []) (ok:(chainsOk q&&opensWell l.prog&&(frees l.row.toRowW&&l.row.within.isEmpty))=true) (hb:l.prog.bare) (hw:l.row.toRowW.promised)
 (walk:∀K:Frag,obs K=good->WalkO q loose (λ_ _=>True) (λ_ h=>K.In h) l.row.toRowW d [] λf vs=>PySem.call f vs):l.Holds:=by
 refine holds_law said λsaid=>?_
 refine holds_open (r:=l.row) (q:=q) (loose:=loose) (Xt:=λ_=>true) (XP:=λ_ _=>True) (Yf:=λs=>obs (znw s.heap)) (Ya:=λ_=>good) (YP:=λ_ h=>∃K:Frag,obs K=good/\K.In h) (N:=N) left
  (λw s e=>⟨_,e,zRy⟩) (λw h h' ⟨K,e,k⟩ x=>⟨K,e,k.keeps x⟩) (λ_ _=>trivial) (λ_ _ _ _ _=>trivial) hdef hp hk (λs _=>?_) ?_ said ok hb hw (λw s₀ s₁ mg mb φ σ=>?_)
 ·exact(show RecFacts [] s.heap from⟨λx h=>(nomatch h),λx h=>(nomatch h),λc c' a hc=>(nomatch hc),λc fs hf=>(nomatch hf)⟩)
 ·show(!l.row.writes||true)=true;exact Bool.or_true _
 ·obtain⟨K,e,k⟩:=σ;exact walk K e w s₀ s₁ mg mb φ k
end M
namespace M
open PySem PySem.W PyProof.Rows L2
def z4v{K:Frag}{C:yg}{n:String}{bm:List yb}(e:zts K C=some (.type "type",n,.ref C::bm,true,false)) :
 ∃(nm q:yj)(N:yg)(bs:List yb)(sn:Qx)(sub:List yb)(ab:Bool)(col:Qq)(dd:Qw)(k0 k1 k2 k3 k5:Option yb),K.lookup C=some (xl nm q C N bs bm true sn sub ab col dd k0 k1 k2 k3 k5 n):=by
 unfold zts at e
 split at e
 ·rename_i c dd cd sl hl
  split at e
  ·rename_i k0 k1 k2 k3 m k5 hs
   obtain⟨x1,x2,x3,x4,x5,x6,x7,x8,x9,x10,x11⟩:=cd;have e:=Yn e;simp only[Prod.mk.injEq]at e;obtain⟨rfl,rfl,rfl,rfl,rfl⟩:=e;have:sl = #[k0,k1,k2,k3,some (.builtin m),k5]:=Array.toList_inj.mp hs;subst this;exact⟨_,_,_,_,_,_,_,_,_,_,_,_,_,_,hl⟩
  ·cases e
 ·cases e
def zct{K:Frag}{C:yg}(e:(clsIn K C).isSome=true):∃cd,clsIn K C=some cd:=Option.isSome_iff_exists.mp e
end M
namespace M
open PySem PySem.W PyProof.Rows L2
def zzm:∀(es:List xt)(l:List (yj×yb)),es.mapM zpj=some l->(es.all λe=>isExactStrKey e.key)=true/\∀s v,l.lookup s=some v->∃i en,es.findIdx? (·.key.isStr s)=some i/\es[i]?=some en/\en.val=v
 |[],l,h=>by
  cases h;exact⟨rfl,λs v e=>by cases e⟩
 |e::es,l,h=>by
  rw[Nb]at h
  cases hr:zpj e with
  |none=>rw[hr]at h;cases h
  |some p=>
   rw[hr]at h
   cases hm:es.mapM zpj with
   |none=>rw[hm]at h;cases h
   |some l'=>
    rw[hm]at h;cases h;obtain⟨h1,h2⟩:=zzm es l' hm;unfold zpj at hr
    split at hr
    ·rename_i s0 t hk
     cases hr;refine⟨by rw[La,h1,hk];rfl,λs v hl=>?_⟩;rw[Lz]at hl;have es0:e.key.isStr s=(s0==s):=by rw[hk];rfl
     by_cases q:s==s0
     ·rw[q]at hl;cases hl;have q':=eq_of_beq q;subst q';exact⟨0,e,by rw[List.findIdx?_cons,es0];simp,rfl,rfl⟩
     ·rw[Bool.not_eq_true]at q;rw[q]at hl;obtain⟨i,en,g1,g2,g3⟩:=h2 s v hl
      have q2:(s0==s)=false:=by
       cases z:s0==s with
       |false=>rfl
       |true=>rw[eq_of_beq z]at q;simp at q
      refine⟨i+1,en,?_,by simpa using g2,g3⟩;rw[List.findIdx?_cons,es0,q2,g1];rfl
    ·cases hr
def zzt{K:Frag}{x:yj}{l:List (yj×yb)}{tb:List (yj×yj)}(e:zGp K x=some (.type "dict",l))(ht:∀s c,tb.lookup s=some c->∃f,l.lookup s=some (.ref f)/\nsIn K yf c=some (some (.ref f))):zrr K x tb/\∃a,nsIn K yf x=some (some (.ref a)):=by
 unfold zGp at e
 split at e
 ·rename_i a ha
  split at e
  ·rename_i c od es ep sl hl
   obtain⟨l',em,e'⟩:=Option.map_eq_some_iff.mp e;cases e';obtain⟨h1,h2⟩:=zzm _ _ em;refine⟨⟨a,_,es,_,ha,hl,rfl,rfl,?_,λs c hc=>?_⟩,a,ha⟩
   ·rw[<-Array.all_toList];exact h1
   ·obtain⟨f,g1,g2⟩:=ht s c hc;obtain⟨i,en,k1,k2,k3⟩:=h2 s _ g1;refine⟨i,en,f,?_,?_,k3,g2⟩
    ·obtain⟨L⟩:=es;rw[List.findIdx?_toArray];exact k1
    ·rw[<-Array.getElem?_toList];exact k2
  ·cases e
 ·cases e
def dicNil{K:Frag}{l:List (yj×yb)}:∀s c,([]:List (yj×yj)).lookup s=some c->∃f,l.lookup s=some (.ref f)/\nsIn K yf c=some (some (.ref f)):=λs c h=>by cases h
def sD{K:Frag}{l:List (yj×yb)}{tb:List (yj×yj)}{a d:yj}{g:yg}(h1:l.lookup a=some (.ref g))(h2:nsIn K yf d=some (some (.ref g)))(r:∀s c,tb.lookup s=some c->∃f,l.lookup s=some (.ref f)/\nsIn K yf c=some (some (.ref f))):∀s c,((a,d)::tb).lookup s=some c->∃f,l.lookup s=some (.ref f)/\nsIn K yf c=some (some (.ref f)):=λs c h=>by
 rw[Lz]at h
 by_cases q:s==a
 ·rw[q]at h;cases h;have q:=eq_of_beq q;subst q;exact⟨g,h1,h2⟩
 ·rw[Bool.not_eq_true]at q;rw[q]at h;exact r s c h
end M
namespace M
open PySem PySem.W PyProof.Rows L2
def zFq:∀(es:List xt)(l:List (yj×Int)),es.mapM zWo=some l->∃l',es.mapM zpj=some l'/\∀s i,l.lookup s=some i->∃t,l'.lookup s=some (.int i t)
 |[],l,h=>by
  cases h;exact⟨[],rfl,λs i e=>by cases e⟩
 |e::es,l,h=>by
  rw[Nb]at h
  cases hr:zWo e with
  |none=>rw[hr]at h;cases h
  |some p=>
   rw[hr]at h
   cases hm:es.mapM zWo with
   |none=>rw[hm]at h;cases h
   |some l1=>
    rw[hm]at h;cases h;obtain⟨l2,h1,h2⟩:=zFq es l1 hm;unfold zWo at hr
    split at hr
    ·rename_i s0 t0 i0 t1 hk hv
     cases hr;have hd:zpj e=some (s0,.int i0 t1):=by unfold zpj;rw[hk,hv]
     refine⟨(s0,.int i0 t1)::l2,by rw[Nb,hd,h1];rfl,λs i hl=>?_⟩;rw[Lz]at hl ⊢
     cases q:s==s0 with
     |true=>rw[q]at hl;cases hl;exact⟨t1,rfl⟩
     |false=>rw[q]at hl;exact h2 s i hl
    ·cases hr
def zBu{K:Frag}{x:yj}{tb:List (yj×Int)}(e:z6p K x=some (.type "dict",true,tb)):zeq K x tb/\∃a,nsIn K yf x=some (some (.ref a)):=by
 unfold z6p at e
 split at e
 ·rename_i a ha
  split at e
  ·rename_i c od es ep sl hl
   obtain⟨l',em,e'⟩:=Option.map_eq_some_iff.mp e;simp only[Prod.mk.injEq]at e';obtain⟨hc,hn,rfl⟩:=e';obtain⟨l2,em2,hv⟩:=zFq _ _ em;obtain⟨h1,h2⟩:=zzm _ _ em2;refine⟨⟨a,_,es,_,ha,hl,hc,Option.isNone_iff_eq_none.mp hn,rfl,?_,λs i hs=>?_⟩,a,ha⟩
   ·rw[<-Array.all_toList];exact h1
   ·obtain⟨t,g1⟩:=hv s i hs;obtain⟨j,en,k1,k2,k3⟩:=h2 s _ g1;refine⟨j,en,t,?_,?_,k3⟩
    ·obtain⟨L⟩:=es;rw[List.findIdx?_toArray];exact k1
    ·rw[<-Array.getElem?_toList];exact k2
  ·cases e
 ·cases e
end M
namespace P
local macro_rules | `(tactic| walk_at "s") => `(tactic| exact ⟨rfl, rfl, rfl, by decide +kernel, rfl, by decide +kernel, by decide +kernel⟩)
open PySem PySem.Spec PyProof.Rows L2 M
def top(i:Nat):yR:=PySem.Challenge.pw_keynests_k67_a_desk_of_thirty_keys.main.body.getD i (.Pass ⟨0,0,0,0⟩)
def tabT:List (yj×Int):=[("put",2),("out",2),("has",2),("where",2),("keys",1),("nest",2),("left",1),("rule",1)]
def ansT:List (yj×yj):=[("put","answer_put"),("out","answer_out"),("keys","answer_keys"),("renew","answer_renew")]
def zXe:Qx:=["_law_script","_law_k","_law_number"]
def zPe:FS:=(zfb (z6c 2 (fC (.int 0))) (zfb (sIf (zdb (zy (zNj λi j=>decide (j<i)) (zw zxl (zi (zp 0) zC)) (fC (.int 0)))) (z6c 2 (zy z5p (zy gIx (zp 0) (zy z5p (zp 1) (zw zxl (zi (zp 0) zC)))) (fC (.int 2305843009213693951)))) z1b) (zfb (z6c 2 (zy z5p (zy zah (zy zah (zy zah (zy zvj (zp 2) (fC (.int 48271))) (zy zvj (zy zvj (zp 1) (zp 1)) (fC (.int 40692)))) (zy zvj (fC (.int 7)) (zp 1))) (fC (.int 11))) (fC (.int 2147483647)))) (zbc (zy z5p (zy zvj (zp 2) (fC (.int 1181783497276652981))) (fC (.int 2305843009213693951)))))))
def zRc:FF:=λds O=>zvb (zPe (zG zXe ds) O)
def zsd:Qx:=["_law_script","_law_k"]
def zxd:FS:=(zfb (sIf (zdb (zy (zNj λi j=>decide (i<j)) (zp 1) (zw zxl (zi (zp 0) zC)))) (zbc (zy gIx (zp 0) (zp 1))) z1b) (zbc (zw zRc (zi (zp 0) (zi (zp 1) zC)))))
def z5b:FF:=λds O=>zvb (zxd (zG zsd ds) O)
def zfm:Qx:=["_law_script","_law_k","_law_cell"]
def z3i:FS:=(zfb (z6c 2 (zw z5b (zi (zp 0) (zi (zp 1) zC)))) (zbc (zsl (zi (zy z5p (zp 2) (fC (.int 2))) (zi (zy zfz (zp 2) (fC (.int 2))) (zi (zw zxl (zi (zp 0) zC)) (zi (zy zvj (fC (.int 101)) (zp 1)) zC)))))))
def zWg:FF:=λds O=>zvb (z3i (zG zfm ds) O)
def ztf:Qx:=["_law_pen_here","_law_size","_law_digit","_law_at","_law_number"]
def zGf:FS:=(zfb (sIf (zdb (zy gEq (zy gIx (zp 0) (fC (.int 0))) (fC (.int 0)))) (zfb (z6c 2 (zy z5p (zy gIx (zp 0) (fC (.int 1))) (zp 1))) (zfb (z3u (zy zfz (zy gIx (zp 0) (fC (.int 1))) (zp 1)) (gAt (zp 0) (fC (.int 1)))) (zbc (zp 2)))) z1b) (zfb (z3u (zy zah (zy gIx (zp 0) (fC (.int 3))) (fC (.int 1))) (gAt (zp 0) (fC (.int 3)))) (zfb (z6c 3 (zy gIx (zp 0) (fC (.int 3)))) (zfb (z6c 4 (zy zvj (zy z5p (zy gIx (zp 0) (fC (.int 1))) (fC (.int 2305843009213693951))) (fC (.int 48271)))) (zfb (z6c 4 (zy z5p (zy zah (zy zah (zy zah (zp 4) (zy zvj (zy zvj (zp 3) (zp 3)) (fC (.int 40692)))) (zy zvj (fC (.int 7)) (zp 3))) (fC (.int 11))) (fC (.int 2147483647)))) (zbc (zy z5p (zy zfz (zy z5p (zy zvj (zp 4) (fC (.int 1181783497276652981))) (fC (.int 2305843009213693951))) (fC (.int 64))) (zp 1))))))))
def zM:FF:=λds O=>zvb (zGf (zG ztf ds) O)
def zdi:FE:=(zto (zi (zy zah (fC (.int 1)) (zw zM (zi (zp 1) (zi (zy zxs (zp 2) (fC (.int 1))) zC)))) (zi (zw zM (zi (zp 1) (zi (zp 2) zC))) zC)))
def z6h:FE:=(zy zah (fC (.int 8)) (zw zM (zi (zp 1) (zi (fC (.int 2)) zC))))
def zek:Qx:=["_law_pen_here","_law_many","_law_rooms","_law_size","_law_turns"]
def zfg:FS:=(zfb (z6c 1 (zy zah (fC (.int 4)) (zw zM (zi (zp 0) (zi (fC (.int 7)) zC))))) (zfb (z6c 2 (zw zEg (zi (fLC 1 [0] (z2k (zi (zp 1) zC)) (gN 0) zph z6h) zC))) (zfb (z6c 3 (zy gIx (zsl (zi (fC (.int 10007)) (zi (fC (.int 30)) zC))) (zw zM (zi (zp 0) (zi (fC (.int 2)) zC))))) (zfb (z6c 4 (zw zEg (zi (fLC 1 [0,3] (z2k (zi (zy zah (fC (.int 2)) (zw zM (zi (zp 0) (zi (fC (.int 2)) zC)))) zC)) (gN 0) zph zdi) zC))) (zbc (zto (zi (zp 2) (zi (zp 4) zC))))))))
def z1f:FF:=λds O=>zvb (zfg (zG zek ds) O)
def zlg:Qx:=["self","rule"]
def zIc:FS:=(zfb (zqp "Shelf" "kept_rule" (zp 0) (zp 1)) (zqp "Shelf" "nest_of" (zp 0) zaB))
def zGc:FF:=λds O=>zvb (zIc (zG zlg ds) O)
def zbj:Qx:=["text"]
def zDe:FS:=(sIf (z9n (zdb (zw (z5u .str) (zi (zp 0) (zi (fC (.ty "str")) zC))))) zig z1b)
def zIe:FF:=λds O=>zvb (zDe (zG zbj ds) O)
def zse:FE:=(zy zZm (zp 0) (fC (.str "0123456789")))
def zZh:Qx:=["word"]
def zuc:FS:=(zfb (sIf (zJs (zdb (zy gEq (zw zIp (zi (zp 0) zC)) (fC (.int 0)))) (zJs (zdb (zy (zNj λi j=>decide (j<i)) (zw zIp (zi (zp 0) zC)) (fC (.int (60))))) (zdb (zw zeB (zi (fLC 1 [] (z8A (zp 0)) (gN 0) zph zse) zC))))) zig z1b) (zfb (sIf (zht (zdb (zy gEq (zy zJw (zp 0) (fC (.int 0))) (fC (.str "0")))) (zdb (zy (zNj λi j=>decide (j<i)) (zw zIp (zi (zp 0) zC)) (fC (.int 1))))) zig z1b) (zbc (zw z8p (zi (zp 0) zC)))))
def zxb:FF:=λds O=>zvb (zuc (zG zZh ds) O)
def zmg:FE:=(zw zxb (zi (zp 0) zC))
def zgh:Qx:=["word"]
def ztd:FS:=(zbc (zw zEg (zi (fLC 1 [] (zWf (z2c ztg (zp 0) (zi (fC (.str ",")) zC))) (gN 0) zph zmg) zC)))
def zzc:FF:=λds O=>zvb (ztd (zG zgh ds) O)
def z4i:Qx:=["thing","fewest","most"]
def zSi:FS:=(zbc (zIv (zw (z5u .tup) (zi (zp 0) (zi (fC (.ty "tuple")) zC))) (z4s (zNj λi j=>decide (i<=j)) (zNj λi j=>decide (i<=j)) (zp 1) (zw zxl (zi (zp 0) zC)) (zp 2))))
def zpc:FF:=λds O=>zvb (zSi (zG z4i ds) O)
def zsh:Qx:=["thing","greatest"]
def zvh:FS:=(zbc (zIv (zw (z5u .int) (zi (zp 0) (zi (fC (.ty "int")) zC))) (zIv (zIB (zw (z5u .bl) (zi (zp 0) (zi (fC (.ty "bool")) zC)))) (z4s (zNj λi j=>decide (i<=j)) (zNj λi j=>decide (i<=j)) (fC (.int 0)) (zp 0) (zp 1)))))
def zpe:FF:=λds O=>zvb (zvh (zG zsh ds) O)
def zue:FE:=(zw zpe (zi (zp 0) (zi (zp 1) zC)))
def zgf:Qx:=["thing","fewest","most","greatest"]
def znc:FS:=(zbc (zIv (zw zpc (zi (zp 0) (zi (zp 1) (zi (zp 2) zC)))) (zw zRA (zi (fLC 1 [3] (zWf (zp 0)) (gN 0) zph zue) zC))))
def zzb:FF:=λds O=>zvb (znc (zG zgf ds) O)
def z9k:Qx:=["thing"]
def zYf:FS:=(zbc (zw zzb (zi (zp 0) (zi (fC (.int 1)) (zi (fC (.int (10))) (zi (fC (.int (9))) zC))))))
def zAf:FF:=λds O=>zvb (zYf (zG z9k ds) O)
def z9i:FE:=(zw zzb (zi (zp 0) (zi (fC (.int 2)) (zi (fC (.int 2)) (zi (zy zxs (fC (.int (10007))) (fC (.int 1))) zC)))))
def zim:Qx:=["thing"]
def z7g:FS:=(zbc (zIv (zw zpc (zi (zp 0) (zi (fC (.int 2)) (zi (fC (.int 3)) zC)))) (zw zRA (zi (fLC 1 [] (zWf (zp 0)) (gN 0) zph z9i) zC))))
def z2g:FF:=λds O=>zvb (z7g (zG zim ds) O)
def zRo:Qx:=["thing"]
def z2h:FS:=(zbc (zIv (zw zpc (zi (zp 0) (zi (fC (.int 2)) (zi (fC (.int 2)) zC)))) (zIv (zw zAf (zi (zy gIx (zp 0) (fC (.int 0))) zC)) (zw z2g (zi (zy gIx (zp 0) (fC (.int 1))) zC)))))
def z1h:FF:=λds O=>zvb (z2h (zG zRo ds) O)
def zzi:FE:=(zw zzc (zi (zp 0) zC))
def zOk:Qx:=["text","words","rule"]
def zCf:FS:=(zfb (zcp (zw zIe (zi (zp 0) zC))) (zfb (z6c 1 (z2c ztg (zp 0) (zi (fC (.str " ")) zC))) (zfb (z6c 2 (zto (zi (zw zzc (zi (zy gIx (zp 1) (fC (.int 0))) zC)) (zi (zw zEg (zi (fLC 1 [] (zWf (fSl (zp 1) (zbB (fC (.int 1))) pNo)) (gN 0) zph zzi) zC)) zC)))) (zfb (sIf (z9n (zdb (zw z1h (zi (zp 2) zC)))) zig z1b) (zbc (zp 2))))))
def zpd:FF:=λds O=>zvb (zCf (zG zOk ds) O)
def zAg:Qx:=["self","text"]
def z7c:FS:=(zqp "Desk" "shelf" (zp 0) (zes "Shelf" zGc (zi (zw zpd (zi (zp 1) zC)) zC)))
def zfd:FF:=λds O=>zvb (z7c (zG zAg ds) O)
def zSh:FE:=(zy zpg (zy zpg (zw zkf (zi (zp 0) zC)) (fC (.str ","))) (zw zkf (zi (zp 1) zC)))
def zFh:FE:=(zw zkf (zi (zp 0) zC))
def zPk:Qx:=["_law_rule_here","_law_bits"]
def z2f:FS:=(zfb (z6c 1 (zsl (zi (z2c z2i (fC (.str ",")) (zi (fLC 1 [] (zWf (zy gIx (zp 0) (fC (.int 0)))) (gN 0) zph zFh) zC)) zC))) (zbc (z2c z2i (fC (.str " ")) (zi (zy zah (zp 1) (fLC 2 [] (zWf (zy gIx (zp 0) (fC (.int 1)))) (gT 2 (zDc (gN 0) (zDc (gN 1) zVi))) zph zSh)) zC))))
def zme:FF:=λds O=>zvb (z2f (zG zPk ds) O)
def zpr:Qx:=["words"]
def zCj:FS:=(zfb (sIf (zdb (zy gEq (zy gIx (zp 0) (fC (.int 0))) (fC (.str "renew")))) (zbc (zy (zNj λi j=>decide (j<=i)) (zw zxl (zi (zp 0) zC)) (fC (.int 2)))) z1b) (zfb (sIf (zJs (zdb (zy gEq (zy gIx (zp 0) (fC (.int 0))) (fC (.str "fits")))) (zdb (zy gEq (zy gIx (zp 0) (fC (.int 0))) (fC (.str "most"))))) zig z1b) (zbc (zy gEq (zdB "WORD_COUNTS" tabT (fC (.own "WORD_COUNTS")) (zi (zy gIx (zp 0) (fC (.int 0))) zC)) (zw zxl (zi (zp 0) zC))))))
def zZj:FF:=λds O=>zvb (zCj (zG zpr ds) O)
def zNk:Qx:=["self","key"]
def zgg:FS:=(zbc (zy zgo (zp 1) (zrs "Shelf" "nest_of" (zp 0))))
def zjd:FF:=λds O=>zvb (zgg (zG zNk ds) O)
def zaf:Qx:=["self"]
def zqc:FS:=(zbc (zw zyq (zi (zrs "Shelf" "nest_of" (zp 0)) zC)))
def zV:FF:=λds O=>zvb (zqc (zG zaf ds) O)
def zLn:FE:=(zp 0)
def zNu:FT:=(zdb (zy gEq (zp 1) (zp 2)))
def zYs:Qx:=["laying","nest"]
def zgn:FS:=(zbc (fLC 2 [1] (zsn (zp 0)) (gT 2 (zDc (gN 0) (zDc (gN 1) zVi))) zNu zLn))
def ztn:FF:=λds O=>zvb (zgn (zG zYs ds) O)
def zKh:FS:=(sIf (zdb (zy zol (zp 4) (zp 3))) (zfb (z3u (zto (zi (zp 7) (zi (zy gIx (zp 5) (zp 6)) zC))) (zbz (zp 3) (zp 4))) (zcp (zPn znh (zp 5) (zi (zp 4) zC)))) z1b)
def zSf:FS:=(zzo (zWf (zy gIx (zy gIx (zp 0) (fC (.int 1))) (zp 7))) (gN 4) zKh)
def zii:FS:=(zfb (zzo (zWf (zw ztn (zi (zp 1) (zi (zy gIx (zp 5) (zp 6)) zC)))) (gN 7) zSf) (zjA 6 zGv (fC (.int 1))))
def zQh:FS:=(z3u (zto (zi (zp 2) (zi (fC .non) zC))) (zbz (zp 3) (zp 4)))
def zfl:Qx:=["web","laying","key","pushes","nest","nests","at","other"]
def zUf:FS:=(zfb (z6c 3 zaB) (zfb (zzo (zWf (zy gIx (zy gIx (zp 0) (fC (.int 1))) (zp 2))) (gN 4) zQh) (zfb (z6c 5 (zw z4n (zi (zp 3) zC))) (zfb (z6c 6 (fC (.int 0))) (zfb (zdr 100000 (zdb (zy (zNj λi j=>decide (i<j)) (zp 6) (zw zxl (zi (zp 5) zC)))) zii) (zbc (zp 3)))))))
def zJf:FF:=λds O=>zvb (zUf (zG zfl ds) O)
def zNv:FE:=(zy zxs (zp 1) (zPn zfk (zp 2) (zi (zp 0) zC)))
def zRw:Qx:=["web","laying"]
def zSl:FS:=(zbc (fLC 2 [1] (zsn (zy gIx (zp 0) (fC (.int 0)))) (gT 2 (zDc (gN 0) (zDc (gN 1) zVi))) zph zNv))
def zTk:FF:=λds O=>zvb (zSl (zG zRw ds) O)
def zmm:FS:=(zfb (zcp (zPn znh (zp 2) (zi (zto (zi (zy gIx (zy zYw (zp 0) (zp 1)) (fC (.int 0))) (zi (zp 1) zC))) zC))) (z6c 1 (zy gIx (zy zYw (zp 0) (zp 1)) (fC (.int 1)))))
def zVq:Qx:=["pushes","nest","row"]
def zVj:FS:=(zfb (z6c 2 (zsl zC)) (zfb (zdr 100000 (zdb (zy z5k (zp 1) (fC .non))) zmm) (zbc (zav (zp 2)))))
def zHj:FF:=λds O=>zvb (zVj (zG zVq ds) O)
def zTl:FE:=(zp 0)
def z1l:FT:=(zJs (zdb (zy gEq (zp 0) (zp 2))) (zdb (zy zgo (zp 1) (zp 3))))
def zXl:FS:=(sIf (zdb (zy (zNj λi j=>decide (j<i)) (zy gIx (zp 4) (zp 5)) (fC (.int 0)))) (zbc (zto (zi (fC (.str "put")) (zi (zw zHj (zi (zp 3) (zi (zp 5) zC))) zC)))) z1b)
def zdq:Qx:=["web","laying","key","pushes","room","nest"]
def z4j:FS:=(zfb (z6c 3 (zw zJf (zi (zp 0) (zi (zp 1) (zi (zp 2) zC))))) (zfb (z6c 4 (zw zTk (zi (zp 0) (zi (zp 1) zC)))) (zfb (zzo (zay (zp 3)) (gN 5) zXl) (zbc (zto (zi (fC (.str "full")) (zi (fLC 2 [2,3] (zsn (zp 1)) (gT 2 (zDc (gN 0) (zDc (gN 1) zVi))) z1l zTl) zC)))))))
def zof:FF:=λds O=>zvb (z4j (zG zdq ds) O)
def zbo:FE:=(zy z5p (zy z5p (zy zah (zy zvj (zy gIx (zp 0) (fC (.int 0))) (zp 1)) (zy gIx (zp 0) (fC (.int 1)))) (fC (.int (10007)))) (zp 2))
def zfu:Qx:=["rule","key","nests"]
def z5m:FS:=(zfb (z6c 2 (zw zxl (zi (zy gIx (zp 0) (fC (.int 0))) zC))) (zbc (zw zEg (zi (fLC 1 [1,2] (zWf (zy gIx (zp 0) (fC (.int 1)))) (gN 0) zph zbo) zC))))
def zwn:FF:=λds O=>zvb (z5m (zG zfu ds) O)
def z9l:FE:=(zw zwn (zi (zp 1) (zi (zp 0) zC)))
def zOq:Qx:=["rule","keys"]
def z5j:FS:=(zbc (zto (zi (zy gIx (zp 0) (fC (.int 0))) (zi (zw zEg (zi (fLC 1 [0] (zWf (zp 1)) (gN 0) zph z9l) zC)) zC))))
def zZf:FF:=λds O=>zvb (z5j (zG zOq ds) O)
def zng:FE:=(zy zYw (zrs "Shelf" "nest_of" (zp 1)) (zp 0))
def zkh:Qx:=["self"]
def zrd:FS:=(zbc (fLC 1 [0] (zWf (zw zV (zgc "Shelf" "all_there" (zp 0) zC))) (gN 0) zph zng))
def zCc:FF:=λds O=>zvb (zrd (zG zkh ds) O)
def z3d:FS:=(z3u (zy gIx (zp 5) (fC (.int 1))) (zbz (zrs "Shelf" "nest_of" (zp 0)) (zy gIx (zp 5) (fC (.int 0)))))
def zZd:FE:=(zto (zi (zy gIx (zp 1) (zy gIx (zp 0) (fC (.int 0)))) (zi (zy gIx (zp 0) (fC (.int 1))) zC)))
def z1d:FE:=(zy gIx (zp 1) (zp 0))
def zbl:Qx:=["self","key","keys","told","row","push"]
def zcg:FS:=(zfb (sIf (zdb (zw zjd (zgc "Shelf" "has" (zp 0) (zi (zp 1) zC)))) (zEo "Twice" (zi (fC (.str "the key is there already")) zC)) z1b) (zfb (z6c 2 (zy zah (zw zV (zgc "Shelf" "all_there" (zp 0) zC)) (zsl (zi (zp 1) zC)))) (zfb (sIf (zdb (zy (zNj λi j=>decide (j<i)) (zw zxl (zi (zp 2) zC)) (fC (.int (30))))) (zNf "Full" "some" (zi (zw zkg (zi (zp 2) zC)) zC)) z1b) (zfb (z6c 3 (zw zof (zi (zw zZf (zi (zrs "Shelf" "kept_rule" (zp 0)) (zi (zp 2) zC))) (zi (zy zah (zw zCc (zgc "Shelf" "laying" (zp 0) zC)) (zsl (zi (fC .non) zC))) (zi (zy zxs (zw zxl (zi (zp 2) zC)) (fC (.int 1))) zC))))) (zfb (sIf (zdb (zy gEq (zy gIx (zp 3) (fC (.int 0))) (fC (.str "full")))) (zNf "Full" "some" (zi (zw zkg (zi (fLC 1 [2] (zWf (zy gIx (zp 3) (fC (.int 1)))) (gN 0) zph z1d) zC)) zC)) z1b) (zfb (z6c 4 (fLC 1 [2] (zWf (zy gIx (zp 3) (fC (.int 1)))) (gN 0) zph zZd)) (zfb (zzo (zWf (zp 4)) (gN 5) z3d) (zbc (zp 4)))))))))
def zze:FX:=λds O=>zaz (zcg (zG zbl ds) O)
def zlh:FE:=(zw zkf (zi (zp 0) zC))
def zrj:Qx:=["numbers"]
def zUe:FS:=(zbc (z2c z2i (fC (.str " ")) (zi (fLC 1 [] (zWf (zp 0)) (gN 0) zph zlh) zC)))
def zVc:FF:=λds O=>zvb (zUe (zG zrj ds) O)
def zrk:Qx:=["push"]
def zhg:FS:=(zbc (zy zpg (zy zpg (zw zkf (zi (zy gIx (zp 0) (fC (.int 0))) zC)) (fC (.str ":"))) (zy zJw (fC (.str "abcdefghijklmnopqrstuvwxyz")) (zy gIx (zp 0) (fC (.int 1))))))
def zdg:FF:=λds O=>zvb (zhg (zG zrk ds) O)
def zjh:FE:=(zw zdg (zi (zp 0) zC))
def zlj:Qx:=["shelf","rest","key","row","refusal"]
def zQe:FS:=(zfb (z6c 2 (zw zxb (zi (zp 1) zC))) (zfb (zss (zUv 3 zze (zgc "Shelf" "put" (zp 0) (zi (zp 2) zC))) (zgk [("Twice",true),("Full",false),("NoKey",false)] (zbc (fC (.str "twice"))) (hAs 4 [("Twice",false),("Full",true),("NoKey",false)] (zqu 4 "full " " " "Full" "some") zBv))) (zbc (zy zpg (fC (.str "put ")) (z2c z2i (fC (.str " ")) (zi (fLC 1 [] (zWf (zp 3)) (gN 0) zph zjh) zC))))))
def zGd:FF:=λds O=>zvb (zQe (zG zlj ds) O)
def zok:Qx:=["self","key"]
def zwf:FS:=(zfb (sIf (z9n (zdb (zw zjd (zgc "Shelf" "has" (zp 0) (zi (zp 1) zC))))) (zEo "NoKey" (zi (fC (.str "the key isn't there")) zC)) z1b) (zbc (zxo zJr (zrs "Shelf" "nest_of" (zp 0)) (zi (zp 1) zC))))
def z4f:FX:=λds O=>zaz (zwf (zG zok ds) O)
def zmj:Qx:=["shelf","rest","key","nest"]
def zFe:FS:=(zfb (z6c 2 (zw zxb (zi (zp 1) zC))) (zfb (zss (zUv 3 z4f (zgc "Shelf" "out" (zp 0) (zi (zp 2) zC))) (zgk [("Twice",false),("Full",false),("NoKey",true)] (zbc (fC (.str "nowhere"))) zBv)) (zbc (zy zJw (fC (.str "abcdefghijklmnopqrstuvwxyz")) (zp 3)))))
def zJd:FF:=λds O=>zvb (zFe (zG zmj ds) O)
def zKk:Qx:=["keys"]
def znf:FS:=(zbc (fIf (zdb (zy gEq (zp 0) (zsl zC))) (fC (.str "none")) (zw zVc (zi (zp 0) zC))))
def zwh:FF:=λds O=>zvb (znf (zG zKk ds) O)
def zci:Qx:=["shelf","rest"]
def z2d:FS:=(zbc (zw zwh (zi (zw zV (zgc "Shelf" "all_there" (zp 0) zC)) zC)))
def zcd:FF:=λds O=>zvb (z2d (zG zci ds) O)
def zvk:FE:=(zy gIx (zp 0) (fC (.int 0)))
def zqo:Qx:=["web","laying","row","at","key"]
def z7h:FS:=(zfb (z6c 4 (zy gIx (zy gIx (zp 2) (zp 3)) (fC (.int 0)))) (zfb (sIf (zJs (zdb (zy (zNj λi j=>decide (i<j)) (zp 4) (fC (.int 0)))) (zdb (zy (zNj λi j=>decide (j<=i)) (zp 4) (zw zxl (zi (zp 1) zC))))) (zbc (fC (.bl false))) z1b) (zfb (sIf (zJs (zdb (zy zoj (zy gIx (zy gIx (zp 2) (zp 3)) (fC (.int 1))) (zy gIx (zy gIx (zp 0) (fC (.int 1))) (zp 4)))) (zdb (zy gEq (zy gIx (zy gIx (zp 2) (zp 3)) (fC (.int 1))) (zy gIx (zp 1) (zp 4))))) (zbc (fC (.bl false))) z1b) (zbc (zy zoj (zp 4) (fLC 1 [] (zWf (fSl (zp 2) pNo (zbB (zp 3)))) (gN 0) zph zvk))))))
def zPh:FF:=λds O=>zvb (z7h (zG zqo ds) O)
def zko:Qx:=["laying","key","row","at"]
def z5h:FS:=(zfb (sIf (zdb (zy gEq (zp 3) (fC (.int 0)))) (zbc (zy gEq (zy gIx (zy gIx (zp 2) (fC (.int 0))) (fC (.int 0))) (zp 1))) z1b) (zbc (zy gEq (zy gIx (zp 0) (zy gIx (zy gIx (zp 2) (zp 3)) (fC (.int 0)))) (zy gIx (zy gIx (zp 2) (zy zxs (zp 3) (fC (.int 1)))) (fC (.int 1))))))
def zai:FF:=λds O=>zvb (z5h (zG zko ds) O)
def zbu:FS:=(sIf (zdb (zy (zNj λi j=>decide (i<j)) (zp 4) (fC (.int 0)))) (zbc (zto (zi (fC (.str "room")) (zi (zp 3) zC)))) z1b)
def zGs:FS:=(sIf (zht (zdb (zy z5k (zp 3) (fC .non))) (zdb (zy zoj (zp 3) (zy gIx (zy gIx (zp 0) (fC (.int 1))) (zp 2))))) (zbc (zto (zi (fC (.str "home")) (zi (zp 2) zC)))) z1b)
def zCt:Qx:=["web","laying","key","nest","room"]
def zom:FS:=(zfb (zzo (zsn (zp 1)) (gT 2 (zDc (gN 2) (zDc (gN 3) zVi))) zGs) (zfb (zzo (zsn (zw zTk (zi (zp 0) (zi (zp 1) zC)))) (gT 2 (zDc (gN 3) (zDc (gN 4) zVi))) zbu) (zbc (fC .non))))
def zun:FF:=λds O=>zvb (zom (zG zCt ds) O)
def z0l:FS:=(zfb (sIf (z9n (zht (zdb (zw zPh (zi (zp 0) (zi (zp 1) (zi (zp 3) (zi (zp 5) zC)))))) (zdb (zw zai (zi (zp 1) (zi (zp 2) (zi (zp 3) (zi (zp 5) zC)))))))) zig z1b) (z3u (zy gIx (zp 6) (fC (.int 1))) (gAt (zp 4) (zy gIx (zp 6) (fC (.int 0))))))
def zAq:Qx:=["web","laying","key","row","behind","at","push"]
def zXj:FS:=(zfb (z6c 4 (zw zTv (zi (zp 1) zC))) (zfb (zzo (zsn (zp 3)) (gT 2 (zDc (gN 5) (zDc (gN 6) zVi))) z0l) (zfb (sIf (zJs (zdb (zy gEq (zw zxl (zi (zp 3) zC)) (fC (.int 0)))) (zdb (zy z5k (zw zun (zi (zp 0) (zi (zp 4) zC))) (fC .non)))) zig z1b) (zbc (zp 4)))))
def zGj:FF:=λds O=>zvb (zXj (zG zAq ds) O)
def zvi:FS:=(zfb (z6c 5 (zw zof (zi (zp 0) (zi (zp 1) (zi (zp 4) zC))))) (sIf (zdb (zy gEq (zy gIx (zp 5) (fC (.int 0))) (fC (.str "put")))) (z6c 1 (zw zGj (zi (zp 0) (zi (zp 1) (zi (zp 4) (zi (zy gIx (zp 5) (fC (.int 1))) zC)))))) zig))
def zJk:Qx:=["web","laying","keys","crowded","key","told"]
def z3f:FS:=(zfb (z6c 3 (zsl zC)) (zfb (zzo (zWf (zp 2)) (gN 4) zvi) (zbc (zto (zi (zp 1) (zi (zzq (zp 3)) zC))))))
def zxh:FF:=λds O=>zvb (z3f (zG zJk ds) O)
def zji:Qx:=["web"]
def zWd:FS:=(zbc (zw zxh (zi (zp 0) (zi (zy zvj (zsl (zi (fC .non) zC)) (zw zxl (zi (zy gIx (zp 0) (fC (.int 1))) zC))) (zi (zpn (zw zxl (zi (zy gIx (zp 0) (fC (.int 1))) zC))) zC)))))
def z0d:FF:=λds O=>zvb (zWd (zG zji ds) O)
def zgq:Qx:=["web","told"]
def zWj:FS:=(zfb (z6c 1 (zw z0d (zi (zp 0) zC))) (zfb (sIf (zdb (zy gEq (zy gIx (zp 1) (fC (.int 1))) (zsl zC))) (zbc (zto (zi (fC (.str "fits")) (zi (zy gIx (zp 1) (fC (.int 0))) zC)))) z1b) zig))
def z7j:FF:=λds O=>zvb (zWj (zG zgq ds) O)
def zMg:FS:=(z3u (zy gIx (zy gIx (zp 3) (fC (.int 1))) (zp 4)) (zbz (zrs "Shelf" "nest_of" (zp 0)) (zp 5)))
def zLh:Qx:=["self","rule","keys","told","place","key"]
def zYd:FS:=(zfb (z6c 2 (zw zV (zgc "Shelf" "all_there" (zp 0) zC))) (zfb (z6c 3 (zw z7j (zi (zw zZf (zi (zp 1) (zi (zp 2) zC))) zC))) (zfb (sIf (zdb (zy gEq (zy gIx (zp 3) (fC (.int 0))) (fC (.str "crowd")))) zig z1b) (zfb (zqp "Shelf" "kept_rule" (zp 0) (zp 1)) (zzo (zsn (zp 2)) (gT 2 (zDc (gN 4) (zDc (gN 5) zVi))) zMg)))))
def z5d:FX:=λds O=>zaz (zYd (zG zLh ds) O)
def zhh:Qx:=["shelf","rest","rule","refusal"]
def zvd:FS:=(zfb (z6c 2 (zw zpd (zi (zp 1) zC))) (zfb (zss (zXu z5d (zgc "Shelf" "renew" (zp 0) (zi (zp 2) zC))) (hAs 3 [("Twice",false),("Full",true),("NoKey",false)] (zqu 3 "full " " " "Full" "some") zBv)) (zbc (fC (.str "ok")))))
def zAc:FF:=λds O=>zvb (zvd (zG zhh ds) O)
def zUl:Qx:=["self","row","parted","answer"]
def zYg:FS:=(zfb (sIf (zJs (z9n (zdb (zw (z5u .str) (zi (zp 1) (zi (fC (.ty "str")) zC))))) (z9n (zdb (zw zZj (zi (z2c ztg (zp 1) (zi (fC (.str " ")) zC)) zC))))) zig z1b) (zfb (z6c 2 (z2c zSr (zp 1) (zi (fC (.str " ")) zC))) (zfb (z6c 3 (zy (zcz "ANSWERS" ansT) (fC (.own "ANSWERS")) (zy gIx (zp 2) (fC (.int 0))))) (zbc (zmA 3 [("answer_put",zGd),("answer_out",zJd),("answer_keys",zcd),("answer_renew",zAc)] (zi (zrs "Desk" "shelf" (zp 0)) (zi (zy gIx (zp 2) (fC (.int 2))) zC)))))))
def zW:FF:=λds O=>zvb (zYg (zG zUl ds) O)
def zug:FS:=(sIf (zdb (zy (zNj λi j=>decide (i<j)) (zw zxl (zi (zp 2) zC)) (fC (.int 30)))) (zfb (z6c 4 (zy gIx (z2c ztg (zw zW (zgc "Desk" "say" (zp 0) (zi (zy zpg (fC (.str "put ")) (zw zkf (zi (zp 3) zC))) zC))) (zi (fC (.str " ")) zC)) (fC (.int 0)))) (sIf (zdb (zy gEq (zp 4) (fC (.str "put")))) (zcp (zPn znh (zp 2) (zi (zp 3) zC))) (sIf (zdb (zy gNe (zp 4) (fC (.str "full")))) (zbc (fC .non)) z1b))) z1b)
def z9h:Qx:=["_law_desk","_law_keys","_law_there","_law_key","_law_word"]
def z8d:FS:=(zfb (z6c 2 (zsl zC)) (zfb (zzo (zWf (zp 1)) (gN 3) zug) (zbc (zp 2))))
def z4d:FF:=λds O=>zvb (z8d (zG z9h ds) O)
def zGe:FE:=(zw zkf (zi (zp 0) zC))
def zog:Qx:=["_law_there","_law_key"]
def zFc:FS:=(zbc (z2c z2i (fC (.str " ")) (zi (zy zah (zsl (zi (fC (.str "full")) zC)) (fLC 1 [] (zWf (zw zkg (zi (zy zah (zp 0) (zsl (zi (zp 1) zC))) zC))) (gN 0) zph zGe)) zC)))
def z0b:FF:=λds O=>zvb (zFc (zG zog ds) O)
def z6s:FE:=(zw z8v (zi (fC (.int 9)) (zi (zy zah (zp 0) (fC (.int 1))) zC)))
def zbt:FE:=(zw zkf (zi (zp 0) zC))
def zNs:FE:=(zp 0)
def zRs:FT:=(zdb (zy gNe (zp 0) (zp 1)))
def zxm:FS:=(zfb (z6c 7 (zy zah (zy zah (zp 4) (zy z6u (fC (.int 10)) (fC (.int 9)))) (zw zM (zi (zp 1) (zi (zy z6u (fC (.int 10)) (fC (.int 9))) zC))))) (zfb (z6c 8 (zy gIx (zp 5) (zw zM (zi (zp 1) (zi (fC (.int 30)) zC))))) (zfb (sIf (zJs (zdb (zy gNe (zw zW (zgc "Desk" "say" (zp 3) (zi (zy zpg (fC (.str "put ")) (zw zkf (zi (zp 7) zC))) zC))) (zw z0b (zi (zp 5) (zi (zp 7) zC))))) (zdb (zy gNe (zw zW (zgc "Desk" "say" (zp 3) (zi (zy zpg (fC (.str "put ")) (zw zkf (zi (zp 8) zC))) zC))) (fC (.str "twice"))))) (zbc (fC (.bl false))) z1b) (zfb (sIf (zdb (zy gEq (zw zW (zgc "Desk" "say" (zp 3) (zi (zy zpg (fC (.str "out ")) (zw zkf (zi (zp 8) zC))) zC))) (fC (.str "nowhere")))) (zbc (fC (.bl false))) z1b) (zfb (z6c 9 (zy zah (zp 8) (zy zvj (fC (.int 10007)) (zy zah (fC (.int 1)) (zw zM (zi (zp 1) (zi (fC (.int 90)) zC))))))) (zfb (sIf (zdb (zy zoj (zp 9) (zp 5))) (z6c 5 (zy zah (fLC 1 [8] (zWf (zp 5)) (gN 0) zRs zNs) (zsl (zi (zp 9) zC)))) (z6c 9 (zp 8))) (zfb (sIf (zdb (zy gNe (zy gIx (z2c ztg (zw zW (zgc "Desk" "say" (zp 3) (zi (zy zpg (fC (.str "put ")) (zw zkf (zi (zp 9) zC))) zC))) (zi (fC (.str " ")) zC)) (fC (.int 0))) (fC (.str "put")))) (zbc (fC (.bl false))) z1b) (sIf (zdb (zy gNe (zw zW (zgc "Desk" "say" (zp 3) (zi (fC (.str "keys")) zC))) (z2c z2i (fC (.str " ")) (zi (fLC 1 [] (zWf (zw zkg (zi (zp 5) zC))) (gN 0) zph zbt) zC)))) (zbc (fC (.bl false))) z1b))))))))
def zTp:FE:=(zw zkf (zi (zp 0) zC))
def zwt:FE:=(zy zah (zp 1) (zp 0))
def zUz:Qx:=["_law_script","_law_pen_here","_law_rule_here","_law_desk","_law_first","_law_there","_law_k","_law_new","_law_old","_law_like","_law_wider"]
def zCv:FS:=(zfb (z6c 1 (zw zWg (zi (zp 0) (zi (fC (.int 0)) zC)))) (zfb (z6c 2 (zw z1f (zi (zp 1) zC))) (zfb (z6c 3 (zes "Desk" zfd (zi (zw zme (zi (zp 2) zC)) zC))) (zfb (z6c 4 (zy gIx (zsl (zi (zw zM (zi (zp 1) (zi (fC (.int 50)) zC))) (zi (zy z6u (zw zM (zi (zp 1) (zi (zy z6u (fC (.int 10)) (fC (.int 29))) zC))) (fC (.int 2))) zC))) (zw zM (zi (zp 1) (zi (fC (.int 2)) zC))))) (zfb (z6c 5 (zw z4d (zi (zp 3) (zi (fLC 1 [4] (z2k (zi (fC (.int 60)) zC)) (gN 0) zph zwt) zC)))) (zfb (sIf (zdb (zy gIs (zp 5) (fC .non))) (zbc (fC (.bl false))) z1b) (zfb (sIf (zdb (zy (zNj λi j=>decide (i<j)) (zw zxl (zi (zp 5) zC)) (fC (.int 30)))) (zbc (zy gEq (zw zW (zgc "Desk" "say" (zp 3) (zi (fC (.str "keys")) zC))) (z2c z2i (fC (.str " ")) (zi (zy zah (fLC 1 [] (zWf (zw zkg (zi (zp 5) zC))) (gN 0) zph zTp) (zy zvj (zsl (zi (fC (.str "none")) zC)) (zw z9y (zi (zy gEq (zp 5) (zsl zC)) zC)))) zC)))) z1b) (zfb (zzo (z2k (zi (fC (.int 4)) zC)) (gN 6) zxm) (zfb (z6c 10 (zto (zi (zw zEg (zi (fLC 1 [] (zWf (zy gIx (zp 2) (fC (.int 0)))) (gN 0) zph z6s) zC)) (zi (zy gIx (zp 2) (fC (.int 1))) zC)))) (zfb (sIf (zdb (zy gNe (zw zW (zgc "Desk" "say" (zp 3) (zi (zy zpg (fC (.str "renew ")) (zw zme (zi (zp 10) zC))) zC))) (fC (.str "ok")))) (zbc (fC (.bl false))) z1b) (zbc (zy gEq (zw zW (zgc "Desk" "say" (zp 3) (zi (zy zpg (fC (.str "put ")) (zw zkf (zi (zy zah (zp 4) (zy z6u (fC (.int 10)) (fC (.int 10)))) zC))) zC))) (zw z0b (zi (zp 5) (zi (zy zah (zp 4) (zy z6u (fC (.int 10)) (fC (.int 10)))) zC)))))))))))))))
def zXr:FF:=λds O=>zvb (zCv (zG zUz ds) O)
structure Txt(K:yt)(mg:yj->Option yb):Prop where
 ST:∃C,yJ K yf "Full"=some (some (.ref C))/\mg "Full"=some (.ref C)/\W.ktsIn K C "BaseException"=true
 x_NestError:∃C,yJ K yf "NestError"=some (some (.ref C))/\mg "NestError"=some (.ref C)/\W.ktsIn K C "BaseException"=true
 Sw:∃C,yJ K yf "Twice"=some (some (.ref C))/\mg "Twice"=some (.ref C)/\W.ktsIn K C "BaseException"=true
 Sx:∃C,yJ K yf "NoKey"=some (some (.ref C))/\mg "NoKey"=some (.ref C)/\W.ktsIn K C "BaseException"=true
 e_Twice:∀C,yJ K yf "Twice"=some (some (.ref C))->W.excIn K C [.type "ValueError",.type "Exception",.type "BaseException",.type "object"] "ValueError.__new__"=true
 e_NoKey:∀C,yJ K yf "NoKey"=some (some (.ref C))->W.excIn K C [.type "ValueError",.type "Exception",.type "BaseException",.type "object"] "ValueError.__new__"=true
 SU:∀C,yJ K yf "Full"=some (some (.ref C))->Tx K C [("Twice",false),("Full",true),("NoKey",false)]
 s_Twice:∀C,yJ K yf "Twice"=some (some (.ref C))->Tx K C [("Twice",true),("Full",false),("NoKey",false)]
 s_NoKey:∀C,yJ K yf "NoKey"=some (some (.ref C))->Tx K C [("Twice",false),("Full",false),("NoKey",true)]
 ans:zrr K "ANSWERS" ansT
 an:∃a,yJ K yf "ANSWERS"=some (some (.ref a))/\mg "ANSWERS"=some (.ref a)
 tab:zeq K "WORD_COUNTS" tabT
 tw:∃a,yJ K yf "WORD_COUNTS"=some (some (.ref a))/\mg "WORD_COUNTS"=some (.ref a)
 TF:∃f,yJ K yf "answer_put"=some (some (.ref f))/\mg "answer_put"=some (.ref f)
 TH:∃f,yJ K yf "answer_out"=some (some (.ref f))/\mg "answer_out"=some (.ref f)
 Tv:∃f,yJ K yf "answer_keys"=some (some (.ref f))/\mg "answer_keys"=some (.ref f)
 Tq:∃f,yJ K yf "answer_renew"=some (some (.ref f))/\mg "answer_renew"=some (.ref f)
 tE:z1n K "Shelf" "nest_of"
 tL:z1n K "Shelf" "kept_rule"
 Tk:z1n K "Desk" "shelf"
 tY:mg "left_layings"=mg "left"
 SV:AtC K "Full" "some"
 n_all:mg "all"=none
 n_any:mg "any"=none
 n_bool:mg "bool"=none
 tT:mg "enumerate"=none
 SW:mg "int"=none
 Ta:mg "isinstance"=none
 tZ:mg "len"=none
 sG:mg "list"=none
 n_min:mg "min"=none
 so:mg "range"=none
 Sr:mg "reversed"=none
 n_set:mg "set"=none
 Tw:mg "sorted"=none
 To:mg "str"=none
 TB:mg "tuple"=none
 sN:∃t,mg "DIVISOR"=some (.int 10007 t)
 sX:∃t,mg "MOST_NESTS"=some (.int 10 t)
 Sk:∃t,mg "MOST_ROOM"=some (.int 9 t)
 Sl:∃t,mg "MOST_KEYS"=some (.int 30 t)
 SA:∃t,mg "FIGURES"=some (.str "0123456789" t)
 sH:∃t,mg "MOST_FIGURES"=some (.int 60 t)
 sO:∃t,mg "LETTERS"=some (.str "abcdefghijklmnopqrstuvwxyz" t)
def zQw:yK "all"=some (.builtin "all"):=by decide +kernel
def zQz:yK "any"=some (.builtin "any"):=by decide +kernel
def zIy:yK "bool"=some (.type "bool"):=by decide +kernel
def zcc:yK "enumerate"=some (.type "enumerate"):=by decide +kernel
def zGt:yK "int"=some (.type "int"):=by decide +kernel
def zhd:yK "isinstance"=some (.builtin "isinstance"):=by decide +kernel
def zYc:yK "len"=some (.builtin "len"):=by decide +kernel
def zil:yK "list"=some (.type "list"):=by decide +kernel
def zCz:yK "min"=some (.builtin "min"):=by decide +kernel
def zWp:yK "reversed"=some (.type "reversed"):=by decide +kernel
def znA:yK "set"=some (.type "set"):=by decide +kernel
def zje:yK "sorted"=some (.builtin "sorted"):=by decide +kernel
def zHd:yK "str"=some (.type "str"):=by decide +kernel
def zHe:yK "tuple"=some (.type "tuple"):=by decide +kernel
section
variable {P:yu}{w:yG}{K:yt}{mg:yj->Option yb}{base:yU}
set_option maxHeartbeats 4000000
variable {f C f0 C0 f1 C1 f2 C2 f3 C3 f4 C4 f5 C5 f6 C6 f7 C7 f8 C8 f9 C9 f10 C10 f11 C11 f12 C12 f13 C13 f14 C14 f15 C15:yg}{fd d0 d1 d2 d3 d4 d5 d6 d7 d8 d9 d10 d11 d12 d13 d14 d15:yP}
abbrev zOc:yR:=zwx (top 6)
abbrev zyb:Qx:=["self","some"]
def zMo:tj zyb zyb (zo zOc):=by walk_at "s"
def zFn(T:Txt K mg){C NE fI:yg}{fd:yP}(B:Sv K mg "Full" "some" "Full.__init__" zOc zyb C NE fI fd):tS P w K mg base CX0 1 fI fd zyb (spL C "some"):=by
 refine B.fn.ok (k:=0) zMo (λvs H Q E ⟨e,a,ns,h,_⟩=>by rw[h];rfl) (λcdv A outer s H vs Q E hr ⟨e,a,ns,hv,hsm,ha,he,hq⟩=>⟨_,zHq (ziu (zky B.ex B.ne (zQd (pv 0) (zQd (zEv (pv 1) hr.gd hr.units) zPg)))) (zen (zJu B.ex (pv 0) (z6e zjj rfl T.sG zil (zQd (pv 1) zPg)))),?_⟩);subst hv
 exact⟨_,rfl,_,rfl,a,ns,rfl,ha,hsm,λy=>⟨e,_,rfl,he,_,rfl,a,_,rfl,.inl (SqL.of ha),λl hl=>⟨_,rfl,e,rfl,by rw[zE (zA he hl)];exact he,λp hp hpe=>by
  have kM:p≠l:=λz=>by rw[z,zx]at hp;cases hp
  exact hq l p hl (Yi (zA he hl)) (by rwa [zE kM]at hp) hpe kM⟩⟩⟩
abbrev zJe:yR:=top 82
abbrev zsc:Qx:=["_law_script","_law_k"]
def Tl:tj zXe zsc (zo zJe):=by walk_at "s"
def ztl(T:Txt K mg)(B:FnAt K mg "_law_mixed" zJe zsc f fd):OkM P w K mg base 1 f fd zsc 2 zRc:=by
 exact tK B.fn Tl zPe λhr hu=>(zj (zT 2 zm (hN:=Tl.nd)) (zj (z8b (z5 zZo (zK zmb T.tZ zYc (zb (mv 0) zd)) zm) (zn (zT 2 (zP zRd (zN (mv 0) (zP zRd (mv 1) (zK zmb T.tZ zYc (zb (mv 0) zd)))) zm) (hN:=Tl.nd))) z6) (zj (zT 2 (zP zRd (zP zhb (zP zhb (zP zhb (zP zNc (mv 2) zm) (zP zNc (zP zNc (mv 1) (mv 1)) zm)) (zP zNc zm (mv 1))) zm) zm) (hN:=Tl.nd)) (zn (zF (zP zRd (zP zNc (mv 2) zm) zm))))))
abbrev zCd:yR:=top 83
abbrev zOb:Qx:=["_law_script","_law_k"]
def zLk:tj zsd zOb (zo zCd):=by walk_at "s"
def zxj(T:Txt K mg)(zCe:FnAt K mg "_law_mixed" zJe zsc f0 d0)(zbg:OkM P w K mg base 1 f0 d0 zsc 2 zRc)(B:FnAt K mg "_law_cell_at" zCd zOb f fd):OkM P w K mg base 2 f fd zOb 2 z5b:=by
 exact tK B.fn zLk zxd λhr hu=>(zj (z8b (z5 znm (mv 1) (zK zmb T.tZ zYc (zb (mv 0) zd))) (zn (zF (zN (mv 0) (mv 1)))) z6) (zn (zF (tz zCe zbg hr (zb (mv 0) (zb (mv 1) zd))))))
abbrev z6g:yR:=top 85
abbrev znd:Qx:=["_law_script","_law_k"]
def sy:tj zfm znd (zo z6g):=by walk_at "s"
def zfo(T:Txt K mg)(zzd:FnAt K mg "_law_cell_at" zCd zOb f0 d0)(zwe:OkM P w K mg base 2 f0 d0 zOb 2 z5b)(B:FnAt K mg "_law_pen" z6g znd f fd):OkM P w K mg base 3 f fd znd 2 zWg:=by
 exact tK B.fn sy z3i λhr hu=>(zj (zT 2 (tz zzd zwe hr (zb (mv 0) (zb (mv 1) zd))) (hN:=sy.nd)) (zn (zF (zDd (zb (zP zRd (mv 2) zm) (zb (zP zCp (mv 2) zm) (zb (zK zmb T.tZ zYc (zb (mv 0) zd)) (zb (zP zNc zm (mv 1)) zd))))))))
abbrev zie:yR:=top 84
abbrev zTb:Qx:=["_law_pen_here","_law_size"]
def Tb:tj ztf zTb (zo zie):=by walk_at "s"
def zDm(T:Txt K mg)(B:FnAt K mg "_law_take" zie zTb f fd):OkM P w K mg base 1 f fd zTb 2 zM:=by
 exact tK B.fn Tb zGf λhr hu=>(zj (z8b (z5 (zac hu) (zN (mv 0) zm) zm) (zj (zT 2 (zP zRd (zN (mv 0) zm) (mv 1)) (hN:=Tb.nd)) (zj (zgl (zP zCp (zN (mv 0) zm) (mv 1)) (z3y (mv 0) zm)) (zn (zF (mv 2))))) z6) (zj (zgl (zP zhb (zN (mv 0) zm) zm) (z3y (mv 0) zm)) (zj (zT 3 (zN (mv 0) zm) (hN:=Tb.nd)) (zj (zT 4 (zP zNc (zP zRd (zN (mv 0) zm) zm) zm) (hN:=Tb.nd)) (zj (zT 4 (zP zRd (zP zhb (zP zhb (zP zhb (mv 4) (zP zNc (zP zNc (mv 3) (mv 3)) zm)) (zP zNc zm (mv 3))) zm) zm) (hN:=Tb.nd)) (zn (zF (zP zRd (zP zCp (zP zRd (zP zNc (mv 4) zm) zm) zm) (mv 1)))))))))
abbrev zRf:yR:=top 87
abbrev z1c:Qx:=["_law_pen_here"]
def Tc:tj zek z1c (zo zRf):=by walk_at "s"
def znn(T:Txt K mg)(zZ:FnAt K mg "_law_take" zie zTb f0 d0)(zX:OkM P w K mg base 1 f0 d0 zTb 2 zM)(B:FnAt K mg "_law_rule" zRf z1c f fd):OkM P w K mg base 2 f fd z1c 1 z1f:=by
 exact tK B.fn Tc zfg λhr hu=>(zj (zT 1 (zP zhb zm (tz zZ zX hr (zb (mv 0) (zb zm zd)))) (hN:=Tc.nd)) (zj (zT 2 (zbb zMc T.TB zHe (zb (Tp ["_law_k"] [0] (z2j T.so (zb (mv 1) zd)) (zU 0 (hN:=zQ (by rfl))) zhc (zP zhb zm (tz zZ zX hr (zb (mv 1) (zb zm zd)))) (zyc ⟨_,rfl,rfl⟩ zRb)) zd)) (hN:=Tc.nd)) (zj (zT 3 (zN (zDd (zb zm (zb zm zd))) (tz zZ zX hr (zb (mv 0) (zb zm zd)))) (hN:=Tc.nd)) (zj (zT 4 (zbb zMc T.TB zHe (zb (Tp ["_law_k"] [0,3] (z2j T.so (zb (zP zhb zm (tz zZ zX hr (zb (mv 0) (zb zm zd)))) zd)) (zU 0 (hN:=zQ (by rfl))) zhc (zye (zb (zP zhb zm (tz zZ zX hr (zb (mv 1) (zb (zP zuk (mv 2) zm) zd)))) (zb (tz zZ zX hr (zb (mv 1) (zb (mv 2) zd))) zd))) (zyc ⟨_,rfl,rfl⟩ (zyc ⟨_,rfl,rfl⟩ zRb))) zd)) (hN:=Tc.nd)) (zn (zF (zye (zb (mv 2) (zb (mv 4) zd)))))))))
abbrev zZb:yR:=zeg (top 47) 0
abbrev zgb:Qx:=["self","rule"]
def zMi:tj zlg zgb (zo zZb):=by walk_at "s"
def zti(T:Txt K mg)(B:si K mg "Shelf" zZb zgb C f fd):OkM P w K mg base 1 f fd zgb 2 zGc:=by
 exact tK B.fn zMi zIc λhr hu=>(zj (zBq T.tL (mv 0) (mv 1)) (zn (zBq T.tE (mv 0) zcx)))
abbrev zWe:yR:=top 58
abbrev ztc:Qx:=["text"]
def zYm:tj zbj ztc (zo zWe):=by walk_at "s"
def zFl(T:Txt K mg)(B:FnAt K mg "check_text" zWe ztc f fd):OkM P w K mg base 1 f fd ztc 1 zIe:=by
 exact tK B.fn zYm zDe λhr hu=>(zn (z8b (zOl (zGh (zK (zUg .str) T.Ta zhd (zb (mv 0) (zb (zyo T.To zHd) zd))))) (zn z8c) z6))
abbrev zmc:yR:=top 55
abbrev zeb:Qx:=["word"]
def zHl:tj zZh zeb (zo zmc):=by walk_at "s"
def zyk(T:Txt K mg)(B:FnAt K mg "read_number" zmc zeb f fd):OkM P w K mg base 1 f fd zeb 1 zxb:=by
 exact tK B.fn zHl zuc λhr hu=>(zj (z8b (MW.mt (zxn (z5 (zac hu) (zK zJi T.tZ zYc (zb (mv 0) zd)) zm) (zxn (z5 zZo (zK zJi T.tZ zYc (zb (mv 0) zd)) (zPi T.sH)) (zgj (zGh (zK (zau rfl) T.n_any zQz (zb (Tp ["sign"] [] (z6z (mv 0)) (zU 0 (hN:=zQ (by rfl))) zhc (zfh zLr (mv 0) (zhp T.SA)) zRb) zd))))))) (zn z8c) z6) (zj (z8b (MW.mt (zBt (z5 (zac hu) (znu (mv 0) zm) zS) (zAp (z5 zZo (zK zJi T.tZ zYc (zb (mv 0) zd)) zm)))) (zn z8c) z6) (zn (zF (zbb zIr T.SW zGt (zb (mv 0) zd))))))
abbrev zBd:yR:=top 56
abbrev zQb:Qx:=["word"]
def zQk:tj zgh zQb (zo zBd):=by walk_at "s"
def zAj(T:Txt K mg)(zlb:FnAt K mg "read_number" zmc zeb f0 d0)(zkb:OkM P w K mg base 1 f0 d0 zeb 1 zxb)(B:FnAt K mg "read_numbers" zBd zQb f fd):OkM P w K mg base 2 f fd zQb 1 zzc:=by
 exact tK B.fn zQk ztd λhr hu=>(zn (zF (zbb zMc T.TB zHe (zb (Tp ["part"] [] (zYb (zMh (mv 0) (zb zS zd))) (zU 0 (hN:=zQ (by rfl))) zhc (tz zlb zkb hr (zb (mv 0) zd)) zRb) zd))))
abbrev zde:yR:=top 28
abbrev zJb:Qx:=["thing","fewest","most"]
def zQp:tj z4i zJb (zo zde):=by walk_at "s"
def zUn(T:Txt K mg)(B:FnAt K mg "is_tuple" zde zJb f fd):OkM P w K mg base 1 f fd zJb 3 zpc:=by
 exact tK B.fn zQp zSi λhr hu=>(zn (zF (zjk (zK (zUg .tup) T.Ta zhd (zb (mv 0) (zb (zyo T.TB zHe) zd))) (z5n (zmq zjq zjq (mv 1) (zK zmb T.tZ zYc (zb (mv 0) zd)) (mv 2))))))
abbrev zQf:yR:=top 27
abbrev zSc:Qx:=["thing","greatest"]
def zIo:tj zsh zSc (zo zQf):=by walk_at "s"
def zin(T:Txt K mg)(B:FnAt K mg "is_number" zQf zSc f fd):OkM P w K mg base 1 f fd zSc 2 zpe:=by
 exact tK B.fn zIo zvh λhr hu=>(zn (zF (zjk (zK (zUg .int) T.Ta zhd (zb (mv 0) (zb (zyo T.SW zGt) zd))) (zjk (zpz (zK (zUg .bl) T.Ta zhd (zb (mv 0) (zb (zyo T.n_bool zIy) zd)))) (z5n (zmq zjq zjq zm (mv 0) (mv 1)))))))
abbrev zMb:yR:=top 29
abbrev z8:Qx:=["thing","fewest","most","greatest"]
def zNh:tj zgf z8 (zo zMb):=by walk_at "s"
def zrh(T:Txt K mg)(z4b:FnAt K mg "is_tuple" zde zJb f0 d0)(zXb:OkM P w K mg base 1 f0 d0 zJb 3 zpc)(zuf:FnAt K mg "is_number" zQf zSc f1 d1)(zOg:OkM P w K mg base 1 f1 d1 zSc 2 zpe)(B:FnAt K mg "is_number_tuple" zMb z8 f fd):OkM P w K mg base 2 f fd z8 4 zzb:=by
 exact tK B.fn zNh znc λhr hu=>(zn (zF (zjk (tz z4b zXb hr (zb (mv 0) (zb (mv 1) (zb (mv 2) zd)))) (z5n (zK (zlo rfl) T.n_all zQw (zb (Tp ["part"] [3] (zYb (mv 0)) (zU 0 (hN:=zQ (by rfl))) zhc (tz zuf zOg hr (zb (mv 0) (zb (mv 1) zd))) (zyc ⟨_,rfl,rfl⟩ zRb)) zd))))))
abbrev z7f:yR:=top 30
abbrev zTc:Qx:=["thing"]
def z1o:tj z9k zTc (zo z7f):=by walk_at "s"
def zfn(T:Txt K mg)(zjb:FnAt K mg "is_number_tuple" zMb z8 f0 d0)(zqb:OkM P w K mg base 2 f0 d0 z8 4 zzb)(B:FnAt K mg "are_rooms" z7f zTc f fd):OkM P w K mg base 3 f fd zTc 1 zAf:=by
 exact tK B.fn z1o zYf λhr hu=>(zn (zF (tz zjb zqb hr (zb (mv 0) (zb zm (zb (zPi T.sX) (zb (zPi T.Sk) zd)))))))
abbrev z4g:yR:=top 31
abbrev zkd:Qx:=["thing"]
def zNp:tj zim zkd (zo z4g):=by walk_at "s"
def zAo(T:Txt K mg)(z4b:FnAt K mg "is_tuple" zde zJb f0 d0)(zXb:OkM P w K mg base 1 f0 d0 zJb 3 zpc)(zjb:FnAt K mg "is_number_tuple" zMb z8 f1 d1)(zqb:OkM P w K mg base 2 f1 d1 z8 4 zzb)(B:FnAt K mg "are_ways" z4g zkd f fd):OkM P w K mg base 3 f fd zkd 1 z2g:=by
 exact tK B.fn zNp z7g λhr hu=>(zn (zF (zjk (tz z4b zXb hr (zb (mv 0) (zb zm (zb zm zd)))) (z5n (zK (zlo rfl) T.n_all zQw (zb (Tp ["way"] [] (zYb (mv 0)) (zU 0 (hN:=zQ (by rfl))) zhc (tz zjb zqb hr (zb (mv 0) (zb zm (zb zm (zb (zP zuk (zPi T.sN) zm) zd))))) zRb) zd))))))
abbrev zWh:yR:=top 32
abbrev zce:Qx:=["thing"]
def zMr:tj zRo zce (zo zWh):=by walk_at "s"
def zLp(T:Txt K mg)(z4b:FnAt K mg "is_tuple" zde zJb f0 d0)(zXb:OkM P w K mg base 1 f0 d0 zJb 3 zpc)(z9f:FnAt K mg "are_rooms" z7f zTc f1 d1)(zDg:OkM P w K mg base 3 f1 d1 zTc 1 zAf)(z3g:FnAt K mg "are_ways" z4g zkd f2 d2)(zuh:OkM P w K mg base 3 f2 d2 zkd 1 z2g)(B:FnAt K mg "is_rule" zWh zce f fd):OkM P w K mg base 4 f fd zce 1 z1h:=by
 exact tK B.fn zMr z2h λhr hu=>(zn (zF (zjk (tz z4b zXb hr (zb (mv 0) (zb zm (zb zm zd)))) (zjk (tz z9f zDg hr (zb (zN (mv 0) zm) zd)) (z5n (tz z3g zuh hr (zb (zN (mv 0) zm) zd)))))))
abbrev zke:yR:=top 59
abbrev zSb:Qx:=["text"]
def TN:tj zOk zSb (zo zke):=by walk_at "s"
def zLm(T:Txt K mg)(zVe:FnAt K mg "check_text" zWe ztc f0 d0)(z6f:OkM P w K mg base 1 f0 d0 ztc 1 zIe)(zEc:FnAt K mg "read_numbers" zBd zQb f1 d1)(z9c:OkM P w K mg base 2 f1 d1 zQb 1 zzc)(zri:FnAt K mg "is_rule" zWh zce f2 d2)(zQi:OkM P w K mg base 4 f2 d2 zce 1 z1h)(B:FnAt K mg "read_rule" zke zSb f fd):OkM P w K mg base 5 f fd zSb 1 zpd:=by
 exact tK B.fn TN zCf λhr hu=>(zj (zCn (tz zVe z6f hr (zb (mv 0) zd))) (zj (zT 1 (zMh (mv 0) (zb zS zd)) (hN:=TN.nd)) (zj (zT 2 (zye (zb (tz zEc z9c hr (zb (zN (mv 1) zm) zd)) (zb (zbb zMc T.TB zHe (zb (Tp ["word"] [] (zYb (zTA (mv 1) (zlx zm) zMz)) (zU 0 (hN:=zQ (by rfl))) zhc (tz zEc z9c hr (zb (mv 0) zd)) zRb) zd)) zd))) (hN:=TN.nd)) (zj (z8b (zOl (zGh (tz zri zQi hr (zb (mv 2) zd)))) (zn z8c) z6) (zn (zF (mv 2)))))))
abbrev zdc:yR:=zeg (top 80) 0
abbrev ztb:Qx:=["self","text"]
def zyj:tj zAg ztb (zo zdc):=by walk_at "s"
def zCi(T:Txt K mg)(zKc:si K mg "Shelf" zZb zgb C0 f0 d0)(zid:OkM P w K mg base 1 f0 d0 zgb 2 zGc)(zQc:FnAt K mg "read_rule" zke zSb f1 d1)(zXc:OkM P w K mg base 5 f1 d1 zSb 1 zpd)(B:si K mg "Desk" zdc ztb C f fd):OkM P w K mg base 6 f fd ztb 2 zfd:=by
 exact tK B.fn zyj z7c λhr hu=>(zn (zBq T.Tk (mv 0) (SQ zKc zid hr (zb (tz zQc zXc hr (zb (mv 1) zd)) zd))))
abbrev zzf:yR:=top 88
abbrev z5c:Qx:=["_law_rule_here"]
def sr:tj zPk z5c (zo zzf):=by walk_at "s"
def zrm(T:Txt K mg)(B:FnAt K mg "_law_text" zzf z5c f fd):OkM P w K mg base 1 f fd z5c 1 zme:=by
 exact tK B.fn sr z2f λhr hu=>(zj (zT 1 (zDd (zb (zAh zS (zb (Tp ["_law_room"] [] (zYb (zN (mv 0) zm)) (zU 0 (hN:=zQ (by rfl))) zhc (zbb zpb T.To zHd (zb (mv 0) zd)) zRb) zd)) zd)) (hN:=sr.nd)) (zn (zF (zAh zS (zb (zP zhb (mv 1) (Tp ["_law_factor","_law_shift"] [] (zYb (zN (mv 0) zm)) (zTm (zId (zU 0 (hN:=zQ (by rfl))) (zId (zU 1 (hN:=zQ (by rfl))) zPj))) zhc (zP zHc (zP zHc (zbb zpb T.To zHd (zb (mv 0) zd)) zS) (zbb zpb T.To zHd (zb (mv 1) zd))) zRb)) zd)))))
abbrev z1j:yR:=top 62
abbrev zcf:Qx:=["words"]
def zst:tj zpr zcf (zo z1j):=by walk_at "s"
def zZr(T:Txt K mg)(B:FnAt K mg "is_row" z1j zcf f fd):OkM P w K mg base 1 f fd zcf 1 zZj:=by
 obtain⟨C_WORD_COUNTS,n_WORD_COUNTS,m_WORD_COUNTS⟩:=T.tw;exact tK B.fn zst zCj λhr hu=>(zj (z8b (z5 (zac hu) (zN (mv 0) zm) zS) (zn (zF (zfh z5w (zK zmb T.tZ zYc (zb (mv 0) zd)) zm))) z6) (zj (z8b (MW.mt (zxn (z5 (zac hu) (zN (mv 0) zm) zS) (zgj (z5 (zac hu) (zN (mv 0) zm) zS)))) (zn z8c) z6) (zn (zF (zfh (zac hu) (zZz T.tab (zXw n_WORD_COUNTS m_WORD_COUNTS) (zb (zN (mv 0) zm) zd)) (zK zmb T.tZ zYc (zb (mv 0) zd)))))))
abbrev zod:yR:=zeg (top 47) 3
abbrev zFb:Qx:=["self","key"]
def zwo:tj zNk zFb (zo zod):=by walk_at "s"
def zKm(T:Txt K mg)(B:MethAt K "Shelf" "has" "Shelf.has" zod zFb C f fd):OkM P w K mg base 1 f fd zFb 2 zjd:=by
 exact tK B.fn zwo zgg λhr hu=>(zn (zF (zfh zKq (mv 1) (zsj T.tE (mv 0)))))
abbrev zcb:yR:=zeg (top 47) 5
abbrev zD:Qx:=["self"]
def zTh:tj zaf zD (zo zcb):=by walk_at "s"
def zBh(T:Txt K mg)(B:MethAt K "Shelf" "all_there" "Shelf.all_there" zcb zD C f fd):OkM P w K mg base 1 f fd zD 1 zV:=by
 exact tK B.fn zTh zqc λhr hu=>(zn (zF (zK (z3p rfl) T.Tw zje (zb (zsj T.tE (mv 0)) zd))))
abbrev zJm:yR:=top 13
abbrev z5g:Qx:=["laying","nest"]
def zjv:tj zYs z5g (zo zJm):=by walk_at "s"
def zft(T:Txt K mg)(B:FnAt K mg "lying" zJm z5g f fd):OkM P w K mg base 1 f fd z5g 2 ztn:=by
 exact tK B.fn zjv zgn λhr hu=>(zn (zF (Tp ["key","place"] [1] (zoh T.tT zcc (mv 0)) (zTm (zId (zU 0 (hN:=zQ (by rfl))) (zId (zU 1 (hN:=zQ (by rfl))) zPj))) (zEt (z5 (zac hu) (mv 1) (mv 2))) (mv 0) (zyc ⟨_,rfl,rfl⟩ zRb))))
abbrev zPf:yR:=top 18
abbrev zZc:Qx:=["web","laying","key"]
def tO:tj zfl zZc (zo zPf):=by walk_at "s"
def zAn(T:Txt K mg)(zvm:FnAt K mg "lying" zJm z5g f0 d0)(zHn:OkM P w K mg base 1 f0 d0 z5g 2 ztn)(B:FnAt K mg "pushes_to" zPf zZc f fd):OkM P w K mg base 2 f fd zZc 3 zJf:=by
 exact tK B.fn tO zUf λhr hu=>(zj (zT 3 zcx (hN:=tO.nd)) (zj (zjg (zYb (zN (zN (mv 0) zm) (mv 2))) (zwc 4 (hN:=tO.nd)) (zn (zgl (zye (zb (mv 2) (zb zRh zd))) (zCq (mv 3) (mv 4))))) (zj (zT 5 (zbb (zMp rfl) T.sG zil (zb (mv 3) zd)) (hN:=tO.nd)) (zj (zT 6 zm (hN:=tO.nd)) (zj (zhr 100000 (z5 znm (mv 6) (zK zmb T.tZ zYc (zb (mv 5) zd))) (zj (zjg (zYb (tz zvm zHn hr (zb (mv 1) (zb (zN (mv 5) (mv 6)) zd)))) (zwc 7 (hN:=tO.nd)) (zn (zjg (zYb (zN (zN (mv 0) zm) (mv 7))) (zwc 4 (hN:=tO.nd)) (zn (z8b (z5 z3r (mv 4) (mv 3)) (zj (zgl (zye (zb (mv 7) (zb (zN (mv 5) (mv 6)) zd))) (zCq (mv 3) (mv 4))) (zn (zCn (zYk (mv 5) (zb (mv 4) zd))))) z6))))) (zn (zYz 6 zly zm (hN:=tO.nd))))) (zn (zF (mv 3))))))))
abbrev zvo:yR:=top 9
abbrev zKg:Qx:=["web","laying"]
def zEy:tj zRw zKg (zo zvo):=by walk_at "s"
def zxv(T:Txt K mg)(B:FnAt K mg "left" zvo zKg f fd):OkM P w K mg base 1 f fd zKg 2 zTk:=by
 exact tK B.fn zEy zSl λhr hu=>(zn (zF (Tp ["nest","room"] [1] (zoh T.tT zcc (zN (mv 0) zm)) (zTm (zId (zU 0 (hN:=zQ (by rfl))) (zId (zU 1 (hN:=zQ (by rfl))) zPj))) zhc (zP zuk (mv 1) (zjw (mv 2) (zb (mv 0) zd))) (zyc ⟨_,rfl,rfl⟩ zRb))))
abbrev zJj:yR:=top 19
abbrev z8e:Qx:=["pushes","nest"]
def sw:tj zVq z8e (zo zJj):=by walk_at "s"
def zCr(T:Txt K mg)(B:FnAt K mg "row_to" zJj z8e f fd):OkM P w K mg base 1 f fd z8e 2 zHj:=by
 exact tK B.fn sw zVj λhr hu=>(zj (zT 2 (zDd zd) (hN:=sw.nd)) (zj (zhr 100000 (z5 zcl (mv 1) zRh) (zj (zCn (zYk (mv 2) (zb (zye (zb (zN (zvu (mv 0) (mv 1)) zm) (zb (mv 1) zd))) zd))) (zn (zT 1 (zN (zvu (mv 0) (mv 1)) zm) (hN:=sw.nd))))) (zn (zF (zpx T.sG zil T.Sr zWp (mv 2))))))
abbrev zhi:yR:=top 20
abbrev zFd:Qx:=["web","laying","key"]
def TZ:tj zdq zFd (zo zhi):=by walk_at "s"
def zQr(T:Txt K mg)(zLf:FnAt K mg "pushes_to" zPf zZc f0 d0)(zvg:OkM P w K mg base 2 f0 d0 zZc 3 zJf)(TQ:FnAt K mg "left" zvo zKg f1 d1)(z5i:OkM P w K mg base 1 f1 d1 zKg 2 zTk)(zYj:FnAt K mg "row_to" zJj z8e f2 d2)(zVk:OkM P w K mg base 1 f2 d2 z8e 2 zHj)(B:FnAt K mg "put_in" zhi zFd f fd):OkM P w K mg base 3 f fd zFd 3 zof:=by
 exact tK B.fn TZ z4j λhr hu=>(zj (zT 3 (tz zLf zvg hr (zb (mv 0) (zb (mv 1) (zb (mv 2) zd)))) (hN:=TZ.nd)) (zj (zT 4 (SO (TQ.al T.tY) TQ z5i hr (zb (mv 0) (zb (mv 1) zd))) (hN:=TZ.nd)) (zj (zjg (zZx (mv 3)) (zwc 5 (hN:=TZ.nd)) (zn (z8b (z5 zZo (zN (mv 4) (mv 5)) zm) (zn (zF (zye (zb zS (zb (tz zYj zVk hr (zb (mv 3) (zb (mv 5) zd))) zd))))) z6))) (zn (zF (zye (zb zS (zb (Tp ["other","nest"] [2,3] (zoh T.tT zcc (mv 1)) (zTm (zId (zU 0 (hN:=zQ (by rfl))) (zId (zU 1 (hN:=zQ (by rfl))) zPj))) (zEt (MW.mt (zxn (z5 (zac hu) (mv 0) (mv 2)) (zgj (z5 zKq (mv 1) (mv 3)))))) (mv 0) (zyc ⟨_,rfl,rfl⟩ (zyc ⟨_,rfl,rfl⟩ zRb))) zd))))))))
abbrev z7m:yR:=top 33
abbrev z8g:Qx:=["rule","key"]
def Sm:tj zfu z8g (zo z7m):=by walk_at "s"
def zeu(T:Txt K mg)(B:FnAt K mg "homes" z7m z8g f fd):OkM P w K mg base 1 f fd z8g 2 zwn:=by
 exact tK B.fn Sm z5m λhr hu=>(zj (zT 2 (zK zmb T.tZ zYc (zb (zN (mv 0) zm) zd)) (hN:=Sm.nd)) (zn (zF (zbb zMc T.TB zHe (zb (Tp ["way"] [1,2] (zYb (zN (mv 0) zm)) (zU 0 (hN:=zQ (by rfl))) zhc (zP zRd (zP zRd (zP zhb (zP zNc (zN (mv 0) zm) (mv 1)) (zN (mv 0) zm)) (zPi T.sN)) (mv 2)) (zyc ⟨_,rfl,rfl⟩ (zyc ⟨_,rfl,rfl⟩ zRb))) zd)))))
abbrev zni:yR:=top 36
abbrev zKd:Qx:=["rule","keys"]
def zPt:tj zOq zKd (zo zni):=by walk_at "s"
def zyr(T:Txt K mg)(zIn:FnAt K mg "homes" z7m z8g f0 d0)(zOm:OkM P w K mg base 1 f0 d0 z8g 2 zwn)(B:FnAt K mg "web_of" zni zKd f fd):OkM P w K mg base 2 f fd zKd 2 zZf:=by
 exact tK B.fn zPt z5j λhr hu=>(zn (zF (zye (zb (zN (mv 0) zm) (zb (zbb zMc T.TB zHe (zb (Tp ["key"] [0] (zYb (mv 1)) (zU 0 (hN:=zQ (by rfl))) zhc (tz zIn zOm hr (zb (mv 1) (zb (mv 0) zd))) (zyc ⟨_,rfl,rfl⟩ zRb)) zd)) zd)))))
abbrev zBc:yR:=zeg (top 47) 7
abbrev zBb:Qx:=["self"]
def zhl:tj zkh zBb (zo zBc):=by walk_at "s"
def zwj(T:Txt K mg)(zH:MethAt K "Shelf" "all_there" "Shelf.all_there" zcb zD C0 f0 d0)(zI:OkM P w K mg base 1 f0 d0 zD 1 zV)(B:MethAt K "Shelf" "laying" "Shelf.laying" zBc zBb C f fd):OkM P w K mg base 2 f fd zBb 1 zCc:=by
 exact tK B.fn zhl zrd λhr hu=>(zn (zF (Tp ["key"] [0] (zYb (sF zH zI hr (mv 0))) (zU 0 (hN:=zQ (by rfl))) zhc (zvu (zsj T.tE (mv 1)) (mv 0)) (zyc ⟨_,rfl,rfl⟩ zRb))))
abbrev zne:yR:=zeg (top 47) 1
abbrev zkc:Qx:=["self","key"]
def Td:tj zbl zkc (zo zne):=by walk_at "s"
def zEn(T:Txt K mg)(zLc:MethAt K "Shelf" "has" "Shelf.has" zod zFb C0 f0 d0)(z3c:OkM P w K mg base 1 f0 d0 zFb 2 zjd)(zH:MethAt K "Shelf" "all_there" "Shelf.all_there" zcb zD C1 f1 d1)(zI:OkM P w K mg base 1 f1 d1 zD 1 zV)(zag:FnAt K mg "put_in" zhi zFd f2 d2)(zdf:OkM P w K mg base 3 f2 d2 zFd 3 zof)(zOf:FnAt K mg "web_of" zni zKd f3 d3)(zbf:OkM P w K mg base 2 f3 d3 zKd 2 zZf)(zyd:MethAt K "Shelf" "laying" "Shelf.laying" zBc zBb C4 f4 d4)(zre:OkM P w K mg base 2 f4 d4 zBb 1 zCc){zgi zrp z6k:yg}{Te:yP}(tH:Sv K mg "Full" "some" "Full.__init__" zOc zyb zgi zrp z6k Te)(tV:tS P w K mg base CX0 1 z6k Te zyb (spL zgi "some"))(B:MethAt K "Shelf" "put" "Shelf.put" zne zkc C f fd):OkX P w K mg base 4 f fd zkc 2 zze:=by
 obtain⟨ztp,n_Twice,m_Twice,k_Twice⟩:=T.Sw;exact fnYi B.fn Td zcg λhr hu=>(zj (z8b (zGh (TV zLc z3c hr (mv 0) (zb (mv 1) zd))) (zn (zkq n_Twice (T.e_Twice ztp n_Twice) xv (zb zS zd))) z6) (zj (zT 2 (zP zhb (sF zH zI hr (mv 0)) (zDd (zb (mv 1) zd))) (hN:=Td.nd)) (zj (z8b (z5 zZo (zK zmb T.tZ zYc (zb (mv 2) zd)) (zPi T.Sl)) (zn (zDo tH.nm tH.ex tV tH.bd hr (zb (zK (zxe rfl) T.Tw zje (zb (mv 2) zd)) zd))) z6) (zj (zT 3 (tz zag zdf hr (zb (tz zOf zbf hr (zb (zsj T.tL (mv 0)) (zb (mv 2) zd))) (zb (zP zhb (sF zyd zre hr (mv 0)) (zDd (zb zRh zd))) (zb (zP zuk (zK zmb T.tZ zYc (zb (mv 2) zd)) zm) zd)))) (hN:=Td.nd)) (zj (z8b (z5 (zac hu) (zN (mv 3) zm) zS) (zn (zDo tH.nm tH.ex tV tH.bd hr (zb (zK (zxe rfl) T.Tw zje (zb (Tp ["place"] [2] (zYb (zN (mv 3) zm)) (zU 0 (hN:=zQ (by rfl))) zhc (zN (mv 1) (mv 0)) (zyc ⟨_,rfl,rfl⟩ zRb)) zd)) zd))) z6) (zj (mslcI 4 ["push"] [2] (zYb (zN (mv 3) zm)) (zU 0 (hN:=zQ (by rfl))) zhc (zye (zb (zN (mv 1) (zN (mv 0) zm)) (zb (zN (mv 0) zm) zd))) (zyc ⟨_,rfl,rfl⟩ zRb) Td.nd) (zj (zjg (zYb (mv 4)) (zwc 5 (hN:=Td.nd)) (zn (zgl (zN (mv 5) zm) (zCq (zsj T.tE (mv 0)) (zN (mv 5) zm))))) (zn (zF (mv 4))))))))))
abbrev zjc:yR:=top 63
abbrev zY:Qx:=["numbers"]
def zUh:tj zrj zY (zo zjc):=by walk_at "s"
def zyl(T:Txt K mg)(B:FnAt K mg "show_words" zjc zY f fd):OkM P w K mg base 1 f fd zY 1 zVc:=by
 exact tK B.fn zUh zUe λhr hu=>(zn (zF (zAh zS (zb (Tp ["number"] [] (zYb (mv 0)) (zU 0 (hN:=zQ (by rfl))) zhc (zbb zpb T.To zHd (zb (mv 0) zd)) zRb) zd))))
def z1k(T:Txt K mg)(B:FnAt K mg "show_words" zjc zY f fd):z3l P w K mg base f fd zY " ":=showOk B.fn zUh rfl (zen (zTu (zrw PySem.F.plainAttrs_str PySem.F.slot_str_join PySem.F.type_str_join zev zzu (zQd (zvA ["number"] (zQu (pv 0)) (z6o (zQ (by rfl)) rfl (.inl rfl)) zkx (z6e zkj rfl T.To zHd (zQd (pv 0) zPg))) zPg))))
abbrev zIf:yR:=top 65
abbrev z4c:Qx:=["push"]
def zTo:tj zrk z4c (zo zIf):=by walk_at "s"
def zXm(T:Txt K mg)(B:FnAt K mg "show_push" zIf z4c f fd):OkM P w K mg base 1 f fd z4c 1 zdg:=by
 exact tK B.fn zTo zhg λhr hu=>(zn (zF (zP zHc (zP zHc (zbb zpb T.To zHd (zb (zN (mv 0) zm) zd)) zS) (znu (zhp T.sO) (zN (mv 0) zm)))))
abbrev zSe:yR:=top 67
abbrev zrc:Qx:=["shelf","rest"]
def Tm:tj zlj zrc (zo zSe):=by walk_at "s"
def zIl(T:Txt K mg)(zlb:FnAt K mg "read_number" zmc zeb f0 d0)(zkb:OkM P w K mg base 1 f0 d0 zeb 1 zxb)(zqf:MethAt K "Shelf" "put" "Shelf.put" zne zkc C1 f1 d1)(zyg:OkX P w K mg base 4 f1 d1 zkc 2 zze)(znb:FnAt K mg "show_words" zjc zY f2 d2)(zWb:OkM P w K mg base 1 f2 d2 zY 1 zVc)(tQ:z3l P w K mg base f2 d2 zY " ")(zBf:FnAt K mg "show_push" zIf z4c f3 d3)(zVg:OkM P w K mg base 1 f3 d3 z4c 1 zdg)(B:FnAt K mg "answer_put" zSe zrc f fd):OkM P w K mg base 5 f fd zrc 2 zGd:=by
 obtain⟨zgi,n_Full,m_Full,k_Full⟩:=T.ST;obtain⟨ztp,n_Twice,m_Twice,k_Twice⟩:=T.Sw;exact tK B.fn Tm zQe λhr hu=>(zj (zT 2 (tz zlb zkb hr (zb (mv 1) zd)) (hN:=Tm.nd)) (zj (zru (zqt (zOs 3 zqf zyg hr (mv 0) (zb (mv 2) zd) (hN:=Tm.nd))) (zRu [("Twice",true),("Full",false),("NoKey",false)] n_Twice k_Twice (T.s_Twice ztp n_Twice) (λ_=>(zn (zF zS))) (zfx 4 [("Twice",false),("Full",true),("NoKey",false)] n_Full k_Full (T.SU zgi n_Full) (λ_=>zpq 4 znb tQ hr T.SV) zop (hN:=Tm.nd)))) (zn (zF (zP zHc zS (zAh zS (zb (Tp ["push"] [] (zYb (mv 3)) (zU 0 (hN:=zQ (by rfl))) zhc (tz zBf zVg hr (zb (mv 0) zd)) zRb) zd)))))))
abbrev zle:yR:=zeg (top 47) 2
abbrev zec:Qx:=["self","key"]
def zXo:tj zok zec (zo zle):=by walk_at "s"
def zWm(T:Txt K mg)(zLc:MethAt K "Shelf" "has" "Shelf.has" zod zFb C0 f0 d0)(z3c:OkM P w K mg base 1 f0 d0 zFb 2 zjd)(B:MethAt K "Shelf" "out" "Shelf.out" zle zec C f fd):OkX P w K mg base 2 f fd zec 2 z4f:=by
 obtain⟨zap,n_NoKey,m_NoKey,k_NoKey⟩:=T.Sx;exact fnYi B.fn zXo zwf λhr hu=>(zj (z8b (zOl (zGh (TV zLc z3c hr (mv 0) (zb (mv 1) zd)))) (zn (zkq n_NoKey (T.e_NoKey zap n_NoKey) xv (zb zS zd))) z6) (zn (zF (zzy (zsj T.tE (mv 0)) (zb (mv 1) zd)))))
abbrev zNe:yR:=top 68
abbrev zoc:Qx:=["shelf","rest"]
def TJ:tj zmj zoc (zo zNe):=by walk_at "s"
def zJl(T:Txt K mg)(zlb:FnAt K mg "read_number" zmc zeb f0 d0)(zkb:OkM P w K mg base 1 f0 d0 zeb 1 zxb)(zMf:MethAt K "Shelf" "out" "Shelf.out" zle zec C1 f1 d1)(zHg:OkX P w K mg base 2 f1 d1 zec 2 z4f)(B:FnAt K mg "answer_out" zNe zoc f fd):OkM P w K mg base 3 f fd zoc 2 zJd:=by
 obtain⟨zap,n_NoKey,m_NoKey,k_NoKey⟩:=T.Sx;exact tK B.fn TJ zFe λhr hu=>(zj (zT 2 (tz zlb zkb hr (zb (mv 1) zd)) (hN:=TJ.nd)) (zj (zru (zqt (zOs 3 zMf zHg hr (mv 0) (zb (mv 2) zd) (hN:=TJ.nd))) (zRu [("Twice",false),("Full",false),("NoKey",true)] n_NoKey k_NoKey (T.s_NoKey zap n_NoKey) (λ_=>(zn (zF zS))) zop)) (zn (zF (znu (zhp T.sO) (mv 3))))))
abbrev zDf:yR:=top 64
abbrev zUc:Qx:=["keys"]
def zFo:tj zKk zUc (zo zDf):=by walk_at "s"
def zym(T:Txt K mg)(znb:FnAt K mg "show_words" zjc zY f0 d0)(zWb:OkM P w K mg base 1 f0 d0 zY 1 zVc)(B:FnAt K mg "show_keys" zDf zUc f fd):OkM P w K mg base 2 f fd zUc 1 zwh:=by
 exact tK B.fn zFo znf λhr hu=>(zn (zF (zsB (z5 (zac hu) (mv 0) (zDd zd)) zS (tz znb zWb hr (zb (mv 0) zd)))))
abbrev z6d:yR:=top 71
abbrev z7b:Qx:=["shelf","rest"]
def zBl:tj zci z7b (zo z6d):=by walk_at "s"
def z0k(T:Txt K mg)(zXf:FnAt K mg "show_keys" zDf zUc f0 d0)(zQg:OkM P w K mg base 2 f0 d0 zUc 1 zwh)(zH:MethAt K "Shelf" "all_there" "Shelf.all_there" zcb zD C1 f1 d1)(zI:OkM P w K mg base 1 f1 d1 zD 1 zV)(B:FnAt K mg "answer_keys" z6d z7b f fd):OkM P w K mg base 3 f fd z7b 2 zcd:=by
 exact tK B.fn zBl z2d λhr hu=>(zn (zF (tz zXf zQg hr (zb (sF zH zI hr (mv 0)) zd))))
abbrev zmi:yR:=top 15
abbrev zee:Qx:=["web","laying","row","at"]
def sI:tj zqo zee (zo zmi):=by walk_at "s"
def zzp(T:Txt K mg)(B:FnAt K mg "is_push" zmi zee f fd):OkM P w K mg base 1 f fd zee 4 zPh:=by
 exact tK B.fn sI z7h λhr hu=>(zj (zT 4 (zN (zN (mv 2) (mv 3)) zm) (hN:=sI.nd)) (zj (z8b (MW.mt (zxn (z5 znm (mv 4) zm) (zgj (z5 z5w (mv 4) (zK zmb T.tZ zYc (zb (mv 1) zd)))))) (zn (zF zYo)) z6) (zj (z8b (MW.mt (zxn (z5 zui (zN (zN (mv 2) (mv 3)) zm) (zN (zN (mv 0) zm) (mv 4))) (zgj (z5 (zac hu) (zN (zN (mv 2) (mv 3)) zm) (zN (mv 1) (mv 4)))))) (zn (zF zYo)) z6) (zn (zF (zfh zui (mv 4) (Tp ["push"] [] (zYb (zTA (mv 2) zMz (zlx (mv 3)))) (zU 0 (hN:=zQ (by rfl))) zhc (zN (mv 0) zm) zRb)))))))
abbrev zHh:yR:=top 16
abbrev zbe:Qx:=["laying","key","row","at"]
def zwr:tj zko zbe (zo zHh):=by walk_at "s"
def zxp(T:Txt K mg)(B:FnAt K mg "follows" zHh zbe f fd):OkM P w K mg base 1 f fd zbe 4 zai:=by
 exact tK B.fn zwr z5h λhr hu=>(zj (z8b (z5 (zac hu) (mv 3) zm) (zn (zF (zfh (zac hu) (zN (zN (mv 2) zm) zm) (mv 1)))) z6) (zn (zF (zfh (zac hu) (zN (mv 0) (zN (zN (mv 2) (mv 3)) zm)) (zN (zN (mv 2) (zP zuk (mv 3) zm)) zm)))))
abbrev zGn:yR:=top 11
abbrev zZg:Qx:=["web","laying"]
def TW:tj zCt zZg (zo zGn):=by walk_at "s"
def zAt(T:Txt K mg)(TQ:FnAt K mg "left" zvo zKg f0 d0)(z5i:OkM P w K mg base 1 f0 d0 zKg 2 zTk)(B:FnAt K mg "fault" zGn zZg f fd):OkM P w K mg base 2 f fd zZg 2 zun:=by
 exact tK B.fn TW zom λhr hu=>(zj (zjg (zoh T.tT zcc (mv 1)) (ztq (zRe (zwc 2 (hN:=TW.nd)) (zRe (zwc 3 (hN:=TW.nd)) zRm))) (zn (z8b (MW.mt (zBt (z5 zcl (mv 3) zRh) (zAp (z5 zui (mv 3) (zN (zN (mv 0) zm) (mv 2)))))) (zn (zF (zye (zb zS (zb (mv 2) zd))))) z6))) (zj (zjg (zoh T.tT zcc (SO (TQ.al T.tY) TQ z5i hr (zb (mv 0) (zb (mv 1) zd)))) (ztq (zRe (zwc 3 (hN:=TW.nd)) (zRe (zwc 4 (hN:=TW.nd)) zRm))) (zn (z8b (z5 znm (mv 4) zm) (zn (zF (zye (zb zS (zb (mv 3) zd))))) z6))) (zn (zF zRh))))
abbrev zFj:yR:=top 17
abbrev zff:Qx:=["web","laying","key","row"]
def sd:tj zAq zff (zo zFj):=by walk_at "s"
def zRr(T:Txt K mg)(zVh:FnAt K mg "is_push" zmi zee f0 d0)(zWi:OkM P w K mg base 1 f0 d0 zee 4 zPh)(zpi:FnAt K mg "follows" zHh zbe f1 d1)(zRi:OkM P w K mg base 1 f1 d1 zbe 4 zai)(zDn:FnAt K mg "fault" zGn zZg f2 d2)(zqn:OkM P w K mg base 2 f2 d2 zZg 2 zun)(B:FnAt K mg "pushed" zFj zff f fd):OkM P w K mg base 3 f fd zff 4 zGj:=by
 exact tK B.fn sd zXj λhr hu=>(zj (zT 4 (zbb z4r T.sG zil (zb (mv 1) zd)) (hN:=sd.nd)) (zj (zjg (zoh T.tT zcc (mv 3)) (ztq (zRe (zwc 5 (hN:=sd.nd)) (zRe (zwc 6 (hN:=sd.nd)) zRm))) (zj (z8b (zOl (MW.mt (zBt (zGh (tz zVh zWi hr (zb (mv 0) (zb (mv 1) (zb (mv 3) (zb (mv 5) zd)))))) (zAp (zGh (tz zpi zRi hr (zb (mv 1) (zb (mv 2) (zb (mv 3) (zb (mv 5) zd)))))))))) (zn z8c) z6) (zn (zgl (zN (mv 6) zm) (z3y (mv 4) (zN (mv 6) zm)))))) (zj (z8b (MW.mt (zxn (z5 (zac hu) (zK zmb T.tZ zYc (zb (mv 3) zd)) zm) (zgj (z5 zcl (tz zDn zqn hr (zb (mv 0) (zb (mv 4) zd))) zRh)))) (zn z8c) z6) (zn (zF (mv 4))))))
abbrev z5f:yR:=top 21
abbrev z0c:Qx:=["web","laying","keys"]
def Tf:tj zJk z0c (zo z5f):=by walk_at "s"
def zQm(T:Txt K mg)(zag:FnAt K mg "put_in" zhi zFd f0 d0)(zdf:OkM P w K mg base 3 f0 d0 zFd 3 zof)(zSj:FnAt K mg "pushed" zFj zff f1 d1)(zSk:OkM P w K mg base 3 f1 d1 zff 4 zGj)(B:FnAt K mg "laid_more" z5f z0c f fd):OkM P w K mg base 4 f fd z0c 3 zxh:=by
 exact tK B.fn Tf z3f λhr hu=>(zj (zT 3 (zDd zd) (hN:=Tf.nd)) (zj (zjg (zYb (mv 2)) (zwc 4 (hN:=Tf.nd)) (zj (zT 5 (tz zag zdf hr (zb (mv 0) (zb (mv 1) (zb (mv 4) zd)))) (hN:=Tf.nd)) (zn (z8b (z5 (zac hu) (zN (mv 5) zm) zS) (zn (zT 1 (tz zSj zSk hr (zb (mv 0) (zb (mv 1) (zb (mv 4) (zb (zN (mv 5) zm) zd))))) (hN:=Tf.nd))) (zn z8c))))) (zn (zF (zye (zb (mv 1) (zb (z5v T.Tw zje T.n_set znA (mv 3)) zd)))))))
abbrev z9d:yR:=top 22
abbrev z6b:Qx:=["web"]
def zEl:tj zji z6b (zo z9d):=by walk_at "s"
def zel(T:Txt K mg)(zKf:FnAt K mg "laid_more" z5f z0c f0 d0)(zzg:OkM P w K mg base 4 f0 d0 z0c 3 zxh)(B:FnAt K mg "laid_at_all" z9d z6b f fd):OkM P w K mg base 5 f fd z6b 1 z0d:=by
 exact tK B.fn zEl zWd λhr hu=>(zn (zF (tz zKf zzg hr (zb (mv 0) (zb (zP zNc (zDd (zb zRh zd)) (zK zmb T.tZ zYc (zb (zN (mv 0) zm) zd))) (zb (zit T.sG zil T.so (zK zmb T.tZ zYc (zb (zN (mv 0) zm) zd))) zd))))))
abbrev zUj:yR:=top 43
abbrev zif:Qx:=["web"]
def sP:tj zgq zif (zo zUj):=by walk_at "s"
def z0r(T:Txt K mg)(zUd:FnAt K mg "laid_at_all" z9d z6b f0 d0)(z5e:OkM P w K mg base 5 f0 d0 z6b 1 z0d)(B:FnAt K mg "fitted" zUj zif f fd):OkM P w K mg base 6 f fd zif 1 z7j:=by
 exact tK B.fn sP zWj λhr hu=>(zj (zT 1 (tz zUd z5e hr (zb (mv 0) zd)) (hN:=sP.nd)) (zj (z8b (z5 (zac hu) (zN (mv 1) zm) (zDd zd)) (zn (zF (zye (zb zS (zb (zN (mv 1) zm) zd))))) z6) (zn z8c)))
abbrev zbd:yR:=zeg (top 47) 9
abbrev zIb:Qx:=["self","rule"]
def tU:tj zLh zIb (zo zbd):=by walk_at "s"
def zjl(T:Txt K mg)(zH:MethAt K "Shelf" "all_there" "Shelf.all_there" zcb zD C0 f0 d0)(zI:OkM P w K mg base 1 f0 d0 zD 1 zV)(zOj:FnAt K mg "fitted" zUj zif f1 d1)(zEk:OkM P w K mg base 6 f1 d1 zif 1 z7j)(zOf:FnAt K mg "web_of" zni zKd f2 d2)(zbf:OkM P w K mg base 2 f2 d2 zKd 2 zZf){zgi zrp z6k:yg}{Te:yP}(tH:Sv K mg "Full" "some" "Full.__init__" zOc zyb zgi zrp z6k Te)(tV:tS P w K mg base CX0 1 z6k Te zyb (spL zgi "some"))(B:MethAt K "Shelf" "renew" "Shelf.renew" zbd zIb C f fd):OkX P w K mg base 7 f fd zIb 2 z5d:=by
 exact fnYi B.fn tU zYd λhr hu=>(zj (zT 2 (sF zH zI hr (mv 0)) (hN:=tU.nd)) (zj (zT 3 (tz zOj zEk hr (zb (tz zOf zbf hr (zb (mv 1) (zb (mv 2) zd))) zd)) (hN:=tU.nd)) (zj (z8b (z5 (zac hu) (zN (mv 3) zm) zS) (zn z8c) z6) (zj (zBq T.tL (mv 0) (mv 1)) (zn (zjg (zoh T.tT zcc (mv 2)) (ztq (zRe (zwc 4 (hN:=tU.nd)) (zRe (zwc 5 (hN:=tU.nd)) zRm))) (zn (zgl (zN (zN (mv 3) zm) (mv 4)) (zCq (zsj T.tE (mv 0)) (mv 5))))))))))
abbrev zwd:yR:=top 75
abbrev zNb:Qx:=["shelf","rest"]
def Tr:tj zhh zNb (zo zwd):=by walk_at "s"
def ztj(T:Txt K mg)(zQc:FnAt K mg "read_rule" zke zSb f0 d0)(zXc:OkM P w K mg base 5 f0 d0 zSb 1 zpd)(zae:MethAt K "Shelf" "renew" "Shelf.renew" zbd zIb C1 f1 d1)(z0e:OkX P w K mg base 7 f1 d1 zIb 2 z5d)(znb:FnAt K mg "show_words" zjc zY f2 d2)(zWb:OkM P w K mg base 1 f2 d2 zY 1 zVc)(tQ:z3l P w K mg base f2 d2 zY " ")(B:FnAt K mg "answer_renew" zwd zNb f fd):OkM P w K mg base 8 f fd zNb 2 zAc:=by
 obtain⟨zgi,n_Full,m_Full,k_Full⟩:=T.ST;exact tK B.fn Tr zvd λhr hu=>(zj (zT 2 (tz zQc zXc hr (zb (mv 1) zd)) (hN:=Tr.nd)) (zj (zru (zqt (zFw zae z0e hr (mv 0) (zb (mv 2) zd))) (zfx 3 [("Twice",false),("Full",true),("NoKey",false)] n_Full k_Full (T.SU zgi n_Full) (λ_=>zpq 3 znb tQ hr T.SV) zop (hN:=Tr.nd))) (zn (zF zS))))
abbrev zhe:yR:=zeg (top 80) 1
abbrev zVb:Qx:=["self","row"]
def TX:tj zUl zVb (zo zhe):=by walk_at "s"
def zjo(T:Txt K mg)(zEj:FnAt K mg "is_row" z1j zcf f0 d0)(zCk:OkM P w K mg base 1 f0 d0 zcf 1 zZj)(zEe:FnAt K mg "answer_put" zSe zrc f1 d1)(zrf:OkM P w K mg base 5 f1 d1 zrc 2 zGd)(zLe:FnAt K mg "answer_out" zNe zoc f2 d2)(zyf:OkM P w K mg base 3 f2 d2 zoc 2 zJd)(z7d:FnAt K mg "answer_keys" z6d z7b f3 d3)(z1e:OkM P w K mg base 3 f3 d3 z7b 2 zcd)(zud:FnAt K mg "answer_renew" zwd zNb f4 d4)(zAe:OkM P w K mg base 8 f4 d4 zNb 2 zAc)(B:MethAt K "Desk" "say" "Desk.say" zhe zVb C f fd):OkM P w K mg base 9 f fd zVb 2 zW:=by
 obtain⟨C_ANSWERS,n_ANSWERS,m_ANSWERS⟩:=T.an;exact tK B.fn TX zYg λhr hu=>(zj (z8b (MW.mt (zxn (zOl (zGh (zK (zUg .str) T.Ta zhd (zb (mv 1) (zb (zyo T.To zHd) zd))))) (zgj (zOl (zGh (tz zEj zCk hr (zb (zMh (mv 1) (zb zS zd)) zd))))))) (zn z8c) z6) (zj (zT 2 (zPx (mv 1) (zb zS zd)) (hN:=TX.nd)) (zj (zT 3 (z3z T.ans (zXw n_ANSWERS m_ANSWERS) (zN (mv 2) zm)) (hN:=TX.nd)) (zn (zF (z0A (pv 3) (sC zEe T.TF zrf (sC zLe T.TH zyf (sC z7d T.Tv z1e (sC zud T.Tq zAe dynNil)))) hr (zb (zsj T.Tk (mv 0)) (zb (zN (mv 2) zm) zd))))))))
abbrev zVd:yR:=top 89
abbrev z3b:Qx:=["_law_desk","_law_keys"]
def Tg:tj z9h z3b (zo zVd):=by walk_at "s"
def z4k(T:Txt K mg)(zob:MethAt K "Desk" "say" "Desk.say" zhe zVb C0 f0 d0)(zib:OkM P w K mg base 9 f0 d0 zVb 2 zW)(B:FnAt K mg "_law_filled" zVd z3b f fd):OkM P w K mg base 10 f fd z3b 2 z4d:=by
 exact tK B.fn Tg z8d λhr hu=>(zj (zT 2 (zDd zd) (hN:=Tg.nd)) (zj (zjg (zYb (mv 1)) (zwc 3 (hN:=Tg.nd)) (zn (z8b (z5 znm (zK zmb T.tZ zYc (zb (mv 2) zd)) zm) (zj (zT 4 (zN (zMh (TV zob zib hr (mv 0) (zb (zP zHc zS (zbb zpb T.To zHd (zb (mv 3) zd))) zd)) (zb zS zd)) zm) (hN:=Tg.nd)) (zn (z8b (z5 (zac hu) (mv 4) zS) (zn (zCn (zYk (mv 2) (zb (mv 3) zd)))) (zn (z8b (z5 (zqk hu) (mv 4) zS) (zn (zF zRh)) z6))))) z6))) (zn (zF (mv 2)))))
abbrev zJc:yR:=top 90
abbrev zAb:Qx:=["_law_there","_law_key"]
def zIi:tj zog zAb (zo zJc):=by walk_at "s"
def zIh(T:Txt K mg)(B:FnAt K mg "_law_full_text" zJc zAb f fd):OkM P w K mg base 1 f fd zAb 2 z0b:=by
 exact tK B.fn zIi zFc λhr hu=>(zn (zF (zAh zS (zb (zP zhb (zDd (zb zS zd)) (Tp ["_law_one"] [] (zYb (zK (zxe rfl) T.Tw zje (zb (zP zhb (mv 0) (zDd (zb (mv 1) zd))) zd))) (zU 0 (hN:=zQ (by rfl))) zhc (zbb zpb T.To zHd (zb (mv 0) zd)) zRb)) zd))))
abbrev zaq:yR:=top 91
abbrev zsq:Qx:=["_law_script"]
def Ti:tj zUz zsq (zo zaq):=by walk_at "s"
def z9x(T:Txt K mg)(z9g:FnAt K mg "_law_pen" z6g znd f0 d0)(zzh:OkM P w K mg base 3 f0 d0 znd 2 zWg)(z0f:FnAt K mg "_law_rule" zRf z1c f1 d1)(zIg:OkM P w K mg base 2 f1 d1 z1c 1 z1f)(zgd:si K mg "Desk" zdc ztb C2 f2 d2)(zPd:OkM P w K mg base 6 f2 d2 ztb 2 zfd)(zqe:FnAt K mg "_law_text" zzf z5c f3 d3)(zMe:OkM P w K mg base 1 f3 d3 z5c 1 zme)(zZ:FnAt K mg "_law_take" zie zTb f4 d4)(zX:OkM P w K mg base 1 f4 d4 zTb 2 zM)(zXd:FnAt K mg "_law_filled" zVd z3b f5 d5)(zZe:OkM P w K mg base 10 f5 d5 z3b 2 z4d)(zob:MethAt K "Desk" "say" "Desk.say" zhe zVb C6 f6 d6)(zib:OkM P w K mg base 9 f6 d6 zVb 2 zW)(z2b:FnAt K mg "_law_full_text" zJc zAb f7 d7)(zlc:OkM P w K mg base 1 f7 d7 zAb 2 z0b)(B:FnAt K mg "law" zaq zsq f fd):OkM P w K mg base 11 f fd zsq 1 zXr:=by
 exact tK B.fn Ti zCv λhr hu=>(zj (zT 1 (tz z9g zzh hr (zb (mv 0) (zb zm zd))) (hN:=Ti.nd)) (zj (zT 2 (tz z0f zIg hr (zb (mv 1) zd)) (hN:=Ti.nd)) (zj (zT 3 (SQ zgd zPd hr (zb (tz zqe zMe hr (zb (mv 2) zd)) zd)) (hN:=Ti.nd)) (zj (zT 4 (zN (zDd (zb (tz zZ zX hr (zb (mv 1) (zb zm zd))) (zb (zP zNi (tz zZ zX hr (zb (mv 1) (zb (zP zNi zm zm) zd))) zm) zd))) (tz zZ zX hr (zb (mv 1) (zb zm zd)))) (hN:=Ti.nd)) (zj (zT 5 (tz zXd zZe hr (zb (mv 3) (zb (Tp ["_law_k"] [4] (z2j T.so (zb zm zd)) (zU 0 (hN:=zQ (by rfl))) zhc (zP zhb (mv 1) (mv 0)) (zyc ⟨_,rfl,rfl⟩ zRb)) zd))) (hN:=Ti.nd)) (zj (z8b (z5 zbA (mv 5) zRh) (zn (zF zYo)) z6) (zj (z8b (z5 znm (zK zmb T.tZ zYc (zb (mv 5) zd)) zm) (zn (zF (zfh (zac hu) (TV zob zib hr (mv 3) (zb zS zd)) (zAh zS (zb (zP zhb (Tp ["_law_key"] [] (zYb (zK (zxe rfl) T.Tw zje (zb (mv 5) zd))) (zU 0 (hN:=zQ (by rfl))) zhc (zbb zpb T.To zHd (zb (mv 0) zd)) zRb) (zP zNc (zDd (zb zS zd)) (zbb zEs T.SW zGt (zb (zfh (zac hu) (mv 5) (zDd zd)) zd)))) zd))))) z6) (zj (zjg (z2j T.so (zb zm zd)) (zwc 6 (hN:=Ti.nd)) (zj (zT 7 (zP zhb (zP zhb (mv 4) (zP zNi zm zm)) (tz zZ zX hr (zb (mv 1) (zb (zP zNi zm zm) zd)))) (hN:=Ti.nd)) (zj (zT 8 (zN (mv 5) (tz zZ zX hr (zb (mv 1) (zb zm zd)))) (hN:=Ti.nd)) (zj (z8b (MW.mt (zxn (z5 (zqk hu) (TV zob zib hr (mv 3) (zb (zP zHc zS (zbb zpb T.To zHd (zb (mv 7) zd))) zd)) (tz z2b zlc hr (zb (mv 5) (zb (mv 7) zd)))) (zgj (z5 (zqk hu) (TV zob zib hr (mv 3) (zb (zP zHc zS (zbb zpb T.To zHd (zb (mv 8) zd))) zd)) zS)))) (zn (zF zYo)) z6) (zj (z8b (z5 (zac hu) (TV zob zib hr (mv 3) (zb (zP zHc zS (zbb zpb T.To zHd (zb (mv 8) zd))) zd)) zS) (zn (zF zYo)) z6) (zj (zT 9 (zP zhb (mv 8) (zP zNc zm (zP zhb zm (tz zZ zX hr (zb (mv 1) (zb zm zd)))))) (hN:=Ti.nd)) (zj (z8b (z5 zui (mv 9) (mv 5)) (zn (zT 5 (zP zhb (Tp ["_law_key"] [8] (zYb (mv 5)) (zU 0 (hN:=zQ (by rfl))) (zEt (z5 (zqk hu) (mv 0) (mv 1))) (mv 0) (zyc ⟨_,rfl,rfl⟩ zRb)) (zDd (zb (mv 9) zd))) (hN:=Ti.nd))) (zn (zT 9 (mv 8) (hN:=Ti.nd)))) (zj (z8b (z5 (zqk hu) (zN (zMh (TV zob zib hr (mv 3) (zb (zP zHc zS (zbb zpb T.To zHd (zb (mv 9) zd))) zd)) (zb zS zd)) zm) zS) (zn (zF zYo)) z6) (zn (z8b (z5 (zqk hu) (TV zob zib hr (mv 3) (zb zS zd)) (zAh zS (zb (Tp ["_law_key"] [] (zYb (zK (zxe rfl) T.Tw zje (zb (mv 5) zd))) (zU 0 (hN:=zQ (by rfl))) zhc (zbb zpb T.To zHd (zb (mv 0) zd)) zRb) zd))) (zn (zF zYo)) z6)))))))))) (zj (zT 10 (zye (zb (zbb zMc T.TB zHe (zb (Tp ["_law_room"] [] (zYb (zN (mv 2) zm)) (zU 0 (hN:=zQ (by rfl))) zhc (zK (zgs rfl) T.n_min zCz (zb zm (zb (zP zhb (mv 0) zm) zd))) zRb) zd)) (zb (zN (mv 2) zm) zd))) (hN:=Ti.nd)) (zj (z8b (z5 (zqk hu) (TV zob zib hr (mv 3) (zb (zP zHc zS (tz zqe zMe hr (zb (mv 10) zd))) zd)) zS) (zn (zF zYo)) z6) (zn (zF (zfh (zac hu) (TV zob zib hr (mv 3) (zb (zP zHc zS (zbb zpb T.To zHd (zb (zP zhb (mv 4) (zP zNi zm zm)) zd))) zd)) (tz z2b zlc hr (zb (mv 5) (zb (zP zhb (mv 4) (zP zNi zm zm)) zd))))))))))))))))
end
end P
namespace P
open PySem PySem.Spec PyProof.Rows L2 M
set_option maxHeartbeats 4000000
variable {R:Qf}{K:Qd}{O:Mem}{Q:Wr}{i l k L n h m x:Nat}{xs ds:Wm}{ns S T A V R' y':Qf}{B:Int}{s a c y z:yj}{row hU ts ts':Qe}{nx bk ct:M.Loc->Mem->Prop}{r:D}{G:FA}{J:M.Loc}
def zOt{i j:Int}:gEq (.int i) (.int j) O=some (.bl (i==j),O):=by simp[gEq,toP,Yc]
def zcy{o o':tu}(h:O[l]?=some o):(O.set l o')[l]?=some o':=by
 rw[yO (List.getElem?_eq_some_iff.mp h).1]
def zvt:M.cutD xs none (some (i:Int))=xs.take i:=by
 unfold M.cutD;rw[HT.Sc,HT.Ss,List.drop_zero,Nat.sub_zero];rcases Nat.le_total i xs.length with h|h
 ·rw[Nat.min_eq_left h]
 ·rw[Nat.min_eq_right h,Ny,List.take_of_length_le h]
def zDv:M.cutD xs (some (i:Int)) none=xs.drop i:=by
 unfold M.cutD;rw[HT.Sc,HT.Ss];rcases Nat.le_total i xs.length with h|h
 ·rw[Nat.min_eq_left h,List.take_of_length_le (by simp)]
 ·rw[Nat.min_eq_right h,Nat.sub_self,List.take_zero,List.drop_eq_nil_of_le h]
local macro_rules | `(tactic| walk_at "w") => `(tactic| first
  | refine zB ?_ | refine zGb ?_ | refine zfs ?_ | refine zLb ?_ | refine zVn ?_ | refine zih ?_ | refine zub ?_ | refine zYi ?_
  | refine zf rfl ?_ | refine w_c ?_ | refine zu ?_ | refine zt ?_ | refine ze ?_ | refine zr ?_ | refine zKi ?_ | refine zTg ?_ | refine zuz ?_ | refine zNy ?_ | refine zKt ?_ | refine z9s ?_ | refine zIC ?_ | refine w_not ?_ | refine zJB ?_ | refine zar ?_ | refine zQj ?_ | refine zLq ?_ | refine zJz ?_
  | refine zL ?_ | refine zNq ?_ | refine zzj ?_ | refine znk ?_ | refine zyx ?_ | refine zal ?_ | refine zmf ?_ | refine zyu ?_ | refine zkB ?_ | refine zkn ?_ | refine zBs ?_
  | refine zUi ?_ | refine z7s ?_ | refine zoA (by first | decide | omega) ?_ | refine zoB (by first | decide | omega) (by first | decide | omega) ?_ | refine z6i ?_ | refine zNo ?_ | refine zkA ?_ | refine z3B ?_ | refine zlv ?_ | refine zsp (by decide) (by decide) (by decide) ?_ | refine z9z ?_ | refine zOw ?_ | refine zdx ?_ | refine zdA ?_
  | refine zuj rfl ?_ | refine z8w rfl ?_ | refine zwg rfl ?_ | with_reducible refine ⟨_,rfl,?_⟩)
local macro_rules | `(tactic| walk_at "om") => `(tactic| first | omega | (simp only [Lu, Lv, Int.toNat_natCast, Lq, Lr, List.length_nil] at *; omega) | (simp <;> omega))
def zGy{ns:Qg}{k:Int}(h0:0<=k)(h1:k<=1000):∃v,zRc [.fz (ns.map .int),.int k] O=some (.int v,O):=by
 have hk1:-18446744073709551616<k:=by omega
 have hk2:k<18446744073709551616:=by omega
 by_cases hn:ns=[]
 ·subst hn;simp[zRc,zPe,zXe,zvj,hk1,hk2]
 ·have hl:0<ns.length:=List.length_pos_iff.mpr hn;have hl':(0:Int)<ns.length:=by omega
  have hm0:0<=k%(ns.length:Int):=Int.emod_nonneg _ (by omega);have hm1:k%(ns.length:Int)<ns.length:=Int.emod_lt_of_pos _ hl';have hi:(k%(ns.length:Int)).toNat<ns.length:=by omega
  simp[zRc,zPe,zXe,zvj,hk1,hk2,hl,hl',hm0,hm1,atI,ixN,yE hi]
def zEz{ns:Qg}{k:Int}(h0:0<=k)(h1:k<=1000):∃v,z5b [.fz (ns.map .int),.int k] O=some (.int v,O):=by
 by_cases h:k<ns.length
 ·have hi:k.toNat<ns.length:=by omega
  exact⟨ns[k.toNat],by simp[z5b,zxd,zsd,h,h0,atI,ixN,yE hi]⟩
 ·obtain⟨v,e⟩:=zGy (ns:=ns) (O:=O) h0 h1;exact⟨v,by simp[z5b,zxd,zsd,h,e]⟩
def Pen(O:Mem)(l:Nat)(B:Int):Prop:=∃f c n a:Int,O[l]?=some (.lst [.int f,.int c,.int n,.int a])/\0<=a/\a<=B
def Pen.mono{B':Int}(h:Pen O l B)(hb:B<=B'):Pen O l B':=by
 obtain⟨f,c,n,a,e,h0,h1⟩:=h;exact⟨f,c,n,a,e,h0,by omega⟩
def Pen.kb{O O':Mem}{L:Qf}(h:Pen O l B)(k:KB L O O')(hl:l∉L):Pen O' l B:=by
 obtain⟨f,c,n,a,e,h0,h1⟩:=h;exact⟨f,c,n,a,k.at_ _ _ hl e,h0,h1⟩
def Pen.app{O g:Mem}(h:Pen O l B):Pen (O++g) l B:=h.kb (L:=[]) (KB.refl.app) (by simp)
def Pen.lt(h:Pen O l B):l<O.length:=by
 obtain⟨f,c,n,a,e,_⟩:=h;exact zR e
def z0s{s:Int}(h:Pen O l B)(hB:B<=1000000000)(h0:0<s)(h1:s<1606938044258990275541962092341162602522202993782792835301376)
 (q:∀v O',0<=v->v<s->KB [l] O O'->O'.length=O.length->Pen O' l (B+1)->Q (.int v) O'):WF zM [.loc l,.int s] O Q:=by
 obtain⟨f,c,n,a,e,ha,hb⟩:=h;have kJ:=zR e;have kb:∀o,KB [l] O (O.set l o):=λo=>KB.refl.set (.inl (by simp))
 by_cases hf:f=0
 ·subst hf;refine⟨_,_,?_,q (c%s) (O.set l (.lst [.int 0,.int (c / s),.int n,.int a])) (Int.emod_nonneg _ (by omega)) (Int.emod_lt_of_pos _ h0) (kb _) (by simp) ⟨0,c / s,n,a,zEb e,ha,by omega⟩⟩;simp[zM,zGf,ztf,e,atI,ixN,zOt,h0,h1]
 ·have hf':(f==0)=false:=by simpa using hf
  have e2:(O.set l (.lst [.int f,.int c,.int n,.int (a+1)]))[l]?=some (.lst [.int f,.int c,.int n,.int (a+1)]):=zEb e;have hm1:-18446744073709551616<a+1:=by omega
  have hm2:a+1<18446744073709551616:=by omega
  refine⟨_,_,?_,q (((c%2305843009213693951*48271+(a+1)*(a+1)*40692+7*(a+1)+11)%2147483647*1181783497276652981%2305843009213693951 / 64)%s) (O.set l (.lst [.int f,.int c,.int n,.int (a+1)])) (Int.emod_nonneg _ (by omega)) (Int.emod_lt_of_pos _ h0) (kb _) (by simp) ⟨f,c,n,a+1,e2,by omega,by omega⟩⟩;simp[zM,zGf,ztf,e,e2,atI,ixN,zOt,hf',h0,h1,zvj,hm1,hm2,zKl]
def zyz{ns:Qg}{k:Int}(h0:0<=k)(h1:k<=1000)(q:∀O',KB [] O O'->Pen O' O.length 101000->O'.length=O.length+1->Q (.loc O.length) O'):WF zWg [.fz (ns.map .int),.int k] O Q:=by
 obtain⟨v,e⟩:=zEz (ns:=ns) (O:=O) h0 h1;refine zHb rfl ?_;unfold z3i
 repeat walk_at "w"
 refine⟨_,_,e,?_⟩
 repeat walk_at "w"
 refine zWx (by unfold zKl;simp) ?_
 repeat walk_at "w"
 refine q _ KB.refl.app ⟨_,_,_,_,zq,by omega,by omega⟩ (by simp)
structure WebA(L:Int)(rooms:Qg)(ks:List (Qg)):Prop where
 rl:1<=rooms.length/\rooms.length<=10
 rn:∀r∈rooms,0<=r
 kl:ks.length<=L
 kn:∀k∈ks,(2<=k.length/\k.length<=3)/\∀i∈k,0<=i/\i<rooms.length
abbrev tn(ns:Qf):D:=.tup (nat ns)
abbrev wn(R:Qf)(K:Qd):D:=.tup [tn R,.tup (K.map tn)]
structure Wb(L:Nat)(R:Qf)(K:Qd):Prop where
 rl:1<=R.length/\R.length<=10
 kl:K.length<=L
 kn:∀k∈K,(2<=k.length/\k.length<=3)/\∀h∈k,h<R.length
def Wb.key(w:Wb L R K){k:Nat}(h:k<K.length):(2<=(K.getD k []).length/\(K.getD k []).length<=3)/\∀x∈K.getD k [],x<R.length:=by
 have:K.getD k []=K[k]:=by simp[h]
 rw[this];exact w.kn _ (Lp h)
def zkp(q:Q (tn R) O):W2 gIx (wn R K) (.int 0) O Q:=zPc rfl (show atI [tn R,.tup (K.map tn)] 0=some (tn R) from rfl) q
def zUk(q:Q (.tup (K.map tn)) O):W2 gIx (wn R K) (.int 1) O Q:=zPc rfl (show atI [tn R,.tup (K.map tn)] 1=some (.tup (K.map tn)) from rfl) q
def zgw(h:k<K.length)(q:Q (tn (K.getD k [])) O):W2 gIx (.tup (K.map tn)) (.int k) O Q :=
 zPc rfl (zed (v:=tn (K.getD k [])) (by simp[h])) q
structure tW(R:Qf)(K:Qd)(hZ:Qc):Prop where
 len:hZ.length=K.length
 home:∀k h,hZ[k]?=some (some h)->h∈K.getD k []
 room:∀h,hZ.count (some h)<=R.getD h 0
def zxk(n:Nat)(K:Qd)(S:Qf):Qf:=(yz n).filter λh=>decide (∃k∈S,h∈K.getD k [])
def zYy(R:Qf)(N:Qf):Nat:=(N.map λh=>R.getD h 0).sum
def zlk(w:Wb L R K)(h:Nat):h∈zxk R.length K S↔∃k∈S,h∈K.getD k []:=by
 unfold zxk;rw[List.mem_filter,Np,decide_eq_true_iff];constructor
 ·exact λq=>q.2
 ·rintro⟨k,hk,hh⟩;refine⟨?_,k,hk,hh⟩;rw[Lo]at hh
  cases e:K[k]? with
  |none=>rw[e]at hh;simp at hh
  |some x=>rw[e]at hh;exact(w.kn x (No e)).2 h hh
def z4t(R:Qf)(K:Qd)(S:Qf):Bool:=decide (zYy R (zxk R.length K S)<S.length)
def z9o(hZ:Qc)(a:Qj):hZ.count a=((yz hZ.length).filter λk=>decide (hZ.getD k none=a)).length:=by
 have e:hZ=(yz hZ.length).map λk=>hZ.getD k none:=by
  refine Li λi=>?_
  by_cases h:i<hZ.length
  ·simp[h]
  ·simp[h]
 conv=>lhs;rw[e]
 rw[List.count,List.countP_map,List.countP_eq_length_filter]
 congr 1
 refine List.filter_congr λk _=>?_;simp only[Function.comp];exact Bool.beq_eq_decide_eq _ _
def lyN(hZ:Qc)(N:Qf):Qf:=(yz hZ.length).filter λk=>decide (∃h∈N,hZ.getD k none=some h)
def sY{hZ:Qc}{N:Qf}:k∈lyN hZ N↔∃h∈N,hZ.getD k none=some h:=by
 unfold lyN;rw[List.mem_filter,Np,decide_eq_true_iff];constructor
 ·exact λq=>q.2
 ·rintro⟨h,hh,e⟩;refine⟨?_,h,hh,e⟩;refine Nat.lt_of_not_le λhle=>?_;rw[Lo,Yy hle]at e;cases e
def ziA(hZ:Qc)(N:Qf):(lyN hZ N).Nodup:=List.nodup_range.sublist List.filter_sublist
def zei{α:Type}(p q:α->Bool)(h:∀x,p x=true->q x=false):∀l:List α,(l.filter λx=>p x||q x).length=(l.filter p).length+(l.filter q).length
 |[]=>rfl
 |x::l=>by
  have ih:=zei p q h l
  cases hp:p x with
  |true=>simp[Lk,hp,h x hp,ih];omega
  |false=>
   cases hq:q x with
   |true=>simp[Lk,hp,hq,ih];omega
   |false=>simp[Lk,hp,hq,ih]
def zBp{hZ:Qc}:∀{N:Qf},N.Nodup->(lyN hZ N).length=(N.map λh=>hZ.count (some h)).sum
 |[],_=>by simp[lyN]
 |h::N,nd=>by
  obtain⟨h1,h2⟩:=List.nodup_cons.mp nd;rw[Nf,List.sum_cons,<-zBp h2,z9o]
  have:=zei (λk=>decide (hZ.getD k none=some h)) (λk=>decide (∃g∈N,hZ.getD k none=some g)) (λk hk=>by
   have hk:=of_decide_eq_true hk;refine decide_eq_false ?_;rintro⟨g,hg,e⟩;rw[hk]at e;cases e;exact h1 hg) (yz hZ.length)
  rw[show lyN hZ N=(yz hZ.length).filter λk=>decide (∃g∈N,hZ.getD k none=some g) from rfl,<-this];unfold lyN
  congr 1
  refine List.filter_congr λk _=>?_;rw[<-Bool.decide_or];refine decide_eq_decide.mpr ?_;simp only[Nk];constructor
  ·rintro⟨g,rfl|hg,e⟩
   ·exact .inl e
   ·exact .inr ⟨g,hg,e⟩
  ·rintro(e|⟨g,hg,e⟩)
   ·exact⟨h,.inl rfl,e⟩
   ·exact⟨g,.inr hg,e⟩
def zDu{α:Type}{f g:α->Nat}:∀{l:List α},(∀x∈l,f x<=g x)->(l.map f).sum<=(l.map g).sum
 |[],_=>yo _
 |x::l,h=>by
  rw[Nf,Nf,List.sum_cons,List.sum_cons];have h1:=h x Nn;have h2:=zDu (l:=l) λy hy=>h y (Nm _ hy);omega
def zqd{α:Type}[DecidableEq α]:∀{l m:List α},l.Nodup->(∀x∈l,x∈m)->l.length<=m.length
 |[],_,_,_=>Ys _
 |x::l,m,nd,h=>by
  obtain⟨h1,h2⟩:=List.nodup_cons.mp nd;have hx:=h x Nn;have ih:=zqd (l:=l) (m:=m.erase x) h2 λy hy=>(List.mem_erase_of_ne (by rintro rfl;exact h1 hy)).mpr (h y (Nm _ hy));rw[List.length_erase_of_mem hx]at ih;have:=List.length_pos_of_mem hx;rw[Lr];omega
def z3t{hZ:Qc}(w:Wb L R K)(r:tW R K hZ)(hd:T.Nodup)(hT:∀k∈T,k<K.length)(hall:∀k∈T,(hZ.getD k none).isSome=true):z4t R K T=false:=by
 refine decide_eq_false ?_;have hN:(zxk R.length K T).Nodup:=List.nodup_range.sublist List.filter_sublist
 have h1:T.length<=(lyN hZ (zxk R.length K T)).length:=zqd hd λk hk=>by
  rw[sY];have hs:=hall k hk
  cases e:hZ.getD k none with
  |none=>rw[e]at hs;cases hs
  |some h=>
   refine⟨h,?_,rfl⟩;rw[zlk w];refine⟨k,hk,r.home k h ?_⟩;have gA:k<hZ.length:=by rw[r.len];exact hT k hk
   simp[gA]at e;simp[gA,e]
 rw[zBp hN]at h1;have h2:((zxk R.length K T).map λh=>hZ.count (some h)).sum<=zYy R (zxk R.length K T):=zDu λh _=>r.room h;omega
structure Shut(R:Qf)(K:Qd)(hZ:Qc)(C:Qf):Prop where
 keys:∀k∈C,k<K.length
 full:∀k∈C,∀h∈K.getD k [],R.getD h 0<=hZ.count (some h)
 lies:∀k∈C,∀h∈K.getD k [],∀o,hZ.getD o none=some h->o∈C
def zkm{hZ:Qc}{C:Qf}(w:Wb L R K)(s:Shut R K hZ C)(hl:hZ.length=K.length){k0:Nat}(hk0:k0∈C)(hn:hZ.getD k0 none=none):z4t R K C=true:=by
 refine decide_eq_true ?_;have hN:(zxk R.length K C).Nodup:=List.nodup_range.sublist List.filter_sublist
 have h1:zYy R (zxk R.length K C)<=((zxk R.length K C).map λh=>hZ.count (some h)).sum:=zDu λh hh=>by
  obtain⟨k,hk,hm⟩:=(zlk w h).mp hh;exact s.full k hk h hm
 rw[<-zBp hN]at h1
 have h2:(k0::lyN hZ (zxk R.length K C)).length<=C.length:=zqd (List.nodup_cons.mpr ⟨λhm=>(by
  obtain⟨h,_,e⟩:=sY.mp hm;rw[hn]at e;cases e),ziA _ _⟩) λx hx=>by
  rcases List.mem_cons.mp hx with rfl|hx
  ·exact hk0
  ·obtain⟨h,hh,e⟩:=sY.mp hx;obtain⟨k,hk,hm⟩:=(zlk w h).mp hh;exact s.lies k hk h hm x e
 rw[Lr]at h2;omega
structure TC(K:Qd)(hZ:Qc)(key:Nat)(row:Qe):Prop where
 first:∃h r,row=(key,h)::r
 mem:∀p∈row,p.1<K.length/\p.2∈K.getD p.1 []/\hZ.getD p.1 none≠some p.2
 link:∀i p q,row[i]?=some p->row[i+1]?=some q->hZ.getD q.1 none=some p.2
 nd:(row.map (·.1)).Nodup
def z3e(hZ:Qc)(row:Qe):Qc:=row.foldl (λl p=>l.set p.1 (some p.2)) hZ
def zoi(row:Qe):∀hZ:Qc,(z3e hZ row).length=hZ.length:=by
 induction row with
 |nil=>intro hZ;rfl
 |cons p row ih=>intro hZ;show(z3e (hZ.set p.1 (some p.2)) row).length=_;rw[ih];simp
def z7l(hZ:Qc)(row:Qe)(p:Nat×Nat):z3e hZ (row++[p])=(z3e hZ row).set p.1 (some p.2):=by
 unfold z3e;rw[List.foldl_append];rfl
def zrg :∀{hZ:Qc} {k:Nat},k∉row.map (·.1)->(z3e hZ row).getD k none=hZ.getD k none:=by
 induction row with
 |nil=>intro hZ k _;rfl
 |cons p row ih=>
  intro hZ k hk;rw[Nf,Nk,not_or]at hk;show(z3e (hZ.set p.1 (some p.2)) row).getD k none=_;rw[ih hk.2];simp only[Lo];rw[yQ (Yi hk.1)]
def zYq(nd:(row.map (·.1)).Nodup):∀{hZ:Qc} {p:Nat×Nat},p∈row->p.1<hZ.length->(z3e hZ row).getD p.1 none=some p.2:=by
 induction row with
 |nil=>intro hZ p hp;cases hp
 |cons q row ih=>
  intro hZ p hp hl;rw[Nf,Nt]at nd;show(z3e (hZ.set q.1 (some q.2)) row).getD p.1 none=_;rcases List.mem_cons.mp hp with rfl|hp
  ·rw[zrg nd.1];simp[hl]
  ·exact ih nd.2 hp (by simpa using hl)
def zKn{hZ:Qc}{a b:Qj}(hk:k<hZ.length)(ha:hZ.getD k none=a)(x:Qj):(hZ.set k b).count x+(if a=x then 1 else 0)=hZ.count x+(if b=x then 1 else 0):=by
 have e1:hZ=hZ.take k++a::hZ.drop (k+1):=by
  have:hZ[k]=a:=by simpa[hk] using ha
  rw[<-this,List.getElem_cons_drop,List.take_append_drop]
 have e2:hZ.set k b=hZ.take k++b::hZ.drop (k+1):=by rw[List.set_eq_take_append_cons_drop,if_pos hk]
 rw[e2]
 conv=>rhs;rw[e1]
 rw[List.count_append,List.count_append,List.count_cons,List.count_cons];simp only[beq_iff_eq]
 split<;>split<;>omega
def zpp{hZ:Qc}{key:Nat}(r:TC K hZ key row)(hl:hZ.length=K.length)(kI:hZ.getD key none=none):∀i,i<row.length->∀h:Nat,(z3e hZ (row.take (i+1))).count (some h)=hZ.count (some h)+(if(row.getD i (0,0)).2=h then 1 else 0):=by
 intro i
 induction i with
 |zero=>
  intro hi h;obtain⟨h0,r0,e⟩:=r.first
  have hm:=r.mem (key,h0) (by rw[e];simp);subst e;have:=zKn (hZ:=hZ) (k:=key) (b:=some h0) (by rw[hl];exact hm.1) kI (some h);show(hZ.set key (some h0)).count (some h)=_;simpa using this
 |succ i ih=>
  intro hi h;have ih:=ih (by omega) h;have hp:row[i]?=some row[i]:=by simp[show i<row.length by omega]
  have hq:row[i+1]?=some row[i+1]:=by simp[hi]
  have hlink:=r.link i _ _ hp hq;have hm:=r.mem row[i+1] (Lp hi);have et:row.take (i+1+1)=row.take (i+1)++[row[i+1]]:=by simp
  have hnot:(row[i+1]).1∉(row.take (i+1)).map (·.1):=by
   intro kL;have nd:=r.nd;rw[<-List.take_append_drop (i+1) row,Nc,Nr]at nd;refine nd.2.2 _ kL _ ?_ rfl;refine List.mem_map.mpr ⟨row[i+1],?_,rfl⟩;rw[xA hi];exact Nn
  have hcur:(z3e hZ (row.take (i+1))).getD (row[i+1]).1 none=some (row[i]).2:=by rw[zrg hnot];exact hlink
  rw[et,z7l];have:=zKn (hZ:=z3e hZ (row.take (i+1))) (k:=(row[i+1]).1) (b:=some (row[i+1]).2) (by rw[zoi,hl];exact hm.1) hcur (some h);have e1:row.getD i (0,0)=row[i]:=by simp[show i<row.length by omega]
  have e2:row.getD (i+1) (0,0)=row[i+1]:=by simp[hi]
  rw[e1]at ih;rw[e2];simp only[Xi]at this;omega
def zth{hZ:Qc}{key:Nat}(rt:tW R K hZ)(r:TC K hZ key row)(kI:hZ.getD key none=none)(kK:hZ.count (some (row.getD (row.length-1) (0,0)).2)<R.getD (row.getD (row.length-1) (0,0)).2 0):tW R K (z3e hZ row):=by
 have kY:0<row.length:=by
  obtain⟨h,q,e⟩:=r.first
  rw[e];simp
 refine⟨by rw[zoi];exact rt.len,λk h e=>?_,λh=>?_⟩
 ·have e':(z3e hZ row).getD k none=some h:=by rw[Lo,e];rfl
  by_cases hk:k∈row.map (·.1)
  ·obtain⟨p,hp,rfl⟩:=List.mem_map.mp hk;have hm:=r.mem p hp;rw[zYq r.nd hp (by rw[rt.len];exact hm.1)]at e';cases e';exact hm.2.1
  ·rw[zrg hk]at e';refine rt.home k h ?_;rw[Lo]at e'
   cases q:hZ[k]? with
   |none=>rw[q]at e';cases e'
   |some z=>rw[q]at e';exact congrArg some e'
 ·have:=zpp r rt.len kI (row.length-1) (by omega) h;rw[show row.length-1+1=row.length by omega,Ny]at this;rw[this];have hr:=rt.room h
  split
  ·rename_i e
   rw[e]at kK;omega
  ·omega
def zWl(hZ:Qc)(h:Nat):Qf:=(yz hZ.length).filter λk=>decide (hZ.getD k none=some h)
def zTy(R:Qf)(hZ:Qc):Qg:=(yz R.length).map λh=>(R.getD h 0:Int)-(hZ.count (some h):Nat)
def ziw{hZ:Qc}(hn:O[n]?=some (.lst (hZ.map onD)))(hl:hZ.length<=1000)(q:∀(l:Nat)(O':Mem),tm O O'->O.length<=l->O'[l]?=some (.lst (nat (zWl hZ h)))->Q (.loc l) O'):WF ztn [.loc n,.int h] O Q:=by
 refine zHb rfl ?_;show WS zgn [some (.loc n),some (.int h)] O _ _ _ _;unfold zgn
 repeat walk_at "w"
 refine znj (zf rfl (.inr (.inr ⟨n,_,rfl,hn,zKb (by rw[zEd,Lu];omega),?_⟩)));rw[zte onD hZ none];refine zVm (λ(k:Nat) =>.tup [.int k,onD (hZ.getD k none)]) (yz hZ.length) (λ(k:Nat)=>D.int k) (λk=>decide (hZ.getD k none=some h)) (λO' k=>zrb hn k) (λk hk O' kp=>?_) (λO' kp=>?_)
 ·repeat walk_at "w"
  refine zDy (α:=Qj) (hZ.getD k none) (some h) ?_
  repeat walk_at "w"
  refine⟨rfl,kp,λ_=>?_⟩;unfold zLn;exact zf rfl ⟨rfl,kp⟩
 ·exact q _ _ kp.to kp.len zq
def zqy{hZ:Qc}(w:Wb L R K)(hn:O[n]?=some (.lst (hZ.map onD)))(q:∀(l:Nat)(O':Mem),tm O O'->O.length<=l->O'[l]?=some (.lst ((zTy R hZ).map .int))->Q (.loc l) O'):WF zTk [wn R K,.loc n] O Q:=by
 have kZ:=w.rl;refine zHb rfl ?_;show WS zSl [some (wn R K),some (.loc n)] O _ _ _ _;unfold zSl
 repeat walk_at "w"
 refine znj ?_
 repeat walk_at "w"
 refine zkp (.inl ⟨_,rfl,zKb (by rw[zEd,Lu];omega),?_⟩);rw[zte (λ(k:Nat)=>D.int k) R 0];refine zic (λ(k:Nat) =>.tup [.int k,.int (R.getD k 0:Nat)]) (yz R.length) (λ(k:Nat)=>D.int ((R.getD k 0:Int)-(hZ.count (some k):Nat))) (λ_ _=>rfl) (λk hk O' kp=>?_) (λO' kp=>?_)
 ·repeat walk_at "w"
  refine⟨_,_,rfl,kp _ _ hn,?_⟩
  repeat walk_at "w"
  refine zLu (kp _ _ hn) ?_
  repeat walk_at "w"
  exact⟨rfl,kp,kp⟩
 ·refine q _ _ kp.to kp.len ?_;rw[zq];unfold zTy;rw[Ng];rfl
def z8m(K:Qd)(ds:Wm)(k:Nat):Bool:=!zUA (ds.getD k .non) && !((nat (K.getD k [])).any λy=>eqF y (ds.getD k .non))
def zWu(R:Qf)(ds:Wm)(h:Nat):Bool:=decide ((R.getD h 0:Nat)<(zvy ds h:Int))
def zcm(R:Qf)(K:Qd)(ds:Wm):D:=match(yz K.length).find? (z8m K ds) with
 |some k =>.tup [.str "home",.int k]
 |none=>match(yz R.length).find? (zWu R ds) with
  |some h =>.tup [.str "room",.int h]
  |none =>.non
def zov(w:Wb L R K)(hf:ds.all zve=true)(hn:O[n]?=some (.lst ds))(q:∀(l:Nat)(O':Mem),tm O O'->O.length<=l->O'[l]?=some (.lst (((yz R.length).map λh=>(R.getD h 0:Int)-(zvy ds h:Nat)).map .int))->Q (.loc l) O'):WF zTk [wn R K,.loc n] O Q:=by
 have kZ:=w.rl;refine zHb rfl ?_;show WS zSl [some (wn R K),some (.loc n)] O _ _ _ _;unfold zSl
 repeat walk_at "w"
 refine znj ?_
 repeat walk_at "w"
 refine zkp (.inl ⟨_,rfl,zKb (by rw[zEd,Lu];omega),?_⟩);rw[zte (λ(k:Nat)=>D.int k) R 0];refine zic (λ(k:Nat) =>.tup [.int k,.int (R.getD k 0:Nat)]) (yz R.length) (λ(k:Nat)=>D.int ((R.getD k 0:Int)-(zvy ds k:Nat))) (λ_ _=>rfl) (λk hk O' kp=>?_) (λO' kp=>?_)
 ·repeat walk_at "w"
  refine⟨_,_,rfl,kp _ _ hn,?_⟩
  repeat walk_at "w"
  refine zGu (kp _ _ hn) rfl hf ?_
  repeat walk_at "w"
  exact⟨rfl,kp,kp⟩
 ·refine q _ _ kp.to kp.len ?_;rw[zq,Ng];rfl
def zOv(hf:ds.all zve=true){k:Nat}{d:D}(h:ds[k]?=some d):zve d=true:=List.all_eq_true.mp hf d (No h)
def zow(w:Wb L R K)(hf:ds.all zve=true)(hl:ds.length=K.length)(hn:O[n]?=some (.lst ds))(q:∀(O':Mem),tm O O'->Q (zcm R K ds) O'):WF zun [wn R K,.loc n] O Q:=by
 have kZ:=w.rl;refine zHb rfl ?_;show WS zom [some (wn R K),some (.loc n),none,none,none] O _ _ _ _;unfold zom;refine zB (zYi (znj (zf rfl (.inr (.inr ⟨n,_,rfl,hn,?_⟩)))));refine zNd (λm J O'=>∃a b:Wn,J=[some (wn R K),some (.loc n),a,b,none]/\O'=O/\∀j<m,z8m K ds j=false) ⟨_,_,rfl,rfl,by simp⟩ (λm J O' h=>by obtain⟨_,_,_,rfl,_⟩:=h;exact zrb hn .refl) ?_ ?_
 ·rintro m x J O' hx ⟨a,b,rfl,rfl,hb⟩;obtain⟨y,hy,rfl⟩:=zjn hx;have hm:m<ds.length:=(List.getElem?_eq_some_iff.mp hy).1;have hfy:=zOv hf hy;have hgy:ds.getD m .non=y:=by rw[Lo,hy];rfl
  have hgo:z8m K ds m=false->∀j<m+1,z8m K ds j=false:=λh j hj=>by
   by_cases e:j=m
   ·subst e;exact h
   ·exact hb j (by omega)
  repeat walk_at "w"
  refine z0m hfy ?_
  repeat walk_at "w"
  refine⟨λh1=>?_,λh1=>⟨λhc=>(by cases hc),λ_=>?_⟩⟩
  ·repeat walk_at "w"
   refine zUk ?_
   repeat walk_at "w"
   refine zgw (by omega) ?_;refine zPs rfl hfy (zQq _) ?_
   repeat walk_at "w"
   refine⟨λh2=>?_,λh2=>?_⟩
   ·repeat walk_at "w"
    have hh:z8m K ds m=true:=by
     unfold z8m;rw[hgy,h1,h2];rfl
    have:=q O' .refl;unfold zcm at this;rw[zQl hh (by omega) hb]at this;exact this
   ·repeat walk_at "w"
    refine⟨_,_,rfl,rfl,hgo ?_⟩;unfold z8m;rw[hgy,h2,Bool.and_false]
  ·repeat walk_at "w"
   refine⟨_,_,rfl,rfl,hgo ?_⟩;unfold z8m;rw[hgy,h1,Bool.false_and]
 ·rintro J O' ⟨a,b,rfl,rfl,hb⟩;rw[zEd,hl]at hb;refine zB (zYi (znj (zt (ze (zf rfl (ze (zf rfl (zr ?_))))))));refine zov w hf hn λl O1 k1 hl1 g1 =>.inr (.inr ⟨l,_,rfl,g1,?_⟩);rw[zte D.int _ 0];refine zNd (λm J O'=>∃a b c:Wn,J=[some (wn R K),some (.loc n),a,b,c]/\O'=O1/\∀j<m,zWu R ds j=false) ⟨_,_,_,rfl,rfl,by simp⟩ (λm J O' h=>by obtain⟨_,_,_,_,rfl,_⟩:=h;exact zrb g1 .refl) ?_ ?_
  ·rintro m x J O2 hx ⟨a,b,c,rfl,rfl,hr⟩
   have hm:m<R.length:=by
    have:=(List.getElem?_eq_some_iff.mp hx).1;simpa using this
   have ex:x=.tup [.int m,.int ((R.getD m 0:Int)-(zvy ds m:Nat))]:=by
    rw[yk]at hx;simp[hm]at hx;rw[<-hx];simp[hm]
   subst ex
   repeat walk_at "w"
   have hdec:decide ((R.getD m 0:Int)-(zvy ds m:Nat)<0)=zWu R ds m:=by
    unfold zWu;exact decide_eq_decide.mpr (by omega)
   rw[hdec];refine⟨λh1=>?_,λh1=>?_⟩
   ·repeat walk_at "w"
    have:=q O2 k1;unfold zcm at this;rw[zqg hb,zQl h1 hm hr]at this;exact this
   ·repeat walk_at "w"
    refine⟨_,_,_,rfl,rfl,λj hj=>?_⟩
    by_cases e:j=m
    ·subst e;exact h1
    ·exact hr j (by omega)
  ·rintro J O2 ⟨a,b,c,rfl,rfl,hr⟩;simp only[Lu,Lv]at hr
   repeat walk_at "w"
   have:=q O2 k1;unfold zcm at this;rw[zqg hb,zqg hr]at this;exact this
abbrev PT:=List (Nat×Nat×Qj)
def dkP(P:PT):Wp:=P.map λp=>((p.1:Int),.tup [.int (p.2.1:Nat),onD p.2.2])
def zMq(P:PT):znl (dkP P)=nat (P.map (·.1)):=by
 unfold znl dkP;rw[Ng,zTi];rfl
def zJp(P:PT)(h:Nat):((dkP P).any λp=>decide (p.1=(h:Int)))=decide (h∈P.map (·.1)):=by
 refine zIj ?_;unfold dkP;rw[Le,Ld];simp only[Function.comp,decide_eq_true_iff,List.mem_map];constructor
 ·rintro⟨p,hp,e⟩;exact⟨p,hp,by omega⟩
 ·rintro⟨p,hp,e⟩;exact⟨p,hp,by omega⟩
def zql{P:PT}:(zLd (dkP P) (h:Int)).isSome=decide (h∈P.map (·.1)):=by
 rw[<-zJp,Bool.eq_iff_iff];unfold zLd;rw[Option.isSome_map,List.find?_isSome,Ld]
def zdy{P:PT}(nd:(P.map (·.1)).Nodup){p:Nat×Nat×Qj}(hp:p∈P):zLd (dkP P) (p.1:Int)=some (.tup [.int (p.2.1:Nat),onD p.2.2]):=by
 induction P with
 |nil=>cases hp
 |cons q P ih=>
  rw[Nf,Nt]at nd
  have e:zLd (dkP (q::P)) (p.1:Int)=if(q.1:Int)=p.1 then some (.tup [.int (q.2.1:Nat),onD q.2.2]) else zLd (dkP P) (p.1:Int):=by
   unfold zLd dkP;rw[Nf,xX]
   by_cases h:(q.1:Int)=p.1
   ·simp[h]
   ·simp[h]
  rw[e];rcases List.mem_cons.mp hp with rfl|hp
  ·rw[if_pos rfl]
  ·rw[if_neg,ih nd.2 hp];intro h;refine nd.1 (List.mem_map.mpr ⟨p,hp,by omega⟩)
def zAu{P:PT}{f:Qj}(hn:h∉P.map (·.1)):zhs (dkP P) (h:Int) (.tup [.int k,onD f])=dkP (P++[(h,k,f)]):=by
 unfold zhs;rw[zJp,decide_eq_false hn,if_neg yF];simp[dkP]
def zgy{P:PT}{f:Qj}(hn:h∈P.map (·.1))(ha:∀p∈P,p.2=(k,f)):zhs (dkP P) (h:Int) (.tup [.int k,onD f])=dkP P:=by
 unfold zhs;rw[zJp,decide_eq_true hn,if_pos rfl];unfold dkP;rw[Ng];refine Nd λp hp=>?_;simp only[Function.comp]
 split
 ·rw[ha p hp]
 ·rfl
structure Tree(R:Qf)(K:Qd)(hZ:Qc)(key:Nat)(P:PT):Prop where
 nd:(P.map (·.1)).Nodup
 lt:∀p∈P,p.1<R.length
 ok:∀(i:Nat) p,P[i]?=some p->p.2.1<K.length/\p.1∈K.getD p.2.1 []/\((p.2.2=none/\p.2.1=key)\/∃(j:Nat)(q:Nat×Nat×Qj),j<i/\P[j]?=some q/\p.2.2=some q.1/\hZ.getD p.2.1 none=some q.1)
def Tree.len{hZ:Qc}{key:Nat}{P:PT}(t:Tree R K hZ key P):P.length<=R.length:=by
 have:=zqd t.nd (m:=yz R.length) λx hx=>by
  obtain⟨p,hp,rfl⟩:=List.mem_map.mp hx;simpa using t.lt p hp
 simpa using this
def Tree.add{hZ:Qc}{key:Nat}{P:PT}(t:Tree R K hZ key P){h k:Nat}{f:Qj}(hn:h∉P.map (·.1))(hr:h<R.length)(hk:k<K.length)(hm:h∈K.getD k [])
 (hf:(f=none/\k=key)\/∃(j:Nat)(q:Nat×Nat×Qj),P[j]?=some q/\f=some q.1/\hZ.getD k none=some q.1):Tree R K hZ key (P++[(h,k,f)]):=by
 refine⟨?_,λp hp=>?_,λi p e=>?_⟩
 ·rw[Nc,Nr];refine⟨t.nd,by simp,λa ha b hb=>?_⟩;simp at hb;subst hb;exact λe=>hn (e▸ha)
 ·rcases List.mem_append.mp hp with hp|hp
  ·exact t.lt p hp
  ·rw[List.mem_singleton.mp hp];exact hr
 ·by_cases hi:i<P.length
  ·rw[yq hi]at e;obtain⟨h1,h2,h3⟩:=t.ok i p e;refine⟨h1,h2,?_⟩;rcases h3 with h3|⟨j,q,hj,eq,h4⟩
   ·exact .inl h3
   ·exact .inr ⟨j,q,hj,by rw[yq (by omega)];exact eq,h4⟩
  ·rw[yS (by omega)]at e
   have hi0:i-P.length=0:=by
    have:=(List.getElem?_eq_some_iff.mp e).1;simp at this;omega
   rw[hi0]at e;have e:(h,k,f)=p:=by simpa using e
   subst e;refine⟨hk,hm,?_⟩;rcases hf with hf|⟨j,q,eq,h4⟩
   ·exact .inl hf
   ·have hj:=(List.getElem?_eq_some_iff.mp eq).1;exact .inr ⟨j,q,by omega,by rw[yq hj];exact eq,h4⟩
def z5t(d l:Nat)(O ν:Mem):Prop:=∀i o,i≠d->i≠l->O[i]?=some o->ν[i]?=some o
abbrev JPa(R:Qf)(K:Qd)(hZ:Qc)(key n d l2 at_ o:Nat)(P0:PT)(ν:Mem):Nat->M.Loc->Mem->Prop:=λm J ν'=>∃(P:PT)(x:Wn),J=[some (wn R K),some (.loc n),some (.int key),some (.loc d),x,some (.loc l2),some (.int at_),some (.int o)]/\(∃E,P=P0++E)/\Tree R K hZ key P/\(∀h∈(K.getD o []).take m,h∈P.map (·.1))/\z5t d l2 ν ν'/\ν'[d]?=some (.dct (dkP P))/\ν'[l2]?=some (.lst (nat (P.map (·.1))))
def zpv{hZ:Qc}{key d l2 at_ o:Nat}{P0:PT}{q:Nat×Nat×Qj}{x4:Wn}{ν:Mem}{rt:Wr}(w:Wb L R K)(t:Tree R K hZ key P0)(ho:o<K.length)(hq:P0[at_]?=some q)(hlo:hZ.getD o none=some q.1)
 (hl2:d<l2) (gd:ν[d]?=some (.dct (dkP P0))) (gl:ν[l2]?=some (.lst (nat (P0.map (·.1)))))
 (k:∀(P:PT)(x:Wn)(ν':Mem),(∃E,P=P0++E)->Tree R K hZ key P->(∀h∈K.getD o [],h∈P.map (·.1))->z5t d l2 ν ν'->ν'[d]?=some (.dct (dkP P))->ν'[l2]?=some (.lst (nat (P.map (·.1))))->nx [some (wn R K),some (.loc n),some (.int key),some (.loc d),x,some (.loc l2),some (.int at_),some (.int o)] ν') :
 WS zSf [some (wn R K),some (.loc n),some (.int key),some (.loc d),x4,some (.loc l2),some (.int at_),some (.int o)] ν nx rt bk ct:=by
 unfold zSf;refine zYi (zOd (zu (zu (zf rfl (w_c (zUk (zf rfl (zgw ho (.inl ⟨_,rfl,?_⟩)))))))));refine zNd (JPa R K hZ key n d l2 at_ o P0 ν) ⟨P0,_,rfl,⟨[],by simp⟩,t,by simp,λ_ _ _ _ e=>e,gd,gl⟩ (λ_ _ _ _=>rfl) ?_ ?_
 ·rintro m x J ν1 hx ⟨P,y,rfl,⟨E,hE⟩,tP,hm,k1,g1,g2⟩;rw[yk]at hx
  cases hy:(K.getD o [])[m]? with
  |none=>rw[hy]at hx;cases hx
  |some h=>
   rw[hy]at hx;cases hx;have kL:=No hy;have htk:(K.getD o []).take (m+1)=(K.getD o []).take m++[h]:=by rw[Nz,hy];rfl
   have kM:=tP.len;have kZ:=w.rl
   have hat:(P.map (·.1))[at_]?=some q.1:=by
    have kJ:=(List.getElem?_eq_some_iff.mp hq).1;rw[hE,Nc,yq (by simpa using kJ),yk,hq];rfl
   refine zmf ?_;unfold zKh;refine zih (zL (zu (zf rfl (zf rfl (z8u (zef g1) ⟨_,rfl,λhb=>?_,λhb=>zub ?_⟩)))))
   ·have kQ:h∉P.map (·.1):=by
     rw[zql]at hb;simpa using hb
    refine zB (zfs (zKi (ze (zf rfl (ze (zu (zf rfl (zf rfl (zPc (zz g2) (zed (v:=.int (q.1:Nat)) (by rw[yk,hat];rfl)) (zr ?_))))))))));refine zfq (zf rfl (zf rfl ⟨_,_,_,rfl,rfl,g1,by simp[dkP];omega,?_⟩));rw[show(D.tup [.int (o:Nat),.int (q.1:Nat)])=.tup [.int (o:Nat),onD (some q.1)] from rfl,zAu kQ];have g1':=zEb (o':=tu.dct (dkP (P++[(h,o,some q.1)]))) g1;have g2':=zPb (o':=tu.dct (dkP (P++[(h,o,some q.1)]))) g2 (by omega:d≠l2);refine zVn (zar (zf rfl ⟨_,_,rfl,g2',?_⟩));refine ze (zf rfl (zr ?_));refine zbn g2' (by rw[Lu,Lu];omega) ?_
    have hatP:P[at_]?=some q:=by
     have kJ:=(List.getElem?_eq_some_iff.mp hq).1;rw[hE,yq kJ];exact hq
    refine⟨P++[(h,o,some q.1)],_,rfl,⟨E++[(h,o,some q.1)],by rw[hE];simp⟩,tP.add kQ ((w.key ho).2 h kL) ho kL (.inr ⟨at_,q,hatP,rfl,hlo⟩),λg hg=>?_,λi o' hi1 hi2 e'=>zPb (zPb (k1 i o' hi1 hi2 e') (Yi hi1)) (Yi hi2),zPb g1' (by omega),?_⟩
    ·rw[htk]at hg;rw[Nc,Ni];rcases List.mem_append.mp hg with hg|hg
     ·exact .inl (hm g hg)
     ·rw[List.mem_singleton.mp hg];exact .inr (by simp)
    ·rw[zEb g2',Nc,zYr];rfl
   ·have hold:h∈P.map (·.1):=by
     rw[zql]at hb;simpa using hb
    refine⟨P,_,rfl,⟨E,hE⟩,tP,λg hg=>?_,k1,g1,g2⟩;rw[htk]at hg;rcases List.mem_append.mp hg with hg|hg
    ·exact hm g hg
    ·rw[List.mem_singleton.mp hg];exact hold
 ·rintro J ν1 ⟨P,y,rfl,hE,tP,hm,k1,g1,g2⟩;rw[Lu,Ny]at hm;exact k P y ν1 hE tP hm k1 g1 g2
abbrev JPb(R:Qf)(K:Qd)(hZ:Qc)(key n:Nat)(O:Mem):Nat->M.Loc->Mem->Prop:=λm J ν=>∃(P:PT)(x:Wn),J=[some (wn R K),some (.loc n),some (.int key),some (.loc O.length),x,none,none,none]/\Tree R K hZ key P/\(∀p∈P,p.2=(key,none))/\(∀h∈(K.getD key []).take m,h∈P.map (·.1))/\tm O ν/\ν[O.length]?=some (.dct (dkP P))
abbrev JPc(R:Qf)(K:Qd)(hZ:Qc)(key n:Nat)(O ν1:Mem):Nat->M.Loc->Mem->Prop:=λm J ν=>∃(P:PT)(at_:Nat)(x y:Wn),m=R.length-at_/\at_<=P.length/\J=[some (wn R K),some (.loc n),some (.int key),some (.loc O.length),x,some (.loc ν1.length),some (.int at_),y]/\Tree R K hZ key P/\(∀h∈K.getD key [],h∈P.map (·.1))/\(∀(i:Nat) p,i<at_->P[i]?=some p->∀o,hZ.getD o none=some p.1->∀h∈K.getD o [],h∈P.map (·.1))/\tm O ν/\ν[O.length]?=some (.dct (dkP P))/\ν[ν1.length]?=some (.lst (nat (P.map (·.1))))
abbrev JPd(R:Qf)(K:Qd)(hZ:Qc)(key n:Nat)(O ν1:Mem)(at_:Nat)(P:PT)(q0:Nat×Nat×Qj)(l4:Nat):Nat->M.Loc->Mem->Prop:=λj J ν=>∃(P':PT)(x y:Wn),J=[some (wn R K),some (.loc n),some (.int key),some (.loc O.length),x,some (.loc ν1.length),some (.int at_),y]/\(∃E,P'=P++E)/\Tree R K hZ key P'/\(∀o∈(zWl hZ q0.1).take j,∀h∈K.getD o [],h∈P'.map (·.1))/\tm O ν/\ν[O.length]?=some (.dct (dkP P'))/\ν[ν1.length]?=some (.lst (nat (P'.map (·.1))))/\ν[l4]?=some (.lst (nat (zWl hZ q0.1)))
def z4p{hZ:Qc}{key:Nat}(w:Wb L R K)(kA:hZ.length=K.length)(hL:L<=1000)(hn:O[n]?=some (.lst (hZ.map onD)))(hk:key<K.length)
 (q:∀(P:PT)(d:Nat)(O':Mem),Tree R K hZ key P->(∀h∈K.getD key [],h∈P.map (·.1))->(∀p∈P,∀o,hZ.getD o none=some p.1->∀h∈K.getD o [],h∈P.map (·.1))->tm O O'->O.length<=d->O'[d]?=some (.dct (dkP P))->Q (.loc d) O'):WF zJf [wn R K,.loc n,.int key] O Q:=by
 have kZ:=w.rl;have gA:=w.kl;refine zHb rfl ?_;show WS zUf [some (wn R K),some (.loc n),some (.int key),none,none,none,none,none] O _ _ _ _;unfold zUf;refine zB (zGb (zuz (zB (zYi (zOd (zu (zu (zf rfl (w_c (zUk (zf rfl (zgw hk (.inl ⟨_,rfl,?_⟩))))))))))))) ;refine zNd (JPb R K hZ key n O) ⟨[],_,rfl,⟨by simp,by simp,λi p e=>by simp at e⟩,by simp,by simp,.app,zq⟩ (λ_ _ _ _=>rfl) ?_ ?_
 ·rintro m x J ν1 hx ⟨P,y,rfl,tP,ha,hm,k1,g1⟩;rw[yk]at hx
  cases hy:(K.getD key [])[m]? with
  |none=>rw[hy]at hx;cases hx
  |some h=>
   rw[hy]at hx;cases hx;have kL:=No hy;have htk:(K.getD key []).take (m+1)=(K.getD key []).take m++[h]:=by rw[Nz,hy];rfl
   have kM:=tP.len;refine zmf ?_;unfold zQh;refine zfs (zKi (ze (zf rfl (ze (w_c (zr ?_))))));refine zfq (zf rfl (zf rfl ⟨_,_,_,rfl,rfl,g1,by simp[dkP];omega,?_⟩));rw[show(D.tup [.int (key:Nat),.non])=.tup [.int (key:Nat),onD none] from rfl];have kk:∀o':tu,tm O (ν1.set O.length o'):=λo' i o e=>zPb (k1 i o e) (Yo (zR e))
   by_cases hin:h∈P.map (·.1)
   ·rw[zgy hin ha];refine⟨P,_,rfl,tP,ha,λg hg=>?_,kk _,zEb g1⟩;rw[htk]at hg;rcases List.mem_append.mp hg with hg|hg
    ·exact hm g hg
    ·rw[List.mem_singleton.mp hg];exact hin
   ·rw[zAu hin];refine⟨P++[(h,key,none)],_,rfl,tP.add hin ((w.key hk).2 h kL) hk kL (.inl ⟨rfl,rfl⟩),λp hp=>?_,λg hg=>?_,kk _,zEb g1⟩
    ·rcases List.mem_append.mp hp with hp|hp
     ·exact ha p hp
     ·rw[List.mem_singleton.mp hp]
    ·rw[htk]at hg;rw[Nc,Ni];rcases List.mem_append.mp hg with hg|hg
     ·exact .inl (hm g hg)
     ·rw[List.mem_singleton.mp hg];exact .inr (by simp)
 ·rintro J ν1 ⟨P0,y,rfl,tP0,_,hm0,k1,g1⟩;rw[Lu,Ny]at hm0;refine zB (zGb (zt (ze (zf rfl (zr (zIx (zef g1) ?_))))));rw[zMq];have hl2:O.length<ν1.length:=zR g1;refine zB (zGb (w_c (zB ?_)));refine zmp (JPc R K hZ key n O ν1) (m:=R.length) (by omega) ⟨P0,0,_,_,by simp,by simp,rfl,tP0,hm0,by simp,k1.to,zO g1,zq⟩ ?_;rintro m J ν2 ⟨P,at_,x,y,rfl,hat,rfl,tP,kI,kW,k2,g2,g3⟩;have kM:=tP.len
  repeat walk_at "w"
  refine zuj (zz g3) ?_;refine z6i ⟨_,rfl,λh1=>?_,λh1=>?_⟩
  ·have h1:at_<P.length:=by
    have:=of_decide_eq_true h1;simp only[Lu]at this;omega
   have hq:P[at_]?=some P[at_]:=by simp[h1]
   generalize P[at_]=q0 at hq;have hat':(P.map (·.1))[at_]?=some q0.1:=by rw[yk,hq];rfl
   unfold zii;refine zB (zYi (zOd (zt (ze (zf rfl (ze (zu (zf rfl (zf rfl (zPc (zz g3) (zed (v:=.int (q0.1:Nat)) (by rw[yk,hat'];rfl)) (zr ?_)))))))))));refine ziw (h:=q0.1) (k2 _ _ hn) (by omega) λl4 ν4 k4 hl4 g4 =>.inr (.inr ⟨l4,_,rfl,g4,?_⟩);have hν2:=zR g3;refine zNd (JPd R K hZ key n O ν1 at_ P q0 l4) ⟨P,_,_,rfl,⟨[],by simp⟩,tP,by simp,k2.trans k4,k4 _ _ g2,k4 _ _ g3,g4⟩ (λj J ν ⟨_,_,_,_,_,_,_,_,_,_,h⟩=>zrb h .refl) ?_ ?_
   ·rintro j z J ν5 hz ⟨P',x',y',rfl,⟨E,hE⟩,tP',hdone,k5,g5,g6,g7⟩;rw[yk]at hz
    cases ho:(zWl hZ q0.1)[j]? with
    |none=>rw[ho]at hz;cases hz
    |some o=>
     rw[ho]at hz;cases hz;have hom:=No ho;have hom':=List.mem_filter.mp hom;have hol:o<K.length:=by rw[<-kA];simpa using hom'.1
     have hlo:=of_decide_eq_true hom'.2;have htk:(zWl hZ q0.1).take (j+1)=(zWl hZ q0.1).take j++[o]:=by rw[Nz,ho];rfl
     have hq':P'[at_]?=some q0:=by rw[hE,yq h1];exact hq
     refine zmf ?_;have hl5:=zR g6;refine zpv w tP' hol hq' hlo hl2 g5 g6 λP'' x'' ν6 ⟨E',hE'⟩ tP'' hall k6 g8 g9=>⟨P'',_,_,rfl,⟨E++E',by rw[hE',hE,Lf]⟩,tP'',λo' ho' h hh=>?_,λi o' e'=>k6 i o' (yC (zR e')) (by have:=zR e';omega) (k5 i o' e'),g8,g9,k6 l4 _ (by omega) (by omega) g7⟩
     rw[htk]at ho';rcases List.mem_append.mp ho' with ho'|ho'
     ·rw[hE',Nc,Ni];exact .inl (hdone o' ho' h hh)
     ·rw[List.mem_singleton.mp ho']at hh;exact hall h hh
   ·rintro J ν5 ⟨P',x',y',rfl,⟨E,hE⟩,tP',hdone,k5,g5,g6,g7⟩;rw[nat,Lu,Ny]at hdone;have kM':=tP'.len;refine zXB rfl (w_c (zQA ?_));refine⟨R.length-(at_+1),by omega,P',at_+1,_,_,rfl,by rw[hE];simp;omega,rfl,tP',λh hh=>?_,λi p hi e o ho h hh=>?_,k5,g5,g6⟩
    ·rw[hE,Nc,Ni];exact .inl (kI h hh)
    ·by_cases hia:i<at_
     ·rw[hE,yq (by omega)]at e;rw[hE,Nc,Ni];exact .inl (kW i p hia e o ho h hh)
     ·have:i=at_:=by omega
      subst this;rw[hE,yq h1,hq]at e;cases e;refine hdone o ?_ h hh;refine List.mem_filter.mpr ⟨?_,decide_eq_true ho⟩;rw[Np];refine Nat.lt_of_not_le λhle=>?_;rw[Lo,Yy hle]at ho;cases ho
  ·refine zLb (zf rfl ?_)
   have h1:at_=P.length:=by
    have:=of_decide_eq_false h1;simp only[Lu]at this;omega
   refine q P _ ν2 tP kI (λp hp o e h hh=>?_) k2 (yo _) g2;obtain⟨i,hi,rfl⟩:=List.mem_iff_getElem.mp hp;exact kW i P[i] (by omega) (by simp[hi]) o e h hh
abbrev pD(p:Nat×Nat):D:=.tup [.int (p.1:Nat),.int (p.2:Nat)]
inductive Path(P:PT)(hZ:Qc):Nat->Qe->Prop
 |one {i:Nat} {p:Nat×Nat×Qj} (e:P[i]?=some p):Path P hZ i [(p.2.1,p.1)]
 |up {i j:Nat} {p q:Nat×Nat×Qj} {row:Qe} (h:Path P hZ i row) (e:P[i]?=some p) (eq:P[j]?=some q) (hj:j<i) (hf:p.2.2=some q.1) (hl:hZ.getD p.2.1 none=some q.1):Path P hZ j ((q.2.1,q.1)::row)
def Path.head{P:PT}{hZ:Qc}(h:Path P hZ i row):∃p r,P[i]?=some p/\row=(p.2.1,p.1)::r:=by
 cases h with
 |one e=>exact⟨_,_,e,rfl⟩
 |up h e eq hj hf hl=>exact⟨_,_,eq,rfl⟩
def Path.idx{P:PT}{hZ:Qc}(h:Path P hZ i row):∀x∈row,∃j p,i<=j/\P[j]?=some p/\x=(p.2.1,p.1):=by
 induction h with
 |one e=>intro x hx;rw[List.mem_singleton.mp hx];exact⟨_,_,yo _,e,rfl⟩
 |up h e eq hj hf hl ih=>
  intro x hx;rcases List.mem_cons.mp hx with rfl|hx
  ·exact⟨_,_,yo _,eq,rfl⟩
  ·obtain⟨m,p,hm,e',r⟩:=ih x hx;exact⟨m,p,by omega,e',r⟩
def Path.tail{P:PT}{hZ:Qc}(h:Path P hZ i row):∀x∈row.tail,∃j p,i<=j/\P[j]?=some p/\hZ.getD x.1 none=some p.1:=by
 induction h with
 |one e=>intro x hx;cases hx
 |up h e eq hj hf hl ih=>
  intro x hx;obtain⟨p',r,e',er⟩:=h.head;rw[e]at e';cases e';rw[List.tail_cons,er]at hx;rcases List.mem_cons.mp hx with rfl|hx
  ·exact⟨_,_,yo _,eq,hl⟩
  ·obtain⟨m,p,hm,e',r⟩:=ih x (by rw[er];exact hx);exact⟨m,p,by omega,e',r⟩
def Path.link{P:PT}{hZ:Qc}(h:Path P hZ i row):∀n p q,row[n]?=some p->row[n+1]?=some q->hZ.getD q.1 none=some p.2:=by
 induction h with
 |one e=>intro n p q _ e2;simp at e2
 |up h e eq hj hf hl ih=>
  intro n p q e1 e2
  cases n with
  |zero=>
   obtain⟨p',r,e',er⟩:=h.head;rw[e]at e';cases e';rw[er]at e2;simp at e1 e2;subst e1 e2;exact hl
  |succ n=>exact ih n p q (by simpa using e1) (by simpa using e2)
def zIz{P:PT}(nd:(P.map (·.1)).Nodup){i j:Nat}{p q:Nat×Nat×Qj}(e1:P[i]?=some p)(e2:P[j]?=some q)(h:p.1=q.1):i=j:=by
 have h1:(P.map (·.1))[i]?=some p.1:=by rw[yk,e1];rfl
 have h2:(P.map (·.1))[j]?=some p.1:=by rw[yk,e2,h];rfl
 obtain⟨a,h1⟩:=List.getElem?_eq_some_iff.mp h1;obtain⟨b,h2⟩:=List.getElem?_eq_some_iff.mp h2;have pw:=List.pairwise_iff_getElem.mp nd;rcases Nat.lt_trichotomy i j with h|h|h
 ·exact absurd (h1.trans h2.symm) (pw i j a b h)
 ·exact h
 ·exact absurd (h2.trans h1.symm) (pw j i b a h)
def Path.ndk{P:PT}{hZ:Qc}{key:Nat}(t:Tree R K hZ key P)(kI:hZ.getD key none=none)(h:Path P hZ i row):(row.map (·.1)).Nodup:=by
 induction h with
 |one e=>simp
 |@up i j p q row h e eq hj hf hl ih=>
  rw[Nf,Nt];refine⟨λhm=>?_,ih⟩;obtain⟨x,hx,ex⟩:=List.mem_map.mp hm;have ht:=(Path.up h e eq hj hf hl).tail x hx;obtain⟨m,p',hm',e',el⟩:=ht;rw[ex]at el;obtain⟨_,_,h3⟩:=t.ok j q eq;rcases h3 with ⟨_,h3⟩|⟨j',q',hj',eq',_,h4⟩
  ·simp only at el;rw[h3,kI]at el;cases el
  ·simp only at el;rw[h4]at el;have:=zIz t.nd eq' e' (by injection el);omega
def Path.ok{P:PT}{hZ:Qc}{key:Nat}{p:Nat×Nat×Qj}(t:Tree R K hZ key P)(kI:hZ.getD key none=none)(h:Path P hZ i row)(e:P[i]?=some p)(hp:p.2.2=none):TC K hZ key row:=by
 refine⟨?_,λx hx=>?_,h.link,h.ndk t kI⟩
 ·obtain⟨p',r,e',er⟩:=h.head;rw[e]at e';cases e';rcases(t.ok i p e).2.2 with ⟨_,h3⟩|⟨_,_,_,_,h3,_⟩
  ·exact⟨p.1,r,by rw[er,h3]⟩
  ·rw[hp]at h3;cases h3
 ·obtain⟨j,q,_,eq,rfl⟩:=h.idx x hx;obtain⟨h1,h2,h3⟩:=t.ok j q eq;refine⟨h1,h2,?_⟩;rcases h3 with ⟨_,h3⟩|⟨j',q',hj',eq',_,h4⟩
  ·simp only;rw[h3,kI];exact λh=>by cases h
  ·simp only;rw[h4];intro h;have:=zIz t.nd eq' eq (by injection h);omega
abbrev JRo(P:PT)(hZ:Qc)(p0:Nat×Nat×Qj)(d:Nat)(O:Mem):Nat->M.Loc->Mem->Prop:=λm J ν=>∃(kB:Qe) (f:Qj),J=[some (.loc d),some (onD f),some (.loc O.length)]/\tm O ν/\ν[O.length]?=some (.lst (kB.map pD))/\kB.length+m<=P.length /\
 ((f=none∧(∃ k,kB[0]?=some (k,p0.1))∧∃ i p,Path P hZ i kB.reverse∧P[i]?=some p∧p.2.2=none) ∨
  (∃i p,m=i+1/\P[i]?=some p/\f=some p.1/\((kB=[]/\p=p0)\/((∃k,kB[0]?=some (k,p0.1))/\∃i' p',i<i'/\Path P hZ i' kB.reverse/\P[i']?=some p'/\p'.2.2=some p.1/\hZ.getD p'.2.1 none=some p.1))))
def zzw{hZ:Qc}{key d i0:Nat}{p0:Nat×Nat×Qj}{P:PT}(t:Tree R K hZ key P)(hR:R.length<=10)(kI:hZ.getD key none=none)(hd:zWc O (.loc d)=some (dkP P))(hp0:P[i0]?=some p0)
 (q:∀(row:Qe) (l:Nat) (O':Mem),TC K hZ key row->(row.getD (row.length-1) (0,0)).2=p0.1->row.length<=P.length->tm O O'->O.length<=l->O'[l]?=some (.lst (row.map pD))->Q (.loc l) O'):WF zHj [.loc d,.int p0.1] O Q:=by
 have kM:=t.len;refine zHb rfl ?_;show WS zVj [some (.loc d),some (.int p0.1),none] O _ _ _ _;unfold zVj;refine zB (zGb (zTg (zr (zB ?_))));have hi0:=(List.getElem?_eq_some_iff.mp hp0).1
 have hdk:∀{O':Mem},tm O O'->zWc O' (.loc d)=some (dkP P):=λ{O'} kp=>by
  cases e:O[d]? with
  |none=>simp[e]at hd
  |some o=>
   have e':=kp _ _ e;simp only[zWc,e]at hd;simp only[zWc,e'];exact hd
 refine zmp (JRo P hZ p0 d O) (m:=i0+1) (by omega)
  ⟨[],some p0.1,rfl,.app,zq,by simp;omega,.inr ⟨i0,p0,rfl,hp0,rfl,.inl ⟨rfl,rfl⟩⟩⟩ ?_
 rintro m J ν ⟨kB,f,rfl,kp,g,kA,h⟩;refine zL (zu (zf rfl (w_c (z0m (zqv _) ⟨_,rfl,λh1=>?_,λh1=>?_⟩))))
 ·rcases h with ⟨rfl,_⟩|⟨i,p,rfl,ep,rfl,h⟩
  ·cases h1
  ·have hlook:=zdy t.nd (No ep)
   have kQ:Path P hZ i ((p.2.1,p.1)::kB.reverse):=by
    rcases h with ⟨rfl,rfl⟩|⟨_,i',p',hi',hpa,ep',hf,hl⟩
    ·exact .one ep
    ·exact .up hpa ep' ep hi' hf hl
   have hac:∃k,(kB++[(p.2.1,p.1)])[0]?=some (k,p0.1):=by
    rcases h with ⟨rfl,rfl⟩|⟨⟨k,hk⟩,_⟩
    ·exact⟨p.2.1,rfl⟩
    ·refine⟨k,?_⟩;rw[yq (List.getElem?_eq_some_iff.mp hk).1];exact hk
   unfold zmm;refine zB (zVn (zar (zf rfl ⟨_,_,rfl,g,?_⟩)));refine ze (zKi (ze (zu (zu (zf rfl (zf rfl (zvx (hdk kp) hlook (w_c (zPc rfl rfl (ze (zf rfl (zr (zr ?_)))))))))))));refine zbn g (by rw[Lu];omega) ?_;have kp2:tm O (ν.set O.length (.lst (kB.map pD++[pD (p.2.1,p.1)]))):=λa o e=>zPb (kp a o e) (Yo (zR e));refine zGb (zu (zu (zf rfl (zf rfl (zvx (hdk kp2) hlook (w_c (zPc rfl rfl ?_)))))));obtain⟨_,_,h3⟩:=t.ok i p ep;rcases h3 with ⟨h3,_⟩|⟨j,q',hj,eq',h3,h4⟩
   ·refine⟨0,by omega,kB++[(p.2.1,p.1)],none,?_,kp2,?_,by rw[Lq];simp;omega,.inl ⟨rfl,hac,i,p,?_,ep,h3⟩⟩
    ·rw[h3];rfl
    ·rw[zEb g,Nc];rfl
    ·rw[List.reverse_append];exact kQ
   ·refine⟨j+1,by omega,kB++[(p.2.1,p.1)],some q'.1,?_,kp2,?_,by rw[Lq];simp;omega,.inr ⟨j,q',rfl,eq',rfl,.inr ⟨hac,i,p,hj,?_,ep,h3,h4⟩⟩⟩
    ·rw[h3];rfl
    ·rw[zEb g,Nc];rfl
    ·rw[List.reverse_append];exact kQ
 ·rcases h with ⟨rfl,⟨k,hk⟩,i,p,hpa,ep,hn⟩|⟨i,p,rfl,ep,rfl,h⟩
  ·refine zLb (zLz (zf rfl ⟨_,_,rfl,g,?_⟩));refine q kB.reverse _ _ (hpa.ok t kI ep hn) ?_ (by rw[List.length_reverse];omega) kp.to kp.len ?_
   ·have h0:=(List.getElem?_eq_some_iff.mp hk).1
    have:kB.reverse[kB.reverse.length-1]?=some (k,p0.1):=by
     rw[List.length_reverse,List.getElem?_reverse (by omega),show kB.length-1-(kB.length-1)=0 by omega];exact hk
    rw[Lo,this];rfl
   ·rw[zq,List.map_reverse]
  ·cases h1
def zWz(P:PT)(hZ:Qc)(key:Nat):Qf:=(yz hZ.length).filter λo=>decide (o=key)||decide (∃p∈P,hZ.getD o none=some p.1)
def zWq{hZ:Qc}{key:Nat}(w:Wb L R K)(kA:hZ.length=K.length)(hL:L<=1000)(hn:O[n]?=some (.lst (hZ.map onD)))(hk:key<K.length)(kI:hZ.getD key none=none)
 (q1:∀(row:Qe) (l:Nat) (O':Mem),TC K hZ key row->hZ.count (some (row.getD (row.length-1) (0,0)).2)<R.getD (row.getD (row.length-1) (0,0)).2 0->row.length<=10->tm O O'->O.length<=l->O'[l]?=some (.lst (row.map pD))->Q (.tup [.str "put",.loc l]) O')
 (q2:∀(S:Qf)(l:Nat)(O':Mem),S.Sublist (yz K.length)->key∈S->Shut R K hZ S->tm O O'->O.length<=l->O'[l]?=some (.lst (nat S))->Q (.tup [.str "full",.loc l]) O'):WF zof [wn R K,.loc n,.int key] O Q:=by
 have kZ:=w.rl;have gA:=w.kl;refine zHb rfl ?_;show WS z4j [some (wn R K),some (.loc n),some (.int key),none,none,none] O _ _ _ _;unfold z4j;refine zB (zGb (zt (ze (zf rfl (ze (zf rfl (ze (zf rfl (zr ?_)))))))));refine z4p w kA hL hn hk λP d O1 t hhome kW k1 hd g1=>?_;refine zB (zGb (zt (ze (zf rfl (ze (zf rfl (zr ?_)))))));refine zqy w (k1 _ _ hn) λl2 O2 k2 hl2 g2=>?_;have g1':=k2 _ _ g1;have kM:=t.len;refine zB (zYi (zuy (zf rfl ⟨_,_,rfl,g1',?_⟩)));have hd1:d<O1.length:=zR g1;have kf:tm O (O2.set d (.dcf (dkP P))):=λi o e=>zPb ((k1.trans k2) i o e) (by have:=zR e;omega);have gd:=zEb (o':=tu.dcf (dkP P)) g1';have gl:=zPb (o':=tu.dcf (dkP P)) g2 (by omega:d≠l2);generalize O2.set d (.dcf (dkP P))=O3 at kf gd gl;rw[zMq];refine zNd (λm J ν=>∃x:Wn,J=[some (wn R K),some (.loc n),some (.int key),some (.loc d),some (.loc l2),x]/\ν=O3/\∀(i:Nat) p,i<m->P[i]?=some p->R.getD p.1 0<=hZ.count (some p.1)) ⟨_,rfl,rfl,by simp⟩ (λ_ _ _ _=>rfl) ?_ ?_
 ·rintro m x J ν hx ⟨y,rfl,rfl,hb⟩;rw[yk,yk]at hx
  cases ep:P[m]? with
  |none=>rw[ep]at hx;cases hx
  |some p=>
   rw[ep]at hx;cases hx;have kJ:=t.lt p (No ep);refine zmf ?_;unfold zXl;refine zih (zL (zu (zu (zf rfl (zf rfl (zPc (zz gl) (zed (v:=.int ((R.getD p.1 0:Int)-(hZ.count (some p.1):Nat))) (by unfold zTy;simp[kJ])) (w_c (z6i ⟨_,rfl,λh1=>?_,λh1=>?_⟩))))))))
   ·have h1:=of_decide_eq_true h1;refine zLb (zKi (ze (w_c (ze (zt (ze (zf rfl (ze (zf rfl (zr ?_))))))))));refine zzw t kZ.2 kI (z1i gd) ep λrow l O4 sJ kS hrl4 k4 hl4 g4=>zr ?_;refine q1 row l O4 sJ ?_ (by omega) (kf.trans k4) (by have:=kf.len;omega) g4;rw[kS];omega
   ·have h1:=of_decide_eq_false h1;refine zub ⟨_,rfl,rfl,λi p' hi e'=>?_⟩
    by_cases hm:i=m
    ·subst hm;rw[ep]at e';cases e';omega
    ·exact hb i p' (by omega) e'
 ·rintro J ν ⟨y,rfl,rfl,hb⟩;rw[nat,Lu,Lu]at hb
  have hfull:∀p∈P,R.getD p.1 0<=hZ.count (some p.1):=λp hp=>by
   obtain⟨i,hi,rfl⟩:=List.mem_iff_getElem.mp hp;exact hb i P[i] hi (by simp[hi])
  refine zLb (zKi (ze (w_c (ze (zQj ?_)))));refine znj (zf rfl (.inr (.inr ⟨n,_,rfl,kf _ _ hn,zKb (by rw[zEd,Lu];omega),?_⟩)));rw[zte onD hZ none];refine zVm (λ(k:Nat) =>.tup [.int k,onD (hZ.getD k none)]) (yz hZ.length) (λ(k:Nat)=>D.int k) (λo=>decide (o=key)||decide (∃p∈P,hZ.getD o none=some p.1)) (λO' k'=>zrb (kf _ _ hn) k') (λk hk' O' kp=>?_) (λO' kp=>?_)
  ·have gd':=kp _ _ gd;refine zyu (zkn (zmf (zkn (zmf (zBs ?_)))));unfold z1l zTl;refine zzj (zL (zu (zf rfl (zf rfl (zNo ⟨_,rfl,λh1=>?_,λh1=>?_⟩)))))
   ·have h1:k≠key:=by
     intro e;rw[e]at h1;simp at h1
    rw[decide_eq_false h1,Bool.false_or]
    cases e:hZ.getD k none with
    |none=>
     refine zL (zu (zf rfl (zf rfl (zFA (z1i gd') ?_ ⟨_,rfl,?_,kp,λhb=>(by cases hb)⟩))))
     ·rw[Lb];intro x hx;obtain⟨p,hp,rfl⟩:=List.mem_map.mp hx;have:=t.lt p hp;exact decide_eq_true (by simp only;omega)
     ·symm
      refine decide_eq_false ?_;rintro⟨p,_,e⟩;cases e
    |some h=>
     refine zL (zu (zf rfl (zf rfl (zmx (z1i gd') ⟨_,rfl,?_,kp,λhb=>zf rfl ⟨rfl,kp⟩⟩))));rw[zql];refine decide_eq_decide.mpr ?_;rw[List.mem_map];constructor
     ·rintro⟨p,hp,rfl⟩;exact⟨p,hp,rfl⟩
     ·rintro⟨p,hp,e⟩;cases e;exact⟨p,hp,rfl⟩
   ·have h1:k=key:=by
     have:=beq_iff_eq.mp h1;omega
    rw[decide_eq_true h1,Bool.true_or];exact⟨rfl,kp,λ_=>zf rfl ⟨rfl,kp⟩⟩
  ·refine zr (q2 (zWz P hZ key) _ _ ?_ ?_ ?_ (kf.trans kp.to) (kf.trans kp).len zq)
   ·rw[<-kA];exact List.filter_sublist
   ·exact List.mem_filter.mpr ⟨by simpa[kA] using hk,by simp⟩
   ·have hin:∀k∈zWz P hZ key,∀h∈K.getD k [],∃p∈P,p.1=h:=λk hkm h hh=>by
     have hm:=(List.mem_filter.mp hkm).2;rw[Bool.or_eq_true,decide_eq_true_iff,decide_eq_true_iff]at hm;rcases hm with rfl|⟨p,hp,e⟩
     ·obtain⟨p,hp,e⟩:=List.mem_map.mp (hhome h hh);exact⟨p,hp,e⟩
     ·obtain⟨p',hp',e'⟩:=List.mem_map.mp (kW p hp k e h hh);exact⟨p',hp',e'⟩
    refine⟨λk hkm=>?_,λk hkm h hh=>?_,λk hkm h hh o e=>?_⟩
    ·have:=(List.mem_filter.mp hkm).1;rw[<-kA];simpa using this
    ·obtain⟨p,hp,rfl⟩:=hin k hkm h hh;exact hfull p hp
    ·obtain⟨p,hp,rfl⟩:=hin k hkm h hh;refine List.mem_filter.mpr ⟨?_,?_⟩
     ·rw[Np];refine Nat.lt_of_not_le λhle=>?_;rw[Lo,Yy hle]at e;cases e
     ·rw[Bool.or_eq_true];exact .inr (decide_eq_true ⟨p,hp,e⟩)
def zAz{hZ:Qc}(h:k<hZ.length):atI (hZ.map onD) (k:Int)=some (onD (hZ.getD k none)):=zed (by simp[h])
def zbs{p:Nat×Nat}(e:row[i]?=some p):atI (row.map pD) (i:Int)=some (pD p):=zed (by rw[yk,e];rfl)
def z1u{hZ:Qc}{key r:Nat}{p:Nat×Nat}(w:Wb L R K)(kA:hZ.length=K.length)(hn:O[n]?=some (.lst (hZ.map onD)))(hr:O[r]?=some (.lst (row.map pD)))(kZ:row.length<=1000)(ok:TC K hZ key row)(e:row[i]?=some p)
 (q:∀O',tm O O'->Q (.bl true) O'):WF zPh [wn R K,.loc n,.loc r,.int i] O Q:=by
 have hm:=ok.mem p (No e);have hi:=(List.getElem?_eq_some_iff.mp e).1;refine zHb rfl ?_;show WS z7h [some (wn R K),some (.loc n),some (.loc r),some (.int i),none] O _ _ _ _;unfold z7h;refine zB (zGb (zu (zu (zf rfl (zf rfl (zPc (zz hr) (zbs e) (w_c (zPc rfl rfl ?_))))))));refine zB (zih (zzj (zL (zu (zf rfl (w_c (z6i ⟨_,rfl,λh1=>?_,λh1=>?_⟩)))))))
 case refine_2=>have:=of_decide_eq_true h1;omega
 refine zL (zu (zf rfl (zt (ze (zf rfl (zr (zuj (zz hn) (z6i ⟨_,rfl,λh2=>?_,λh2=>zub ?_⟩))))))))
 ·have:=of_decide_eq_true h2;rw[Lu]at this;omega
 refine zB (zih (zzj (zL (zu (zu (zu (zf rfl (zf rfl (zPc (zz hr) (zbs e) (w_c (zPc rfl rfl (zu (zu (zf rfl (w_c (zUk (zf rfl (zgw hm.1 (zwm rfl ⟨_,rfl,λh3=>?_,λh3=>?_⟩)))))))))))))))))))
 case refine_2=>rw[decide_eq_true hm.2.1]at h3;cases h3
 refine zL (zu (zu (zu (zf rfl (zf rfl (zPc (zz hr) (zbs e) (w_c (zPc rfl rfl (zu (zf rfl (zf rfl (zPc (zz hn) (zAz (by omega)) (zDy (α:=Qj) (some p.2) (hZ.getD p.1 none) ⟨_,rfl,λh4=>?_,λh4=>zub ?_⟩)))))))))))))
 ·exact absurd (of_decide_eq_true h4).symm hm.2.2
 refine zLb (zu (zf rfl (zQj (zOd (z2A (zf rfl (zNy (zKt (zf rfl ⟨_,rfl,_,_,rfl,hr,.inr (.inr ⟨_,_,rfl,zq,?_,?_⟩)⟩)))))))))
 ·rw[zvt];exact zKb (by rw[Ly,Lu];omega)
 rw[zvt,<-List.map_take];refine zic pD (row.take i) (λx =>.int (x.1:Nat)) (λO' k=>zrb zq k) (λx hx O' kp=>?_) (λO' kp=>?_)
 ·unfold zvk;exact zmf (zu (zf rfl (w_c (zPc rfl rfl ⟨rfl,kp,kp⟩))))
 ·have e2:((row.take i).map λx=>D.int (x.1:Nat))=nat ((row.take i).map (·.1)):=(zTi _ _).symm;rw[e2];refine zwm (zz zq) ?_
  have hnot:p.1∉(row.take i).map (·.1):=by
   intro kL;have nd:=ok.nd;rw[<-List.take_append_drop i row,Nc,Nr]at nd;refine nd.2.2 _ kL _ ?_ rfl;refine List.mem_map.mpr ⟨p,?_,rfl⟩;rw[xA hi,(List.getElem?_eq_some_iff.mp e).2];exact Nn
  rw[decide_eq_false hnot];exact q _ (tm.app.trans (kp.to))
def zFr{hZ:Qc}{key r:Nat}{p:Nat×Nat}(kA:hZ.length=K.length)(hn:O[n]?=some (.lst (hZ.map onD)))(hr:O[r]?=some (.lst (row.map pD)))(ok:TC K hZ key row)(e:row[i]?=some p)
 (q:Q (.bl true) O):WF zai [.loc n,.int key,.loc r,.int i] O Q:=by
 refine zHb rfl ?_;show WS z5h [some (.loc n),some (.int key),some (.loc r),some (.int i)] O _ _ _ _;unfold z5h;refine zB (zih (zL (zu (zf rfl (w_c (zNo ⟨_,rfl,λh1=>?_,λh1=>zub ?_⟩))))))
 ·obtain⟨h,r0,e0⟩:=ok.first
  refine zLb (zu (zu (zu (zf rfl (w_c (zPc (zz hr) (zbs (i:=0) (p:=(key,h)) (by rw[e0];rfl)) (w_c (zPc rfl rfl (zf rfl (zNo ?_))))))))));rw[beq_self_eq_true];exact q
 ·cases i with
  |zero=>exact absurd h1 (by decide)
  |succ j=>
   have hj:j<row.length:=by
    have:=(List.getElem?_eq_some_iff.mp e).1;omega
   have ej:row[j]?=some row[j]:=by simp[hj]
   have hl:=ok.link j _ _ ej e;have hm:=ok.mem p (No e);refine zLb (zu (zu (zf rfl (zu (zu (zf rfl (zf rfl (zPc (zz hr) (zbs e) (w_c (zPc rfl rfl (zPc (zz hn) (zAz (by omega)) (zu (zu (zf rfl (zu (zf rfl (w_c (z7s ?_))))))))))))))))));rw[show((j+1:Nat):Int)-1=(j:Int) by omega];refine zPc (zz hr) (zbs ej) (w_c (zPc rfl rfl (zDy (α:=Qj) (hZ.getD p.1 none) (some (row[j]).2) ?_)));rw[decide_eq_true hl];exact q
def zRp{hZ:Qc}(r:tW R K hZ):zcm R K (hZ.map onD)=.non:=by
 unfold zcm;rw[zqg λk hk=>?_,zqg λh hh=>?_]
 ·unfold zWu;rw[zDt];have:=r.room h;exact decide_eq_false (by omega)
 ·unfold z8m
  have e:(hZ.map onD).getD k .non=onD (hZ.getD k none):=by
   have hk':k<hZ.length:=by rw[r.len];exact hk
   simp[hk']
  rw[e]
  cases e2:hZ.getD k none with
  |none=>rfl
  |some h=>
   have hm:h∈K.getD k []:=r.home k h (by
    have hk':k<hZ.length:=by rw[r.len];exact hk
    simp[hk']at e2;simp[hk',e2])
   show(_ && !((nat (K.getD k [])).any λy=>eqF y (.int h)))=false;rw[z2t,decide_eq_true hm,Bool.not_true,Bool.and_false]
def zeA(hZ:Qc)(k h:Nat):(hZ.set k (some h)).map onD=(hZ.map onD).set k (.int h):=List.map_set
def zFs{hZ:Qc}{key r:Nat}(w:Wb L R K)(hL:L<=1000)(rt:tW R K hZ)(hn:O[n]?=some (.lst (hZ.map onD)))(hr:O[r]?=some (.lst (row.map pD)))(kZ:row.length<=1000)(ok:TC K hZ key row)(kI:hZ.getD key none=none)(kK:hZ.count (some (row.getD (row.length-1) (0,0)).2)<R.getD (row.getD (row.length-1) (0,0)).2 0)
 (q:∀(l:Nat)(O':Mem),tm O O'->O.length<=l->O'[l]?=some (.lst ((z3e hZ row).map onD))->Q (.loc l) O'):WF zGj [wn R K,.loc n,.int key,.loc r] O Q:=by
 have gA:=w.kl;have kA:=rt.len;refine zHb rfl ?_;show WS zXj [some (wn R K),some (.loc n),some (.int key),some (.loc r),none,none,none] O _ _ _ _;unfold zXj;refine zB (zGb (zt (ze (zf rfl (zr (z8w (zz hn) ?_))))));refine zB (zYi (znj (zf rfl (.inr (.inr ⟨r,_,rfl,zO hr,?_⟩)))));refine zNd (λm J ν=>∃x y:Wn,J=[some (wn R K),some (.loc n),some (.int key),some (.loc r),some (.loc O.length),x,y]/\tm O ν/\ν[O.length]?=some (.lst ((z3e hZ (row.take m)).map onD))) ⟨_,_,rfl,.app,zq⟩ (λm J ν ⟨_,_,_,k,_⟩=>zrb hr k) ?_ ?_
 ·rintro m x J ν hx ⟨a,b,rfl,kp,g⟩;obtain⟨p,ep,rfl⟩:=z1r hx;have hm:=ok.mem p (No ep);have htk:row.take (m+1)=row.take m++[p]:=by rw[Nz,ep];rfl
  refine zyu (zkn (zmf (zkn (zmf (zBs ?_)))));unfold z0l;refine zB (zih (znk (zNq (zL (zt (ze (zf rfl (ze (zf rfl (ze (zf rfl (ze (zf rfl (zr ?_))))))))))))));refine z1u w kA (kp _ _ hn) (kp _ _ hr) kZ ok ep λO1 k1=>⟨_,rfl,λ_=>?_,λh=>(by cases h)⟩
  refine zL (zt (ze (zf rfl (ze (zf rfl (ze (zf rfl (ze (zf rfl (zr ?_))))))))));refine zFr kA ((kp.trans k1) _ _ hn) ((kp.trans k1) _ _ hr) ok ep ⟨_,rfl,λh=>(by cases h),λ_=>zub ?_⟩;refine zfs (zu (zf rfl (w_c (zPc rfl rfl ?_))));have g1:=k1 _ _ g;refine zRB (zf rfl (zu (zf rfl (w_c (zPc rfl rfl ⟨_,_,_,rfl,rfl,g1,?_,?_⟩)))))
  ·rw[Lu,zoi];omega
  ·refine⟨_,_,rfl,λi o e=>zPb (k1 _ _ (kp i o e)) (Yo (zR e)),?_⟩;rw[zEb g1,htk,z7l,zeA];rfl
 ·rintro J ν ⟨a,b,rfl,kp,g⟩;rw[zEd,Lu,Ny]at g
  have kY:0<row.length:=by
   obtain⟨h,q,e⟩:=ok.first
   rw[e];simp
  refine zB (zih (zzj (zL (zu (zt (ze (zf rfl (zr (zuj (zz (kp _ _ hr)) (w_c (zNo ⟨_,rfl,λh1=>?_,λh1=>?_⟩)))))))))))
  case refine_2=>
   have:=beq_iff_eq.mp h1;rw[Lu]at this;omega
  have hr2:=zth rt ok kI kK;refine zL (zu (zt (ze (zf rfl (ze (zf rfl (zr ?_)))))));refine zow w (zJt _) (by rw[Lu,zoi];exact kA) g λO1 k1=>?_;rw[zRp hr2];refine w_c (z0m rfl ⟨_,rfl,λh=>(by cases h),λ_=>zub (zLb (zf rfl ?_))⟩);exact q _ _ (kp.trans k1) (yo _) (k1 _ _ g)
def zLg(R:Qf)(K:Qd):Prop:=∃hZ,tW R K hZ/\∀k<K.length,(hZ.getD k none).isSome=true
def z1q(w:Wb L R K)(hT:T.Sublist (yz K.length))(hc:z4t R K T=true):¬zLg R K:=by
 rintro⟨hZ,r,h⟩;have hTk:∀k∈T,k<K.length:=λk hk=>by simpa using hT.subset hk
 have:=z3t w r (List.nodup_range.sublist hT) hTk λk hk=>h k (hTk k hk);rw[hc]at this;cases this
def zWv{hZ:Qc}{key:Nat}(ok:TC K hZ key row){k:Nat}(h:k∈row.map (·.1)):k=key\/(hZ.getD k none).isSome=true:=by
 obtain⟨p,hp,rfl⟩:=List.mem_map.mp h;obtain⟨i,hi,rfl⟩:=List.mem_iff_getElem.mp hp
 cases i with
 |zero=>
  obtain⟨h,r,e⟩:=ok.first
  subst e;exact .inl rfl
 |succ j=>
  have:=ok.link j row[j] row[j+1] (by simp[show j<row.length by omega]) (by simp[hi]);exact .inr (by rw[this];rfl)
def z1s{hZ:Qc}{key:Nat}(kA:hZ.length=K.length)(ok:TC K hZ key row){k:Nat}(h:k=key\/(hZ.getD k none).isSome=true):((z3e hZ row).getD k none).isSome=true:=by
 by_cases hm:k∈row.map (·.1)
 ·obtain⟨p,hp,rfl⟩:=List.mem_map.mp hm;rw[zYq ok.nd hp (by rw[kA];exact(ok.mem p hp).1)];rfl
 ·rcases h with rfl|h
  ·obtain⟨h,r,e⟩:=ok.first
   subst e;exact absurd (by simp) hm
  ·rw[zrg hm];exact h
def zet{hZ:Qc}{key:Nat}(ok:TC K hZ key row){k:Nat}(h:hZ.getD k none=none)(hk:k≠key):(z3e hZ row).getD k none=none:=by
 rw[zrg λhm=>?_]
 ·exact h
 ·rcases zWv ok hm with e|e
  ·exact hk e
  ·rw[h]at e;cases e
def zSg(h:Yw s=true):toP O 8 (.str s)=some (.str s):=by
 show(bif Yw s then some (PyData.str s) else none)=_;rw[h];rfl
def zYe{b:yj}(q:Q (.bl (Yc (.str a) (.str b))) O)(ha:Yw a=true:=by decide +kernel)(hb:Yw b=true:=by decide +kernel):W2 gEq (.str a) (.str b) O Q:=zuB (zSg ha) (zSg hb) q
def zou{b:yj}(q:Q (.bl (!PyData.eqv (.str a) (.str b))) O)(ha:Yw a=true:=by decide +kernel)(hb:Yw b=true:=by decide +kernel):W2 gNe (.str a) (.str b) O Q:=zyC (zSg ha) (zSg hb) q
structure Lds(R:Qf)(K:Qd)(hZ:Qc)(i:Nat):Prop where
 right:tW R K hZ
 all:∀k,k<i->(hZ.getD k none).isSome=true
 non:∀k,i<=k->hZ.getD k none=none
def z2x{G:FE}(h:WE G J O λx O1=>x=.loc n/\O1[n]?=some (.lst [])/\Q (.loc O1.length) (O1++[.lst []])):WE (zzq G) J O Q:=by
 obtain⟨d,O1,e,rfl,g,q⟩:=h;exact⟨_,_,by simp only[zzq,e,ym,g],q⟩
def z2n(w:Wb L R K)(hL:L<=60)(hF:zLg R K)
 (q:∀(hZ:Qc) (l l2:Nat) (O':Mem),tW R K hZ->(∀k<K.length,(hZ.getD k none).isSome=true)->tm O O'->O.length<=l->l≠l2->O'[l]?=some (.lst (hZ.map onD))->O'[l2]?=some (.lst [])->Q (.tup [.loc l,.loc l2]) O'):WF z0d [wn R K] O Q:=by
 have gA:=w.kl;refine zHb rfl ?_;show WS zWd [some (wn R K)] O _ _ _ _;unfold zWd;refine zLb (zt (ze (zf rfl (ze (zu (zTg (ze (w_c (zr (zt (ze (zu (zf rfl (w_c (zUk (zr (zuj rfl ?_)))))))))))))))));refine z1w zq (by rw[Lu];omega) (by omega) (by simp) ?_;refine ze (zLq (zt (ze (zu (zf rfl (w_c (zUk (zr (zuj rfl ⟨_,rfl,?_,zr ?_⟩)))))))))
 ·rw[Lu];omega
 have e1:(yy (((K.map tn).length:Nat):Int).toNat [D.non]).flatten=(yy K.length (none:Qj)).map onD:=by
  rw[xH,Lu,List.map_replicate,List.flatten_replicate_singleton]
 rw[e1,xH,Lu]
 have hrep:∀k,(yy K.length (none:Qj)).getD k none=none:=λk=>by
  rw[Lo,YM]
  split<;>rfl
 have g0:(O++[tu.lst [D.non]]++[tu.lst ((yy K.length (none:Qj)).map onD)])[(O++[tu.lst [D.non]]).length]?=some (.lst ((yy K.length (none:Qj)).map onD)):=zq;have k0:tm O (O++[tu.lst [D.non]]++[tu.lst ((yy K.length (none:Qj)).map onD)]):=tm.app.to;have hn0:O.length<=(O++[tu.lst [D.non]]).length:=by simp
 generalize O++[tu.lst [D.non]]++[tu.lst ((yy K.length (none:Qj)).map onD)]=O0 at g0 k0;generalize (O++[tu.lst [D.non]]).length=n at g0 hn0;refine zHb rfl ?_;show WS z3f [some (wn R K),some (.loc n),some (.loc _),none,none,none] _ _ _ _ _;have gm:(O0++[tu.lst (nat (yz K.length))])[O0.length]?=some (.lst (nat (yz K.length))):=zq;have g1:=zO (g:=[tu.lst (nat (yz K.length))]) g0;have k1:=k0.to (g:=[tu.lst (nat (yz K.length))]);generalize O0++[tu.lst (nat (yz K.length))]=O1 at gm g1 k1;generalize O0.length=m at gm;unfold z3f;refine zB (zGb (zTg (zr (zB (zYi (zOd (zf rfl (.inr (.inr ⟨m,_,rfl,zO gm,?_⟩)))))))));have gJ:=zR g1
 refine zNd (λi J ν=>∃(hZ:Qc) (l:Nat) (x y:Wn),J=[some (wn R K),some (.loc l),some (.loc m),some (.loc O1.length),x,y]/\Lds R K hZ i/\tm O1 ν/\(l=n\/O1.length<l)/\ν[O1.length]?=some (.lst [])/\ν[l]?=some (.lst (hZ.map onD)))
  ⟨_,n,_,_,rfl,⟨⟨by simp,λk h e=>?_,λh=>?_⟩,λ_ h=>absurd h (Nat.not_lt_zero _),λk _=>hrep k⟩,.app,.inl rfl,zq,zO g1⟩ (λi J ν ⟨_,_,_,_,_,_,k,_⟩=>zrb gm k) ?_ ?_
 ·rw[YM]at e
  split at e
  ·cases e
  ·cases e
 ·rw[List.count_replicate];simp
 ·rintro i z J ν hz ⟨hZ,l,x,y,rfl,d,kp,hl,gC,gl⟩;obtain⟨hi,rfl⟩:=z0j hz;have kI:=d.non i (yo _);refine zmf ?_;unfold zvi;refine zB (zGb (zt (ze (zf rfl (ze (zf rfl (ze (zf rfl (zr ?_)))))))));refine zWq w d.right.len (by omega) gl hi kI (λrow r O2 ok kK kZ k2 hr gr=>?_) (λS r O2 hS hkS s k2 hr gr=>absurd hF (z1q w hS (zkm w s d.right.len hkS kI)));refine zih (zL (zu (zu (zf rfl (w_c (zPc rfl rfl (w_c (zYe ⟨_,rfl,λ_=>?_,λh=>absurd h (by decide +kernel)⟩))))))));refine zGb (zt (ze (zf rfl (ze (zf rfl (ze (zf rfl (ze (zu (zf rfl (w_c (zPc rfl rfl (zr ?_)))))))))))));refine zFs w (by omega) d.right (k2 _ _ gl) gr (by omega) ok kI kK λl' O3 k3 hl' g3=>?_;refine⟨z3e hZ row,l',_,_,rfl,⟨zth d.right ok kI kK,λk hk=>z1s d.right.len ok ?_,λk hk=>zet ok (d.non k (by omega)) (by omega)⟩,kp.trans (k2.trans k3),.inr ?_,(k2.trans k3) _ _ gC,g3⟩
  ·rcases Nat.lt_or_ge k i with h|h
   ·exact .inr (d.all k h)
   ·exact .inl (by omega)
  ·have:=zR gC;have:=k2.len;omega
 ·rintro J ν ⟨hZ,l,x,y,rfl,d,kp,hl,gC,gl⟩;rw[Lu,Lv]at d;refine zLb (zKi (ze (zf rfl (ze (z2x (n:=O1.length) (zf rfl ⟨rfl,gC,zr ?_⟩))))));have:=zR gl;exact q hZ l _ _ d.right d.all (k1.trans kp.to) (by have:=k1.len;omega) (by omega) (zO gl) zq
def zMu(w:Wb L R K)(hL:L<=60)(hF:zLg R K)
 (q1:∀(hZ:Qc) (l:Nat) (O':Mem),tW R K hZ->(∀k<K.length,(hZ.getD k none).isSome=true)->tm O O'->O.length<=l->O'[l]?=some (.lst (hZ.map onD))->Q (.tup [.str "fits",.loc l]) O'):WF z7j [wn R K] O Q:=by
 refine zHb rfl ?_;show WS zWj [some (wn R K),none] O _ _ _ _;unfold zWj;refine zB (zGb (zt (ze (zf rfl (zr ?_)))));refine z2n w hL hF λhZ l l2 O1 rt ha k1 hl kN g g2=>?_;refine zB (zih (zL (zu (zu (zf rfl (w_c (zPc rfl rfl (zTg (zr ?_)))))))));refine zSy (α:=Nat) [] [] (zO g2) zq ⟨_,rfl,λ_=>?_,λh1=>by simp at h1⟩;exact zLb (zKi (ze (w_c (ze (zu (zf rfl (w_c (zPc rfl rfl (zr (q1 hZ l _ rt ha k1.to hl (zO g)))))))))))
def zAk(h:O[n]?=some (.lst (nat S)))(hp:T.Perm S)(hT:T.Pairwise (· < ·))(hl:S.length<64)(q:Q (.loc O.length) (O++[.lst (nat T)])):WF zkg [.loc n] O Q:=by
 have e1:nat S=(S.map λ(k:Nat)=>(k:Int)).map D.int:=by rw[Ng];rfl
 have e2:nat T=(T.map λ(k:Nat)=>(k:Int)).map D.int:=by rw[Ng];rfl
 have e3:zLl (S.map λ(k:Nat)=>(k:Int))=T.map λ(k:Nat)=>(k:Int):=by
  refine zvf ((Nq _ _).trans (hp.symm.map _)) (zhn _) ?_;rw[List.pairwise_map];exact hT.imp λh=>by omega
 refine⟨_,_,?_,q⟩;simp only[zkg,h];rw[e1,zEh,ym,Lu,decide_eq_true hl,cond_true,e3,<-e2]
def dkN(hU:Qe):Wp:=hU.map λp=>((p.1:Int),D.int (p.2:Nat))
def z9j(k:Nat):∀hU:Qe,zLd (dkN hU) (k:Int)=(hU.lookup k).map λh=>D.int (h:Nat)
 |[]=>rfl
 |(j,h)::hU=>by
  have ih:=z9j k hU;unfold zLd dkN at ih ⊢;rw[Nf,xX,Lz]
  by_cases hj:j=k
  ·subst hj;simp
  ·have h1:(decide (((j:Nat):Int)=(k:Int)))=false:=decide_eq_false (by omega);have h2:(k==j)=false:=beq_eq_false_iff_ne.mpr (Yi hj);simp only[h1,h2];exact ih
abbrev fsD(r:D)(m:Nat):Wq:=[("kept_rule",r),("nest_of",.loc m)]
structure Sh(O:Mem)(n m:Nat)(r:D)(hU:Qe):Prop where
 at_:O[n]?=some (.ins "Shelf" (fsD r m))
 dc:O[m]?=some (.dct (dkN hU))
 nd:(hU.map (·.1)).Nodup
 few:hU.length<=30
def Sh.keep{O O':Mem}(s:Sh O n m r hU)(k:tm O O'):Sh O' n m r hU:=⟨k _ _ s.at_,k _ _ s.dc,s.nd,s.few⟩
section
variable {O:Mem}{n m:Nat}{r:D}{hU:Qe}{Q:Wr}
def z9e(r:D)(m:Nat):(fsD r m).lookup ("nest_of":yj)=some (D.loc m):=by
 have h1:(("nest_of":yj) == "kept_rule")=false:=by decide +kernel
 have h2:(("nest_of":yj) == "nest_of")=true:=by decide +kernel
 simp only[fsD,Lz,h1,h2]
def zbk(r:D)(m:Nat):(fsD r m).lookup ("all_there":yj)=none:=by
 have h1:(("all_there":yj) == "kept_rule")=false:=by decide +kernel
 have h2:(("all_there":yj) == "nest_of")=false:=by decide +kernel
 simp only[fsD,Lz,h1,h2,Na]
def zbx(s:Sh O n m r hU)(q:Q (.bl (hU.lookup k).isSome) O):WF zjd [.loc n,.int k] O Q:=by
 refine zHb rfl ?_;show WS zgg [some (.loc n),some (.int k)] O _ _ _ _;unfold zgg;refine zLb (zu (zf rfl (zRn (zf rfl ⟨n,_,.loc m,rfl,s.at_,z9e r m,zmx (zef s.dc) ?_⟩))));rw[z9j,Option.isSome_map];exact q
structure Tj(hU:Qe)(S:Qf):Prop where
 pm:S.Perm (hU.map (·.1))
 pw:S.Pairwise (· < ·)
def Tj.ex(nd:(hU.map (·.1)).Nodup):∃S,Tj hU S:=by
 refine⟨(hU.map (·.1)).mergeSort (λa b=>decide (a<=b)),Nq _ _,?_⟩;have h1:=List.pairwise_mergeSort (le:=λa b:Nat=>decide (a<=b)) (λa b c h1 h2=>by simp at h1 h2 ⊢;omega) (λa b=>by simp;omega) (hU.map (·.1));have h2:((hU.map (·.1)).mergeSort (λa b=>decide (a<=b))).Pairwise (·≠·):=(Nq _ _).nodup_iff.mpr nd;refine(h1.and h2).imp λh=>?_;have:=of_decide_eq_true h.1;have:=h.2;omega
def Tj.len(k:Tj hU S):S.length=hU.length:=by rw[k.pm.length_eq,Lu]
def zxf(s:Sh O n m r hU)(k:Tj hU S)(q:Q (.loc O.length) (O++[.lst (nat S)])):WF zV [.loc n] O Q:=by
 have hf:=s.few;refine zHb rfl ?_;show WS zqc [some (.loc n)] O _ _ _ _;unfold zqc;refine zLb (zt (ze (zRn (zf rfl ⟨n,_,.loc m,rfl,s.at_,z9e r m,zr ?_⟩))));have e0:(dkN hU).map (·.1)=(hU.map (·.1)).map λ(k:Nat)=>(k:Int):=by unfold dkN;rw[Ng,Ng];rfl
 have e2:nat S=(S.map λ(k:Nat)=>(k:Int)).map D.int:=by rw[Ng];rfl
 have e3:zLl ((hU.map (·.1)).map λ(k:Nat)=>(k:Int))=S.map λ(k:Nat)=>(k:Int):=by
  refine zvf ((Nq _ _).trans (k.pm.symm.map _)) (zhn _) ?_;rw[List.pairwise_map];exact k.pw.imp λh=>by omega
 have e4:(dkN hU).length<64:=by unfold dkN;rw[Lu];omega
 refine⟨_,_,?_,q⟩;simp only[zyq,zef s.dc,ym];rw[decide_eq_true e4,cond_true,e0,e3,<-e2]
def Tj.look(k:Tj hU S){x:Nat}(h:x∈S):∃v,hU.lookup x=some v:=by
 have h1:x∈hU.map (·.1):=k.pm.mem_iff.mp h;obtain⟨p,hp,rfl⟩:=List.mem_map.mp h1
 cases e:hU.lookup p.1 with
 |some v=>exact⟨v,rfl⟩
 |none=>
  rw[List.lookup_eq_none_iff]at e;exact absurd (e p hp) (by simp)
def z0u(s:Sh O n m r hU)(k:Tj hU S)(q:∀l O',tm O O'->O.length<=l->O'[l]?=some (.lst (S.map λx=>onD (hU.lookup x)))->Q (.loc l) O'):WF zCc [.loc n] O Q:=by
 have hf:=s.few;have hl:=k.len;refine zHb rfl ?_;show WS zrd [some (.loc n)] O _ _ _ _;unfold zrd;refine zLb (zQj (zOd (zt (zKe (zf rfl ⟨n,_,rfl,s.at_,zbk r m,zr (zxf s k (.inr (.inr ⟨_,_,rfl,zq,zKb (by rw[Lu];omega),?_⟩)))⟩)))));refine zic (λ(x:Nat)=>D.int x) S (λx=>onD (hU.lookup x)) (λO' k=>zrb zq k) (λx hx O' kp=>?_) (λO' kp=>?_)
 ·have s':=s.keep (tm.app.trans kp);obtain⟨v,hv⟩:=k.look hx;refine zmf ?_;unfold zng;exact zu (zRn (zf rfl ⟨n,_,.loc m,rfl,s'.at_,z9e r m,zf rfl (zvx (zef s'.dc) (by rw[z9j,hv];rfl) ⟨by rw[hv],kp,kp⟩)⟩))
 ·exact q _ _ (tm.app.trans kp.to) (yA (by simp) kp.len) zq
end
def hmN(n k:Nat)(t:Nat×Nat):Nat:=(t.1*k+t.2)%10007%n
def pr2(t:Nat×Nat):D:=.tup [.int (t.1:Nat),.int (t.2:Nat)]
abbrev rlN(R:Qf)(ts:Qe):D:=.tup [tn R,.tup (ts.map pr2)]
structure Rl(R:Qf)(ts:Qe):Prop where
 rl:1<=R.length/\R.length<=10
 tl:2<=ts.length/\ts.length<=3
 tn:∀t∈ts,t.1<=10006/\t.2<=10006
def zsv(h:Rl R ts)(q:∀O',tm O O'->Q (tn (ts.map (hmN R.length k))) O'):WF zwn [rlN R ts,.int k] O Q:=by
 have kZ:=h.rl;have htl:=h.tl;refine zHb rfl ?_;show WS z5m [some (rlN R ts),some (.int k),none] O _ _ _ _;unfold z5m
 repeat walk_at "w"
 refine zPc rfl (show atI [tn R,.tup (ts.map pr2)] 0=some (tn R) from rfl) ?_
 repeat walk_at "w"
 refine zOd ?_
 repeat walk_at "w"
 refine zPc rfl (show atI [tn R,.tup (ts.map pr2)] 1=some (.tup (ts.map pr2)) from rfl) (.inl ⟨_,rfl,zKb (by rw[Lu];omega),?_⟩);refine zic pr2 ts (λt=>D.int (hmN R.length k t:Nat)) (λ_ _=>rfl) (λt ht O' kp=>?_) (λO' kp=>?_)
 ·have hb:=h.tn t ht;refine zmf ?_;unfold zbo
  repeat walk_at "w"
  refine zPc (x:=pr2 t) rfl (show atI [D.int (t.1:Nat),D.int (t.2:Nat)] 0=some (D.int (t.1:Nat)) from rfl) ?_
  repeat walk_at "w"
  refine zWx (zZu (by omega) (by omega)) ?_
  repeat walk_at "w"
  refine zPc (x:=pr2 t) rfl (show atI [D.int (t.1:Nat),D.int (t.2:Nat)] 1=some (D.int (t.2:Nat)) from rfl) ?_
  repeat walk_at "w"
  have e:((nat R).length:Int)=R.length:=by rw[Lu]
  rw[e];refine zoA (by omega) ⟨?_,kp,kp⟩;unfold hmN
  push_cast
  rfl
 ·refine zr (zwg (zz zq) ?_);have e:ts.map (λt=>D.int (hmN R.length k t:Nat))=nat (ts.map (hmN R.length k)):=by rw[zTi]
  rw[e];exact q _ kp.to
abbrev zlf(R:Qf)(ts:Qe)(S:Qf):Qd:=S.map λk=>ts.map (hmN R.length k)
def Rl.wb(h:Rl R ts){S:Qf}{L:Nat}(hS:S.length<=L):Wb L R (zlf R ts S) where
 rl:=h.rl
 kl:=by rw[Lu];exact hS
 kn:=λk hk=>by
  obtain⟨x, -,rfl⟩:=List.mem_map.mp hk;refine⟨by rw[Lu];exact h.tl,λy hy=>?_⟩;obtain⟨t, -,rfl⟩:=List.mem_map.mp hy;exact Nat.mod_lt _ h.rl.1
def zjr(h:Rl R ts)(hl:O[l]?=some (.lst (nat S)))(hS:S.length<=1000)(q:∀O',tm O O'->Q (wn R (zlf R ts S)) O'):WF zZf [rlN R ts,.loc l] O Q:=by
 refine zHb rfl ?_;show WS z5j [some (rlN R ts),some (.loc l)] O _ _ _ _;unfold z5j
 repeat walk_at "w"
 refine zPc rfl (show atI [tn R,.tup (ts.map pr2)] 0=some (tn R) from rfl) ?_
 repeat walk_at "w"
 refine zOd ?_
 repeat walk_at "w"
 refine .inr (.inr ⟨_,_,rfl,hl,zKb (by rw[Lu];omega),?_⟩);refine zic (λ(x:Nat)=>D.int x) S (λk=>tn (ts.map (hmN R.length k))) (λO' k=>zrb hl k) (λx hx O' kp=>?_) (λO' kp=>?_)
 ·refine zmf ?_;unfold z9l
  repeat walk_at "w"
  exact zsv h λO2 k2=>⟨rfl,kp.trans k2,kp⟩
 ·refine zr (zwg (zz zq) ?_)
  repeat walk_at "w"
  have e:S.map (λk=>tn (ts.map (hmN R.length k)))=(zlf R ts S).map tn:=by rw[Ng];rfl
  rw[e];exact q _ kp.to
section
variable {O:Mem}{n m:Nat}{R:Qf}{ts:Qe}{hU:Qe}{Q:Wr}
def z2v(r:D)(m:Nat):(fsD r m).lookup ("laying":yj)=none:=by
 have h1:(("laying":yj) == "kept_rule")=false:=by decide +kernel
 have h2:(("laying":yj) == "nest_of")=false:=by decide +kernel
 simp only[fsD,Lz,h1,h2,Na]
end
structure WX(F:FX)(ds:Wm)(O:Mem)(Q:Wr):Prop where
 ex:∃d O',F ds O=some (.ok d O')/\Q d O'
def zqC(nx:M.Loc->Mem->Prop)(rt:Wr)(ex:yj->Wq->Mem->Prop):Out->Prop
 |.next J O=>nx J O
 |.ret d O=>rt d O
 |.exc c fs O=>ex c fs O
 |_=>False
structure WXs(p:FS)(J:M.Loc)(O:Mem)(nx:M.Loc->Mem->Prop)(rt:Wr)(ex:yj->Wq->Mem->Prop):Prop where
 ex:∃o,p J O=some o/\zqC nx rt ex o
section
variable {p q:FS}{J:M.Loc}{O:Mem}{nx:M.Loc->Mem->Prop}{rt:Wr}{ex:yj->Wq->Mem->Prop}
def zzr(h:WS p J O nx rt (λ_ _=>False) λ_ _=>False):WXs p J O nx rt ex:=by
 obtain⟨o,e,k⟩:=h
 cases o with
 |next _ _=>exact⟨_,e,k⟩
 |ret _ _=>exact⟨_,e,k⟩
 |brk _ _=>exact k.elim
 |cont _ _=>exact k.elim
 |exc _ _ _=>exact k.elim
def zBg(h:WXs p J O (λJ' O'=>WXs q J' O' nx rt ex) rt ex):WXs (zfb p q) J O nx rt ex:=by
 obtain⟨o,e,k⟩:=h
 cases o with
 |next J' O'=>obtain⟨o2,e2,k2⟩:=k;exact⟨o2,by simp[e,e2],k2⟩
 |ret d O'=>exact⟨.ret d O',by simp only[zfb,e],k⟩
 |exc c fs O'=>exact⟨.exc c fs O',by simp only[zfb,e],k⟩
 |brk _ _=>exact k.elim
 |cont _ _=>exact k.elim
def zdz{c:FT}(h:WT c J O λb O1=>(b=true->WXs p J O1 nx rt ex)/\(b=false->WXs q J O1 nx rt ex)):WXs (sIf c p q) J O nx rt ex:=by
 obtain⟨b,O1,e,h1,h2⟩:=h
 cases b with
 |true=>obtain⟨o,e2,k⟩:=h1 rfl;exact⟨o,by simp[e,e2],k⟩
 |false=>obtain⟨o,e2,k⟩:=h2 rfl;exact⟨o,by simp[e,e2],k⟩
end
structure WXr(F:FX)(ds:Wm)(O:Mem)(Q:Wr)(ex:yj->Wq->Mem->Prop):Prop where
 ex:(∃d O',F ds O=some (.ok d O')/\Q d O')\/∃c fs O',F ds O=some (.exc c fs O')/\ex c fs O'
def z5x{F:FX}{N:Qx}{p:FS}{ex:yj->Wq->Mem->Prop}(hF:F=λds O=>zaz (p (zG N ds) O))(h:WXs p (zG N ds) O (λ_ O'=>Q .non O') Q ex):WXr F ds O Q ex:=by
 subst hF;obtain⟨o,e,k⟩:=h
 cases o with
 |next J' O'=>exact⟨.inl ⟨_,_,by rw[e];rfl,k⟩⟩
 |ret d O'=>exact⟨.inl ⟨_,_,by rw[e];rfl,k⟩⟩
 |exc c fs O'=>exact⟨.inr ⟨_,_,_,by rw[e];rfl,k⟩⟩
 |brk _ _=>exact k.elim
 |cont _ _=>exact k.elim
abbrev zdv(hU:Qe)(k:Nat):Qe:=hU.filter λp=>decide (p.1≠k)
def zJy(k:Nat)(hU:Qe):zGx (dkN hU) (k:Int)=dkN (zdv hU k):=by
 unfold zGx dkN zdv;rw[List.filter_map]
 congr 1
 refine List.filter_congr λp _=>?_;show decide (((p.1:Nat):Int)≠(k:Int))=decide (p.1≠k);exact decide_eq_decide.mpr (by omega)
def Sh.ne(s:Sh O n m r hU):n≠m:=by
 rintro rfl;have h1:=s.at_;rw[s.dc]at h1;cases h1
def Sh.set{hU':Qe}(s:Sh O n m r hU)(nd:(hU'.map (·.1)).Nodup)(few:hU'.length<=30):Sh (O.set m (.dct (dkN hU'))) n m r hU' where
 at_:=by rw[yQ (Yi s.ne)];exact s.at_
 dc:=by
  have hm:m<O.length:=by
   obtain⟨h, -⟩:=List.getElem?_eq_some_iff.mp s.dc;exact h
  rw[yO hm]
 nd:=nd
 few:=few
def Sh.pop(s:Sh O n m r hU)(k:Nat):Sh (O.set m (.dct (dkN (zdv hU k)))) n m r (zdv hU k) :=
 s.set (List.Nodup.sublist (List.filter_sublist.map _) s.nd) (yA List.filter_sublist.length_le s.few)
def zRq{rt:Wr}{ex:yj->Wq->Mem->Prop}(h:WA G J O λ_ O1=>ex c [] O1):WXs (zEo c G) J O nx rt ex:=by
 obtain⟨ds,O1,e,k⟩:=h;exact⟨.exc c [] O1,by simp only[zEo,e,ym],k⟩
def zIq(r:D)(m:Nat):(fsD r m).lookup ("has":yj)=none:=by
 have h1:(("has":yj) == "kept_rule")=false:=by decide +kernel
 have h2:(("has":yj) == "nest_of")=false:=by decide +kernel
 simp only[fsD,Lz,h1,h2,Na]
def zwA{ex:yj->Wq->Mem->Prop}(s:Sh O n m r hU)(q:∀h:Nat,hU.lookup k=some h->Q (.int h) (O.set m (.dct (dkN (zdv hU k)))))(qe:hU.lookup k=none->ex "NoKey" [] O):WXr z4f [.loc n,.int k] O Q ex:=by
 refine z5x rfl ?_;show WXs zwf [some (.loc n),some (.int k)] O _ _ _;unfold zwf;refine zBg (zdz (znk (zL (zt (zKe (zf rfl ⟨n,_,rfl,s.at_,zIq _ m,ze (zf rfl (zr (zbx s ⟨_,rfl,λhb=>?_,λhb=>?_⟩)))⟩))))))
 ·have h0:hU.lookup k=none:=by
   cases e:hU.lookup k with
   |none=>rfl
   |some v=>rw[e]at hb;cases hb
  exact zRq (ze (w_c (zr (qe h0))))
 ·cases e:hU.lookup k with
  |none=>rw[e]at hb;cases hb
  |some v=>
   refine zzr (zub (zzr (zLb (zAy (zRn (zf rfl ⟨n,_,.loc m,rfl,s.at_,z9e r m,m,_,rfl,s.dc,ze (zf rfl (zr (zfA s.dc (by rw[z9j,e];rfl) ?_)))⟩))))));rw[zJy];exact q v e
def zty(h:O[n]?=some (.ins "Shelf" []))(q:Q .non (O.set n (.ins "Shelf" (fsD r O.length))++[.dct []])):WF zGc [.loc n,r] O Q:=by
 have hn:n<O.length:=(List.getElem?_eq_some_iff.mp h).1;refine zHb rfl ?_;show WS zIc [some (.loc n),some r] O _ _ _ _;unfold zIc;refine zB (zZq (zf rfl (zf rfl ⟨n,_,rfl,h,by decide,?_⟩)));refine zZq ?_
 repeat walk_at "w"
 have g1:∀(X σ:tu),(List.set O n X++[σ])[n]?=some X:=λX σ=>by rw[yq (by rw[Lw];exact hn),yO hn]
 have h2:¬("kept_rule":yj)="nest_of":=by decide +kernel
 have e:∀l:Nat,zHi "nest_of" (.loc l) (zHi "kept_rule" r [])=fsD r l:=λl=>by simp only[zHi,h2,if_false]
 refine⟨n,_,rfl,g1 _ _,by simp[zHi],?_⟩;rw[e,Lw,List.set_append_left _ _ (by rw[Lw];exact hn),List.set_set];exact q
def zPz:Sh ((O++[tu.ins "Shelf" []]).set O.length (.ins "Shelf" (fsD r (O++[tu.ins "Shelf" []]).length))++[.dct []]) O.length (O++[tu.ins "Shelf" []]).length r [] where
 at_:=by rw[yq (by simp),yO (by simp)]
 dc:=by rw[yS (by simp)];simp[dkN]
 nd:=List.nodup_nil
 few:=Ys _
def ziv{f:yj}{rt:Wr}{ex:yj->Wq->Mem->Prop}(h:WA G J O λds O1=>∃(n:Nat)(ns:Qg),ds=[.loc n]/\O1[n]?=some (.lst (ns.map D.int))/\zTd ns/\ex c [(f,.loc O1.length)] (O1++[.lst (ns.map D.int)])):WXs (zNf c f G) J O nx rt ex:=by
 obtain⟨ds,O1,e,n,ns,rfl,hm,hs,k⟩:=h;exact⟨Out.exc c [(f,D.loc O1.length)] (O1++[tu.lst (ns.map D.int)]),by simp only[zNf,e,ym,hm,zEh,decide_eq_true hs,cond_true],k⟩
def zUm(T:Qf):nat T=(T.map λ(k:Nat)=>(k:Int)).map D.int:=by rw[Ng];rfl
def znq{xs:Qf}(nd:xs.Nodup):∃T:Qf,T.Perm xs/\T.Pairwise (· < ·):=by
 have e:(xs.map λx=>(x,0)).map (·.1)=xs:=by rw[Ng];exact List.map_id' xs
 obtain⟨T,h⟩:=Tj.ex (hU:=xs.map λx=>(x,0)) (by rw[e];exact nd);exact⟨T,by have:=h.pm;rw[e]at this;exact this,h.pw⟩
def Tj.not(K:Tj hU S){k:Nat}(h:hU.lookup k=none):k∉S:=λhm=>by
 obtain⟨v,hv⟩:=K.look hm;rw[h]at hv;cases hv
def Tj.nd(K:Tj hU S){k:Nat}(h:hU.lookup k=none):(S++[k]).Nodup:=by
 rw[Nr];refine⟨K.pw.imp λh=>yC h,by simp,λa ha b hb e=>K.not h ?_⟩;rw[List.mem_singleton]at hb;subst hb e;exact ha
def zMw{rt:Wr}{ex:yj->Wq->Mem->Prop}(h:WA G J O λds O1=>∃(l:Nat)(T:Qf),ds=[.loc l]/\O1[l]?=some (.lst (nat T))/\T.length<=31/\(∀x∈T,x<10^60)/\ex "Full" [("some",.loc O1.length)] (O1++[.lst (nat T)])):WXs (zNf "Full" "some" G) J O nx rt ex:=by
 obtain⟨ds,O1,e,l,T,rfl,hm,hl,hs,k⟩:=h;refine ziv ⟨_,O1,e,l,T.map λ(k:Nat)=>(k:Int),rfl,by rw[<-zUm];exact hm,⟨by rw[Lu];omega,λn hn=>?_⟩,by rw[<-zUm];exact k⟩;obtain⟨x,hx,rfl⟩:=List.mem_map.mp hn;have:=hs x hx;omega
def z7B:FS:=(zfb (z6c 3 (zw zof (zi (zw zZf (zi (zrs "Shelf" "kept_rule" (zp 0)) (zi (zp 2) zC))) (zi (zy zah (zw zCc (zgc "Shelf" "laying" (zp 0) zC)) (zsl (zi (fC .non) zC))) (zi (zy zxs (zw zxl (zi (zp 2) zC)) (fC (.int 1))) zC))))) (zfb (sIf (zdb (zy gEq (zy gIx (zp 3) (fC (.int 0))) (fC (.str "full")))) (zNf "Full" "some" (zi (zw zkg (zi (fLC 1 [2] (zWf (zy gIx (zp 3) (fC (.int 1)))) (gN 0) zph z1d) zC)) zC)) z1b) (zfb (z6c 4 (fLC 1 [2] (zWf (zy gIx (zp 3) (fC (.int 1)))) (gN 0) zph zZd)) (zfb (zzo (zWf (zp 4)) (gN 5) z3d) (zbc (zp 4))))))
def zpy{ex:yj->Wq->Mem->Prop}(s:Sh O n m r hU)(K:Tj hU S)(hS:∀x∈S,x<10^60)(hk:k<10^60)
 (qt:∀h:Nat,hU.lookup k=some h->ex "Twice" [] O)
 (qf:∀(T:Qf)(l:Nat)(O':Mem),hU.lookup k=none->S.length=30->T.Perm (S++[k])->T.Pairwise (· < ·)->tm O O'->O.length<=l->O'[l]?=some (.lst (nat T))->ex "Full" [("some",.loc l)] O')
 (qb:∀(l:Nat)(O':Mem),hU.lookup k=none->S.length<30->tm O O'->O.length<=l->O'[l]?=some (.lst (nat (S++[k])))->WXs z7B [some (.loc n),some (.int k),some (.loc l),none,none,none] O' (λ_ O''=>Q .non O'') Q ex):WXr zze [.loc n,.int k] O Q ex:=by
 have hf:=s.few;have hl:=K.len;refine z5x rfl ?_;show WXs zcg [some (.loc n),some (.int k),none,none,none,none] O _ _ _;unfold zcg;refine zBg (zdz (zL (zt (zKe (zf rfl ⟨n,_,rfl,s.at_,zIq _ m,ze (zf rfl (zr (zbx s ⟨_,rfl,λhb=>?_,λhb=>?_⟩)))⟩)))))
 ·cases e:hU.lookup k with
  |none=>rw[e]at hb;cases hb
  |some v=>exact zRq (ze (w_c (zr (qt v e))))
 ·have h0:hU.lookup k=none:=by
   cases e:hU.lookup k with
   |none=>rfl
   |some v=>rw[e]at hb;cases hb
  refine zzr (zub ?_);have g1:((O++[tu.lst (nat S)])++[tu.lst [D.int k]])[O.length]?=some (.lst (nat S)):=by rw[yq (by simp)];exact zq
  refine zBg (zzr (zGb (zu (zt (zKe (zf rfl ⟨n,_,rfl,s.at_,zbk _ m,zr (zxf s K (zTg (ze (zf rfl (zr (z8k g1 zq ?_ ?_))))))⟩))))))
  ·simp;omega
  ·have e1:nat S++[D.int k]=nat (S++[k]):=by simp[nat]
   have e2:(nat (S++[k])).length=S.length+1:=by rw[Lu,Lq,Lx]
   rw[e1];refine zBg (zdz (zL (zu (zt (ze (zf rfl (zr (zuj (zz zq) (w_c (z6i ⟨_,rfl,λhb=>?_,λhb=>?_⟩))))))))))
   ·have hb':=of_decide_eq_true hb;rw[e2]at hb';obtain⟨T,hT,pT⟩:=znq (K.nd h0);have lT:=hT.length_eq;rw[Lq,Lx]at lT;refine zMw (ze (zt (ze (zf rfl (zr (zAk zq hT pT ?_ (zr ⟨_,T,rfl,zq,?_,λx hx=>?_,?_⟩)))))))
    ·rw[Lq,Lx];omega
    ·omega
    ·rcases List.mem_append.mp (hT.mem_iff.mp hx) with h|h
     ·exact hS x h
     ·rw[List.mem_singleton]at h;subst h;exact hk
    ·refine qf T _ _ h0 (by omega) hT pT ?_ ?_ zq
     ·exact(((tm.app.trans tm.app).trans tm.app).trans tm.app).trans tm.app
     ·simp
   ·have hb':=of_decide_eq_false hb;rw[e2]at hb';refine zzr (zub ?_);exact qb _ _ h0 (by omega) ((tm.app.trans tm.app).trans tm.app) (by simp) zq
def z8y:FS:=(zfb (sIf (zdb (zy gEq (zy gIx (zp 3) (fC (.int 0))) (fC (.str "full")))) (zNf "Full" "some" (zi (zw zkg (zi (fLC 1 [2] (zWf (zy gIx (zp 3) (fC (.int 1)))) (gN 0) zph z1d) zC)) zC)) z1b) (zfb (z6c 4 (fLC 1 [2] (zWf (zy gIx (zp 3) (fC (.int 1)))) (gN 0) zph zZd)) (zfb (zzo (zWf (zp 4)) (gN 5) z3d) (zbc (zp 4)))))
def zxA{rt:Wr}{ex:yj->Wq->Mem->Prop}(h:Rl R ts)(s:Sh O n m (rlN R ts) hU)(K:Tj hU S)(h30:S.length<30)(hl:O[l]?=some (.lst (nat (S++[k]))))
 (q1:∀(row:Qe) (l':Nat) (O':Mem),TC (zlf R ts (S++[k])) ((S.map λx=>hU.lookup x)++[none]) S.length row->((S.map λx=>hU.lookup x)++[none]).count (some (row.getD (row.length-1) (0,0)).2)<R.getD (row.getD (row.length-1) (0,0)).2 0->row.length<=10->tm O O'->O'[l']?=some (.lst (row.map pD))->WXs z8y [some (.loc n),some (.int k),some (.loc l),some (.tup [.str "put",.loc l']),none,none] O' nx rt ex)
 (q2:∀(T:Qf)(l':Nat)(O':Mem),T.Sublist (yz (S.length+1))->S.length∈T->Shut R (zlf R ts (S++[k])) ((S.map λx=>hU.lookup x)++[none]) T->tm O O'->O'[l']?=some (.lst (nat T))->WXs z8y [some (.loc n),some (.int k),some (.loc l),some (.tup [.str "full",.loc l']),none,none] O' nx rt ex) :
 WXs z7B [some (.loc n),some (.int k),some (.loc l),none,none,none] O nx rt ex:=by
 have kA:(S++[k]).length=S.length+1:=by simp
 have hK:(zlf R ts (S++[k])).length=S.length+1:=by rw[Lu,kA]
 have hy:((S.map λx=>hU.lookup x)++[none]).length=S.length+1:=by simp
 unfold z7B;refine zBg (zzr (zGb (zt (ze (zt (ze (zRn (zf rfl ⟨n,_,rlN R ts,rfl,s.at_,rfl,ze (zf rfl (zr (zjr h hl (by omega) λO1 k1=>?_)))⟩))))))));have s1:=s.keep k1;refine ze (zu (zt (zKe (zf rfl ⟨n,_,rfl,s1.at_,z2v _ m,zr (z0u s1 K λl2 O2 k2 g2 e2=>zTg (ze (w_c (zr (z8k (tm.app _ _ e2) zq ?_ ?_)))))⟩))))
 ·simp;omega
 ·have e3:(S.map λx=>onD (hU.lookup x))++[D.non]=((S.map λx=>hU.lookup x)++[none]).map onD:=by rw[Nc,Ng];rfl
  rw[e3];have kk:tm O ((O2++[tu.lst [D.non]])++[tu.lst (((S.map λx=>hU.lookup x)++[none]).map onD)]):=((k1.trans k2).trans tm.app).trans tm.app;refine ze (zu (zt (ze (zf rfl (zr (zuj (zz (kk _ _ hl)) (w_c (z7s (zr ?_)))))))));have e4:(((nat (S++[k])).length:Nat):Int)-1=((S.length:Nat):Int):=by rw[Lu,kA];omega
  rw[e4];refine zWq (L:=30) (h.wb (by omega)) (by rw[hK,hy]) (by omega) zq (by omega) (by simp) (λrow l' O' ro hr r10 k' _ e'=>?_) (λT l' O' sb hm sh k' _ e'=>?_)
  ·exact q1 row l' O' ro hr r10 (kk.trans k') e'
  ·exact q2 T l' O' (by rw[hK]at sb;exact sb) hm sh (kk.trans k') e'
def zPA{l':Nat}{rt:Wr}{ex:yj->Wq->Mem->Prop}(hS:∀x∈S++[k],x<10^60)(nd:(S++[k]).Nodup)(h30:S.length<30)(hl:O[l]?=some (.lst (nat (S++[k]))))(sb:T.Sublist (yz (S.length+1)))(hm:S.length∈T)(hl':O[l']?=some (.lst (nat T)))
 (q:∀(V:Qf)(l2:Nat)(O':Mem),V.Pairwise (· < ·)->k∈V->V.Perm (T.map λi=>(S++[k]).getD i 0)->tm O O'->O.length<=l2->O'[l2]?=some (.lst (nat V))->ex "Full" [("some",.loc l2)] O') :
 WXs z8y [some (.loc n),some (.int k),some (.loc l),some (.tup [.str "full",.loc l']),none,none] O nx rt ex:=by
 have kA:(S++[k]).length=S.length+1:=by simp
 have lT:T.length<=S.length+1:=by have:=sb.length_le;rw[Lv]at this;exact this
 have hT:∀i∈T,i<(S++[k]).length:=λi hi=>by have:=List.mem_range.mp (sb.subset hi);omega
 have g:∀(i:Nat)(h:i<(S++[k]).length),(S++[k]).getD i 0=(S++[k])[i]:=λi h=>by rw[Lo,yE h,Option.getD_some]
 have hc:Yc (.str ("full":yj)) (.str ("full":yj))=true:=by decide +kernel
 unfold z8y;refine zBg (zdz (zL (zu (zu (zf rfl (w_c (zPc rfl rfl (w_c (zYe ⟨_,rfl,λ_=>?_,λhb=>?_⟩)))))))))
 ·have ndV:(T.map λi=>(S++[k]).getD i 0).Nodup:=by
   rw[List.Nodup,List.pairwise_map];refine List.Pairwise.imp_of_mem (λ{a b} ha hb hab e=>?_) (List.Nodup.sublist sb List.nodup_range);have h1:=hT a ha;have h2:=hT b hb;rw[g a h1,g b h2]at e;exact hab ((List.getElem?_inj h1 nd).mp (by rw[yE h1,yE h2,e]))
  obtain⟨V,hV,pV⟩:=znq ndV;have lV:=hV.length_eq;rw[Lu]at lV;refine zMw (ze (zt (ze (zQj (zOd (zu (zf rfl (w_c (zPc rfl rfl (.inr (.inr ⟨_,_,rfl,hl',zKb (by rw[Lu];omega),?_⟩)))))))))));refine zic (λ(x:Nat)=>D.int x) T (λi=>D.int ((S++[k]).getD i 0:Nat)) (λO' k=>zrb hl' k) (λi hi O' kp=>?_) (λO' kp=>?_)
  ·refine zmf ?_;unfold z1d;exact zu (zf rfl (zf rfl (zPc (zz (kp _ _ hl)) (zBn (hT i hi)) ⟨rfl,kp,kp⟩)))
  ·have e:(T.map λi=>D.int ((S++[k]).getD i 0:Nat))=nat (T.map λi=>(S++[k]).getD i 0):=by rw[zTi]
   rw[e];refine zr (zAk zq hV pV (by rw[Lu];omega) (zr ⟨_,V,rfl,zq,by omega,λx hx=>?_,?_⟩))
   ·obtain⟨i,hi,rfl⟩:=List.mem_map.mp (hV.mem_iff.mp hx);have:=hT i hi;rw[g i this];exact hS _ (Lp this)
   ·refine q V _ _ pV ?_ hV ((kp.to.trans tm.app).trans tm.app) ?_ zq
    ·refine hV.mem_iff.mpr (List.mem_map.mpr ⟨S.length,hm,by simp⟩)
    ·have:=kp.len;simp;omega
 ·rw[hc]at hb;cases hb
def z5o(hU:Qe)(k h:Nat):Qe:=if k∈hU.map (·.1) then hU.map (λp=>if p.1=k then(p.1,h) else p) else hU++[(k,h)]
def zSu(k h:Nat)(hU:Qe):zhs (dkN hU) (k:Int) (.int (h:Nat))=dkN (z5o hU k h):=by
 have e:((dkN hU).any λp=>decide (p.1=(k:Int)))=decide (k∈hU.map (·.1)):=by
  unfold dkN;rw[Le];apply Bool.eq_iff_iff.mpr;rw[Ld,decide_eq_true_iff,List.mem_map];constructor
  ·rintro⟨p,hp,h⟩;have h:((p.1:Nat):Int)=k:=of_decide_eq_true h;exact⟨p,hp,by omega⟩
  ·rintro⟨p,hp,h⟩;refine⟨p,hp,decide_eq_true (show((p.1:Nat):Int)=k from ?_)⟩;omega
 unfold zhs z5o;rw[e]
 by_cases hk:k∈hU.map (·.1)
 ·rw[if_pos (decide_eq_true hk),if_pos hk];unfold dkN;rw[Ng,Ng];refine Nd λp _=>?_;show(if((p.1:Nat):Int)=k then _ else _)=_
  by_cases hp:p.1=k
  ·rw[if_pos (by omega)];show _=((((if p.1=k then(p.1,h) else p).1:Nat):Int),D.int ((if p.1=k then(p.1,h) else p).2:Nat));rw[if_pos hp]
  ·rw[if_neg (by omega)];show _=((((if p.1=k then(p.1,h) else p).1:Nat):Int),D.int ((if p.1=k then(p.1,h) else p).2:Nat));rw[if_neg hp]
 ·rw[if_neg (by rw[decide_eq_true_iff];exact hk),if_neg hk];unfold dkN;rw[Nc];rfl
def zso(hU:Qe)(k h:Nat):(z5o hU k h).map (·.1)=if k∈hU.map (·.1) then hU.map (·.1) else hU.map (·.1)++[k]:=by
 unfold z5o
 by_cases hk:k∈hU.map (·.1)
 ·rw[if_pos hk,if_pos hk,Ng];refine Nd λp _=>?_;show(if p.1=k then(p.1,h) else p).1=p.1
  by_cases hp:p.1=k
  ·rw[if_pos hp]
  ·rw[if_neg hp]
 ·rw[if_neg hk,if_neg hk,Nc];rfl
def zwy(nd:(hU.map (·.1)).Nodup):((z5o hU k h).map (·.1)).Nodup:=by
 rw[zso]
 by_cases hk:k∈hU.map (·.1)
 ·rw[if_pos hk];exact nd
 ·rw[if_neg hk,Nr];refine⟨nd,by simp,λa ha b hb e=>hk ?_⟩;rw[List.mem_singleton]at hb;subst hb e;exact ha
def zlw:x∈(z5o hU k h).map (·.1)↔x∈hU.map (·.1)\/x=k:=by
 rw[zso]
 by_cases hk:k∈hU.map (·.1)
 ·rw[if_pos hk];exact⟨.inl,λh=>h.elim id λh=>h▸hk⟩
 ·rw[if_neg hk,Ni,List.mem_singleton]
def z4h{k h x:Nat}(hx:x≠k):∀hU:Qe,(hU.map (λp=>if p.1=k then(p.1,h) else p)).lookup x=hU.lookup x
 |[]=>rfl
 |(j,v)::hU=>by
  have ih:=z4h (h:=h) hx hU;rw[Nf]
  by_cases hj:j=k
  ·have e:(x==j)=false:=beq_eq_false_iff_ne.mpr (by omega);rw[if_pos hj,Lz,Lz,e];exact ih
  ·rw[if_neg hj,Lz,Lz,ih]
def zBi{k h:Nat}:∀hU:Qe,k∈hU.map (·.1)->(hU.map (λp=>if p.1=k then(p.1,h) else p)).lookup k=some h
 |[],hk=>absurd hk (by simp)
 |(j,v)::hU,hk=>by
  rw[Nf]
  by_cases hj:j=k
  ·rw[if_pos hj,Lz,hj,beq_self_eq_true]
  ·have e:(k==j)=false:=beq_eq_false_iff_ne.mpr (by omega);rw[if_neg hj,Lz,e];rw[Nf,Nk]at hk;exact zBi hU (hk.resolve_left (Yi hj))
def zyi(hU:Qe)(k h x:Nat):(z5o hU k h).lookup x=if x=k then some h else hU.lookup x:=by
 unfold z5o
 by_cases hk:k∈hU.map (·.1)
 ·rw[if_pos hk]
  by_cases hx:x=k
  ·subst hx;rw[if_pos rfl];exact zBi hU hk
  ·rw[if_neg hx];exact z4h hx hU
 ·rw[if_neg hk,List.lookup_append]
  by_cases hx:x=k
  ·subst hx
   have e:hU.lookup x=none:=List.lookup_eq_none_iff.mpr λp hp=>by
    apply bne_iff_ne.mpr;intro e;exact hk (List.mem_map.mpr ⟨p,hp,e.symm⟩)
   rw[if_pos rfl,e,Option.none_or,Lz,beq_self_eq_true]
  ·have e:(x==k)=false:=beq_eq_false_iff_ne.mpr hx;rw[if_neg hx,Lz,e];exact Option.or_none
def zBe(hU row:Qe):Qe:=row.foldl (λkv p=>z5o kv p.1 p.2) hU
def z0o(hU row:Qe)(p:Nat×Nat):zBe hU (row++[p])=z5o (zBe hU row) p.1 p.2:=by
 unfold zBe;rw[List.foldl_append];rfl
def zEf(row:Qe):∀hU:Qe,(hU.map (·.1)).Nodup->((zBe hU row).map (·.1)).Nodup:=by
 induction row with
 |nil=>exact λ_ h=>h
 |cons p row ih=>exact λhU h=>ih _ (zwy h)
def zDj(row:Qe):∀(hU:Qe) (x:Nat),x∈(zBe hU row).map (·.1)↔x∈hU.map (·.1)\/x∈row.map (·.1):=by
 induction row with
 |nil=>intro hU x;simp[zBe]
 |cons p row ih=>
  intro hU x;show x∈(zBe (z5o hU p.1 p.2) row).map (·.1)↔_;rw[ih,zlw,Nf,Nk,or_assoc]
def zvq(nd:(hU.map (·.1)).Nodup)(h1:∀x∈hU.map (·.1),x∈A)(h2:∀x∈row.map (·.1),x∈A):(zBe hU row).length<=A.length:=by
 have h:((zBe hU row).map (·.1)).length<=A.length:=by
  refine zqd (zEf row hU nd) λx hx=>?_;rcases(zDj row hU x).mp hx with h|h
  ·exact h1 x h
  ·exact h2 x h
 rw[Lu]at h;exact h
abbrev zDl(A:Qf)(row:Qe):Qe:=row.map λp=>(A.getD p.1 0,p.2)
def z9q(hm:∀p∈row,p.1<A.length):∀p∈zDl A row,p.1∈A:=λp hp=>by
 obtain⟨q,hq,rfl⟩:=List.mem_map.mp hp;have h:=hm q hq;show A.getD q.1 0∈A;rw[Lo,yE h,Option.getD_some];exact Lp h
abbrev JPt(n m k l l' lr:Nat)(r:D)(hU gI:Qe)(O:Mem):Nat->M.Loc->Mem->Prop:=λi J O'=>∃x5:Wn,J=[some (.loc n),some (.int k),some (.loc l),some (.tup [.str "put",.loc l']),some (.loc lr),x5]/\KB [m] O O'/\Sh O' n m r (zBe hU (gI.take i))
def zLA{l':Nat}{rt:Wr}{ex:yj->Wq->Mem->Prop}(s:Sh O n m r hU)(K:Tj hU S)(h30:S.length<30)(hl:O[l]?=some (.lst (nat (S++[k]))))(hm:∀p∈row,p.1<S.length+1)(r10:row.length<=10)(hl':O[l']?=some (.lst (row.map pD)))
 (q:∀(lr:Nat)(O':Mem),KB [m] O O'->O.length<=lr->O'[lr]?=some (.lst ((zDl (S++[k]) row).map pD))->Sh O' n m r (zBe hU (zDl (S++[k]) row))->rt (.loc lr) O') :
 WXs z8y [some (.loc n),some (.int k),some (.loc l),some (.tup [.str "put",.loc l']),none,none] O nx rt ex:=by
 have kA:(S++[k]).length=S.length+1:=by simp
 have hm':∀p∈row,p.1<(S++[k]).length:=λp hp=>by have:=hm p hp;omega
 have hc:Yc (.str ("put":yj)) (.str ("full":yj))=false:=by decide +kernel
 have gE:=zR s.dc;unfold z8y;refine zBg (zdz (zL (zu (zu (zf rfl (w_c (zPc rfl rfl (w_c (zYe ⟨_,rfl,λhb=>?_,λ_=>?_⟩)))))))))
 ·rw[hc]at hb;cases hb
 refine zzr (zub ?_);refine zBg (zzr (zGb (zQj (zOd (zu (zf rfl (w_c (zPc rfl rfl (.inr (.inr ⟨_,_,rfl,hl',zKb (by rw[Lu];omega),?_⟩))))))))));refine zic pD row (λp=>pD ((S++[k]).getD p.1 0,p.2)) (λO' k=>zrb hl' k) (λp hp O' kp=>?_) (λO' kp=>?_)
 ·refine zmf ?_;unfold zZd;refine zKi (ze (zu (zf rfl (zu (zf rfl (w_c (zPc (x:=pD p) rfl (show atI [D.int (p.1:Nat),D.int (p.2:Nat)] 0=some (D.int (p.1:Nat)) from rfl) (zPc (zz (kp _ _ hl)) (zBn (hm' p hp)) ?_))))))));exact ze (zu (zf rfl (w_c (zPc (x:=pD p) rfl (show atI [D.int (p.1:Nat),D.int (p.2:Nat)] 1=some (D.int (p.2:Nat)) from rfl) (zr ⟨rfl,kp,kp⟩)))))
 ·have e:(row.map λp=>pD ((S++[k]).getD p.1 0,p.2))=(zDl (S++[k]) row).map pD:=by rw[Ng];rfl
  rw[e];have k2:tm O (O'++[tu.lst ((zDl (S++[k]) row).map pD)]):=kp.to;have gl:(O'++[tu.lst ((zDl (S++[k]) row).map pD)])[O'.length]?=some (.lst ((zDl (S++[k]) row).map pD)):=zq;have hle:=kp.len;have rl:(zDl (S++[k]) row).length<=10:=by rw[Lu];exact r10
  have rm:=z9q hm';generalize zDl (S++[k]) row=gI at k2 gl rl rm q;generalize O'++[tu.lst (gI.map pD)]=O2 at k2 gl;generalize O'.length=lr at gl hle;have kN:lr≠m:=by omega
  refine zzr (zB (zYi (zOd (zf rfl (.inr (.inr ⟨_,_,rfl,gl,?_⟩))))));refine zNd (JPt n m k l l' lr r hU gI O2) ⟨_,rfl,.refl,s.keep k2⟩ ?_ ?_ ?_
  ·rintro i J O3 ⟨x5,rfl,k3,s3⟩;exact Tu.mpr (k3.at_ _ _ (by simp;exact kN) gl)
  ·rintro i x J O3 hx ⟨x5,rfl,k3,s3⟩;rw[yk]at hx
   cases hp:gI[i]? with
   |none=>rw[hp]at hx;cases hx
   |some p=>
    rw[hp]at hx;obtain rfl:pD p=x:=by simpa using hx
    refine zmf ?_;unfold z3d;refine zfs (zu (zf rfl (w_c (zPc (x:=pD p) rfl (show atI [D.int (p.1:Nat),D.int (p.2:Nat)] 1=some (D.int (p.2:Nat)) from rfl) (zfq (zRn (zf rfl ⟨n,_,.loc m,rfl,s3.at_,z9e r m,?_⟩)))))));have ht:gI.take (i+1)=gI.take i++[p]:=by rw[List.take_add_one,hp];rfl
    have ekv:=z0o hU (gI.take i) p;rw[<-ht]at ekv;refine zu (zf rfl (w_c (zPc (x:=pD p) rfl (show atI [D.int (p.1:Nat),D.int (p.2:Nat)] 0=some (D.int (p.1:Nat)) from rfl) ⟨m,_,_,rfl,rfl,s3.dc,?_,_,rfl,k3.trans (KB.refl.set (.inl (by simp))),?_⟩)))
    ·have:=s3.few;unfold dkN;rw[Lu];omega
    ·rw[zSu,<-ekv];refine s3.set (zEf _ _ s.nd) ?_;refine yA (zvq (A:=S++[k]) s.nd (λx hx=>List.mem_append_left _ (K.pm.mem_iff.mpr hx)) λx hx=>?_) (by omega);obtain⟨y,hy,rfl⟩:=List.mem_map.mp hx;exact rm y (List.mem_of_mem_take hy)
  ·rintro J O3 ⟨x5,rfl,k3,s3⟩;rw[Lu,Ny]at s3;have k4:=(KB.of_keep (L:=[m]) k2).trans k3;exact zLb (zf rfl (q lr O3 k4 hle (k3.at_ _ _ (by simp;exact kN) gl) s3))
abbrev Can(R:Qf)(ts:Qe)(hU:Qe)(S:Qf)(k:Nat)(row:Qe):Prop:=TC (zlf R ts (S++[k])) ((S.map λx=>hU.lookup x)++[none]) S.length row/\((S.map λx=>hU.lookup x)++[none]).count (some (row.getD (row.length-1) (0,0)).2)<R.getD (row.getD (row.length-1) (0,0)).2 0
abbrev sQ(R:Qf)(ts hU:Qe)(S:Qf)(k:Nat)(V:Qf):Prop:=∃T:Qf,T.Sublist (yz (S.length+1))/\S.length∈T/\Shut R (zlf R ts (S++[k])) ((S.map λx=>hU.lookup x)++[none]) T/\V.Perm (T.map λi=>(S++[k]).getD i 0)
def sQ.len(h:sQ R ts hU S k V):V.length<=S.length+1:=by
 obtain⟨T,sb,_,_,hV⟩:=h;have h1:=hV.length_eq;have h2:=sb.length_le;rw[Lu]at h1;rw[Lv]at h2;omega
def zyA{ex:yj->Wq->Mem->Prop}(h:Rl R ts)(s:Sh O n m (rlN R ts) hU)(K:Tj hU S)(hS:∀x∈S,x<10^60)(hk:k<10^60)
 (qt:∀h:Nat,hU.lookup k=some h->ex "Twice" [] O)
 (qf:∀(V:Qf)(l:Nat)(O':Mem),hU.lookup k=none->V.Pairwise (· < ·)->k∈V->(S.length=30/\V.Perm (S++[k])\/S.length<30/\sQ R ts hU S k V)->tm O O'->O.length<=l->O'[l]?=some (.lst (nat V))->ex "Full" [("some",.loc l)] O')
 (q:∀(row:Qe) (lr:Nat) (O':Mem),hU.lookup k=none->S.length<30->Can R ts hU S k row->KB [m] O O'->O.length<=lr->O'[lr]?=some (.lst ((zDl (S++[k]) row).map pD))->Sh O' n m (rlN R ts) (zBe hU (zDl (S++[k]) row))->Q (.loc lr) O'):WXr zze [.loc n,.int k] O Q ex:=by
 refine zpy s K hS hk qt (λT l O' h0 h30 hT pT k' g e=>qf T l O' h0 pT (hT.mem_iff.mpr (by simp)) (.inl ⟨h30,hT⟩) k' g e) λl O1 h0 h30 k1 g1 e1=>?_
 have hSk:∀x∈S++[k],x<10^60:=λx hx=>by
  rcases List.mem_append.mp hx with hx|hx
  ·exact hS x hx
  ·rw[List.mem_singleton.mp hx];exact hk
 refine zxA h (s.keep k1) K h30 e1 (λrow l' O2 ro hr r10 k2 e2=>?_) (λT l' O2 sb hm sh k2 e2=>?_)
 ·refine zLA (s.keep (k1.trans k2)) K h30 (k2 _ _ e1) (λp hp=>?_) r10 e2 λlr O3 k3 g3 e3 s3=>?_
  ·have:=(ro.mem p hp).1;rw[Lu,Lq,Lx]at this;exact this
  ·exact q row lr O3 h0 h30 ⟨ro,hr⟩ ((KB.of_keep (k1.trans k2)).trans k3) (yA (k1.trans k2).len g3) e3 s3
 ·exact zPA hSk (K.nd h0) h30 (k2 _ _ e1) sb hm e2 λV l2 O3 pV hV pm k3 g3 e3=>qf V l2 O3 h0 pV hV (.inr ⟨h30,T,sb,hm,sh,pm⟩) ((k1.trans k2).trans k3) (yA (k1.trans k2).len g3) e3
def zKj(K:Tj hU S)(ro:TC (zlf R ts (S++[k])) ((S.map λx=>hU.lookup x)++[none]) S.length row):x∈(zBe hU (zDl (S++[k]) row)).map (·.1)↔x∈S\/x=k:=by
 have hm:∀p∈row,p.1<(S++[k]).length:=λp hp=>by
  have:=(ro.mem p hp).1;rw[Lu]at this;exact this
 rw[zDj];constructor
 ·rintro(h|h)
  ·exact .inl (K.pm.mem_iff.mpr h)
  ·obtain⟨p,hp,rfl⟩:=List.mem_map.mp h;simpa using z9q hm p hp
 ·rintro(h|rfl)
  ·exact .inl (K.pm.mem_iff.mp h)
  ·obtain⟨h,r,e⟩:=ro.first
   refine .inr ?_;rw[e];simp
def zAx{F:FX}{rt:Wr}{ex:yj->Wq->Mem->Prop}(h:WA G J O λds O1=>WXr F ds O1 (λ_ O'=>nx J O') ex):WXs (zXu F G) J O nx rt ex:=by
 obtain⟨ds,O1,e1,⟨d,O',e2,k⟩|⟨c,fs,O',e2,k⟩⟩:=h
 ·exact⟨.next J O',by simp[e1,e2],k⟩
 ·exact⟨.exc c fs O',by simp[e1,e2],k⟩
def z5A{hZ:Qc}{hs:Qf}(e:hZ=hs.map some)(hi:hs[i]?=some h):atI (hZ.map onD) (i:Int)=some (.int (h:Nat)):=zed (by rw[e,yk,yk,hi];rfl)
abbrev JRn(n m a l:Nat)(r:D)(S:Qf)(hU gI:Qe)(O:Mem):Nat->M.Loc->Mem->Prop:=λi J O'=>∃x4 x5:Wn,J=[some (.loc n),some r,some (.loc a),some (.tup [.str "fits",.loc l]),x4,x5]/\KB [n,m] O O'/\Sh O' n m r (zBe hU (gI.take i))
def zDw{ex:yj->Wq->Mem->Prop}(h:Rl R' ts')(s:Sh O n m r hU)(K:Tj hU S)(hS:∀x∈S,x<10^60)
 (hF:zLg R' (zlf R' ts' S))
 (q:∀(hs:Qf)(O':Mem),hs.length=S.length->tW R' (zlf R' ts' S) (hs.map some)->KB [n,m] O O'->Sh O' n m (rlN R' ts') (zBe hU (S.zip hs))->Q .non O'):WXr z5d [.loc n,rlN R' ts'] O Q ex:=by
 have hf:=s.few;have hl:=K.len;have hK:(zlf R' ts' S).length=S.length:=by rw[Lu]
 have hfc:Yc (.str ("fits":yj)) (.str ("crowd":yj))=false:=by decide +kernel
 refine z5x rfl ?_;show WXs zYd [some (.loc n),some (rlN R' ts'),none,none,none,none] O _ _ _;unfold zYd;refine zBg (zzr (zGb (zt (zKe (zf rfl ⟨n,_,rfl,s.at_,zbk _ m,zr (zxf s K ?_)⟩)))));have e0:(O++[tu.lst (nat S)])[O.length]?=some (.lst (nat S)):=zq;have k0:tm O (O++[tu.lst (nat S)]):=tm.app;generalize O++[tu.lst (nat S)]=O0 at e0 k0;refine zBg (zzr (zGb (zt (ze (zt (ze (zf rfl (ze (zf rfl (zr (zjr h e0 (by omega) λO1 k1=>zr ?_)))))))))));have k01:=k0.trans k1;refine zMu (L:=30) (h.wb (by omega)) (by omega) hF λhZ l O2 rt hsm k2 g2 e2=>?_
 ·refine zBg (zdz (zL (zu (zu (zf rfl (w_c (zPc rfl rfl (w_c (zYe ⟨_,rfl,λhb=>?_,λ_=>zzr (zub ?_)⟩)))))))))
  ·rw[hfc]at hb;cases hb
  have hlay:hZ.length=S.length:=by rw[rt.len,hK]
  have elay:hZ=(hZ.map λo=>o.getD 0).map some:=by
   rw[Ng];refine Li λi=>?_;rw[yk]
   by_cases hi:i<hZ.length
   ·have:=hsm i (by omega);rw[Lo]at this
    cases e:hZ[i]? with
    |none=>rfl
    |some o=>
     rw[e]at this
     cases o with
     |none=>cases this
     |some v=>rfl
   ·rw[Yy (by omega)];rfl
  have hhs:(hZ.map λo=>o.getD 0).length=S.length:=by rw[Lu,hlay]
  have k02:=k01.trans k2;have s2:=s.keep k02;have ea:=k2 _ _ (k1 _ _ e0);have q':=q (hZ.map λo=>o.getD 0);generalize (hZ.map λo=>o.getD 0)=hs at hhs elay q';have rt':tW R' (zlf R' ts' S) (hs.map some):=by rw[<-elay];exact rt
  refine zzr (zB (zZq (zf rfl (zf rfl ⟨n,_,rfl,s2.at_,by simp[fsD],?_⟩))));have h2:zHi "kept_rule" (rlN R' ts') (fsD r m)=fsD (rlN R' ts') m:=by simp only[zHi,if_true]
  rw[h2];have kN:=s2.ne;have kn:KB [n,m] O2 (O2.set n (.ins "Shelf" (fsD (rlN R' ts') m))):=KB.refl.set (.inl (by simp));have s3:Sh (O2.set n (.ins "Shelf" (fsD (rlN R' ts') m))) n m (rlN R' ts') hU:=⟨zcy s2.at_,by rw[yQ kN];exact s2.dc,s2.nd,s2.few⟩
  have al:O.length≠n:=Yo (zR s.at_);have am:O.length≠m:=Yo (zR s.dc);have ln:l≠n:=by have:=zR s.at_;have:=k01.len;omega
  have lm:l≠m:=by have:=zR s.dc;have:=k01.len;omega
  have ea3:=kn.at_ _ _ (by simp;exact⟨al,am⟩) ea;have el3:=kn.at_ _ _ (by simp;exact⟨ln,lm⟩) e2;have k03:KB [n,m] O (O2.set n (.ins "Shelf" (fsD (rlN R' ts') m))):=(KB.of_keep k02).trans kn;generalize O2.set n (.ins "Shelf" (fsD (rlN R' ts') m))=O3 at s3 ea3 el3 k03;have zl:(S.zip hs).length=S.length:=by rw[List.length_zip,hhs,Nat.min_self]
  have zk:∀x∈(S.zip hs).map (·.1),x∈S:=λx hx=>by
   obtain⟨p,hp,rfl⟩:=List.mem_map.mp hx;exact(Nv hp).1
  refine zYi (znj (zf rfl (.inr (.inr ⟨_,_,rfl,ea3,?_⟩))));rw[zSs];refine zNd (JRn n m O.length l (rlN R' ts') S hU (S.zip hs) O3) ⟨_,_,rfl,.refl,s3⟩ ?_ ?_ ?_
  ·rintro i J O4 ⟨x4,x5,rfl,k4,s4⟩;exact Tu.mpr (k4.at_ _ _ (by simp;exact⟨al,am⟩) ea3)
  ·rintro i x J O4 hx ⟨x4,x5,rfl,k4,s4⟩;rw[yk,Xp]at hx
   cases hp:S[i]? with
   |none=>rw[hp]at hx;cases hx
   |some key=>
    rw[hp]at hx;have hi:i<hs.length:=by rw[hhs];exact(List.getElem?_eq_some_iff.mp hp).1
    obtain⟨v,hv⟩:∃v,hs[i]?=some v:=⟨_,yE hi⟩
    have hz:(S.zip hs)[i]?=some (key,v):=by rw[List.getElem?_zip_eq_some];exact⟨hp,hv⟩
    simp only[xF,Xi,Nat.zero_add]at hx;subst hx;refine zyu (zkn (zmf (zkn (zmf (zBs ?_)))));unfold zMg;refine zfs (zu (zu (zf rfl (w_c (zPc rfl rfl (zf rfl (zPc (zz (k4.at_ _ _ (by simp;exact⟨ln,lm⟩) el3)) (z5A elay hv) ?_)))))));refine zfq (zRn (zf rfl ⟨n,_,.loc m,rfl,s4.at_,z9e _ m,?_⟩));have ht:(S.zip hs).take (i+1)=(S.zip hs).take i++[(key,v)]:=by rw[List.take_add_one,hz];rfl
    have ekv:=z0o hU ((S.zip hs).take i) (key,v);rw[<-ht]at ekv;refine zf rfl ⟨m,_,_,rfl,rfl,s4.dc,?_,_,_,rfl,k4.trans (KB.refl.set (.inl (by simp))),?_⟩
    ·have:=s4.few;unfold dkN;rw[Lu];omega
    ·rw[zSu];show Sh _ _ _ _ (zBe hU (List.take (i+1) (S.zip hs)));rw[ekv];refine s4.set (by rw[<-ekv];exact zEf _ _ s.nd) ?_;rw[<-ekv];refine yA (zvq (A:=S) s.nd (λx hx=>K.pm.mem_iff.mpr hx) λx hx=>?_) (by omega);obtain⟨y,hy,rfl⟩:=List.mem_map.mp hx;exact zk _ (List.mem_map.mpr ⟨y,List.mem_of_mem_take hy,rfl⟩)
  ·rintro J O4 ⟨x4,x5,rfl,k4,s4⟩;rw[Lu,List.length_zipIdx,<-zl,Ny]at s4;exact q' O4 hhs rt' (k03.trans k4) s4
structure WH(η:FH)(c:yj)(fs:Wq)(J:M.Loc)(O:Mem)(nx:M.Loc->Mem->Prop)(rt:Wr):Prop where
 ex:∃o,η c fs J O=some o/\zqC nx rt (λ_ _ _=>False) o
section
variable {p q:FS}{i:Nat}{tb:List (yj×Bool)}{η:FH}{c:yj}{fs:Wq}{J:M.Loc}{O:Mem}{nx:M.Loc->Mem->Prop}{rt:Wr}{bk ct:M.Loc->Mem->Prop}{ex:yj->Wq->Mem->Prop}
def zOy(h:WXs p J O nx rt (λc fs O'=>WH η c fs J O' nx rt)):WS (zss p η) J O nx rt bk ct:=by
 obtain⟨o,e,k⟩:=h
 cases o with
 |next J' O'=>exact⟨.next J' O',by simp only[zss,e],k⟩
 |ret d O'=>exact⟨.ret d O',by simp only[zss,e],k⟩
 |brk _ _=>exact k.elim
 |cont _ _=>exact k.elim
 |exc c fs O'=>
  obtain⟨o,e3,k⟩:=k
  cases o with
  |next J' O2=>exact⟨.next J' O2,by simp only[zss,e,e3],k⟩
  |ret d O2=>exact⟨.ret d O2,by simp only[zss,e,e3],k⟩
  |brk _ _=>exact k.elim
  |cont _ _=>exact k.elim
  |exc _ _ _=>exact k.elim
def zTC(ht:tb.lookup c=some true)(h:WS q (J.set i (some (.loc O.length))) (O++[.exc c fs]) (λJ' O'=>nx (J'.set i none) O') rt (λ_ _=>False) (λ_ _=>False)):WH (hAs i tb q η) c fs J O nx rt:=by
 obtain⟨o,e,k⟩:=h
 cases o with
 |next J' O2=>exact⟨.next _ O2,by simp only[hAs,ht,e,behind],k⟩
 |ret d O2=>exact⟨.ret d O2,by simp only[hAs,ht,e,behind],k⟩
 |brk _ _=>exact k.elim
 |cont _ _=>exact k.elim
 |exc _ _ _=>exact k.elim
def z5z(ht:tb.lookup c=some true)(h:WS q J O nx rt (λ_ _=>False) (λ_ _=>False)):WH (zgk tb q η) c fs J O nx rt:=by
 obtain⟨o,e,k⟩:=h
 cases o with
 |next J' O2=>exact⟨.next _ O2,by simp only[zgk,ht,e],k⟩
 |ret d O2=>exact⟨.ret d O2,by simp only[zgk,ht,e],k⟩
 |brk _ _=>exact k.elim
 |cont _ _=>exact k.elim
 |exc _ _ _=>exact k.elim
def zVy(ht:tb.lookup c=some false)(h:WH η c fs J O nx rt):WH (zgk tb q η) c fs J O nx rt:=by
 obtain⟨o,e,k⟩:=h;exact⟨o,by simp only[zgk,ht,e],k⟩
def zWw{F:FX}(h:WA G J O λds O1=>WXr F ds O1 (λd O'=>nx (J.set i (some d)) O') ex):WXs (zUv i F G) J O nx rt ex:=by
 obtain⟨ds,O1,e1,⟨d,O',e2,k⟩|⟨c,fs,O',e2,k⟩⟩:=h
 ·exact⟨.next _ O',by simp[e1,e2],k⟩
 ·exact⟨.exc c fs O',by simp[e1,e2],k⟩
end
structure tX(R:Qf)(ts hU:Qe):Prop where
 home:∀p∈hU,p.2∈ts.map (hmN R.length p.1)
 room:∀h,(hU.map λp=>some p.2).count (some h)<=R.getD h 0
def zBk:∀{hU:Qe},(hU.map (·.1)).Nodup->∀p∈hU,hU.lookup p.1=some p.2
 |[],_,p,hp=>absurd hp (by simp)
 |(j,v)::hU,nd,p,hp=>by
  rw[Nf,Nt]at nd;rw[Lz];rcases List.mem_cons.mp hp with rfl|hp
  ·rw[beq_self_eq_true]
  ·have:p.1≠j:=λe=>nd.1 (e▸List.mem_map.mpr ⟨p,hp,rfl⟩);rw[beq_eq_false_iff_ne.mpr this];exact zBk nd.2 p hp
def zXq:hU.lookup x=some h->(x,h)∈hU:=by
 induction hU with
 |nil=>intro e;cases e
 |cons p hU ih=>
  intro e;rw[Lz]at e
  by_cases hx:x=p.1
  ·subst hx;rw[beq_self_eq_true]at e;cases e;exact Nn
  ·rw[beq_eq_false_iff_ne.mpr hx]at e;exact Nm _ (ih e)
def z8q(nd:(hU.map (·.1)).Nodup)(h:A.Perm (hU.map (·.1))):(A.map λx=>hU.lookup x).Perm (hU.map λp=>some p.2):=by
 have e:(hU.map λp=>some p.2)=(hU.map (·.1)).map λx=>hU.lookup x:=by
  rw[Ng];exact Nd λp hp=>(zBk nd p hp).symm
 rw[e];exact h.map _
def tX.lay(r:tX R ts hU)(nd:(hU.map (·.1)).Nodup)(h:A.Perm (hU.map (·.1))):tW R (zlf R ts A) (A.map λx=>hU.lookup x) where
 len:=by rw[Lu,Lu]
 home:=λk v e=>by
  rw[yk]at e
  cases ea:A[k]? with
  |none=>rw[ea]at e;cases e
  |some x=>
   rw[ea]at e;have e':hU.lookup x=some v:=by simpa using e
   rw[Lo,yk,ea];exact r.home _ (zXq e')
 room:=λv=>by rw[(z8q nd h).count_eq];exact r.room v
def tX.of(r:tW R (zlf R ts A) (A.map λx=>hU.lookup x))(nd:(hU.map (·.1)).Nodup)(h:A.Perm (hU.map (·.1))):tX R ts hU where
 home:=λp hp=>by
  have hm:p.1∈A:=h.mem_iff.mpr (List.mem_map.mpr ⟨p,hp,rfl⟩);obtain⟨i,hi⟩:=List.mem_iff_getElem?.mp hm;have:=r.home i p.2 (by rw[yk,hi];simp[zBk nd p hp]);rw[Lo,yk,hi]at this;exact this
 room:=λv=>by rw[<-(z8q nd h).count_eq];exact r.room v
def zxx(row:Qe):∀hU:Qe,x∉row.map (·.1)->(zBe hU row).lookup x=hU.lookup x:=by
 induction row with
 |nil=>intro hU _;rfl
 |cons p row ih=>
  intro hU hx;rw[Nf,Nk,not_or]at hx;show(zBe (z5o hU p.1 p.2) row).lookup x=_;rw[ih _ hx.2,zyi,if_neg hx.1]
def zgv(nd:A.Nodup)(row:Qe):∀(hU:Qe),(∀p∈row,p.1<A.length)->z3e (A.map λx=>hU.lookup x) row=A.map λx=>(zBe hU (zDl A row)).lookup x:=by
 induction row with
 |nil=>intro hU _;rfl
 |cons p row ih=>
  intro hU hm;have hp:=hm p Nn
  have e:(A.map fun x=>hU.lookup x).set p.1 (some p.2)=A.map fun x=>(z5o hU (A.getD p.1 0) p.2).lookup x:=by
   refine Li λi=>?_;rw[yk]
   by_cases hi:i=p.1
   ·subst hi;rw[yO (by rw[Lu];exact hp),yE hp];simp[zyi,hp]
   ·rw[yQ (Yi hi),yk]
    cases ea:A[i]? with
    |none=>rfl
    |some x=>
     have hx:x≠A.getD p.1 0:=by
      intro ex;have h1:A[p.1]?=some x:=by rw[ex,Lo,yE hp];rfl
      have hi':=(List.getElem?_eq_some_iff.mp ea).1;exact hi ((List.getElem?_inj hi' nd).mp (by rw[ea,h1]))
     simp only[xF];rw[zyi,if_neg hx]
  show z3e ((A.map λx=>hU.lookup x).set p.1 (some p.2)) row=_;rw[e];exact ih _ λq hq=>hm q (Nm _ hq)
def zhq :∀{hs:Qf} (hU:Qe),A.Nodup->hs.length=A.length->(A.map λx=>(zBe hU (A.zip hs)).lookup x)=hs.map some:=by
 induction A with
 |nil=>intro hs hU _ hl;cases hs with
  |nil=>rfl
  |cons _ _=>cases hl
 |cons x A ih=>
  intro hs hU nd hl
  cases hs with
  |nil=>cases hl
  |cons v hs=>
   rw[Nt]at nd
   have hx:x∉(A.zip hs).map (·.1):=λhm=>by
    obtain⟨p,hp,e⟩:=List.mem_map.mp hm;exact nd.1 (e▸(Nv hp).1)
   have e2:=ih (hs:=hs) (z5o hU x v) nd.2 (by simpa using hl);show(zBe (z5o hU x v) (A.zip hs)).lookup x::(A.map λx_1=>(zBe (z5o hU x v) (A.zip hs)).lookup x_1)=some v::hs.map some;rw[e2,zxx _ _ hx,zyi,if_pos rfl]
def zipp{hs:Qf}(hl:hs.length=A.length):(A.zip hs).map (·.1)=A:=by
 rw[List.map_fst_zip (by omega)]
def zck{A':Qf}(nd:A.Nodup)(h:A'.Perm A)(f:zLg R (zlf R ts A)):zLg R (zlf R ts A'):=by
 obtain⟨hZ,r,hw⟩:=f;have hlay:hZ.length=A.length:=by rw[r.len,Lu]
 have elay:hZ=(hZ.map λo=>o.getD 0).map some:=by
  rw[Ng];refine Li λi=>?_;rw[yk]
  by_cases hi:i<hZ.length
  ·have:=hw i (by rw[<-r.len];exact hi);rw[Lo]at this
   cases e:hZ[i]? with
   |none=>rfl
   |some o=>
    rw[e]at this
    cases o with
    |none=>cases this
    |some v=>rfl
  ·rw[Yy (by omega)];rfl
 have hl:(hZ.map λo=>o.getD 0).length=A.length:=by rw[Lu,hlay]
 generalize (hZ.map λo=>o.getD 0)=hs at elay hl;have z:=zhq (hs:=hs) [] nd hl;have ndk:=zEf (A.zip hs) [] (by simp)
 have pm:A.Perm ((zBe [] (A.zip hs)).map (·.1)):=by
  refine(YY nd ndk).mpr λx=>?_;rw[zDj,zipp hl];simp
 have rs:tX R ts (zBe [] (A.zip hs)):=tX.of (A:=A) (by rw[z,<-elay];exact r) ndk pm;refine⟨_,rs.lay ndk (h.trans pm),λk hk=>?_⟩;rw[Lu]at hk;have hm:A'[k]∈(zBe [] (A.zip hs)).map (·.1):=(h.trans pm).mem_iff.mp (Lp hk);obtain⟨p,hp,e⟩:=List.mem_map.mp hm;rw[Lo,yk,yE hk];simp only[xF,Option.getD_some];rw[<-e,zBk ndk p hp];rfl
def tX.fits(r:tX R ts hU)(nd:(hU.map (·.1)).Nodup)(h:A.Perm (hU.map (·.1))):zLg R (zlf R ts A):=by
 refine⟨_,r.lay nd h,λk hk=>?_⟩;rw[Lu]at hk;have hm:A[k]∈hU.map (·.1):=h.mem_iff.mp (Lp hk);obtain⟨p,hp,e⟩:=List.mem_map.mp hm;rw[Lo,yk,yE hk];simp only[xF,Option.getD_some];rw[<-e,zBk nd p hp];rfl
section
variable {R:Qf}{ts hU row:Qe}{S:Qf}{k:Nat}
def zli(h0:hU.lookup k=none):(S.map λx=>hU.lookup x)++[none]=(S++[k]).map λx=>hU.lookup x:=by rw[Nc,Nf,Nh,h0]
def z0t(r:tX R ts hU)(nd:(hU.map (·.1)).Nodup)(K:Tj hU S)(h0:hU.lookup k=none)(c:Can R ts hU S k row):tX R ts (zBe hU (zDl (S++[k]) row)):=by
 have kA:(S++[k]).length=S.length+1:=by simp
 have hm:∀p∈row,p.1<(S++[k]).length:=λp hp=>by
  have:=(c.1.mem p hp).1;rw[Lu]at this;exact this
 have r1:tW R (zlf R ts (S++[k])) ((S++[k]).map λx=>hU.lookup x):=by
  have r0:=r.lay nd K.pm;rw[<-zli h0];refine⟨by simp,λi v e=>?_,λv=>?_⟩
  ·by_cases hi:i<S.length
   ·rw[yq (by simpa using hi)]at e;have:=r0.home i v e;rw[Lo,yk]at this ⊢;rw[yq hi];exact this
   ·rw[yS (by simp;omega)]at e;have:=No e;simp at this
  ·rw[List.count_append];have:=r0.room v;simp;exact this
 have r2:=zth r1 (by rw[<-zli h0];exact c.1) (by rw[<-zli h0];simp) (by rw[<-zli h0];exact c.2);rw[zgv (K.nd h0) row hU hm]at r2;refine tX.of r2 (zEf _ _ nd) ((YY (K.nd h0) (zEf _ _ nd)).mpr λx=>?_);rw[zKj K c.1];simp
def zrv(nd:(hU.map (·.1)).Nodup)(K:Tj hU S)(h0:hU.lookup k=none)(c:Can R ts hU S k row):(S++[k]).Perm ((zBe hU (zDl (S++[k]) row)).map (·.1)) :=
 (YY (K.nd h0) (zEf _ _ nd)).mpr λx=>by
  rw[zKj K c.1];simp
def z3v(w:Wb L R (zlf R ts (S++[k])))(f:sQ R ts hU S k V):¬zLg R (zlf R ts (S++[k])):=by
 obtain⟨T,sb,hm,sh,_⟩:=f;have hK:(zlf R ts (S++[k])).length=S.length+1:=by rw[Lu,Lq,Lx]
 refine z1q w (by rw[hK];exact sb) (zkm w sh (by rw[hK];simp) hm (by simp))
end
def zWt(r:D)(m:Nat)(x:yj)(h1:(x == "kept_rule")=false)(h2:(x == "nest_of")=false):(fsD r m).lookup x=none:=by
 simp only[fsD,Lz,h1,h2,Na]
def zLv(r:D)(m:Nat):(fsD r m).lookup ("put":yj)=none:=zWt r m _ (by decide +kernel) (by decide +kernel)
def zQv(r:D)(m:Nat):(fsD r m).lookup ("out":yj)=none:=zWt r m _ (by decide +kernel) (by decide +kernel)
def zvr(r:D)(m:Nat):(fsD r m).lookup ("renew":yj)=none:=zWt r m _ (by decide +kernel) (by decide +kernel)
def z2p(h:x∈hU.map (·.1)):(hU.lookup x).isSome=true:=by
 cases e:hU.lookup x with
 |some v=>rfl
 |none=>
  rw[List.lookup_eq_none_iff]at e;obtain⟨p,hp,rfl⟩:=List.mem_map.mp h;exact absurd (e p hp) (by simp)
section
variable {O:Mem}{R:Qf}{ts hU:Qe}{S:Qf}{k:Nat}{Q:Wr}
def zOp{hs:Qf}(nd:(hU.map (·.1)).Nodup)(K:Tj hU S)(hl:hs.length=S.length)(rt:tW R' (zlf R' ts' S) (hs.map some)):tX R' ts' (zBe hU (S.zip hs))/\S.Perm ((zBe hU (S.zip hs)).map (·.1)):=by
 have ndS:S.Nodup:=K.pw.imp λh=>yC h
 have pm:S.Perm ((zBe hU (S.zip hs)).map (·.1)):=by
  refine(YY ndS (zEf _ _ nd)).mpr λx=>?_;rw[zDj,zipp hl];exact⟨λh =>.inr h,λh=>h.elim (λh=>K.pm.mem_iff.mpr h) id⟩
 exact⟨tX.of (A:=S) (by rw[zhq hU ndS hl];exact rt) (zEf _ _ nd) pm,pm⟩
def zCs(r:tX R ts hU):tX R ts (zdv hU k) where
 home:=λp hp=>r.home p (List.mem_filter.mp hp).1
 room:=λh=>yA ((List.filter_sublist.map _).count_le _) (r.room h)
end
section
open PySem.Builtin PySem.Builtin.Str
def zml{b:yj}(h:a.cps.toList=b.cps.toList):a=b:=Str.ext' (Array.toList_inj.mp h)
def zmd(a b:yj):(a++b).cps.toList=a.cps.toList++b.cps.toList:=by
 rw[Str.cps_append,Array.toList_append]
def z7(a:yj):a.length=a.cps.toList.length:=(xo ..).symm
def zPu{x:yj}{c:Nat}(hy:y.cps.toList=c::y'){k:Nat}(h:StrLaws.At x y x.length k):x.cps.toList[k]?=some c:=by
 have h2:=h.2;rw[StrLaws.subAt_eq,hy,z7 y,hy]at h2;have h3:=eq_of_beq h2;have h4:=congrArg (λl=>l[0]?) h3;simpa using h4
def zSw{x:yj}{r:Qf}(hk:k<=x.length)(h:x.cps.toList.drop k=y.cps.toList++r):StrLaws.At x y x.length k:=by
 refine⟨?_,?_⟩
 ·have:=congrArg xS h;rw[Ls,Lq,<-z7,<-z7]at this;omega
 ·rw[StrLaws.subAt_eq,h,z7 y,List.take_left];exact beq_self_eq_true _
def zoq{x:yj}{c:Nat}{p r:Qf}(hy:y.cps.toList=c::y'){a d:Nat}(hd:x.cps.toList.drop a=p++r)(hp:c∉p)(h:StrLaws.At x y x.length d)(h1:a<=d):a+p.length<=d:=by
 refine Xs λh2=>hp ?_;have e:=zPu hy h
 have e2:(x.cps.toList.drop a)[d-a]?=some c:=by
  rw[List.getElem?_drop,show a+(d-a)=d by omega];exact e
 rw[hd,yq (by omega)]at e2;exact No e2
def zCh(y p q:yj)(r:Qx):(xJ y (p::q::r)).cps.toList=p.cps.toList++(y.cps.toList++(xJ y (q::r)).cps.toList):=by
 show(p++y++xJ y (q::r)).cps.toList=_;rw[zmd,zmd,Lf]
def z4l(x y:yj){c:Nat}{y':Qf}(hy:y.cps.toList=c::y'):∀(parts:Qx)(a f:Nat)(cuts:Qf),parts≠[]->(∀p∈parts,c∉p.cps.toList)->a<=x.length ->
 x.cps.toList.drop a=(xJ y parts).cps.toList->StrLaws.ChainG x y x.length a cuts f->(∀k,f<=k->¬StrLaws.At x y x.length k)->Xj x y.length a cuts=parts
 |[],_,_,_,h,_,_,_,_,_=>absurd rfl h
 |[p],a,f,cuts,_,hc,ha,hd,hG,hn=>by
  have hd:x.cps.toList.drop a=p.cps.toList:=hd
  have kM:x.length=a+p.length:=by
   have:=congrArg xS hd;rw[Ls,<-z7,<-z7]at this;omega
  cases cuts with
  |nil=>
   show[strSub x a x.length]=[p]
   congr 1
   apply zml;rw[StrLaws.strSub_toList,hd,List.take_of_length_le];rw[<-z7];omega
  |cons d r=>
   have h1:=zoq hy (r:=[]) (by rw[hd,Lg]) (hc p (by simp)) hG.2.1 hG.1;have h2:=hG.2.1.1;have h3:1<=y.length:=by rw[z7,hy];simp
   rw[<-z7]at h1;omega
 |p::q::r,a,f,cuts,_,hc,ha,hd,hG,hn=>by
  rw[zCh]at hd
  have e1:x.cps.toList.drop (a+p.length)=y.cps.toList++(xJ y (q::r)).cps.toList:=by
   rw[z7 p,<-List.drop_drop,hd,List.drop_left]
  have hal:a+p.length<=x.length:=by
   have:=congrArg xS hd;rw[Ls,Lq,<-z7,<-z7]at this;omega
  have hA:=zSw hal e1;have hl:=hA.1
  cases cuts with
  |nil=>
   have e:f=a:=hG;exact absurd hA (hn _ (by omega))
  |cons d r'=>
   obtain⟨g1,g2,g3,g4⟩:=hG;have h1:=zoq hy hd (hc p (by simp)) g2 g1;rw[<-z7]at h1
   have h2:d=a+p.length:=by
    refine Nat.le_antisymm (Xs λh=>g3 (a+p.length) (by omega) h hA) h1
   subst h2;show strSub x a (a+p.length)::Xj x y.length (a+p.length+y.length) r'=_
   congr 1
   ·apply zml;rw[StrLaws.strSub_toList,Nat.add_sub_cancel_left,hd,z7 p,List.take_left]
   ·refine z4l x y hy (q::r) _ f r' (by simp) (λz hz=>hc z (Nm _ hz)) hl ?_ g4 hn;rw[z7 y,<-List.drop_drop,e1,List.drop_left]
def z1v(h:y.cps.all (· < 256)=true):xC y=1:=by
 unfold xC;rw[if_pos h]
def z7v(x:yj):1<=xC x:=by
 unfold xC
 split
 ·exact yo _
 ·split<;>omega
def zhf{c:Nat}(hy:y.cps.toList=c::y')(hk:y.cps.all (· < 256)=true){parts:Qx}(h0:parts≠[])(hc:∀p∈parts,c∉p.cps.toList):xQ (YX y parts) y=parts:=by
 show xQ (glued y parts) y=parts;rw[StrLaws.glued_eq_join];have hyl:1<=y.length:=by rw[z7,hy];simp
 obtain⟨f,hG,hn⟩:=StrLaws.occ_tight (xJ y parts) y hyl;have key:=z4l (xJ y parts) y hy parts 0 f _ h0 hc (Ys _) rfl hG hn
 have one:Xj (xJ y parts) y.length 0 []=[xJ y parts]:=by
  show[strSub _ 0 _]=_;rw[StrLaws.sub_whole]
 unfold xQ
 split
 ·rename_i h
  rw[Bool.or_eq_true,decide_eq_true_eq,decide_eq_true_eq]at h
  have h1:(xJ y parts).length<y.length:=by
   rcases h with h|h
   ·exact h
   ·have:=z7v (xJ y parts);rw[z1v hk]at h;omega
  match parts,h0 with
  |[p],_=>rfl
  |p::q::r,_=>
   have:=z7 (xJ y (p::q::r));rw[zCh,Lq,Lq,<-z7,<-z7]at this;omega
 ·split
  ·rename_i h
   rw[List.isEmpty_iff]at h;rw[h,one]at key;exact key
  ·rw[StrLaws.partsBetween_eq];exact key
end
def dg(n:Nat):Qf:=(Nat.toDigits 10 n).map Char.toNat
def zDr(h:n<10):dg n=[48+n]:=by
 unfold dg;rw[Nat.toDigits_of_lt_base h];have:∀d:Nat,d<10->(Nat.digitChar d).toNat=48+d:=by decide
 show[(Nat.digitChar n).toNat]=_;rw[this n h]
def z7u(h:10<=n):dg n=dg (n / 10)++[48+n%10]:=by
 have hm:n%10<10:=Nat.mod_lt n (by decide);have t:Nat.toDigits 10 (n / 10)++Nat.toDigits 10 (n%10)=Nat.toDigits 10 (10*(n / 10)+n%10):=Nat.toDigits_append_toDigits (by decide) (by omega) hm;rw[Nat.div_add_mod]at t;rw[<-zDr hm];unfold dg;rw[<-t,Nc]
def zsg :∀(n c:Nat),c∈dg n->48<=c/\c<=57:=λn=>by
 induction n using Nat.strongRecOn with
 |_ n ih=>
  intro c hc
  by_cases h:n<10
  ·rw[zDr h]at hc;have:=List.mem_singleton.mp hc;omega
  ·rw[z7u (by omega)]at hc;rcases List.mem_append.mp hc with hc|hc
   ·exact ih (n / 10) (by omega) c hc
   ·have:=List.mem_singleton.mp hc;omega
def zAr(n:Nat):dg n≠[]:=by
 by_cases h:n<10
 ·rw[zDr h];simp
 ·rw[z7u (by omega)];simp
def zCu :∀n:Nat,0<n->(dg n)[0]?≠some 48:=λn=>by
 induction n using Nat.strongRecOn with
 |_ n ih=>
  intro h0
  by_cases h:n<10
  ·rw[zDr h];simp;omega
  ·rw[z7u (by omega),yq (List.length_pos_iff.mpr (zAr _))];exact ih (n / 10) (by omega) (by omega)
def z8t:∀(k n:Nat),n<10^(k+1)->(dg n).length<=k+1
 |0,n,h=>by rw[zDr (by simpa using h)];simp
 |k+1,n,h=>by
  by_cases h1:n<10
  ·rw[zDr h1];simp
  ·rw[z7u (by omega),Lq];have:=z8t k (n / 10) (by rw[Nat.pow_succ]at h;omega);simp;omega
abbrev num(n:Nat):yj:=YV (toString (n:Int))
def zxc(n:Nat):(num n).cps.toList=dg n:=W.KIN.signs_num n
def zrn(h:n<100000):1<=(num n).length/\(num n).length<=5:=by
 rw[z7,zxc];exact⟨List.length_pos_iff.mpr (zAr n),z8t 4 n h⟩
def zwp(h:n<100000):(n:Int).natAbs.log2<1920:=by
 show n.log2<1920
 by_cases h0:n=0
 ·subst h0;decide
 ·exact Nat.lt_trans ((Nat.log2_lt h0).mpr (show n<2^17 by omega)) (by decide)
def zKu(n:Nat):(num n).cps.all (· < 128)=true:=by
 rw[<-Array.all_toList,Lb];intro c hc;rw[zxc]at hc;have:=zsg n c hc;exact decide_eq_true (by omega)
def num_reads(h:n<100000):intText? (num n)=some (n:Int):=W.KIN.num_reads (n:=(n:Int)) (by omega) (by omega)
def zPw{c:Nat}(h:48<=c/\c<=57):(PySem.Builtin.Str.occurrences "0123456789" ⟨#[c]⟩ 0 ("0123456789":yj).length 1).isEmpty=false:=by
 have e:=StrLaws.found_one "0123456789" c;have h2:∀d:Nat,d<10->48+d∈("0123456789":yj).cps.toList:=by decide +kernel
 rw[decide_eq_true (by have:=h2 (c-48) (by omega);rwa [show 48+(c-48)=c by omega]at this)]at e;simpa using e
def fit{B:Nat}{ys:Qx}(h:∀y∈ys,y.length<=B)(hB:B<=1000)(hl:ys.length<=100)(hz:z.length<=10):(ys.map (·.length)).sum+ys.length*z.length<=1000000:=by
 have h1:=StrLaws.sumLen_le ys h;have h2:=Nat.mul_le_mul hl hB;have h3:=Nat.mul_le_mul hl hz;omega
def zqh(z:yj)(ys:Qx):YX z ys=xJ z ys:=StrLaws.glued_eq_join z ys
def zge{B:Nat}{ys:Qx}(h:∀y∈ys,y.length<=B)(hB:B<=1000)(hl:ys.length<=100)(hz:z.length<=10):(YX z ys).length<=ys.length*B+ys.length*z.length:=by
 have h1:=StrLaws.sumLen_le ys h;have h2:=StrLaws.join_length_le z ys;rw[zqh];omega
def z6j{z:yj}{c:Nat}:∀{ys:Qx},c∈(xJ z ys).cps.toList->c∈z.cps.toList\/∃y∈ys,c∈y.cps.toList
 |[],h=>by simp[xJ,Xr]at h
 |[y],h =>.inr ⟨y,by simp,h⟩
 |y::y2::r,h=>by
  rw[zCh,Ni,Ni]at h;rcases h with h|h|h
  ·exact .inr ⟨y,by simp,h⟩
  ·exact .inl h
  ·rcases z6j h with h|⟨p,hp,h⟩
   ·exact .inl h
   ·exact .inr ⟨p,Nm _ hp,h⟩
def z8n{c:Nat}(h:c<48\/57<c){ns:Qf}:∀p∈ns.map num,c∉p.cps.toList:=λp hp hc=>by
 obtain⟨n,_,rfl⟩:=List.mem_map.mp hp;rw[zxc]at hc;have:=zsg n c hc;omega
def zgm(hn:∀n∈ns,n<100000):∀y∈ns.map num,y.length<=5:=λy hy=>by
 obtain⟨n,h,rfl⟩:=List.mem_map.mp hy;exact(zrn (hn n h)).2
abbrev zDb(ns:Qf):yj:=YX "," (ns.map num)
def zZk(hl:ns.length<=10)(hn:∀n∈ns,n<100000):(zDb ns).length<=60:=by
 have:=zge (z:=",") (zgm hn) (by decide) (by rw[Lu];omega) (by decide);rw[Lu]at this;have h1:(",":yj).length=1:=rfl;rw[h1]at this;exact yA this (by omega)
def zKo{c:Nat}(h:c∈(zDb ns).cps.toList):c=44\/(48<=c/\c<=57):=by
 rw[zDb,zqh]at h;rcases z6j h with h|⟨y,hy,h⟩
 ·have e:(",":yj).cps.toList=[44]:=by decide +kernel
  rw[e]at h;exact .inl (List.mem_singleton.mp h)
 ·obtain⟨n,_,rfl⟩:=List.mem_map.mp hy;rw[zxc]at h;exact .inr (zsg n c h)
def zOr(h:n<100000)(q:∀O',tm O O'->Q (.int n) O'):WF zxb [.str (num n)] O Q:=by
 obtain⟨h1,h2⟩:=zrn h;refine zHb rfl ?_;show WS zuc [some (.str (num n))] O _ _ _ _;unfold zuc;refine zB (zih (zzj (zL (zu (zt (ze (zf rfl (zr (zYl (by omega) (w_c (zNo ⟨_,rfl,λ_=>?_,λhb=>?_⟩)))))))))))
 rotate_left
 ·have:=eq_of_beq hb;omega
 refine zzj (zL (zu (zt (ze (zf rfl (zr (zYl (by omega) (w_c (z6i ⟨_,rfl,λ_=>?_,λhb=>?_⟩)))))))))
 rotate_left
 ·have:=of_decide_eq_true hb;omega
 refine zL (zt (ze (zQj (z4w (zf rfl ⟨_,rfl,zKu n,zKb (by unfold ztk;rw[Lu,<-z7];omega),?_⟩)))));refine zic (λ(c:Nat)=>D.str ⟨#[c]⟩) (num n).cps.toList (λ_ =>.bl false) (λ_ _=>rfl) (λc hc O' kp=>?_) (λO' kp=>?_)
 ·refine zmf ?_;unfold zse;rw[zxc]at hc;exact zu (zf rfl (w_c (z4q ⟨by rw[zPw (zsg n c hc)],kp,kp⟩)))
 refine zr (zhA (bs:=(num n).cps.toList.map λ_=>false) (by rw[zq,Ng];rfl) ⟨_,rfl,λhb=>?_,λ_=>zub ?_⟩)
 ·rw[Le]at hb;simp at hb
 have k1:tm O (O'++[tu.lst ((num n).cps.toList.map λ_=>D.bl false)]):=kp.to;generalize O'++[tu.lst ((num n).cps.toList.map λ_=>D.bl false)]=O1 at k1
 have fin:WS (zbc (zw z8p (zi (zp 0) zC))) [some (.str (num n))] O1 (λ_ O'=>Q .non O') Q (λ_ _=>False) (λ_ _=>False) :=
  zLb (zt (ze (zf rfl (zr (zex (num_reads h) (by omega) (q _ k1))))))
 obtain⟨c0,r0,hd⟩:∃c r,dg n=c::r:=by
  cases e:dg n with
  |nil=>exact absurd e (zAr n)
  |cons c r=>exact⟨c,r,rfl⟩
 have hat:atI (num n).cps.toList ((0:Nat):Int)=some c0:=zed (by rw[zxc,hd];rfl);have hlow:48<=c0/\c0<=57:=zsg n c0 (by rw[hd];simp);refine zB (zih (zNq (zL (zu (zu (zf rfl (w_c (zGw (by omega) hat (w_c (zYe ⟨_,rfl,λhb=>?_,λ_=>⟨λhb=>(by cases hb),λ_=>zub fin⟩⟩ (by show(#[c0]:Array Nat).all _=true;simp;omega) (by decide +kernel)))))))))));have e0:(⟨#[c0]⟩:yj)="0":=eq_of_beq (show((⟨#[c0]⟩:yj)==("0":yj))=true from hb);have e1:("0":yj).cps.toList=[48]:=by decide +kernel
 have e2:c0=48:=by
  have:=congrArg (λs:yj=>s.cps.toList) e0;dsimp only at this;rw[e1]at this;simpa using this
 have hn0:n=0:=by
  refine Nat.eq_zero_of_not_pos λhp=>zCu n hp ?_;rw[hd,e2];rfl
 have hl1:(num n).length=1:=by rw[z7,zxc,hn0];rfl
 exact zL (zu (zt (ze (zf rfl (zr (zYl (by omega) (w_c (z6i ⟨_,rfl,λhb=>by have:=of_decide_eq_true hb;omega,λ_=>zub fin⟩))))))))
def z8i{c:Nat}(hy:y.cps.toList=c::y'):1<=y.length:=by rw[z7,hy];simp
def comma:(",":yj).cps.toList=[44]:=by decide +kernel
def zpl(h0:ns≠[])(hl:ns.length<=10)(hn:∀n∈ns,n<100000)(q:∀O',tm O O'->Q (tn ns) O'):WF zzc [.str (zDb ns)] O Q:=by
 have kA:=zZk hl hn
 have hs:(xQ (zDb ns) ",").map D.str=ns.map λn=>D.str (num n):=by
  rw[zhf comma (by decide +kernel) (by simpa using h0) (z8n (by omega)),Ng];rfl
 refine zHb rfl ?_;show WS ztd [some (.str (zDb ns))] O _ _ _ _;unfold ztd;refine zLb (zt (ze (zQj (zOd (zMd (zf rfl ⟨_,rfl,ze (w_c (zr (zRk hs (by omega) (z8i comma) (.inr (.inr ⟨_,_,rfl,zq,zKb (by rw[Lu];omega),?_⟩)))))⟩))))));refine zic (λn=>D.str (num n)) ns (λn =>.int n) (λO' k=>zrb zq k) (λn hn' O' kp=>?_) (λO' kp=>?_)
 ·refine zmf ?_;unfold zmg;exact zt (ze (zf rfl (zr (zOr (hn n hn') λO'' k=>⟨rfl,kp.trans k,kp⟩))))
 ·exact zr (zwg (zz zq) (q _ (tm.app.trans kp.to)))
def zmo(q:Q .non O):WF zIe [.str z] O Q:=by
 refine zHb rfl ?_;show WS zDe [some (.str z)] O _ _ _ _;unfold zDe;exact zih (znk (zL (zt (ze (zf rfl (ze (w_c (zr (zLw ⟨_,rfl,λh=>(by cases h),λ_=>zub q⟩)))))))))
def z1m{a b:Int}(ha:a<=ds.length)(hb:(ds.length:Int)<=b)(q:Q (.bl true) O):WF zpc [.tup ds,.int a,.int b] O Q :=
 ⟨_,_,by simp[zpc,zSi,z4i,ha,hb]<;>rfl,q⟩
def zcv{m:Int}(h:(n:Int)<=m)(q:Q (.bl true) O):WF zpe [.int n,.int m] O Q :=
 ⟨_,_,by simp[zpe,zvh,zsh,h]<;>rfl,q⟩
def zxq{α:Type}(l:List α):(l.map λ_=>true).all (λb=>b)=true:=by simp
def zHk{a b m:Int}(ha:a<=ns.length)(hb:(ns.length:Int)<=b)(hl:ns.length<=1000)(hn:∀n∈ns,(n:Int)<=m)(q:∀O',tm O O'->Q (.bl true) O'):WF zzb [tn ns,.int a,.int b,.int m] O Q:=by
 refine zHb rfl ?_;show WS znc [some (tn ns),some (.int a),some (.int b),some (.int m)] O _ _ _ _;unfold znc;refine zLb (z9s (zt (ze (zf rfl (ze (zf rfl (ze (zf rfl (zr (z1m (by rw[Lu];exact ha) (by rw[Lu];exact hb) ⟨_,rfl,λ_=>?_,λh=>(by cases h)⟩))))))))));refine zt (ze (zQj (zOd (zf rfl (.inl ⟨_,rfl,zKb (by rw[Lu];omega),?_⟩)))));refine zic (λ(h:Nat)=>D.int h) ns (λ_ =>.bl true) (λ_ _=>rfl) (λn hn' O' kp=>?_) (λO' kp=>?_)
 ·refine zmf ?_;unfold zue;exact zt (ze (zf rfl (ze (zf rfl (zr (zcv (hn n hn') ⟨rfl,kp,kp⟩))))))
 ·exact zr (zqA (bs:=ns.map λ_=>true) (by rw[zq,Ng];rfl) (by rw[zxq];exact q _ kp.to))
def z0p(h:1<=ns.length/\ns.length<=10)(hn:∀n∈ns,n<=9)(q:∀O',tm O O'->Q (.bl true) O'):WF zAf [tn ns] O Q:=by
 refine zHb rfl ?_;show WS zYf [some (tn ns)] O _ _ _ _;unfold zYf;exact zLb (zt (ze (zf rfl (ze (w_c (ze (w_c (ze (w_c (zr (zHk (by omega) (by omega) (by omega) (λn hn'=>by have:=hn n hn';omega) q)))))))))))
def zTe(h:n<10^60):1<=(num n).length/\(num n).length<=60:=by
 rw[z7,zxc];exact⟨List.length_pos_iff.mpr (zAr n),z8t 59 n h⟩
def z1g(h:n<10^60):(n:Int).natAbs.log2<1920:=by
 show n.log2<1920
 by_cases h0:n=0
 ·subst h0;decide
 ·exact Nat.lt_trans ((Nat.log2_lt h0).mpr (show n<2^200 from yv h (by decide))) (by decide)
def z2r(h:n<10^60):intText? (num n)=some (n:Int):=by
 obtain⟨_,hl⟩:=zTe h
 have hd:PySem.NumText.AllDigits (num n).cps.toList:=by
  intro c hc;rw[zxc]at hc;have:=zsg n c hc;exact⟨this.1,this.2⟩
 have kN:(num n).cps.toList≠[]:=by
  rw[zxc];exact zAr n
 have e:=PySem.intText_digits hd kN (yA hl (by decide));rw[W.KIN.signs_num,W.KIN.val_back]at e;exact e
def zdk(h:n<10^60)(q:∀O',tm O O'->Q (.int n) O'):WF zxb [.str (num n)] O Q:=by
 obtain⟨h1,h2⟩:=zTe h;refine zHb rfl ?_;show WS zuc [some (.str (num n))] O _ _ _ _;unfold zuc;refine zB (zih (zzj (zL (zu (zt (ze (zf rfl (zr (zYl (by omega) (w_c (zNo ⟨_,rfl,λ_=>?_,λhb=>?_⟩)))))))))))
 rotate_left
 ·have:=eq_of_beq hb;omega
 refine zzj (zL (zu (zt (ze (zf rfl (zr (zYl (by omega) (w_c (z6i ⟨_,rfl,λ_=>?_,λhb=>?_⟩)))))))))
 rotate_left
 ·have:=of_decide_eq_true hb;omega
 refine zL (zt (ze (zQj (z4w (zf rfl ⟨_,rfl,zKu n,zKb (by unfold ztk;rw[Lu,<-z7];omega),?_⟩)))));refine zic (λ(c:Nat)=>D.str ⟨#[c]⟩) (num n).cps.toList (λ_ =>.bl false) (λ_ _=>rfl) (λc hc O' kp=>?_) (λO' kp=>?_)
 ·refine zmf ?_;unfold zse;rw[zxc]at hc;exact zu (zf rfl (w_c (z4q ⟨by rw[zPw (zsg n c hc)],kp,kp⟩)))
 refine zr (zhA (bs:=(num n).cps.toList.map λ_=>false) (by rw[zq,Ng];rfl) ⟨_,rfl,λhb=>?_,λ_=>zub ?_⟩)
 ·rw[Le]at hb;simp at hb
 have k1:tm O (O'++[tu.lst ((num n).cps.toList.map λ_=>D.bl false)]):=kp.to;generalize O'++[tu.lst ((num n).cps.toList.map λ_=>D.bl false)]=O1 at k1
 have fin:WS (zbc (zw z8p (zi (zp 0) zC))) [some (.str (num n))] O1 (λ_ O'=>Q .non O') Q (λ_ _=>False) (λ_ _=>False) :=
  zLb (zt (ze (zf rfl (zr (zex (z2r h) (by omega) (q _ k1))))))
 obtain⟨c0,r0,hd⟩:∃c r,dg n=c::r:=by
  cases e:dg n with
  |nil=>exact absurd e (zAr n)
  |cons c r=>exact⟨c,r,rfl⟩
 have hat:atI (num n).cps.toList ((0:Nat):Int)=some c0:=zed (by rw[zxc,hd];rfl);have hlow:48<=c0/\c0<=57:=zsg n c0 (by rw[hd];simp);refine zB (zih (zNq (zL (zu (zu (zf rfl (w_c (zGw (by omega) hat (w_c (zYe ⟨_,rfl,λhb=>?_,λ_=>⟨λhb=>(by cases hb),λ_=>zub fin⟩⟩ (by show(#[c0]:Array Nat).all _=true;simp;omega) (by decide +kernel)))))))))));have e0:(⟨#[c0]⟩:yj)="0":=eq_of_beq (show((⟨#[c0]⟩:yj)==("0":yj))=true from hb);have e1:("0":yj).cps.toList=[48]:=by decide +kernel
 have e2:c0=48:=by
  have:=congrArg (λs:yj=>s.cps.toList) e0;dsimp only at this;rw[e1]at this;simpa using this
 have hn0:n=0:=by
  refine Nat.eq_zero_of_not_pos λhp=>zCu n hp ?_;rw[hd,e2];rfl
 have hl1:(num n).length=1:=by rw[z7,zxc,hn0];rfl
 exact zL (zu (zt (ze (zf rfl (zr (zYl (by omega) (w_c (z6i ⟨_,rfl,λhb=>by have:=of_decide_eq_true hb;omega,λ_=>zub fin⟩))))))))
abbrev lt(h:Nat):yj:=⟨#[97+h]⟩
def blank:(" ":yj).cps.toList=[32]:=by decide +kernel
def zfp(h:∀c∈s.cps.toList,c<128):Yw s=true:=by
 show s.cps.all _=true;rw[<-Array.all_toList,Lb];exact λc hc=>decide_eq_true (Nat.lt_trans (h c hc) (by decide))
def zRj(h:Yw s=true)(q:Q (.bl false) O):W2 gNe (.str s) (.str s) O Q:=zGB (zSg h) (zSg h) q
def zKw :∀r:Nat,r<10->atI ("abcdefghijklmnopqrstuvwxyz":yj).cps.toList ((r:Nat):Int)=some (97+r):=by decide +kernel
structure Rt(R:Qf)(W:Qd):Prop where
 rl:1<=R.length/\R.length<=10
 rn:∀r∈R,r<=9
 wl:2<=W.length/\W.length<=3
 wn:∀k∈W,k.length=2/\∀n∈k,n<=10006
def zCx{p:Nat->Prop}:∀ds:Wm,(∀d∈ds,∃i:Nat,d=.int i/\p i)->∃ns:Qf,ds=nat ns/\∀r∈ns,p r:=λds=>by
 induction ds with
 |nil=>exact λ_=>⟨[],rfl,by simp⟩
 |cons d ds ih=>
  intro h;obtain⟨ns,rfl,q⟩:=ih λx hx=>h x (Nm _ hx);obtain⟨i,rfl,hi⟩:=h d Nn;exact⟨i::ns,rfl,by simp;exact⟨hi,q⟩⟩
def zAd{s:Nat}(h:Pen O l B)(hB:B<=1000000000)(h0:0<s)(h1:s<1000000)
 (q:∀(v:Nat) O',v<s->KB [l] O O'->Pen O' l (B+1)->Q (.int v) O'):WF zM [.loc l,.int (s:Nat)] O Q :=
 z0s h hB (by omega) (by omega) λv O' a b k _ p=>by
  have:=q v.toNat O' (by omega) k p
  rwa [Int.toNat_of_nonneg a]at this
abbrev zAl(R:Qf)(W:Qd):yj:=YX " " (zDb R::W.map zDb)
def Rt.num{W:Qd}(w:Rt R W):∀r∈R,r<100000:=λr h=>by have:=w.rn r h;omega
def Rt.way{W:Qd}(w:Rt R W){k:Qf}(hk:k∈W):∀r∈k,r<100000:=λr h=>by have:=(w.wn k hk).2 r h;omega
def Rt.short{W:Qd}(w:Rt R W):∀y∈zDb R::W.map zDb,y.length<=60:=λy hy=>by
 rcases List.mem_cons.mp hy with rfl|hy
 ·exact zZk w.rl.2 w.num
 ·obtain⟨k,hk,rfl⟩:=List.mem_map.mp hy;exact zZk (by rw[(w.wn k hk).1];decide) (w.way hk)
def Rt.fit{W:Qd}(w:Rt R W):((zDb R::W.map zDb).map (·.length)).sum+(zDb R::W.map zDb).length*(" ":yj).length<=1000000 :=
 P.fit w.short (by decide) (by have:=w.wl;rw[Lr,Lu];omega) (by decide)
def Rt.len{W:Qd}(w:Rt R W):(zAl R W).length<=1000000:=by
 have h1:=w.wl;have h2:=zge (z:=" ") w.short (by decide) (by rw[Lr,Lu];omega) (by decide);rw[Lr,Lu]at h2;have h3:(" ":yj).length=1:=rfl;rw[h3]at h2;exact yA h2 (by omega)
def zxr{W:Qd}{p:yj}(hp:p∈zDb R::W.map zDb){c:Nat}(hc:c∈p.cps.toList):c=44\/(48<=c/\c<=57):=by
 rcases List.mem_cons.mp hp with rfl|hp
 ·exact zKo hc
 ·obtain⟨k,_,rfl⟩:=List.mem_map.mp hp;exact zKo hc
def zfj{W:Qd}:∀p∈zDb R::W.map zDb,32∉p.cps.toList:=λp hp hc=>by
 have:=zxr hp hc;omega
def z8r{W:Qd}(w:Rt R W)(q:∀O',tm O O'->Q (.bl true) O'):WF z2g [.tup (W.map tn)] O Q:=by
 have hwl:=w.wl;refine zHb rfl ?_;show WS z7g [some (.tup (W.map tn))] O _ _ _ _;unfold z7g;refine zLb (z9s (zt (ze (zf rfl (ze (w_c (ze (w_c (zr (z1m (by rw[Lu];omega) (by rw[Lu];omega) ⟨_,rfl,λ_=>?_,λh=>(by cases h)⟩))))))))));refine zt (ze (zQj (zOd (zf rfl (.inl ⟨_,rfl,zKb (by rw[Lu];omega),?_⟩)))));refine zic tn W (λ_ =>.bl true) (λ_ _=>rfl) (λk hk O' kp=>?_) (λO' kp=>?_)
 ·obtain⟨hk2,hkn⟩:=w.wn k hk;refine zmf ?_;unfold z9i;exact zt (ze (zf rfl (ze (w_c (ze (w_c (ze (zu (w_c (w_c (z7s (zr (zHk (by omega) (by omega) (by omega) (λn hn=>by have:=hkn n hn;omega) λO2 k2=>⟨rfl,kp.trans k2,kp⟩)))))))))))))
 ·exact zr (zqA (bs:=W.map λ_=>true) (by rw[zq,Ng];rfl) (by rw[zxq];exact q _ kp.to))
def zOu{W:Qd}(w:Rt R W)(q:∀O',tm O O'->Q (.bl true) O'):WF z1h [wn R W] O Q:=by
 refine zHb rfl ?_;show WS z2h [some (wn R W)] O _ _ _ _;unfold z2h;refine zLb (z9s (zt (ze (zf rfl (ze (w_c (ze (w_c (zr (z1m (by simp) (by simp) ⟨_,rfl,λ_=>?_,λh=>(by cases h)⟩))))))))));refine z9s (zt (ze (zu (zf rfl (w_c (zkp (zr (z0p w.rl w.rn λO1 k1=>⟨_,rfl,λ_=>?_,λh=>(by cases h)⟩))))))));exact zt (ze (zu (zf rfl (w_c (zUk (zr (z8r w λO2 k2=>q _ (k1.trans k2))))))))
def zsk{W:Qd}(w:Rt R W)(q:∀O',tm O O'->Q (wn R W) O'):WF zpd [.str (zAl R W)] O Q:=by
 have kZ:=w.rl;have hwl:=w.wl
 have hs:(xQ (zAl R W) " ").map D.str=D.str (zDb R)::W.map λk=>D.str (zDb k):=by
  rw[zhf blank (by decide +kernel) (by simp) zfj,Nf,Ng];rfl
 refine zHb rfl ?_;show WS zCf [some (.str (zAl R W)),none,none] O _ _ _ _;unfold zCf;refine zB (zVn (zt (ze (zf rfl (zr (zmo ?_))))));refine zB (zGb (zMd (zf rfl ⟨_,rfl,ze (w_c (zr (zRk hs w.len (z8i blank) ?_)))⟩)));have k0:tm O (O++[tu.lst (D.str (zDb R)::W.map λk=>D.str (zDb k))]) :=.app;have g0:(O++[tu.lst (D.str (zDb R)::W.map λk=>D.str (zDb k))])[O.length]?=some (.lst (D.str (zDb R)::W.map λk=>D.str (zDb k))):=zq;generalize O++[tu.lst (D.str (zDb R)::W.map λk=>D.str (zDb k))]=O1 at k0 g0;refine zB (zGb (zKi (ze (zt (ze (zu (zf rfl (w_c (zPc (zz g0) (show atI _ ((0:Nat):Int)=_ from zed rfl) (zr ?_))))))))));refine zpl (λe=>by rw[e]at kZ;simp at kZ) kZ.2 w.num λO2 k2=>ze (zt (ze (zQj (zOd (z2A (zf rfl (zKt (w_c ⟨_,rfl,zNy ⟨_,_,rfl,k2 _ _ g0,.inr (.inr ⟨_,_,rfl,zq,?_⟩)⟩⟩))))))));rw[show M.cutD (D.str (zDb R)::W.map λk=>D.str (zDb k)) (some 1) none=W.map λk=>D.str (zDb k) from zDv (i:=1)];refine⟨zKb (by rw[Lu];omega),?_⟩;refine zic (λk=>D.str (zDb k)) W tn (λO' k=>zrb zq k) (λk hk O' kp=>?_) (λO' kp=>?_)
 ·have h2:=(w.wn k hk).1;refine zmf ?_;unfold zzi;exact zt (ze (zf rfl (zr (zpl (λe=>by rw[e]at h2;simp at h2) (by omega) (w.way hk) λO2 k2=>⟨rfl,kp.trans k2,kp⟩))))
 refine zr (zwg (zz zq) (zr ?_));have k3:tm O (O'++[tu.lst (W.map tn)]):=k0.trans (k2.trans (tm.app.trans kp.to));generalize O'++[tu.lst (W.map tn)]=O3 at k3;refine zB (zih (znk (zL (zt (ze (zf rfl (zr (zOu w λO4 k4=>⟨_,rfl,λh=>(by cases h),λ_=>zub ?_⟩))))))));exact zLb (zf rfl (q _ (k3.trans k4)))
def zOi{ys:Qx}(h:ys≠[]):YX z (y::ys)=y++z++YX z ys:=by
 cases ys with
 |nil=>exact absurd rfl h
 |cons q r=>
  refine zml ?_;rw[zqh,zqh,zCh,zmd,zmd,Lf]
def zGi{b:yj}(ha:32∉a.cps.toList):Ye (a ++ " " ++ b) " "=((a,(" ":yj),b):yj×yj×yj):=by
 obtain⟨x,hx⟩:∃x,x=a ++ " " ++ b:=⟨_,rfl⟩
 rw[<-hx];have hxc:x.cps.toList=a.cps.toList++(32::b.cps.toList):=by rw[hx,zmd,zmd,blank,Lf];rfl
 have hat:StrLaws.At x " " x.length a.length:=by
  refine zSw (r:=b.cps.toList) ?_ ?_
  ·rw[z7 x,hxc,Lq,<-z7];omega
  ·rw[hxc,z7,List.drop_left,blank];rfl
 have kO:∀k,k<a.length->¬StrLaws.At x " " x.length k:=λk hk h=>by
  have e:=zPu blank h;rw[hxc,yq (by rw[<-z7];exact hk)]at e;exact ha (No e)
 have h1:(Ye x " ").1=a:=by
  rcases partition_head x " " with ⟨_,no⟩|⟨i,e,hi,hmin⟩
  ·exact absurd hat (no _)
  ·have:i=a.length:=by
    rcases Nat.lt_trichotomy i a.length with h|h|h
    ·exact absurd hi (kO i h)
    ·exact h
    ·exact absurd hat (hmin _ h)
   rw[e,this];refine zml ?_;rw[StrLaws.strSub_toList,hxc,List.drop_zero,z7,Nat.sub_zero,List.take_left]
 have h2:(Ye x " ").2.1=" ":=by
  unfold Ye at h1 ⊢
  split
  ·rfl
  ·rename_i hn
   rw[hn]at h1;have:=congrArg (λs:yj=>s.cps.toList.length) h1;dsimp only at this;rw[hxc,Lq]at this;simp at this
 have h3:(Ye x " ").2.2=b:=by
  have e:=StrLaws.partition_sum x " ";rw[h1,h2]at e;refine zml ?_;have:(a ++ " " ++ (Ye x " ").2.2).cps.toList=(a ++ " " ++ b).cps.toList:=by rw[e,<-hx]
  rw[zmd,zmd (a ++ " ") b]at this;exact List.append_cancel_left this
 exact Prod.ext h1 (Prod.ext h2 h3)
abbrev wt(ts:Qe):Qd:=ts.map λt=>[t.1,t.2]
def zGA:wn R (wt ts)=rlN R ts:=by
 show D.tup [tn R,.tup ((wt ts).map tn)]=D.tup [tn R,.tup (ts.map pr2)];rw[Ng];rfl
def Rl.rt(h:Rl R ts)(hr:∀r∈R,r<=9):Rt R (wt ts):=by
 refine⟨h.rl,hr,by rw[Lu];exact h.tl,λk hk=>?_⟩;obtain⟨t,ht,rfl⟩:=List.mem_map.mp hk;have:=h.tn t ht;exact⟨rfl,λn hn=>by simp at hn;omega⟩
def zhz{p:Nat×Nat->Prop}:∀ds:Wm,(∀d∈ds,∃t:Nat×Nat,d=pr2 t/\p t)->∃ts:Qe,ds=ts.map pr2/\∀t∈ts,p t:=λds=>by
 induction ds with
 |nil=>exact λ_=>⟨[],rfl,by simp⟩
 |cons d ds ih=>
  intro h;obtain⟨ts,rfl,q⟩:=ih λx hx=>h x (Nm _ hx);obtain⟨t,rfl,ht⟩:=h d Nn;exact⟨t::ts,rfl,λz hz=>by exact(List.mem_cons.mp hz).elim (λe=>e▸ht) (q z)⟩
def z1t(h:Pen O l B)(hB:B<=200000)
 (q:∀(R:Qf)(ts:Qe) O',Rl R ts->(∀r∈R,r<=9)->KB [l] O O'->Pen O' l (B+100)->Q (rlN R ts) O'):WF z1f [.loc l] O Q:=by
 refine zHb rfl ?_;show WS zfg [some (.loc l),none,none,none,none] O _ _ _ _;unfold zfg;refine zB (zGb (zu (w_c (zt (ze (zf rfl (ze (w_c (zr (zAd (s:=7) h (by omega) (by omega) (by omega) λv O1 hv k1 p1=>zUi ?_))))))))));refine zB (zGb (zt (ze (zQj (zal (ze (zf rfl (zr ⟨_,rfl,by omega,by omega,zKb (by simp;omega),?_⟩))))))));refine z7p (λi ys O'=>KB [l] O1 O'/\Pen O' l (B+1+i)/\ys.length=i/\∀d∈ys,∃j:Nat,d=.int j/\j<=9) ⟨.refl,by simpa using p1,rfl,by simp⟩ (λ_ _ _ _=>rfl) ?_ ?_
 ·rintro i x ys O' hx ⟨k,p,hl,hy⟩;obtain⟨hi,rfl⟩:=z0j hx;refine zmf (zyx ⟨λ_=>?_,λhf=>by cases hf⟩);unfold z6h;refine zu (w_c (zt (ze (zf rfl (ze (w_c (zr (zAd (s:=2) p (by omega) (by omega) (by omega) λv2 O2 hv2 k2 p2=>zUi ⟨k.trans k2,p2.mono (by omega),by simp[hl],λd hd=>?_⟩))))))));rcases List.mem_append.mp hd with hd|hd
  ·exact hy d hd
  ·exact⟨8+v2,by rw[List.mem_singleton.mp hd];congr 1,by omega⟩
 rintro ys O2 ⟨k2,p2,hl2,hy⟩;obtain⟨R,rfl,hr⟩:=zCx ys hy;simp only[Lu,Lv]at hl2 p2;refine zr (zwg (zz zq) ?_);have k3:KB [l] O (O2++[tu.lst (nat R)]):=(k1.trans k2).app;have p3:Pen (O2++[tu.lst (nat R)]) l (B+12):=p2.app.mono (by omega);generalize O2++[tu.lst (nat R)]=O3 at k3 p3;refine zB (zGb (zu (zTg (ze (w_c (ze (w_c (zr (zt (ze (zf rfl (ze (w_c (zr (zAd (s:=2) p3.app (by omega) (by omega) (by omega) λv4 O4 hv4 k4 p4=>?_)))))))))))))));have g4:O4[O3.length]?=some (.lst [.int 10007,.int 30]):=k4.at_ _ _ (by have:=p3.lt;simp;omega) zq
 obtain⟨sz,hsz,hat⟩:∃sz:Nat,(1<sz/\sz<=10007)/\atI [D.int 10007,D.int 30] (v4:Nat)=some (.int (sz:Nat)):=by
  have:v4=0\/v4=1:=by omega
  rcases this with rfl|rfl
  ·exact⟨10007,by omega,rfl⟩
  ·exact⟨30,by omega,rfl⟩
 refine zPc (zz g4) hat ?_;have k5:KB [l] O O4:=k3.app.trans k4;refine zB (zGb (zt (ze (zQj (zal (ze (zu (w_c (zt (ze (zf rfl (ze (w_c (zr (zAd (s:=2) p4 (by omega) (by omega) (by omega) λv6 O6 hv6 k6 p6=>zUi (zr ⟨_,rfl,by omega,by omega,zKb (by simp;omega),?_⟩))))))))))))))));refine z7p (λi ys O'=>KB [l] O6 O'/\Pen O' l (B+14+2*i)/\ys.length=i/\∀d∈ys,∃t:Nat×Nat,d=pr2 t/\(t.1<=10006/\t.2<=10006)) ⟨.refl,by simpa using p6.mono (by omega),rfl,by simp⟩ (λ_ _ _ _=>rfl) ?_ ?_
 ·rintro i x ys O' hx ⟨k,p,hl,hy⟩;obtain⟨hi,rfl⟩:=z0j hx;refine zmf (zyx ⟨λ_=>?_,λhf=>by cases hf⟩);unfold zdi;refine zKi (ze (zu (w_c (zt (ze (zf rfl (ze (zu (zf rfl (w_c (z7s (zr ?_))))))))))));have es:((sz:Nat):Int)-1=((sz-1:Nat):Int):=by omega
  rw[es];refine zAd p (by omega) (by omega) (by omega) λa O7 ha k7 p7=>zUi ?_;refine ze (zt (ze (zf rfl (ze (zf rfl (zr (zAd p7 (by omega) (by omega) (by omega) λb O8 hb k8 p8=>zr ⟨k.trans (k7.trans k8),p8.mono (by omega),by simp[hl],λd hd=>?_⟩)))))));rcases List.mem_append.mp hd with hd|hd
  ·exact hy d hd
  ·exact⟨(1+a,b),List.mem_singleton.mp hd,by omega,by omega⟩
 rintro ys O7 ⟨k7,p7,hl7,hy7⟩;obtain⟨ts,rfl,hw⟩:=zhz ys hy7;simp only[Lu,Lv]at hl7 p7;refine zr (zwg (zz zq) ?_);refine zLb (zKi (ze (zf rfl (ze (zf rfl (zr ?_))))));exact q R ts _ ⟨by omega,by omega,hw⟩ hr (k5.trans (k6.trans k7)).app (p7.app.mono (by omega))
def zhm(h:Rl R ts)(hr:∀r∈R,r<=9)(q:∀O',tm O O'->Q (.str (zAl R (wt ts))) O'):WF zme [rlN R ts] O Q:=by
 have w:=h.rt hr;have kZ:=h.rl;have htl:=h.tl;refine zHb rfl ?_;show WS z2f [some (rlN R ts),none] O _ _ _ _;unfold z2f;refine zB (zGb (zTg (ze (zMd (w_c ⟨_,rfl,ze (zQj (zOd (zu (zf rfl (w_c (zPc rfl (show atI [tn R,.tup (ts.map pr2)] 0=some (tn R) from rfl) (.inl ⟨_,rfl,zKb (by rw[Lu];omega),?_⟩)))))))⟩)))));refine zic (λ(n:Nat)=>D.int n) R (λn =>.str (num n)) (λ_ _=>rfl) (λn hn' O' kp=>?_) (λO1 k1=>?_)
 ·refine zmf ?_;unfold zFh;exact zt (ze (zf rfl (zr (z8h (zwp (w.num n hn')) ⟨rfl,kp,kp⟩))))
 refine zr (zGk (ys:=R.map num) (by rw[zq,Ng];rfl) (fit (zgm w.num) (by decide) (by rw[Lu];omega) (by decide)) (zr ?_));have k2:tm O (O1++[tu.lst (R.map λn=>D.str (num n))]):=k1.to;generalize O1++[tu.lst (R.map λn=>D.str (num n))]=O2 at k2;refine zLb (zMd (w_c ⟨_,rfl,ze (zu (zf rfl (zQj (zOd (zu (zf rfl (w_c (zPc rfl (show atI [tn R,.tup (ts.map pr2)] 1=some (.tup (ts.map pr2)) from rfl) (.inl ⟨_,rfl,zKb (by rw[Lu];omega),?_⟩)))))))))⟩));refine zic pr2 ts (λt =>.str (zDb [t.1,t.2])) (λ_ _=>rfl) (λt ht O' kp=>?_) (λO3 k3=>?_)
 ·refine zyu (zkn (zmf (zkn (zmf (zBs ?_)))));unfold zSh;obtain⟨ha,hb⟩:=h.tn t ht;have ha:t.1<100000:=by omega
  have hb:t.2<100000:=by omega
  obtain⟨la1,la2⟩:=zrn ha;obtain⟨lb1,lb2⟩:=zrn hb
  have e2:zDb [t.1,t.2]=num t.1 ++ "," ++ num t.2:=by
   rw[zDb,zqh];rfl
  refine zu (zu (zt (ze (zf rfl (zr (z8h (zwp ha) (w_c (zhk ?_ (zt (ze (zf rfl (zr (z8h (zwp hb) (zhk ?_ ⟨by rw[e2],kp,kp⟩))))))))))))))
  ·show(num t.1).length+1<=1000000;omega
  ·show(num t.1 ++ ",").length+(num t.2).length<=1000000;rw[Str.length_append];show(num t.1).length+1+(num t.2).length<=1000000;omega
 have g1:(O3++[tu.lst (ts.map λt=>D.str (zDb [t.1,t.2]))])[O2.length]?=some (.lst [D.str (zDb R)]):=zO (k3 _ _ zq);refine z8k g1 zq (by simp;omega) (zr (zGk (ys:=zDb R::(wt ts).map zDb) ?_ w.fit (q _ ?_)))
 ·rw[zq,Nf,Ng,Ng];rfl
 ·exact(k2.trans (tm.app.trans k3.to)).to
def zzB{F:FF}{tb:List (yj×FF)}{α:FA}(hc:J[i]?=some (some (.own c)))(hF:tb.lookup c=some F)(h:WA α J O λds O1=>WF F ds O1 Q):WE (zmA i tb α) J O Q:=by
 obtain⟨ds,O1,e,d,O',e2,q⟩:=h;exact⟨d,O',by simp only[zmA,hc,hF,e,ym,e2],q⟩
def z5B{n:yj}{tb:List (yj×yj)}(h:tb.lookup s=some c)(q:Q (.own c) O):W2 (zcz n tb) (.own n) (.str s) O Q:=⟨_,_,by simp only[zcz,beq_self_eq_true,cond_true,h,ym],q⟩
def zDA(h:z.length<=1000000)(h1:1<=y.length)(q:Q (.tup [.str (Ye z y).1,.str (Ye z y).2.1,.str (Ye z y).2.2]) O):WM zSr (.str z) [.str y] O Q :=
 ⟨_,_,by simp only[zSr];rw[decide_eq_true ⟨h,h1⟩];rfl,q⟩
def z6B{n:yj}{tb:List (yj×Int)}{G:FE}{ψ:FA}(h:WE G J O λx O1=>x=.own n/\WA ψ J O1 λds O2=>∃s i,ds=[.str s]/\tb.lookup s=some i/\Q (.int i) O2):WE (zdB n tb G ψ) J O Q:=by
 obtain⟨d,O1,e,rfl,ds,O2,e2,s,i,rfl,h2,q⟩:=h;exact⟨_,_,by simp only[zdB,e,ym,beq_self_eq_true,cond_true,e2,h2],q⟩
abbrev zJg(S:Qf):yj:=YX " " (S.map num)
def zro :∀p∈S.map num,32∉p.cps.toList:=z8n (by omega)
def zfe(hS:∀k∈S,k<10^60):∀y∈S.map num,y.length<=60:=λy hy=>by
 obtain⟨k,hk,rfl⟩:=List.mem_map.mp hy;exact(zTe (hS k hk)).2
def zkt(hS:∀k∈S,k<10^60)(hl:S.length<=31):(zJg S).length<=3000:=by
 have:=zge (z:=" ") (zfe hS) (by decide) (by rw[Lu];omega) (by decide);rw[Lu]at this;have h1:(" ":yj).length=1:=rfl;rw[h1]at this;exact yA this (by omega)
def zPm(hS:∀k∈S,k<10^60)(hl:S.length<=31):((S.map num).map (·.length)).sum+(S.map num).length*(" ":yj).length<=1000000:=fit (zfe hS) (by decide) (by rw[Lu];omega) (by decide)
def zOA{f:yj}{rt:Wr}{fs:Wq}(h1:J[i]?=some (some (.loc n)))(h2:O[n]?=some (.exc c fs))(h3:fs.lookup f=some (.loc m))(h4:O[m]?=some (.lst (nat T)))(hl:T.length<=31)(hT:∀x∈T,x<10^60)(hy:y.length<=10)
 (q:rt (.str (y++zJg T)) O):WS (zqu i y " " c f) J O nx rt bk ct:=by
 have e1:(T.map λ(k:Nat)=>(k:Int)).map (λi=>(toString i:yj))=T.map num:=by rw[Ng];rfl
 have e2:zeh " " (T.map λ(k:Nat)=>(k:Int))=zJg T:=by unfold zeh;rw[e1]
 have h5:zTd (T.map λ(k:Nat)=>(k:Int)):=⟨by rw[Lu];omega,λx hx=>by
  obtain⟨k,hk,rfl⟩:=List.mem_map.mp hx;have:=hT k hk;omega⟩
 have h6:zyh " " (T.map λ(k:Nat)=>(k:Int))=true:=by
  unfold zyh;rw[e1,Lu];have:=zPm hT hl;rw[Lu]at this;exact decide_eq_true this
 have h7:y.length+(zeh " " (T.map λ(k:Nat)=>(k:Int))).length<=1000000:=by
  rw[e2];have:=zkt hT hl;omega
 refine⟨.ret (.str (y++zJg T)) O,?_,q⟩;have e0:fAt c f (zp i) J O=some (.loc m,O):=by simp[fAt,zp,h1,h2,h3]
 show(fAt c f (zp i) J O).bind _=_;rw[e0,ym];dsimp only;rw[h4,zUm];dsimp only;rw[zEh,ym,decide_eq_true h5,h6,decide_eq_true h7,e2];rfl
structure Dk(O:Mem)(n m p:Nat)(R:Qf)(ts hU:Qe):Prop where
 at_:O[n]?=some (.ins "Desk" [("shelf",.loc m)])
 sh:Sh O m p (rlN R ts) hU
def Dk.keep{O O':Mem}{p:Nat}(h:Dk O n m p R ts hU)(k:tm O O'):Dk O' n m p R ts hU:=⟨k _ _ h.at_,h.sh.keep k⟩
def Dk.nm{p:Nat}(h:Dk O n m p R ts hU):n≠m/\n≠p:=by
 have h1:=h.at_;refine⟨?_,?_⟩
 ·rintro rfl;rw[h.sh.at_]at h1;simp at h1
 ·rintro rfl;rw[h.sh.dc]at h1;cases h1
def zBj:[(("shelf":yj),D.loc m)].lookup ("say":yj)=none:=by
 have h1:(("say":yj) == "shelf")=false:=by decide +kernel
 simp only[Lz,h1,Na]
abbrev ansF:List (yj×FF):=[("answer_put",zGd),("answer_out",zJd),("answer_keys",zcd),("answer_renew",zAc)]
section
variable {R:Qf}{ts hU:Qe}{n m p:Nat}{O:Mem}{Q:Wr}
def z3x(w:Rl R ts)(hr:∀r∈R,r<=9)(h:O[n]?=some (.ins "Desk" []))(q:∀m p O',KB [n] O O'->O.length<=m->O.length<=p->Dk O' n m p R ts []->Q .non O'):WF zfd [.loc n,.str (zAl R (wt ts))] O Q:=by
 have hn:n<O.length:=zR h;refine zHb rfl ?_;show WS z7c [some (.loc n),some (.str (zAl R (wt ts)))] O _ _ _ _;unfold z7c;refine zZq (z0w (ze (zt (ze (zf rfl (zr ?_))))));refine zsk (w.rt hr) λO1 k1=>zr ?_;rw[zGA];refine zty zq ⟨rfl,?_⟩;have h1:=k1 _ _ h;have hl1:=k1.len;have hln:n<O1.length:=by omega
 have s0:=zPz (O:=O1) (r:=rlN R ts);have hset:∀o:tu,(O1++[tu.ins "Shelf" []]).set O1.length o=O1++[o]:=λo=>by simp
 rw[hset]at s0 ⊢;have g1:∀(o o':tu),((O1++[o])++[o'])[n]?=some (.ins "Desk" []):=λo o'=>zO (zO h1);refine zf rfl ⟨n,_,rfl,g1 _ _,by decide,?_⟩;have kk:KB [n] O ((O1++[tu.ins "Shelf" (fsD (rlN R ts) (O1++[tu.ins "Shelf" []]).length)])++[tu.dct []]):=(KB.of_keep k1).app.app;refine q O1.length (O1++[tu.ins "Shelf" []]).length _ (kk.set (.inl (by simp))) hl1 (by simp;omega) ⟨?_,?_,?_,s0.nd,s0.few⟩
 ·rw[zEb (g1 _ _)];rfl
 ·exact zPb s0.at_ (by omega)
 ·exact zPb s0.dc (by simp;omega)
def z2q{rest row:yj}{ws:Qx}{F:FF}(sJ:c="renew"/\1<=ws.length\/(c="put"\/c="out")/\ws.length=1\/c="keys"/\ws=[])(hsp:(xQ row " ").map D.str=D.str c::ws.map D.str)(hpt:Ye row " "=(c,z,rest))(kA:row.length<=1000000)(hans:ansT.lookup c=some a)(hF:ansF.lookup a=some F)(hd:Dk O n m p R ts hU)
 (q:∀O',tm O O'->WF F [.loc m,.str rest] O' Q):WF zW [.loc n,.str row] O Q:=by
 refine zHb rfl ?_;show WS zYg [some (.loc n),some (.str row),none,none] O _ _ _ _;unfold zYg;refine zB (zih (zzj (znk (zL (zt (ze (zf rfl (ze (w_c (zr (zLw ⟨_,rfl,λ_=>?_,λh=>(by cases h)⟩)))))))))));refine znk (zL (zt (ze (zMd (zf rfl ⟨_,rfl,ze (w_c (zr (zRk hsp kA (z8i blank) (zr ?_))))⟩)))));have gs:(O++[tu.lst (D.str c::ws.map D.str)])[O.length]?=some (.lst (D.str c::ws.map D.str)):=zq;have ks:tm O (O++[tu.lst (D.str c::ws.map D.str)]) :=.app;generalize O++[tu.lst (D.str c::ws.map D.str)]=O1 at gs ks;generalize O.length=wl at gs;have hat0:atI (D.str c::ws.map D.str) 0=some (.str c):=show atI _ ((0:Nat):Int)=_ from zed rfl;have hll:((D.str c::ws.map D.str).length:Int)=ws.length+1:=by rw[Lr,Lu];omega
 have isrow:WF zZj [.loc wl] O1 λd O2=>d=.bl true/\O2=O1:=by
  refine zHb rfl ?_;show WS zCj [some (.loc wl)] O1 _ _ _ _;unfold zCj
  have ask:∀{b:Bool} {y:yj} {R:Wr},Yw y=true->Yc (.str c) (.str y)=b->Yw c=true->R (.bl b) O1->WE (zy gEq (zy gIx (zp 0) (fC (.int 0))) (fC (.str y))) [some (.loc wl)] O1 R:=λhy hb hc q=>by
   subst hb;exact zu (zu (zf rfl (w_c (zPc (zz gs) hat0 (w_c (zYe q hc hy))))))
  rcases sJ with ⟨rfl,hw⟩|sJ
  ·refine zB (zih (zL (ask (b:=true) (by decide +kernel) (by decide +kernel) (by decide +kernel) ⟨_,rfl,λ_=>?_,λh=>(by cases h)⟩)));refine zLb (zu (zt (ze (zf rfl (zr (zuj (zz gs) (w_c (z6i ⟨?_,rfl⟩))))))));rw[hll]
   congr 1
   exact decide_eq_true (by omega)
  ·obtain⟨hc,h1,h2,h3,h4⟩:Yw c=true/\Yc (.str c) (.str "renew")=false/\Yc (.str c) (.str "fits")=false/\Yc (.str c) (.str "most")=false/\tabT.lookup c=some ((ws.length:Int)+1):=by
    rcases sJ with ⟨rfl|rfl,hw⟩|⟨rfl,rfl⟩
    ·rw[hw];decide +kernel
    ·rw[hw];decide +kernel
    ·decide +kernel
   refine zB (zih (zL (ask (by decide +kernel) h1 hc ⟨_,rfl,λh=>(by cases h),λ_=>zub ?_⟩)));refine zB (zih (zzj (zL (ask (by decide +kernel) h2 hc ⟨_,rfl,λ_=>zL (ask (by decide +kernel) h3 hc ⟨_,rfl,λh=>(by cases h),λ_=>zub ?_⟩),λh=>(by cases h)⟩))));refine zLb (zu (z6B (w_c ⟨rfl,ze (zu (zf rfl (w_c (zPc (zz gs) hat0 (zr ⟨_,_,rfl,h4,?_⟩)))))⟩)));refine zt (ze (zf rfl (zr (zuj (zz gs) (zNo ⟨?_,rfl⟩)))));rw[hll];simp
 obtain⟨d,O2,e,rfl,rfl⟩:=isrow;refine⟨_,_,e,_,rfl,λh=>(by cases h),λ_=>zub ?_⟩;refine zB (zGb (zMd (zf rfl ⟨_,rfl,ze (w_c (zr (zDA kA (z8i blank) ?_)))⟩)));rw[hpt];refine zB (zGb (zu (w_c (zu (zf rfl (w_c (zPc rfl rfl (z5B hans ?_))))))));have gD:YD ("shelf":yj) [(("shelf":yj),D.loc m)]=some (D.loc m):=by simp only[Lz,beq_self_eq_true]
 refine zLb (zzB rfl hF (ze (zRn (zf rfl ⟨_,_,_,rfl,ks _ _ hd.at_,gD,ze (zu (zf rfl (w_c (zPc rfl rfl (zr ?_)))))⟩))));exact q _ ks
end
def Rw(ws:Qx):Prop:=ws≠[]/\ws.length<=31/\∀y∈ws,y.length<=70/\32∉y.cps.toList
def zHu{ws:Qx}(h:Rw ws):(YX " " ws).length<=3000:=by
 have h2:=h.2.1;have:=zge (z:=" ") (B:=70) (λy hy=>(h.2.2 y hy).1) (by decide) (by omega) (by decide);have h1:(" ":yj).length=1:=rfl;rw[h1]at this;omega
def zcn{ws:Qx}(h:Rw ws)(hc:32∉c.cps.toList):(xQ (c ++ " " ++ YX " " ws) " ").map D.str=D.str c::ws.map D.str:=by
 rw[(zOi h.1).symm,zhf blank (by decide +kernel) (by simp) λx hx=>?_,Nf];rcases List.mem_cons.mp hx with rfl|hx
 ·exact hc
 ·exact(h.2.2 x hx).2
def zld(a b:yj):(a++b).length=a.length+b.length:=by rw[z7,zmd,Lq,<-z7,<-z7]
abbrev zKp(p:Nat×Nat):yj:=num p.1 ++ ":" ++ lt p.2
def znt{p:Nat×Nat}(h:p.1<10^60)(h2:p.2<10):(zKp p).length<=70/\32∉(zKp p).cps.toList:=by
 refine⟨?_,λhm=>?_⟩
 ·have h1:=(zTe h).2;rw[zld,zld];show(num p.1).length+1+1<=70;omega
 ·rw[zmd,zmd,zxc]at hm;have e:(":":yj).cps.toList=[58]:=by decide +kernel
  rw[e]at hm;rcases List.mem_append.mp hm with hm|hm
  ·rcases List.mem_append.mp hm with hm|hm
   ·have:=zsg _ _ hm;omega
   ·have:=List.mem_singleton.mp hm;omega
  ·have:32=97+p.2:=List.mem_singleton.mp hm;omega
section
variable {R:Qf}{ts hU:Qe}{S:Qf}{n m p k:Nat}{O:Mem}{Q:Wr}
def zdp{x:Nat×Nat}(h:x.1<10^60)(h2:x.2<10)(q:Q (.str (zKp x)) O):WF zdg [pD x] O Q:=by
 have h1:=(zTe h).2;refine zHb rfl ?_;show WS zhg [some (pD x)] O _ _ _ _;unfold zhg;refine zLb (zu (zu (zt (ze (zu (zf rfl (w_c (zPc rfl rfl (zr (z8h (z1g h) (w_c (zhk ?_ (zu (w_c (zu (zf rfl (w_c (zPc rfl rfl (zGw (by decide) (zKw x.2 h2) (zhk ?_ q))))))))))))))))))))
 ·show(num x.1).length+1<=1000000;omega
 ·rw[zld];show(num x.1).length+1+1<=1000000;omega
def z1x(c:Can R ts hU S k row):row.length<=S.length+1:=by
 have h:(row.map (·.1)).length<=(yz (S.length+1)).length:=zqd c.1.nd λx hx=>by
  obtain⟨q,hq,rfl⟩:=List.mem_map.mp hx;have:=(c.1.mem q hq).1;rw[Lu,Lq,Lx]at this;exact List.mem_range.mpr this
 rwa [Lu,Lv]at h
def zmt(w:Rl R ts)(s:Sh O m p (rlN R ts) hU)(K:Tj hU S)(hS:∀x∈S,x<10^60)(hk:k<10^60)
 (qt:∀(h:Nat) O',hU.lookup k=some h->tm O O'->Q (.str "twice") O')
 (qf:∀(V:Qf)(O':Mem),hU.lookup k=none->V.Pairwise (· < ·)->k∈V->(S.length=30/\V.Perm (S++[k])\/S.length<30/\sQ R ts hU S k V)->tm O O'->Q (.str ("full " ++ zJg V)) O')
 (q:∀(row:Qe) (ws:Qx) (O':Mem),hU.lookup k=none->S.length<30->Can R ts hU S k row->Rw ws->KB [p] O O'->Sh O' m p (rlN R ts) (zBe hU (zDl (S++[k]) row))->Q (.str ("put" ++ " " ++ YX " " ws)) O'):WF zGd [.loc m,.str (num k)] O Q:=by
 have hf:=s.few;have hl:=K.len;refine zHb rfl ?_;show WS zQe [some (.loc m),some (.str (num k)),none,none,none] O _ _ _ _;unfold zQe;refine zB (zGb (zt (ze (zf rfl (zr (zdk hk λO0 k0=>?_))))));have s0:=s.keep k0;refine zB (zOy (zWw (zKe (zf rfl ⟨m,_,rfl,s0.at_,zLv _ p,ze (zf rfl (zr ?_))⟩))));refine zyA w s0 K hS hk (λh e=>z5z rfl (zLb (w_c (qt h _ e k0)))) (λV l O1 e pV hkV hV k1 hl1 g1=>zVy rfl (zTC rfl ?_)) λrow lr O1 e h30 c k1 hl1 g1 s1=>?_
 ·have hVS:∀x∈V,x<10^60:=λx hx=>by
   have hx:x∈S++[k]:=by
    rcases hV with ⟨_,hp⟩|⟨_,T,sb,_,_,hp⟩
    ·exact hp.mem_iff.mp hx
    ·obtain⟨i,hi,rfl⟩:=List.mem_map.mp (hp.mem_iff.mp hx);have hi:=List.mem_range.mp (sb.subset hi);rw[Lo,yE (by simp;omega)];exact Lp _
   rcases List.mem_append.mp hx with hx|hx
   ·exact hS x hx
   ·rw[List.mem_singleton.mp hx];exact hk
  have hVl:V.length<=31:=by
   rcases hV with ⟨_,hp⟩|⟨_,hF⟩
   ·have:=hp.length_eq;rw[Lq,Lx]at this;omega
   ·have:=sQ.len hF;omega
  exact zOA (T:=V) (n:=O1.length) rfl zq rfl (zO g1) hVl hVS (by decide) (qf V _ e pV hkV hV (k0.trans (k1.trans .app)))
 ·have kZ:=w.rl;have w2:Wb 31 R (zlf R ts (S++[k])):=w.wb (by simp;omega)
  have sJ:∀x∈zDl (S++[k]) row,x.1<10^60/\x.2<10:=λx hx=>by
   obtain⟨y,hy,rfl⟩:=List.mem_map.mp hx;obtain⟨h1,h2,_⟩:=c.1.mem y hy;have h3:=(w2.key h1).2 _ h2;rw[Lu]at h1;refine⟨?_,by show y.2<10;omega⟩;show(S++[k]).getD y.1 0<10^60;rw[Lo,yE h1];rcases List.mem_append.mp (Lp h1) with h4|h4
   ·exact hS _ h4
   ·show(S++[k])[y.1]<10^60;rw[List.mem_singleton.mp h4];exact hk
  have hrl2:=z1x c;have hl3:(zDl (S++[k]) row).length<=31:=by rw[Lu];omega
  have kN:zDl (S++[k]) row≠[]:=by
   obtain⟨h,r,e⟩:=c.1.first
   rw[e];simp
  have fin:=q row ((zDl (S++[k]) row).map zKp);generalize zDl (S++[k]) row=rk at sJ hl3 kN fin g1 s1
  have hrw:Rw (rk.map zKp):=⟨λe=>kN (List.map_eq_nil_iff.mp e),by rw[Lu];exact hl3,λy hy=>by
   obtain⟨x,hx,rfl⟩:=List.mem_map.mp hy;exact znt (sJ x hx).1 (sJ x hx).2⟩
  refine zLb (zu (w_c (zMd (w_c ⟨_,rfl,ze (zQj (zOd (zf rfl (.inr (.inr ⟨_,_,rfl,g1,zKb (by rw[Lu];omega),?_⟩)))))⟩))));refine zic pD rk (λx =>.str (zKp x)) (λO' k=>zrb g1 k) (λx hx O' kp=>?_) (λO2 k2=>?_)
  ·refine zmf ?_;unfold zjh;exact zt (ze (zf rfl (zr (zdp (sJ x hx).1 (sJ x hx).2 ⟨rfl,kp,kp⟩))))
  refine zr (zGk (ys:=rk.map zKp) (by rw[zq,Ng];rfl) (fit (B:=70) (λy hy=>(hrw.2.2 y hy).1) (by decide) (by rw[Lu];omega) (by decide)) (zhk ?_ ?_))
  ·have:=zHu hrw;have:("put ":yj).length=4:=rfl;omega
  ·have e5:("put ":yj)="put" ++ " ":=by decide +kernel
   rw[e5];exact fin _ e h30 c hrw ((KB.of_keep k0).trans (k1.trans (KB.of_keep k2.to))) (s1.keep k2.to)
def zKs(s:Sh O m p (rlN R ts) hU)(hk:k<10^60)(e:hU.lookup k=some h)(hh:h<10)(q:∀O',KB [p] O O'->Sh O' m p (rlN R ts) (zdv hU k)->Q (.str (lt h)) O'):WF zJd [.loc m,.str (num k)] O Q:=by
 refine zHb rfl ?_;show WS zFe [some (.loc m),some (.str (num k)),none,none] O _ _ _ _;unfold zFe;refine zB (zGb (zt (ze (zf rfl (zr (zdk hk λO0 k0=>?_))))));have s0:=s.keep k0;refine zB (zOy (zWw (zKe (zf rfl ⟨m,_,rfl,s0.at_,zQv _ p,ze (zf rfl (zr ?_))⟩))));refine zwA s0 (λh' e'=>?_) λe'=>by rw[e]at e';cases e'
 rw[e]at e';cases e';exact zLb (zu (w_c (zf rfl (zGw (by decide) (zKw h hh) (q _ ((KB.of_keep k0).trans (KB.refl.set (.inl (by simp)))) (s0.pop k))))))
def zJo{X:Qf}(hl:X.length<=31)(hX:∀x∈X,x<10^60)(hn:O[n]?=some (.lst (nat X)))(q:∀O',tm O O'->Q (.str (zJg X)) O'):WF zVc [.loc n] O Q:=by
 refine zHb rfl ?_;show WS zUe [some (.loc n)] O _ _ _ _;unfold zUe;refine zLb (zMd (w_c ⟨_,rfl,ze (zQj (zOd (zf rfl (.inr (.inr ⟨_,_,rfl,hn,zKb (by rw[Lu];omega),?_⟩)))))⟩));refine zic (λ(n:Nat)=>D.int n) X (λn =>.str (num n)) (λO' k=>zrb hn k) (λx hx O' kp=>?_) (λO' kp=>?_)
 ·refine zmf ?_;unfold zlh;exact zt (ze (zf rfl (zr (z8h (z1g (hX x hx)) ⟨rfl,kp,kp⟩))))
 ·exact zr (zGk (ys:=X.map num) (by rw[zq,Ng];rfl) (zPm hX hl) (q _ kp.to))
abbrev zoo(S:Qf):yj:=if S=[] then "none" else zJg S
def zUr(s:Sh O m p (rlN R ts) hU)(K:Tj hU S)(hS:∀x∈S,x<10^60)(q:∀O',tm O O'->Q (.str (zoo S)) O'):WF zcd [.loc m,.str z] O Q:=by
 have hf:=s.few;have hl:=K.len;refine zHb rfl ?_;show WS z2d [some (.loc m),some (.str z)] O _ _ _ _;unfold z2d;refine zLb (zt (ze (zt (zKe (zf rfl ⟨m,_,rfl,s.at_,zbk _ p,zr (zxf s K (zr ?_))⟩)))));have e0:(O++[tu.lst (nat S)])[O.length]?=some (.lst (nat S)):=zq;have k0:tm O (O++[tu.lst (nat S)]) :=.app;generalize O++[tu.lst (nat S)]=O1 at e0 k0;generalize O.length=l at e0;refine zHb rfl ?_;show WS znf [some (.loc l)] O1 _ _ _ _;unfold znf;refine zLb (zJz (zL (zu (zf rfl (zTg (zr (zSy (α:=Nat) S [] (zO e0) zq ⟨_,rfl,λhb=>?_,λhb=>?_⟩)))))))
 ·have e:zoo S="none":=if_pos (of_decide_eq_true hb);refine w_c ?_;rw[<-e];exact q _ (k0.trans .app)
 ·refine zt (ze (zf rfl (zr (zJo (by omega) hS (zO e0) λO2 k2=>?_))));have e:zoo S=zJg S:=if_neg (of_decide_eq_false hb);rw[<-e];exact q _ (k0.trans (tm.app.trans k2))
def zEp(w:Rl R' ts')(hr:∀r∈R',r<=9)(s:Sh O m p (rlN R ts) hU)(K:Tj hU S)(hS:∀x∈S,x<10^60)(hF:zLg R' (zlf R' ts' S))
 (q:∀(hs:Qf)(O':Mem),hs.length=S.length->tW R' (zlf R' ts' S) (hs.map some)->KB [m,p] O O'->Sh O' m p (rlN R' ts') (zBe hU (S.zip hs))->Q (.str "ok") O'):WF zAc [.loc m,.str (zAl R' (wt ts'))] O Q:=by
 have hf:=s.few;have hl:=K.len;refine zHb rfl ?_;show WS zvd [some (.loc m),some (.str (zAl R' (wt ts'))),none,none] O _ _ _ _;unfold zvd;refine zB (zGb (zt (ze (zf rfl (zr (zsk (w.rt hr) λO0 k0=>?_))))));rw[zGA];have s0:=s.keep k0;refine zB (zOy (zAx (zKe (zf rfl ⟨m,_,rfl,s0.at_,zvr _ p,ze (zf rfl (zr ?_))⟩))));exact zDw w s0 K hS hF λhs O1 h1 h2 k1 s1=>zLb (w_c (q hs _ h1 h2 ((KB.of_keep k0).trans k1) s1))
end
def Ds(O:Mem)(n m p:Nat)(R:Qf)(ts:Qe)(T:Qf):Prop:=∃hU,Dk O n m p R ts hU/\tX R ts hU/\T.Perm (hU.map (·.1))/\∀x∈T,x<10^60
section
variable {R:Qf}{ts:Qe}{T:Qf}{n m p k:Nat}{O O':Mem}{Q:Wr}
def Ds.keep(h:Ds O n m p R ts T)(k:tm O O'):Ds O' n m p R ts T:=by
 obtain⟨hU,d,r⟩:=h;exact⟨hU,d.keep k,r⟩
def Ds.kb{L:Qf}(h:Ds O n m p R ts T)(hn:n∉L)(hm:m∉L)(hp:p∉L)(k:KB L O O'):Ds O' n m p R ts T:=by
 obtain⟨hU,d,r⟩:=h;exact⟨hU,⟨k.at_ _ _ hn d.at_,k.at_ _ _ hm d.sh.at_,k.at_ _ _ hp d.sh.dc,d.sh.nd,d.sh.few⟩,r⟩
def Ds.at(h:Ds O n m p R ts T):O[n]?=some (.ins "Desk" [("shelf",.loc m)]):=by
 obtain⟨hU,d,_⟩:=h;exact d.at_
def Ds.few(h:Ds O n m p R ts T):T.length<=30:=by
 obtain⟨hU,d,_,pm,_⟩:=h;rw[pm.length_eq,Lu];exact d.sh.few
def Ds.nd(h:Ds O n m p R ts T):T.Nodup:=by
 obtain⟨hU,d,_,pm,_⟩:=h;exact pm.nodup_iff.mpr d.sh.nd
def Ds.big(h:Ds O n m p R ts T):∀x∈T,x<10^60:=by
 obtain⟨hU,d,_,_,hb⟩:=h;exact hb
def Ds.fits(h:Ds O n m p R ts T):zLg R (zlf R ts T):=by
 obtain⟨hU,d,r,pm,_⟩:=h;exact r.fits d.sh.nd pm
def zGg(h:c="put"\/c="out"\/c="renew"\/c="full"):32∉c.cps.toList:=by
 rcases h with rfl|rfl|rfl|rfl<;>decide +kernel
def zvn(pm:T.Perm (hU.map (·.1))):hU.lookup k=none↔k∉T:=by
 rw[pm.mem_iff];constructor
 ·intro e hm;have:=z2p hm;rw[e]at this;cases this
 ·intro hm;rw[List.lookup_eq_none_iff];intro x hx;apply bne_iff_ne.mpr;rintro rfl;exact hm (List.mem_map.mpr ⟨x,hx,rfl⟩)
def zPo(hk:k<10^60)(hc:32∉c.cps.toList):(xQ (c ++ " " ++ num k) " ").map D.str=D.str c::[num k].map D.str :=
 zcn (ws:=[num k]) ⟨by simp,by simp,λy hy=>⟨yA (zfe (S:=[k]) (by simpa using hk) y hy) (by decide),zro (S:=[k]) y hy⟩⟩ hc
def z2m(w:Rl R ts)(h:Ds O n m p R ts T)(hk:k<10^60)(qt:∀O',k∈T->tm O O'->Q (.str "twice") O')
 (qf:∀(V:Qf)(O':Mem),k∉T->V.Pairwise (· < ·)->k∈V->(∀x∈V,x<10^60)->V.length<=31->(T.length=30/\V.Perm (T++[k])\/T.length<30/\¬zLg R (zlf R ts (T++[k])))->tm O O'->Q (.str ("full" ++ " " ++ zJg V)) O')
 (q:∀(ws:Qx)(O':Mem),k∉T->Rw ws->KB [p] O O'->Ds O' n m p R ts (T++[k])->Q (.str ("put" ++ " " ++ YX " " ws)) O'):WF zW [.loc n,.str ("put " ++ num k)] O Q:=by
 obtain⟨hU,d,r,pm,hb⟩:=h;have gA:=(zTe hk).2;obtain⟨S,K⟩:=Tj.ex d.sh.nd;have pS:S.Perm T:=K.pm.trans pm.symm;have hS:∀x∈S,x<10^60:=λx hx=>hb x (pS.mem_iff.mp hx);have e5:("put ":yj)="put" ++ " ":=by decide +kernel
 have e6:("full ":yj)="full" ++ " ":=by decide +kernel
 have hf:=zGg (c:="put") (.inl rfl);rw[e5];refine z2q (ws:=[num k]) (.inr (.inl ⟨.inl rfl,rfl⟩)) (zPo hk hf) (zGi hf) ?_ (by rfl) (by rfl) d λO1 k1=>?_
 ·rw[zld,zld];show 3+1+(num k).length<=1000000;omega
 refine zmt w (d.sh.keep k1) K hS hk (λh O2 e k2=>qt _ ?_ (k1.trans k2)) (λV O2 e pV hkV hV k2=>?_) λrow ws O2 e h30 c hw k2 s2=>?_
 ·refine Classical.byContradiction λhn=>?_;rw[(zvn pm).mpr hn]at e;cases e
 ·rw[e6]
  have hm:∀x∈V,x∈S++[k]:=λx hx=>by
   rcases hV with ⟨_,hp⟩|⟨_,T',sb,_,_,hp⟩
   ·exact hp.mem_iff.mp hx
   ·obtain⟨i,hi,rfl⟩:=List.mem_map.mp (hp.mem_iff.mp hx);have hi:=List.mem_range.mp (sb.subset hi);rw[Lo,yE (by simp;omega)];exact Lp _
  refine qf V _ ((zvn pm).mp e) pV hkV (λx hx=>?_) ?_ ?_ (k1.trans k2)
  ·rcases List.mem_append.mp (hm x hx) with h|h
   ·exact hS x h
   ·rw[List.mem_singleton.mp h];exact hk
  ·have h1:=zqd (pV.imp λh=>yC h) hm;have h2:=d.sh.few;have h3:=K.len;rw[Lq,Lx]at h1;omega
  ·rcases hV with ⟨h30,hp⟩|⟨h30,hF⟩
   ·exact .inl ⟨by rw[<-pS.length_eq];exact h30,hp.trans (pS.append_right _)⟩
   ·refine .inr ⟨by rw[<-pS.length_eq];exact h30,λf=>z3v (w.wb (L:=31) (by simp;omega)) hF (zck ?_ (pS.append_right _) f)⟩;exact((pS.append_right [k]).nodup_iff).mp (K.nd e)
 ·have pm2:=zrv (d.sh.nd) K e c;refine q ws _ ((zvn pm).mp e) hw ((KB.of_keep k1).trans k2) ⟨_,⟨?_,s2⟩,z0t r d.sh.nd K e c,(pS.symm.append_right _).trans pm2,λx hx=>?_⟩
  ·exact k2.at_ _ _ (by simpa using d.nm.2) (k1 _ _ d.at_)
  ·rcases List.mem_append.mp hx with h|h
   ·exact hb x h
   ·rw[List.mem_singleton.mp h];exact hk
def zCy(w:Rl R ts)(h:Ds O n m p R ts T)(hk:k∈T)(q:∀(h:Nat)(O':Mem),h<10->KB [p] O O'->Ds O' n m p R ts (T.filter λx=>decide (x≠k))->Q (.str (lt h)) O'):WF zW [.loc n,.str ("out " ++ num k)] O Q:=by
 obtain⟨hU,d,r,pm,hb⟩:=h;have hk6:=hb k hk;have gA:=(zTe hk6).2;have e5:("out ":yj)="out" ++ " ":=by decide +kernel
 have hf:=zGg (c:="out") (.inr (.inl rfl));rw[e5];refine z2q (ws:=[num k]) (.inr (.inl ⟨.inr rfl,rfl⟩)) (zPo hk6 hf) (zGi hf) ?_ (by rfl) (by rfl) d λO1 k1=>?_
 ·rw[zld,zld];show 3+1+(num k).length<=1000000;omega
 cases e:hU.lookup k with
 |none=>exact absurd hk ((zvn pm).mp e)
 |some h=>
  have hm:=zXq e;have h1:=r.home _ hm;have kZ:=w.rl
  have h2:h<10:=by
   obtain⟨t,_,e2⟩:=List.mem_map.mp h1;have:hmN R.length k t<R.length:=Nat.mod_lt _ (by omega);have e2:hmN R.length k t=h:=e2;omega
  refine zKs (d.sh.keep k1) hk6 e h2 λO2 k2 s2=>q h _ h2 ((KB.of_keep k1).trans k2) ⟨_,⟨?_,s2⟩,zCs r,?_,λx hx=>hb x (List.mem_filter.mp hx).1⟩
  ·exact k2.at_ _ _ (by simpa using d.nm.2) (k1 _ _ d.at_)
  ·have e3:(zdv hU k).map (·.1)=(hU.map (·.1)).filter λx=>decide (x≠k):=by
    unfold zdv;rw[List.filter_map];rfl
   rw[e3];exact pm.filter _
def zwq(h:Ds O n m p R ts T)(pS:S.Perm T)(hS:S.Pairwise (· < ·))(q:∀O',tm O O'->Q (.str (zoo S)) O'):WF zW [.loc n,.str "keys"] O Q:=by
 obtain⟨hU,d,r,pm,hb⟩:=h;refine z2q (c:="keys") (ws:=[]) (z:="") (rest:="") (.inr (.inr ⟨rfl,rfl⟩)) ?_ ?_ (by decide) (by rfl) (by rfl) d λO1 k1=>?_
 ·have:xQ "keys" " " = [("keys":yj)]:=zhf (parts:=[("keys":yj)]) blank (by decide +kernel) (by simp) (by decide +kernel);rw[this];rfl
 ·decide +kernel
 ·exact zUr (d.sh.keep k1) ⟨pS.trans pm,hS⟩ (λx hx=>hb x (pS.mem_iff.mp hx)) λO2 k2=>q _ (k1.trans k2)
def zus(w:Rl R' ts')(hr:∀r∈R',r<=9)(h:Ds O n m p R ts T)(hF:zLg R' (zlf R' ts' T))(q:∀O',KB [m,p] O O'->Ds O' n m p R' ts' T->Q (.str "ok") O'):WF zW [.loc n,.str ("renew " ++ zAl R' (wt ts'))] O Q:=by
 obtain⟨hU,d,r,pm,hb⟩:=h;obtain⟨S,K⟩:=Tj.ex d.sh.nd;have pS:S.Perm T:=K.pm.trans pm.symm;have e5:("renew ":yj)="renew" ++ " ":=by decide +kernel
 have hf:=zGg (c:="renew") (.inr (.inr (.inl rfl)));have wr:=w.rt hr;rw[e5];refine z2q (ws:=zDb R'::(wt ts').map zDb) (.inl ⟨rfl,by simp⟩) ?_ (zGi hf) ?_ (by rfl) (by rfl) d λO1 k1=>?_
 ·rw[(zOi (by simp)).symm,zhf blank (by decide +kernel) (by simp) λx hx=>?_,Nf];rcases List.mem_cons.mp hx with rfl|hx
  ·exact hf
  ·exact zfj x hx
 ·rw[zld,zld];have h2:=zge (z:=" ") wr.short (by decide) (by rw[Lr,Lu];have:=wr.wl;omega) (by decide);have h1:=wr.wl;rw[Lr,Lu]at h2;have h3:(" ":yj).length=1:=rfl;rw[h3]at h2;show 5+1+(YX " " (zDb R'::(wt ts').map zDb)).length<=1000000;omega
 ·refine zEp w hr (d.sh.keep k1) K (λx hx=>hb x (pS.mem_iff.mp hx)) (zck (pm.nodup_iff.mpr d.sh.nd) pS hF) λhs O2 hl rt k2 s2=>?_;obtain⟨r2,pm2⟩:=zOp d.sh.nd K hl rt;exact q _ ((KB.of_keep k1).trans k2) ⟨_,⟨k2.at_ _ _ (by simpa using d.nm) (k1 _ _ d.at_),s2⟩,r2,pS.symm.trans pm2,hb⟩
variable {J:M.Loc}
def Ds.perm{T':Qf}(h:Ds O n m p R ts T)(pm:T'.Perm T):Ds O n m p R ts T':=by
 obtain⟨hU,d,r,pm2,hb⟩:=h;exact⟨hU,d,r,pm.trans pm2,λx hx=>hb x (pm.mem_iff.mp hx)⟩
def Ds.ne(h:Ds O n m p R ts T)(e:O[l]?=some (.lst xs)):l≠n/\l≠m/\l≠p:=by
 obtain⟨hU,d,_⟩:=h;refine⟨?_,?_,?_⟩
 ·rintro rfl;rw[d.at_]at e;cases e
 ·rintro rfl;rw[d.sh.at_]at e;cases e
 ·rintro rfl;rw[d.sh.dc]at e;cases e
def Ds.lst(h:Ds O n m p R ts T)(e:O[l]?=some (.lst xs))(k:KB [m,p] O O'):O'[l]?=some (.lst xs):=by
 have:=h.ne e;exact k.at_ _ _ (by simp;omega) e
def Ds.pen(h:Ds O n m p R ts T)(pn:Pen O l B)(k:KB [m,p] O O'):Pen O' l B:=by
 obtain⟨f,c,z,a,e,q⟩:=pn;exact⟨f,c,z,a,h.lst e k,q⟩
def Ds.SB(h:Ds O n m p R ts T)(pn:Pen O l B)(k:KB [l] O O'):Ds O' n m p R ts T:=by
 obtain⟨f,c,z,a,e,_⟩:=pn;have:=h.ne e;exact h.kb (by simp;omega) (by simp;omega) (by simp;omega) k
def kb2(k:KB [p] O O'):KB [m,p] O O':=k.sub λx hx =>.inl (by simp at hx ⊢;exact .inr hx)
def zlu(h:∀x∈c.cps.toList,x<128):Yw (c ++ " " ++ zJg V)=true:=zfp λx hx=>by
 rw[zmd,zmd,blank]at hx;rcases List.mem_append.mp hx with hx|hx
 ·rcases List.mem_append.mp hx with hx|hx
  ·exact h x hx
  ·have:=List.mem_singleton.mp hx;omega
 ·rw[zJg,zqh]at hx;rcases z6j hx with hx|⟨y,hy,hx⟩
  ·rw[blank]at hx;have:=List.mem_singleton.mp hx;omega
  ·obtain⟨k,_,rfl⟩:=List.mem_map.mp hy;rw[zxc]at hx;have:=zsg _ _ hx;omega
def zrt:Yw (zJg V)=true:=zfp λx hx=>by
 rw[zJg,zqh]at hx;rcases z6j hx with hx|⟨y,hy,hx⟩
 ·rw[blank]at hx;have:=List.mem_singleton.mp hx;omega
 ·obtain⟨k,_,rfl⟩:=List.mem_map.mp hy;rw[zxc]at hx;have:=zsg _ _ hx;omega
def zTz{X:Qf}(h0:X≠[])(hl:X.length<=31)(hX:∀k∈X,k<10^60):Rw (X.map num) :=
 ⟨λe=>h0 (List.map_eq_nil_iff.mp e),by rw[Lu];exact hl,λy hy=>⟨yA (zfe hX y hy) (by decide),zro y hy⟩⟩
def zlt{G:FE}(hi:J[i]?=some (some (.loc n)))(h:WE G J O λx O1=>x=.int (k:Nat)/\k<10^60/\c.length<=10/\Ds O1 n m p R ts T/\WF zW [.loc n,.str (c++num k)] O1 Q)(hd:Ds O n m p R ts T):WE (zw zW (zgc "Desk" "say" (zp i) (zi (zy zpg (fC (.str c)) (zw zkf (zi G zC))) zC))) J O Q:=by
 obtain⟨d,O1,e,rfl,hk,hc,_,q⟩:=h;have:=(zTe hk).2;refine zt (zKe (zf hi ⟨n,_,rfl,hd.at,zBj,ze (zu (w_c (zt (ze ⟨_,_,e,zr (z8h (z1g hk) (zhk ?_ (zr q)))⟩))))⟩));show c.length+(num k).length<=1000000;omega
def zTw{j:Nat}(hi:J[i]?=some (some (.loc n)))(hj:J[j]?=some (some (.int (k:Nat))))(w:Rl R ts)(h:Ds O n m p R ts T)(hk:k<10^60)(hkT:k∉T)(qf:∀O',T.length=30\/¬zLg R (zlf R ts (T++[k]))->tm O O'->Q (.str "full") O')(q:∀O',KB [p] O O'->Ds O' n m p R ts (T++[k])->Q (.str "put") O') :
 WE (zy gIx (z2c ztg (zw zW (zgc "Desk" "say" (zp i) (zi (zy zpg (fC (.str "put ")) (zw zkf (zi (zp j) zC))) zC))) (zi (fC (.str " ")) zC)) (fC (.int 0))) J O Q:=by
 refine zu (zMd (zlt hi (zf hj ⟨rfl,hk,by decide,h,?_⟩) h));refine z2m w h hk (λO' hm _=>absurd hm hkT) (λV O1 _ pV hkV hV hl hf k1=>?_) λws O1 _ hw k1 d1=>?_
 ·have hrw:=zTz (List.ne_nil_of_mem hkV) hl hV
  have kA:("full" ++ " " ++ zJg V:yj).length<=1000000:=by
   rw[zld,zld];have:(zJg V).length<=3000:=zHu hrw;show 4+1+_<=_;omega
  refine⟨_,rfl,ze (w_c (zr (zRk (zcn hrw (zGg (.inr (.inr (.inr rfl))))) kA (z8i blank) (w_c (zPc (zz zq) (show atI _ ((0:Nat):Int)=_ from zed rfl) (qf _ ?_ k1.to))))))⟩;rcases hf with ⟨h1,_⟩|⟨_,h2⟩
  ·exact .inl h1
  ·exact .inr h2
 ·have kA:("put" ++ " " ++ YX " " ws:yj).length<=1000000:=by
   rw[zld,zld];have:=zHu hw;show 3+1+_<=_;omega
  exact⟨_,rfl,ze (w_c (zr (zRk (zcn hw (zGg (.inl rfl))) kA (z8i blank) (w_c (zPc (zz zq) (show atI _ ((0:Nat):Int)=_ from zed rfl) (q _ k1.app (d1.keep .app)))))))⟩
def zgu{f kl:Nat}(w:Rl R ts)(h:Ds O n m p R ts [])(pn:Pen O l B)(hf:f<10^59)(gA:O[kl]?=some (.lst (nat ((yz 60).map (f + ·)))))
 (q:∀(T:Qf)(t:Nat)(O':Mem),Ds O' n m p R ts T->Pen O' l B->O'[t]?=some (.lst (nat T))->(∀x∈T,f<=x/\x<f+60)->Q (.loc t) O'):WF z4d [.loc n,.loc kl] O Q:=by
 refine zHb rfl ?_;show WS z8d [some (.loc n),some (.loc kl),none,none,none] O _ _ _ _;unfold z8d;refine zB (zGb (zTg (zr ?_)));have h1:Ds (O++[tu.lst []]) n m p R ts []:=h.keep .app;have p1:Pen (O++[tu.lst []]) l B:=pn.app;have g1:(O++[tu.lst []])[kl]?=some (.lst (nat ((yz 60).map (f + ·)))):=zO gA;have t1:(O++[tu.lst []])[O.length]?=some (.lst (nat [])):=zq;have lt1:l≠O.length/\kl≠O.length:=⟨yC pn.lt,yC (zR gA)⟩
 generalize O++[tu.lst []]=O1 at h1 p1 g1 t1;generalize O.length=t at t1 lt1;refine zB (zYi (zOd (zf rfl (.inr (.inr ⟨kl,_,rfl,g1,?_⟩)))));refine zNd (λi J ν=>∃(x3 x4:Wn)(T:Qf),J=[some (.loc n),some (.loc kl),some (.loc t),x3,x4]/\Ds ν n m p R ts T/\Pen ν l B/\ν[kl]?=some (.lst (nat ((yz 60).map (f + ·))))/\ν[t]?=some (.lst (nat T))/\∀x∈T,f<=x/\x<f+i) ⟨_,_,[],rfl,h1,p1,g1,t1,by simp⟩ ?_ ?_ ?_
 ·rintro i J ν ⟨x3,x4,T,rfl,_,_,g,_⟩;exact Tu.mpr g
 ·rintro i x J ν hx ⟨x3,x4,T,rfl,hd,hp,g,gt,hT⟩;rw[yk,yk]at hx
  have hi:i<60:=by
   rcases Nat.lt_or_ge i 60 with h|h
   ·exact h
   ·rw[Yy (by simpa using h)]at hx;cases hx
  rw[yE (by simpa using hi),List.getElem_range]at hx;simp only[xF,Xi]at hx;subst hx;have few:=hd.few;refine zmf ?_;unfold zug;refine zih (zL (zu (zt (ze (zf rfl (zr (zuj (zz gt) (w_c (z6i ⟨_,rfl,λh30=>?_,λ_=>zub ⟨_,_,T,rfl,hd,hp,g,gt,λx hx=>by have:=hT x hx;omega⟩⟩)))))))));have h30:=of_decide_eq_true h30;rw[Lu]at h30
  have hk:f+i<10^60:=by
   have:(10:Nat)^59+60<10^60:=by decide
   omega
  have hkT:f+i∉T:=λhm=>by have:=hT _ hm;omega
  refine zB (zGb (zTw (k:=f+i) rfl rfl w hd hk hkT (λν1 _ k1=>?_) λν1 k1 d1=>?_))
  ·refine zih (zL (zu (zf rfl (w_c (zYe ⟨_,rfl,λh=>absurd h (by decide +kernel),λ_=>?_⟩)))));refine zih (zL (zu (zf rfl (w_c (zou ⟨_,rfl,λh=>absurd h (by decide +kernel),λ_=>zub ?_⟩)))));exact⟨_,_,T,rfl,hd.keep k1,hp.kb (L:=[]) (KB.of_keep k1) (by simp),k1 _ _ g,k1 _ _ gt,λx hx=>by have:=hT x hx;omega⟩
  ·have k2:KB [m,p] ν ν1:=kb2 k1;have gt1:=hd.lst gt k2;refine zih (zL (zu (zf rfl (w_c (zYe ⟨_,rfl,λ_=>?_,λh=>absurd h (by decide +kernel)⟩)))));refine zVn (zar (zf rfl ⟨_,_,rfl,gt1,ze (zf rfl (zr (zbn gt1 (by rw[Lu];omega) ?_)))⟩));have e1:nat T++[D.int ((f+i:Nat):Int)]=nat (T++[f+i]):=by simp[nat]
   rw[e1];have ne:=d1.ne gt1;have k3:KB [t] ν1 (ν1.set t (.lst (nat (T++[f+i])))):=KB.refl.set (.inl (by simp));refine⟨_,_,T++[f+i],rfl,d1.kb (by simp;omega) (by simp;omega) (by simp;omega) k3,(hd.pen hp k2).kb k3 (by simpa using lt1.1),k3.at_ _ _ (by simpa using lt1.2) (hd.lst g k2),zEb gt1,λx hx=>?_⟩;rcases List.mem_append.mp hx with hx|hx
   ·have:=hT x hx;omega
   ·have:=List.mem_singleton.mp hx;omega
 ·rintro J ν ⟨x3,x4,T,rfl,hd,hp,g,gt,hT⟩;refine zLb (zf rfl (q T t ν hd hp gt λx hx=>?_));have:=hT x hx;rw[Lu,Lu,Lv]at this;exact this
def zWk{t:Nat}(hT:O[t]?=some (.lst (nat T)))(hV:V.Perm (T++[k]))(pV:V.Pairwise (· < ·))(hl:T.length<=30)(hb:∀x∈V,x<10^60)(q:∀O',tm O O'->Q (.str ("full" ++ " " ++ zJg V)) O'):WF z0b [.loc t,.int (k:Nat)] O Q:=by
 have lV:=hV.length_eq;rw[Lq,Lx]at lV;refine zHb rfl ?_;show WS zFc [some (.loc t),some (.int (k:Nat))] O _ _ _ _;unfold zFc;have e1:nat T++[D.int (k:Nat)]=nat (T++[k]):=by simp[nat]
 have g0:((O++[tu.lst [D.str "full"]])++[tu.lst [D.int (k:Nat)]])[t]?=some (.lst (nat T)):=zO (zO hT);refine zLb (zMd (w_c ⟨_,rfl,ze (zu (zTg (ze (w_c (zr (zQj (zOd (zt (ze (zu (zf rfl (zTg (ze (zf rfl (zr (z8k g0 zq (by rw[Lu];show _+1<=_;omega) ?_))))))))))))))))⟩));rw[e1];refine zr (zAk zq hV pV (by rw[Lq];show _+1<64;omega) (.inr (.inr ⟨_,_,rfl,zq,zKb (by rw[Lu];omega),?_⟩)));refine zic (λ(n:Nat)=>D.int n) V (λn =>.str (num n)) (λO' k=>zrb zq k) (λx hx O' kp=>?_) (λO2 k2=>?_)
 ·refine zmf ?_;unfold zGe;exact zt (ze (zf rfl (zr (z8h (z1g (hb x hx)) ⟨rfl,kp,kp⟩))))
 have g1:(O2++[tu.lst (V.map λn=>D.str (num n))])[O.length]?=some (.lst [D.str "full"]):=zO (k2 _ _ (zO (zO (zO zq))));have k3:tm O O2:=((tm.app.trans .app).trans (tm.app.trans .app)).trans k2;refine z8k g1 zq (by rw[Lu];show 1+_<=_;omega) (zr (zGk (ys:=("full":yj)::V.map num) ?_ ?_ ?_))
 ·rw[zq,Nf,Ng];rfl
 ·refine fit (B:=60) (λy hy=>?_) (by decide) (by rw[Lr,Lu];omega) (by decide);rcases List.mem_cons.mp hy with rfl|hy
  ·decide
  ·exact zfe hb y hy
 ·rw[zOi λe=>by rw[List.map_eq_nil_iff.mp e]at lV;simp at lV];exact q _ (k3.trans (tm.app.trans .app))
end
def zWy{p q:FS}{rt:Wr}(I:M.Loc->Mem->Prop)(h1:WS p J O I rt bk ct)(h2:∀J' O',I J' O'->WS q J' O' nx rt bk ct):WS (zfb p q) J O nx rt bk ct:=by
 refine zB ?_;obtain⟨o,e,h⟩:=h1;refine⟨o,e,?_⟩
 cases o with
 |next J' O'=>exact h2 _ _ h
 |ret=>exact h
 |brk=>exact h
 |cont=>exact h
 |exc=>exact h
def zPq{s:Nat}(h:Pen O l B)(hB:B<=1000000000)(h0:0<s)(h1:s<10^60)
 (q:∀(v:Nat) O',v<s->KB [l] O O'->Pen O' l (B+1)->Q (.int v) O'):WF zM [.loc l,.int (s:Nat)] O Q :=
 z0s h hB (by omega) (by omega) λv O' a b k _ p=>by
  have:=q v.toNat O' (by omega) k p
  rwa [Int.toNat_of_nonneg a]at this
def z8x(n k c:Nat)(t:Nat×Nat):hmN n (k+10007*c) t=hmN n k t:=by
 unfold hmN;rw[Nat.mul_add,show t.1*(10007*c)=10007*(t.1*c) by rw[Nat.mul_left_comm],Nat.add_right_comm,Nat.add_mul_mod_self_left]
def zAv :∀h:Nat,h<10->Yc (.str (lt h)) (.str ("nowhere":yj))=false:=by decide +kernel
def z2B(hh:h<10):Yw (lt h)=true:=zfp λc hc=>by
 have:c=97+h:=List.mem_singleton.mp hc;omega
def bnd(i:Nat):Nat:=60+900630*i
def zSz(h:i<4):bnd i<=4000000/\bnd (i+1)=bnd i+900630:=by unfold bnd;omega
abbrev δ67(ns:Qg)(R:Qf)(ts:Qe)(l n m p f:Nat)(i:Nat)(J:M.Loc)(ν:Mem):Prop:=∃(x6 x7 x8 x9:Wn)(t:Nat)(T:Qf),J=[some (.fz (ns.map .int)),some (.loc l),some (rlN R ts),some (.loc n),some (.int (f:Nat)),some (.loc t),x6,x7,x8,x9,none]/\Ds ν n m p R ts T/\Pen ν l (120000+10*i)/\ν[t]?=some (.lst (nat T))/\T.length=30/\∀x∈T,f<=x/\x<f+bnd i
def Pen.list{t:Nat}(h:Pen O l B)(g:O[t]?=some (.lst (nat T)))(hT:T.length≠4):t≠l:=by
 obtain⟨a,b,c,d,e,_⟩:=h;rintro rfl;rw[g]at e;have:=congrArg (λo=>match o with|some (.lst xs)=>xs.length|_=>0) e;simp[nat]at this;exact hT this
def zux{ns:Qg}{p f:Nat}{ν:Mem}{rt:Wr}(w:Rl R ts)(hf:f<10^59)(hi:i<4)(h:δ67 ns R ts l n m p f i J ν):WS zxm (J.set 6 (some (.int (i:Nat)))) ν (δ67 ns R ts l n m p f (i+1)) rt bk ct:=by
 obtain⟨x6,x7,x8,x9,t,T,rfl,hd,hp,gt,hT,hb⟩:=h;have e9:(10:Int)^(9:Int).toNat=((1000000000:Nat):Int):=by decide
 obtain⟨b1,b2⟩:=zSz hi;have c60:(10:Nat)^59+10000000000<10^60:=by decide
 show WS zxm [some (.fz (ns.map .int)),some (.loc l),some (rlN R ts),some (.loc n),some (.int (f:Nat)),some (.loc t),some (.int (i:Nat)),x7,x8,x9,none] ν _ _ _ _;unfold zxm;refine zB (zGb (zu (zu (zf rfl (zu (w_c (w_c (zsp (by decide) (by decide) (by decide) (zUi (zt (ze (zf rfl (ze (zu (w_c (w_c (zsp (by decide) (by decide) (by decide) (zr ?_))))))))))))))))));rw[e9];refine zPq hp (by omega) (by decide) (by decide) λv1 ν1 hv1 k1 p1=>zUi ?_;have en:((f:Nat):Int)+((1000000000:Nat):Int)+(v1:Nat)=((f+1000000000+v1:Nat):Int):=by omega
 rw[en];clear en e9;obtain⟨nw,hnw⟩:∃nw,nw=f+1000000000+v1:=⟨_,rfl⟩
 rw[<-hnw];have d1:=hd.SB hp k1;have tl:t≠l:=hp.list gt (by omega);have g1:=k1.at_ _ _ (by simpa using tl) gt;refine zB (zGb (zu (zf rfl (zt (ze (zf rfl (ze (w_c (zr (zAd (s:=30) p1 (by omega) (by omega) (by omega) λv2 ν2 hv2 k2 p2=>zPc (zz (k2.at_ _ _ (by simpa using tl) g1)) (zBn (by omega)) ?_))))))))));have d2:=d1.SB p1 k2;have g2:=k2.at_ _ _ (by simpa using tl) g1;have ho:T.getD v2 0∈T:=by rw[Lo,yE (by omega)];exact Lp _
 generalize T.getD v2 0=old at ho;have hob:=hb old ho;have hnT:nw∉T:=λhm=>by have:=hb nw hm;omega
 have hn60:nw<10^60:=by omega
 have ho60:old<10^60:=by omega
 refine zB (zih (zzj (zL (zu (zlt rfl (zf rfl ⟨rfl,hn60,by decide,d2,z2m w d2 hn60 (λ_ hm _=>absurd hm hnT) (λV ν3 _ pV hkV hV hl hF k3=>?_) λws ν3 _ hw k3 d3=>?_⟩) d2)))))
 rotate_left
 ·have:=d3.few;rw[Lq,hT]at this;simp at this
 have hVp:V.Perm (T++[nw]):=by
  rcases hF with ⟨_,h⟩|⟨h,_⟩
  ·exact h
  ·omega
 have d3:=d2.keep k3;refine zt (ze (zf rfl (ze (zf rfl (zr (zWk (k3 _ _ g2) hVp pV (by omega) hV λν4 k4=>zRj (zlu (by decide +kernel)) ⟨_,rfl,λ_=>?_,λh=>(by cases h)⟩))))));have d4:=d3.keep k4;refine zL (zu (zlt rfl (zf rfl ⟨rfl,ho60,by decide,d4,z2m w d4 ho60 (λν5 _ k5=>w_c (zRj (by decide +kernel) ⟨_,rfl,λh=>(by cases h),λ_=>zub ?_⟩)) (λ_ _ hn _ _ _ _ _ _=>absurd ho hn) λ_ _ hn _ _ _=>absurd ho hn⟩) d4));have d5:=d4.keep k5;have k25:=k3.trans (k4.trans k5);have g5:=k25 _ _ g2;have p5:Pen ν5 l (120000+10*i+2):=(p2.kb (L:=[]) (KB.of_keep k25) (by simp)).mono (by omega);refine zB (zih (zL (zu (zlt rfl (zf rfl ⟨rfl,ho60,by decide,d5,zCy w d5 ho λh ν6 hh k6 d6=>w_c (zYe ?_ (z2B hh))⟩) d5))));rw[zAv h hh];refine⟨_,rfl,λh=>(by cases h),λ_=>zub ?_⟩;have k6':KB [m,p] ν5 ν6:=kb2 k6;have g6:=d5.lst g5 k6';have p6:=d5.pen p5 k6';refine zB (zGb (zu (zf rfl (zu (w_c (zu (w_c (zt (ze (zf rfl (ze (w_c (zr (zAd (s:=90) p6 (by omega) (by omega) (by omega) λv3 ν7 hv3 k7 p7=>zUi (zWx (zZu (by omega) (by omega)) (zUi ?_))))))))))))))));have el:((old:Nat):Int)+10007*(1+(v3:Nat))=((old+10007*(1+v3):Nat):Int):=by omega
 rw[el];clear el;have tl7:t≠l:=p6.list g6 (by omega);have g7:=k7.at_ _ _ (by simpa using tl7) g6;have d7:=d6.SB p6 k7;have hnd:=hd.nd
 have pT:(T.filter (λx=>decide (x≠old))++[old]).Perm T:=by
  refine(YY ?_ hnd).mpr λx=>?_
  ·rw[Nr];exact⟨hnd.filter _,by simp,λa ha b hb=>by simp at ha hb;omega⟩
  ·simp;constructor
   ·rintro(⟨h,_⟩|rfl)
    ·exact h
    ·exact ho
   ·intro h
    by_cases hx:x=old
    ·exact .inr hx
    ·exact .inl ⟨h,hx⟩
 have l1:(T.filter λx=>decide (x≠old)).length=29:=by
  have:=pT.length_eq;rw[Lq,Lx]at this;omega
 have f1:zLg R (zlf R ts (T.filter (λx=>decide (x≠old))++[old])):=zck hnd pT hd.fits;have kX:∀x∈T.filter (λx=>decide (x≠old)),x∈T/\x≠old:=λx hx=>by simpa using hx
 refine zWy (λJ ν=>∃(x7:Wn)(t' lk:Nat)(T':Qf),J=[some (.fz (ns.map .int)),some (.loc l),some (rlN R ts),some (.loc n),some (.int (f:Nat)),some (.loc t'),some (.int (i:Nat)),x7,some (.int (old:Nat)),some (.int (lk:Nat)),none]/\tm ν7 ν/\ν[t']?=some (.lst (nat T'))/\T'.Perm (T.filter (λx=>decide (x≠old))++[lk])/\lk∉T.filter (λx=>decide (x≠old))/\zLg R (zlf R ts (T.filter (λx=>decide (x≠old))++[lk]))/\f<=lk/\lk<f+bnd (i+1)) ?_ ?_
 ·refine zih (zL (zu (zf rfl (zf rfl (zwm (zz g7) ⟨_,rfl,λhin=>?_,λ_=>?_⟩)))))
  ·have hin:old+10007*(1+v3)∉T:=by simpa using hin
   refine zGb (zu (zQj (zOd (zf rfl (.inr (.inr ⟨t,_,rfl,g7,zKb (by rw[Lu];omega),?_⟩))))));refine zVm (λ(k:Nat)=>D.int k) T (λ(k:Nat)=>D.int k) (λx=>decide (x≠old)) (λO' k=>zrb g7 k) (λx hx O' kp=>?_) (λν8 k8=>?_)
   ·refine zmf ?_;unfold zRs zNs;refine zL (zu (zf rfl (zf rfl (zkA ⟨_,rfl,?_,kp,λ_=>zf rfl ⟨rfl,kp⟩⟩))));rw[Bool.eq_iff_iff];simp;omega
   ·have e1:(T.filter λx=>decide (x≠old)).map (λ(k:Nat)=>D.int k)++[D.int ((old+10007*(1+v3):Nat):Int)]=nat (T.filter (λx=>decide (x≠old))++[old+10007*(1+v3)]):=by simp[nat]
    refine zTg (ze (zf rfl (zr (z8k (zO zq) zq ?_ ?_))))
    ·rw[Lu];show _+1<=_;omega
    ·rw[e1];refine⟨_,_,old+10007*(1+v3),_,rfl,k8.trans ((tm.app.trans .app).trans .app),zq,.refl _,λhm=>hin (kX _ hm).1,?_,by omega,by omega⟩
     have e2:zlf R ts (T.filter (λx=>decide (x≠old))++[old+10007*(1+v3)])=zlf R ts (T.filter (λx=>decide (x≠old))++[old]):=by
      unfold zlf;rw[Nc,Nc]
      congr 1
      simp only[Nf,Nh,YJ,and_true];exact Nd λt _=>z8x R.length old (1+v3) t
     rw[e2];exact f1
  ·exact zGb (zf rfl ⟨_,t,old,T,rfl,.refl,g7,pT.symm,λhm=>(kX _ hm).2 rfl,f1,by omega,by omega⟩)
 rintro J ν8 ⟨y7,t',lk,T',rfl,k8,g8,pm8,gD,f8,hl1,hl2⟩;have d8:=d7.keep k8;have hl60:lk<10^60:=by omega
 have p8:Pen ν8 l (120000+10*i+4):=(p7.kb (L:=[]) (KB.of_keep k8) (by simp)).mono (by omega);refine zB (zih (zL (zu (zTw (k:=lk) rfl rfl w d8 hl60 gD (λ_ hF _=>?_) λν9 k9 d9=>?_))))
 ·rcases hF with h|h
  ·omega
  ·exact absurd f8 h
 refine w_c (zou ⟨_,rfl,λh=>absurd h (by decide +kernel),λ_=>zub ?_⟩);have k9':KB [m,p] ν8 ν9:=kb2 k9;have g9:=d8.lst g8 k9';have p9:=d8.pen p8 k9';have d9:=d9.perm pm8;have hT':T'.length=30:=by rw[pm8.length_eq,Lq,Lx,l1]
 obtain⟨V,pV,hV⟩:=znq d9.nd;have lV:=pV.length_eq;have hV0:V≠[]:=List.length_pos_iff.mp (by omega);have hV60:∀x∈V,x<10^60:=λx hx=>d9.big x (pV.mem_iff.mp hx);refine zih (zL (zu (zt (zKe (zf rfl ⟨n,_,rfl,d9.at,zBj,ze (w_c (zr (zwq d9 pV hV λν10 k10=>?_)))⟩)))));have ek:zoo V=zJg V:=if_neg hV0;rw[ek];refine zMd (w_c ⟨_,rfl,ze (zQj (zOd (zt (ze (zf rfl (zr (zAk (k10 _ _ g9) pV hV (by omega) (.inr (.inr ⟨_,_,rfl,zq,zKb (by rw[Lu];omega),?_⟩)))))))))⟩);refine zic (λ(n:Nat)=>D.int n) V (λn =>.str (num n)) (λO' k=>zrb zq k) (λx hx O' kp=>?_) (λν11 k11=>?_)
 ·refine zmf ?_;unfold zbt;exact zt (ze (zf rfl (zr (z8h (z1g (hV60 x hx)) ⟨rfl,kp,kp⟩))))
 refine zr (zGk (ys:=V.map num) (by rw[zq,Ng];rfl) (zPm hV60 (by omega)) (zRj zrt ⟨_,rfl,λh=>(by cases h),λ_=>zub ?_⟩));have kk:tm ν9 (ν11++[tu.lst (V.map λn=>D.str (num n))]):=k10.trans (tm.app.trans k11.to);refine⟨_,_,_,_,t',T',rfl,d9.keep kk,(p9.kb (L:=[]) (KB.of_keep kk) (by simp)).mono (by omega),kk _ _ g9,hT',λx hx=>?_⟩;rcases List.mem_append.mp (pm8.mem_iff.mp hx) with h|h
 ·have:=hb x (kX x h).1;omega
 ·rw[List.mem_singleton.mp h];exact⟨hl1,by omega⟩
def wd(r:Nat):Nat:=if r+1<9 then r+1 else 9
def Rl.wide(w:Rl R ts):Rl (R.map wd) ts/\∀r∈R.map wd,r<=9:=by
 refine⟨⟨by rw[Lu];exact w.rl,w.tl,w.tn⟩,λr hr=>?_⟩;obtain⟨x,_,rfl⟩:=List.mem_map.mp hr;unfold wd
 split<;>omega
def zhu(hr:∀r∈R,r<=9)(h:zLg R (zlf R ts T)):zLg (R.map wd) (zlf (R.map wd) ts T):=by
 have e:zlf (R.map wd) ts T=zlf R ts T:=by unfold zlf;rw[Lu]
 rw[e];obtain⟨hZ,r,hw⟩:=h;refine⟨hZ,⟨r.len,r.home,λv=>yA (r.room v) ?_⟩,hw⟩;rw[Lo,Lo,yk]
 cases e:R[v]? with
 |none=>exact yo _
 |some x=>
  have:=hr x (No e);show x<=wd x;unfold wd
  split<;>omega
def zcr(h:Yw s=true)(q:Q (.bl true) O):W2 gEq (.str s) (.str s) O Q:=z9B (zSg h) (zSg h) q
def ztA{p t:Nat}(h3:J[3]?=some (some (.loc n)))(h5:J[5]?=some (some (.loc t)))(hd:Ds O n m p R ts T)(g:O[t]?=some (.lst (nat T)))(q:∀O',Q (.bl true) O') :
 WS (zbc (zy gEq (zw zW (zgc "Desk" "say" (zp 3) (zi (fC (.str "keys")) zC))) (z2c z2i (fC (.str " ")) (zi (zy zah (fLC 1 [] (zWf (zw zkg (zi (zp 5) zC))) (gN 0) zph zTp) (zy zvj (zsl (zi (fC (.str "none")) zC)) (zw z9y (zi (zy gEq (zp 5) (zsl zC)) zC)))) zC)))) J O nx Q bk ct:=by
 obtain⟨V,pV,hV⟩:=znq hd.nd;have few:=hd.few;have lV:=pV.length_eq;have hV60:∀x∈V,x<10^60:=λx hx=>hd.big x (pV.mem_iff.mp hx);refine zLb (zu (zt (zKe (zf h3 ⟨n,_,rfl,hd.at,zBj,ze (w_c (zr (zwq hd pV hV λO1 k1=>?_)))⟩))));refine zMd (w_c ⟨_,rfl,ze (zu (zQj (zOd (zt (ze (zf h5 (zr (zAk (k1 _ _ g) pV hV (by omega) (.inr (.inr ⟨_,_,rfl,zq,zKb (by rw[Lu];omega),?_⟩))))))))))⟩);refine zic (λ(n:Nat)=>D.int n) V (λn =>.str (num n)) (λO' k=>zrb zq k) (λx hx O' kp=>?_) (λO2 k2=>?_)
 ·refine zmf ?_;unfold zTp;exact zt (ze (zf rfl (zr (z8h (z1g (hV60 x hx)) ⟨rfl,kp,kp⟩))))
 have g2:(O2++[tu.lst (V.map λn=>D.str (num n))])[t]?=some (.lst (nat T)):=zO (k2 _ _ (zO (k1 _ _ g)));have gv:(O2++[tu.lst (V.map λn=>D.str (num n))])[O2.length]?=some (.lst ((V.map num).map D.str)):=by rw[zq,Ng];rfl
 generalize O2++[tu.lst (V.map λn=>D.str (num n))]=O3 at g2 gv;generalize O2.length=vl at gv;have gn:((O3++[tu.lst [D.str "none"]])++[tu.lst []])[O3.length]?=some (.lst [D.str "none"]):=zO zq;refine zu (zTg (ze (w_c (zr (zt (ze (zu (zf h5 (zTg (zr (zSy (α:=Nat) T [] (zO (zO g2)) zq (zr (zOw (z1w gn (by split<;>omega) (by split<;>omega) (by decide) ?_))))))))))))));refine z8k (zO (zO (zO gv))) zq ?_ (zr ?_)
 ·rw[Lu,Lu]
  split<;>simp<;>omega
 have ej:((V.map num).map D.str++(yy ((if decide (T=[])=true then(1:Int) else 0)).toNat [D.str "none"]).flatten)=(V.map num++(if T=[] then[("none":yj)] else[])).map D.str:=by
  by_cases h:T=[]
  ·simp[h]
  ·simp[h]
 have et:YX " " (V.map num++(if T=[] then[("none":yj)] else[]))=zoo V:=by
  by_cases h:T=[]
  ·have:V=[]:=List.length_eq_zero_iff.mp (by rw[lV,h];rfl);subst this;simp[h,zoo];decide +kernel
  ·have:V≠[]:=λe=>h (List.length_eq_zero_iff.mp (by rw[<-lV,e];rfl));rw[if_neg h,Lg];exact(if_neg this).symm
 refine zGk (ys:=V.map num++(if T=[] then[("none":yj)] else[])) (by rw[zq,ej]) (fit (B:=60) (λy hy=>?_) (by decide) ?_ (by decide)) ?_
 ·rcases List.mem_append.mp hy with hy|hy
  ·exact zfe hV60 y hy
  ·split at hy
   ·rw[List.mem_singleton.mp hy];decide
   ·simp at hy
 ·rw[Lq,Lu]
  split<;>simp<;>omega
 ·rw[et];refine zcr ?_ (q _);unfold zoo
  split
  ·decide +kernel
  ·exact zrt
def znv(ns:Qg):WF zXr [.fz (ns.map .int)] [] λd _=>d=.bl true:=by
 refine zHb rfl ?_;show WS zCv [some (.fz (ns.map .int)),none,none,none,none,none,none,none,none,none,none] [] _ _ _ _;unfold zCv;refine zB (zGb (zt (ze (zf rfl (ze (w_c (zr (zyz (by omega) (by omega) λO1 k1 p1 _=>?_))))))));generalize ([]:Mem).length=l at p1;refine zB (zGb (zt (ze (zf rfl (zr (z1t p1 (by omega) λR ts O2 w hr k2 p2=>?_))))));refine zB (zGb (z0w (ze (zt (ze (zf rfl (zr (zhm w hr λO3 k3=>zr ?_))))))));refine z3x w hr zq λm p O4 k4 hm hp dk=>⟨rfl,?_⟩
 have p3:Pen O3 l (101000+100):=p2.kb (L:=[]) (KB.of_keep k3) (by simp);have p4:Pen O4 l (101000+100):=p3.app.kb k4 (by have:=p3.lt;simp;omega);have d4:Ds O4 O3.length m p R ts []:=⟨[],dk,⟨by simp,by simp⟩,.nil,by simp⟩
 generalize O3.length=n at d4;have e29:(10:Int)^(29:Int).toNat=((100000000000000000000000000000:Nat):Int):=by decide
 refine zB (zGb (zu (zTg (ze (zt (ze (zf rfl (ze (w_c (zr (zAd (s:=50) p4 (by omega) (by omega) (by omega) λv1 O5 hv1 k5 p5=>ze (zu (zt (ze (zf rfl (ze (zu (w_c (w_c (zsp (by decide) (by decide) (by decide) (zr ?_)))))))))))))))))))));rw[e29];clear e29;have d5:=d4.SB p4 k5;refine zPq p5 (by omega) (by decide) (by decide) λv2 O6 hv2 k6 p6=>w_c (zsp (by decide) (by decide) (by omega) (zr ?_));have d6:=(d5.SB p5 k6).keep (tm.app (g:=[tu.lst [D.int (v1:Nat),D.int ((v2:Nat)^(2:Int).toNat)]]));have g6:(O6++[tu.lst [D.int (v1:Nat),D.int ((v2:Nat)^(2:Int).toNat)]])[O6.length]?=some (.lst [D.int (v1:Nat),D.int ((v2:Nat)^(2:Int).toNat)]):=zq;have kN:O6.length≠l:=Yo p6.lt;have p6':=p6.app (g:=[tu.lst [D.int (v1:Nat),D.int ((v2:Nat)^(2:Int).toNat)]]);refine zt (ze (zf rfl (ze (w_c (zr (zAd (s:=2) p6' (by omega) (by omega) (by omega) λv3 O7 hv3 k7 p7=>?_))))));have d7:=d6.SB p6' k7
 obtain⟨f,hf,hat⟩:∃f:Nat,f<10^59/\atI [D.int (v1:Nat),D.int ((v2:Nat)^(2:Int).toNat)] (v3:Nat)=some (.int (f:Nat)):=by
  have:v3=0\/v3=1:=by omega
  rcases this with rfl|rfl
  ·exact⟨v1,yv hv1 (by decide),rfl⟩
  ·refine⟨v2*v2,Nat.lt_of_le_of_lt (Nat.mul_le_mul (YI hv2) (YI hv2)) (by decide),?_⟩;show some (D.int (((v2:Nat):Int)^2))=_;rw[Int.pow_succ,Int.pow_succ,Int.pow_zero,Int.one_mul];rfl
 refine zPc (zz (k7.at_ _ _ (by simpa using kN) g6)) hat ?_;refine zB (zGb (zt (ze (zf rfl (ze (zQj (zal (ze (w_c (zr ⟨_,rfl,by omega,by omega,zKb (by simp),?_⟩))))))))));refine zic (λ(k:Nat)=>D.int k) (yz 60) (λk =>.int ((f+k:Nat):Int)) (λ_ _=>rfl) (λx hx O' kp=>?_) (λO8 k8=>?_)
 ·refine zmf ?_;unfold zwt;exact zu (zf rfl (zf rfl (zUi ⟨by congr 1,kp,kp⟩)))
 have e8:(yz 60).map (λk=>D.int ((f+k:Nat):Int))=nat ((yz 60).map (f + ·)):=by rw[zTi]
 rw[e8];have p8:=(p7.kb (L:=[]) (KB.of_keep k8) (by simp)).app (g:=[tu.lst (nat ((yz 60).map (f + ·)))]);refine zr (zgu w (d7.keep k8.to) p8 hf zq λT t O9 d9 p9 g9 hT=>?_);refine zB (zih (zL (zu (zf rfl (w_c ⟨_,_,rfl,_,rfl,λh=>(by cases h),λ_=>zub ?_⟩)))));have few:=d9.few;refine zB (zih (zL (zu (zt (ze (zf rfl (zr (zuj (zz g9) (w_c (z6i ⟨_,rfl,λ_=>ztA rfl rfl d9 g9 λ_=>rfl,λh30=>zub ?_⟩))))))))));have h30:=of_decide_eq_false h30;rw[Lu]at h30;refine zB (zYi (zal (ze (w_c (zr ⟨_,rfl,by omega,by omega,?_⟩)))));refine zNd (δ67 ns R ts l n m p f) ⟨none,none,none,none,t,T,rfl,d9,p9.mono (by omega),g9,by omega,λx hx=>hT x hx⟩ (λ_ _ _ _=>rfl) ?_ ?_
 ·intro i x J ν hx hJ;obtain⟨hi,rfl⟩:=z0j hx;exact zmf (zux w hf hi hJ)
 rintro J ν ⟨x6,x7,x8,x9,t',T',rfl,hd,hp,gt,hT',hb⟩;obtain⟨ww,hw9⟩:=w.wide;have kZ:=w.rl;refine zB (zGb (zKi (ze (zt (ze (zQj (zOd (zu (zf rfl (w_c (zPc rfl (show atI [tn R,.tup (ts.map pr2)] 0=some (tn R) from rfl) (.inl ⟨_,rfl,zKb (by rw[Lu];omega),?_⟩))))))))))));refine zic (λ(n:Nat)=>D.int n) R (λr =>.int (wd r:Nat)) (λ_ _=>rfl) (λx hx O' kp=>?_) (λν1 k1=>?_)
 ·refine zmf ?_;unfold z6s;refine zt (ze (w_c (ze (zu (zf rfl (w_c (zUi (zr (zdx ⟨?_,kp,kp⟩)))))))))
  congr 1
  unfold wd
  split<;>split<;>omega
 have e2:R.map (λr=>D.int (wd r:Nat))=nat (R.map wd):=by rw[zTi]
 rw[e2];refine zr (zwg (zz zq) (ze (zu (zf rfl (w_c (zPc rfl (show atI [tn R,.tup (ts.map pr2)] 1=some (.tup (ts.map pr2)) from rfl) (zr ?_)))))));have d1:Ds (ν1++[tu.lst (nat (R.map wd))]) n m p R ts T':=hd.keep k1.to;have g1:(ν1++[tu.lst (nat (R.map wd))])[t']?=some (.lst (nat T')):=k1.to _ _ gt;generalize ν1++[tu.lst (nat (R.map wd))]=ν2 at d1 g1;refine zB (zih (zL (zu (zt (zKe (zf rfl ⟨n,_,rfl,d1.at,zBj,ze (zu (w_c (zt (ze (zf rfl (zr (zhm ww hw9 λν3 k3=>zhk ?_ (zr (zus ww hw9 (d1.keep k3) (zhu hr d1.fits) λν4 k4 d4=>w_c (zRj (by decide +kernel) ⟨_,rfl,λh=>(by cases h),λ_=>zub ?_⟩))))))))))⟩))))))
 ·have wr:=ww.rt hw9;have h2:=zge (z:=" ") wr.short (by decide) (by rw[Lr,Lu];have:=wr.wl;omega) (by decide);have h1:=wr.wl;rw[Lr,Lu]at h2;have h3:(" ":yj).length=1:=rfl;rw[h3]at h2;show 6+(YX " " (zDb (R.map wd)::(wt ts).map zDb)).length<=1000000;omega
 have g4:=(d1.keep k3).lst (k3 _ _ g1) k4;have e10:(10:Int)^(10:Int).toNat=((10000000000:Nat):Int):=by decide
 have b4:bnd 4=3602580:=by decide
 have c60:(10:Nat)^59+10000000000<10^60:=by decide
 have hn60:f+10000000000<10^60:=by omega
 have hnT:f+10000000000∉T':=λhm=>by
  have:=hb _ hm;rw[Lu,Lv]at this;have h4:(4:Int).toNat=4:=rfl;rw[h4,b4]at this;omega
 refine zLb (zu (zlt (k:=f+10000000000) rfl (zu (zf rfl (zu (w_c (w_c (zsp (by decide) (by decide) (by decide) (zUi ⟨by rw[e10];rfl,hn60,by decide,d4,?_⟩))))))) d4));refine z2m ww d4 hn60 (λ_ hm _=>absurd hm hnT) (λV ν5 _ pV hkV hV hl hF k5=>?_) λws ν5 _ hw k5 d5=>?_
 ·have hVp:V.Perm (T'++[f+10000000000]):=by
   rcases hF with ⟨_,h⟩|⟨h,_⟩
   ·exact h
   ·omega
  refine zt (ze (zf rfl (ze (zu (zf rfl (zu (w_c (w_c (zsp (by decide) (by decide) (by decide) (zUi (zr ?_)))))))))));rw[e10];exact zWk (k:=f+10000000000) (k5 _ _ g4) hVp pV (by omega) hV λν6 k6=>zcr (zlu (by decide +kernel)) rfl
 ·have:=d5.few;rw[Lq,hT']at this;simp at this
def zJv(ns:Qg)(_hn:ns.length<=63):∃O',zXr [.fz (ns.map .int)] []=some (.bl true,O'):=by
 obtain⟨d,O',e,rfl⟩:=znv ns;exact⟨O',e⟩
end P
namespace P
open PySem PySem.Spec PyProof.Rows L2 M
set_option maxHeartbeats 4000000
def ln1{α:Type}:∀{us:List α},us.length=1->∃a0,us=[a0]
 |[a0],_=>⟨a0,rfl⟩
def fa1{K:yt}{mg:yj->Option yb}{h:yU}{x p0:yj}{st:yR}{f:yg}{fd:yP}(X:K.In h)(φ:h.Ns yf mg)(a:yJ K yf x=some (some (.ref f)))(u:Fun K x x st f fd)
 (b:∀(kV doc pm:yb)(an:Qw)(cdv ct a0:yb),bindArgs (W.fnOf x x (zSd st) (z9b st) (zo st) .none kV doc pm an cdv ct) ⟨[a0],[]⟩=pure [(p0,a0)]):FnAt K mg x st [p0] f fd :=
 ⟨u,Yx X φ a,u.binds λkV doc pm an cdv ct us hl=>by obtain⟨a0,rfl⟩:=ln1 hl;exact b kV doc pm an cdv ct a0⟩
def ln2{α:Type}:∀{us:List α},us.length=2->∃a0 a1,us=[a0,a1]
 |[a0,a1],_=>⟨a0,a1,rfl⟩
def fa2{K:yt}{mg:yj->Option yb}{h:yU}{x p0 p1:yj}{st:yR}{f:yg}{fd:yP}(X:K.In h)(φ:h.Ns yf mg)(a:yJ K yf x=some (some (.ref f)))(u:Fun K x x st f fd)
 (b:∀(kV doc pm:yb)(an:Qw)(cdv ct a0 a1:yb),bindArgs (W.fnOf x x (zSd st) (z9b st) (zo st) .none kV doc pm an cdv ct) ⟨[a0,a1],[]⟩=pure [(p0,a0),(p1,a1)]):FnAt K mg x st [p0,p1] f fd :=
 ⟨u,Yx X φ a,u.binds λkV doc pm an cdv ct us hl=>by obtain⟨a0,a1,rfl⟩:=ln2 hl;exact b kV doc pm an cdv ct a0 a1⟩
def ln3{α:Type}:∀{us:List α},us.length=3->∃a0 a1 a2,us=[a0,a1,a2]
 |[a0,a1,a2],_=>⟨a0,a1,a2,rfl⟩
def fa3{K:yt}{mg:yj->Option yb}{h:yU}{x p0 p1 p2:yj}{st:yR}{f:yg}{fd:yP}(X:K.In h)(φ:h.Ns yf mg)(a:yJ K yf x=some (some (.ref f)))(u:Fun K x x st f fd)
 (b:∀(kV doc pm:yb)(an:Qw)(cdv ct a0 a1 a2:yb),bindArgs (W.fnOf x x (zSd st) (z9b st) (zo st) .none kV doc pm an cdv ct) ⟨[a0,a1,a2],[]⟩=pure [(p0,a0),(p1,a1),(p2,a2)]):FnAt K mg x st [p0,p1,p2] f fd :=
 ⟨u,Yx X φ a,u.binds λkV doc pm an cdv ct us hl=>by obtain⟨a0,a1,a2,rfl⟩:=ln3 hl;exact b kV doc pm an cdv ct a0 a1 a2⟩
def ln4{α:Type}:∀{us:List α},us.length=4->∃a0 a1 a2 a3,us=[a0,a1,a2,a3]
 |[a0,a1,a2,a3],_=>⟨a0,a1,a2,a3,rfl⟩
def fa4{K:yt}{mg:yj->Option yb}{h:yU}{x p0 p1 p2 p3:yj}{st:yR}{f:yg}{fd:yP}(X:K.In h)(φ:h.Ns yf mg)(a:yJ K yf x=some (some (.ref f)))(u:Fun K x x st f fd)
 (b:∀(kV doc pm:yb)(an:Qw)(cdv ct a0 a1 a2 a3:yb),bindArgs (W.fnOf x x (zSd st) (z9b st) (zo st) .none kV doc pm an cdv ct) ⟨[a0,a1,a2,a3],[]⟩=pure [(p0,a0),(p1,a1),(p2,a2),(p3,a3)]):FnAt K mg x st [p0,p1,p2,p3] f fd :=
 ⟨u,Yx X φ a,u.binds λkV doc pm an cdv ct us hl=>by obtain⟨a0,a1,a2,a3,rfl⟩:=ln4 hl;exact b kV doc pm an cdv ct a0 a1 a2 a3⟩
def all_of{l:W.OpenLaw}{w:yG}{K:yt}{h:yU}{mg:yj->Option yb}{fa:yg}(X:K.In h)(φ:h.Ns yf mg)(hfa:mg "law"=some (.ref fa))(e:Hd.obs K=Hd.good)
 : ∃fd:yP,(∀(s:yd)(v:yb),BindsTo s fd ⟨[v],[]⟩ [("_law_script",v)])/\∀base:yU,K.In base->base.Ns yf mg->tS l.prog w K mg base CX0 11 fa fd ["_law_script"] (spM K 1 zXr):=by
 have e_fn:=congrArg (·.1) e;have e_vv:=congrArg (·.2.1) e;have e_it:=congrArg (·.2.2.1) e;have e_st:=congrArg (·.2.2.2.1) e;have e_bb:=congrArg (·.2.2.2.2.1) e;have e_ob:=congrArg (·.2.2.2.2.2.1) e;have e_ov:=congrArg (·.2.2.2.2.2.2.1) e;have e_cf:=congrArg (·.2.2.2.2.2.2.2.1) e;have e_ex:=congrArg (·.2.2.2.2.2.2.2.2.1) e;have e_dd:=congrArg (·.2.2.2.2.2.2.2.2.2.1) e;have e_tt:=congrArg (·.2.2.2.2.2.2.2.2.2.2) e;obtain⟨⟨_,_,a0,u0⟩,e_fn⟩:=fnc e_fn;have zCe:FnAt K mg "_law_mixed" zJe zsc _ _:=fa2 X φ a0 u0 λ_ _ _ _ _ _ _ _=>rfl;obtain⟨⟨_,_,a1,u1⟩,e_fn⟩:=fnc e_fn;have zzd:FnAt K mg "_law_cell_at" zCd zOb _ _:=fa2 X φ a1 u1 λ_ _ _ _ _ _ _ _=>rfl;obtain⟨⟨_,_,a2,u2⟩,e_fn⟩:=fnc e_fn;have z9g:FnAt K mg "_law_pen" z6g znd _ _:=fa2 X φ a2 u2 λ_ _ _ _ _ _ _ _=>rfl;obtain⟨⟨_,_,a3,u3⟩,e_fn⟩:=fnc e_fn;have zZ:FnAt K mg "_law_take" zie zTb _ _:=fa2 X φ a3 u3 λ_ _ _ _ _ _ _ _=>rfl;obtain⟨⟨_,_,a4,u4⟩,e_fn⟩:=fnc e_fn;have z0f:FnAt K mg "_law_rule" zRf z1c _ _:=fa1 X φ a4 u4 λ_ _ _ _ _ _ _=>rfl;obtain⟨pn_Shelf,e_vv⟩:=yc e_vv;obtain⟨pg_Shelf,e_bb⟩:=yc e_bb;obtain⟨ph_Shelf,e_bb⟩:=yc e_bb;obtain⟨po_Shelf,e_bb⟩:=yc e_bb;obtain⟨ps0_Shelf,e_vv⟩:=yc e_vv;have cl_Shelf:Cls K 359:=⟨pg_Shelf,ph_Shelf,po_Shelf,ps0_Shelf⟩
 obtain⟨na,e_vv⟩:=yc e_vv;have tE:z1n K "Shelf" "nest_of":=λC h=>by rw[pn_Shelf]at h;cases h;exact⟨cl_Shelf,na⟩
 obtain⟨na,e_vv⟩:=yc e_vv;have tL:z1n K "Shelf" "kept_rule":=λC h=>by rw[pn_Shelf]at h;cases h;exact⟨cl_Shelf,na⟩
 obtain⟨ma,e_vv⟩:=yc e_vv;obtain⟨mb,e_bb⟩:=yc e_bb;obtain⟨_,_,_,_,_,_,_,_,_,ml,mc,mk⟩:=zad (yc e_fn).1;replace e_fn:=(yc e_fn).2;have u5:=z7e (st:=zZb) ml mc mk;obtain⟨mm,e_bb⟩:=yc e_bb;obtain⟨mq,e_bb⟩:=yc e_bb;have zKc:si K mg "Shelf" zZb zgb _ _ _:=⟨pn_Shelf,Yx X φ pn_Shelf,⟨mm,ma,mb,mq⟩,u5,(u5.binds (ps:=zgb) λ_ _ _ _ _ _ us hl=>by obtain⟨_,_,rfl⟩:=ln2 hl;rfl)⟩
 obtain⟨⟨_,_,a6,u6⟩,e_fn⟩:=fnc e_fn;have zVe:FnAt K mg "check_text" zWe ztc _ _:=fa1 X φ a6 u6 λ_ _ _ _ _ _ _=>rfl;obtain⟨⟨_,_,a7,u7⟩,e_fn⟩:=fnc e_fn;have zlb:FnAt K mg "read_number" zmc zeb _ _:=fa1 X φ a7 u7 λ_ _ _ _ _ _ _=>rfl;obtain⟨⟨_,_,a8,u8⟩,e_fn⟩:=fnc e_fn;have zEc:FnAt K mg "read_numbers" zBd zQb _ _:=fa1 X φ a8 u8 λ_ _ _ _ _ _ _=>rfl;obtain⟨⟨_,_,a9,u9⟩,e_fn⟩:=fnc e_fn;have z4b:FnAt K mg "is_tuple" zde zJb _ _:=fa3 X φ a9 u9 λ_ _ _ _ _ _ _ _ _=>rfl;obtain⟨⟨_,_,a10,u10⟩,e_fn⟩:=fnc e_fn;have zuf:FnAt K mg "is_number" zQf zSc _ _:=fa2 X φ a10 u10 λ_ _ _ _ _ _ _ _=>rfl;obtain⟨⟨_,_,a11,u11⟩,e_fn⟩:=fnc e_fn;have zjb:FnAt K mg "is_number_tuple" zMb z8 _ _:=fa4 X φ a11 u11 λ_ _ _ _ _ _ _ _ _ _=>rfl;obtain⟨⟨_,_,a12,u12⟩,e_fn⟩:=fnc e_fn;have z9f:FnAt K mg "are_rooms" z7f zTc _ _:=fa1 X φ a12 u12 λ_ _ _ _ _ _ _=>rfl;obtain⟨⟨_,_,a13,u13⟩,e_fn⟩:=fnc e_fn;have z3g:FnAt K mg "are_ways" z4g zkd _ _:=fa1 X φ a13 u13 λ_ _ _ _ _ _ _=>rfl;obtain⟨⟨_,_,a14,u14⟩,e_fn⟩:=fnc e_fn;have zri:FnAt K mg "is_rule" zWh zce _ _:=fa1 X φ a14 u14 λ_ _ _ _ _ _ _=>rfl;obtain⟨⟨_,_,a15,u15⟩,e_fn⟩:=fnc e_fn;have zQc:FnAt K mg "read_rule" zke zSb _ _:=fa1 X φ a15 u15 λ_ _ _ _ _ _ _=>rfl;obtain⟨pn_Desk,e_vv⟩:=yc e_vv;obtain⟨pg_Desk,e_bb⟩:=yc e_bb;obtain⟨ph_Desk,e_bb⟩:=yc e_bb;obtain⟨po_Desk,e_bb⟩:=yc e_bb;obtain⟨ps0_Desk,e_vv⟩:=yc e_vv;have cl_Desk:Cls K 546:=⟨pg_Desk,ph_Desk,po_Desk,ps0_Desk⟩
 obtain⟨na,e_vv⟩:=yc e_vv;have Tk:z1n K "Desk" "shelf":=λC h=>by rw[pn_Desk]at h;cases h;exact⟨cl_Desk,na⟩
 obtain⟨ma,e_vv⟩:=yc e_vv;obtain⟨mb,e_bb⟩:=yc e_bb;obtain⟨_,_,_,_,_,_,_,_,_,ml,mc,mk⟩:=zad (yc e_fn).1;replace e_fn:=(yc e_fn).2;have u16:=z7e (st:=zdc) ml mc mk;obtain⟨mm,e_bb⟩:=yc e_bb;obtain⟨mq,e_bb⟩:=yc e_bb;have zgd:si K mg "Desk" zdc ztb _ _ _:=⟨pn_Desk,Yx X φ pn_Desk,⟨mm,ma,mb,mq⟩,u16,(u16.binds (ps:=ztb) λ_ _ _ _ _ _ us hl=>by obtain⟨_,_,rfl⟩:=ln2 hl;rfl)⟩
 obtain⟨⟨_,_,a17,u17⟩,e_fn⟩:=fnc e_fn;have zqe:FnAt K mg "_law_text" zzf z5c _ _:=fa1 X φ a17 u17 λ_ _ _ _ _ _ _=>rfl;obtain⟨⟨_,_,a18,u18⟩,e_fn⟩:=fnc e_fn;have zEj:FnAt K mg "is_row" z1j zcf _ _:=fa1 X φ a18 u18 λ_ _ _ _ _ _ _=>rfl;obtain⟨ma,e_vv⟩:=yc e_vv;obtain⟨mb,e_bb⟩:=yc e_bb;obtain⟨_,_,_,_,_,_,_,_,_,ml,mc,mk⟩:=zad (yc e_fn).1;replace e_fn:=(yc e_fn).2;have u19:=z7e (st:=zod) ml mc mk;have zLc:MethAt K "Shelf" "has" "Shelf.has" zod zFb _ _ _:=⟨pn_Shelf,cl_Shelf,⟨ma,mb,mk⟩,u19,(u19.binds (ps:=zFb) λ_ _ _ _ _ _ us hl=>by obtain⟨_,_,rfl⟩:=ln2 hl;rfl)⟩
 obtain⟨ma,e_vv⟩:=yc e_vv;obtain⟨mb,e_bb⟩:=yc e_bb;obtain⟨_,_,_,_,_,_,_,_,_,ml,mc,mk⟩:=zad (yc e_fn).1;replace e_fn:=(yc e_fn).2;have u20:=z7e (st:=zcb) ml mc mk;have zH:MethAt K "Shelf" "all_there" "Shelf.all_there" zcb zD _ _ _:=⟨pn_Shelf,cl_Shelf,⟨ma,mb,mk⟩,u20,(u20.binds (ps:=zD) λ_ _ _ _ _ _ us hl=>by obtain⟨_,rfl⟩:=ln1 hl;rfl)⟩
 obtain⟨⟨_,_,a21,u21⟩,e_fn⟩:=fnc e_fn;have zvm:FnAt K mg "lying" zJm z5g _ _:=fa2 X φ a21 u21 λ_ _ _ _ _ _ _ _=>rfl;obtain⟨⟨_,_,a22,u22⟩,e_fn⟩:=fnc e_fn;have zLf:FnAt K mg "pushes_to" zPf zZc _ _:=fa3 X φ a22 u22 λ_ _ _ _ _ _ _ _ _=>rfl;obtain⟨⟨_,_,a23,u23⟩,e_fn⟩:=fnc e_fn;have TQ:FnAt K mg "left" zvo zKg _ _:=fa2 X φ a23 u23 λ_ _ _ _ _ _ _ _=>rfl;obtain⟨⟨_,_,a24,u24⟩,e_fn⟩:=fnc e_fn;have zYj:FnAt K mg "row_to" zJj z8e _ _:=fa2 X φ a24 u24 λ_ _ _ _ _ _ _ _=>rfl;obtain⟨⟨_,_,a25,u25⟩,e_fn⟩:=fnc e_fn;have zag:FnAt K mg "put_in" zhi zFd _ _:=fa3 X φ a25 u25 λ_ _ _ _ _ _ _ _ _=>rfl;obtain⟨⟨_,_,a26,u26⟩,e_fn⟩:=fnc e_fn;have zIn:FnAt K mg "homes" z7m z8g _ _:=fa2 X φ a26 u26 λ_ _ _ _ _ _ _ _=>rfl;obtain⟨⟨_,_,a27,u27⟩,e_fn⟩:=fnc e_fn;have zOf:FnAt K mg "web_of" zni zKd _ _:=fa2 X φ a27 u27 λ_ _ _ _ _ _ _ _=>rfl;obtain⟨ma,e_vv⟩:=yc e_vv;obtain⟨mb,e_bb⟩:=yc e_bb;obtain⟨_,_,_,_,_,_,_,_,_,ml,mc,mk⟩:=zad (yc e_fn).1;replace e_fn:=(yc e_fn).2;have u28:=z7e (st:=zBc) ml mc mk;have zyd:MethAt K "Shelf" "laying" "Shelf.laying" zBc zBb _ _ _:=⟨pn_Shelf,cl_Shelf,⟨ma,mb,mk⟩,u28,(u28.binds (ps:=zBb) λ_ _ _ _ _ _ us hl=>by obtain⟨_,rfl⟩:=ln1 hl;rfl)⟩
 obtain⟨ma,e_vv⟩:=yc e_vv;obtain⟨mb,e_bb⟩:=yc e_bb;obtain⟨_,_,_,_,_,_,_,_,_,ml,mc,mk⟩:=zad (yc e_fn).1;replace e_fn:=(yc e_fn).2;have u29:=z7e (st:=zne) ml mc mk;have zqf:MethAt K "Shelf" "put" "Shelf.put" zne zkc _ _ _:=⟨pn_Shelf,cl_Shelf,⟨ma,mb,mk⟩,u29,(u29.binds (ps:=zkc) λ_ _ _ _ _ _ us hl=>by obtain⟨_,_,rfl⟩:=ln2 hl;rfl)⟩
 obtain⟨⟨_,_,a30,u30⟩,e_fn⟩:=fnc e_fn;have znb:FnAt K mg "show_words" zjc zY _ _:=fa1 X φ a30 u30 λ_ _ _ _ _ _ _=>rfl;obtain⟨⟨_,_,a31,u31⟩,e_fn⟩:=fnc e_fn;have zBf:FnAt K mg "show_push" zIf z4c _ _:=fa1 X φ a31 u31 λ_ _ _ _ _ _ _=>rfl;obtain⟨⟨_,_,a32,u32⟩,e_fn⟩:=fnc e_fn;have zEe:FnAt K mg "answer_put" zSe zrc _ _:=fa2 X φ a32 u32 λ_ _ _ _ _ _ _ _=>rfl;obtain⟨ma,e_vv⟩:=yc e_vv;obtain⟨mb,e_bb⟩:=yc e_bb;obtain⟨_,_,_,_,_,_,_,_,_,ml,mc,mk⟩:=zad (yc e_fn).1;replace e_fn:=(yc e_fn).2;have u33:=z7e (st:=zle) ml mc mk;have zMf:MethAt K "Shelf" "out" "Shelf.out" zle zec _ _ _:=⟨pn_Shelf,cl_Shelf,⟨ma,mb,mk⟩,u33,(u33.binds (ps:=zec) λ_ _ _ _ _ _ us hl=>by obtain⟨_,_,rfl⟩:=ln2 hl;rfl)⟩
 obtain⟨⟨_,_,a34,u34⟩,e_fn⟩:=fnc e_fn;have zLe:FnAt K mg "answer_out" zNe zoc _ _:=fa2 X φ a34 u34 λ_ _ _ _ _ _ _ _=>rfl;obtain⟨⟨_,_,a35,u35⟩,e_fn⟩:=fnc e_fn;have zXf:FnAt K mg "show_keys" zDf zUc _ _:=fa1 X φ a35 u35 λ_ _ _ _ _ _ _=>rfl;obtain⟨⟨_,_,a36,u36⟩,e_fn⟩:=fnc e_fn;have z7d:FnAt K mg "answer_keys" z6d z7b _ _:=fa2 X φ a36 u36 λ_ _ _ _ _ _ _ _=>rfl;obtain⟨⟨_,_,a37,u37⟩,e_fn⟩:=fnc e_fn;have zVh:FnAt K mg "is_push" zmi zee _ _:=fa4 X φ a37 u37 λ_ _ _ _ _ _ _ _ _ _=>rfl;obtain⟨⟨_,_,a38,u38⟩,e_fn⟩:=fnc e_fn;have zpi:FnAt K mg "follows" zHh zbe _ _:=fa4 X φ a38 u38 λ_ _ _ _ _ _ _ _ _ _=>rfl;obtain⟨⟨_,_,a39,u39⟩,e_fn⟩:=fnc e_fn;have zDn:FnAt K mg "fault" zGn zZg _ _:=fa2 X φ a39 u39 λ_ _ _ _ _ _ _ _=>rfl;obtain⟨⟨_,_,a40,u40⟩,e_fn⟩:=fnc e_fn;have zSj:FnAt K mg "pushed" zFj zff _ _:=fa4 X φ a40 u40 λ_ _ _ _ _ _ _ _ _ _=>rfl;obtain⟨⟨_,_,a41,u41⟩,e_fn⟩:=fnc e_fn;have zKf:FnAt K mg "laid_more" z5f z0c _ _:=fa3 X φ a41 u41 λ_ _ _ _ _ _ _ _ _=>rfl;obtain⟨⟨_,_,a42,u42⟩,e_fn⟩:=fnc e_fn;have zUd:FnAt K mg "laid_at_all" z9d z6b _ _:=fa1 X φ a42 u42 λ_ _ _ _ _ _ _=>rfl;obtain⟨⟨_,_,a43,u43⟩,e_fn⟩:=fnc e_fn;have zOj:FnAt K mg "fitted" zUj zif _ _:=fa1 X φ a43 u43 λ_ _ _ _ _ _ _=>rfl;obtain⟨ma,e_vv⟩:=yc e_vv;obtain⟨mb,e_bb⟩:=yc e_bb;obtain⟨_,_,_,_,_,_,_,_,_,ml,mc,mk⟩:=zad (yc e_fn).1;replace e_fn:=(yc e_fn).2;have u44:=z7e (st:=zbd) ml mc mk;have zae:MethAt K "Shelf" "renew" "Shelf.renew" zbd zIb _ _ _:=⟨pn_Shelf,cl_Shelf,⟨ma,mb,mk⟩,u44,(u44.binds (ps:=zIb) λ_ _ _ _ _ _ us hl=>by obtain⟨_,_,rfl⟩:=ln2 hl;rfl)⟩
 obtain⟨⟨_,_,a45,u45⟩,e_fn⟩:=fnc e_fn;have zud:FnAt K mg "answer_renew" zwd zNb _ _:=fa2 X φ a45 u45 λ_ _ _ _ _ _ _ _=>rfl;obtain⟨ma,e_vv⟩:=yc e_vv;obtain⟨mb,e_bb⟩:=yc e_bb;obtain⟨_,_,_,_,_,_,_,_,_,ml,mc,mk⟩:=zad (yc e_fn).1;replace e_fn:=(yc e_fn).2;have u46:=z7e (st:=zhe) ml mc mk;have zob:MethAt K "Desk" "say" "Desk.say" zhe zVb _ _ _:=⟨pn_Desk,cl_Desk,⟨ma,mb,mk⟩,u46,(u46.binds (ps:=zVb) λ_ _ _ _ _ _ us hl=>by obtain⟨_,_,rfl⟩:=ln2 hl;rfl)⟩
 obtain⟨⟨_,_,a47,u47⟩,e_fn⟩:=fnc e_fn;have zXd:FnAt K mg "_law_filled" zVd z3b _ _:=fa2 X φ a47 u47 λ_ _ _ _ _ _ _ _=>rfl;obtain⟨⟨_,_,a48,u48⟩,e_fn⟩:=fnc e_fn;have z2b:FnAt K mg "_law_full_text" zJc zAb _ _:=fa2 X φ a48 u48 λ_ _ _ _ _ _ _ _=>rfl;obtain⟨⟨f49,oc49,od49,sl49,kV49,dc49,pm49,an49,cd49,ct49,a49,l49,c49,k49⟩,e_fn⟩:=fnl e_fn;have u49:=z7e (st:=zaq) l49 c49 k49;have z8B:FnAt K mg "law" zaq zsq _ _:=fa1 X φ a49 u49 λ_ _ _ _ _ _ _=>rfl;have e:=hfa.symm.trans (Yx X φ a49);cases e;obtain⟨za,e_vv⟩:=yc e_vv;obtain⟨zc,e_vv⟩:=yc e_vv;have tY:mg "left_layings"=mg "left":=(Yx X φ za).trans (Yx X φ zc).symm;obtain⟨nn_answer_put,e_vv⟩:=yc e_vv;have TF:∃f,yJ K yf "answer_put"=some (some (.ref f))/\mg "answer_put"=some (.ref f):=⟨_,nn_answer_put,Yx X φ nn_answer_put⟩
 obtain⟨nn_answer_out,e_vv⟩:=yc e_vv;have TH:∃f,yJ K yf "answer_out"=some (some (.ref f))/\mg "answer_out"=some (.ref f):=⟨_,nn_answer_out,Yx X φ nn_answer_out⟩
 obtain⟨nn_answer_keys,e_vv⟩:=yc e_vv;have Tv:∃f,yJ K yf "answer_keys"=some (some (.ref f))/\mg "answer_keys"=some (.ref f):=⟨_,nn_answer_keys,Yx X φ nn_answer_keys⟩
 obtain⟨nn_answer_renew,e_vv⟩:=yc e_vv;have Tq:∃f,yJ K yf "answer_renew"=some (some (.ref f))/\mg "answer_renew"=some (.ref f):=⟨_,nn_answer_renew,Yx X φ nn_answer_renew⟩
 obtain⟨ans_ok,a_an,n_an⟩:=zzt (tb:=ansT) (yc e_dd).1 (sD (by rfl) nn_answer_put (sD (by rfl) nn_answer_out (sD (by rfl) nn_answer_keys (sD (by rfl) nn_answer_renew dicNil))));have an_ok:∃a,yJ K yf "ANSWERS"=some (some (.ref a))/\mg "ANSWERS"=some (.ref a):=⟨_,n_an,Yx X φ n_an⟩
 obtain⟨tab_ok,a_tw,n_tw⟩:=zBu (tb:=tabT) (yc e_tt).1;have tw_ok:∃a,yJ K yf "WORD_COUNTS"=some (some (.ref a))/\mg "WORD_COUNTS"=some (.ref a):=⟨_,n_tw,Yx X φ n_tw⟩
 obtain⟨znB,e_vv⟩:=yc e_vv;obtain⟨zEB,e_vv⟩:=yc e_vv;obtain⟨z4z,e_vv⟩:=yc e_vv;obtain⟨zbp,e_vv⟩:=yc e_vv;obtain⟨zAB,e_vv⟩:=yc e_vv;obtain⟨zBo,e_vv⟩:=yc e_vv;obtain⟨zPB,e_vv⟩:=yc e_vv;obtain⟨zoz,e_vv⟩:=yc e_vv;obtain⟨zVB,e_vv⟩:=yc e_vv;obtain⟨z4x,e_vv⟩:=yc e_vv;obtain⟨zks,e_vv⟩:=yc e_vv;obtain⟨zFB,e_vv⟩:=yc e_vv;obtain⟨zaw,e_vv⟩:=yc e_vv;obtain⟨zMB,e_vv⟩:=yc e_vv;obtain⟨zBx,e_vv⟩:=yc e_vv;obtain⟨t_DIVISOR,v_DIVISOR⟩:=zxg (yc e_it).1;replace e_it:=(yc e_it).2;obtain⟨t_MOST_NESTS,v_MOST_NESTS⟩:=zxg (yc e_it).1;replace e_it:=(yc e_it).2;obtain⟨t_MOST_ROOM,v_MOST_ROOM⟩:=zxg (yc e_it).1;replace e_it:=(yc e_it).2;obtain⟨t_MOST_KEYS,v_MOST_KEYS⟩:=zxg (yc e_it).1;replace e_it:=(yc e_it).2;obtain⟨t_FIGURES,v_FIGURES⟩:=z2o (yc e_st).1;replace e_st:=(yc e_st).2;obtain⟨t_MOST_FIGURES,v_MOST_FIGURES⟩:=zxg (yc e_it).1;replace e_it:=(yc e_it).2;obtain⟨t_LETTERS,v_LETTERS⟩:=z2o (yc e_st).1;replace e_st:=(yc e_st).2;obtain⟨zRg,e_vv⟩:=yc e_vv;obtain⟨zpm,e_bb⟩:=yc e_bb;obtain⟨zFg,e_vv⟩:=yc e_vv;obtain⟨zLo,e_bb⟩:=yc e_bb;obtain⟨zFf,e_vv⟩:=yc e_vv;obtain⟨zak,e_bb⟩:=yc e_bb;obtain⟨zHf,e_vv⟩:=yc e_vv;obtain⟨z3j,e_bb⟩:=yc e_bb;obtain⟨xe_Twice,e_bb⟩:=yc e_bb;obtain⟨z3m,e_ob⟩:=yc e_ob;obtain⟨zCl,e_ob⟩:=yc e_ob;obtain⟨zzl,e_ob⟩:=yc e_ob;obtain⟨z3o,e_ob⟩:=yc e_ob;obtain⟨zdn,e_ob⟩:=yc e_ob;obtain⟨zum,e_ob⟩:=yc e_ob;obtain⟨xe_NoKey,e_bb⟩:=yc e_bb;obtain⟨zNm,e_ob⟩:=yc e_ob;obtain⟨zul,e_ob⟩:=yc e_ob;obtain⟨zvl,e_ob⟩:=yc e_ob;obtain⟨i4,e_bb⟩:=yc e_bb;obtain⟨i7,e_vv⟩:=yc e_vv;obtain⟨i8,e_bb⟩:=yc e_bb;obtain⟨i9,e_cf⟩:=yc e_cf;obtain⟨_,_,_,_,_,_,_,_,_,_,_,_,_,_,zTx⟩:=z4v (yc e_ex).1;replace e_ex:=(yc e_ex).2;obtain⟨zey,e_vv⟩:=yc e_vv;obtain⟨zhy,e_ov⟩:=yc e_ov;obtain⟨zPy,e_vv⟩:=yc e_vv;obtain⟨zju,e_vv⟩:=yc e_vv;obtain⟨zjy,e_bb⟩:=yc e_bb;obtain⟨_,_,_,_,_,_,_,_,_,zHs,zWs,zFu⟩:=zad (yc e_fn).1;replace e_fn:=(yc e_fn).2;obtain⟨_,z6x⟩:=zct (yc e_bb).1;replace e_bb:=(yc e_bb).2;obtain⟨zoy,e_vv⟩:=yc e_vv;obtain⟨zfy,e_vv⟩:=yc e_vv;obtain⟨zLx,e_ob⟩:=yc e_ob;obtain⟨zyy,e_vv⟩:=yc e_vv;obtain⟨zKy,e_ob⟩:=yc e_ob;obtain⟨q4,e_vv⟩:=yc e_vv;obtain⟨q5,e_ob⟩:=yc e_ob;have T:Txt K mg:=⟨⟨92,zRg,Yx X φ zRg,zpm⟩,⟨24,zFg,Yx X φ zFg,zLo⟩,⟨37,zFf,Yx X φ zFf,zak⟩,⟨49,zHf,Yx X φ zHf,z3j⟩,(λC h=>by rw[zFf]at h;cases h;exact xe_Twice),(λC h=>by rw[zHf]at h;cases h;exact xe_NoKey),(λC h=>by rw[zRg]at h;cases h;exact(Tx.cons zFf zak z3m (Tx.cons zRg zpm z3o (Tx.cons zHf z3j zNm Tx.nil)))),(λC h=>by rw[zFf]at h;cases h;exact(Tx.cons zFf zak zCl (Tx.cons zRg zpm zdn (Tx.cons zHf z3j zul Tx.nil)))),(λC h=>by rw[zHf]at h;cases h;exact(Tx.cons zFf zak zzl (Tx.cons zRg zpm zum (Tx.cons zHf z3j zvl Tx.nil)))),ans_ok,an_ok,tab_ok,tw_ok,TF,TH,Tv,Tq,tE,tL,Tk,tY,⟨λC h=>by rw[zRg]at h;cases h;exact⟨⟨by rw[z6x];rfl,zoy,zfy,zLx,zyy,q4,q5,zKy⟩,zju,zjy⟩⟩,YB X φ znB,YB X φ zEB,YB X φ z4z,YB X φ zbp,YB X φ zAB,YB X φ zBo,YB X φ zPB,YB X φ zoz,YB X φ zVB,YB X φ z4x,YB X φ zks,YB X φ zFB,YB X φ zaw,YB X φ zMB,YB X φ zBx,⟨t_DIVISOR,Yx X φ v_DIVISOR⟩,⟨t_MOST_NESTS,Yx X φ v_MOST_NESTS⟩,⟨t_MOST_ROOM,Yx X φ v_MOST_ROOM⟩,⟨t_MOST_KEYS,Yx X φ v_MOST_KEYS⟩,⟨t_FIGURES,Yx X φ v_FIGURES⟩,⟨t_MOST_FIGURES,Yx X φ v_MOST_FIGURES⟩,⟨t_LETTERS,Yx X φ v_LETTERS⟩⟩
 refine⟨W.fnOf "law" "law" (zSd zaq) (z9b zaq) (zo zaq) .none kV49 dc49 pm49 an49 cd49 ct49,λs v =>.of_eq rfl,λbase _ _=>?_⟩;have tH:Sv K mg "Full" "some" "Full.__init__" zOc zyb _ _ _ _:=⟨zRg,Yx X φ zFg,⟨⟨_,_,_,_,_,_,_,_,_,_,_,_,_,_,zTx⟩,zey,zhy,i4,zPy,zju,i7,i8,i9⟩,(z7e (st:=zOc) zHs zWs zFu),(z7e (st:=zOc) zHs zWs zFu).binds (ps:=zyb) λ_ _ _ _ _ _ us hl=>by obtain⟨_,_,rfl⟩:=ln2 hl;rfl⟩
 have tV:=zFn (P:=l.prog) (w:=w) (base:=base) T tH;have zbg:=ztl (P:=l.prog) (w:=w) (base:=base) T zCe;have zwe:=zxj T zCe zbg zzd;have zzh:=zfo T zzd zwe z9g;have zX:=zDm (P:=l.prog) (w:=w) (base:=base) T zZ;have zIg:=znn T zZ zX z0f;have zid:=zti (P:=l.prog) (w:=w) (base:=base) T zKc;have z6f:=zFl (P:=l.prog) (w:=w) (base:=base) T zVe;have zkb:=zyk (P:=l.prog) (w:=w) (base:=base) T zlb;have z9c:=zAj T zlb zkb zEc;have zXb:=zUn (P:=l.prog) (w:=w) (base:=base) T z4b;have zOg:=zin (P:=l.prog) (w:=w) (base:=base) T zuf;have zqb:=zrh T z4b zXb zuf zOg zjb;have zDg:=zfn T zjb zqb z9f;have zuh:=zAo T z4b zXb zjb zqb z3g;have zQi:=zLp T z4b zXb z9f zDg z3g zuh zri;have zXc:=zLm T zVe z6f zEc z9c zri zQi zQc;have zPd:=zCi T zKc zid zQc zXc zgd;have zMe:=zrm (P:=l.prog) (w:=w) (base:=base) T zqe;have zCk:=zZr (P:=l.prog) (w:=w) (base:=base) T zEj;have z3c:=zKm (P:=l.prog) (w:=w) (base:=base) T zLc;have zI:=zBh (P:=l.prog) (w:=w) (base:=base) T zH;have zHn:=zft (P:=l.prog) (w:=w) (base:=base) T zvm;have zvg:=zAn T zvm zHn zLf;have z5i:=zxv (P:=l.prog) (w:=w) (base:=base) T TQ;have zVk:=zCr (P:=l.prog) (w:=w) (base:=base) T zYj;have zdf:=zQr T zLf zvg TQ z5i zYj zVk zag;have zOm:=zeu (P:=l.prog) (w:=w) (base:=base) T zIn;have zbf:=zyr T zIn zOm zOf;have zre:=zwj T zH zI zyd;have zyg:=zEn T zLc z3c zH zI zag zdf zOf zbf zyd zre tH tV zqf;have zWb:=zyl (P:=l.prog) (w:=w) (base:=base) T znb;have tQ:=z1k (P:=l.prog) (w:=w) (base:=base) T znb;have zVg:=zXm (P:=l.prog) (w:=w) (base:=base) T zBf;have zrf:=zIl T zlb zkb zqf zyg znb zWb tQ zBf zVg zEe;have zHg:=zWm T zLc z3c zMf;have zyf:=zJl T zlb zkb zMf zHg zLe;have zQg:=zym T znb zWb zXf;have z1e:=z0k T zXf zQg zH zI z7d;have zWi:=zzp (P:=l.prog) (w:=w) (base:=base) T zVh;have zRi:=zxp (P:=l.prog) (w:=w) (base:=base) T zpi;have zqn:=zAt T TQ z5i zDn;have zSk:=zRr T zVh zWi zpi zRi zDn zqn zSj;have zzg:=zQm T zag zdf zSj zSk zKf;have z5e:=zel T zKf zzg zUd;have zEk:=z0r T zUd z5e zOj;have z0e:=zjl T zH zI zOj zEk zOf zbf tH tV zae;have zAe:=ztj T zQc zXc zae z0e znb zWb tQ zud;have zib:=zjo T zEj zCk zEe zrf zLe zyf z7d z1e zud zAe zob;have zZe:=z4k T zob zib zXd;have zlc:=zIh (P:=l.prog) (w:=w) (base:=base) T z2b;exact z9x T z9g zzh z0f zIg zgd zPd zqe zMe zZ zX zXd zZe zob zib z2b zlc z8B
def walk{l:W.OpenLaw}{q:yu}{loose:Qx}{XP:(yj->Option yb)->yU->Prop}{YP:yG->yU->Prop}{d:DefRec}{K:Params->yt}(hn:l.most=some 63)(hdf:d.params.defaults=[])
 (hY:∀(w:yG)(h:yU),YP w h->(K w.params).In h)
 (F:∀(w:yG)(mg:yj->Option yb)(fa:yg)(h:yU),(K w.params).In h->h.Ns yf mg->mg d.name=some (.ref fa) ->
  ∃fd:yP,(∀(s:yd)(u:yb),BindsTo s fd ⟨[u],[]⟩ [("_law_script",u)])/\∀base:yU,(K w.params).In base->base.Ns yf mg->tS l.prog w (K w.params) mg base CX0 11 fa fd ["_law_script"] (spM (K w.params) 1 zXr)) :
 W.WalkO q loose XP YP l.row.toRowW d [] (λf vs=>PySem.call f vs) :=
 L2.walk_of (n:=63) (k:=11) (x:="_law_script") (CX:=λ_=>CX0) (sp:=λw=>spM (K w.params) 1 zXr) hn (by decide) hdf (by first|exact⟨rfl,by decide,by decide,rfl⟩|exact⟨rfl,by decide,by decide⟩) hY F (λ_ _ a ns hl hO hS=>zGz (zJv ns hl) hO hS) λ_ _ _ _ _ z=>z
end P
open PySem PySem.W PyProof.Rows
set_option maxRecDepth 100000 in
set_option maxHeartbeats 0 in
theorem PySem.Challenge.cw_keynests_k67_a_desk_of_thirty_keys_holds : PySem.Challenge.rw_keynests_k67_a_desk_of_thirty_keys.Holds := by
 refine M.SS (l:=xq) (q:=Hd.qv) (loose:=Hd.lse) (d:=Hd.dl) (obs:=Hd.obs) (good:=Hd.good) (N:=20000) Hd.hd1 Hd.hd2 Hd.hd3 Hd.hd4 Hd.hd5 Hd.hd6 Hd.hd7 ?hw λK e=>?_
 case hw=>w_witness2
 exact P.walk (l:=xq) (K:=λ_=>K) (by rfl) (by rfl) (λw h σ=>σ) λw mg fa h KX φ hmg=>P.all_of KX φ hmg e
