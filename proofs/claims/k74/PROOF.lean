import PyProof.Rows.All
import Lean
import KE.KItem
import KE.IntBitsLaws
import KE.KDictList
import KE.KIntText
import KE.KIsAll
import KE.KRevIter
import PySem.Challenge.RW_keynests_k74_whole_from_text_to_places
set_option autoImplicit false
open List (all_cons all_eq_true all_map any_cons any_eq_true any_map append_assoc append_nil countP_cons count_cons drop_eq_getElem_cons filterMap_cons filter_congr filter_cons filter_sublist flatten_cons foldl_cons forIn_nil getD_eq_getElem?_getD getElem_mem length_append length_cons length_drop length_map length_range length_set length_take lookup_cons mapM_cons map_append map_congr_left map_cons map_map mem_append mem_append_left mem_append_right mem_cons mem_cons_of_mem mem_cons_self mem_map mem_of_getElem? mem_range nodup_append nodup_cons nodup_nil not_mem_nil replicate_succ size_toArray sum_cons take_append_drop take_length take_succ)
set_option maxRecDepth 100000
set_option linter.all false
set_option Elab.async false
open PySem renaming wpAny_bind→ya,Value→yb,Addr→yc,Shared→yd,FuncData→yf,wpAny_pure→yg,mainGlobals→yi,starEach→yj,Str→yn,wpAny→yq,Program→yu,model→yC,Expr→yD,sizeLine→yG,bootBuiltins→yH,World→yI,Around→yJ,wpAny_callSpecial?_slot→yO,wpAny_call_entry→yP,Stmt→yR,Heap→yS,compareOp→yV,mem_of_lookup→yX,eval→Yb,wpAny_newObj_type→Yh,wpAny_field→Yo,wpAny_holding→Yp,backTo→Yq,cellsFrom→Ys,wpAny_setField_rec→Yt,attributeBase→YB,keywordEach→YG,rawInt→YM,wpAny_seqItems→YO,Obj→YS,Builtin→YT,wpAny_truthy_bool→YV,assignEach→YW,foldedSetIterable→YX,wpAny_setState_of→YY,wpAny_ite_split→xa,Keyword→xc,wpAny_Call_Name_kw→xf,binaryOp→xl,NameKind→xn,Pos→xo,wpAny_mono→xp,wpAny_specialOf→xr,wpAny_pyIter_tuple→xw,backToKw→xy,call_meets→xz,SetTable→xA,holding→xD,PyData→xI,wpAny_passesOwn→xK,wpAny_pyIter_list→xM,codeAny_mono→xN,pyNext→xP,wpAny_attempt→xQ,wpAny_setEntries_of→xT,wpAny_setField→xV,wpAny_isInstance→xW,codeAny_builtin→Xe,DictEntry→Xf,builtinLookup_eq_fast→Xj,Scope→Xl,sizeLine_eq→Xp,wpAny_rule→Xs,wpAny_typeOf→Xv
open PySem.Heap renaming get?_push_of_some→ye,get?_push_size→ym,lt_size→yo,SameBut→yL,size_push→yT,get?_update_self→Yn,get?_update_other→xu,ExtBut→xZ
open List.cons renaming inj→yh
open Nat renaming le_refl→yk,ne_of_lt→yz,lt_of_lt_of_le→yE,le_trans→yF,lt_irrefl→yY,ne_of_gt→Yk,lt_succ_self→Yr,lt_succ_of_lt→Yx,zero_le→Yy,le_of_lt→YU,lt_add_right→xg,lt_trans→Xc,mul_le_mul→Xr,le_of_not_lt→Xw
open Option renaming bind_some→yp
open List renaming getElem?_map→yr,range→yt,getElem?_append_left→yv,replicate→yy,getElem?_eq_getElem→yA,getElem?_set_self→yZ,getElem?_set_ne→Yc,getElem?_append_right→Yd,getElem?_eq_none→Yu,getElem?_replicate→YR,lookup→xm,take_of_length_le→Xd,length_replicate→Xi,length→Xq
open PySem.W renaming Frag→yw,nsIn→Yj,mg_none_of→Yw,findIn→YF,mg_of→xG,emptyDict→xY,kia_one→Xg
open PySem.NameKind renaming free→yx,cell→yQ
open Bool renaming false_ne_true→yB,and_eq_true→yK,eq_iff_iff→xL
open Ne renaming symm→yM
open PySem.Builtin.SmallTypes renaming nextOf→yN,ownedTupleIsFree→Yl,ownedTupleHandOut→YK
open Sum renaming inl→yU
open Option.some renaming inj→yW
open PySem.Value renaming ref→Ye,type→YJ,none→YQ
open Int renaming toNat_natCast→Yg,toNat→xX
open PySem.Txt renaming partition→Yi,join→YH,split→xh
open PySem.PyData renaming eqv→Ym,strOk→Yv,eqvAll→Xh,canLayAll0→Xm
open PySem.Str renaming ofString→Yz,join→xC
open PySem.Obj renaming data_mapFields→YA,isFreed_of_fields→xE,mapSeq→Xb
open PySem.Heap.SameBut renaming update→YC
open PyProof.Rows renaming callWith_type1→YD,slot_tuple_getitem→xb
open PySem.Builtin.List renaming listExtendWith→YE,listTooLong→xj,listLengthHint→xv,listSameRef→xR
open Array renaming length_toList→YI,getElem?_toList→xF
open PySem.Builtin.Str renaming occurrences→YL,strKind→xJ,occurrences→xU
open PySem.SetTable renaming below→YN,grown→Xu
open ForInStep renaming yield→YZ
open PySem.Builtin.Tuple renaming tupleExact→xi
open PySem.Challenge renaming rw_keynests_k74_whole_from_text_to_places→xk
open False renaming elim→xq
open PyProof.Rows.F renaming plain_set_update_loop→xt
open PySem.F renaming slot_tuple_iterator_next→xB,slot_enumerate_next→Xk
open PySem.Builtin.Slice renaming slicePlaces→xH
open PySem.Around renaming under_plainId→xO
open PySem.AutoSeq1 renaming wpAny_loadPart'→xS
open True renaming intro→Xa
open PySem.SetTable.below renaming go→Xn
open PySem.StrLaws renaming partsFrom→Xo
noncomputable section
namespace M
open PySem PySem.W PyProof.Rows
def kOf(as:List yc)(h:yS):Frag:=as.filterMap λa=>(h.get? a).map λo=>(a,o)
def zyz(h:yS):Frag:=kOf (yt h.objs.size) h
def zOA(s:yR):Arguments:=match s with
 |.FunctionDef _ a _ _ _ _ _ _ _ _=>a
 |_=>{posonlyargs:=[],args:=[],vararg:=none,kwonlyargs:=[],kw_defaults:=[],kwarg:=none,defaults:=[]}
def z4A(s:yR):List yR:=match s with
 |.FunctionDef _ _ b _ _ _ _ _ _ _=>b
 |_=>[]
def zUx(s:yR):Xl:=match s with
 |.FunctionDef _ _ _ _ _ _ sc _ _ _=>sc
 |_=>{kind:=.function,names:=[],isGenerator:=false,isCoroutine:=false }
def z3F(s:yR):xo:=match s with
 |.FunctionDef _ _ _ _ _ _ _ _ _ p=>p
 |_=>⟨0,0,0,0⟩
structure TR where
 name:yn
 qual:yn
 params:Arguments
 body:FuncBody
 scope:Xl
 globals:yc
 closure:List (yn×yc)
 defaults:yb
 builtins:yc
 code:Bool
 keep:Bool
def zol(K:Frag)(a:yc)(qual:yn):Option TR:=match K.lookup a with
 |some ⟨_,_,.func fd,_⟩=>some ⟨fd.name,fd.qualname,fd.params,fd.body,fd.scope,fd.globals,fd.closure,fd.defaults,fd.builtins,codeIn K fd.code qual,keepIn K (.ref a)⟩
 |_=>none
def zQ(K:Frag)(nm:yn):Option TR:=match nsIn K yi nm with
 |some (some (.ref a))=>zol K a nm
 |_=>none
def zen(nm qual:yn)(st:yR):Option TR:=some ⟨nm,qual,zOA st,.stmts (z4A st),zUx st,yi,[],.none,builtinsNs,true,true⟩
def zR(nm:yn)(st:yR):Option TR:=zen nm nm st
def zcj(K:Frag)(nm:yn):Option Int:=match nsIn K yi nm with
 |some (some (.int i _))=>some i
 |_=>none
def zBp(K:Frag)(nm:yn):Option yn:=match nsIn K yi nm with
 |some (some (.str i _))=>some i
 |_=>none
def zDz{p q:yu}{loose:List yn}{α:Type}{Yf:yd->α}{y:α}{N:Nat}(h1:LeftO p q loose (λ_=>true) (λ_=>()) (λ_=>()) N)(h2:∀w,(openEnds treeTable p w N).map Yf=some y):LeftO p q loose (λ_=>true) Yf (λ_=>y) N:=λw=>by
 obtain⟨s,e,a⟩:=Option.map_eq_some_iff.mp (h1 w);obtain⟨s',e',b⟩:=Option.map_eq_some_iff.mp (h2 w);rw[e]at e';cases e';rw[e];show some (_,Yf s)=some (_,y);rw[b];exact congrArg (λz=>some (z.1,y)) a
end M
namespace M
open PySem PySem.W PyProof.Rows
def zrr(e:Xf):Option (yn×yb):=match e.key with
 |.str s _=>some (s,e.val)
 |_=>none
def zFs(K:Frag)(nm:yn):Option (yb×List (yn×yb)):=match nsIn K yi nm with
 |some (some (.ref a))=>(match K.lookup a with
  |some ⟨c,_,.dict es _,_⟩=>(es.toList.mapM zrr).map λl=>(c,l)
  |_=>none)
 |_=>none
def bld:List YS->Nat->BT->Option BT
 |[],_,t=>some t
 |o::os,n,t=>match((t.ins n o).get n).isSome with
  |true=>bld os (n+1) (t.ins n o)
  |false=>none
def z6t(life:Life):∀(os:List YS)(a:Array YS),os.foldl Heap.push ⟨a,life⟩=⟨a++os.toArray,life⟩
 |[],a=>by simp
 |o::os,a=>by
  rw[foldl_cons];show os.foldl Heap.push ⟨a.push o,life⟩=_;rw[z6t life os]
  congr 1
  simp
def zHw(life:Life):∀(os:List YS)(n:Nat)(t t':BT),bld os n t=some t'->absHeap t' (n+os.length) life=os.foldl Heap.push (absHeap t n life)
 |[],n,t,t',h=>by cases h;rfl
 |o::os,n,t,t',h=>by
  unfold bld at h
  split at h
  ·rename_i g
   have:=zHw life os (n+1) _ _ h;rw[foldl_cons,length_cons,show n+(os.length+1)=n+1+os.length by omega,this,absHeap_ins g]
  ·cases h
def zNy{h:yS}{T:BT}(e:bld h.objs.toList 0 .nil=some T):absHeap T h.objs.size h.life=h:=by
 have:=zHw h.life _ _ _ _ e;rw[Nat.zero_add,YI]at this;rw[this,show absHeap BT.nil 0 h.life=⟨#[],h.life⟩ from rfl,z6t];simp
def zJp(tb:String->Option YT)(p:yu)(w:yI)(n₀:Nat)(ann:Option yb):Nat->SharedT->Thread->Option SharedT
 |0,_,_=>none
 |n+1,s,t=>match through t with
  |true=>some s
  |false=>match stepOk n₀ ann t with
   |false=>none
   |true=>match stepT (denote tb) p w s t with
    |some (s',t')=>zJp tb p w n₀ ann n s' t'
    |none=>none
def zvr{tb:String->Option YT}{p:yu}{w:yI}{n₀:Nat}{ann:Option yb}:∀{n:Nat} {s s':SharedT} {t:Thread},zJp tb p w n₀ ann n s t=some s'->topRun tb p w n₀ ann n s.abs t=some s'.abs
 |0,_,_,_,h=>by cases h
 |n+1,s,s',t,h=>by
  unfold zJp at h;unfold topRun
  cases he:through t with
  |true=>rw[he]at h;cases h;rfl
  |false=>
   rw[he]at h
   cases hk:stepOk n₀ ann t with
   |false=>rw[hk]at h;cases h
   |true=>
    rw[hk]at h
    cases hs:stepT (denote tb) p w s t with
    |none=>rw[hs]at h;cases h
    |some r=>obtain⟨s₂,t₂⟩:=r;rw[hs]at h;rw[stepT_spec hs];exact zvr h
def zGq(tb:String->Option YT)(p:yu)(w:yI)(N:Nat)(s₀:yd):Option SharedT :=
 match s₀.heap.isNs yi&&s₀.gens.size==0 with
 |true=>(bld s₀.heap.objs.toList 0 .nil).bind λT=>(zJp tb p w s₀.heap.objs.size (s₀.heap.nsMap yi "__annotations__") N ⟨T,s₀.heap.objs.size,s₀.heap.life,s₀.gens,s₀.drawn,s₀.toks,s₀.os⟩ (topStub p)).bind λs₁=>
  match staticsOk (importedModules p.main.body) s₀.heap s₁.abs.heap&&namesBound p s₁.abs.heap&&gensDone s₁.abs&&laidKept s₀.heap s₁.abs.heap with
  |true=>some s₁
  |false=>none
 |false=>none
def zVv{tb:String->Option YT}{p:yu}{w:yI}{N:Nat}{s₀:yd}{s:SharedT}(h:zGq tb p w N s₀=some s):topFrom tb p w N s₀=some s.abs:=by
 unfold zGq at h;unfold topFrom
 split at h
 ·rename_i g
  rw[g];obtain⟨T,e1,h⟩:=Option.bind_eq_some_iff.mp h;obtain⟨s₁,e2,h⟩:=Option.bind_eq_some_iff.mp h;have:=zvr e2
  have eb:(SharedT.mk T s₀.heap.objs.size s₀.heap.life s₀.gens s₀.drawn s₀.toks s₀.os).abs=s₀:=by
   unfold SharedT.abs;dsimp only;rw[zNy e1]
  rw[eb]at this;show(topRun tb p w s₀.heap.objs.size (s₀.heap.nsMap yi "__annotations__") N s₀ (topStub p)).bind _=_;rw[this]
  split at h
  ·rename_i g2
   cases h;show(match _ with|true=>_|false=>_)=_;rw[g2]
  ·cases h
 ·cases h
def zif(tb:String->Option YT)(p:yu)(w:yI)(N:Nat):Option SharedT:=(fencedOpening tb p w N).bind (zGq tb p w N)
def zEn{tb:String->Option YT}{p:yu}{w:yI}{N:Nat}{α:Type}{f:yd->α}{y:α}(h:(zif tb p w N).map (λs=>f s.abs)=some y):(openEnds tb p w N).map f=some y:=by
 obtain⟨s,e,rfl⟩:=Option.map_eq_some_iff.mp h;obtain⟨s₀,e1,e2⟩:=Option.bind_eq_some_iff.mp e;unfold openEnds;rw[e1];show(topFrom tb p w N s₀).map f=_;rw[zVv e2];rfl
end M
namespace M
open PySem PySem.W PyProof.Rows
def zJu(s:SharedT):Frag:=(yt s.n).filterMap λa=>(alive ((s.tree.get a).getD default)).map λo=>(a,o)
def zGt{α β:Type}{f g:α->Option β}:∀(l:List α),(∀a∈l,f a=g a)->l.filterMap f=l.filterMap g
 |[],_=>rfl
 |a::l,h=>by rw[filterMap_cons,filterMap_cons,h a mem_cons_self,zGt l λb hb=>h b (mem_cons_of_mem _ hb)]
def zky(s:SharedT):zyz s.abs.heap=zJu s:=by
 show kOf (yt (absHeap s.tree s.n s.life).objs.size) (absHeap s.tree s.n s.life)=_;rw[absHeap_size];unfold kOf zJu;refine zGt _ λa ha=>?_;have ha:=List.mem_range.mp ha
 have e:(absHeap s.tree s.n s.life).get? a=alive ((s.tree.get a).getD default):=by
  unfold Heap.get?;rw[absHeap_at,if_pos ha];generalize (s.tree.get a).getD default=o;obtain⟨c,d,da,sl⟩:=o;cases da<;>rfl
 rw[e]
def zAo{tb:String->Option YT}{p:yu}{w:yI}{N:Nat}{α:Type}{f:Frag->α}{y:α}(h:(zif tb p w N).map (λs=>f (zJu s))=some y):(openEnds tb p w N).map (λs=>f (zyz s.heap))=some y:=by
 refine zEn (f:=λs=>f (zyz s.heap)) ?_;have e:(λs:SharedT=>f (zyz s.abs.heap))=λs=>f (zJu s):=funext λs=>by rw[zky]
 exact(congrArg (λg=>(zif tb p w N).map g) e).trans h
end M
namespace Hd
open PySem PySem.Spec PyProof.Rows M
def top(i:Nat):yR:=PySem.Challenge.pw_keynests_k74_whole_from_text_to_places.main.body.getD i (.Pass ⟨0,0,0,0⟩)
def zXy(s:yR)(j:Nat):yR:=match s with
 |.ClassDef _ _ _ body _ _ _ _ _ _ _=>body.getD j (.Pass ⟨0,0,0,0⟩)
 |_ =>.Pass ⟨0,0,0,0⟩
def qv:yu:={PySem.Challenge.pw_keynests_k74_whole_from_text_to_places with main:={PySem.Challenge.pw_keynests_k74_whole_from_text_to_places.main with body:=[top 99]}}
def lse:List yn:=(PySem.Challenge.pw_keynests_k74_whole_from_text_to_places.main.scope.names.map (·.1)).filter λx=>!(x == "law")
def dl:DefRec:={name:="law",params:=zOA (top 99),body:=z4A (top 99),scope:=zUx (top 99),pos:=z3F (top 99)}
def obs(K:yw):List (Option TR)×List (Option (Option yb))×List (Option Int)×List (Option yn)×List (Bool)×List (Option (yb×List (yn×yb))):=([zQ K "_law_mixed",zQ K "_law_cell_at",zQ K "_law_pen",zQ K "_law_take",zQ K "_law_web",zQ K "_law_text",zQ K "check_text",zQ K "read_number",zQ K "read_numbers",zQ K "is_tuple",zQ K "is_number",zQ K "is_number_tuple",zQ K "are_rooms",zQ K "are_keys",zQ K "is_web",zQ K "read_nest",zQ K "read_homes",zQ K "read_web",zQ K "lying",zQ K "pushes_to",zQ K "left",zQ K "row_to",zQ K "put_in",zQ K "fault",zQ K "is_push",zQ K "follows",zQ K "pushed",zQ K "laid_more",zQ K "laid_at_all",zQ K "room_of",zQ K "homes_of",zQ K "is_crowd",zQ K "spare_key",zQ K "trimmed",zQ K "fitted",zQ K "widened",zQ K "_law_rule",zol K 377 "Shelf.__init__",zQ K "are_ways",zQ K "is_rule",zQ K "read_rule",zol K 575 "Desk.__init__",zQ K "homes",zQ K "web_of",zQ K "show_numbers",zQ K "show_rule",zQ K "is_row",zol K 439 "Shelf.rule",zQ K "web_of_words",zQ K "show_words",zQ K "show_homes",zQ K "answer_fits",zQ K "laid",zQ K "most",zQ K "answer_most",zol K 582 "Desk.say",zQ K "_law_desk_alike",zQ K "show_web",zQ K "_law_laid_in_text",zQ K "room_wanted",zQ K "_law_crowd_in_text",zQ K "law"],[Yj K yi "Shelf",YF K (.ref 442) "__setattr__",YF K (.ref 442) "nest_of",YF K (.ref 442) "kept_rule",YF K (.ref 442) "__init__",Yj K yi "Desk",YF K (.ref 585) "__setattr__",YF K (.ref 585) "shelf",YF K (.ref 585) "__init__",YF K (.ref 442) "rule",YF K (.ref 585) "say",Yj K yi "left_layings",Yj K yi "left",Yj K yi "answer_fits",Yj K yi "answer_most",Yj K yi "all",Yj K yi "any",Yj K yi "bool",Yj K yi "enumerate",Yj K yi "int",Yj K yi "isinstance",Yj K yi "len",Yj K yi "list",Yj K yi "max",Yj K yi "range",Yj K yi "reversed",Yj K yi "set",Yj K yi "sorted",Yj K yi "str",Yj K yi "sum",Yj K yi "tuple",Yj K yi "zip"],[zcj K "DIVISOR",zcj K "MOST_NESTS",zcj K "MOST_ROOM",zcj K "MOST_KEYS",zcj K "MOST_FIGURES"],[zBp K "FIGURES",zBp K "LETTERS"],[W.plainGet K 442 PySem.Str.empty,W.hasDictIn K 442,W.plainOver K 442,W.isFn K (.ref 377),W.makesIn K 442,W.keepIn K (.ref 442),W.plainGet K 585 PySem.Str.empty,W.hasDictIn K 585,W.plainOver K 585,W.isFn K (.ref 575),W.makesIn K 585,W.keepIn K (.ref 585),W.isFn K (.ref 439),W.isFn K (.ref 582)],[zFs K "ANSWERS"])
def good:List (Option TR)×List (Option (Option yb))×List (Option Int)×List (Option yn)×List (Bool)×List (Option (yb×List (yn×yb))):=([zR "_law_mixed" (top 89),zR "_law_cell_at" (top 90),zR "_law_pen" (top 92),zR "_law_take" (top 91),zR "_law_web" (top 93),zR "_law_text" (top 95),zR "check_text" (top 37),zR "read_number" (top 34),zR "read_numbers" (top 35),zR "is_tuple" (top 13),zR "is_number" (top 12),zR "is_number_tuple" (top 14),zR "are_rooms" (top 15),zR "are_keys" (top 22),zR "is_web" (top 23),zR "read_nest" (top 36),zR "read_homes" (top 39),zR "read_web" (top 40),zR "lying" (top 46),zR "pushes_to" (top 51),zR "left" (top 42),zR "row_to" (top 52),zR "put_in" (top 53),zR "fault" (top 44),zR "is_push" (top 48),zR "follows" (top 49),zR "pushed" (top 50),zR "laid_more" (top 54),zR "laid_at_all" (top 55),zR "room_of" (top 25),zR "homes_of" (top 24),zR "is_crowd" (top 57),zR "spare_key" (top 58),zR "trimmed" (top 59),zR "fitted" (top 60),zR "widened" (top 63),zR "_law_rule" (top 94),zen "__init__" "Shelf.__init__" (zXy (top 66) 0),zR "are_ways" (top 16),zR "is_rule" (top 17),zR "read_rule" (top 38),zen "__init__" "Desk.__init__" (zXy (top 87) 0),zR "homes" (top 18),zR "web_of" (top 21),zR "show_numbers" (top 30),zR "show_rule" (top 31),zR "is_row" (top 69),zen "rule" "Shelf.rule" (zXy (top 66) 10),zR "web_of_words" (top 83),zR "show_words" (top 70),zR "show_homes" (top 32),zR "answer_fits" (top 84),zR "laid" (top 45),zR "most" (top 62),zR "answer_most" (top 85),zen "say" "Desk.say" (zXy (top 87) 1),zR "_law_desk_alike" (top 98),zR "show_web" (top 33),zR "_law_laid_in_text" (top 96),zR "room_wanted" (top 64),zR "_law_crowd_in_text" (top 97),zR "law" (top 99)],[some (some (.ref 442)),some (some (.builtin "object.__setattr__")),some none,some none,some (some (.ref 377)),some (some (.ref 585)),some (some (.builtin "object.__setattr__")),some none,some (some (.ref 575)),some (some (.ref 439)),some (some (.ref 582)),some (some (.ref 249)),some (some (.ref 249)),some (some (.ref 553)),some (some (.ref 560)),some none,some none,some none,some none,some none,some none,some none,some none,some none,some none,some none,some none,some none,some none,some none,some none,some none],[some 10007,some 10,some 9,some 30,some 60],[some "0123456789",some "abcdefghijklmnopqrstuvwxyz"],[true,true,true,true,true,true,true,true,true,true,true,true,true,true],[some (.type "dict",[("put",.ref 485),("out",.ref 492),("has",.ref 499),("where",.ref 506),("keys",.ref 513),("nest",.ref 520),("left",.ref 527),("rule",.ref 534),("renew",.ref 541),("fits",.ref 553),("most",.ref 560)])])
set_option maxHeartbeats 0
def hd21f:∀w:yI,(zif treeTable PySem.Challenge.rw_keynests_k74_whole_from_text_to_places.prog (w.withFollow "special-get-raises" false) 20000).map (λs=>(λs=>(W.openSeen qv lse (importedModules PySem.Challenge.rw_keynests_k74_whole_from_text_to_places.prog.main.body) (λ_=>true) true s,())) s.abs)=some (W.openGood qv lse,()):=λw=>by kernel_rfl
def hd21t:∀w:yI,(zif treeTable PySem.Challenge.rw_keynests_k74_whole_from_text_to_places.prog (w.withFollow "special-get-raises" true) 20000).map (λs=>(λs=>(W.openSeen qv lse (importedModules PySem.Challenge.rw_keynests_k74_whole_from_text_to_places.prog.main.body) (λ_=>true) true s,())) s.abs)=some (W.openGood qv lse,()):=λw=>by kernel_rfl
def hd22f:∀w:yI,(zif treeTable PySem.Challenge.rw_keynests_k74_whole_from_text_to_places.prog (w.withFollow "special-get-raises" false) 20000).map (λs=>obs (zJu s))=some good:=λw=>by kernel_rfl
def hd22t:∀w:yI,(zif treeTable PySem.Challenge.rw_keynests_k74_whole_from_text_to_places.prog (w.withFollow "special-get-raises" true) 20000).map (λs=>obs (zJu s))=some good:=λw=>by kernel_rfl
def hd21:W.LeftO PySem.Challenge.rw_keynests_k74_whole_from_text_to_places.prog qv lse (λ_=>true) (λ_=>()) (λ_=>()) 20000:=W.byRow2 "special-get-raises" (λw=>zEn (hd21f w)) (λw=>zEn (hd21t w))
def hd22:∀w,(W.openEnds treeTable PySem.Challenge.rw_keynests_k74_whole_from_text_to_places.prog w 20000).map (λs=>obs (zyz s.heap))=some good:=W.byRow2 "special-get-raises" (λw=>zAo (hd22f w)) (λw=>zAo (hd22t w))
def hd2:W.LeftO PySem.Challenge.rw_keynests_k74_whole_from_text_to_places.prog qv lse (λ_=>true) (λs=>obs (zyz s.heap)) (λ_=>good) 20000:=zDz hd21 hd22
def hd1:PySem.Challenge.rw_keynests_k74_whole_from_text_to_places.wellSaid=true:=by kernel_rfl
def hd3:W.defOf qv PySem.Challenge.rw_keynests_k74_whole_from_text_to_places.name=some (dl,[]):=by kernel_rfl
def hd4:PySem.Challenge.rw_keynests_k74_whole_from_text_to_places.prog.theDef PySem.Challenge.rw_keynests_k74_whole_from_text_to_places.name=some (dl.params,dl.body,dl.scope):=by kernel_rfl
def hd5:W.kwWritten? dl.params.kwonlyargs dl.params.kw_defaults=some []:=by kernel_rfl
def hd6:(W.chainsOk qv&&W.opensWell PySem.Challenge.rw_keynests_k74_whole_from_text_to_places.prog&&(W.frees PySem.Challenge.rw_keynests_k74_whole_from_text_to_places.row.toRowW&&PySem.Challenge.rw_keynests_k74_whole_from_text_to_places.row.within.isEmpty))=true:=by kernel_rfl
def hd7:PySem.Challenge.rw_keynests_k74_whole_from_text_to_places.prog.bare:=⟨rfl,rfl,rfl,rfl,rfl,by decide +kernel⟩
end Hd
namespace L2
open PySem PySem.Spec PyProof.Rows
abbrev Key:=Sum Int yn
def zQs:Key->yb->Bool
 |.inl k,v=>Value.isInt k v
 |.inr x,v=>Value.isStrOf x v
def z9F(w:yI):Key->Int
 |.inl k=>hashInt k
 |.inr x=>hashStr w x
def zIb:∀{k:Key} {v:yb},zQs k v=true->(∃i t,k=yU i/\v=Value.int i t)\/(∃x t,k=Sum.inr x/\v=Value.str x t)
 |.inl i,v,h=>by
  obtain⟨t,e⟩:=Value.isInt_shape (k:=i) (v:=v) h;exact .inl ⟨i,t,rfl,e⟩
 |.inr x,v,h=>by
  obtain⟨t,e⟩:=Value.isStrOf_shape (x:=x) (v:=v) h;exact .inr ⟨x,t,rfl,e⟩
def zSx(i:Int)(t:Tok):zQs (.inl i) (.int i t)=true:=by simp[zQs,Value.isInt]
def zVw(x:yn)(t:Tok):zQs (.inr x) (.str x t)=true:=by simp[zQs,Value.isStrOf]
def z1C(a b:Int):decide ((yU a:Key)=yU b)=(a==b):=by
 by_cases e:a=b
 ·subst e;simp
 ·have h:¬(yU a:Key)=yU b:=λq=>e (Sum.inl.inj q);rw[decide_eq_false h];exact(beq_eq_false_iff_ne.mpr e).symm
def zfD(a b:yn):decide ((Sum.inr a:Key)=Sum.inr b)=decide (a=b):=by
 by_cases e:a=b
 ·subst e;simp
 ·have h:¬(Sum.inr a:Key)=Sum.inr b:=λq=>e (Sum.inr.inj q);rw[decide_eq_false h,decide_eq_false e]
def zaE(a:Int)(b:yn):decide ((yU a:Key)=Sum.inr b)=false:=decide_eq_false (λq=>nomatch q)
def ztC(a:yn)(b:Int):decide ((Sum.inr a:Key)=yU b)=false:=decide_eq_false (λq=>nomatch q)
def zZb(prog:yu)(w:yI):PySem.KeyKind prog w Key where
 is:=zQs
 hash:=z9F w
 inj:=λv a b ha hb=>by
  rcases zIb ha with ⟨i,t,rfl,rfl⟩|⟨x,t,rfl,rfl⟩
  ·rcases zIb hb with ⟨j,u,rfl,e⟩|⟨y,u,rfl,e⟩
   ·injection e with e1 _;rw[e1]
   ·exact nomatch e
  ·rcases zIb hb with ⟨j,u,rfl,e⟩|⟨y,u,rfl,e⟩
   ·exact nomatch e
   ·injection e with e1 _;rw[e1]
 byValue:=λk v h=>by
  rcases zIb h with ⟨i,t,rfl,rfl⟩|⟨x,t,rfl,rfl⟩<;>rfl
 pyHash:=λhv h=>by
  rcases zIb hv with ⟨i,t,rfl,rfl⟩|⟨x,t,rfl,rfl⟩
  ·exact wpAny_pyHash_int h
  ·exact wpAny_pyHash_str h
 eqBool:=λhu hv h=>by
  rcases zIb hu with ⟨i,t,rfl,rfl⟩|⟨x,t,rfl,rfl⟩
  ·rcases zIb hv with ⟨j,u,rfl,rfl⟩|⟨y,u,rfl,rfl⟩
   ·rw[z1C]at h;exact wpAny_eqBool_int h
   ·rw[zaE]at h;exact SeqAt.EqAt.int_str i t y u _ _ _ _ h
  ·rcases zIb hv with ⟨j,u,rfl,rfl⟩|⟨y,u,rfl,rfl⟩
   ·rw[ztC]at h;exact SeqAt.EqAt.str_int x t j u _ _ _ _ h
   ·rw[zfD]at h;exact wpAny_eqBool_str h
 «strs»:=λk x t v h=>by
  rcases zIb h with ⟨i,u,rfl,e⟩|⟨y,u,rfl,e⟩
  ·exact nomatch e
  ·injection e with e1 _;subst e1;cases v<;>rfl
def zOk(prog:yu)(w:yI)(k:Key)(v:yb):(zZb prog w).is k v=zQs k v:=rfl
def zJs(prog:yu)(w:yI)(i:Int)(t:Tok):(zZb prog w).is (.inl i) (.int i t)=true:=zSx i t
def zht(prog:yu)(w:yI)(x:yn)(t:Tok):(zZb prog w).is (.inr x) (.str x t)=true:=zVw x t
inductive V where
 |non|bl (b:Bool)|int (i:Int)|str (x:yn)|byt (b:Array UInt8)|flt (b:UInt64)|ref (a:yc)|ty (n:String)
 deriving DecidableEq
def RelV:V->yb->Prop
 |.non,u=>u=YQ
 |.bl b,u=>u=Value.bool b
 |.int i,u=>∃t,u=Value.int i t
 |.str x,u=>∃t,u=Value.str x t
 |.byt b,u=>∃t,u=Value.bytes b t
 |.flt b,u=>∃t,u=Value.float b t
 |.ref a,u=>u=Ye a
 |.ty n,u=>u=YJ n
abbrev Vals:List V->List yb->Prop:=Paired RelV
def Vals.length{xs:List V}{us:List yb}(r:Vals xs us):xs.length=us.length:=Paired.length r
def Vals.get:∀{xs:List V} {us:List yb} {i:Nat} {x:V},Vals xs us->xs[i]?=some x->∃u,us[i]?=some u/\RelV x u
 |_,_,_,_,.nil,e=>by simp at e
 |_,_,0,_,.cons r _,e=>by simp at e;subst e;exact⟨_,rfl,r⟩
 |_,_,i+1,x,.cons _ t,e=>by
  obtain⟨u,h1,h2⟩:=Vals.get (i:=i) (x:=x) t (by simpa using e);exact⟨u,by simpa using h1,h2⟩
def Vals.set{x:V}{u:yb}(r:RelV x u):∀{xs:List V} {us:List yb} (i:Nat),Vals xs us->Vals (xs.set i x) (us.set i u)
 |_,_,_,.nil =>.nil
 |_,_,0,.cons _ t =>.cons r t
 |_,_,i+1,.cons q t =>.cons q (Vals.set r i t)
def Vals.append:∀{xs ys:List V} {us ws:List yb},Vals xs us->Vals ys ws->Vals (xs++ys) (us++ws)
 |_,_,_,_,.nil,s=>s
 |_,_,_,_,.cons r t,s =>.cons r (Vals.append t s)
def Vals.take:∀{xs:List V} {us:List yb} (n:Nat),Vals xs us->Vals (xs.take n) (us.take n)
 |_,_,0,_ =>.nil
 |_,_,_+1,.nil =>.nil
 |_,_,n+1,.cons r t =>.cons r (Vals.take n t)
def Vals.drop:∀{xs:List V} {us:List yb} (n:Nat),Vals xs us->Vals (xs.drop n) (us.drop n)
 |_,_,0,r=>r
 |_,_,_+1,.nil =>.nil
 |_,_,n+1,.cons _ t=>Vals.drop n t
def TU:Option V->Option yb->Prop
 |some v,some u=>RelV v u
 |none,none=>True
 |_,_=>False
def KV{κ:Type}:List (κ×V)->List (κ×yb)->Prop:=Paired λ(p:κ×V) (q:κ×yb)=>p.1=q.1/\RelV p.2 q.2
def kV:Key->V
 |.inl i =>.int i
 |.inr x =>.str x
inductive HO where
 |lst (xs:List V)
 |tup (xs:List V)
 |dK (kvs:List (Key×V))|dT (kvs:List (List Key×V))
 |set (S:Int->Bool) (n:Nat)
 |ins (C dx:yc) (fs:List (yn×V))
 |own (x:yc)
 |xd (fs:List (yn×V))
 |met (f x:yc)
 |rng (lo hi:Int)
 |frz (o:YS) (u:HO)
 |tbl (ps:Array yb)
 |ext (G:yS->Prop)
abbrev Hp:=yc->Option HO
def upd(H:Hp)(a:yc)(o:HO):Hp:=λb=>if b=a then some o else H b
def zM{H:Hp}{a:yc}{o:HO}:upd H a o a=some o:=by unfold upd;rw[if_pos rfl]
def zab{H:Hp}{a b:yc}{o:HO}(h:b≠a):upd H a o b=H b:=by unfold upd;rw[if_neg h]
def zY{H:Hp}{a b:yc}{o:HO}(h:H a=some o)(h':H b=none):a≠b:=by
 intro e;subst e;rw[h]at h';cases h'
section
variable (P:yu)(w:yI)
def tI(H:Hp)(h:yS)(a:yc):HO->Prop
 |.lst xs=>xs.length<=yG/\∃(its:List yb)(n:Nat),Vals xs its/\h.get? a=some {cls:=.type "list",data:=.seq its.toArray n }
 |.tup xs=>xs.length<=yG/\∃its:List yb,Vals xs its/\IsTup h a its.toArray
 |.dK kvs=>kvs.length<=yG/\(a==sysModules)=false/\∃vs,KV kvs vs/\h.DictOf (zZb P w) a vs
 |.dT kvs=>kvs.length<=yG/\(a==sysModules)=false/\∃xs:List (List Key×yc×yb),
  Paired (λ(p:List Key×V) (q:List Key×yc×yb)=>p.1=q.1/\H q.2.1=some (.tup (p.1.map kV))/\RelV p.2 q.2.2) kvs xs /\
  ∃o es ep,h.get? a=some o/\o.ExactDict/\o.data=.dict es ep/\es.toList=xs.map (entryOfKey (tupleKind (zZb P w)))/\(xs.map (·.1)).Nodup
 |.set S n=>h.SetOf (intKind P w) a S n
 |.ins C dx fs=>H dx=some (.own a)/\fs.length<=1000/\dx≠a/\h.get? a=some (W.instObj C dx) /\
  ∃mA,h.Ns1 dx mA/\(∀f,TU (fs.lookup f) (mA f))/\PySem.Within mA (fs.map (·.1))
 |.own _=>∃o,h.get? a=some o
 |.xd fs=>∃mA,h.Ns1 a mA/\∀f,TU (fs.lookup f) (mA f)
 |.rng lo hi=>∃t u v,h.get? a=some {cls:=.type "range",data:=.fields #[.int lo t,.int hi u,.int 1 v]}
 |.frz o u=>h.get? a=some o/\tI H h a u
 |.tbl ps=>h.get? a=some {cls:=.none,data:=.fields ps }
 |.met f x=>h.get? a=some (W.methodObj (.ref f) (.ref x))
 |.ext G=>G h/\(∃o,h.get? a=some o)/\∀h1 h2:yS,G h1->(∀o,h1.get? a=some o->h2.get? a=some o)->G h2
def HOk(H:Hp)(h:yS):Prop:=∀a o,H a=some o->tI P w H h a o
variable {P:yu}{w:yI}{H H':Hp}{h h':yS}{a:yc}{o:HO}
def tI.lt(x:tI P w H h a o):a<h.objs.size:=by
 cases o with
 |lst xs=>obtain⟨_,_,_,_,e⟩:=x;exact yo e
 |tup xs=>obtain⟨_,_,_,p⟩:=x;exact p.lt
 |dK kvs=>obtain⟨_,_,_,_,o,_,_,e,_⟩:=x;exact yo e
 |dT kvs=>obtain⟨_,_,_,_,o,_,_,e,_⟩:=x;exact yo e
 |set S n=>obtain⟨o,_,_,_,e,_⟩:=x;exact yo e
 |ins C dx fs=>obtain⟨_,_,_,e,_⟩:=x;exact yo e
 |own y=>obtain⟨_,e⟩:=x;exact yo e
 |xd fs=>obtain⟨_,⟨_,_,_,e,_⟩,_⟩:=x;exact yo e
 |rng lo hi=>obtain⟨_,_,_,e⟩:=x;exact yo e
 |frz ob u=>obtain⟨e,_⟩:=x;exact yo e
 |tbl ps=>exact yo (show h.get? a=some _ from x)
 |met f y=>exact yo (show h.get? a=some _ from x)
 |ext G=>obtain⟨_,⟨_,e⟩,_⟩:=x;exact yo e
def Paired.mapP{α β:Type}{F φ:α->β->Prop}:∀{l₁:List α} {l₂:List β},Paired F l₁ l₂->(∀a b,F a b->φ a b)->Paired φ l₁ l₂
 |_,_,.nil,_ =>.nil
 |_,_,.cons r t,f =>.cons (f _ _ r) (Paired.mapP t f)
def tI.stay(x:tI P w H h a o)(k:∀b u,(b=a\/H b=some (.own a))->h.get? b=some u->h'.get? b=some u)
 (ho:∀b,H b=some (.own a)->H' b=some (.own a)) (ht:∀b xs,H b=some (.tup xs)->H' b=some (.tup xs)):tI P w H' h' a o:=by
 induction o with
 |lst xs=>obtain⟨z,its,n,r,e⟩:=x;exact⟨z,its,n,r,k _ _ (.inl rfl) e⟩
 |tup xs=>obtain⟨z,its,r,ob,e,c⟩:=x;exact⟨z,its,r,ob,k _ _ (.inl rfl) e,c⟩
 |dK kvs=>obtain⟨z,y,vs,r,ob,es,ep,e,c⟩:=x;exact⟨z,y,vs,r,ob,es,ep,k _ _ (.inl rfl) e,c⟩
 |dT kvs=>
  obtain⟨z,y,xs,r,ob,es,ep,e,c⟩:=x;exact⟨z,y,xs,Paired.mapP r λp q z=>⟨z.1,ht _ _ z.2.1,z.2.2⟩,ob,es,ep,k _ _ (.inl rfl) e,c⟩
 |set S n=>obtain⟨ob,es,ep,t,e,c⟩:=x;exact⟨ob,es,ep,t,k _ _ (.inl rfl) e,c⟩
 |ins C dx fs=>
  obtain⟨d,z,ne,e,mA,⟨od,es,ep,e2,c⟩,r⟩:=x;exact⟨ho _ d,z,ne,k _ _ (.inl rfl) e,mA,⟨od,es,ep,k _ _ (.inr d) e2,c⟩,r⟩
 |own y=>obtain⟨ob,e⟩:=x;exact⟨ob,k _ _ (.inl rfl) e⟩
 |xd fs=>obtain⟨mA,⟨od,es,ep,e,c⟩,r⟩:=x;exact⟨mA,⟨od,es,ep,k _ _ (.inl rfl) e,c⟩,r⟩
 |rng lo hi=>obtain⟨t,u,v,e⟩:=x;exact⟨t,u,v,k _ _ (.inl rfl) e⟩
 |frz ob u ih=>obtain⟨e,q⟩:=x;exact⟨k _ _ (.inl rfl) e,ih q⟩
 |tbl ps=>
  have e:h.get? a=some {cls:=.none,data:=.fields ps }:=x;show h'.get? a=some {cls:=.none,data:=.fields ps };exact k a _ (.inl rfl) e
 |met f y=>
  have e:h.get? a=some (W.methodObj (.ref f) (.ref y)):=x;show h'.get? a=some (W.methodObj (.ref f) (.ref y));exact k a _ (.inl rfl) e
 |ext G=>obtain⟨p,⟨o,e⟩,st⟩:=x;exact⟨st _ _ p λo q=>k _ _ (.inl rfl) q,⟨o,k _ _ (.inl rfl) e⟩,st⟩
def HOk.lt(x:HOk P w H h)(e:H a=some o):a<h.objs.size:=(x a o e).lt
def HOk.fresh(x:HOk P w H h)(e:h.objs.size<=a):H a=none:=by
 cases q:H a with
 |none=>rfl
 |some u=>exact absurd (yE (x.lt q) e) (yY _)
def HOk.kept(x:HOk P w H h)(k:∀b u,h.get? b=some u->h'.get? b=some u):HOk P w H h':=λa o e=>
 (x a o e).stay (λb u _ q=>k b u q) (λ_ q=>q) λ_ _ q=>q
def HOk.laid(x:HOk P w H h)(k:∀b u,h.get? b=some u->h'.get? b=some u)(hp:h.objs.size<=a)(new:tI P w (upd H a o) h' a o):HOk P w (upd H a o) h':=λb u e=>by
 have hn:=x.fresh hp
 by_cases hb:b=a
 ·subst hb;rw[zM]at e;cases e;exact new
 ·rw[zab hb]at e;exact(x b u e).stay (λc v _ q=>k c v q) (λc q=>by rw[zab (zY q hn)];exact q) λc xs q=>by rw[zab (zY q hn)];exact q
end
def Rd(H:Hp)(a:yc)(u:HO):Prop:=H a=some u\/∃o,H a=some (.frz o u)
def Rd.ok{P:yu}{w:yI}{H:Hp}{h:yS}{a:yc}{u:HO}(r:Rd H a u)(x:HOk P w H h):tI P w H h a u:=by
 rcases r with r|⟨o,r⟩
 ·exact x a u r
 ·obtain⟨_,q⟩:=x a _ r;exact q
def Mut:Option HO->Prop
 |some (.lst _)=>True
 |some (.dK _)=>True
 |some (.dT _)=>True
 |some (.set _ _)=>True
 |some (.ins _ _ _)=>True
 |some (.ext _)=>True
 |_=>False
section
variable {P:yu}{w:yI}{H:Hp}{h h':yS}{x e:yc}{o':HO}
def HOk.write(ok:HOk P w H h)(mu:Mut (H x))(he:e=x\/H e=some (.own x))(k:∀b u,b≠e->h.get? b=some u->h'.get? b=some u)(heo:∃u,h'.get? e=some u)
 (new:tI P w (upd H x o') h' x o'):HOk P w (upd H x o') h':=λb u q=>by
 have nown:∀c y,H c=some (.own y)->c≠x:=λc y r z=>by subst z;rw[r]at mu;exact mu
 have ntup:∀c xs,H c=some (.tup xs)->c≠x:=λc xs r z=>by subst z;rw[r]at mu;exact mu
 by_cases hb:b=x
 ·subst hb;rw[zM]at q;cases q;exact new
 ·rw[zab hb]at q
  by_cases hbe:b=e
  ·have q':H b=some (.own x):=by
    rcases he with z|z
    ·exact absurd (hbe.trans z) hb
    ·rw[hbe];exact z
   rw[q]at q';cases q';obtain⟨v,hv⟩:=heo;exact⟨v,by rw[hbe];exact hv⟩
  ·refine(ok b u q).stay (λc v hc r=>k c v ?_ r) (λc r=>by rw[zab (nown c b r)];exact r) λc xs r=>by rw[zab (ntup c xs r)];exact r
   rcases hc with rfl|hc
   ·exact hbe
   ·rintro rfl;rcases he with z|z
    ·exact nown c b hc z
    ·rw[hc]at z;cases z;exact hb rfl
end
structure Un(fs ex:List yc)(H H':Hp)(h h':yS):Prop where
 keep:∀b o,h.get? b=some o->H b=none->b∉fs->b∉ex->h'.get? b=some o
 slot:∀b o,h.get? b=some o->H b=none->b∈fs->b∉ex->∃sl,h'.get? b=some {o with slots:=sl }
 free:∀b o,h.get? b=some o->H b=none->b∉ex->H' b=none
 there:∀b o,h.get? b=some o->b∉ex->∃o',h'.get? b=some o'
 tups:∀b xs,H b=some (.tup xs)->H' b=some (.tup xs)
 sC:∀b o u,H b=some (.frz o u)->H' b=some (.frz o u)
 sL:∀b ps,H b=some (.tbl ps)->∃more,H' b=some (.tbl (ps++more))
section
variable {fs fs' ex ex':List yc}{H H1 H2:Hp}{h h1 h2 h':yS}{a x e:yc}{o:HO}
def Un.any(u:Un fs ex H H1 h h1){b:yc}{ob:YS}(q:h.get? b=some ob)(n:H b=none)(hx:b∉ex):∃sl,h1.get? b=some {ob with slots:=sl }:=by
 by_cases hb:b∈fs
 ·exact u.slot b ob q n hb hx
 ·exact⟨ob.slots,u.keep b ob q n hb hx⟩
def Un.kept(k:∀b u,h.get? b=some u->h'.get? b=some u):Un fs ex H H h h' :=
 ⟨λb ob q _ _ _=>k b ob q,λb ob q _ _ _=>⟨ob.slots,k b ob q⟩,λ_ _ _ n _=>n,λb ob q _=>⟨ob,k b ob q⟩,λ_ _ q=>q,λ_ _ _ q=>q,λ_ ps q=>⟨#[],by rw[q];simp⟩⟩
def Un.refl:Un fs ex H H h h:=Un.kept λ_ _ q=>q
def Un.laid(k:∀b u,h.get? b=some u->h'.get? b=some u)(hp:h.objs.size<=a)(hn:H a=none):Un fs ex H (upd H a o) h h' where
 keep:=λb u q _ _ _=>k b u q
 slot:=λb u q _ _ _=>⟨u.slots,k b u q⟩
 free:=λb u q n _=>by rw[zab (yz (yE (yo q) hp))];exact n
 there:=λb u q _=>⟨u,k b u q⟩
 tups:=λb xs q=>by rw[zab (zY q hn)];exact q
 sC:=λb u xs q=>by rw[zab (zY q hn)];exact q
 sL:=λb ps q=>⟨#[],by rw[zab (zY q hn),q];simp⟩
def Un.write(mu:Mut (H x))(he:e=x\/H e=some (.own x))(k:∀b u,b≠e->h.get? b=some u->h'.get? b=some u)(heo:∃u,h'.get? e=some u):Un fs ex H (upd H x o) h h':=by
 have hx:∀b,H b=none->b≠x:=λb n z=>by subst z;rw[n]at mu;exact mu
 have hb:∀b,H b=none->b≠e:=λb n z=>by
  subst z;rcases he with r|r
  ·exact hx b n r
  ·rw[n]at r;cases r
 have hm:∀b u,H b=some u->¬Mut (some u)->b≠x:=λb u q nm z=>by subst z;rw[q]at mu;exact nm mu
 refine⟨λb u q n _ _=>k b u (hb b n) q,λb u q n _ _=>⟨u.slots,k b u (hb b n) q⟩,λb u q n _=>by rw[zab (hx b n)];exact n,λb u q _=>?_,
  λb xs q=>by rw[zab (hm b _ q λz=>z)];exact q,λb u xs q=>by rw[zab (hm b _ q λz=>z)];exact q,λb ps q=>⟨#[],by rw[zab (hm b _ q λz=>z),q];simp⟩⟩
 by_cases hbe:b=e
 ·subst hbe;exact heo
 ·exact⟨u,k b u hbe q⟩
end
def trk(h:yS)(H:Hp):List yc:=(yt h.objs.size).filter λa=>(H a).isSome
def zuy(h:yS)(H:Hp):yS:=W.hideAll h (trk h H)
def zZx(h:yS)(H:Hp):(zuy h H).objs.size=h.objs.size:=W.hideAll_size _ _
def zQz{h:yS}{H:Hp}{b:yc}{o:YS}(e:h.get? b=some o)(n:H b=none):(zuy h H).get? b=some o :=
 W.hideAll_get _ e λhm=>by
  have q:(H b).isSome=true:=(List.mem_filter.mp hm).2;rw[n]at q;simp at q
def zIB{h:yS}{H:Hp}{b:yc}{o:YS}(e:(zuy h H).get? b=some o):h.get? b=some o/\H b=none:=by
 have e':h.get? b=some o:=W.of_hideAll (trk h H) e;refine⟨e',?_⟩
 cases q:H b with
 |none=>rfl
 |some x=>
  have hm:b∈trk h H:=List.mem_filter.mpr ⟨List.mem_range.mpr (yo e'),by simp[q]⟩;have z:(zuy h H).get? b=none:=W.hideAll_none (trk h H) hm;rw[z]at e;cases e
def z2B(g h:yS)(L:yc):List (yc×YS):=(yt h.objs.size).filterMap λa=>if a=L\/(g.get? a).isSome=true then none else(h.get? a).map λo=>(a,o)
def rest(g h:yS)(L d:yc):List (yc×YS):=(z2B g h L).filter λp=>decide (p.1≠d)
structure Mod(K:yw)(mg:yn->Option yb)(base:yS):Prop where
 kin:K.In base
 glob:base.Ns yi mg
 blt:∃mb,base.Ns builtinsNs mb/\∀x:yn,x≠"__name__"->mb x=yH x
 nolimit:base.NoLimit
structure Cx where
 prog:yu
 w:yI
 K:yw
 mg:yn->Option yb
 base:yS
 A:yJ
 N:List yn
 s₀:yd
 H₀:Hp
 env:Env
 outer:List Env
 stack:List Env
 ex:List yc
 fn:yn->Bool
 calm:Bool
 pn:List (yc×YS)
 xe:yb->yd->Prop
def frs(l:List Env):List yc:=l.filterMap (·.frame)
abbrev Cx.fs(X:Cx):List yc:=frs X.outer
def Vis(sc:Xl)(x:yn):Prop:=sc.names.lookup x=some .local\/sc.names.lookup x=some .cell\/sc.names.lookup x=some .free
def Loc(sc:Xl)(x:yn):Prop:=sc.names.lookup x=some .local\/sc.names.lookup x=some .cell
def z8F(env:Env)(h:yS)(m:yn->Option yb)(x:yn)(u:yb):Prop :=
 (env.kindOf x=some .local/\m x=some u)\/((env.kindOf x=some .cell\/env.kindOf x=some .free)/\∃c,env.cells.lookup x=some c/\h.IsCell c (some u))
structure Cx.Ok(X:Cx):Prop where
 mod:Mod X.K X.mg X.base
 kind:X.env.scope.kind=.function
 glob:X.env.globals=yi
 blt:X.env.builtins=builtinsNs
 above:X.s₀.heap.objs.size<=X.env.locals
 inj:∀x y c,X.env.cells.lookup x=some c->X.env.cells.lookup y=some c->x=y
 has:∀x,(X.env.kindOf x=some .cell\/X.env.kindOf x=some .free)->∃c,X.env.cells.lookup x=some c
 cab:∀x c,X.fn x=true->X.env.cells.lookup x=some c->X.s₀.heap.objs.size<=c
 hd:X.calm=true->X.A.handled=none
 frames:X.A.frames=some X.stack
 stk:X.stack=X.outer\/(X.stack=X.env::X.outer/\X.env.frame=some X.env.locals)
 exf:∀b∈X.ex,b≠X.env.locals/\∀x c,X.env.cells.lookup x=some c->c≠b
 bs:∀b o,X.base.get? b=some o->X.s₀.heap.get? b=some o/\X.H₀ b=none
 bsz:X.base.objs.size<=X.s₀.heap.objs.size
 Sx:∀b o,X.base.get? b=some o->b∉X.ex
 exfs:∀b∈X.ex,b∉X.fs
 sr:X.s₀.heap.FunFrames X.base X.outer
 frf:∀b∈X.fs,X.H₀ b=none
structure Inv(X:Cx)(U:List (yc×YS))(Y:List (Option V))(H:Hp)(s:yd):Prop where
 ok:X.Ok
 os:s.os=X.s₀.os
 bare:AllBare s.gens
 base:Un X.fs X.ex X.H₀ H X.s₀.heap s.heap
 loc:∃m,s.heap.Ns X.env.locals m/\∀(i:Nat)(x:yn)(v:V),X.N[i]?=some x->Y[i]?=some (some v)->Vis X.env.scope x->∃u,RelV v u/\z8F X.env s.heap m x u
 cell:∀x c,X.env.cells.lookup x=some c->∃v,s.heap.IsCell c v
 free:H X.env.locals=none
 freeC:∀x c,X.env.cells.lookup x=some c->H c=none
 pin:∀p∈X.pn++U,s.heap.get? p.1=some p.2/\H p.1=none/\p.1≠X.env.locals/\p.1∉X.fs/\∀v,p.2.data≠.cell v
 hok:HOk X.prog X.w H s.heap
 len:Y.length=X.N.length
section
variable {X:Cx}{U:List (yc×YS)}{Y:List (Option V)}{H H':Hp}{s:yd}{h':yS}
def Cx.Ok.nofr(ok:X.Ok){b:yc}{o:YS}(e:X.base.get? b=some o):b∉X.fs:=λhb=>by
 have:=(ok.sr.mem hb).1;rw[e]at this;cases this
def Inv.bs(I:Inv X U Y H s):∀b o,X.base.get? b=some o->s.heap.get? b=some o/\H b=none:=λb o e=>
 ⟨I.base.keep b o (I.ok.bs b o e).1 (I.ok.bs b o e).2 (I.ok.nofr e) (I.ok.Sx b o e),I.base.free b o (I.ok.bs b o e).1 (I.ok.bs b o e).2 (I.ok.Sx b o e)⟩
def Inv.bk(I:Inv X U Y H s):∀b o,X.base.get? b=some o->s.heap.get? b=some o:=λb o e=>(I.bs b o e).1
def Inv.mod(I:Inv X U Y H s):Mod X.K X.mg X.base:=I.ok.mod
def Inv.kIn(I:Inv X U Y H s):X.K.In s.heap:=I.ok.mod.kin.keeps I.bk
def Inv.fr(I:Inv X U Y H s):∃m,Fr X.base X.env.locals s.heap m :=
 let ⟨m,hn,_⟩:=I.loc
 ⟨m,hn,I.bk,yF I.ok.bsz I.ok.above⟩
def Inv.lt(I:Inv X U Y H s):X.env.locals<s.heap.objs.size:=let ⟨_,hn,_⟩:=I.loc;hn.lt
def Inv.sz(I:Inv X U Y H s):X.s₀.heap.objs.size<=s.heap.objs.size:=yF I.ok.above (YU I.lt)
def Inv.nofs(I:Inv X U Y H s){a:yc}(h:s.heap.objs.size<=a):a∉X.fs:=λhb=>by
 obtain⟨_,o,ho,_⟩:=I.ok.sr.mem hb;exact absurd (yE (yo ho) (yF I.sz h)) (yY _)
def Inv.cne(I:Inv X U Y H s):∀x c,X.env.cells.lookup x=some c->c≠X.env.locals:=λx c e z=>by
 obtain⟨v,o,ho,hd⟩:=I.cell x c e;obtain⟨m,⟨o',es,ep,ho',hd',_⟩,_⟩:=I.loc;rw[z,ho']at ho;cases ho;rw[hd']at hd;cases hd
def Inv.sr(I:Inv X U Y H s):s.heap.FunFrames X.base X.outer:=by
 have all:∀(l:List Env),(∀b∈frs l,b∈X.fs)->X.s₀.heap.FunFrames X.base l->s.heap.FunFrames X.base l:=by
  intro l
  induction l with
  |nil=>intro _ _;trivial
  |cons env r ih=>
   intro hs hl;obtain⟨hk,⟨L,o,hf,hn,ho,hd⟩,hr⟩:=hl;have hL:L∈X.fs:=hs L (by unfold frs;rw[filterMap_cons,hf];exact mem_cons_self);obtain⟨sl,e⟩:=I.base.slot L o ho (I.ok.frf L hL) hL λz=>I.ok.exfs L z hL;exact⟨hk,⟨L,_,hf,hn,e,hd⟩,ih (λb hb=>hs b (by unfold frs;rw[filterMap_cons,hf];exact mem_cons_of_mem _ hb)) hr⟩
 exact all X.outer (λ_ hb=>hb) I.ok.sr
def Inv.stack(I:Inv X U Y H s):s.heap.FunFrames X.base X.stack:=by
 rcases I.ok.stk with e|⟨e,hf⟩
 ·rw[e];exact I.sr
 ·rw[e];obtain⟨m,hn,_⟩:=I.loc;refine .cons (by rw[I.ok.kind];decide) hf hn ?_ I.sr;exact Heap.get?_none_of_le (yF I.ok.bsz I.ok.above)
def Inv.sM(I:Inv X U Y H s):∀b∈frs X.stack,b∈X.env.locals::X.fs:=λb hb=>by
 rcases I.ok.stk with e|⟨e,hf⟩
 ·rw[e]at hb;exact mem_cons_of_mem _ hb
 ·rw[e]at hb;unfold frs at hb;rw[filterMap_cons,hf]at hb;exact hb
def Inv.Sl(I:Inv X U Y H s):∀b∈frs X.stack,H b=none:=λb hb=>by
 rcases List.mem_cons.mp (I.sM b hb) with e|hb
 ·rw[e];exact I.free
 ·obtain⟨_,o,ho,_⟩:=I.ok.sr.mem hb;exact I.base.free b o ho (I.ok.frf b hb) λz=>I.ok.exfs b z hb
def Inv.step{g':Array GenState}{t':Nat}{d':Drawn}{ch:List yc}(I:Inv X U Y H s)
 (hch:∀b∈ch,(b∈X.ex\/X.s₀.heap.objs.size<=b)/\b≠X.env.locals/\(∀x c,X.env.cells.lookup x=some c->c≠b)/\∀p∈X.pn++U,p.1≠b)
 (keep:∀b o,b≠X.env.locals->b∉X.fs->b∉ch->s.heap.get? b=some o->H b=none->h'.get? b=some o)
 (slot:∀b o,b≠X.env.locals->b∈X.fs->b∉ch->s.heap.get? b=some o->H b=none->∃sl,h'.get? b=some {o with slots:=sl }) (free:∀b o,b∉ch->s.heap.get? b=some o->H b=none->H' b=none)
 (there:∀b o,b∉ch->s.heap.get? b=some o->∃o',h'.get? b=some o')
 (tups:∀b xs,H b=some (.tup xs)->H' b=some (.tup xs)) (sC:∀b o u,H b=some (.frz o u)->H' b=some (.frz o u)) (sL:∀b ps,H b=some (.tbl ps)->∃more,H' b=some (.tbl (ps++more)))
 (ns:∀m,s.heap.Ns X.env.locals m->h'.Ns X.env.locals m) (hok:HOk X.prog X.w H' h') (hg:AllBare g') :
 Inv X U Y H' {s with heap:=h',gens:=g',drawn:=d',toks:=t' }:=by
 have neL:∀b o,X.s₀.heap.get? b=some o->b≠X.env.locals:=λb o e=>yz (yE (yo e) I.ok.above)
 have neC:∀b o,X.s₀.heap.get? b=some o->b∉X.ex->b∉ch:=λb o e hx hb=>by
  rcases(hch b hb).1 with z|z
  ·exact hx z
  ·exact absurd (yE (yo e) z) (yY _)
 have cellK:∀x c,X.env.cells.lookup x=some c->∀v,s.heap.IsCell c v->h'.IsCell c v:=λx c e v ⟨o,ho,hd⟩=>by
  have nch:c∉ch:=λz=>(hch c z).2.2.1 x c e rfl
  by_cases hc:c∈X.fs
  ·obtain⟨sl,q⟩:=slot c o (I.cne x c e) hc nch ho (I.freeC x c e);exact⟨_,q,hd⟩
  ·exact⟨o,keep c o (I.cne x c e) hc nch ho (I.freeC x c e),hd⟩
 refine⟨I.ok,I.os,hg,⟨λb o e n hb hx=>?_,λb o e n hb hx=>?_,λb o e n hx=>?_,λb o e hx=>?_,λb xs e=>tups b xs (I.base.tups b xs e),λb o xs e=>sC b o xs (I.base.sC b o xs e),λb ps e=>?_⟩,?_,λx c e=>?_,?_,λx c e=>?_,λp hp=>?_,hok,I.len⟩
 ·exact keep b o (neL b o e) hb (neC b o e hx) (I.base.keep b o e n hb hx) (I.base.free b o e n hx)
 ·obtain⟨sl,e1⟩:=I.base.slot b o e n hb hx;obtain⟨sl',e2⟩:=slot b _ (neL b o e) hb (neC b o e hx) e1 (I.base.free b o e n hx);exact⟨sl',e2⟩
 ·obtain⟨o',e1⟩:=I.base.there b o e hx;exact free b o' (neC b o e hx) e1 (I.base.free b o e n hx)
 ·obtain⟨o',e1⟩:=I.base.there b o e hx;exact there b o' (neC b o e hx) e1
 ·obtain⟨m1,e1⟩:=I.base.sL b ps e;obtain⟨m2,e2⟩:=sL b _ e1;exact⟨m1++m2,by rw[e2,Array.append_assoc]⟩
 ·obtain⟨m,hn,hl⟩:=I.loc;refine⟨m,ns m hn,λi x v e1 e2 e3=>?_⟩;obtain⟨u,r,l⟩:=hl i x v e1 e2 e3;refine⟨u,r,?_⟩;rcases l with l|⟨k,c,e,z⟩
  ·exact .inl l
  ·exact .inr ⟨k,c,e,cellK x c e _ z⟩
 ·obtain⟨v,z⟩:=I.cell x c e;exact⟨v,cellK x c e v z⟩
 ·obtain⟨m,⟨o,_,_,ho,_⟩,_⟩:=I.loc;exact free _ o (λz=>(hch _ z).2.1 rfl) ho I.free
 ·obtain⟨v,o,ho,hd⟩:=I.cell x c e;exact free c o (λz=>(hch c z).2.2.1 x c e rfl) ho (I.freeC x c e)
 ·obtain⟨e,n,ne,nf,d⟩:=I.pin p hp;have nch:p.1∉ch:=λz=>(hch p.1 z).2.2.2 p hp rfl;exact⟨keep p.1 p.2 ne nf nch e n,free p.1 p.2 nch e n,ne,nf,d⟩
def Inv.un{t':Nat}(I:Inv X U Y H s)(u:Un X.fs [] H H' s.heap h')(hok:HOk X.prog X.w H' h'):Inv X U Y H' {s with heap:=h',toks:=t' }:=by
 obtain⟨m,⟨o,es,ep,ho,r⟩,_⟩:=id I.loc;obtain⟨sl,hL⟩:=u.any ho I.free (by simp)
 exact I.step (g':=s.gens) (d':=s.drawn) (ch:=[]) (λ_ z=>nomatch z) (λb o _ hb _ e n=>u.keep b o e n hb (by simp)) (λb o _ hb _ e n=>u.slot b o e n hb (by simp)) (λb o _ e n=>u.free b o e n (by simp)) (λb o _ e=>u.there b o e (by simp)) u.tups u.sC u.sL (λm' hm=>by
  obtain⟨o',es',ep',ho',r'⟩:=hm;rw[ho]at ho';cases ho';exact⟨_,es',ep',hL,r'⟩) hok I.bare
def Inv.call{g':Array GenState}{t':Nat}{d':Drawn}{ch:List yc}(I:Inv X U Y H s)(u:Un (frs X.stack) ch H H' s.heap h')(hok:HOk X.prog X.w H' h')(hg:AllBare g')
 (hch:∀b∈ch,(b∈X.ex\/X.s₀.heap.objs.size<=b)/\b≠X.env.locals/\(∀x c,X.env.cells.lookup x=some c->c≠b)/\∀p∈X.pn++U,p.1≠b) :
 Inv X U Y H' {s with heap:=h',gens:=g',drawn:=d',toks:=t' }:=by
 obtain⟨m,⟨o,es,ep,ho,r⟩,_⟩:=id I.loc;obtain⟨sl,hL⟩:=u.any ho I.free λz=>(hch _ z).2.1 rfl
 exact I.step (ch:=ch) hch (λb o hL hb hc e n=>u.keep b o e n (λz=>(List.mem_cons.mp (I.sM b z)).elim hL hb) hc) (λb o _ _ hc e n=>u.any e n hc) (λb o hc e n=>u.free b o e n hc) (λb o hc e=>u.there b o e hc) u.tups u.sC u.sL (λm' hm=>by
  obtain⟨o',es',ep',ho',r'⟩:=hm;rw[ho]at ho';cases ho';exact⟨_,es',ep',hL,r'⟩) hok hg
def Inv.turned{t':Nat}{it:yc}(I:Inv X U Y H s)(k:∀b o,b≠it->s.heap.get? b=some o->h'.get? b=some o)(hn:H it=none)(hL:it≠X.env.locals)
 (h1:it∈X.ex\/X.s₀.heap.objs.size<=it) (h2:∀x c,X.env.cells.lookup x=some c->c≠it) (h3:∀p∈X.pn++U,p.1≠it):Inv X U Y H {s with heap:=h',toks:=t' }:=by
 have nit:∀b u,H b=some u->b≠it:=λb u e z=>by rw[z,hn]at e;cases e
 refine I.step (g':=s.gens) (d':=s.drawn) (ch:=[it]) (λb hb=>?_) (λb o _ _ hc e _=>k b o (λz=>hc (by simp[z])) e) (λb o _ _ hc e _=>⟨o.slots,k b o (λz=>hc (by simp[z])) e⟩) (λ_ _ _ _ n=>n)
  (λb o hc e=>⟨o,k b o (λz=>hc (by simp[z])) e⟩) (λ_ _ e=>e) (λ_ _ _ e=>e) (λb ps e=>⟨#[],by rw[e];simp⟩) (λm hm=>?_) (λb u e=>?_) I.bare
 ·have e:b=it:=by simpa using hb
  subst e;exact⟨h1,hL,h2,h3⟩
 ·obtain⟨o,es,ep,ho,r⟩:=hm;exact⟨o,es,ep,k _ o (yM hL) ho,r⟩
 ·refine(I.hok b u e).stay (λc v hc q=>k c v ?_ q) (λ_ q=>q) λ_ _ q=>q;rcases hc with z|z
  ·rw[z];exact nit b u e
  ·exact nit c _ z
def Inv.tok(I:Inv X U Y H s)(t:Nat):Inv X U Y H {s with toks:=t }:=I.un (h':=s.heap) (t':=t) Un.refl I.hok
def Inv.kept{t':Nat}(I:Inv X U Y H s)(k:∀b u,s.heap.get? b=some u->h'.get? b=some u):Inv X U Y H {s with heap:=h',toks:=t' }:=I.un (Un.kept k) (I.hok.kept k)
def Inv.laid{a:yc}{o:HO}{t':Nat}(I:Inv X U Y H s)(k:∀b u,s.heap.get? b=some u->h'.get? b=some u)(hp:s.heap.objs.size<=a)(new:tI X.prog X.w (upd H a o) h' a o) :
 Inv X U Y (upd H a o) {s with heap:=h',toks:=t' }:=I.un (Un.laid k hp (I.hok.fresh hp)) (I.hok.laid k hp new)
def Inv.write{x e:yc}{o:HO}{t':Nat}(I:Inv X U Y H s)(mu:Mut (H x))(he:e=x\/H e=some (.own x))(k:∀b u,b≠e->s.heap.get? b=some u->h'.get? b=some u)(heo:∃u,h'.get? e=some u)
 (new:tI X.prog X.w (upd H x o) h' x o):Inv X U Y (upd H x o) {s with heap:=h',toks:=t' }:=I.un (Un.write mu he k heo) (I.hok.write mu he k heo new)
def Inv.weak{Y':List (Option V)}(I:Inv X U Y H s)(hl:Y'.length=Y.length)(w:∀(i:Nat) v,Y'[i]?=some (some v)->Y[i]?=some (some v)):Inv X U Y' H s :=
 ⟨I.ok,I.os,I.bare,I.base,let ⟨m,hn,hl'⟩:=I.loc;⟨m,hn,λi x v e1 e2 e3=>hl' i x v e1 (w i v e2) e3⟩,I.cell,I.free,I.freeC,I.pin,I.hok,hl.trans I.len⟩
def Inv.sN{U':List (yc×YS)}(I:Inv X U Y H s)(h:∀p∈U',s.heap.get? p.1=some p.2/\H p.1=none/\p.1≠X.env.locals/\p.1∉X.fs/\∀v,p.2.data≠.cell v):Inv X U' Y H s :=
 ⟨I.ok,I.os,I.bare,I.base,I.loc,I.cell,I.free,I.freeC,λp hp=>(List.mem_append.mp hp).elim (λz=>I.pin p (mem_append_left _ z)) (h p),I.hok,I.len⟩
def z4t{N:List yn}(hN:N.Nodup){i j:Nat}{x:yn}(a:N[i]?=some x)(b:N[j]?=some x):i=j:=by
 obtain⟨h1,e1⟩:=List.getElem?_eq_some_iff.mp a;obtain⟨h2,e2⟩:=List.getElem?_eq_some_iff.mp b;exact(List.getElem_inj hN).mp (e1.trans e2.symm)
def zPq{M:Model}{A:yJ}{E:yb->yd->Prop}{i:Nat}{x:yn}{v:V}{u:yb}{Q:Unit->yd->Prop}(I:Inv X U Y H s)(hN:X.N.Nodup)(hi:X.N[i]?=some x)(hx:Loc X.env.scope x)(r:RelV v u)
 (h:∀s',Inv X U (Y.set i (some v)) H s'->(∃a,yL a s.heap s'.heap/\(a=X.env.locals\/X.env.cells.lookup x=some a))->Q () s') (hf:X.fn x=true\/X.env.scope.names.lookup x=some .local:=by first|exact .inl rfl|exact .inr rfl|assumption):yq M A (storeName X.env x u) Q E s:=by
 obtain⟨m,hn,hl⟩:=id I.loc;have hcls:(X.env.scope.kind == .class||(X.env.scope.kind == .module&&X.env.locals != X.env.globals))=false:=by rw[I.ok.kind];rfl
 have hiσ:i<Y.length:=by rw[I.len];exact(List.getElem?_eq_some_iff.mp hi).1
 have cne:=I.cne
 have tracked:∀{a:yc} {h':yS},(∃o,s.heap.get? a=some o/\H a=none)->yL a s.heap h'->HOk X.prog X.w H h':=λ{a h'} ha hs b ob e=>by
  obtain⟨_,_,hfree⟩:=ha;refine(I.hok b ob e).stay (λc w' hc q=>(hs.2 c ?_).trans q) (λ_ q=>q) λ_ _ q=>q;rintro rfl;rcases hc with rfl|hc
  ·rw[hfree]at e;cases e
  ·rw[hfree]at hc;cases hc
 rcases hx with hk|hk
 ·refine wpAny_storeName_local hk hn (λh' hn' hs=>?_) hcls;obtain⟨oL,_,_,hoL,_⟩:=id hn;refine h _ ⟨I.ok,I.os,I.bare,⟨λb o e n hb hx=>?_,λb o e n hb hx=>?_,I.base.free,λb o e hx=>?_,I.base.tups,I.base.sC,I.base.sL⟩,⟨_,hn',λj y v' e1 e2 e3=>?_⟩,λy c e=>?_,I.free,I.freeC,λp hp=>?_,tracked ⟨oL,hoL,I.free⟩ hs,by simpa using I.len⟩ ⟨_,hs,.inl rfl⟩
  ·exact(hs.2 b (yz (yE (yo e) I.ok.above))).trans (I.base.keep b o e n hb hx)
  ·obtain⟨sl,e1⟩:=I.base.slot b o e n hb hx;exact⟨sl,(hs.2 b (yz (yE (yo e) I.ok.above))).trans e1⟩
  ·obtain⟨o',e1⟩:=I.base.there b o e hx;exact⟨o',(hs.2 b (yz (yE (yo e) I.ok.above))).trans e1⟩
  ·by_cases hj:j=i
   ·subst hj;rw[hi]at e1;cases e1;rw[yZ hiσ]at e2;cases e2;exact⟨u,r,.inl ⟨hk,by simp⟩⟩
   ·rw[Yc (yM hj)]at e2;obtain⟨u',r',q⟩:=hl j y v' e1 e2 e3;refine⟨u',r',?_⟩;rcases q with ⟨k,e⟩|⟨k,c,e,z⟩
    ·refine .inl ⟨k,?_⟩;have:y≠x:=λe=>hj (z4t hN e1 (e▸hi));simp[this,e]
    ·exact .inr ⟨k,c,e,z.sameBut hs (cne y c e)⟩
  ·obtain⟨w',z⟩:=I.cell y c e;exact⟨w',z.sameBut hs (cne y c e)⟩
  ·obtain⟨e,n,ne,nf,d⟩:=I.pin p hp;exact⟨(hs.2 p.1 ne).trans e,n,ne,nf,d⟩
 ·have hfn:X.fn x=true:=by
   rcases hf with z|z
   ·exact z
   ·rw[z]at hk;cases hk
  obtain⟨c,hc⟩:=I.ok.has x (.inl hk);obtain⟨w',z⟩:=I.cell x c hc;refine wpAny_storeName_cell I.ok.kind hk hc z (λh' hc' hs=>?_);obtain⟨oc,hoc,hocd⟩:=id z;refine h {s with heap:=h' } ⟨I.ok,I.os,I.bare,⟨λb o e n hb hx=>?_,λb o e n hb hx=>?_,I.base.free,λb o e hx=>?_,I.base.tups,I.base.sC,I.base.sL⟩,⟨m,hn.sameBut hs (yM (cne x c hc)),λj y v' e1 e2 e3=>?_⟩,λy c' e=>?_,I.free,I.freeC,λp hp=>?_,tracked ⟨oc,hoc,I.freeC x c hc⟩ hs,by simpa using I.len⟩ ⟨c,hs,.inr hc⟩
  ·exact(hs.2 b (yz (yE (yo e) (I.ok.cab x c hfn hc)))).trans (I.base.keep b o e n hb hx)
  ·obtain⟨sl,e1⟩:=I.base.slot b o e n hb hx;exact⟨sl,(hs.2 b (yz (yE (yo e) (I.ok.cab x c hfn hc)))).trans e1⟩
  ·obtain⟨o',e1⟩:=I.base.there b o e hx;exact⟨o',(hs.2 b (yz (yE (yo e) (I.ok.cab x c hfn hc)))).trans e1⟩
  ·by_cases hj:j=i
   ·subst hj;rw[hi]at e1;cases e1;rw[yZ hiσ]at e2;cases e2;exact⟨u,r,.inr ⟨.inl hk,c,hc,hc'⟩⟩
   ·rw[Yc (yM hj)]at e2;obtain⟨u',r',q⟩:=hl j y v' e1 e2 e3;refine⟨u',r',?_⟩;rcases q with q|⟨k,c',e,z'⟩
    ·exact .inl q
    ·refine .inr ⟨k,c',e,z'.sameBut hs ?_⟩;rintro rfl;exact hj (z4t hN e1 (I.ok.inj _ _ _ e hc▸hi))
  ·by_cases hcc:c'=c
   ·subst hcc;exact⟨_,hc'⟩
   ·obtain⟨w2,z2⟩:=I.cell y c' e;exact⟨w2,z2.sameBut hs hcc⟩
  ·obtain⟨e,n,ne,nf,d⟩:=I.pin p hp;refine⟨(hs.2 p.1 ?_).trans e,n,ne,nf,d⟩;intro q;rw[q,hoc]at e;have q':oc=p.2:=yW e;exact d w' (by rw[<-q'];exact hocd)
def zXp{M:Model}{A:yJ}{E:yb->yd->Prop}{i:Nat}{x:yn}{v:V}{u:yb}{Q:Unit->yd->Prop}(I:Inv X U Y H s)(hN:X.N.Nodup)(hi:X.N[i]?=some x)(hx:Loc X.env.scope x)(r:RelV v u)
 (h:∀s',Inv X U (Y.set i (some v)) H s'->Q () s') (hf:X.fn x=true\/X.env.scope.names.lookup x=some .local:=by first|exact .inl rfl|exact .inr rfl|assumption):yq M A (storeName X.env x u) Q E s :=
 zPq I hN hi hx r (λs' I' _=>h s' I') hf
def Inv.call'{s':yd}{ch:List yc}(I:Inv X U Y H s)(ho:s'.os=s.os)(u:Un (frs X.stack) ch H H' s.heap s'.heap)(hok:HOk X.prog X.w H' s'.heap)(hg:AllBare s'.gens)
 (hch:∀b∈ch,(b∈X.ex\/X.s₀.heap.objs.size<=b)/\b≠X.env.locals/\(∀x c,X.env.cells.lookup x=some c->c≠b)/\∀p∈X.pn++U,p.1≠b):Inv X U Y H' s':=by
 obtain⟨h',g',d',t',o'⟩:=s';have e:o'=s.os:=ho;subst e;exact I.call (g':=g') (t':=t') (d':=d') u hok hg hch
end
abbrev XK:=yb->Option yc->Hp->Prop
abbrev St:=List (Option V)
abbrev VK:=V->Hp->Prop
abbrev TE:=St->Hp->VK->Prop
abbrev TT:=St->Hp->(Bool->Hp->Prop)->Prop
abbrev TA:=St->Hp->(List V->Hp->Prop)->Prop
structure Ends where
 nx:St->Hp->Prop
 rt:VK
 bk:St->Hp->Prop:=λ_ _=>False
 ct:St->Hp->Prop:=λ_ _=>False
abbrev TS:=Ends->St->Hp->Prop
def EP(X:Cx)(U:List (yc×YS))(Y:St)(Q:VK)(u:yb)(s':yd):Prop:=∃v H',Inv X U Y H' s'/\RelV v u/\Q v H'
def TP(X:Cx)(U:List (yc×YS))(Y:St)(Q:Bool->Hp->Prop)(b:Bool)(s':yd):Prop:=∃H',Inv X U Y H' s'/\Q b H'
def AP(X:Cx)(U:List (yc×YS))(Y:St)(Q:List V->Hp->Prop)(us:List yb)(s':yd):Prop:=∃vs H',Inv X U Y H' s'/\Vals vs us/\Q vs H'
def SP(X:Cx)(U:List (yc×YS))(D:Ends)(f:Flow)(s':yd):Prop :=
 match f with
 |.next=>∃Y' H',Inv X U Y' H' s'/\D.nx Y' H'
 |.brk=>∃Y' H',Inv X U Y' H' s'/\D.bk Y' H'
 |.cont=>∃Y' H',Inv X U Y' H' s'/\D.ct Y' H'
 |.ret u=>∃v Y' H',Inv X U Y' H' s'/\RelV v u/\D.rt v H'
def PE(X:Cx)(e:yD)(t:TE):Prop :=
 ∀(U:List (yc×YS)) (s:yd) (Y:St) (H:Hp) (Q:VK),Inv X U Y H s->t Y H Q->yq (yC X.prog X.w) X.A (Yb e X.env) (EP X U Y Q) X.xe s
def PT(X:Cx)(e:yD)(t:TT):Prop :=
 ∀(U:List (yc×YS)) (s:yd) (Y:St) (H:Hp) (Q:Bool->Hp->Prop),Inv X U Y H s->t Y H Q->yq (yC X.prog X.w) X.A (isTrue e X.env (Yb e X.env)) (TP X U Y Q) X.xe s
def PW(X:Cx)(e:yD)(t:TT):Prop :=
 ∀(whole:Sem yb)(U:List (yc×YS)) (s:yd) (Y:St) (H:Hp) (Q:Bool->Hp->Prop),Inv X U Y H s->t Y H Q->yq (yC X.prog X.w) X.A (isTrue e X.env whole) (TP X U Y Q) X.xe s
def PA(X:Cx)(es:List yD)(t:TA):Prop :=
 ∀(pos:xo)(U:List (yc×YS)) (s:yd) (Y:St) (H:Hp) (Q:List V->Hp->Prop),Inv X U Y H s->t Y H Q->yq (yC X.prog X.w) X.A (spliced (Yq pos (yj es X.env))) (AP X U Y Q) X.xe s
def PS(X:Cx)(st:yR)(t:TS):Prop :=
 ∀(U:List (yc×YS)) (s:yd) (Y:St) (H:Hp) (D:Ends),Inv X U Y H s->t D Y H->yq (yC X.prog X.w) X.A (exec st X.env) (SP X U D) X.xe s
def PSs(X:Cx)(st:List yR)(t:TS):Prop :=
 ∀(U:List (yc×YS)) (s:yd) (Y:St) (H:Hp) (D:Ends),Inv X U Y H s->t D Y H->yq (yC X.prog X.w) X.A (execs st X.env) (SP X U D) X.xe s
def thn{α:Type}{t:Sem α}{Q Q':α->yd->Prop}{M:Model}{A:yJ}{E:yb->yd->Prop}{s:yd}(h:yq M A t Q E s)(hQ:∀a s,Q a s->Q' a s):yq M A t Q' E s:=xp h hQ λ_ _ x=>x
section
variable {X:Cx}
def zgE(i:Nat):TE:=λY H Q=>∃v,Y[i]?=some (some v)/\Q v H
def tC(v:V):TE:=λ_ H Q=>Q v H
def z8z{i:Nat}{x:yn}{pos:xo}(hN:X.N[i]?=some x)(hv:Vis X.env.scope x)(hd:(x==("__debug__":yn))=false:=by decide)(hcd:(x==("__classdict__":yn))=false:=by decide):PE X (.Name x pos) (zgE i):=by
 intro U s Y H Q I h;obtain⟨v,e,h⟩:=h;obtain⟨m,hn,hl⟩:=I.loc;obtain⟨u,r,l⟩:=hl i x v hN e hv;have fin:EP X U Y Q u s:=⟨v,H,I,r,h⟩
 rcases l with ⟨hk,hm⟩|⟨hk,c,hc,hcell⟩
 ·exact wpAny_Name (wpAny_loadName_local I.ok.kind hk hn hm fin) hd
 ·rcases hk with hk|hk
  ·exact wpAny_Name (wpAny_loadName_cell I.ok.kind hk hc hcell fin) hd
  ·exact wpAny_Name (wpAny_loadName_free I.ok.kind hk hc hcell fin hcd) hd
def zAD{i j pos}:PE X (.Constant (.int i) j pos) (tC (.int i)):=λ_ _ _ H _ I h=>wpAny_Constant_int ⟨.int i,H,I.tok _,⟨_,rfl⟩,h⟩
def zKE{b j pos}:PE X (.Constant (.bool b) j pos) (tC (.bl b)):=λ_ _ _ H _ I h=>Constant_bool ⟨.bl b,H,I,rfl,h⟩
def zbD{j pos}:PE X (.Constant .none j pos) (tC .non):=λ_ _ _ H _ I h=>Constant_none ⟨.non,H,I,rfl,h⟩
def z8D{x j pos}:PE X (.Constant (.str x) j pos) (tC (.str x)):=λ_ _ _ H _ I h=>Calls.Constant_str ⟨.str x,H,I.tok _,⟨_,rfl⟩,h⟩
def Gl(X:Cx)(x:yn):Prop:=X.env.kindOf x=some .globalImplicit
def zvt{E:yb->yd->Prop}{U:List (yc×YS)}{s:yd}{Y:St}{H:Hp}{x:yn}{u:yb}{pos:xo}{Q:yb->yd->Prop}(I:Inv X U Y H s)(hg:Gl X x)(hm:X.mg x=some u)(h:Q u s)
 (hd:(x==("__debug__":yn))=false:=by decide):yq (yC X.prog X.w) X.A (Yb (.Name x pos) X.env) Q E s :=
 Calls.Name_function_global I.ok.kind hg (Calls.loadGlobal_global (by rw[I.ok.glob];exact I.mod.glob.keeps I.bk) hm h) hd
def zvl{E:yb->yd->Prop}{U:List (yc×YS)}{s:yd}{Y:St}{H:Hp}{x:yn}{u:yb}{pos:xo}{Q:yb->yd->Prop}(I:Inv X U Y H s)(hg:Gl X x)(hm:X.mg x=none)(hv:yH x=some u)(h:Q u s)
 (hn:x≠"__name__":=by decide) (hd:(x==("__debug__":yn))=false:=by decide):yq (yC X.prog X.w) X.A (Yb (.Name x pos) X.env) Q E s:=by
 obtain⟨mb,h1,h2⟩:=I.mod.blt;exact Calls.Name_function_global I.ok.kind hg (Calls.loadGlobal_builtin (by rw[I.ok.glob];exact I.mod.glob.keeps I.bk) hm (by rw[I.ok.blt];exact h1.keeps I.bk) ((h2 x hn).trans hv) h) hd
def zKs{x:yn}{v:V}{u:yb}{pos:xo}(hg:Gl X x)(hm:X.mg x=some u)(r:RelV v u)(hd:(x==("__debug__":yn))=false:=by decide):PE X (.Name x pos) (tC v) :=
 λ_ _ _ H _ I h=>zvt I hg hm ⟨v,H,I,r,h⟩ hd
def zXB{x:yn}{v:V}{u:yb}{pos:xo}(hg:Gl X x)(hm:X.mg x=none)(hv:yH x=some u)(r:RelV v u)(hn:x≠"__name__":=by decide)(hd:(x==("__debug__":yn))=false:=by decide):PE X (.Name x pos) (tC v) :=
 λ_ _ _ H _ I h=>zvl I hg hm hv ⟨v,H,I,r,h⟩ hn hd
variable {a b:yD}{ta tb:TE}{pos:xo}
def sW(b:yD){op:CmpOp}(h:op≠.In)(h2:op≠.NotIn):behindInMarks op b=false:=by
 have e1:(op==CmpOp.In)=false:=by cases op<;>first|rfl|exact absurd rfl h
 have e2:(op==CmpOp.NotIn)=false:=by cases op<;>first|rfl|exact absurd rfl h2
 cases b<;>simp[behindInMarks,e1,e2]
def tB(t:TE):TT:=λY H Q=>t Y H λx H1=>∃c,x=.bl c/\Q c H1
def zXC{e:yD}{t:TE}(h:PE X e t)(he:∀whole,isTrue e X.env whole=(do let v <-whole;standAt e.pos;xD [v] (truthy v)):=by intro _;rfl):PT X e (tB t):=by
 intro U s Y H Q I hw;refine isTrue_plain (thn (h U s Y H _ I hw) λv s1 ⟨x,H1,I1,r1,q1⟩=>?_) (he _);obtain⟨d,rfl,q⟩:=q1;cases r1;exact YV ⟨H1,I1,q⟩
variable {tA tB':TT}{rest:List yD}
def z2F(t u:TT):TT:=λY H Q=>t Y H λc H1=>if c=true then u Y H1 Q else Q false H1
def tOr(t u:TT):TT:=λY H Q=>t Y H λc H1=>if c=true then Q true H1 else u Y H1 Q
def zMF(t:TT):TT:=λY H Q=>t Y H λc H1=>Q (!c) H1
def zsB(ha:PT X a tA):PW X (.BoolOp .And [a] pos) tA:=by
 intro wh U s Y H Q I h;refine isTrue_and (thn (ha U s Y H Q I h) λc s1 e=>?_)
 cases c with
 |true=>exact isTrue_and_nil e
 |false=>exact e
def zyC(ha:PT X a tA):PW X (.BoolOp .Or [a] pos) tA:=by
 intro wh U s Y H Q I h;refine isTrue_or (thn (ha U s Y H Q I h) λc s1 e=>?_)
 cases c with
 |false=>exact isTrue_or_nil e
 |true=>exact e
def zZC(ha:PT X a tA)(hb:PW X (.BoolOp .And (b::rest) pos) tB'):PW X (.BoolOp .And (a::b::rest) pos) (z2F tA tB'):=by
 intro wh U s Y H Q I h;refine isTrue_and (thn (ha U s Y H _ I h) λc s1 ⟨H1,I1,q1⟩=>?_)
 cases c with
 |true=>exact hb wh U s1 Y H1 Q I1 q1
 |false=>exact⟨H1,I1,q1⟩
def zYE(ha:PT X a tA)(hb:PW X (.BoolOp .Or (b::rest) pos) tB'):PW X (.BoolOp .Or (a::b::rest) pos) (tOr tA tB'):=by
 intro wh U s Y H Q I h;refine isTrue_or (thn (ha U s Y H _ I h) λc s1 ⟨H1,I1,q1⟩=>?_)
 cases c with
 |true=>exact⟨H1,I1,q1⟩
 |false=>exact hb wh U s1 Y H1 Q I1 q1
def zCC(ha:PT X a tA):PT X (.UnaryOp .Not a pos) (zMF tA):=by
 intro U s Y H Q I h;exact isTrue_not (ha U s Y H (λc H1=>Q (!c) H1) I h)
def zEE(ta tb:TE):TE:=λY H Q=>ta Y H λx H1=>∃c,x=.bl c/\if c=true then tb Y H1 Q else Q (.bl false) H1
def zjF(ta:TE):TE:=λY H Q=>ta Y H λx H1=>∃c,x=.bl c/\Q (.bl (!c)) H1
def zoD{op}{t:TE}(h:PE X a t):PE X (.BoolOp op [a] pos) t:=λU s Y H Q I hw=>BoolOp_one (h U s Y H Q I hw)
def zxC(ha:PE X a ta)(hb:PE X (.BoolOp .And (b::rest) pos) tb):PE X (.BoolOp .And (a::b::rest) pos) (zEE ta tb):=by
 intro U s Y H Q I h;refine BoolOp_and (thn (ha U s Y H _ I h) λv s1 ⟨x,H1,I1,r1,q1⟩=>?_);obtain⟨c,rfl,q1⟩:=q1;cases r1;refine YV ?_
 cases c with
 |true=>exact hb U s1 Y H1 Q I1 q1
 |false=>exact⟨.bl false,H1,I1,rfl,q1⟩
def zuD(ha:PE X a ta):PE X (.UnaryOp .Not a pos) (zjF ta):=by
 intro U s Y H Q I h;refine UnaryOp_ (thn (ha U s Y H _ I h) λv s1 ⟨x,H1,I1,r1,q1⟩=>?_);obtain⟨c,rfl,q1⟩:=q1;cases r1;exact not_of (YV ⟨.bl (!c),H1,I1,rfl,q1⟩)
end
def SqL(K:yw)(H:Hp)(a:yc)(xs:List V):Prop :=
 Rd H a (.lst xs) \/
  ∃(o:YS)(its:Array yb)(n:Nat),K.lookup a=some o/\o.cls=.type "list"/\o.dict=none/\o.data=.seq its n/\its.size<=yG/\Vals xs its.toList
def SqT(K:yw)(H:Hp)(a:yc)(xs:List V):Prop :=
 Rd H a (.tup xs) \/
  ∃(o:YS)(its:Array yb)(n:Nat),K.lookup a=some o/\o.cls=.type "tuple"/\o.data=.seq its n/\its.size<=yG/\Vals xs its.toList
def zcG:yb->Option V
 |.none=>some .non
 |.bool b=>some (.bl b)
 |.int i _=>some (.int i)
 |.str x _=>some (.str x)
 |.bytes b _=>some (.byt b)
 |.float b _=>some (.flt b)
 |.ref a=>some (.ref a)
 |.type n=>some (.ty n)
 |_=>none
def RelV.abs{x:V}{u:yb}(r:RelV x u):zcG u=some x:=by
 cases x with
 |non=>cases r;rfl
 |bl _=>cases r;rfl
 |int _=>obtain⟨t,rfl⟩:=r;rfl
 |str _=>obtain⟨t,rfl⟩:=r;rfl
 |byt _=>obtain⟨t,rfl⟩:=r;rfl
 |flt _=>obtain⟨t,rfl⟩:=r;rfl
 |ref _=>cases r;rfl
 |ty _=>cases r;rfl
def RelV.inj{x y:V}{u:yb}(r:RelV x u)(q:RelV y u):x=y:=yW (r.abs.symm.trans q.abs)
def Vals.inj{xs ys:List V}{us:List yb}(h:Vals xs us):Vals ys us->xs=ys:=by
 induction h generalizing ys with
 |nil=>intro h;cases h;rfl
 |cons r _ ih=>
  intro h
  cases h with
  |cons r' t'=>rw[r.inj r',ih t']
section
variable {X:Cx}{U:List (yc×YS)}{Y:St}{H:Hp}{s:yd}{a:yc}{xs ys:List V}
def SqL.of{K:yw}(h:H a=some (.lst xs)):SqL K H a xs:=.inl (.inl h)
def SqT.of{K:yw}(h:H a=some (.tup xs)):SqT K H a xs:=.inl (.inl h)
def Inv.list(I:Inv X U Y H s)(h:SqL X.K H a xs):∃its:List yb,Vals xs its/\PlainL s.heap a its.toArray/\xs.length<=yG:=by
 rcases h with h|⟨o,its,n,hk,hc,hd,hs,hz,r⟩
 ·obtain⟨z,its,n,r,e⟩:=h.ok I.hok;exact⟨its,r,⟨_,n,e,rfl,rfl,rfl⟩,z⟩
 ·refine⟨its.toList,r,⟨o,n,I.kIn a o hk,hc,hd,by simpa using hs⟩,?_⟩;have e:=r.length;simp only[YI]at e;omega
def Inv.tuple(I:Inv X U Y H s)(h:SqT X.K H a xs):∃its:List yb,Vals xs its/\IsTup s.heap a its.toArray/\xs.length<=yG:=by
 rcases h with h|⟨o,its,n,hk,hc,hs,hz,r⟩
 ·obtain⟨z,its,r,p⟩:=h.ok I.hok;exact⟨its,r,p,z⟩
 ·refine⟨its.toList,r,⟨o,I.kIn a o hk,hc,n,by simpa using hs⟩,?_⟩;have e:=r.length;simp only[YI]at e;omega
def Inv.sv(I:Inv X U Y H s)(h:SqL X.K H a xs)(h':SqL X.K H a ys):xs=ys:=by
 obtain⟨its,r,⟨o,n,e,_,_,d⟩,_⟩:=I.list h;obtain⟨its',r',⟨o',n',e',_,_,d'⟩,_⟩:=I.list h';rw[e]at e';cases e';rw[d]at d';injection d' with d1 _;have:its=its':=by simpa using congrArg Array.toList d1
 subst this;exact r.inj r'
def Inv.TX(I:Inv X U Y H s)(h:SqT X.K H a xs)(h':SqT X.K H a ys):xs=ys:=by
 obtain⟨its,r,⟨o,e,_,n,d⟩,_⟩:=I.tuple h;obtain⟨its',r',⟨o',e',_,n',d'⟩,_⟩:=I.tuple h';rw[e]at e';cases e';rw[d]at d';injection d' with d1 _;have:its=its':=by simpa using congrArg Array.toList d1
 subst this;exact r.inj r'
end
abbrev Cx.sD(X:Cx)(E:yb->yd->Prop):Cx:={X with xe:=E }
abbrev Cx.nox(X:Cx):Cx:=X.sD λ_ _=>False
def Cx.Ok.sD{X:Cx}(ok:X.Ok)(E:yb->yd->Prop):(X.sD E).Ok :=
 ⟨ok.mod,ok.kind,ok.glob,ok.blt,ok.above,ok.inj,ok.has,ok.cab,ok.hd,ok.frames,ok.stk,ok.exf,ok.bs,ok.bsz,ok.Sx,ok.exfs,ok.sr,ok.frf⟩
def Cx.Ok.Tw{X:Cx}{E:yb->yd->Prop}(ok:(X.sD E).Ok):X.Ok :=
 ⟨ok.mod,ok.kind,ok.glob,ok.blt,ok.above,ok.inj,ok.has,ok.cab,ok.hd,ok.frames,ok.stk,ok.exf,ok.bs,ok.bsz,ok.Sx,ok.exfs,ok.sr,ok.frf⟩
section
variable {X:Cx}{U:List (yc×YS)}{Y:St}{H:Hp}{s:yd}{E:yb->yd->Prop}
def Inv.sD(I:Inv X U Y H s)(E:yb->yd->Prop):Inv (X.sD E) U Y H s:=⟨I.ok.sD E,I.os,I.bare,I.base,I.loc,I.cell,I.free,I.freeC,I.pin,I.hok,I.len⟩
def Inv.Tw(I:Inv (X.sD E) U Y H s):Inv X U Y H s:=⟨I.ok.Tw,I.os,I.bare,I.base,I.loc,I.cell,I.free,I.freeC,I.pin,I.hok,I.len⟩
def SP.Tw{D:Ends}{f:Flow}{s':yd}(h:SP (X.sD E) U D f s'):SP X U D f s':=by
 cases f with
 |next=>obtain⟨Y',H',I,q⟩:=h;exact⟨Y',H',I.Tw,q⟩
 |brk=>obtain⟨Y',H',I,q⟩:=h;exact⟨Y',H',I.Tw,q⟩
 |cont=>obtain⟨Y',H',I,q⟩:=h;exact⟨Y',H',I.Tw,q⟩
 |ret u=>obtain⟨v,Y',H',I,r,q⟩:=h;exact⟨v,Y',H',I.Tw,r,q⟩
def PSs.nox{st:List yR}{t:TS}(h:PSs X.nox st t):PSs X st t:=λU s Y H D I hw=>
 xp (h U s Y H D (I.sD _) hw) (λ_ _ q=>q.Tw) λ_ _ z=>xq z
variable {st:yR}{rest:List yR}{t u:TS}{e:yD}{te:TE}{pos:xo}
def zbF:TS:=λD Y H=>D.nx Y H
def zbG(t u:TS):TS:=λD Y H=>t {D with nx:=u D } Y H
def zdB:PSs X [] zbF:=λ_ _ Y H _ I h=>wpAny_execs_nil ⟨Y,H,I,h⟩
def zQy(h1:PS X st t)(h2:PSs X rest u):PSs X (st::rest) (zbG t u):=by
 intro U s Y H D I h;refine wpAny_execs_cons (thn (h1 U s Y H {D with nx:=u D } I h) λf s1 q=>?_)
 cases f with
 |next=>
  obtain⟨Y',H',I',q⟩:=q;exact h2 U s1 Y' H' D I' q
 |ret v=>exact q
 |brk=>exact q
 |cont=>exact q
def ziB(h1:PS X st t):PSs X [st] t:=by
 intro U s Y H D I h;refine wpAny_execs_cons (thn (h1 U s Y H D I h) λf s1 q=>?_)
 cases f with
 |next=>exact wpAny_execs_nil q
 |ret v=>exact q
 |brk=>exact q
 |cont=>exact q
def Inv.quiet{U:List (yc×YS)}{Y:St}{H:Hp}{s:yd}(I:Inv X U Y H s):interactive X.env=false:=by simp[interactive,I.ok.kind]
def zPE(te:TE):TS:=λD Y H=>te Y H λ_ H1=>D.nx Y H1
def zMA(he:PE X e te)(hs:swapsWith e none pos.line X.env=pure false:=by rfl):PS X (.Expr e pos) (zPE te):=by
 intro U s Y H D I h;exact wpAny_Expr_any (thn (he U s Y H _ I h) λv s1 ⟨x,H1,I1,r1,q1⟩=>⟨Y,H1,I1,q1⟩) I.quiet hs
def zaG(te:TE):TS:=λD Y H=>te Y H D.rt
def zOD(he:PE X e te):PS X (.Return (some e) pos) (zaG te):=by
 intro U s Y H D I h;exact wpAny_Return_some (thn (he U s Y H _ I h) λv s1 ⟨x,H1,I1,r1,q1⟩=>⟨x,Y,H1,I1,r1,q1⟩)
def zNF(c:TT)(t u:TS):TS:=λD Y H=>c Y H λb H1=>if b=true then t D Y H1 else u D Y H1
def zeF{c:yD}{a b:List yR}{tc:TT}(hc:PT X c tc)(ha:PSs X a t)(hb:PSs X b u):PS X (.If c a b pos) (zNF tc t u):=by
 intro U s Y H D I h;refine wpAny_If (thn (hc U s Y H _ I h) λd s1 ⟨H1,I1,q1⟩=>?_)
 cases d with
 |true=>exact ha U s1 Y H1 D I1 q1
 |false=>exact hb U s1 Y H1 D I1 q1
def zmD:TS:=λ_ _ _=>False
def zqy:PS X st zmD:=λ_ _ _ _ _ _ h=>h.elim
end
abbrev TG:=V->St->Hp->(St->Hp->Prop)->Prop
abbrev TGs:=List V->St->Hp->(St->Hp->Prop)->Prop
def PG(X:Cx)(target:yD)(t:TG):Prop :=
 ∀(U:List (yc×YS)) (s:yd) (Y:St) (H:Hp) (v:V) (u:yb) (Q:St->Hp->Prop),Inv X U Y H s->RelV v u->t v Y H Q ->
  yq (yC X.prog X.w) X.A (assign target X.env u) (λ_ s'=>∃Y' H',Inv X U Y' H' s'/\Q Y' H') X.xe s
def PGs(X:Cx)(ts:List yD)(t:TGs):Prop :=
 ∀(U:List (yc×YS)) (s:yd) (Y:St) (H:Hp) (vs:List V) (us:List yb) (Q:St->Hp->Prop),Inv X U Y H s->Vals vs us->t vs Y H Q ->
  yq (yC X.prog X.w) X.A (assignInOrder ((YW ts X.env).map (·.2)) us) (λ_ s'=>∃Y' H',Inv X U Y' H' s'/\Q Y' H') X.xe s
abbrev z6D:=V->V->V->Hp->(Hp->Prop)->Prop
def zfE(X:Cx)(t:z6D):Prop :=
 ∀(U:List (yc×YS)) (s:yd) (Y:St) (H:Hp) (o i v:V) (ov iv u:yb) (Q:Hp->Prop),Inv X U Y H s->RelV o ov->RelV i iv->RelV v u->t o i v H Q ->
  yq (yC X.prog X.w) X.A (setItem ov iv u) (λ_ s'=>∃H',Inv X U Y H' s'/\Q H') X.xe s
abbrev TIp:=V->V->Hp->VK->Prop
def PIp(X:Cx)(op:Operator)(t:TIp):Prop :=
 ∀(U:List (yc×YS)) (s:yd) (Y:St) (H:Hp) (x y:V) (v u:yb) (Q:VK),Inv X U Y H s->RelV x v->RelV y u->t x y H Q ->
  yq (yC X.prog X.w) X.A (inplaceOp op v u) (EP X U Y Q) X.xe s
section
variable {X:Cx}{pos:xo}
def z1B(i:Nat):TG:=λv Y H Q=>Q (Y.set i (some v)) H
def zFw{i:Nat}{x:yn}(hN:X.N.Nodup)(hi:X.N[i]?=some x)(hx:Loc X.env.scope x)(hf:X.fn x=true\/X.env.scope.names.lookup x=some .local:=by first|exact .inl rfl|exact .inr rfl|assumption):PG X (.Name x pos) (z1B i):=by
 intro U s Y H v u Q I r h;exact wpAny_assign_Name (zXp I hN hi hx r (λs' I'=>⟨_,H,I',h⟩) hf)
def zdG:TGs:=λvs Y H Q=>vs=[]/\Q Y H
def ztE(t:TG)(u:TGs):TGs:=λvs Y H Q=>∃v r,vs=v::r/\t v Y H λY' H'=>u r Y' H' Q
def zKw:PGs X [] zdG:=by
 intro U s Y H vs us Q I r h;obtain⟨e,h⟩:=h;subst e;cases r;exact assignInOrder_nil ⟨Y,H,I,h⟩
def z3t{e:yD}{es:List yD}{t:TG}{u:TGs}(h1:PG X e t)(h2:PGs X es u)
 (hs:(YW (e::es) X.env).map (·.2)=assign e X.env::(YW es X.env).map (·.2):=by rfl):PGs X (e::es) (ztE t u):=by
 intro U s Y H vs us Q I r h;obtain⟨v,vr,e1,h⟩:=h;subst e1
 cases r with
 |cons r rr=>
  rw[hs];refine assignInOrder_cons (thn (h1 U s Y H _ _ _ I r h) λ_ s1 ⟨Y1,H1,I1,q1⟩=>?_);exact h2 U s1 Y1 H1 _ _ Q I1 rr q1
def zRF(K:yw)(n:Nat)(t:TGs):TG:=λv Y H Q=>∃a xs,v=.ref a/\SqT K H a xs/\xs.length=n/\t xs Y H Q
def zvA{es:List yD}{k:Nat}{t:TGs}{n:Nat}(hc:X.calm=true)(h:PGs X es t)
 (hn:(YW es X.env).length=n:=by rfl) (hst:(YW es X.env).findIdx? (·.1)=none:=by rfl):PG X (.Tuple es k pos) (zRF X.K n t):=by
 intro U s Y H v u Q I r hw;obtain⟨a,xs,e1,hq,hl,hw⟩:=hw;subst e1;cases r;obtain⟨its,rv,ht,hz⟩:=I.tuple hq;refine assign_Tuple_tuple (I.ok.hd hc) ht (by simp[hn,<-hl,rv.length]) hst λh' hx=>?_;have I1:Inv X U Y H {s with heap:=h' }:=I.kept (t':=s.toks) λb o e=>hx b o (yz (yo e)) e;exact h U _ Y H xs _ Q I1 (by simpa using rv) hw
def z7x(to ti:TE)(t:z6D):TG:=λv Y H Q=>to Y H λo H1=>ti Y H1 λi H2=>t o i v H2 λH3=>Q Y H3
def zyA{o i:yD}{to ti:TE}{t:z6D}(ho:PE X o to)(hi:PE X i ti)(hs:zfE X t)
 (ha:∀v,assign (.Subscript o i pos) X.env v=(do
  let ov <-xD [v] (Yb o X.env)
  let iv <-xD [v,ov] (Yb i X.env)
  standAt pos
  xD [v,ov,iv] (setItem ov iv v)
  release [v,ov,iv] []):=by intro _;rfl):PG X (.Subscript o i pos) (z7x to ti t):=by
 intro U s Y H v u Q I r h;rw[ha];refine ya (Yp (thn (ho U s Y H _ I h) λov s1 ⟨x,H1,I1,r1,q1⟩=>?_));refine ya (Yp (thn (hi U s1 Y H1 _ I1 q1) λiv s2 ⟨y,H2,I2,r2,q2⟩=>?_));refine ya (wpAny_standAt (ya (Yp (thn (hs U s2 Y H2 x y v ov iv u _ I2 r1 r2 r q2) λ_ s3 ⟨H3,I3,q3⟩=>?_))));exact wpAny_release ⟨Y,H3,I3,q3⟩
def zVE(te:TE)(g:TG):TS:=λD Y H=>te Y H λx H1=>g x Y H1 D.nx
def zVD{tg e:yD}{te:TE}{g:TG}(he:PE X e te)(hg:PG X tg g)(hs:swapsWithSole [tg] e pos.line X.env=pure false:=by rfl)(hw:swappedStores [tg] e X.env=pure none:=by rfl)
 (h1:(YW [tg] X.env).map (·.2)=[assign tg X.env]:=by rfl):PS X (.Assign [tg] e pos) (zVE te g):=by
 intro U s Y H D I h;refine wpAny_Assign_stores (thn (he U s Y H _ I h) λv s1 ⟨x,H1,I1,r1,q1⟩=>?_) hs hw;rw[h1];exact thn (hg U s1 Y H1 x v _ I1 r1 q1) λ_ s2 q=>q
def zyD{i:Nat}{x:yn}{e:yD}{te:TE}{pos':xo}(hN:X.N.Nodup)(hi:X.N[i]?=some x)(hx:Loc X.env.scope x)(he:PE X e te)(hs:swapsWith e (some (.Name x pos')) pos.line X.env=pure false:=by rfl)(hf:X.fn x=true\/X.env.scope.names.lookup x=some .local:=by first|exact .inl rfl|exact .inr rfl|assumption) :
 PS X (.Assign [.Name x pos'] e pos) (zVE te (z1B i)):=by
 intro U s Y H D I h;refine wpAny_Assign_Name (thn (he U s Y H _ I h) λv s1 ⟨y,H1,I1,r1,q1⟩=>?_) hs;exact zXp I1 hN hi hx r1 (λs2 I2=>⟨_,H1,I2,q1⟩) hf
def zPF(i:Nat)(te:TE)(ti:TIp):TS:=λD Y H=>∃x,Y[i]?=some (some x)/\te Y H λy H1=>ti x y H1 λz H2=>D.nx (Y.set i (some z)) H2
def zOC{i:Nat}{x:yn}{e:yD}{te:TE}{op:Operator}{ti:TIp}{pos':xo}(hN:X.N.Nodup)(hi:X.N[i]?=some x)(hx:Loc X.env.scope x)(he:PE X e te)(ho:PIp X op ti)(hf:X.fn x=true\/X.env.scope.names.lookup x=some .local:=by first|exact .inl rfl|exact .inr rfl|assumption) :
 PS X (.AugAssign (.Name x pos') op e pos) (zPF i te ti):=by
 intro U s Y H D I h;obtain⟨v,e1,h⟩:=h;obtain⟨m,hn,hl⟩:=I.loc;have vis:Vis X.env.scope x:=by rcases hx with k|k;exact .inl k;exact .inr (.inl k)
 obtain⟨u,r,l⟩:=hl i x v hi e1 vis;refine wpAny_AugAssign_Name ?_
 have go:yq (yC X.prog X.w) X.A (Yb e X.env) (λw s₂=>yq (yC X.prog X.w) X.A (inplaceOp op u w) (λr s₃=>yq (yC X.prog X.w) X.A (storeName X.env x r) (λ_=>SP X U D .next) X.xe s₃) X.xe s₂) X.xe s:=by
  refine thn (he U s Y H _ I h) λw s1 ⟨y,H1,I1,r1,q1⟩=>?_;refine thn (ho U s1 Y H1 v y u w _ I1 r r1 q1) λz s2 ⟨zv,H2,I2,r2,q2⟩=>?_;exact zXp I2 hN hi hx r2 (λs3 I3=>⟨_,H2,I3,q2⟩) hf
 rcases l with ⟨hk,hm⟩|⟨hk,c,hc,hcell⟩
 ·exact wpAny_loadName_local I.ok.kind hk hn hm go
 ·rcases hk with hk|hk
  ·exact wpAny_loadName_cell I.ok.kind hk hc hcell go
  ·rcases hx with k|k
   ·have:X.env.scope.names.lookup x=some .free:=hk;rw[k]at this;cases this
   ·have:X.env.scope.names.lookup x=some .free:=hk;rw[k]at this;cases this
def zXE(to ti te:TE)(tget:V->V->Hp->VK->Prop)(tip:TIp)(tset:z6D):TS:=λD Y H=>to Y H λo H1=>ti Y H1 λi H2=>tget o i H2 λx H3=>te Y H3 λy H4=>tip x y H4 λz H5=>tset o i z H5 λH6=>D.nx Y H6
def zKF(X:Cx)(t:V->V->Hp->VK->Prop):Prop :=
 ∀(U:List (yc×YS)) (s:yd) (Y:St) (H:Hp) (o i:V) (ov iv:yb) (Q:VK),Inv X U Y H s->RelV o ov->RelV i iv->t o i H Q ->
  yq (yC X.prog X.w) X.A (getItem ov iv) (EP X U Y Q) X.xe s
def z7B{o i e:yD}{to ti te:TE}{tget:V->V->Hp->VK->Prop}{tip:TIp}{tset:z6D}{op:Operator}{tpos:xo}(ho:PE X o to)(hi:PE X i ti)(hg:zKF X tget)(he:PE X e te)(hp:PIp X op tip)(hs:zfE X tset)
 (ha:∀ov iv new,augStore i ov iv new=(do xD [new,ov,iv] (setItem ov iv new);release [new,ov,iv] [];pure .next):=by intros;rfl):PS X (.AugAssign (.Subscript o i tpos) op e pos) (zXE to ti te tget tip tset):=by
 intro U s Y H D I h;refine wpAny_AugAssign_SubscriptAny (thn (ho U s Y H _ I h) λov s1 ⟨x1,H1,I1,r1,q1⟩=>?_) ha;refine thn (hi U s1 Y H1 _ I1 q1) λiv s2 ⟨x2,H2,I2,r2,q2⟩=>?_;refine thn (hg U s2 Y H2 x1 x2 ov iv _ I2 r1 r2 q2) λold s3 ⟨x3,H3,I3,r3,q3⟩=>?_;refine thn (he U s3 Y H3 _ I3 q3) λv s4 ⟨x4,H4,I4,r4,q4⟩=>?_;refine thn (hp U s4 Y H4 x3 x4 old v _ I4 r3 r4 q4) λnew s5 ⟨x5,H5,I5,r5,q5⟩=>?_;exact thn (hs U s5 Y H5 x1 x2 x5 ov iv new _ I5 r1 r2 r5 q5) λ_ s6 ⟨H6,I6,q6⟩=>⟨Y,H6,I6,q6⟩
def zFC(c:TT)(tb:TS):TS:=λD Y H=>∃W:Nat->St->Hp->Prop,(∃m,W m Y H)/\∀m Y H,W m Y H ->
 c Y H λb H1=>if b=true then ∃N:St->Hp->Prop,(∀Y' H',N Y' H'->∃m',m'<m/\W m' Y' H')/\tb {D with nx:=N,ct:=N,bk:=D.nx } Y H1 else D.nx Y H1
def zry{c:yD}{body:List yR}{tc:TT}{tb:TS}(hp:PassesOwn (yC X.prog X.w) X.A X.env X.xe)(hc:PT X c tc)(hb:PSs X body tb):PS X (.While c body [] pos) (zFC tc tb):=by
 intro U s Y H D I h;obtain⟨W,⟨m0,w0⟩,turn⟩:=h;refine wpAny_While (codeAny_whileLoop (λn s'=>∃Y' H',Inv X U Y' H' s'/\W n Y' H') ?_ m0 ⟨Y,H,I,w0⟩);rintro n s1 ⟨Y1,H1,I1,w1⟩;refine xK hp (thn (hc U s1 Y1 H1 _ I1 (turn n Y1 H1 w1)) λb s2 ⟨H2,I2,q2⟩=>?_)
 cases b with
 |true=>
  obtain⟨N,hN,q2⟩:=q2;rw[if_pos rfl];refine xK hp (thn (hb U s2 Y1 H2 _ I2 q2) λf s3 q3=>?_)
  cases f with
  |next=>
   obtain⟨Y3,H3,I3,n3⟩:=q3;obtain⟨m',hm,w3⟩:=hN Y3 H3 n3;exact⟨m',hm,Y3,H3,I3,w3⟩
  |cont=>
   obtain⟨Y3,H3,I3,n3⟩:=q3;obtain⟨m',hm,w3⟩:=hN Y3 H3 n3;exact⟨m',hm,Y3,H3,I3,w3⟩
  |brk=>exact q3
  |ret v=>exact q3
 |false=>
  rw[if_neg yB];exact wpAny_execs_nil ⟨Y1,H2,I2,q2⟩
end
structure It where
 go:Nat->Hp->Prop
 yld:Nat->Hp->V->Hp->Prop
 stop:Nat->Hp->Prop
def zSs(X:Cx)(U:List (yc×YS))(H:Hp)(b:yc):Prop :=
 H b=none/\b≠X.env.locals/\b∉X.fs/\(b∈X.ex\/X.s₀.heap.objs.size<=b)/\(∀x c,X.env.cells.lookup x=some c->c≠b)/\∀p∈X.pn++U,p.1≠b
def Inv.sO{X:Cx}{U:List (yc×YS)}{Y:St}{H H':Hp}{s:yd}{b:yc}(I:Inv X U Y H s)(hb:s.heap.objs.size<=b)(hn:H' b=none):zSs X U H' b:=by
 refine⟨hn,Yk (yE I.lt hb),I.nofs hb,.inr (yF I.sz hb),λx c e z=>?_,λp hp z=>?_⟩
 ·obtain⟨v,q⟩:=I.cell x c e;exact absurd (yE q.lt (by rw[z];exact hb)) (yY _)
 ·exact absurd (yE (yo (I.pin p hp).1) (by rw[z];exact hb)) (yY _)
structure Turn(P:yu)(w:yI)(K:yw)(tg:yD)(δ:It)(fp:List yc)(it:yc)(tn:Nat->yS->Prop):Prop where
 mem:it∈fp
 obj:∀i h,tn i h->∀b∈fp,∃o,h.get? b=some o/\∀v,o.data≠.cell v
 keep:∀i h h',tn i h->(∀b∈fp,∀o,h.get? b=some o->h'.get? b=some o)->tn i h'
 item:∀(X:Cx),X.prog=P->X.w=w->X.K=K->X.calm=true->∀(i:Nat)(U:List (yc×YS)) (s:yd) (Y:St) (H:Hp) (E:yb->yd->Prop),Inv X U Y H s->(∀b∈fp,zSs X U H b)->tn i s.heap->δ.go i H ->
  yq (yC P w) X.A (xP (.ref it)) (λr s1=>∃u,r=some u /\
   yq (yC P w) X.A (letOwnedTupleGo tg (.ref it) u) (λ_ s2=>∃x H',Inv X U Y H' s2/\RelV x u/\δ.yld i H x H'/\tn (i+1) s2.heap/\∀b∈fp,H' b=none) E s1) E s
 done:∀(X:Cx),X.prog=P->X.w=w->X.K=K->X.calm=true->∀(i:Nat)(U:List (yc×YS)) (s:yd) (Y:St) (H:Hp) (E:yb->yd->Prop),Inv X U Y H s->(∀b∈fp,zSs X U H b)->tn i s.heap->δ.stop i H ->
  yq (yC P w) X.A (xP (.ref it)) (λr s1=>r=none/\Inv X U Y H s1) E s
 self:∀(A:yJ)(i:Nat)(s:yd)(Q:yb->yd->Prop)(E:yb->yd->Prop),tn i s.heap->Q (.ref it) s->yq (yC P w) A (pyIter (.ref it)) Q E s
abbrev TI:=St->Hp->(It->Hp->Prop)->Prop
def PIE(X:Cx)(U:List (yc×YS))(Y:St)(tg:yD)(R:It->Hp->Prop)(itv:yb)(s2:yd):Prop :=
 ∃(it:yc)(fp:List yc)(tn:Nat->yS->Prop)(δ:It)(H':Hp),itv=.ref it/\Inv X U Y H' s2/\Turn X.prog X.w X.K tg δ fp it tn/\tn 0 s2.heap/\(∀b∈fp,zSs X U H' b)/\R δ H'
def PI(X:Cx)(tg iter:yD)(wi:TI):Prop :=
 ∀(U:List (yc×YS)) (s:yd) (Y:St) (H:Hp) (R:It->Hp->Prop),Inv X U Y H s->wi Y H R ->
  yq (yC X.prog X.w) X.A (Yb iter X.env) (λv s1=>yq (yC X.prog X.w) X.A (pyIter v) (PIE X U Y tg R) X.xe s1) X.xe s
def zOx{M:Model}{A:yJ}{E:yb->yd->Prop}{s:yd}{tg:yD}{it:yc}{u:yb}{o:YS}{n:String}{vs:Array yb}{Q:Unit->yd->Prop}(ho:s.heap.get? it=some o)(hc:o.cls=.type n)(hd:o.data=.fields vs)
 (hn:["enumerate","zip","dict_itemiterator","dict_reverseitemiterator","odict_iterator","itertools.zip_longest","itertools.pairwise"].contains n=false) (hQ:Q () s):yq M A (letOwnedTupleGo tg (.ref it) u) Q E s:=by
 unfold letOwnedTupleGo
 cases tg<;>first
  |exact yg hQ
  |(cases u<;>first
   |exact yg hQ
   | (refine ya (wpAny_load ho ?_)
      rw[hc,hd];show yq M A (if(["enumerate","zip","dict_itemiterator","dict_reverseitemiterator","odict_iterator","itertools.zip_longest","itertools.pairwise"].contains n&&vs[0]?==some (YM _))=true then _ else _) Q E s;rw[if_neg (by intro h;rw[hn,Bool.false_and]at h;cases h)];exact yg hQ))
def Itl(K:yw)(a:yc):It :=
 ⟨λi H=>∃xs x,SqL K H a xs/\xs[i]?=some x,λi H x H'=>H'=H/\∀xs,SqL K H a xs->xs[i]?=some x,λi H=>∃xs,SqL K H a xs/\xs.length<=i⟩
def Itt(K:yw)(a:yc):It :=
 ⟨λi H=>∃xs x,SqT K H a xs/\xs[i]?=some x,λi H x H'=>H'=H/\∀xs,SqT K H a xs->xs[i]?=some x,λi H=>∃xs,SqT K H a xs/\xs.length<=i⟩
def Itr(lo:Int)(n:Nat):It:=⟨λi _=>i<n,λi H x H'=>H'=H/\x=.int (lo+i),λi _=>n<=i⟩
def zRw{P:yu}{w:yI}{K:yw}{tg:yD}(a it:yc):Turn P w K tg (Itl K a) [it] it (λi h=>h.IsListIter it a i) where
 mem:=by simp
 obj:=λi h st b hb=>by
  have e:b=it:=by simpa using hb
  subst e;obtain⟨o,e,c,d⟩:=st;exact⟨o,e,λv z=>by rw[d]at z;cases z⟩
 keep:=λi h h' st k=>st.at λo e=>k it (by simp) o e
 item:=by
  intro X hP hw hK hc i U s Y H E I hf st hg;subst hP hw hK;obtain⟨xs,x,hq,hx⟩:=hg;obtain⟨its,rv,p,hz⟩:=I.list hq;obtain⟨u,hu,ru⟩:=rv.get hx;obtain⟨f0,f1,f2,f3,f4,f5⟩:=hf it (by simp);refine wpAny_pyNext_list_item st p.isList (x:=u) (by simpa using hu) λh' st' sb=>?_;have I1:Inv X U Y H {s with heap:=h' }:=I.turned (t':=s.toks) (λb o hb e=>(sb.2 b hb).trans e) f0 f1 f3 f4 f5;obtain⟨o,e,c,d⟩:=id st';exact⟨u,rfl,zOx (s:={s with heap:=h' }) e c d (by decide) ⟨x,H,I1,ru,⟨rfl,λys hy=>by rw[I.sv hy hq];exact hx⟩,st',λb hb=>(hf b hb).1⟩⟩
 done:=by
  intro X hP hw hK hc i U s Y H E I hf st hg;subst hP hw hK;obtain⟨xs,hq,hx⟩:=hg;obtain⟨its,rv,p,hz⟩:=I.list hq;obtain⟨f0,f1,f2,f3,f4,f5⟩:=hf it (by simp);have hl:=rv.length;exact wpAny_pyNext_list_end (I.ok.hd hc) st p.isList (by simp;omega) λh' eb=>⟨rfl,I.turned (t':=s.toks) (λb o hb e=>eb b o hb e) f0 f1 f3 f4 f5⟩
 self:=λ_ _ _ _ _ st h=>wpAny_pyIter_listiter st h
def zev{P:yu}{w:yI}{K:yw}{tg:yD}(a it:yc):Turn P w K tg (Itt K a) [it] it (λi h=>h.IsTupleIter it a i) where
 mem:=by simp
 obj:=λi h st b hb=>by
  have e:b=it:=by simpa using hb
  subst e;obtain⟨o,e,c,d⟩:=st;exact⟨o,e,λv z=>by rw[d]at z;cases z⟩
 keep:=λi h h' st k=>st.at λo e=>k it (by simp) o e
 item:=by
  intro X hP hw hK hc i U s Y H E I hf st hg;subst hP hw hK;obtain⟨xs,x,hq,hx⟩:=hg;obtain⟨its,rv,p,hz⟩:=I.tuple hq;obtain⟨u,hu,ru⟩:=rv.get hx;obtain⟨f0,f1,f2,f3,f4,f5⟩:=hf it (by simp);refine wpAny_pyNext_tuple_item st (show s.heap.IsTuple a its.toArray from p) (x:=u) (by simpa using hu) λh' st' sb=>?_;have I1:Inv X U Y H {s with heap:=h' }:=I.turned (t':=s.toks) (λb o hb e=>(sb.2 b hb).trans e) f0 f1 f3 f4 f5;obtain⟨o,e,c,d⟩:=id st';exact⟨u,rfl,zOx (s:={s with heap:=h' }) e c d (by decide) ⟨x,H,I1,ru,⟨rfl,λys hy=>by rw[I.TX hy hq];exact hx⟩,st',λb hb=>(hf b hb).1⟩⟩
 done:=by
  intro X hP hw hK hc i U s Y H E I hf st hg;subst hP hw hK;obtain⟨xs,hq,hx⟩:=hg;obtain⟨its,rv,p,hz⟩:=I.tuple hq;obtain⟨f0,f1,f2,f3,f4,f5⟩:=hf it (by simp);have hl:=rv.length;exact wpAny_pyNext_tuple_end (I.ok.hd hc) st (show s.heap.IsTuple a its.toArray from p) (by simp;omega) λh' eb=>⟨rfl,I.turned (t':=s.toks) (λb o hb e=>eb b o hb e) f0 f1 f3 f4 f5⟩
 self:=λ_ _ _ _ _ st h=>wpAny_pyIter_tupleiter st h
def z0v{P:yu}{w:yI}{K:PySem.W.Frag}{tg:yD}(it:yc)(lo:Int)(n:Nat):Turn P w K tg (Itr lo n) [it] it (λi h=>IsRangeIter h it (lo+(i:Nat)*1) ((n:Int)-(i:Nat)) 1) where
 mem:=by simp
 obj:=λi h st b hb=>by
  have e:b=it:=by simpa using hb
  subst e
  exact⟨_,st,λv z=>by
   have z':Data.fields _=Data.cell v:=z;cases z'⟩
 keep:=λi h h' st k=>k it (by simp) _ st
 item:=by
  intro X hP hw hK hc i U s Y H E I hf st hg;subst hP hw hK;obtain⟨f0,f1,f2,f3,f4,f5⟩:=hf it (by simp);have W:=Walks.range (prog:=X.prog) (w:=X.w) (I.ok.hd hc) it lo 1 n;refine W.item i s _ _ hg st λv h' tk hv st' kk=>?_;obtain⟨t,rfl⟩:=hv;have I1:Inv X U Y H {s with heap:=h',toks:=tk }:=I.turned (λb o hb e=>kk b o (by simpa using hb) e) f0 f1 f3 f4 f5;refine⟨_,rfl,zOx (s:={s with heap:=h',toks:=tk }) (n:="range_iterator") st' rfl rfl (by decide) ⟨.int (lo+i),H,I1,⟨t,?_⟩,⟨rfl,rfl⟩,st',λb hb=>(hf b hb).1⟩⟩;rw[Int.mul_one]
 done:=by
  intro X hP hw hK hc i U s Y H E I hf st hg;subst hP hw hK;obtain⟨f0,f1,f2,f3,f4,f5⟩:=hf it (by simp);exact wpAny_pyNext_range_end (I.ok.hd hc) st (by have:n<=i:=hg;omega) λh' eb=>⟨rfl,I.turned (t':=s.toks) (λb o hb e=>eb b o hb e) f0 f1 f3 f4 f5⟩
 self:=λ_ _ _ _ _ st h=>wpAny_pyIter_rangeiter st h
section
variable {X:Cx}{tg:yD}
def zvw(K:yw)(tl:TE):TI:=λY H R=>tl Y H λx H1=>∃a,x=.ref a/\(∃xs,SqL K H1 a xs)/\R (Itl K a) H1
def zOF(K:yw)(tl:TE):TI:=λY H R=>tl Y H λx H1=>∃a,x=.ref a/\(∃xs,SqT K H1 a xs)/\R (Itt K a) H1
def zoB{l:yD}{tl:TE}(hl:PE X l tl):PI X tg l (zvw X.K tl):=by
 intro U s Y H R I h;refine thn (hl U s Y H _ I h) λv s1 ⟨x,H1,I1,r1,q1⟩=>?_;obtain⟨a,e,⟨xs,hq⟩,q⟩:=q1;subst e;cases r1;obtain⟨its,rv,p,hz⟩:=I1.list hq;refine xM p.isList ?_;refine⟨s1.heap.objs.size,[s1.heap.objs.size],_,_,H1,rfl,I1.kept (t':=s1.toks) λb o e=>ye _ e,zRw a _,⟨_,ym _ rfl,rfl,rfl⟩,λb hb=>?_,q⟩;have e:b=s1.heap.objs.size:=by simpa using hb
 subst e;exact I1.sO (yk _) (I1.hok.fresh (yk _))
def zAC{l:yD}{tl:TE}(hl:PE X l tl):PI X tg l (zOF X.K tl):=by
 intro U s Y H R I h;refine thn (hl U s Y H _ I h) λv s1 ⟨x,H1,I1,r1,q1⟩=>?_;obtain⟨a,e,⟨xs,hq⟩,q⟩:=q1;subst e;cases r1;obtain⟨its,rv,p,hz⟩:=I1.tuple hq;refine xw (show s1.heap.IsTuple a its.toArray from p) ?_;refine⟨s1.heap.objs.size,[s1.heap.objs.size],_,_,H1,rfl,I1.kept (t':=s1.toks) λb o e=>ye _ e,zev a _,⟨_,ym _ rfl,rfl,rfl⟩,λb hb=>?_,q⟩;have e:b=s1.heap.objs.size:=by simpa using hb
 subst e;exact I1.sO (yk _) (I1.hok.fresh (yk _))
def z6y{U:List (yc×YS)}{Y:St}{H:Hp}{s:yd}{R:It->Hp->Prop}{E:yb->yd->Prop}{lo hi:Int}{t u v:Tok}{tk:Nat}(I:Inv X U Y H s)(h1:-(2^62)<=lo)(h2:lo<2^62)(h3:-(2^62)<=hi)(h4:hi<2^62)
 (q:R (Itr lo (hi-lo).toNat) H):yq (yC X.prog X.w) X.A (pyIter (.ref s.heap.objs.size)) (PIE X U Y tg R) E {s with heap:=s.heap.push {cls:=.type "range",data:=.fields #[.int lo t,.int hi u,.int 1 v]},toks:=tk }:=by
 refine wpAny_pyIter_range (IsRange.new ..) (small_one h1 h2 h3 h4) ?_;have I1:Inv X U Y H {s with heap:=s.heap.push {cls:=.type "range",data:=.fields #[.int lo t,.int hi u,.int 1 v]},toks:=tk }:=I.kept λb o e=>ye _ e
 refine⟨(s.heap.push {cls:=.type "range",data:=.fields #[.int lo t,.int hi u,.int 1 v]}).objs.size,[(s.heap.push {cls:=.type "range",data:=.fields #[.int lo t,.int hi u,.int 1 v]}).objs.size],_,_,H,rfl,
  I1.kept (t':=tk) λb o e=>ye _ e,z0v _ lo (hi-lo).toNat,?_,λb hb=>?_,q⟩
 ·have e1:lo+((0:Nat):Int)*1=lo:=by simp
  have e2:(((hi-lo).toNat:Nat):Int)-((0:Nat):Int)=Builtin.Range.rangeSize lo hi 1:=by rw[rangeSize_one];split<;>omega
  show IsRangeIter _ _ (lo+((0:Nat):Int)*1) ((((hi-lo).toNat:Nat):Int)-((0:Nat):Int)) 1;rw[e1,e2];exact ym _ rfl
 ·have e:b=(s.heap.push {cls:=.type "range",data:=.fields #[.int lo t,.int hi u,.int 1 v]}).objs.size:=by simpa using hb
  subst e;exact I1.sO (yk _) (I1.hok.fresh (yk _))
def zyE(ta:TA):TI:=λY H R=>ta Y H λvs H1=>∃j:Int,vs=[.int j]/\-(2^62)<=j/\j<2^62/\R (Itr 0 j.toNat) H1
def zXx{a:yD}{ta:TA}{p pos:xo}(hg:Gl X "range")(hm:X.mg "range"=none)(ha:PA X [a] ta)(hs:yj [a] X.env=[(false,Yb a X.env)]:=by rfl):PI X tg (.Call (.Name "range" p) [a] [] pos) (zyE ta):=by
 intro U s Y H R I h;refine Call_ (zvl I hg hm boot_range (YD (thn (ha pos U s Y H _ I h) λus s1 ⟨vs,H1,I1,r1,q1⟩=>?_) hs rfl));obtain⟨j,e,q1,q2,q⟩:=q1;subst e
 cases r1 with
 |cons r rr=>
  cases rr;obtain⟨t,rfl⟩:=r;exact call_range_1 (z6y I1 (by omega) (by omega) q1 q2 (by simpa using q))
def zZF(wi:TI)(g:TG)(tb:TS):TS:=λD Y H=>wi Y H λδ H1=>∃W:Nat->Nat->St->Hp->Prop,(∃m,W 0 m Y H1)/\∀i m Y H,W i m Y H ->
 (δ.stop i H/\D.nx Y H)\/(δ.go i H/\∃N:St->Hp->Prop,(∀Y' H',N Y' H'->∃m',m'<m/\W (i+1) m' Y' H')/\∀x H',δ.yld i H x H'->g x Y H' λY2 H2=>tb {D with nx:=N,ct:=N,bk:=D.nx } Y2 H2)
def ztr(fp:List yc)(h:yS):List (yc×YS):=fp.filterMap λb=>(h.get? b).map λo=>(b,o)
def zFi{fp:List yc}{h:yS}{b:yc}{o:YS}(hb:b∈fp)(e:h.get? b=some o):(b,o)∈ztr fp h:=List.mem_filterMap.mpr ⟨b,hb,by rw[e];rfl⟩
def zPx{fp:List yc}{h:yS}{p:yc×YS}(hp:p∈ztr fp h):p.1∈fp/\h.get? p.1=some p.2:=by
 obtain⟨b,hb,e⟩:=List.mem_filterMap.mp hp
 cases q:h.get? b with
 |none=>rw[q]at e;cases e
 |some o=>
  rw[q]at e;have e':(b,o)=p:=yW e;subst e';exact⟨hb,q⟩
def Inv.pinned{U:List (yc×YS)}{Y:St}{H:Hp}{s:yd}{fp:List yc}(I:Inv X U Y H s)(hf:∀b∈fp,zSs X U H b)(ho:∀b∈fp,∃o,s.heap.get? b=some o/\∀v,o.data≠.cell v):Inv X (U++ztr fp s.heap) Y H s :=
 I.sN λp hp=>(List.mem_append.mp hp).elim (λz=>I.pin p (mem_append_right _ z)) λz=>by
  obtain⟨hb,e⟩:=zPx z;obtain⟨f0,f1,f2,_⟩:=hf p.1 hb;obtain⟨o,e',d⟩:=ho p.1 hb;rw[e]at e';cases e';exact⟨e,f0,f1,f2,d⟩
def Inv.Tx{U pl:List (yc×YS)}{Y:St}{H:Hp}{s:yd}(I:Inv X (U++pl) Y H s):Inv X U Y H s:=I.sN λp hp=>I.pin p (mem_append_right _ (mem_append_left _ hp))
def z1D{iter:yD}{body:List yR}{wi:TI}{g:TG}{tb:TS}{pos:xo}(hp:PassesOwn (yC X.prog X.w) X.A X.env X.xe)(hc:X.calm=true)(hi:PI X tg iter wi)(hg:PG X tg g)(hb:PSs X body tb)
 (hs:∀x,YX iter X.env x=pure x:=by intro _;rfl):PS X (.For tg iter body [] pos) (zZF wi g tb):=by
 intro U s Y H D I h;refine wpAny_For (thn (hi U s Y H _ I h) λv s1 h1=>thn h1 λitv s2 h2=>?_) hs;obtain⟨it,fp,tn,δ,H2,e,I2,T,st2,f2,W,⟨m0,w0⟩,turn⟩:=h2;subst e;have stat:∀{H':Hp},(∀b∈fp,H' b=none)->∀b∈fp,zSs X U H' b:=λhn b hb=>⟨hn b hb,(f2 b hb).2⟩
 refine codeAny_forLoop_any (λn s'=>∃i Y' H',Inv X U Y' H' s'/\tn i s'.heap/\(∀b∈fp,H' b=none)/\W i n Y' H') ?_ m0 ⟨0,Y,H2,I2,st2,λb hb=>(f2 b hb).1,w0⟩;rintro n s3 ⟨i,Y3,H3,I3,st3,fr3,w3⟩;rcases turn i n Y3 H3 w3 with ⟨stop,qn⟩|⟨go,N,hN,step⟩
 ·refine xK hp (thn (T.done X rfl rfl rfl hc i U s3 Y3 H3 X.xe I3 (stat fr3) st3 stop) λr s4 ⟨hr,I4⟩=>?_);subst hr;exact wpAny_execs_nil ⟨Y3,H3,I4,qn⟩
 ·refine xK hp (thn (T.item X rfl rfl rfl hc i U s3 Y3 H3 X.xe I3 (stat fr3) st3 go) λr s4 ⟨u,hr,h4⟩=>?_);subst hr;refine xK hp (thn h4 λ_ s5 ⟨x,H5,I5,r5,y5,st5,fr5⟩=>?_);have I5':=I5.pinned (stat fr5) (T.obj _ _ st5);refine xK hp (thn (hg _ s5 Y3 H5 x u _ I5' r5 (step x H5 y5)) λ_ s6 ⟨Y6,H6,I6,q6⟩=>?_);refine xK hp (thn (hb _ s6 Y6 H6 _ I6 q6) λf s7 q7=>?_)
  have again:∀{Y7:St} {H7:Hp},Inv X (U++ztr fp s5.heap) Y7 H7 s7->N Y7 H7->∃m,m<n/\∃i Y' H',Inv X U Y' H' s7/\tn i s7.heap/\(∀b∈fp,H' b=none)/\W i m Y' H':=λ{Y7 H7} I7 n7=>by
   obtain⟨m',hm,w7⟩:=hN Y7 H7 n7;refine⟨m',hm,i+1,Y7,H7,I7.Tx,T.keep _ _ _ st5 λb hb o e=>(I7.pin (b,o) (mem_append_right _ (mem_append_right _ (zFi hb e)))).1,λb hb=>?_,w7⟩;obtain⟨o,e,d⟩:=T.obj _ _ st5 b hb;exact(I7.pin (b,o) (mem_append_right _ (mem_append_right _ (zFi hb e)))).2.1
  cases f with
  |next=>obtain⟨Y7,H7,I7,n7⟩:=q7;exact again I7 n7
  |cont=>obtain⟨Y7,H7,I7,n7⟩:=q7;exact again I7 n7
  |brk=>obtain⟨Y7,H7,I7,q7⟩:=q7;exact⟨Y7,H7,I7.Tx,q7⟩
  |ret v=>obtain⟨x7,Y7,H7,I7,r7,q7⟩:=q7;exact⟨x7,Y7,H7,I7.Tx,r7,q7⟩
end
abbrev R2:=V->V->Hp->VK->Prop
def OpR(X:Cx)(f:yb->yb->Sem yb)(r:R2):Prop :=
 ∀(U:List (yc×YS)) (s:yd) (Y:St) (H:Hp) (x y:V) (v u:yb) (Q:VK),Inv X U Y H s->RelV x v->RelV y u->r x y H Q ->
  yq (yC X.prog X.w) X.A (f v u) (EP X U Y Q) X.xe s
def zLl(X:Cx)(f:yb)(r:List V->Hp->VK->Prop):Prop :=
 ∀(U:List (yc×YS)) (s:yd) (Y:St) (H:Hp) (xs:List V) (us:List yb) (Q:VK),Inv X U Y H s->Vals xs us->r xs H Q ->
  yq (yC X.prog X.w) X.A (call f us) (EP X U Y Q) X.xe s
def tOp(r:R2)(ta tb:TE):TE:=λY H Q=>ta Y H λx H1=>tb Y H1 λy H2=>r x y H2 Q
def rI(C:Int->Int->Prop)(g:Int->Int->V):R2:=λx y H Q=>∃i j,x=.int i/\y=.int j/\C i j/\Q (g i j) H
def rI0(g:Int->Int->V):R2:=λx y H Q=>∃i j,x=.int i/\y=.int j/\Q (g i j) H
section
variable {X:Cx}{a b c:yD}{ta tb tc:TE}{pos:xo}
def binT(ha:PE X a ta)(hb:PE X b tb){U:List (yc×YS)}{s:yd}{Y:St}{H:Hp}{R:V->V->Hp->Prop}(I:Inv X U Y H s)
 (h:ta Y H λx H1=>tb Y H1 λy H2=>R x y H2) {Q:yb->yd->Prop} {f:yb->yb->Sem yb}
 (hf:∀v u s2 x y H2,Inv X U Y H2 s2->RelV x v->RelV y u->R x y H2->yq (yC X.prog X.w) X.A (f v u) Q X.xe s2) :
 yq (yC X.prog X.w) X.A (Yb a X.env) (λv s₁=>yq (yC X.prog X.w) X.A (Yb b X.env) (λu s₂=>yq (yC X.prog X.w) X.A (f v u) Q X.xe s₂) X.xe s₁) X.xe s:=by
 refine thn (ha U s Y H _ I h) λv s1 ⟨x,H1,I1,r1,q1⟩=>?_;refine thn (hb U s1 Y H1 _ I1 q1) λu s2 ⟨y,H2,I2,r2,q2⟩=>?_;exact hf v u s2 x y H2 I2 r1 r2 q2
def zpF{op:Operator}{r:R2}(ho:OpR X (xl op) r)(ha:PE X a ta)(hb:PE X b tb):PE X (.BinOp a op b pos) (tOp r ta tb):=by
 intro U s Y H Q I h;exact wpAny_BinOp (binT ha hb I h λv u s2 x y H2 I2 rx ry q=>ho U s2 Y H2 x y v u Q I2 rx ry q)
def opI{f:yb->yb->Sem yb}{C:Int->Int->Prop}{g:Int->Int->Int}
 (rule:∀(i j:Int)(t u:Tok)(s:yd)(Q:yb->yd->Prop)(E:yb->yd->Prop),C i j->Q (.int (g i j) s.toks) {s with toks:=s.toks+1 }->yq (yC X.prog X.w) X.A (f (.int i t) (.int j u)) Q E s) :
 OpR X f (rI C λi j =>.int (g i j)):=by
 intro U s Y H x y v u Q I rx ry h;obtain⟨i,j,rfl,rfl,hc,q⟩:=h;obtain⟨t,rfl⟩:=rx;obtain⟨t',rfl⟩:=ry;exact rule i j t t' s _ _ hc ⟨.int (g i j),H,I.tok _,⟨_,rfl⟩,q⟩
def opI0{f:yb->yb->Sem yb}{g:Int->Int->Int}
 (rule:∀(i j:Int)(t u:Tok)(s:yd)(Q:yb->yd->Prop)(E:yb->yd->Prop),Q (.int (g i j) s.toks) {s with toks:=s.toks+1 }->yq (yC X.prog X.w) X.A (f (.int i t) (.int j u)) Q E s) :
 OpR X f (rI0 λi j =>.int (g i j)):=by
 intro U s Y H x y v u Q I rx ry h;obtain⟨i,j,rfl,rfl,q⟩:=h;obtain⟨t,rfl⟩:=rx;obtain⟨t',rfl⟩:=ry;exact rule i j t t' s _ _ ⟨.int (g i j),H,I.tok _,⟨_,rfl⟩,q⟩
def opB0{f:yb->yb->Sem yb}{g:Int->Int->Bool}
 (rule:∀(i j:Int)(t u:Tok)(s:yd)(Q:yb->yd->Prop)(E:yb->yd->Prop),Q (.bool (g i j)) s->yq (yC X.prog X.w) X.A (f (.int i t) (.int j u)) Q E s) :
 OpR X f (rI0 λi j =>.bl (g i j)):=by
 intro U s Y H x y v u Q I rx ry h;obtain⟨i,j,rfl,rfl,q⟩:=h;obtain⟨t,rfl⟩:=rx;obtain⟨t',rfl⟩:=ry;exact rule i j t t' s _ _ ⟨.bl (g i j),H,I,rfl,q⟩
def zYD:OpR X (xl .Mod) (rI (λ_ j=>0<j) λi j =>.int (i%j)):=opI λi j _ _ _ _ _ hc q=>by
 have h1:(0:Int)<j:=hc;exact mod_int' (by omega) (by rw[Int.fmod_eq_emod_of_nonneg i (by omega)];exact q)
def zcC:OpR X (inplaceOp .Add) (rI0 λi j =>.int (i+j)):=opI0 λ_ _ _ _ _ _ _ q=>iadd_int q
def z2t{U:List (yc×YS)}{Y:St}{H:Hp}{s:yd}{Q:VK}{k k':Bool}(I:Inv X U Y H s)(q:Q (.bl k) H)(e:k=k'):EP X U Y Q (.bool k') s:=by
 subst e;exact⟨.bl k,H,I,rfl,q⟩
def zOE:OpR X (yV .Lt) (rI0 λi j =>.bl (decide (i<j))):=opB0 λ_ _ _ _ _ _ _ q=>lt_int q
def zdF:OpR X (yV .LtE) (rI0 λi j =>.bl (decide (i<=j))):=opB0 λ_ _ _ _ _ _ _ q=>le_int q
def zwE:OpR X (yV .Gt) (rI0 λi j =>.bl (decide (j<i))):=opB0 λ_ _ _ _ _ _ _ q=>gt_int q
def z7E:OpR X (yV .GtE) (rI0 λi j =>.bl (decide (j<=i))):=opB0 λ_ _ _ _ _ _ _ q=>ge_int q
def zRx:OpR X (yV .In) (λx y H Q=>∃i j,x=.str i/\y=.str j/\Q (.bl (!(xU j i 0 j.length 1).isEmpty)) H):=by
 intro U s Y H x y v u Q I rx ry h;obtain⟨i,j,rfl,rfl,q⟩:=h;obtain⟨t,rfl⟩:=rx;obtain⟨t',rfl⟩:=ry;exact in_str (z2t I q rfl)
def zwo:OpR X (yV .Is) (λx y H Q=>y=.non/\Q (.bl (decide (x=.non))) H):=by
 intro U s Y H x y v u Q I rx ry h;obtain⟨rfl,q⟩:=h;cases ry;refine is_none_gen (z2t I q ?_)
 cases x<;>first
  |(cases rx;rfl)
  |(obtain⟨t,rfl⟩:=rx;rfl)
def zQk:OpR X (yV .IsNot) (λx y H Q=>y=.non/\Q (.bl (!decide (x=.non))) H):=by
 intro U s Y H x y v u Q I rx ry h;obtain⟨rfl,q⟩:=h;cases ry;refine isnot_none_gen (z2t I q ?_)
 cases x<;>first
  |(cases rx;rfl)
  |(obtain⟨t,rfl⟩:=rx;rfl)
def zes:OpR X (yV .NotIn) (λx y H Q=>∃i j,x=.str i/\y=.str j/\Q (.bl (!(!(xU j i 0 j.length 1).isEmpty))) H):=by
 intro U s Y H x y v u Q I rx ry h;obtain⟨i,j,rfl,rfl,q⟩:=h;obtain⟨t,rfl⟩:=rx;obtain⟨t',rfl⟩:=ry;exact notIn_str (z2t I q rfl)
def zzB{op:CmpOp}{r:R2}(ho:OpR X (yV op) r)(ha:PE X a ta)(hb:PE X b tb)(hm:behindInMarks op b=false):PE X (.Compare a [op] [b] pos) (tOp r ta tb):=by
 intro U s Y H Q I h;exact wpAny_Compare1 (binT ha hb I h λv u s2 x y H2 I2 rx ry q=>ho U s2 Y H2 x y v u Q I2 rx ry q) hm
def zfF(t:TE):TT:=λY H Q=>t Y H λx H'=>∃k,x=.bl k/\Q k H'
def zNB{op:CmpOp}{r:R2}(ho:OpR X (yV op) r)(ha:PE X a ta)(hb:PE X b tb)(hm:behindInMarks op b=false):PT X (.Compare a [op] [b] pos) (zfF (tOp r ta tb)):=by
 intro U s Y H Q I h
 refine wpAny_isTrue_Compare1 (thn (ha U s Y H _ I h) λv s1 ⟨x,H1,I1,r1,q1⟩=>thn (hb U s1 Y H1 _ I1 q1) λu s2 ⟨y,H2,I2,r2,q2⟩=>
  thn (ho U s2 Y H2 x y v u _ I2 r1 r2 q2) λc s3 ⟨z,H3,I3,r3,k,e,q3⟩=>?_) hm
 subst e;cases r3;exact YV ⟨H3,I3,q3⟩
def zjD(r r':R2)(ta tb tc:TE):TE:=λY H Q=>ta Y H λx H1=>tb Y H1 λy H2=>r x y H2 λz H3=>∃k,z=.bl k /\
 (if k=true then tc Y H3 λw' H4=>r' y w' H4 Q else Q (.bl false) H3)
def zey{op op':CmpOp}{r r':R2}(ho:OpR X (yV op) r)(ho':OpR X (yV op') r')(ha:PE X a ta)(hb:PE X b tb)(hc:PE X c tc)
 (hm:lastMarks [op,op'] [b,c]=false:=by with_unfolding_all rfl):PE X (.Compare a [op,op'] [b,c] pos) (zjD r r' ta tb tc):=by
 intro U s Y H Q I h
 refine Compare_chain (thn (ha U s Y H _ I h) λv s1 ⟨x,H1,I1,r1,q1⟩=>chain_link (thn (hb U s1 Y H1 _ I1 q1) λu s2 ⟨y,H2,I2,r2,q2⟩=>
  thn (ho U s2 Y H2 x y v u _ I2 r1 r2 q2) λd s3 ⟨z,H3,I3,r3,k,e,q3⟩=>?_)) hm
 subst e;cases r3;refine YV ?_
 cases k with
 |false=>exact ite_ff ⟨.bl false,H3,I3,rfl,q3⟩
 |true=>exact ite_tt (chain_last (thn (hc U s3 Y H3 _ I3 q3) λw' s4 ⟨z',H4,I4,r4,q4⟩=>ho' U s4 Y H4 y z' u w' Q I4 r2 r4 q4))
def TM:(yG:Nat)<2^63:=by rw[Xp];decide
def z0u:OpR X (xl .Add) (λx y H Q=>∃i j,x=.str i/\y=.str j/\i.length+j.length<=yG/\Q (.str (i++j)) H):=by
 intro U s Y H x y v u Q I rx ry h;obtain⟨i,j,rfl,rfl,hz,q⟩:=h;obtain⟨t,rfl⟩:=rx;obtain⟨t',rfl⟩:=ry;exact add_str (λt' tk=>⟨.str (i++j),H,I.tok _,⟨_,rfl⟩,q⟩) hz
def vals1{x:V}{us:List yb}(r:Vals [x] us):∃u,us=[u]/\RelV x u:=by
 cases r with
 |cons r1 r2=>cases r2;exact⟨_,rfl,r1⟩
def zPr:zLl X (.type "str") (λxs H Q=>∃i,xs=[.int i]/\i.natAbs.log2<1920/\Q (.str (toString i)) H):=by
 intro U s Y H xs us Q I r h;obtain⟨i,rfl,hz,q⟩:=h;obtain⟨u,rfl,t,rfl⟩:=vals1 r;exact PySem.P.str_of_int hz ⟨.str _,H,I.tok _,⟨_,rfl⟩,q⟩
end
structure Se(h:yS)(x dx C:yc)(mA:yn->Option yb):Prop where
 obj:h.get? x=some (W.instObj C dx)
 ns:h.Ns1 dx mA
 ne:dx≠x
def zfx{h:yS}{dx:yc}{mA:yn->Option yb}(n:h.Ns1 dx mA):∃od,h.get? dx=some od/\∀name,W.lookIn name od=some (mA name):=by
 obtain⟨o,es,ep,ho,hd,hk,_,hm⟩:=n;refine⟨o,ho,λname=>?_⟩;have e:=hm name;unfold nsFind findBy at e;rw[<-Array.find?_toList]at e;unfold W.lookIn;rw[hd];dsimp only
 split
 ·rename_i y q
  rw[q]at e;exact congrArg some e
 ·rename_i q
  rw[q]at e
  have a:es.toList.any (·.refKey)=false:=by
   rw[List.any_eq_false];intro y hy;obtain⟨z,t,hkey⟩:=hk y (Array.mem_toList_iff.mp hy);simp[DictEntry.refKey,hkey]
  have a':¬es.toList.any (·.refKey)=true:=by rw[a];exact yB
  rw[if_neg a'];exact congrArg some e
def Se.look{h:yS}{x dx C:yc}{mA:yn->Option yb}(I:Se h x dx C mA):∃od,W.InstAt h x (W.instObj C dx) C (some od)/\∀name,W.lookIn name od=some (mA name) :=
 let ⟨od,ho,hl⟩:=zfx I.ns
 ⟨od,⟨I.obj,rfl,rfl,ho⟩,hl⟩
section
variable {prog:yu}{w:yI}{A:yJ}{E:yb->yd->Prop}{s:yd}{K:yw}{x dx C f:yc}{mA:yn->Option yb}{name:yn}{v:yb}
def zjC{expr:Bool}{Q:yb->yd->Prop}(X:K.In s.heap)(I:Se s.heap x dx C mA)(hg:W.plainGet K C name=true)(hh:W.hasDictIn K C=true)
 (ha:YF K (.ref C) name=some none) (hv:mA name=some v) (hv':W.handedIn v=true) (h:Q v {s with toks:=s.toks+1 }) :
 yq (yC prog w) A (getAttr (.ref x) name expr) Q E s:=by
 obtain⟨od,δ,hl⟩:=I.look;exact W.get_value X δ (W.plainGet_of hg).1 (W.findObj_own hh ha rfl (by rw[hl,hv])) hv' h
def zxz{pl:Sem Bool}{Q:yb×List yb->yd->Prop}(X:K.In s.heap)(I:Se s.heap x dx C mA)(hg:W.plainGet K C name=true)
 (hf:YF K (.ref C) name=some (some (.ref f))) (ht:W.isFn K (.ref f)=true) (hv:mA name=none) (h:Q (.ref f,[.ref x]) s) :
 yq (yC prog w) A (getMethod (.ref x) name pl) Q E s:=by
 obtain⟨od,δ,hl⟩:=I.look;exact W.method_fn X δ (W.plainGet_of hg).1 (W.plainGet_of hg).2 hf (beq_iff_eq.mp ht) (by show(W.lookIn name od).map (·.isSome)=some false;rw[hl,hv];rfl) h
def zEB{ns:List yn}{Q:Unit->yd->Prop}(X:K.In s.heap)(I:Se s.heap x dx C mA)
 (hs:YF K (.ref C) "__setattr__"=some (some (.builtin "object.__setattr__"))) (hp:W.plainOver K C=true) (ht:W.takerIn K C name=some none) (hh:W.hasDictIn K C=true)
 (hw:PySem.Within mA ns) (hsz:ns.length<=yG)
 (h:∀h',Se h' x dx C (λy=>if y=name then some v else mA y)->yL dx s.heap h'->Q () {s with heap:=h',toks:=s.toks+2 }) :
 yq (yC prog w) A (setAttr (.ref x) name v) Q E s:=by
 obtain⟨od,δ,hl⟩:=I.look;refine W.set_plain X δ hs (W.osa_open (s:={s with toks:=s.toks+1 }) (r:=none) X δ hp ht λb=>?_);obtain⟨cd,hc,hd'⟩:=W.any_some hh;have hx:s.heap.get? x=some ⟨.ref C,some dx,.plain,#[]⟩:=I.obj;refine ya (yg (ya (ya (wpAny_loadPart hx (ya (W.Looks.here (s:={s with toks:=s.toks+1 }) (W.looks_clsIn X hc) ?_))))));rw[hd'];refine yg (a:=some dx) (ya (yg (ya ?_)));refine wpAny_nsSet1 (s:={s with toks:=s.toks+1 }) I.ns λh' hn2 hs2=>?_;obtain⟨oD,esD,epD,hoD,hdD,hcD⟩:=hn2.count (PySem.Within.cons name v hw);refine ya (wpAny_lookBehind hoD (by rw[hdD];exact pastItsLine_dict (yF hcD (by rw[length_cons];omega))) ?_);exact yg (h _ ⟨(hs2.2 _ (yM I.ne)).trans I.obj,hn2,I.ne⟩ hs2)
def zoz{R:Result->yd->Prop}{vs:List yb}{kw:List (yn×yb)}(X:K.In s.heap)(hm:W.makesIn K C=true)
 (hi:YF K (.ref C) "__init__"=some (some (.ref f))) (hf:W.typeIn K (.ref f)=some (.type "function"))
 (h:codeAny (yC prog w) (A.under (.builtin "type.__call__" ⟨.ref C::vs,kw⟩)) (.call (.ref f) ⟨.ref (s.heap.objs.size+1)::vs,kw⟩) (W.InitBack (s.heap.objs.size+1) R)
  {s with heap:=(s.heap.push xY).push (W.instObj C s.heap.objs.size)}) :
 codeAny (yC prog w) A (.call (.ref C) ⟨vs,kw⟩) R s:=by
 obtain⟨hh,g,d,t,os⟩:=s;exact W.make_core (W.makes_of X hm) (W.looks_findIn X hi) (λself=>W.bind_fn X self hf) (.inl rfl) h
end
def z8n(f:yn)(v:V):List (yn×V)->List (yn×V)
 |[]=>[(f,v)]
 |(g,x)::r=>if g=f then(g,v)::r else(g,x)::z8n f v r
def zmn(f g:yn)(v:V):∀fs:List (yn×V),(z8n f v fs).lookup g=if g=f then some v else fs.lookup g
 |[]=>by
  show xm g [(f,v)]=_
  by_cases h:g=f
  ·have hb:(g==f)=true:=beq_iff_eq.mpr h;simp only[xm,hb,if_pos h]
  ·have hb:(g==f)=false:=beq_eq_false_iff_ne.mpr h;simp only[xm,hb,if_neg h]
 |(k,x)::r=>by
  have ih:=zmn f g v r;rw[show z8n f v ((k,x)::r)=(if k=f then(k,v)::r else(k,x)::z8n f v r) from rfl]
  by_cases hk:k=f
  ·rw[if_pos hk]
   by_cases h:g=k
   ·have hb:(g==k)=true:=beq_iff_eq.mpr h;simp only[xm,hb,if_pos (h.trans hk)]
   ·have hb:(g==k)=false:=beq_eq_false_iff_ne.mpr h;simp only[xm,hb,if_neg (λe:g=f=>h (e.trans hk.symm))]
  ·rw[if_neg hk]
   by_cases h:g=k
   ·have hb:(g==k)=true:=beq_iff_eq.mpr h;simp only[xm,hb,if_neg (λe:g=f=>hk (h.symm.trans e))]
   ·have hb:(g==k)=false:=beq_eq_false_iff_ne.mpr h;simp only[xm,hb];exact ih
def zGm(f:yn)(v:V):∀fs:List (yn×V),f∈(z8n f v fs).map (·.1)/\∀g,g∈fs.map (·.1)->g∈(z8n f v fs).map (·.1)
 |[]=>⟨by simp[z8n],λg h=>by simp at h⟩
 |(k,x)::r=>by
  obtain⟨i1,i2⟩:=zGm f v r;rw[show z8n f v ((k,x)::r)=(if k=f then(k,v)::r else(k,x)::z8n f v r) from rfl]
  by_cases hk:k=f
  ·rw[if_pos hk];subst hk;exact⟨by simp,λg h=>by simpa using h⟩
  ·rw[if_neg hk];refine⟨?_,λg h=>?_⟩
   ·rw[map_cons];exact mem_cons_of_mem _ i1
   ·rw[map_cons]at h ⊢;rcases List.mem_cons.mp h with e|e
    ·exact List.mem_cons.mpr (.inl e)
    ·exact mem_cons_of_mem _ (i2 g e)
def zom(f:yn)(v:V):∀fs:List (yn×V),(z8n f v fs).length<=fs.length+1
 |[]=>by simp[z8n]
 |(k,x)::r=>by
  have ih:=zom f v r;rw[show z8n f v ((k,x)::r)=(if k=f then(k,v)::r else(k,x)::z8n f v r) from rfl]
  by_cases hk:k=f
  ·rw[if_pos hk,length_cons,length_cons];omega
  ·rw[if_neg hk,length_cons,length_cons];omega
def TU.some_of{v:V}{o:Option yb}(r:TU (some v) o):∃u,o=some u/\RelV v u:=by
 cases o with
 |none=>exact(show False from r).elim
 |some u=>exact⟨u,rfl,r⟩
def TU.none_of{o:Option yb}(r:TU none o):o=none:=by
 cases o with
 |none=>rfl
 |some u=>exact(show False from r).elim
def zNw{v:V}{u:yb}(r:RelV v u):W.handedIn u=true:=by
 cases v with
 |non=>cases (show u=YQ from r);rfl
 |bl b=>cases (show u=Value.bool b from r);rfl
 |int i=>obtain⟨t,e⟩:=(show ∃t,u=Value.int i t from r);cases e;rfl
 |str x=>obtain⟨t,e⟩:=(show ∃t,u=Value.str x t from r);cases e;rfl
 |byt b=>obtain⟨t,e⟩:=(show ∃t,u=Value.bytes b t from r);cases e;rfl
 |flt b=>obtain⟨t,e⟩:=(show ∃t,u=Value.float b t from r);cases e;rfl
 |ref a=>cases (show u=Ye a from r);rfl
 |ty n=>cases (show u=YJ n from r);rfl
section
variable {P:yu}{w:yI}{H H':Hp}{h h':yS}{a C dx:yc}{fs fs':List (yn×V)}
def z1p(hok:HOk P w H h)(e:H a=some (.ins C dx fs)):∃mA,Se h a dx C mA/\(∀f,TU (fs.lookup f) (mA f))/\PySem.Within mA (fs.map (·.1))/\fs.length<=1000/\H dx=some (.own a):=by
 obtain⟨d,z,ne,ob,mA,n,r,q⟩:=(show tI P w H h a (.ins C dx fs) from hok a _ e)
 exact⟨mA,⟨ob,n,ne⟩,r,q,z,d⟩
end
structure Cls(K:yw)(C:yc):Prop where
 pg:W.plainGet K C Str.empty=true
 hd:W.hasDictIn K C=true
 po:W.plainOver K C=true
 sa:YF K (.ref C) "__setattr__"=some (some (.builtin "object.__setattr__"))
def Cls.get{K:yw}{C:yc}(c:Cls K C)(f:yn):W.plainGet K C f=true:=c.pg
def TN(K:yw)(C:yc)(f:yn):Prop:=YF K (.ref C) f=some none
def TN.taker{K:yw}{C:yc}{f:yn}(n:TN K C f):W.takerIn K C f=some none:=by
 unfold W.takerIn;rw[show YF K (.ref C) f=some none from n];rfl
structure Con(K:yw)(C:yc)(f:yn)(v:V)(u:yb):Prop where
 at_:YF K (.ref C) f=some (some u)
 rel:RelV v u
 get:W.specialIn K u "__get__"=some none
 cp:W.copiedNames.contains f=false
structure Meth(K:yw)(C:yc)(m:yn)(f:yc):Prop where
 at_:YF K (.ref C) m=some (some (.ref f))
 fn:W.isFn K (.ref f)=true
 kp:W.keepIn K (.ref f)=true
section
variable {X:Cx}{U:List (yc×YS)}{Y:St}{H:Hp}{s:yd}{a C dx:yc}{fs:List (yn×V)}{f:yn}{v:V}{A:yJ}{E:yb->yd->Prop}
def zGu{b:Bool}{Q:yb->yd->Prop}(I:Inv X U Y H s)(e:H a=some (.ins C dx fs))(c:Cls X.K C)(n:TN X.K C f)(l:fs.lookup f=some v)
 (h:∀u s',Inv X U Y H s'->RelV v u->Q u s'):yq (yC X.prog X.w) A (getAttr (.ref a) f b) Q E s:=by
 obtain⟨mA,μ,r,_,_,_⟩:=z1p I.hok e;obtain⟨u,hu,ru⟩:=TU.some_of (v:=v) (o:=mA f) (by rw[<-l];exact r f);exact zjC I.kIn μ (c.get f) c.hd n hu (zNw ru) (h u _ (I.tok _) ru)
def zGo{m:yn}{g:yc}{pl:Sem Bool}{Q:yb×List yb->yd->Prop}(I:Inv X U Y H s)(e:H a=some (.ins C dx fs))(c:Cls X.K C)(k:Meth X.K C m g)(l:fs.lookup m=none)
 (h:Q (.ref g,[.ref a]) s):yq (yC X.prog X.w) A (getMethod (.ref a) m pl) Q E s:=by
 obtain⟨mA,μ,r,_,_,_⟩:=z1p I.hok e;have hn:mA m=none:=TU.none_of (by rw[<-l];exact r m);exact zxz I.kIn μ (c.get m) k.at_ k.fn hn h
def zvv{y:V}{u:yb}{Q:Unit->yd->Prop}(I:Inv X U Y H s)(e:H a=some (.ins C dx fs))(c:Cls X.K C)(n:TN X.K C f)(hl:fs.length<1000)(ry:RelV y u)
 (h:∀s',Inv X U Y (upd H a (.ins C dx (z8n f y fs))) s'->Q () s'):yq (yC X.prog X.w) A (setAttr (.ref a) f u) Q E s:=by
 obtain⟨mA,μ,r,wi,_,ho⟩:=z1p I.hok e;have hz:(fs.map (·.1)).length<=yG:=by rw[length_map,Xp];omega
 refine zEB I.kIn μ c.sa c.po n.taker c.hd wi hz λh' μ' sb=>h _ ?_;have hd:∃o,h'.get? dx=some o:=let ⟨o,_,_,e',_⟩:=μ'.ns;⟨o,e'⟩;refine I.write (x:=a) (e:=dx) (by rw[e];exact Xa) (.inr ho) (λb q hb z=>(sb.2 b hb).trans z) hd ?_;refine⟨by rw[zab μ.ne];exact ho,?_,μ.ne,μ'.obj,_,μ'.ns,λg=>?_,λg hg=>?_⟩
 ·have:=zom f y fs;omega
 ·show TU ((z8n f y fs).lookup g) (if g=f then some u else mA g);rw[zmn]
  by_cases q:g=f
  ·rw[if_pos q,if_pos q];exact ry
  ·rw[if_neg q,if_neg q];exact r g
 ·by_cases q:g=f
  ·rw[q];exact(zGm f y fs).1
  ·refine(zGm f y fs).2 g (wi g λz=>hg ?_);show(if g=f then some u else mA g)=none;rw[if_neg q];exact z
def Inv.made(I:Inv X U Y H s):Inv X U Y (upd (upd H s.heap.objs.size (.own (s.heap.objs.size+1))) (s.heap.objs.size+1) (.ins C s.heap.objs.size []))
 {s with heap:=(s.heap.push xY).push (W.instObj C s.heap.objs.size)}:=by
 have e1:(s.heap.push xY).get? s.heap.objs.size=some xY:=ym s.heap rfl
 have e2:((s.heap.push xY).push (W.instObj C s.heap.objs.size)).get? (s.heap.objs.size+1)=some (W.instObj C s.heap.objs.size):=by
  have:=ym (s.heap.push xY) (o:=W.instObj C s.heap.objs.size) rfl
  rwa [yT]at this
 have e3:(s.heap.push xY).Ns s.heap.objs.size (λ_=>none):=⟨xY,#[],_,e1,rfl,(λe he=>absurd he (by simp)),λ_=>rfl⟩
 have I1:=I.laid (a:=s.heap.objs.size) (o:=.own (s.heap.objs.size+1)) (h':=s.heap.push xY) (t':=s.toks) (λb u q=>ye _ q) (yk _) ⟨_,e1⟩;refine I1.laid (a:=s.heap.objs.size+1) (o:=.ins C s.heap.objs.size []) (t':=s.toks) (λb u q=>ye _ q) (Nat.le_of_eq (yT _ _)) ?_;have ne:s.heap.objs.size≠s.heap.objs.size+1:=yz (Yr _);refine⟨by rw[zab ne,zM],Yy _,ne,e2,λ_=>none,(Heap.Ns1.of_empty e3).at λo q=>ye _ q,λ_=>Xa,λy hy=>absurd rfl hy⟩
def z7A{prog:yu}{w:yI}{env:Env}{e:yD}{f:yn}{pos:xo}{s:yd}{Q:yb->yd->Prop}(hb:YB e f env (Yb e env)=Yb e env)
 (h:yq (yC prog w) A (Yb e env) (λo s₁=>yq (yC prog w) A (getAttr o f true) Q E s₁) E s):yq (yC prog w) A (Yb (.Attribute e f pos) env) Q E s :=
 Attribute_any_ h (by rw[arm_eval_Attribute,hb])
end
def z4F(K:yw)(ta:TE)(f:yn):TE:=λY H Q=>ta Y H λx H1=>∃a C dx fs v,x=.ref a/\H1 a=some (.ins C dx fs)/\Cls K C/\TN K C f/\fs.lookup f=some v/\Q v H1
def z7F(K:yw)(ta tv:TE)(f:yn):TS:=λD Y H=>tv Y H λy H1=>ta Y H1 λx H2=>∃a C dx fs,x=.ref a/\H2 a=some (.ins C dx fs)/\Cls K C/\TN K C f/\fs.length<1000 /\
 D.nx Y (upd H2 a (.ins C dx (z8n f y fs)))
section
variable {X:Cx}{o e value:yD}{f:yn}{pos pos' tpos:xo}{ta tv:TE}
def zBC(he:PE X e ta)(hb:YB e f X.env (Yb e X.env)=Yb e X.env):PE X (.Attribute e f pos) (z4F X.K ta f):=by
 intro U s Y H Q I h;refine z7A hb (thn (he U s Y H _ I h) λu s1 ⟨x,H1,I1,rx,a,C,dx,fs,v,ex,ea,c,n,l,q⟩=>?_);subst ex;obtain rfl:u=Ye a:=rx;exact zGu I1 ea c n l λu' s2 I2 ru=>⟨v,H1,I2,ru,q⟩
def zrD(ha:PE X o ta)(hv:PE X value tv)(hs:swapsWith value (some (.Attribute o f pos')) pos.line X.env=pure false):PS X (.Assign [.Attribute o f pos'] value pos) (z7F X.K ta tv f):=by
 intro U s Y H D I h;refine plainObj_wpAny_Assign_Attribute (thn (hv U s Y H _ I h) λu s1 ⟨y,H1,I1,ry,q⟩=>thn (ha U s1 Y H1 _ I1 q) λov s2 ⟨x,H2,I2,rx,a,C,dx,fs,ex,ea,c,n,l,q2⟩=>?_) hs;subst ex;obtain rfl:ov=Ye a:=rx;exact zvv I2 ea c n l ry λs3 I3=>⟨Y,_,I3,q2⟩
variable {U:List (yc×YS)}{Y:St}{H:Hp}{s:yd}{A:yJ}{E Q:yb->yd->Prop}{c:yb}{b:Bool}
inductive TY(K:yw)(H:Hp):V->yb->Prop where
 |non:TY K H .non (.type "NoneType")
 |bl (x:Bool):TY K H (.bl x) (.type "bool")
 |int (i:Int):TY K H (.int i) (.type "int")
 |str (x:yn):TY K H (.str x) (.type "str")
 |flt (x:UInt64):TY K H (.flt x) (.type "float")
 |lst {a:yc} {xs:List V} (e:H a=some (.lst xs)):TY K H (.ref a) (.type "list")
 |frz {a:yc} {o:YS} {xs:List V} (e:H a=some (.frz o (.lst xs))):TY K H (.ref a) (.type "list")
 |tup {a:yc} {xs:List V} (e:H a=some (.tup xs)):TY K H (.ref a) (.type "tuple")
 |dK {a:yc} {kvs:List (Key×V)} (e:H a=some (.dK kvs)):TY K H (.ref a) (.type "dict")
 |dT {a:yc} {kvs:List (List Key×V)} (e:H a=some (.dT kvs)):TY K H (.ref a) (.type "dict")
 |ins {a C dx:yc} {fs:List (yn×V)} (e:H a=some (.ins C dx fs)) (cl:Cls K C) (ha:YF K (.ref C) "__class__"=some (some (.builtin "object.__class__")))
  (hn:W.specialIn K (.builtin "object.__class__") "__get__"=some (some (.builtin "getset_descriptor.__get__"))) (htk:W.takesIn K (.builtin "object.__class__")=some true)
  (hm:W.mroIn K C (.type "object")=some true):TY K H (.ref a) (.ref C)
def z5w{x:V}{u t:yb}(I:Inv X U Y H s)(rx:RelV x u)(ty:TY X.K H x t)(e:W.kitOne X.K t c=some b)(h:∀tk,Q (.bool b) {s with toks:=tk }) :
 yq (yC X.prog X.w) A (call (.builtin "isinstance") [u,c]) Q E s:=by
 cases ty with
 |non=>cases (show u=YQ from rx);exact Xg W.kitx_none I.kIn Xa e (λz=>nomatch z) h
 |bl y=>cases (show u=Value.bool y from rx);exact Xg W.kitx_bool I.kIn Xa e (λz=>nomatch z) h
 |int i=>obtain⟨t,q⟩:=(show ∃t,u=Value.int i t from rx);cases q;exact Xg W.kitx_int I.kIn Xa e (λz=>nomatch z) h
 |str y=>obtain⟨t,q⟩:=(show ∃t,u=Value.str y t from rx);cases q;exact Xg W.kitx_str I.kIn Xa e (λz=>nomatch z) h
 |flt y=>obtain⟨t,q⟩:=(show ∃t,u=Value.float y t from rx);cases q;exact Xg W.kitx_float I.kIn Xa e (λz=>nomatch z) h
 |@lst a xs ea=>
  cases (show u=Ye a from rx);obtain⟨_,_,n,_,h1⟩:=(show tI X.prog X.w H s.heap a (.lst xs) from I.hok a _ ea)
  exact Xg W.kitx_list I.kIn ⟨_,h1,rfl⟩ e (λz=>nomatch z) h
 |@frz a ob xs ea=>
  cases (show u=Ye a from rx);obtain⟨_,_,_,n,_,h1⟩:=(show tI X.prog X.w H s.heap a (.frz ob (.lst xs)) from I.hok a _ ea)
  exact Xg W.kitx_list I.kIn ⟨_,h1,rfl⟩ e (λz=>nomatch z) h
 |@tup a xs ea=>
  cases (show u=Ye a from rx);obtain⟨_,_,_,p⟩:=(show tI X.prog X.w H s.heap a (.tup xs) from I.hok a _ ea)
  obtain⟨o,h1,h2,_⟩:=p;exact Xg W.kitx_tuple I.kIn ⟨o,h1,h2⟩ e (λz=>nomatch z) h
 |@dK a kvs ea=>
  cases (show u=Ye a from rx);obtain⟨_,_,vs,_,p⟩:=(show tI X.prog X.w H s.heap a (.dK kvs) from I.hok a _ ea)
  obtain⟨o,es,ep,h1,h2,_⟩:=p;exact Xg W.kitx_dict I.kIn ⟨o,h1,h2.1⟩ e (λz=>nomatch z) h
 |@dT a kvs ea=>
  cases (show u=Ye a from rx);obtain⟨_,_,xs,_,o,es,ep,h1,h2,_⟩:=(show tI X.prog X.w H s.heap a (.dT kvs) from I.hok a _ ea)
  exact Xg W.kitx_dict I.kIn ⟨o,h1,h2.1⟩ e (λz=>nomatch z) h
 |@ins a C dx fs ea cl ha hn htk hm=>
  cases (show u=Ye a from rx);obtain⟨mA,μ,_⟩:=z1p I.hok ea;obtain⟨od,δ,_⟩:=μ.look;exact Xg (W.kitx_own (cl.get _) cl.hd ha hn htk hm) I.kIn δ e (λz=>nomatch z) h
end
structure tW(k:Nat)(A:yJ):Prop where
 hd:A.handled=none
 dp:A.depth+3*k+5<recursionLimit
 un:A.units+16*k+200<cLine
 gd:A.guards=some []
def tW.mono{j k:Nat}{A:yJ}(r:tW k A)(h:j<=k):tW j A:=⟨r.hd,by have:=r.dp;omega,by have:=r.un;omega,r.gd⟩
def tW.deeper{k:Nat}{A:yJ}(r:tW (k+1) A)(env:Env):tW k (A.deeper env) :=
 ⟨r.hd,by have:=r.dp;show A.depth+1+3*k+5<_;omega,by have:=r.un;show A.units+3+16*k+200<_;omega,r.gd⟩
def zsv{A:yJ}{C:yc}{us:List yb}{kw:List (yn×yb)}:(A.under (.builtin "type.__call__" ⟨.ref C::us,kw⟩)).depth=A.depth+1:=by
 first|rfl|simp[Around.under,Code.weight,Code.isCreation,Code.isGuard,Code.isCaller,Code.frames,Code.isFrame,guardIds]
def zSv{A:yJ}{C:yc}{us:List yb}{kw:List (yn×yb)}:(A.under (.builtin "type.__call__" ⟨.ref C::us,kw⟩)).units=A.units+1:=by
 first|rfl|simp[Around.under,Code.cUnits,Code.frames,Code.isFrame]
def z3s{A:yJ}{C:yc}{us:List yb}{kw:List (yn×yb)}:(A.under (.builtin "type.__call__" ⟨.ref C::us,kw⟩)).guards=A.guards:=by
 first|rfl|(cases h:A.guards<;>simp[Around.under,Code.guards,Code.isGuard,guardIds,h])
def tW.make{k:Nat}{A:yJ}(r:tW (k+1) A)(C:yc)(us:List yb)(kw:List (yn×yb)):tW k (A.under (.builtin "type.__call__" ⟨.ref C::us,kw⟩)) :=
 ⟨r.hd,by have:=r.dp;rw[zsv];omega,by have:=r.un;rw[zSv];omega,by rw[z3s];exact r.gd⟩
def tW.depth{k:Nat}{A:yJ}(r:tW k A):A.depth<recursionLimit:=by have:=r.dp;omega
def tW.units{k:Nat}{A:yJ}(r:tW k A):A.units+64<cLine:=by have:=r.un;omega
def zyF:TA:=λ_ H Q=>Q [] H
def z1E(ta:TE)(tr:TA):TA:=λY H Q=>ta Y H λx H1=>tr Y H1 λxs H2=>Q (x::xs) H2
section
variable {X:Cx}{e:yD}{es:List yD}{te:TE}{t:TA}{pos:xo}
def zwm:PA X [] zyF:=λ_ _ _ _ H Q I h=>Calls.spliced_nil ⟨[],H,I,.nil,h⟩
def z7i(ha:PE X e te)(hr:PA X es t)(hs:yj (e::es) X.env=(false,Yb e X.env)::yj es X.env:=by rfl):PA X (e::es) (z1E te t):=by
 intro pos U s Y H Q I h;rw[hs];show yq _ _ (spliced ((false,Yb e X.env)::Yq pos (yj es X.env))) _ _ s;refine Calls.spliced_cons (thn (ha U s Y H _ I h) λu s1 ⟨x,H1,I1,r1,q1⟩=>?_);exact thn (hr pos U s1 Y H1 _ I1 q1) λus s2 ⟨xs,H2,I2,r2,q2⟩=>⟨x::xs,H2,I2,.cons r1 r2,q2⟩
def zXF(t:TA):TE:=λY H Q=>t Y H λxs H1=>xs.length<=yG/\∀p,H1 p=none->Q (.ref p) (upd H1 p (.tup xs))
def z5F(t:TA):TE:=λY H Q=>t Y H λxs H1=>xs.length<=yG/\∀p,H1 p=none->Q (.ref p) (upd H1 p (.lst xs))
def zvD{x1}(h:PA X es t):PE X (.Tuple es x1 pos) (zXF t):=by
 intro U s Y H Q I hq;refine wpAny_Tuple_spliced (thn (h pos U s Y H _ I hq) λus s1 ⟨xs,H1,I1,r,z,q⟩=>⟨by rw[<-r.length];exact z,?_⟩);have hf:H1 s1.heap.objs.size=none:=I1.hok.fresh (yk _);refine⟨.ref s1.heap.objs.size,upd H1 s1.heap.objs.size (.tup xs),I1.laid (t':=s1.toks) (λb u e=>ye _ e) (yk _) ?_,rfl,q _ hf⟩;exact⟨z,us,r,⟨_,ym _ rfl,rfl,_,rfl⟩⟩
def zRC(h:PA X es t):PE X (.List es pos) (z5F t):=by
 intro U s Y H Q I hq;refine wpAny_List_spliced (thn (h pos U s Y H _ I hq) λus s1 ⟨xs,H1,I1,r,z,q⟩=>⟨by rw[<-r.length];exact z,?_⟩);have hf:H1 s1.heap.objs.size=none:=I1.hok.fresh (yk _);refine⟨.ref s1.heap.objs.size,upd H1 s1.heap.objs.size (.lst xs),I1.laid (t':=s1.toks) (λb u e=>ye _ e) (yk _) ?_,rfl,q _ hf⟩;exact⟨z,us,0,r,ym _ rfl⟩
end
abbrev Sp:=List V->Hp->VK->XK->Prop
abbrev CXT:=List Env->Hp->yd->XK->yb->yd->Prop
structure Sf(P:yu)(w:yI)(K:yw)(mg:yn->Option yb)(base:yS)(A:yJ)(outer:List Env)(s:yd)(H:Hp):Prop where
 frames:A.frames=some outer
 mod:Mod K mg base
 bs:∀b o,base.get? b=some o->s.heap.get? b=some o/\H b=none
 bsz:base.objs.size<=s.heap.objs.size
 sr:s.heap.FunFrames base outer
 frf:∀b∈frs outer,H b=none
 hok:HOk P w H s.heap
 bare:AllBare s.gens
def CE(outer:List Env)(P:yu)(w:yI)(H:Hp)(s:yd)(Q:VK)(u:yb)(s':yd):Prop :=
 ∃v H',s'.os=s.os/\AllBare s'.gens/\Un (frs outer) [] H H' s.heap s'.heap/\HOk P w H' s'.heap/\RelV v u/\Q v H'
def CR(CX:CXT)(outer:List Env)(P:yu)(w:yI)(H:Hp)(s:yd)(Q:VK)(E:XK)(r:Result)(s':yd):Prop :=
 match r with
 |.ok (.ret u)=>CE outer P w H s Q u s'
 |.ok _=>False
 |.error e=>CX outer H s E e s'
structure tm(P:yu)(w:yI)(K:yw)(mg:yn->Option yb)(base:yS)(CX:CXT)(k:Nat)(f:yc)(fd:yf)(ps:List yn)(sp:Sp):Prop where
 len:∀vs H Q E,sp vs H Q E->vs.length=ps.length
 run:∀(A:yJ)(outer:List Env)(s:yd)(H:Hp)(args:Args)(us:List yb)(vs:List V)(Q:VK)(E:XK),tW k A->Sf P w K mg base A outer s H->BindsTo s fd args (ps.zip us)->Vals vs us->sp vs H Q E ->
  codeAny (yC P w) A (.call (.ref f) args) (CR CX outer P w H s Q E) s
def Sf.make{P:yu}{w:yI}{K:yw}{mg:yn->Option yb}{base:yS}{A:yJ}{outer:List Env}{s:yd}{H:Hp}(e:Sf P w K mg base A outer s H)(C:yc)(us:List yb)(kw:List (yn×yb)) :
 Sf P w K mg base (A.under (.builtin "type.__call__" ⟨.ref C::us,kw⟩)) outer s H:=⟨by first|exact e.frames|(simpa[Around.under,Code.envs,Code.isFrame,pushEnvs] using e.frames),e.mod,e.bs,e.bsz,e.sr,e.frf,e.hok,e.bare⟩
section
variable {X:Cx}{U:List (yc×YS)}{Y:St}{H:Hp}{s s':yd}
def Inv.env0(I:Inv X U Y H s):Sf X.prog X.w X.K X.mg X.base X.A X.stack s H :=
 ⟨I.ok.frames,I.ok.mod,I.bs,yF I.ok.bsz I.sz,I.stack,I.Sl,I.hok,I.bare⟩
def Inv.after{Q:VK}{u:yb}(I:Inv X U Y H s)(h:CE X.stack X.prog X.w H s Q u s'):EP X U Y Q u s':=by
 obtain⟨v,H',os,bare,un,hok,r,q⟩:=h;obtain⟨hh,g,d,t,os'⟩:=s';obtain rfl:os'=s.os:=os;exact⟨v,H',I.call (h':=hh) (g':=g) (d':=d) (t':=t) (ch:=[]) un hok bare (λb z=>absurd z (by simp)),r,q⟩
end
def zLy(sp:Sp)(dvs:List V)(E:XK)(t:TA):TE:=λY H Q=>t Y H λvs H1=>sp (vs++dvs) H1 Q E
def zZB(C:yc)(m:yn)(sp:Sp)(dvs:List V)(E:XK)(ta:TE)(t:TA):TE:=λY H Q=>ta Y H λx H1=>∃a dx fs,x=.ref a/\H1 a=some (.ins C dx fs)/\fs.lookup m=none /\
 t Y H1 λvs H2=>sp (x::(vs++dvs)) H2 Q E
def ztF(C:yc)(sp:Sp)(dvs:List V)(E:XK)(t:TA):TE:=λY H Q=>t Y H λvs H1=>∀x dx,H1 x=none->H1 dx=none->dx≠x ->
 sp (.ref x::(vs++dvs)) (upd (upd H1 dx (.own x)) x (.ins C dx [])) (λv H2=>v=.non/\Q (.ref x) H2) E
def Binds(K:yw)(fd:yf)(ps:List yn)(ds:List yb):Prop :=
 ∀(s:yd)(us:List yb),K.In s.heap->(us++ds).length=ps.length->BindsTo s fd ⟨us,[]⟩ (ps.zip (us++ds))
def Binds.all{K:yw}{fd:yf}{ps:List yn}(h:∀us:List yb,us.length=ps.length->bindArgs fd ⟨us,[]⟩=pure (ps.zip us)):Binds K fd ps []:=λs us _ hl=>by
 rw[append_nil]at hl ⊢;exact .of_eq (h us hl)
def zmk(CX:CXT)(X:Cx)(E:XK):Prop:=∀(U:List (yc×YS)) (Y:St) (H:Hp) (s:yd) (e:yb) (s':yd),Inv X U Y H s->CX X.stack H s E e s'->X.xe e s'
section
variable {X:Cx}{CX:CXT}{k:Nat}{f C:yc}{fd:yf}{ps:List yn}{sp:Sp}{dvs:List V}{ds:List yb}{E:XK}{x m:yn}{p pos apos:xo}{e o:yD}{es:List yD}{ta:TE}{t:TA}
def z8t{U:List (yc×YS)}{Y:St}{H:Hp}{s:yd}{Q:VK}{us:List yb}{vs:List V}(F:tm X.prog X.w X.K X.mg X.base CX k f fd ps sp)(hr:tW k X.A)(hb:Binds X.K fd ps ds)(hd:Vals dvs ds)(hx:zmk CX X E)
 (I:Inv X U Y H s) (r:Vals vs us) (h:sp (vs++dvs) H Q E):yq (yC X.prog X.w) X.A (call (.ref f) us) (EP X U Y Q) X.xe s:=by
 have r2:Vals (vs++dvs) (us++ds):=r.append hd;have hl:(us++ds).length=ps.length:=by rw[<-r2.length];exact F.len _ _ _ _ h
 refine wpAny_call (xN (F.run X.A X.stack s H ⟨us,[]⟩ (us++ds) (vs++dvs) Q E hr I.env0 (hb s us I.kIn hl) r2 h) λr s' hq=>?_)
 cases r with
 |error e=>exact hx U Y H s e s' I hq
 |ok fl=>
  cases fl with
  |ret u=>exact I.after hq
  |next=>exact xq hq
  |brk=>exact xq hq
  |cont=>exact xq hq
def zgB(F:tm X.prog X.w X.K X.mg X.base CX k f fd ps sp)(hr:tW k X.A)(hg:Gl X x)(hm:X.mg x=some (.ref f))(hk:W.keepIn X.K (.ref f)=true)(hb:Binds X.K fd ps ds)(hd:Vals dvs ds)(hx:zmk CX X E)
 (ha:PA X (e::es) t) (hdb:(x==("__debug__":yn))=false:=by decide) (he:yj (e::es) X.env=(false,Yb e X.env)::yj es X.env:=by rfl) (hpl:(Yq pos (yj es X.env)).any (·.1)=false:=by rfl) :
 PE X (.Call (.Name x p) (e::es) [] pos) (zLy sp dvs E t):=by
 intro U s Y H Q I h;refine xf (zvt I hg hm ?_ hdb);refine W.callWith_K (h₀:=X.base) I.ok.mod.kin hk (thn (ha pos U s Y H _ I h) λus s1 ⟨vs,H1,I1,r,q⟩=>⟨I1.kIn,?_⟩) he hpl;exact z8t F hr hb hd hx I1 r q
def zRB{pl:Sem Bool}(he:PE X o ta)(c:Cls X.K C)(hm:Meth X.K C m f)(F:tm X.prog X.w X.K X.mg X.base CX k f fd ps sp)(hr:tW k X.A)(hb:Binds X.K fd ps ds)(hd:Vals dvs ds)(hx:zmk CX X E)(ha:PA X (e::es) t)
 (hst:yj (e::es) X.env=(false,Yb e X.env)::yj es X.env:=by rfl) (hpl:(Yq pos (yj es X.env)).any (·.1)=false:=by rfl)
 (ht:Yb (.Call (.Attribute o m apos) (e::es) [] pos) X.env=(do
  let ov <-Yb o X.env
  standAt apos.atName
  let (f,first) <-xD [ov] (getMethod ov m pl)
  callWith pos f first (Yq pos (yj (e::es) X.env)) (xy pos (YG [] X.env))):=by rfl) :
 PE X (.Call (.Attribute o m apos) (e::es) [] pos) (zZB C m sp dvs E ta t):=by
 intro U s Y H Q I h;refine W.methodCall_KW (pl:=pl) (thn (he U s Y H _ I h) λu s1 ⟨x,H1,I1,rx,a,dx,fs,ex,ea,l,q⟩=>?_) ht;subst ex;obtain rfl:u=Ye a:=rx;refine zGo I1 ea c hm l ?_;refine W.callWith_K (first:=[.ref a]) (h₀:=X.base) I.ok.mod.kin hm.kp (thn (ha pos U s1 Y H1 _ I1 q) λus s2 ⟨vs,H2,I2,r,q2⟩=>⟨I2.kIn,?_⟩) hst hpl;exact z8t (us:=.ref a::us) (vs:=.ref a::vs) F hr hb hd hx I2 (.cons rfl r) q2
def zBy{pl:Sem Bool}(he:PE X o ta)(c:Cls X.K C)(hm:Meth X.K C m f)(F:tm X.prog X.w X.K X.mg X.base CX k f fd ps sp)(hr:tW k X.A)(hb:Binds X.K fd ps ds)(hd:Vals dvs ds)(hx:zmk CX X E)
 (ht:Yb (.Call (.Attribute o m apos) [] [] pos) X.env=(do
  let ov <-Yb o X.env
  standAt apos.atName
  let (f,first) <-xD [ov] (getMethod ov m pl)
  callWith pos f first (Yq pos (yj [] X.env)) (xy pos (YG [] X.env))):=by rfl) :
 PE X (.Call (.Attribute o m apos) [] [] pos) (zZB C m sp dvs E ta zyF):=by
 intro U s Y H Q I h;refine W.methodCall_KW (pl:=pl) (thn (he U s Y H _ I h) λu s1 ⟨x,H1,I1,rx,a,dx,fs,ex,ea,l,q⟩=>?_) ht;subst ex;obtain rfl:u=Ye a:=rx;refine zGo I1 ea c hm l ?_;exact W.callWith_K0 (first:=[.ref a]) I1.kIn hm.kp (z8t (us:=[.ref a]) (vs:=[.ref a]) F hr hb hd hx I1 (.cons rfl .nil) q)
structure Mk(K:yw)(C f:yc):Prop where
 makes:W.makesIn K C=true
 init:YF K (.ref C) "__init__"=some (some (.ref f))
 fn:W.isFn K (.ref f)=true
 kp:W.keepIn K (.ref C)=true
def zKz{U:List (yc×YS)}{Y:St}{H:Hp}{s:yd}{Q:VK}{us:List yb}{vs:List V}(M:Mk X.K C f)(F:tm X.prog X.w X.K X.mg X.base CX k f fd ps sp)(hr:tW (k+1) X.A)(hb:Binds X.K fd ps ds)(hd:Vals dvs ds)
 (hx:zmk CX X E) (I:Inv X U Y H s) (r:Vals vs us)
 (h:∀x dx,H x=none->H dx=none->dx≠x->sp (.ref x::(vs++dvs)) (upd (upd H dx (.own x)) x (.ins C dx [])) (λv H2=>v=.non/\Q (.ref x) H2) E) :
 yq (yC X.prog X.w) X.A (call (.ref C) us) (EP X U Y Q) X.xe s:=by
 have hq:=h (s.heap.objs.size+1) s.heap.objs.size (I.hok.fresh (Nat.le_succ _)) (I.hok.fresh (yk _)) (yz (Yr _));have I2:=Inv.made (C:=C) I;have r2:Vals (V.ref (s.heap.objs.size+1)::(vs++dvs)) (Ye (s.heap.objs.size+1)::(us++ds)) :=.cons rfl (r.append hd)
 have hl:(Ye (s.heap.objs.size+1)::us++ds).length=ps.length:=by
  have e:=r2.length;rw[F.len _ _ _ _ hq]at e;exact e.symm
 refine wpAny_call (zoz (f:=f) I.kIn M.makes M.init (beq_iff_eq.mp M.fn) (xN (F.run _ X.stack _ _ ⟨Ye (s.heap.objs.size+1)::us,[]⟩ (Ye (s.heap.objs.size+1)::(us++ds)) _ _ E (hr.make C us [])
  (I2.env0.make C us []) (hb _ (Ye (s.heap.objs.size+1)::us) I2.kIn hl) r2 hq) λr s' hq'=>?_))
 cases r with
 |error e=>exact hx U Y _ _ e s' I2 hq'
 |ok fl=>
  cases fl with
  |ret u=>
   obtain⟨v,H',I3,rv,ev,q3⟩:=I2.after hq';subst ev;exact⟨rv,⟨V.ref (s.heap.objs.size+1),H',I3,rfl,q3⟩⟩
  |next=>exact xq hq'
  |brk=>exact xq hq'
  |cont=>exact xq hq'
def zWA(M:Mk X.K C f)(F:tm X.prog X.w X.K X.mg X.base CX k f fd ps sp)(hr:tW (k+1) X.A)(hg:Gl X x)(hm:X.mg x=some (.ref C))(hb:Binds X.K fd ps ds)(hd:Vals dvs ds)(hx:zmk CX X E)
 (ha:PA X (e::es) t) (hdb:(x==("__debug__":yn))=false:=by decide) (he:yj (e::es) X.env=(false,Yb e X.env)::yj es X.env:=by rfl) (hpl:(Yq pos (yj es X.env)).any (·.1)=false:=by rfl) :
 PE X (.Call (.Name x p) (e::es) [] pos) (ztF C sp dvs E t):=by
 intro U s Y H Q I h;refine xf (zvt I hg hm ?_ hdb);refine W.callWith_K (h₀:=X.base) I.ok.mod.kin M.kp (thn (ha pos U s Y H _ I h) λus s1 ⟨vs,H1,I1,r,q⟩=>⟨I1.kIn,?_⟩) he hpl;exact zKz M F hr hb hd hx I1 r q
variable {ks:List yn}{kpos:xo}{kws:List xc}{te:TE}{tk:TA}{nm:Option yn}
structure KBinds(K:yw)(fd:yf)(ps ks:List yn)(g:List yb->List yb->List yb)(gV:List V->List V->List V):Prop where
 to:∀(s:yd)(us ws:List yb),K.In s.heap->(g us ws).length=ps.length->BindsTo s fd ⟨us,ks.zip ws⟩ (ps.zip (g us ws))
 rel:∀{vs:List V} {us:List yb} {zs:List V} {ws:List yb},Vals vs us->Vals zs ws->Vals (gV vs zs) (g us ws)
variable {g:List yb->List yb->List yb}{gV:List V->List V->List V}
end
structure tq(N P:List yn)(sc:Xl):Prop where
 kind:sc.kind=.function
 co:sc.isCoroutine=false
 gen:sc.isGenerator=false
 nd:N.Nodup
 pre:N.take P.length=P
 par:∀x∈P,sc.names.lookup x=some .local\/sc.names.lookup x=some .cell
 nofree:∀y∈sc.names,y.2≠.free
def z4r{kindOf:yn->Option xn}{x:yn}:∀{binds:List (yn×yb)} {m:yn->Option yb},(∀v,(x,v)∉binds)->bindL kindOf binds m x=m x
 |[],_,_=>rfl
 |(n,v)::r,m,h=>by
  unfold bindL;rw[z4r λw hw=>h w (mem_cons_of_mem _ hw)]
  split
  ·have:x≠n:=by rintro rfl;exact h v mem_cons_self
   simp[this]
  ·rfl
def z5q{kindOf:yn->Option xn}{x:yn}:∀{binds:List (yn×yb)} {m:yn->Option yb},(∀v,(x,v)∉binds)->bindC kindOf binds m x=m x
 |[],_,_=>rfl
 |(n,v)::r,m,h=>by
  unfold bindC;rw[z5q λw hw=>h w (mem_cons_of_mem _ hw)]
  split
  ·rfl
  ·have:x≠n:=by rintro rfl;exact h v mem_cons_self
   simp[this]
def zVq{kindOf:yn->Option xn}{x:yn}{v:yb}:∀{P:List yn} {vs:List yb} {i:Nat} {m:yn->Option yb},P.Nodup->P[i]?=some x->vs[i]?=some v->kindOf x=some .local ->
 bindL kindOf (P.zip vs) m x=some v
 |[],_,_,_,_,h,_,_=>by simp at h
 |_::_,[],_,_,_,_,h,_=>by simp at h
 |p::P,w::vs,0,m,nd,h1,h2,hk=>by
  simp at h1 h2;subst h1;subst h2;show bindL kindOf ((p,w)::P.zip vs) m p=_;unfold bindL;rw[z4r λv hv=>(List.nodup_cons.mp nd).1 (List.of_mem_zip hv).1,if_pos hk];simp
 |p::P,w::vs,i+1,m,nd,h1,h2,hk=>by
  show bindL kindOf ((p,w)::P.zip vs) m x=_;unfold bindL;exact zVq (i:=i) (List.nodup_cons.mp nd).2 (by simpa using h1) (by simpa using h2) hk
def zzr{kindOf:yn->Option xn}{x:yn}{v:yb}:∀{P:List yn} {vs:List yb} {i:Nat} {m:yn->Option yb},P.Nodup->P[i]?=some x->vs[i]?=some v->kindOf x≠some .local ->
 bindC kindOf (P.zip vs) m x=some v
 |[],_,_,_,_,h,_,_=>by simp at h
 |_::_,[],_,_,_,_,h,_=>by simp at h
 |p::P,w::vs,0,m,nd,h1,h2,hk=>by
  simp at h1 h2;subst h1;subst h2;show bindC kindOf ((p,w)::P.zip vs) m p=_;unfold bindC;rw[z5q λv hv=>(List.nodup_cons.mp nd).1 (List.of_mem_zip hv).1,if_neg hk];simp
 |p::P,w::vs,i+1,m,nd,h1,h2,hk=>by
  show bindC kindOf ((p,w)::P.zip vs) m x=_;unfold bindC;exact zzr (i:=i) (List.nodup_cons.mp nd).2 (by simpa using h1) (by simpa using h2) hk
def start(N:List yn)(vs:List V):St:=vs.map some++yy (N.length-vs.length) none
def zYB(CX:CXT)(P:yu)(w:yI)(K:yw)(mg:yn->Option yb)(base:yS)(N:List yn)(qual:yn)(scope:Xl)(f:yc)(cd:yb)(A:yJ)(outer:List Env)(s:yd)(H:Hp)(E:XK):Cx where
 prog:=P
 w:=w
 K:=K
 mg:=mg
 base:=base
 A:=A.deeper (envOfC qual scope s.heap.objs.size f cd)
 N:=N
 s₀:=s
 H₀:=H
 env:=envOfC qual scope s.heap.objs.size f cd
 outer:=outer
 stack:=envOfC qual scope s.heap.objs.size f cd::outer
 ex:=[]
 calm:=true
 fn:=λ_=>true
 pn:=[]
 xe:=λe s'=>yq (yC P w) (A.deeper (envOfC qual scope s.heap.objs.size f cd)) (leaving (envOfC qual scope s.heap.objs.size f cd) e) (λ_ s''=>CX outer H s E e s'') (λe' s''=>CX outer H s E e' s'') s'
def zWt{sc:Xl}{n:Nat}{x:yn}(h:sc.names.lookup x=some .cell):∃c,(Ys n sc.names []).lookup x=some c:=by
 have q:=W.cellsFrom_some sc.names n [] (.inl h);exact Option.isSome_iff_exists.mp q
def zax{CX:CXT}{P:yu}{w:yI}{K:yw}{mg:yn->Option yb}{base:yS}{N ps:List yn}{qual:yn}{scope:Xl}{f:yc}{cd:yb}{A:yJ}{outer:List Env}{s s1:yd}{H:Hp}{E:XK}{us:List yb}{vs:List V}
 (S:tq N ps scope) (hd:A.handled=none) (e0:Sf P w K mg base A outer s H) (hl:vs.length=ps.length) (r:Vals vs us)
 (x:InCallC s s.heap.objs.size (bindL (envOfC qual scope s.heap.objs.size f cd).kindOf (ps.zip us) λ_=>none) (Ys (s.heap.objs.size+1) scope.names []) (bindC (envOfC qual scope s.heap.objs.size f cd).kindOf (ps.zip us) λ_=>none) s1) :
 Inv (zYB CX P w K mg base N qual scope f cd A outer s H E) [] (start N vs) H s1:=by
 have hpl:ps.length<=N.length:=by have:=congrArg Xq S.pre;rw[length_take]at this;omega
 obtain⟨h1,tk,rfl,hk⟩:=x.done;have noA:∀b:yc,b∉(zYB CX P w K mg base N qual scope f cd A outer s H E).ex:=λb z=>absurd (show b∈([]:List yc) from z) (by simp)
 refine⟨⟨e0.mod,S.kind,rfl,rfl,yk _,λy z c h1 h2=>?_,λy hy=>?_,λy c _ h=>?_,λ_=>hd,Around.frames_deeper e0.frames,.inr ⟨rfl,rfl⟩,λb z=>absurd z (noA b),e0.bs,e0.bsz,λb _ _=>noA b,λb z=>absurd z (noA b),e0.sr,e0.frf⟩,
  rfl,e0.bare,Un.kept hk,⟨_,x.toInCall.ns,λi y v h1 h2 h3=>?_⟩,λy c h=>⟨_,x.cell y c h⟩,e0.hok.fresh (yk _),λy c h=>?_,λp hp=>absurd (show p∈([]:List (yc×YS)) from hp) (by simp),e0.hok.kept hk,?_⟩
 ·exact name_of_addr x.apart (yX h1) (yX h2)
 ·have hy:scope.names.lookup y=some .cell\/scope.names.lookup y=some .free:=hy;rcases hy with hy|hy
  ·exact zWt hy
  ·exact absurd rfl (S.nofree _ (yX hy))
 ·exact YU (x.above y c (yX h))
 ·have hi:i<vs.length:=by
   unfold start at h2
   by_cases hi:i<vs.length
   ·exact hi
   ·rw[Yd (by simpa using hi)]at h2;rw[YR]at h2
    split at h2<;>cases h2
  have ha:vs[i]?=some v:=by
   unfold start at h2;rw[yv (by simpa using hi),yr]at h2
   cases e:vs[i]? with
   |none=>rw[e]at h2;cases h2
   |some a=>rw[e]at h2;cases h2;rfl
  obtain⟨u,hu,rv⟩:=r.get ha
  have hp:ps[i]?=some y:=by
   rw[<-S.pre,List.getElem?_take_of_lt (by omega)];exact h1
  have ndP:ps.Nodup:=by rw[<-S.pre];exact S.nd.sublist (List.take_sublist _ _)
  refine⟨u,rv,?_⟩;rcases S.par y (mem_of_getElem? hp) with k|k
  ·exact .inl ⟨k,zVq ndP hp hu k⟩
  ·obtain⟨c,e⟩:=zWt (n:=s.heap.objs.size+1) k;refine .inr ⟨.inl k,c,e,?_⟩;have q:=x.cell y c e;rw[zzr ndP hp hu (by show scope.names.lookup y≠_;rw[k];decide)]at q;exact q
 ·exact e0.hok.fresh (YU (x.above y c (yX h)))
 ·unfold start;show _=N.length;rw[length_append,length_map,Xi];omega
def zSE{CX:CXT}{P:yu}{w:yI}{K:yw}{mg:yn->Option yb}{base:yS}{k:Nat}{f:yc}{name qual:yn}{params:Arguments}{body:List yR}{scope:Xl}{dV kV doc pm cdv ct oc:yb}{an od:Option yc}
 {osl:Array (Option yb)} {N ps:List yn} {sp:Sp} (lk:K.lookup f=some ⟨oc,od,.func (W.fnOf name qual params body scope dV kV doc pm an cdv ct),osl⟩) (hcd:W.codeIn K cdv qual=true) (S:tq N ps scope)
 (len:∀vs H Q E,sp vs H Q E->vs.length=ps.length)
 (hbody:∀(A:yJ)(outer:List Env)(s:yd)(H:Hp)(vs:List V)(Q:VK)(E:XK),tW k (A.deeper (envOfC qual scope s.heap.objs.size f cdv))->sp vs H Q E ->
  ∃t,PSs (zYB CX P w K mg base N qual scope f cdv A outer s H E) body t/\t {nx:=λ_ H'=>Q .non H',rt:=Q } (start N vs) H) :
 tm P w K mg base CX (k+1) f (W.fnOf name qual params body scope dV kV doc pm an cdv ct) ps sp:=by
 refine⟨len,λA outer s H args us vs Q E hr e0 hb r hsp=>?_⟩;have hl:=len _ _ _ _ hsp;have KX:K.In s.heap:=e0.mod.kin.keeps λb o e=>(e0.bs b o e).1;have lim:s.heap.NoLimit:=e0.mod.nolimit.keeps λb o e=>(e0.bs b o e).1
 have hkind:∀y∈ps.zip us,scope.names.lookup y.1=some .local\/(scope.names.lookup y.1=some .cell/\((Ys (s.heap.objs.size+1) scope.names []).lookup y.1).isSome=true):=λ⟨n,v⟩ hy=>by
  rcases S.par n (List.of_mem_zip hy).1 with q|q
  ·exact .inl q
  ·exact .inr ⟨q,W.cellsFrom_some _ _ _ (.inl q)⟩
 refine codeAny_call_function hr.depth (KX _ _ lk) rfl S.co S.gen rfl (W.codeRec_of KX hcd) (hb _ _ _ _ ?_);refine wpAny_newFunctionEnv_cells S.kind hkind λenv he s1 x=>?_;subst he;refine⟨lim.keeps x.toInCall.keep,codeAny_func ?_⟩;obtain⟨t,ht,hq⟩:=hbody A outer s H vs Q E (hr.deeper _) hsp;have I:Inv (zYB CX P w K mg base N qual scope f cdv A outer s H E) [] (start N vs) H s1:=zax S hr.hd e0 hl r x;refine xp (ht [] s1 (start N vs) H _ I hq) (λfl s' hs=>?_) λe s' hs=>hs
 have fin:∀{Y':St} {H':Hp} {v:V} {u:yb},Inv (zYB CX P w K mg base N qual scope f cdv A outer s H E) [] Y' H' s'->RelV v u->Q v H'->CE outer P w H s Q u s' :=
  λ{Y' H' v u} δ rv q=>⟨v,H',δ.os,δ.bare,δ.base,δ.hok,rv,q⟩
 cases fl with
 |ret u=>
  obtain⟨v,Y',H',δ,rv,q⟩:=hs;exact fin δ rv q
 |next=>
  obtain⟨Y',H',δ,q⟩:=hs;exact fin (v:=V.non) (u:=YQ) δ rfl q
 |brk=>
  obtain⟨_,_,_,q⟩:=hs;exact xq q
 |cont=>
  obtain⟨_,_,_,q⟩:=hs;exact xq q
section
variable {X:Cx}{x:yn}{p pos:xo}{e:yD}{es:List yD}{t:TA}{id T:String}{r:List V->Hp->VK->Prop}
def tCB(r:List V->Hp->VK->Prop)(t:TA):TE:=λY H Q=>t Y H λvs H1=>r vs H1 Q
def zSt(hc:zLl X (.builtin id) r)(hg:Gl X x)(hm:X.mg x=none)(hv:yH x=some (.builtin id))(ha:PA X (e::es) t)(hn:x≠"__name__":=by decide)(hdb:(x==("__debug__":yn))=false:=by decide)
 (he:yj (e::es) X.env=(false,Yb e X.env)::yj es X.env:=by rfl) (hpl:(Yq pos (yj es X.env)).any (·.1)=false:=by rfl):PE X (.Call (.Name x p) (e::es) [] pos) (tCB r t):=by
 intro U s Y H Q I h;refine xf (zvl I hg hm hv ?_ hn hdb);exact PyProof.Rows.callWith_builtin1 (thn (ha pos U s Y H _ I h) λus s1 ⟨vs,H1,I1,r1,q1⟩=>hc U s1 Y H1 vs us Q I1 r1 q1) he hpl
def zkj(hc:zLl X (.type T) r)(hg:Gl X x)(hm:X.mg x=none)(hv:yH x=some (.type T))(ha:PA X (e::es) t)(hn:x≠"__name__":=by decide)(hdb:(x==("__debug__":yn))=false:=by decide)
 (he:yj (e::es) X.env=(false,Yb e X.env)::yj es X.env:=by rfl) (hpl:(Yq pos (yj es X.env)).any (·.1)=false:=by rfl):PE X (.Call (.Name x p) (e::es) [] pos) (tCB r t):=by
 intro U s Y H Q I h;refine xf (zvl I hg hm hv ?_ hn hdb);exact YD (thn (ha pos U s Y H _ I h) λus s1 ⟨vs,H1,I1,r1,q1⟩=>hc U s1 Y H1 vs us Q I1 r1 q1) he hpl
end
end L2
namespace HT
open PySem PyProof.Rows
section
open PySem.SeqAt
open PySem.AutoSeq1 (wpAny_loadPart')
open PySem.MeetsSeq PySem.MeetsSeq2 PySem.MeetsSeq3
end
section
variable {prog:yu}{w:yI}{A:yJ}{E:yb->yd->Prop}{s:yd}
def cat_tup{t b:yc}{vs ws:List yb}{Q:yb->yd->Prop}(ht:IsTup s.heap t vs.toArray)(hb:IsTup s.heap b ws.toArray)(hv:vs≠[])
 (h1:ws=[]->Q (.ref t) s) (h2:ws≠[]->Q (.ref s.heap.objs.size) {s with heap:=s.heap.push {cls:=.type "tuple",data:=.seq (vs++ws).toArray }})
 (hsz:vs.length+ws.length<=yG):yq (yC prog w) A (xl .Add (.ref t) (.ref b)) Q E s:=by
 obtain⟨⟨cls,dd,data,sl⟩,ho,hc,n,hd⟩:=id ht;obtain⟨⟨cls2,dd2,data2,sl2⟩,ho2,hc2,n2,hd2⟩:=id hb;simp only at hc hd hc2 hd2;subst hc hd hc2 hd2;have e:vs.toArray++ws.toArray=(vs++ws).toArray:=by simp
 by_cases hw:ws=[]
 ·exact concat_meets ⟨_,ho,rfl⟩ ⟨_,ho2,rfl⟩ noFill_tuple_add seq_tuple_add PySem.F.slot_tuple_add PySem.F.entry_tuple_add (PySem.F.args_tuple_add_2 _ _)
   (tuple_addW1 t b vs.toArray ws.toArray n n2 dd dd2 sl sl2 (by simpa using hv) (by simp[hw])) ⟨ho,ho2,h1 hw⟩
 ·refine concat_meets ⟨_,ho,rfl⟩ ⟨_,ho2,rfl⟩ noFill_tuple_add seq_tuple_add PySem.F.slot_tuple_add PySem.F.entry_tuple_add (PySem.F.args_tuple_add_2 _ _)
   (tuple_addW2 t b vs.toArray ws.toArray n n2 dd dd2 sl sl2 (by simpa using hv) (by simpa using hw) (by rw[size_toArray,size_toArray];exact hsz)) ⟨ho,ho2,?_⟩
  rw[e];exact h2 hw
def sIx(n d:Nat):Option Int->Nat
 |none=>d
 |some v=>if v<0 then(v+(n:Int)).toNat else min v.toNat n
def sX(n d:Nat):sIx n d none=d:=rfl
def Sm(n d k:Nat):sIx n d (some (k:Int))=min k n:=by
 show(if(k:Int)<0 then((k:Int)+(n:Int)).toNat else min (k:Int).toNat n)=min k n;rw[if_neg (by omega),Yg]
def zTC(n d:Nat)(hd:d<=n)(o:Option Int):sIx n d o<=n:=by
 cases o with
 |none=>exact hd
 |some v=>
  show(if v<0 then(v+(n:Int)).toNat else min v.toNat n)<=n
  by_cases hv:v<0
  ·rw[if_pos hv];omega
  ·rw[if_neg hv];exact Nat.min_le_right _ _
def zbx(v:Int)(n d:Nat):(if v<0 then max (v+(n:Int)) 0 else min v (n:Int))=((sIx n d (some v):Nat):Int):=by
 show(if v<0 then max (v+(n:Int)) 0 else min v (n:Int))=(((if v<0 then(v+(n:Int)).toNat else min v.toNat n):Nat):Int)
 by_cases hv:v<0
 ·simp only[if_pos hv];omega
 ·simp only[if_neg hv];omega
def zZv(lo hi:Option Int)(n:Nat):Builtin.Slice.sliceAdjust lo hi 1 (n:Int)=(((sIx n 0 lo:Nat):Int),((sIx n n hi:Nat):Int)):=by
 have h1:¬((1:Int)<0):=by omega
 unfold Builtin.Slice.sliceAdjust;simp only[h1,if_false];refine Prod.ext ?_ ?_
 ·cases lo with
  |none=>rfl
  |some v=>exact zbx v n 0
 ·cases hi with
  |none=>rfl
  |some v=>exact zbx v n n
def z8u(i j:Nat):xH (i:Int) (j:Int) 1=j-i:=by
 unfold xH;have h1:(1:Int)>0:=by omega
 simp only[h1,if_true,Int.ediv_one]
 split<;>omega
def zBo{v:yb}{o:Option Int}{Q:Option Int->yd->Prop}(p:IsPart v o)(h:Q o s):yq (yC prog w) A (Builtin.Slice.slicePartIndex v) Q E s:=by
 cases p with
 |none=>exact slicePart_none h
 |int i t=>exact slicePart_int h
def To{sl:yc}{vl vu:yb}{lo hi:Option Int}{n:Nat}{Q:Int×Int×Nat->yd->Prop}(hs:s.heap.IsSliceOf sl vl vu .none)(pl:IsPart vl lo)(pu:IsPart vu hi)
 (h:Q (((sIx n 0 lo:Nat):Int),1,sIx n n hi-sIx n 0 lo) s):yq (yC prog w) A (Builtin.Slice.sliceApplied (.ref sl) (pure (n:Int))) Q E s:=by
 obtain⟨os,hos,hcs,hds⟩:=id hs;unfold Builtin.Slice.sliceApplied Builtin.Slice.sliceFields;refine ya (ya (Yo hos hds (x:=vl) rfl (ya (Yo hos hds (x:=vu) rfl (ya (Yo hos hds (x:=.none) rfl (yg ?_)))))));refine ya (slicePart_none ?_);show yq _ _ (if((1:Int)==0)=true then _ else _) _ _ s;rw[if_neg (by decide)];refine ya (zBo pl (ya (zBo pu (ya (yg ?_)))));show yq _ _ (match Builtin.Slice.sliceAdjust lo hi 1 (n:Int) with|(lo,hi)=>pure (lo,(1:Int),xH lo hi 1)) _ _ s;rw[zZv lo hi n];show yq _ _ (pure (((sIx n 0 lo:Nat):Int),(1:Int),xH ((sIx n 0 lo:Nat):Int) ((sIx n n hi:Nat):Int) 1)) _ _ s;rw[z8u];exact yg h
def zjz(xs:Array yb)(i k:Nat):((yt k).filterMap λ(m:Nat)=>xs[((i:Int)+(m:Int)*1).toNat]?).toArray=((xs.toList.drop i).take k).toArray:=by
 have e:(λ(m:Nat)=>xs[((i:Int)+(m:Int)*1).toNat]?)=λm=>xs[i+m]?:=by
  funext m
  have:((i:Int)+(m:Int)*1).toNat=i+m:=by omega
  rw[this]
 rw[e];have:=pick_run xs i k;rw[List.filterMap_map]at this;have e2:((λx=>xs[x]?)∘λx=>i+x)=λm=>xs[i+m]?:=rfl;rw[e2]at this;rw[this]
def TV{t sl:yc}{items:Array yb}{vl vu:yb}{lo hi:Option Int}{Q:yb->yd->Prop}(ht:IsTup s.heap t items)(hs:s.heap.IsSliceOf sl vl vu .none)(pl:IsPart vl lo)(pu:IsPart vu hi)
 (hw:¬(sIx items.size 0 lo=0/\sIx items.size items.size hi=items.size))
 (h:Q (.ref s.heap.objs.size) {s with heap:=s.heap.push {cls:=.type "tuple",data:=.seq ((items.toList.drop (sIx items.size 0 lo)).take (sIx items.size items.size hi-sIx items.size 0 lo)).toArray }})
 (hsz:items.size<=yG):yq (yC prog w) A (getItem (.ref t) (.ref sl)) Q E s:=by
 have htake:sizeOk (.seq ((items.toList.drop (sIx items.size 0 lo)).take (sIx items.size items.size hi-sIx items.size 0 lo)).toArray):=by
  show((items.toList.drop (sIx items.size 0 lo)).take (sIx items.size items.size hi-sIx items.size 0 lo)).toArray.size<=yG;rw[size_toArray,length_take,length_drop,YI];omega
 have hj:sIx items.size items.size hi<=items.size:=zTC _ _ (yk _) hi;obtain⟨os,hos,hcs,hds⟩:=id hs;have hTs:s.TypeIs (.ref sl) "slice":=⟨os,hos,hcs⟩
 unfold getItem
 try with_reducible refine Yp ?_
 first|refine ya (yg ?_)|skip
 refine ya (wpAny_sequenceKey ht.typeIs (by decide) ?_)
 refine ya (yO (name:=Yz "__getitem__") ht.typeIs xb
  (yP xb ht.typeIs entry_tuple_getitem ?_ (args_tuple_getitem _ _)))
 show yq _ _ (Builtin.Tuple.tupleItemsOf (.ref t) >>= _) _ _ s;refine ya (tupleItemsOf_ ht ?_);refine ya (Xv hTs ?_);rw[if_pos (by decide)];refine ya (To hs pl pu ?_)
 have hno:¬((((sIx items.size 0 lo:Nat):Int)==0&&(1:Int)==1&&(sIx items.size items.size hi-sIx items.size 0 lo)==items.size)=true):=by
  intro q;rw[yK,yK]at q;have q1:((sIx items.size 0 lo:Nat):Int)=0:=eq_of_beq q.1.1;have q2:sIx items.size items.size hi-sIx items.size 0 lo=items.size:=eq_of_beq q.2;exact hw ⟨by omega,by omega⟩
 show yq _ _ (if(((sIx items.size 0 lo:Nat):Int)==0&&(1:Int)==1&&(sIx items.size items.size hi-sIx items.size 0 lo)==items.size)=true then _ else _) _ _ s;rw[if_neg hno,zjz]
 first
  |exact ya (m:=xi _) (Yh (yg ⟨_,rfl,yg h⟩) htake)
  |exact ya (m:=xi _) (Yh (ya (yg (yg ⟨_,rfl,yg h⟩))) htake)
  |exact ya (ya (m:=xi _) (Yh (yg (yg ⟨_,rfl,yg h⟩)) htake))
  |exact ya (ya (m:=xi _) (Yh (yg ⟨_,rfl,yg h⟩) htake))
end
end HT
namespace L2
open PySem PySem.Spec PyProof.Rows
abbrev TO:=St->Hp->(Option Int->Hp->Prop)->Prop
def PO(X:Cx)(e:Option yD)(t:TO):Prop :=
 ∀(U:List (yc×YS)) (s:yd) (Y:St) (H:Hp) (Q:Option Int->Hp->Prop),Inv X U Y H s->t Y H Q ->
  yq (yC X.prog X.w) X.A (evalPart e X.env) (λu s'=>∃o H',Inv X U Y H' s'/\IsPart u o/\Q o H') X.xe s
def zGB:TO:=λ_ H Q=>Q none H
def z9E(t:TE):TO:=λY H Q=>t Y H λx H1=>∃i,x=.int i/\Q (some i) H1
def zVk{ns:List Int}:∀{us:List yb},Vals (ns.map V.int) us->IntsAre us ns:=by
 induction ns with
 |nil=>intro us r;rw[List.map_nil]at r;cases r;exact .nil
 |cons n ns ih=>
  intro us r;rw[map_cons]at r
  cases r with
  |cons r1 r2=>
   obtain⟨t,e⟩:=r1;subst e;exact .cons n t (ih r2)
section
variable {X:Cx}{e:yD}{te:TE}{lo hi:Option yD}{tl th:TO}{pos p2:xo}
def zTB:PO X none zGB:=by
 intro U s Y H Q I h;rw[evalPart_none];exact yg ⟨none,H,I,.none,h⟩
def zLA(h:PE X e te):PO X (some e) (z9E te):=by
 intro U s Y H Q I hw;rw[evalPart_some];refine thn (h U s Y H _ I hw) λu s1 ⟨x,H1,I1,r1,q1⟩=>?_;obtain⟨i,rfl,q⟩:=q1;obtain⟨t,rfl⟩:=r1;exact⟨some i,H1,I1,.int i t,q⟩
def SlR(X:Cx)(r:V->Option Int->Option Int->Hp->VK->Prop):Prop :=
 ∀(U:List (yc×YS)) (s:yd) (Y:St) (H:Hp) (x:V) (v vl vu:yb) (lo hi:Option Int) (sl:yc) (Q:VK),Inv X U Y H s->RelV x v->s.heap.IsSliceOf sl vl vu .none->IsPart vl lo->IsPart vu hi->r x lo hi H Q ->
  ∃T id,typeLookup (.type T) "__getitem__"=pure (some (.builtin id))/\s.TypeIs v T/\yq (yC X.prog X.w) X.A (getItem v (.ref sl)) (EP X U Y Q) X.xe s
def SlR.or{r r':V->Option Int->Option Int->Hp->VK->Prop}(h:SlR X r)(h':SlR X r'):SlR X (λx lo hi H Q=>r x lo hi H Q\/r' x lo hi H Q):=by
 intro U s Y H x v vl vu lo hi sl Q I rx hs pl pu q;rcases q with q|q
 ·exact h U s Y H x v vl vu lo hi sl Q I rx hs pl pu q
 ·exact h' U s Y H x v vl vu lo hi sl Q I rx hs pl pu q
def tSl(r:V->Option Int->Option Int->Hp->VK->Prop)(te:TE)(tl th:TO):TE:=λY H Q=>te Y H λx H1=>tl Y H1 λl H2=>th Y H2 λu H3=>r x l u H3 Q
def zdy{r:V->Option Int->Option Int->Hp->VK->Prop}(hr:SlR X r)(he:PE X e te)(hl:PO X lo tl)(hu:PO X hi th):PE X (.Subscript e (.Slice lo hi none p2) pos) (tSl r te tl th):=by
 intro U s Y H Q I h;refine Subscript_ (thn (he U s Y H _ I h) λv s1 ⟨x,H1,I1,r1,q1⟩=>?_);refine wpAny_Slice (thn (hl U s1 Y H1 _ I1 q1) λvl s2 ⟨l,H2,I2,pl,q2⟩=>thn (hu U s2 Y H2 _ I2 q2) λvu s3 ⟨u,H3,I3,pu,q3⟩=>?_);rw[evalPart_none];refine yg ?_;have I4:Inv X U Y H3 {s3 with heap:=s3.heap.push {cls:=.type "slice",data:=.fields #[vl,vu,.none]}}:=I3.kept (t':=s3.toks) λb ob q=>ye _ q;obtain⟨T,id,hT,ht,hg⟩:=hr U {s3 with heap:=s3.heap.push {cls:=.type "slice",data:=.fields #[vl,vu,.none]}} Y H3 x v vl vu l u s3.heap.objs.size Q I4 r1 (Heap.IsSliceOf.new ..) pl pu q3;show yq (yC X.prog X.w) X.A (subscriptTail e (.Slice lo hi none p2) v (.ref s3.heap.objs.size)) (EP X U Y Q) X.xe {s3 with heap:=s3.heap.push {cls:=.type "slice",data:=.fields #[vl,vu,.none]}};exact tail_any (ops:=[.ref s3.heap.objs.size,v]) ht hT hg (by with_unfolding_all rfl)
def zJw(xs:List V)(lo hi:Option Int):List V:=(xs.drop (HT.sIx xs.length 0 lo)).take (HT.sIx xs.length xs.length hi-HT.sIx xs.length 0 lo)
def zYm(xs:List V)(lo hi:Option Int):(zJw xs lo hi).length<=xs.length:=by
 unfold zJw;rw[length_take,length_drop];omega
def z0F(K:yw):V->Option Int->Option Int->Hp->VK->Prop:=λx lo hi H Q=>∃a xs,x=.ref a/\SqT K H a xs /\
 ¬(HT.sIx xs.length 0 lo=0/\HT.sIx xs.length xs.length hi=xs.length)/\∀p,H p=none->Q (.ref p) (upd H p (.tup (zJw xs lo hi)))
def zKC:SlR X (z0F X.K):=by
 intro U s Y H x v vl vu lo hi sl Q I rx hs pl pu h;obtain⟨a,xs,rfl,hx,hw,q⟩:=h;cases rx;obtain⟨its,r,ht,hz⟩:=I.tuple hx;have hlen:its.toArray.size=xs.length:=by rw[size_toArray];exact r.length.symm
 refine⟨"tuple",_,PyProof.Rows.slot_tuple_getitem.lookup,ht.typeIs,?_⟩;refine HT.TV ht hs pl pu (by rw[hlen];exact hw) ?_ (by rw[hlen];exact hz);rw[hlen];refine⟨.ref s.heap.objs.size,_,I.laid (t':=s.toks) (o:=.tup (zJw xs lo hi)) (λb ob q=>ye _ q) (yk _) ?_,rfl,q _ (I.hok.fresh (yk _))⟩;exact⟨yF (zYm xs lo hi) hz,_,(r.drop (HT.sIx xs.length 0 lo)).take (HT.sIx xs.length xs.length hi-HT.sIx xs.length 0 lo),IsTup.new _ _⟩
def zsF(K:yw):R2:=λx y H Q=>∃a b xs ys,x=.ref a/\y=.ref b/\SqT K H a xs/\SqT K H b ys/\xs≠[]/\xs.length+ys.length<=yG /\
 (ys=[]->Q (.ref a) H)/\(ys≠[]->∀p,H p=none->Q (.ref p) (upd H p (.tup (xs++ys))))
def Vals.su{xs:List V}{us:List yb}(r:Vals xs us):us=[]↔xs=[]:=by
 cases r with
 |nil=>simp
 |cons _ _=>simp
def z0A:OpR X (xl .Add) (zsF X.K):=by
 intro U s Y H x y v u Q I rx ry h;obtain⟨a,b,xs,ys,rfl,rfl,ha,hb,hx,hz,q1,q2⟩:=h;cases rx;cases ry;obtain⟨its,r1,p1,_⟩:=I.tuple ha;obtain⟨its2,r2,p2,_⟩:=I.tuple hb;refine HT.cat_tup p1 p2 (λz=>hx (r1.su.mp z)) (λz=>⟨.ref a,H,I,rfl,q1 (r2.su.mp z)⟩) (λz=>?_) (by rw[<-r1.length,<-r2.length];exact hz);refine⟨.ref s.heap.objs.size,_,I.laid (t':=s.toks) (o:=.tup (xs++ys)) (λb ob q=>ye _ q) (yk _) ?_,rfl,q2 (λw=>z (r2.su.mpr w)) _ (I.hok.fresh (yk _))⟩;exact⟨by rw[length_append];exact hz,_,r1.append r2,IsTup.new _ _⟩
end
def ixN(n:Nat)(i:Int):Option Nat:=if 0<=i then(if i<n then some i.toNat else none) else if -(n:Int)<=i then some (i+n).toNat else none
def atI{α:Type}(xs:List α)(i:Int):Option α:=(ixN xs.length i).bind λj=>xs[j]?
def zyw{n:Nat}{i:Int}{j:Nat}(h:ixN n i=some j):seqIndex? i n=some j/\j<n/\-(n:Int)<=i/\i<n:=by
 unfold ixN at h
 by_cases h0:0<=i
 ·rw[if_pos h0]at h
  by_cases h1:i<n
  ·rw[if_pos h1]at h;have e:i.toNat=j:=yW h;exact⟨by rw[seqIndex_of h0 h1,e],by omega,by omega,h1⟩
  ·rw[if_neg h1]at h;cases h
 ·rw[if_neg h0]at h
  by_cases h1:-(n:Int)<=i
  ·rw[if_pos h1]at h;have e:(i+n).toNat=j:=yW h;exact⟨by rw[seqIndex_neg (by omega) h1,e],by omega,h1,by omega⟩
  ·rw[if_neg h1]at h;cases h
def zOp{α:Type}{xs:List α}{i:Int}{v:α}(h:atI xs i=some v):∃j,seqIndex? i xs.length=some j/\xs[j]?=some v/\j<xs.length/\-(xs.length:Int)<=i/\i<xs.length:=by
 unfold atI at h
 cases e:ixN xs.length i with
 |none=>rw[e]at h;cases h
 |some j=>
  rw[e]at h;obtain⟨h1,h2,h3,h4⟩:=zyw e;exact⟨j,h1,h,h2,h3,h4⟩
def zuc{α:Type}{xs:List α}{j:Nat}{v:α}(h:xs[j]?=some v):atI xs (j:Int)=some v:=by
 have hj:j<xs.length:=(List.getElem?_eq_some_iff.mp h).1
 have e:ixN xs.length (j:Int)=some j:=by
  unfold ixN;rw[if_pos (by omega),if_pos (by omega)];simp
 unfold atI;rw[e];exact h
def zan(b:yD):Prop:=∀o i,subscripted b false o i=operate [o,i] (getItem o i)
def IxR(X:Cx)(r:R2):Prop :=
 ∀(value slice:yD)(U:List (yc×YS)) (s:yd) (Y:St) (H:Hp) (x y:V) (v u:yb) (Q:VK),Inv X U Y H s->RelV x v->RelV y u->r x y H Q ->
  subscripted slice false v u=operate [v,u] (getItem v u)->yq (yC X.prog X.w) X.A (subscriptTail value slice v u) (EP X U Y Q) X.xe s
def MtR(X:Cx)(id:String)(r:V->List V->Hp->VK->Prop):Prop :=
 ∀(U:List (yc×YS)) (s:yd) (Y:St) (H:Hp) (x:V) (xs:List V) (v:yb) (us:List yb) (Q:VK),Inv X U Y H s->RelV x v->Vals xs us->r x xs H Q ->
  yq (yC X.prog X.w) X.A (call (.builtin id) (v::us)) (EP X U Y Q) X.xe s
section
variable {X:Cx}{a b:yD}{ta tb:TE}{pos:xo}
def IxR.or{r r':R2}(h:IxR X r)(h':IxR X r'):IxR X (λx y H Q=>r x y H Q\/r' x y H Q):=by
 intro value slice U s Y H x y v u Q I rx ry q hs;rcases q with q|q
 ·exact h value slice U s Y H x y v u Q I rx ry q hs
 ·exact h' value slice U s Y H x y v u Q I rx ry q hs
def zcy{r:R2}(hr:IxR X r)(ha:PE X a ta)(hb:PE X b tb)(hs:zan b):PE X (.Subscript a b pos) (tOp r ta tb):=by
 intro U s Y H Q I h;exact Subscript_ (binT ha hb I h λv u s2 x y H2 I2 rx ry q=>hr a b U s2 Y H2 x y v u Q I2 rx ry q (hs _ _))
def zCF(K:yw):R2:=λx y H Q=>∃p xs i v,x=.ref p/\y=.int i/\SqL K H p xs/\atI xs i=some v/\Q v H
def zGF(K:yw):R2:=λx y H Q=>∃p xs i v,x=.ref p/\y=.int i/\SqT K H p xs/\atI xs i=some v/\Q v H
def zHF:R2:=λx y H Q=>∃z i c,x=.str z/\y=.int i/\z.length<=yG/\atI z.cps.toList i=some c/\Q (.str ⟨#[c]⟩) H
def ix_list:IxR X (zCF X.K):=by
 intro value slice U s Y H x y v u Q I rx ry h hs;obtain⟨p,xs,i,z,rfl,rfl,hq,he,q⟩:=h;cases rx;obtain⟨t,rfl⟩:=ry;obtain⟨its,r,pl,hz⟩:=I.list hq;obtain⟨j,h1,h2,h3,h4,h5⟩:=zOp he;obtain⟨w,ew,rw'⟩:=r.get h2;have hl:=r.length;have hn:=TM;have fin:EP X U Y Q w s:=⟨z,H,I,rw',q⟩
 by_cases h0:0<=i
 ·have hj:i.toNat=j:=by
   rw[seqIndex_of h0 h5]at h1;exact yW h1
  exact item_listR pl.isList h0 (by omega) (by rw[hj];simpa using ew) fin hs
 ·have hj:(i+(its.toArray.size:Int)).toNat=j:=by
   rw[seqIndex_neg (by omega) h4]at h1;rw[size_toArray,<-hl];exact yW h1
  exact subscriptTail_builtinR (x:=w) pl.isList.typeIs slot_list_getitem.lookup
   (wpAny_getItem_list_neg (Q:=λr s'=>r=w/\EP X U Y Q r s') pl.isList (by omega) (by rw[size_toArray]<;>omega) (by omega) (by rw[hj];simpa using ew) ⟨rfl,fin⟩) hs
def ix_tup:IxR X (zGF X.K):=by
 intro value slice U s Y H x y v u Q I rx ry h hs;obtain⟨p,xs,i,z,rfl,rfl,hq,he,q⟩:=h;cases rx;obtain⟨t,rfl⟩:=ry;obtain⟨its,r,pl,hz⟩:=I.tuple hq;obtain⟨j,h1,h2,h3,h4,h5⟩:=zOp he;obtain⟨w,ew,rw'⟩:=r.get h2;have hl:=r.length;have hn:=TM;have fin:EP X U Y Q w s:=⟨z,H,I,rw',q⟩
 exact subscriptTail_builtinR (x:=w) pl.typeIs slot_tuple_getitem.lookup
  (getItem_tuple (j:=j) (Q:=λr s'=>r=w/\EP X U Y Q r s') pl (by omega) (by omega) (by rw[size_toArray,<-hl];exact h1) (by simpa using ew) ⟨rfl,fin⟩) hs
def zuA:IxR X zHF:=by
 intro value slice U s Y H x y v u Q I rx ry h hs;obtain⟨z,i,c,rfl,rfl,hz,he,q⟩:=h;obtain⟨t,rfl⟩:=rx;obtain⟨t',rfl⟩:=ry;obtain⟨j,h1,h2,h3,h4,h5⟩:=zOp he;have hl:z.cps.toList.length=z.length:=by simp[Str.length]
 rw[hl]at h1 h4 h5;have hn:=TM
 exact tail_any (typeIs_str s z t) slot_str_getitem.lookup (getItem_str (c:=c) (by
  have e1:decide (i < -(2^63:Int))=false:=decide_eq_false (by omega);have e2:decide (i≥2^63)=false:=decide_eq_false (by omega);rw[e1,e2,Bool.or_false]) (by rw[h1];simpa using h2) ⟨.str ⟨#[c]⟩,H,I.tok _,⟨_,rfl⟩,q⟩) hs
def rIx(K:yw):R2:=λx y H Q=>zCF K x y H Q\/zGF K x y H Q\/zHF x y H Q
def zHA:IxR X (rIx X.K):=ix_list.or (ix_tup.or zuA)
def zlv(its:List yb)(n j:Nat)(u:yb):Xb (·.setIfInBounds j u) {cls:=.type "list",data:=.seq its.toArray n } = {cls:=.type "list",data:=.seq (its.set j u).toArray n }:=by
 simp[Xb]
def Inv.lst{U:List (yc×YS)}{Y:St}{H:Hp}{s:yd}{p:yc}{xs:List V}(I:Inv X U Y H s)(h:H p=some (.lst xs)) :
 ∃(its:List yb)(n:Nat),Vals xs its/\s.heap.get? p=some {cls:=.type "list",data:=.seq its.toArray n }/\xs.length<=yG:=by
 obtain⟨z,its,n,r,e⟩:=I.hok p _ h;exact⟨its,n,r,e,z⟩
def Inv.lstUpd{U:List (yc×YS)}{Y:St}{H:Hp}{s:yd}{p:yc}{xs ys:List V}{its its':List yb}{n n':Nat}{f:YS->YS}(I:Inv X U Y H s)(h:H p=some (.lst xs))
 (ho:s.heap.get? p=some {cls:=.type "list",data:=.seq its.toArray n }) (hf:f {cls:=.type "list",data:=.seq its.toArray n } = {cls:=.type "list",data:=.seq its'.toArray n' }) (r:Vals ys its') (hz:ys.length<=yG) (t:Nat) :
 Inv X U Y (upd H p (.lst ys)) {s with heap:=s.heap.update p f,toks:=t }:=by
 have e:(s.heap.update p f).get? p=some {cls:=.type "list",data:=.seq its'.toArray n' }:=by
  rw[Yn f ho (by rw[hf]<;>rfl),hf]
 refine I.write (x:=p) (e:=p) (by rw[h];trivial) (.inl rfl) (λb u hb q=>(xu _ _ (yM hb)).trans q) ⟨_,e⟩ ?_;exact⟨hz,its',n',r,e⟩
def zcF:V->V->V->Hp->(Hp->Prop)->Prop:=λo i v H Q=>∃p xs k j,o=.ref p/\i=.int k/\H p=some (.lst xs)/\ixN xs.length k=some j/\Q (upd H p (.lst (xs.set j v)))
def zzu:zfE X zcF:=by
 intro U s Y H o i v ov iv u Q I ro ri rv h;obtain⟨p,xs,k,j,rfl,rfl,hp,hj,q⟩:=h;cases ro;obtain⟨t,rfl⟩:=ri;obtain⟨its,n,r,ho,hz⟩:=I.lst hp;obtain⟨h1,h2,h3,h4⟩:=zyw hj;have hl:=r.length;have hn:=TM
 have I':Inv X U Y (upd H p (.lst (xs.set j v))) {s with heap:=s.heap.update p (Xb (·.setIfInBounds j u))} :=
  I.lstUpd hp ho (zlv its n j u) (r.set rv j) (by rw[length_set];exact hz) s.toks
 by_cases h0:0<=k
 ·have hk:k.toNat=j:=by
   rw[seqIndex_of h0 h4]at h1;exact yW h1
  exact W.ki_setAt ho h0 (by omega) (by rw[size_toArray,<-hl];exact h4) (by rw[hk];exact⟨_,I',q⟩)
 ·have hk:(k+(its.toArray.size:Int)).toNat=j:=by
   rw[seqIndex_neg (by omega) h3]at h1;rw[size_toArray,<-hl];exact yW h1
  exact W.ki_setBack ho (by omega) (by rw[size_toArray,<-hl];exact h3) (by omega) (by rw[hk];exact⟨_,I',q⟩)
def zmr(lo hi:Option Int)(n:Nat):(sliceBounds lo hi none n).1=((HT.sIx n 0 lo:Nat):Int)/\(sliceBounds lo hi none n).2.1=((HT.sIx n n hi:Nat):Int)/\(sliceBounds lo hi none n).2.2=1:=by
 refine⟨?_,?_,rfl⟩
 ·cases lo with
  |none=>simp[sliceBounds,HT.sIx]
  |some i=>
   simp only[sliceBounds,HT.sIx,Option.getD_none,show(1:Int)>0 by decide,if_true]
   by_cases h:i<0
   ·simp only[h,if_true]<;>omega
   ·simp only[h,if_false]<;>omega
 ·cases hi with
  |none=>simp[sliceBounds,HT.sIx]
  |some i=>
   simp only[sliceBounds,HT.sIx,Option.getD_none,show(1:Int)>0 by decide,if_true]
   by_cases h:i<0
   ·simp only[h,if_true]<;>omega
   ·simp only[h,if_false]<;>omega
def z8p(its:List yb)(lo hi:Option Int):slicePick its.toArray lo hi none=((its.drop (HT.sIx its.length 0 lo)).take (HT.sIx its.length its.length hi-HT.sIx its.length 0 lo)).toArray:=by
 obtain⟨h1,h2,h3⟩:=zmr lo hi its.toArray.size;unfold slicePick;rw[h1,h2,h3];simp only[sliceRange_one,pick_run,size_toArray]<;>rfl
def zTF(K:yw):V->Option Int->Option Int->Hp->VK->Prop:=λx lo hi H Q=>∃a xs,x=.ref a/\SqL K H a xs/\∀p,H p=none->Q (.ref p) (upd H p (.lst (zJw xs lo hi)))
def zbC:SlR X (zTF X.K):=by
 intro U s Y H x v vl vu lo hi sl Q I rx hs pl pu h;obtain⟨a,xs,rfl,hx,q⟩:=h;cases rx;obtain⟨its,r,ht,hz⟩:=I.list hx;have hlen:=r.length;refine⟨"list",_,slot_list_getitem.lookup,ht.isList.typeIs,?_⟩;refine wpAny_getItem_list_slice ht.isList hs pl pu .none (by simp) ?_ (by rw[size_toArray]<;>omega);rw[z8p,<-hlen];refine⟨.ref s.heap.objs.size,_,I.laid (t':=s.toks) (o:=.lst (zJw xs lo hi)) (λb ob q=>ye _ q) (yk _) ?_,rfl,q _ (I.hok.fresh (yk _))⟩;exact⟨yF (zYm xs lo hi) hz,_,0,(r.drop (HT.sIx xs.length 0 lo)).take (HT.sIx xs.length xs.length hi-HT.sIx xs.length 0 lo),ym _ rfl⟩
def zym:V->Bool
 |.non=>true
 |.bl _=>true
 |.int _=>true
 |.str _=>true
 |_=>false
def eqV:V->V->Bool
 |.non,.non=>true
 |.bl a,.bl b=>a==b
 |.bl a,.int b=>(if a then 1 else 0)==b
 |.int a,.bl b=>a==(if b then 1 else 0)
 |.int a,.int b=>a==b
 |.str a,.str b=>a==b
 |_,_=>false
def zBD{A:yJ}{s:yd}{y x:V}{u v:yb}(ry:RelV y u)(rx:RelV x v)(fy:zym y=true)(fx:zym x=true):SeqAt.EqAt A s u v (eqV y x):=by
 cases y with
 |non=>
  cases ry
  cases x with
  |non=>cases rx;exact SeqAt.EqAt.same _
  |bl b=>cases rx;exact SeqAt.EqAt.none_bool b
  |int b=>obtain⟨t,rfl⟩:=rx;exact SeqAt.EqAt.none_int b t
  |str b=>obtain⟨t,rfl⟩:=rx;exact SeqAt.EqAt.none_str b t
  |_=>exact absurd (show false=true from fx) yB
 |bl a=>
  cases ry
  cases x with
  |non=>cases rx;exact SeqAt.EqAt.bool_none a
  |bl b=>cases rx;exact SeqAt.EqAt.bool_bool a b
  |int b=>obtain⟨t,rfl⟩:=rx;exact SeqAt.EqAt.bool_int a b t
  |str b=>obtain⟨t,rfl⟩:=rx;exact SeqAt.EqAt.bool_str a b t
  |_=>exact absurd (show false=true from fx) yB
 |int a=>
  obtain⟨t',rfl⟩:=ry
  cases x with
  |non=>cases rx;exact SeqAt.EqAt.int_none a t'
  |bl b=>cases rx;exact SeqAt.EqAt.int_bool a t' b
  |int b=>obtain⟨t,rfl⟩:=rx;exact SeqAt.EqAt.int_int a t' b t
  |str b=>obtain⟨t,rfl⟩:=rx;exact SeqAt.EqAt.int_str a t' b t
  |_=>exact absurd (show false=true from fx) yB
 |str a=>
  obtain⟨t',rfl⟩:=ry
  cases x with
  |non=>cases rx;exact SeqAt.EqAt.str_none a t'
  |bl b=>cases rx;exact SeqAt.EqAt.str_bool a t' b
  |int b=>obtain⟨t,rfl⟩:=rx;exact SeqAt.EqAt.str_int a t' b t
  |str b=>obtain⟨t,rfl⟩:=rx;exact SeqAt.EqAt.str_str a t' b t
  |_=>exact absurd (show false=true from fx) yB
 |_=>exact absurd (show false=true from fy) yB
def eqU(x:V)(u:yb):Bool:=match u with
 |.none=>eqV .non x
 |.bool b=>eqV (.bl b) x
 |.int i _=>eqV (.int i) x
 |.str z _=>eqV (.str z) x
 |_=>false
def zMw{x y:V}{u:yb}(r:RelV y u)(f:zym y=true):eqU x u=eqV y x:=by
 cases y with
 |non=>cases r;rfl
 |bl b=>cases r;rfl
 |int i=>obtain⟨t,rfl⟩:=r;rfl
 |str z=>obtain⟨t,rfl⟩:=r;rfl
 |_=>exact absurd (show false=true from f) yB
def zft{x:V}:∀{xs:List V} {us:List yb},Vals xs us->xs.all zym=true->us.any (eqU x)=xs.any λy=>eqV y x
 |_,_,.nil,_=>rfl
 |y::xs,u::us,.cons r t,f=>by
  rw[all_cons,yK]at f;rw[any_cons,any_cons,zMw r f.1,zft t f.2]
def z2l{A:yJ}{s:yd}{x:V}{v:yb}(rx:RelV x v)(fx:zym x=true):∀{xs:List V} {us:List yb},Vals xs us->xs.all zym=true->∀u∈us,SeqAt.EqAt A s u v (eqU x u)
 |_,_,.nil,_=>λu hu=>by cases hu
 |y::xs,u::us,.cons r t,f=>λu' hu=>by
  rw[all_cons,yK]at f;rcases List.mem_cons.mp hu with rfl|hu
  ·rw[zMw r f.1];exact zBD r rx f.1 fx
  ·exact z2l rx fx t f.2 u' hu
def inV(x:V)(xs:List V):Bool:=xs.any λy=>eqV y x
def rIn(K:yw)(neg:Bool):R2:=λx y H Q=>∃p xs,y=.ref p/\(SqL K H p xs\/SqT K H p xs)/\zym x=true/\xs.all zym=true/\Q (.bl (if neg then !inV x xs else inV x xs)) H
def z5r:OpR X (yV .NotIn) (rIn X.K true):=by
 intro U s Y H x y v u Q I rx ry h;obtain⟨p,xs,rfl,hq,fx,fs,q⟩:=h;cases ry;rcases hq with hq|hq
 ·obtain⟨its,r,pl,hz⟩:=I.list hq;refine SeqAt.notIn_listAt (eqU x) pl.isList (λw hw=>z2l rx fx r fs w (by simpa using hw)) ⟨.bl _,H,I,rfl,?_⟩;rw[show its.toArray.any (eqU x)=its.any (eqU x) by simp,zft r fs];exact q
 ·obtain⟨its,r,pl,hz⟩:=I.tuple hq;refine SeqAt.notIn_tupleAt (eqU x) pl (λw hw=>z2l rx fx r fs w (by simpa using hw)) ⟨.bl _,H,I,rfl,?_⟩;rw[show its.toArray.any (eqU x)=its.any (eqU x) by simp,zft r fs];exact q
def zKr:zLl X (.builtin "len") (λxs H Q=>∃p ys,xs=[.ref p]/\(SqL X.K H p ys\/SqT X.K H p ys)/\Q (.int ys.length) H):=by
 intro U s Y H xs us Q I r h;obtain⟨p,ys,rfl,hq,q⟩:=h;obtain⟨u,rfl,rx⟩:=vals1 r;cases rx;have hn:=TM;rcases hq with hq|hq
 ·obtain⟨its,r',pl,hz⟩:=I.list hq;have hlen:=r'.length;exact Calls.call_len_list pl.isList (by simp only[size_toArray]<;>omega) ⟨.int ys.length,H,I.tok _,⟨s.toks+1,by rw[size_toArray,hlen]⟩,q⟩
 ·obtain⟨its,r',pl,hz⟩:=I.tuple hq;have hlen:=r'.length;exact len_tuple pl (by simp only[size_toArray]<;>omega) ⟨.int ys.length,H,I.tok _,⟨s.toks+1,by rw[size_toArray,hlen]⟩,q⟩
def zas:zLl X (.builtin "len") (λxs H Q=>∃z,xs=[.str z]/\z.length<=yG/\Q (.int z.length) H):=by
 intro U s Y H xs us Q I r h;obtain⟨z,rfl,hz,q⟩:=h;obtain⟨u,rfl,t,rfl⟩:=vals1 r;have hn:=TM;exact len_str (by omega) ⟨.int z.length,H,I.tok _,⟨_,rfl⟩,q⟩
def zXr:zLl X (.type "list") (λxs H Q=>∃p ys,xs=[.ref p]/\(SqL X.K H p ys\/SqT X.K H p ys)/\∀l,H l=none->Q (.ref l) (upd H l (.lst ys))):=by
 intro U s Y H xs us Q I r h;obtain⟨p,ys,rfl,hq,q⟩:=h;obtain⟨u,rfl,rx⟩:=vals1 r;cases rx
 have fin:∀(its:List yb),Vals ys its->ys.length<=yG->∀(h':yS)(c':Nat),(∀b o',s.heap.get? b=some o'->h'.get? b=some o') ->
  h'.get? s.heap.objs.size=some {cls:=.type "list",dict:=none,data:=.seq its.toArray c',slots:=#[]}->EP X U Y Q (.ref s.heap.objs.size) {s with heap:=h' }:=λits r' hz h' c' kp e=>
  ⟨.ref s.heap.objs.size,_,I.laid (t':=s.toks) kp (yk _) (show tI X.prog X.w _ h' _ (.lst ys) from⟨hz,its,c',r',e⟩),rfl,q _ (I.hok.fresh (yk _))⟩
 rcases hq with hq|hq
 ·obtain⟨its,r',pl,hz⟩:=I.list hq;have hlen:=r'.length;obtain⟨o,ho,hc,n,hd⟩:=pl.isList;exact call_list_seq p (.inl rfl) ho hc hd (λh' c' kp e=>fin its r' hz h' c' kp e) (by simp only[size_toArray]<;>omega)
 ·obtain⟨its,r',pl,hz⟩:=I.tuple hq;have hlen:=r'.length;obtain⟨o,ho,hc,n,hd⟩:=pl;exact call_list_seq p (.inr rfl) ho hc hd (λh' c' kp e=>fin its r' hz h' c' kp e) (by simp only[size_toArray]<;>omega)
def zgh:zLl X (.type "tuple") (λxs H Q=>∃p ys,xs=[.ref p]/\((SqL X.K H p ys/\∀l,H l=none->Q (.ref l) (upd H l (.tup ys)))\/(SqT X.K H p ys/\Q (.ref p) H))):=by
 intro U s Y H xs us Q I r h;obtain⟨p,ys,rfl,h⟩:=h;obtain⟨u,rfl,rx⟩:=vals1 r;cases rx;rcases h with ⟨hq,q⟩|⟨hq,q⟩
 ·obtain⟨its,r',pl,hz⟩:=I.list hq;have hlen:=r'.length;refine call_tuple_list pl.isList (λh' kp=>?_) (by simp only[size_toArray]<;>omega);have I1:Inv X U Y H {s with heap:=h' }:=I.kept (t':=s.toks) kp
  have I2:Inv X U Y (upd H h'.objs.size (.tup ys)) {s with heap:=h'.push {cls:=.type "tuple",data:=.seq its.toArray }} :=
   I1.laid (t':=s.toks) (λb o e=>ye _ e) (yk _) (show tI X.prog X.w _ _ _ (.tup ys) from⟨hz,its,r',IsTup.new _ _⟩)
  exact⟨.ref h'.objs.size,_,I2,rfl,q _ (I1.hok.fresh (yk _))⟩
 ·obtain⟨its,r',pl,hz⟩:=I.tuple hq;exact call_tuple_same pl ⟨.ref p,H,I,rfl,q⟩
def tyV(K:yw)(T:String)(x:V)(H:Hp):Prop:=match x with
 |.str _=>T="str"
 |.int _=>T="int"
 |.ref p=>(T="list"/\∃xs,SqL K H p xs)\/(T="tuple"/\∃o,K.lookup p=some o/\o.cls=.type "tuple"/\o.dict=none) \/
  (T="dict"/\((∃kvs,H p=some (.dK kvs))\/∃kvs,H p=some (.dT kvs)))\/(T="set"/\∃S n,H p=some (.set S n))
 |_=>False
def zHC{U:List (yc×YS)}{Y:St}{H:Hp}{s:yd}{T:String}{x:V}{v:yb}(I:Inv X U Y H s)(r:RelV x v)(ty:tyV X.K T x H) :
 s.TypeIs v T/\∀a,v=.ref a->∃ob,s.heap.get? a=some ob/\ob.dict=none:=by
 cases x with
 |str z=>
  obtain⟨t,rfl⟩:=r;cases (show T="str" from ty);exact⟨typeIs_str s z t,λ_ e=>nomatch e⟩
 |int i=>
  obtain⟨t,rfl⟩:=r;cases (show T="int" from ty);exact⟨typeIs_int s i t,λ_ e=>nomatch e⟩
 |ref p=>
  cases r;rcases ty with ⟨rfl,xs,hq⟩|⟨rfl,o,hk,hc,hd⟩|⟨rfl,hk⟩|⟨rfl,S,n,hk⟩
  ·obtain⟨its,_,pl,_⟩:=I.list hq;refine⟨pl.isList.typeIs,λa e=>?_⟩;cases e;obtain⟨o,n,e,c,hd,_⟩:=pl;exact⟨o,e,hd⟩
  ·refine⟨⟨o,I.kIn p o hk,hc⟩,λa e=>?_⟩;cases e;exact⟨o,I.kIn _ o hk,hd⟩
  ·have z:∃o,s.heap.get? p=some o/\o.ExactDict:=by
    rcases hk with ⟨kvs,hk⟩|⟨kvs,hk⟩
    ·obtain⟨_,_,_,_,o,_,_,e,ex,_⟩:=I.hok p _ hk;exact⟨o,e,ex⟩
    ·obtain⟨_,_,_,_,o,_,_,e,ex,_⟩:=I.hok p _ hk;exact⟨o,e,ex⟩
   obtain⟨o,e,ex⟩:=z;refine⟨⟨o,e,ex.1⟩,λa e2=>?_⟩;cases e2;exact⟨o,e,ex.2.1⟩
  ·obtain⟨o,_,_,_,e,ex,_⟩:=I.hok p _ hk;refine⟨⟨o,e,ex.1⟩,λa e2=>?_⟩;cases e2;exact⟨o,e,ex.2.1⟩
 |_=>exact xq ty
def tBM(K:yw)(T:String)(r:V->List V->Hp->VK->Prop)(to:TE)(t:TA):TE:=λY H Q=>to Y H λx H1=>tyV K T x H1/\t Y H1 λxs H2=>r x xs H2 Q
variable {o e:yD}{es:List yD}{to:TE}{t:TA}{name:yn}{apos cpos:xo}{T id:String}{r:V->List V->Hp->VK->Prop}
def z0D(pa:PlainAttrs T)(slot:Slot T name id)(hty:typeOf (.builtin id)=pure (.type "method_descriptor"))(hm:MtR X id r)(ho:PE X o to)(ha:PA X (e::es) t)
 (hbase:YB o name X.env (Yb o X.env)=Yb o X.env:=by rfl)
 (hfew:((Yq cpos (yj (e::es) X.env)).all (λx=>!x.1)&&(xy cpos (YG [] X.env)).all (λx=>x.1.isSome)
  && decide ((e::es).length+([]:List xc).length+(if([]:List xc).isEmpty then 0 else 1)<30))=true:=by rfl)
 (hline:(apos.endLine==cpos.line)=true:=by rfl) (hs:yj (e::es) X.env=(false,Yb e X.env)::yj es X.env:=by rfl) (hplain:(Yq cpos (yj es X.env)).any (·.1)=false:=by rfl) :
 PE X (.Call (.Attribute o name apos) (e::es) [] cpos) (tBM X.K T r to t):=by
 intro U s Y H Q I h;refine wpAny_Call_method_late hbase hfew hline rfl (thn (ho U s Y H _ I h) λv s1 ⟨x,H1,I1,r1,ty,q1⟩=>?_);obtain⟨h1,h2⟩:=zHC I1 r1 ty;refine⟨T,id,pa,slot,hty,h1,h2,?_⟩;have hA:=ha cpos U s1 Y H1 _ I1 q1;rw[hs]at hA ⊢;refine Calls.callWith_builtin (by show(false||(Yq cpos (yj es X.env)).any (·.1))=false;rw[hplain]<;>rfl) (Calls.evalArgs_plain ?_);exact thn hA λus s2 ⟨vs,H2,I2,r2,q2⟩=>hm U s2 Y H2 x vs v us Q I2 r1 r2 q2
end
def MtM(X:Cx)(id:String)(r:V->List V->Hp->VK->Prop):Prop :=
 ∀(U:List (yc×YS)) (s:yd) (Y:St) (H:Hp) (x:V) (xs:List V) (v:yb) (us:List yb) (Q:VK),Inv X U Y H s->RelV x v->Vals xs us->r x xs H Q ->
  yq (yC X.prog X.w) X.A (call (.builtin id) (v::us)) (EP X U Y Q) X.xe s
def Vals.Sy{x:V}{xs:List V}{us:List yb}(h:Vals (x::xs) us):∃u ws,us=u::ws/\RelV x u/\Vals xs ws:=by
 cases h with
 |cons r t=>exact⟨_,_,rfl,r,t⟩
def Vals.unnil{us:List yb}(h:Vals [] us):us=[]:=by
 cases h;rfl
def Vals.one{x:V}{us:List yb}(h:Vals [x] us):∃u,us=[u]/\RelV x u:=by
 obtain⟨u,ws,e,r,t⟩:=h.Sy;exact⟨u,by rw[e,t.unnil],r⟩
def Vals.reverse{xs:List V}{us:List yb}(h:Vals xs us):Vals xs.reverse us.reverse:=by
 induction h with
 |nil=>exact .nil
 |cons r t ih=>rw[List.reverse_cons,List.reverse_cons];exact Vals.append ih (.cons r .nil)
def Vals.rep{xs:List V}{us:List yb}(h:Vals xs us):∀k:Nat,Vals (yy k xs).flatten (yy k us).flatten
 |0 =>.nil
 |k+1=>by
  rw[replicate_succ,replicate_succ,flatten_cons,flatten_cons];exact Vals.append h (Vals.rep h k)
def zrs(its:List yb):∀(k:Nat)(acc:List yb),
 List.foldl (λx1 x2=>x1++x2) acc.toArray (yy k its.toArray)=(acc++(yy k its).flatten).toArray
 |0,acc=>by simp
 |k+1,acc=>by
  have e:acc.toArray++its.toArray=(acc++its).toArray:=by simp
  have e2:(acc++its)++(yy k its).flatten=acc++(yy (k+1) its).flatten:=by
   rw[replicate_succ,flatten_cons,append_assoc]
  rw[<-e2,<-zrs its k (acc++its),<-e,replicate_succ,foldl_cons]
section
variable {X:Cx}{U:List (yc×YS)}{Y:St}{H:Hp}{s:yd}{l b:yc}{xs ys zs:List V}
def Inv.lset{its its':List yb}{n:Nat}{f:Array yb->Array yb}{t':Nat}(I:Inv X U Y H s)(hH:H l=some (.lst xs))
 (e:s.heap.get? l=some {cls:=.type "list",data:=.seq its.toArray n }) (hf:f its.toArray=its'.toArray) (hv:Vals ys its') (hz:ys.length<=yG) :
 Inv X U Y (upd H l (.lst ys)) {s with heap:=s.heap.update l (Xb f),toks:=t' }:=by
 have q:=PySem.IsL.update e f;rw[hf]at q;refine I.write (x:=l) (e:=l) (by rw[hH];exact trivial) (.inl rfl) (λb' u hb hu=>(xu s.heap (Xb f) (yM hb)).trans hu) ⟨_,q⟩ ?_;exact⟨hz,its',_,hv,q⟩
def Inv.lnew{its:List yb}{t':Nat}(I:Inv X U Y H s)(hv:Vals ys its)(hz:ys.length<=yG) :
 Inv X U Y (upd H s.heap.objs.size (.lst ys)) {s with heap:=s.heap.push {cls:=.type "list",data:=.seq its.toArray },toks:=t' } :=
 I.laid (λ_ _ q=>ye _ q) (yk _) ⟨hz,its,0,hv,ym _ rfl⟩
def Inv.fresh(I:Inv X U Y H s):H s.heap.objs.size=none:=I.hok.fresh (yk _)
def Inv.sP(I:Inv X U Y H s)(hH:H l=some (.lst xs)):xs.length<=yG/\∃(its:List yb)(n:Nat),Vals xs its/\xs.length=its.length/\s.heap.get? l=some {cls:=.type "list",data:=.seq its.toArray n }:=by
 obtain⟨z,its,n,r,e⟩:=I.hok l _ hH;exact⟨z,its,n,r,r.length,e⟩
def sw{n:Nat}(h:n<=yG):xj n=false:=by
 unfold xj;exact decide_eq_false (by omega)
def zaB:V->List V->Hp->VK->Prop:=λx vs H Q=>∃l xs y,x=.ref l/\vs=[y]/\H l=some (.lst xs)/\xs.length<yG/\Q .non (upd H l (.lst (xs++[y])))
def zYx:MtM X "list.append" zaB:=by
 intro U s Y H x vs v us Q I rx rv h;obtain⟨l,xs,y,rfl,rfl,hH,hz,q⟩:=h;cases rx;obtain⟨u,rfl,ru⟩:=rv.one;obtain⟨z,its,n,r,hl,e⟩:=I.sP hH;refine xz F.slot_list_append ⟨_,e,rfl⟩ F.entry_list_append (F.args_list_append_2 _ _) (PySem.list_append l its.toArray n u (by rw[size_toArray];omega)) ⟨e,?_⟩;refine⟨.non,_,I.lset (its':=its++[u]) hH e (by simp) (r.append (.cons ru .nil)) ?_,rfl,q⟩;rw[length_append,List.length_singleton];omega
def zlB:V->List V->Hp->VK->Prop:=λx vs H Q=>∃l b xs zs,x=.ref l/\vs=[.ref b]/\H l=some (.lst xs)/\H b=some (.lst zs)/\xs.length+zs.length<=yG/\Q .non (upd H l (.lst (xs++zs)))
def zEx:MtM X "list.extend" zlB:=by
 intro U s Y H x vs v us Q I rx rv h;obtain⟨l,b,xs,zs,rfl,rfl,hH,hB,hz,q⟩:=h;cases rx;obtain⟨u,rfl,ru⟩:=rv.one;cases ru;obtain⟨z,its,n,r,hl,e⟩:=I.sP hH;obtain⟨z2,its2,n2,r2,hl2,e2⟩:=I.sP hB;have hsz:its.toArray.size+its2.toArray.size<=yG:=by rw[size_toArray,size_toArray];omega
 have hlong:¬(!its.toArray.isEmpty&&xj (its.toArray.size+its2.toArray.size))=true:=by
  rw[sw hsz,Bool.and_false];exact yB
 refine xz F.slot_list_extend ⟨_,e,rfl⟩ F.entry_list_extend (F.args_list_extend_2 _ _)
  (AutoSeq1.list_extend_list_list_0 l its.toArray n b its2.toArray n2 hlong (by rw[size_toArray];omega) (by omega)) ⟨e,e2,?_⟩
 refine⟨.non,_,I.lset (its':=its++its2) hH e (by simp) (r.append r2) ?_,rfl,q⟩;rw[length_append];omega
def z1F:R2:=λx y H Q=>∃l b xs zs,x=.ref l/\y=.ref b/\H l=some (.lst xs)/\H b=some (.lst zs)/\xs.length+zs.length<=yG/\∀p,H p=none->Q (.ref p) (upd H p (.lst (xs++zs)))
def zqD:OpR X (xl .Add) z1F:=by
 intro U s Y H x y v u Q I rx ry h;obtain⟨l,b,xs,zs,rfl,rfl,hH,hB,hz,q⟩:=h;cases rx;cases ry;obtain⟨z,its,n,r,hl,e⟩:=I.sP hH;obtain⟨z2,its2,n2,r2,hl2,e2⟩:=I.sP hB;refine PySem.P.add_list e e2 ?_ (by rw[size_toArray,size_toArray];omega);have ea:its.toArray++its2.toArray=(its++its2).toArray:=by simp
 rw[ea];exact⟨.ref _,_,I.lnew (t':=s.toks) (r.append r2) (by rw[length_append];omega),rfl,q _ I.fresh⟩
def zVF:R2:=λx y H Q=>∃l k xs,x=.ref l/\y=.int k/\H l=some (.lst xs)/\-(2^63)<=k/\k<2^63/\xs.length*k.toNat<=yG /\
 ∀p,H p=none->Q (.ref p) (upd H p (.lst (yy k.toNat xs).flatten))
def ztw{α:Type}(xs:List α)(k:Nat):(yy k xs).flatten.length=k*xs.length:=by
 induction k with
 |zero=>simp
 |succ k ih=>rw[replicate_succ,flatten_cons,length_append,ih,Nat.succ_mul,Nat.add_comm]
def zbE:OpR X (xl .Mult) zVF:=by
 intro U s Y H x y v u Q I rx ry h;obtain⟨l,k,xs,rfl,rfl,hH,h1,h2,hz,q⟩:=h;cases rx;obtain⟨t,rfl⟩:=ry;obtain⟨z,its,n,r,hl,e⟩:=I.sP hH;have hlen:its.toArray.size*k.toNat<=yG:=by rw[size_toArray,<-hl];exact hz
 have hcap:¬its.toArray.size*k.toNat>(2^63-1) / 8:=by
  have:(yG:Nat)<=(2^63-1) / 8:=by decide
  omega
 have hfit:¬(!Builtin.List.listFitsIndex k)=true:=by
  rw[fitsIndex_both h1 h2];exact yB
 have hlong:¬xj (its.toArray.size*k.toNat)=true:=by
  rw[sw hlen];exact yB
 have hnew:List.foldl (λx1 x2=>x1++x2) #[] (yy (if its.toArray.isEmpty=true then 0 else k.toNat) its.toArray)=(yy k.toNat its).flatten.toArray:=by
  have f0:∀m:Nat,List.foldl (λx1 x2=>x1++x2) #[] (yy m its.toArray)=(yy m its).flatten.toArray:=λm=>by
   have:=zrs its m [];rw[List.nil_append]at this;exact this
  rw[f0]
  cases its with
  |nil=>simp
  |cons a r'=>rw[if_neg (by simp)]
 refine wpAny_binaryOp_repeat_ref (T:="list") (U:="int") (by decide) ⟨_,e,rfl⟩ (λs'=>typeIs_int s' k t) noFill_list_mul F.fills_int_mul F.slot_int_rmul repeat_list F.slot_int_index.lookup
  (xz F.slot_int_rmul (typeIs_int s k t) F.entry_int_rmul (F.args_int_rmul_2 _ _) (int___rmul___int_list k t l its.toArray n)
   ⟨e,rfl,⟨_,e,rfl⟩,xz F.slot_list_mul ⟨_,e,rfl⟩ F.entry_list_mul (F.args_list_mul_2 _ _) (AutoListH.list___mul___list_int_3 l its.toArray n k t hfit hcap hlong) ⟨e,?_⟩⟩)
 rw[hnew];exact⟨.ref _,_,I.lnew (t':=s.toks) (r.rep k.toNat) (by rw[ztw,Nat.mul_comm];exact hz),rfl,q _ I.fresh⟩
variable {prog:yu}{w:yI}{A:yJ}{E:yb->yd->Prop}
end
end L2
namespace Att
open PySem PySem.W PySem.Calls PyProof.Rows
def zVn{P:Params}{h:yS}:∀(ns:List Int)(vs:List yb),WellAll P h vs (ns.map WData.int)->IntsAre vs ns:=by
 intro ns
 induction ns with
 |nil=>
  intro vs w;rw[List.map_nil]at w;cases w;exact .nil
 |cons n ns ih=>
  intro vs w;rw[map_cons]at w
  cases w with
  |cons a b=>
   cases a;exact .cons _ _ (ih _ b)
def zpx{l:OpenLaw}{n:Nat}(hn:l.most=some n){P:Params}{h:yS}{args:List WData}{vals:List yb}
 (hpre:l.row.toRowW.claim.pre args=true) (hwl:WellAll P h vals args) :
 ∃a vs ns,vals=[Ye a]/\args=[WData.list (ns.map WData.int)]/\h.get? a=some {cls:=.type "list",data:=.seq vs.toArray }/\IntsAre vs ns/\ns.length<=n:=by
 have hsh:WShape.hasAll [] args [.list .int]=true:=(pre_splitW hpre).1;have hc:l.pre.holds [] {args:=args } = true:=(pre_splitW hpre).2;obtain⟨d,r,rfl,h1,h2⟩:=hasAllW_cons hsh;obtain rfl:=hasAllW_nil h2;obtain⟨xs,rfl,h3⟩:=hasW_list h1;obtain⟨ns,rfl⟩:=items_int h3
 have hlen:ns.length<=n:=by
  unfold OpenLaw.pre at hc
  have h4:(WTm.not (.lt (.lit (.int (n:Int))) (.len (.arg 0)))).holds [] {args:=[.list (ns.map .int)]} = true:=by
   have h4:=(holds_andW hc).1;rw[hn]at h4;exact h4
  have h5:=condW_of h4 (w_not (w_lt w_lit (w_len_list (w_arg rfl))));rw[length_map]at h5;refine Xw λq=>?_;have q':(n:Int)<((ns.length:Nat):Int):=by omega
  first
   |(rw[decide_eq_true q']at h5;exact absurd h5 (by decide))
   |(simp at h5;omega)
 cases hwl with
 |cons w1 w2=>
  cases w2
  cases w1 with
  |list ho hall=>exact⟨_,_,ns,rfl,rfl,ho,zVn ns _ hall,hlen⟩
def zhx(l:OpenLaw)(args:List WData):l.row.toRowW.claim.post args (.bool true) args=true :=
 postW_of (r:=l.row.toRowW) (X:=(true==true))
  (show WShape.has [] (.bool true) .bool=true by first|rfl|decide|simp[WShape.has,WShape.arms,WShape.armsAll])
  (show(WTm.eq .res (.lit (.bool true))).value [] {args:=args,res:=some (.bool true),after:=args } = some (.bool (true==true)) from w_eq_bool (w_res rfl) w_lit) rfl
def sY{l:OpenLaw}{n:Nat}{q:yu}{loose:List yn}{XP:(yn->Option yb)->yS->Prop}{YP:yI->yS->Prop}{d:DefRec}
 (hn:l.most=some n) (hdf:d.params.defaults=[])
 (call:∀(w:yI)(s₀ s₁:yd)(mg mb:yn->Option yb)(fa:yc)(o:YS)(pm cd doc:yb)(a:yc)(vs:List yb)(ns:List Int),
  Ground q loose [] XP w s₀ mg mb s₁.heap->YP w s₁.heap ->
  s₁.heap.get? fa=some o->o.data=.func (docDef d.name d.params d.body d.scope pm cd doc)->s₁.heap.CodeRec cd d.name->mg d.name=some (.ref fa) ->
  s₁.heap.get? a=some {cls:=.type "list",data:=.seq vs.toArray }->IntsAre vs ns->ns.length<=n->s₁.gens = #[] ->
  codeAny (yC l.prog w) callerA (.call (.ref fa) ⟨[.ref a],[]⟩) (λr s'=>r=.ok (.ret (.bool true))/\OldK s₁.heap s'.heap/\s'.os=s₁.os/\AllBare s'.gens) s₁) :
 WalkO q loose XP YP l.row.toRowW d [] (λf vs=>PySem.call f vs):=by
 intro w s₀ s₁ mg mb φ σ fa o pm cd doc dV kV ho hd hcd hD hmg hg args vals as hpre hlay hrd hwl hlo;obtain rfl:dV=.none:=Dflts.none hD hdf;obtain rfl:kV=.none:=Dflts.noKw hD;obtain⟨a,vs,ns,rfl,rfl,hobj,hints,hlen⟩:=zpx hn hpre hwl;refine enter_call (xN (call w s₀ s₁ mg mb fa o pm cd doc a vs ns φ σ ho (fd_plain hd) hcd hmg hobj hints hlen hg) λr s' hq=>?_);obtain⟨rfl,h2,h3,h4⟩:=hq;exact⟨.inl ⟨.bool true,.bool true,[],rfl,λ_=>rfl,.bool true,zhx l _,λ_=>⟨List.Pairwise.nil,λ_ hm=>(nomatch hm)⟩⟩,h2,h3,h4⟩
section
variable {prog:yu}{w:yI}{A:yJ}{E:yb->yd->Prop}{s:yd}{K:Frag}
end
end Att
namespace L2
open PySem PySem.Spec PyProof.Rows
def zss:∀{vs:List yb} {ns:List Int},IntsAre vs ns->Vals (ns.map V.int) vs
 |_,_,.nil =>.nil
 |_,_,.cons n t h =>.cons ⟨t,rfl⟩ (zss h)
def zqE(H:Hp):Prop:=∀b,H b=none\/∃o xs,H b=some (.frz o (.lst xs))
def zZy{P:yu}{w:yI}{K:yw}{mg mb:yn->Option yb}{CX:CXT}{k:Nat}{fa a:yc}{fd:yf}{x:yn}{sp:Sp}{s₁:yd}{vs:List yb}{ns:List Int}
 (KX:K.In s₁.heap) (hns:s₁.heap.Ns yi mg) (hb:s₁.heap.Ns builtinsNs mb) (hbb:∀x:yn,x≠"__name__"->mb x=yH x) (hlim:s₁.heap.NoLimit) (hg:s₁.gens = #[])
 (ha:s₁.heap.get? a=some {cls:=.type "list",data:=.seq vs.toArray }) (hi:IntsAre vs ns) (hl:ns.length<=yG) (hr:tW k callerA)
 (F:∀base:yS,K.In base->base.Ns yi mg->tm P w K mg base CX k fa fd [x] sp) (hbind:∀(s:yd)(u:yb),BindsTo s fd ⟨[u],[]⟩ [(x,u)])
 (hsp:∀H:Hp,zqE H->SqL K H a (ns.map V.int)->sp [.ref a] H (λv _=>v=.bl true) λ_ _ _=>False)
 (hCX:∀H e s',CX [] H s₁ (λ_ _ _=>False) e s'->False) :
 codeAny (yC P w) callerA (.call (.ref fa) ⟨[.ref a],[]⟩) (λr s'=>r=.ok (.ret (.bool true))/\OldK s₁.heap s'.heap/\s'.os=s₁.os/\AllBare s'.gens) s₁:=by
 have rv:=zss hi;have lenV:=hi.length
 have core:∀H:Hp,zqE H->SqL K H a (ns.map V.int)->HOk P w H s₁.heap->(∀b,H b≠none->b=a)->(H a≠none->K.lookup a=none) ->
  codeAny (yC P w) callerA (.call (.ref fa) ⟨[.ref a],[]⟩) (λr s'=>r=.ok (.ret (.bool true))/\OldK s₁.heap s'.heap/\s'.os=s₁.os/\AllBare s'.gens) s₁:=by
  intro H hO hS hok hA hK;have base_of:∀{b:yc} {o:YS},s₁.heap.get? b=some o->H b=none->(zuy s₁.heap H).get? b=some o:=λe n=>zQz e n
  have noA:∀{b:yc} {o:YS} {es:Array Xf} {ep:Nat},s₁.heap.get? b=some o->o.data=.dict es ep->H b=none:=λ{b o es ep} e d=>by
   cases q:H b with
   |none=>rfl
   |some u=>
    have e':b=a:=hA b (by rw[q];simp);subst e';rw[ha]at e;cases e;have d':Data.seq vs.toArray _=Data.dict es ep:=d;cases d'
  have nsK:∀{b:yc} {m:yn->Option yb},s₁.heap.Ns b m->(zuy s₁.heap H).Ns b m:=λ{b m} ⟨o,es,ep,e,d,r⟩=>⟨o,es,ep,base_of e (noA e d),d,r⟩
  have hKb:K.In (zuy s₁.heap H):=λb o e=>base_of (KX b o e) (by
   cases q:H b with
   |none=>rfl
   |some u=>
    have e':b=a:=hA b (by rw[q];simp);subst e';rw[hK (by rw[q];simp)]at e;cases e)
  have hM:Mod K mg (zuy s₁.heap H):=⟨hKb,nsK hns,⟨mb,nsK hb,hbb⟩,let ⟨mc,h1,h2⟩:=hlim;⟨mc,nsK h1,h2⟩⟩
  have e0:Sf P w K mg (zuy s₁.heap H) callerA [] s₁ H:=⟨rfl,hM,λb o e=>zIB e,Nat.le_of_eq (zZx _ _),trivial,λb hb=>absurd (show b∈([]:List yc) from hb) (by simp),hok,.of_eq hg⟩
  refine xN ((F _ hKb (nsK hns)).run callerA [] s₁ H ⟨[.ref a],[]⟩ [.ref a] [.ref a] _ _ hr e0 (hbind s₁ (.ref a)) (.cons rfl .nil) (hsp H hO hS)) λr s' h=>?_
  cases r with
  |error e=>exact(hCX H e s' h).elim
  |ok fl=>
   cases fl with
   |next=>exact xq h
   |brk=>exact xq h
   |cont=>exact xq h
   |ret u=>
    obtain⟨v,H',os,bare,un,hok',r',q⟩:=h;have q':v=.bl true:=q;subst q';obtain rfl:u=Value.bool true:=r';refine⟨rfl,OldK.of_keep λb o e=>?_,os,bare⟩
    cases q:H b with
    |none=>exact un.keep b o e q (by intro z;exact absurd (show b∈([]:List yc) from z) (by simp)) (by simp)
    |some u=>
     rcases hO b with z|⟨ob,xs,z⟩
     ·rw[q]at z;cases z
     ·have z2:=un.sC b ob _ z;obtain⟨e1,_⟩:=hok b _ z;obtain⟨e2,_⟩:=hok' b _ z2;rw[e]at e1;cases e1;exact e2
 cases hk:K.lookup a with
 |some o=>
  have e:=KX a o hk;rw[ha]at e;cases e;refine core (λ_=>none) (λ_ =>.inl rfl) (.inr ⟨_,vs.toArray,_,hk,rfl,rfl,rfl,by rw[size_toArray,lenV];exact hl,by simpa using rv⟩) (λb u z=>by have z':(none:Option HO)=some u:=z;cases z') (λb z=>absurd rfl z) λz=>absurd rfl z
 |none=>
  refine core (λb=>if b=a then some (.frz {cls:=.type "list",data:=.seq vs.toArray } (.lst (ns.map V.int))) else none) (λb=>?_) (.inl (.inr ⟨{cls:=.type "list",data:=.seq vs.toArray },if_pos rfl⟩)) (λb u z=>?_) (λb z=>?_) λ_=>hk
  ·by_cases hb:b=a
   ·exact .inr ⟨_,_,if_pos hb⟩
   ·exact .inl (if_neg hb)
  ·by_cases hb:b=a
   ·have z':=(if_pos hb).symm.trans z;cases z';subst hb;exact⟨ha,by rw[length_map];exact hl,vs,_,rv,ha⟩
   ·have z':=(if_neg hb).symm.trans z;cases z'
  ·by_cases hb:b=a
   ·exact hb
   ·exact absurd (if_neg hb) z
def walk_of{l:W.OpenLaw}{n k:Nat}{q:yu}{loose:List yn}{XP:(yn->Option yb)->yS->Prop}{YP:yI->yS->Prop}{d:DefRec}{K:Params->yw}{CX:yI->CXT}{sp:yI->Sp}{x:yn}
 (hn:l.most=some n) (hn2:n<=yG) (hdf:d.params.defaults=[]) (hr:tW k callerA)
 (hY:∀(w:yI)(h:yS),YP w h->(K w.params).In h)
 (F:∀(w:yI)(mg:yn->Option yb)(fa:yc)(h:yS),(K w.params).In h->h.Ns yi mg->mg d.name=some (.ref fa) ->
  ∃fd:yf,(∀(s:yd)(u:yb),BindsTo s fd ⟨[u],[]⟩ [(x,u)]) /\
   ∀base:yS,(K w.params).In base->base.Ns yi mg->tm l.prog w (K w.params) mg base (CX w) k fa fd [x] (sp w))
 (hsp:∀(w:yI)(H:Hp)(a:yc)(ns:List Int),ns.length<=n->zqE H->SqL (K w.params) H a (ns.map V.int)->sp w [.ref a] H (λv _=>v=.bl true) λ_ _ _=>False)
 (hCX:∀(w:yI)(H:Hp)(s:yd)(e:yb)(s':yd),CX w [] H s (λ_ _ _=>False) e s'->False) :
 W.WalkO q loose XP YP l.row.toRowW d [] (λf vs=>PySem.call f vs):=by
 refine Att.sY hn hdf λw s₀ s₁ mg mb fa o pm cd doc a vs ns φ σ ho hd hcd hmg hobj hints hlen hg=>?_;have KX:=hY w _ σ;obtain⟨fd,hb,hF⟩:=F w mg fa _ KX φ.T.g hmg;exact zZy KX φ.T.g φ.T.b φ.T.builtins φ.T.nolimit hg hobj hints (yF hlen hn2) hr hF hb (λH hO hS=>hsp w H a ns hlen hO hS) λH e s'=>hCX w H s₁ e s'
def ziq(s:yR)(j:Nat):yR:=match s with
 |.ClassDef _ _ _ body _ _ _ _ _ _ _=>body.getD j (.Pass ⟨0,0,0,0⟩)
 |_ =>.Pass ⟨0,0,0,0⟩
def zQe(s:yR):Arguments:=match s with
 |.FunctionDef _ a _ _ _ _ _ _ _ _=>a
 |_=>{posonlyargs:=[],args:=[],vararg:=none,kwonlyargs:=[],kw_defaults:=[],kwarg:=none,defaults:=[]}
def zQd(s:yR):List yR:=match s with
 |.FunctionDef _ _ b _ _ _ _ _ _ _=>b
 |_=>[]
def zu(s:yR):Xl:=match s with
 |.FunctionDef _ _ _ _ _ _ sc _ _ _=>sc
 |_=>{kind:=.function,names:=[],isGenerator:=false,isCoroutine:=false }
abbrev CX0:CXT:=λ_ _ _ _ _ _=>False
abbrev E0:XK:=λ_ _ _=>False
def sZ{X:Cx}:zmk CX0 X E0:=λ_ _ _ _ _ _ _ h=>h.elim
structure Fun(K:yw)(x qual:yn)(st:yR)(f:yc)(fd:yf):Prop where
 ex:∃(oc:yb)(od:Option yc)(kV doc pm:yb)(an:Option yc)(cdv ct:yb)(osl:Array (Option yb)),
  fd=W.fnOf x qual (zQe st) (zQd st) (zu st) .none kV doc pm an cdv ct/\K.lookup f=some ⟨oc,od,.func fd,osl⟩/\W.codeIn K cdv qual=true
 kp:W.keepIn K (.ref f)=true
section
variable {P:yu}{w:yI}{K:yw}{mg:yn->Option yb}{base:yS}
def Fun.ok{x qual:yn}{st:yR}{f:yc}{fd:yf}{N ps:List yn}{k:Nat}{sp:Sp}(F:Fun K x qual st f fd)(S:tq N ps (zu st))(len:∀vs H Q E,sp vs H Q E->vs.length=ps.length)
 (hbody:∀(cdv:yb)(A:yJ)(outer:List Env)(s:yd)(H:Hp)(vs:List V)(Q:VK)(E:XK),tW k (A.deeper (envOfC qual (zu st) s.heap.objs.size f cdv))->sp vs H Q E ->
  ∃t,PSs (zYB CX0 P w K mg base N qual (zu st) f cdv A outer s H E).nox (zQd st) t/\t {nx:=λ_ H'=>Q .non H',rt:=Q } (start N vs) H):tm P w K mg base CX0 (k+1) f fd ps sp:=by
 obtain⟨oc,od,kV,doc,pm,an,cdv,ct,osl,rfl,lk,hcd⟩:=F.ex;refine zSE lk hcd S len λA outer s H vs Q E hr hsp=>?_;obtain⟨t,h,q⟩:=hbody cdv A outer s H vs Q E hr hsp;exact⟨t,h.nox,q⟩
def Fun.binds{x qual:yn}{st:yR}{f:yc}{fd:yf}{ps:List yn}(F:Fun K x qual st f fd)
 (h:∀(kV doc pm:yb)(an:Option yc)(cdv ct:yb)(us:List yb),us.length=ps.length->bindArgs (W.fnOf x qual (zQe st) (zQd st) (zu st) .none kV doc pm an cdv ct) ⟨us,[]⟩=pure (ps.zip us)):Binds K fd ps []:=by
 obtain⟨oc,od,kV,doc,pm,an,cdv,ct,osl,rfl,lk,hcd⟩:=F.ex;exact .all (h kV doc pm an cdv ct)
def zlp{x qual:yn}{st:yR}{f:yc}{oc:yb}{od an:Option yc}{osl:Array (Option yb)}{kV doc pm cdv ct:yb}(l:K.lookup f=some ⟨oc,od,.func (W.fnOf x qual (zQe st) (zQd st) (zu st) .none kV doc pm an cdv ct),osl⟩)
 (c:W.codeIn K cdv qual=true) (k:W.keepIn K (.ref f)=true):Fun K x qual st f (W.fnOf x qual (zQe st) (zQd st) (zu st) .none kV doc pm an cdv ct):=⟨⟨oc,od,kV,doc,pm,an,cdv,ct,osl,rfl,l,c⟩,k⟩
end
def sG{n:Nat}(h:n<=1000):n<yG:=Nat.lt_of_le_of_lt h (by decide)
section
variable {X:Cx}
def pv(i:Nat){x:yn}{pos:xo}(hN:X.N[i]?=some x:=by rfl)(hv:Vis X.env.scope x:=by first|exact Or.inl rfl|exact Or.inr (Or.inl rfl)|exact Or.inr (Or.inr rfl))(hd:(x==("__debug__":yn))=false:=by decide)
 (hcd:(x==("__classdict__":yn))=false:=by decide):PE X (.Name x pos) (zgE i):=z8z hN hv hd hcd
end
def Sg{A B:Prop}(h:B):if false=true then A else B:=by
 rw[if_neg yB];exact h
def Sh{A B:Prop}(h:A):if true=true then A else B:=by
 rw[if_pos rfl];exact h
def Trc(B h:yS)(e:yc)(x:yb):Prop:=x=.none\/∃T oT ts y,x=.ref T/\B.get? T=none/\T≠e/\h.get? T=some oT/\oT.data=.fields ts/\ts[3]?=some y
structure Fly(B:yS)(l:List Env)(e:yc)(cls:yb)(dx:Option yc)(h:yS):Prop where
 st:B.StaysIn h
 new:B.get? e=none
 ff:h.FunFrames B l
 ob:∃oe vs x,h.get? e=some oe/\oe.cls=cls/\oe.dict=dx/\oe.data=.fields vs/\vs[1]?=some x/\Trc B h e x
section
variable {M:Model}{A:yJ}{E:yb->yd->Prop}{s:yd}{B:yS}{l outer:List Env}{env:Env}{e L:yc}{cls:yb}{dx:Option yc}{Q:Unit->yd->Prop}
end
structure Cov(outer:List Env)(H':Hp)(h B:yS):Prop where
 tr:∀b o,H' b=some o->∃u,B.get? b=some u
 old:∀b o,h.get? b=some o->b∉frs outer->∃u,B.get? b=some u
structure FlyX(P:yu)(w:yI)(outer:List Env)(H:Hp)(s:yd)(C:yb)(dx:Option yc)(H':Hp)(e:yb)(s':yd):Prop where
 os:s'.os=s.os
 bare:AllBare s'.gens
 un:Un (frs outer) [] H H' s.heap s'.heap
 hok:HOk P w H' s'.heap
 fly:∃a B,e=.ref a/\Fly B outer a C dx s'.heap/\Cov outer H' s.heap B
section
variable {P:yu}{w:yI}{outer:List Env}{H H':Hp}{h0 h h' B base:yS}
variable {X:Cx}{U:List (yc×YS)}{Y:St}{s s':yd}{C:yb}{a:yc}{dx:Option yc}
end
def zYv(X:Cx)(C:yb)(dx:Option yc)(H':Hp):Prop:=∀U Y H s e s',Inv X U Y H s->FlyX X.prog X.w X.stack H s C dx H' e s'->X.xe e s'
section
variable {P:yu}{w:yI}{K:yw}{mg:yn->Option yb}{base:yS}{N:List yn}{qual:yn}{scope:Xl}{f:yc}{cd:yb}{A:yJ}{outer:List Env}{s:yd}{H H':Hp}{E:XK}{C:yb}{dx:Option yc}
end
end L2
namespace M
open PySem PySem.Spec PyProof.Rows L2
inductive D where
 |non|bl (b:Bool)|int (i:Int)|str (x:yn)|ty (n:String)
  |tup (ds:List D)
  |fz (ds:List D)
  |loc (n:Nat)
  |own (c:yn)
inductive tD where
 |lst (ds:List D)
  |dct (kvs:List (Int×D))
  |dcf (kvs:List (Int×D))
  |exc (c:yn) (fs:List (yn×D))
  |ins (c:yn) (fs:List (yn×D))
abbrev Mem:=List tD
def z2E(a C:yc)(dx:Option yc):yS->Prop:=λh=>∃o vs,h.get? a=some o/\o.cls=.ref C/\o.dict=dx/\o.data=.fields vs
abbrev Loc:=List (Option D)
section
variable (K:yw)
def FzL(H:Hp)(a:yc)(vs:List V):Prop :=
 (∃o,H a=some (.frz o (.lst vs)))\/∃(o:YS)(its:Array yb)(n:Nat),K.lookup a=some o/\o.cls=.type "list"/\o.dict=none/\o.data=.seq its n/\its.size<=yG/\Vals vs its.toList
mutual
def tx(Z:List yc)(H:Hp):D->V->Prop
 |.non,v=>v=.non
 |.bl b,v=>v=.bl b
 |.int i,v=>v=.int i
 |.str x,v=>v=.str x
 |.ty n,v=>v=.ty n
 |.tup ds,v=>∃a vs,v=.ref a/\H a=some (.tup vs)/\tj Z H ds vs
 |.fz ds,v=>∃a vs,v=.ref a/\FzL K H a vs/\tj Z H ds vs
 |.loc n,v=>∃a,v=.ref a/\Z[n]?=some a
 |.own c,v=>∃a,v=.ref a/\Yj K yi c=some (some (.ref a))
def tj(Z:List yc)(H:Hp):List D->List V->Prop
 |[],vs=>vs=[]
 |d::ds,vs=>∃v r,vs=v::r/\tx Z H d v/\tj Z H ds r
end
def Sz(Z:List yc)(H:Hp)(fs:List (yn×D))(dx:Option yc):Prop:=(fs=[]/\dx=none)\/∃p vs,dx=some p/\H p=some (.xd vs)/\vs.map (·.1)=fs.map (·.1)/\tj K Z H (fs.map (·.2)) (vs.map (·.2))
def Sa(Z:List yc)(H:Hp)(a:yc):tD->Prop
 |.lst ds=>∃vs,H a=some (.lst vs)/\tj K Z H ds vs
 |.dct kvs=>∃vs,H a=some (.dK vs)/\vs.map (·.1)=kvs.map (λp=>yU p.1)/\tj K Z H (kvs.map (·.2)) (vs.map (·.2))
 |.dcf kvs=>∃o vs,H a=some (.frz o (.dK vs))/\vs.map (·.1)=kvs.map (λp=>yU p.1)/\tj K Z H (kvs.map (·.2)) (vs.map (·.2))
 |.exc c fs=>∃C dx,Yj K yi c=some (some (.ref C))/\H a=some (.ext (z2E a C dx))/\Sz K Z H fs dx
 |.ins c fs=>∃C dx vs,Yj K yi c=some (some (.ref C))/\H a=some (.ins C dx vs)/\vs.map (·.1)=fs.map (·.1)/\tj K Z H (fs.map (·.2)) (vs.map (·.2))
structure tG(Z:List yc)(H:Hp)(O:Mem):Prop where
 nd:Z.Nodup
 len:Z.length=O.length
 at_:∀(n:Nat) a o,Z[n]?=some a->O[n]?=some o->Sa K Z H a o
structure Ext(Z:List yc)(H:Hp)(Z':List yc)(H':Hp):Prop where
 pre:∃more,Z'=Z++more
 tup:∀a vs,H a=some (.tup vs)->H' a=some (.tup vs)
 frz:∀a o u,H a=some (.frz o u)->H' a=some (.frz o u)
 xd:∀a fs,H a=some (.xd fs)->H' a=some (.xd fs)
def Sn(Z:List yc)(H:Hp)(Y:L2.St)(J:Loc):Prop:=∀(i:Nat) d,J[i]?=some (some d)->∃v,Y[i]?=some (some v)/\tx K Z H d v
end
section
variable {K:yw}{Z Z' Z'':List yc}{H H' H'':Hp}{O:Mem}{Y:L2.St}{J:Loc}
def Ext.refl:Ext Z H Z H:=⟨⟨[],by simp⟩,λ_ _ h=>h,λ_ _ _ h=>h,λ_ _ h=>h⟩
def Ext.trans(a:Ext Z H Z' H')(b:Ext Z' H' Z'' H''):Ext Z H Z'' H'':=by
 obtain⟨m,e⟩:=a.pre;obtain⟨m',e'⟩:=b.pre;exact⟨⟨m++m',by rw[e',e,append_assoc]⟩,λ_ _ h=>b.tup _ _ (a.tup _ _ h),λ_ _ _ h=>b.frz _ _ _ (a.frz _ _ _ h),λ_ _ h=>b.xd _ _ (a.xd _ _ h)⟩
def Ext.get(e:Ext Z H Z' H'){n:Nat}{a:yc}(h:Z[n]?=some a):Z'[n]?=some a:=by
 obtain⟨m,e⟩:=e.pre;rw[e,yv (List.getElem?_eq_some_iff.mp h).1];exact h
def Ext.fz(e:Ext Z H Z' H'){a:yc}{vs:List V}(h:FzL K H a vs):FzL K H' a vs:=by
 rcases h with ⟨o,h⟩|h
 ·exact .inl ⟨o,e.frz _ _ _ h⟩
 ·exact .inr h
mutual
def tx.ext(e:Ext Z H Z' H'):∀{d:D} {v:V},tx K Z H d v->tx K Z' H' d v
 |.non,_,h=>by unfold tx at h ⊢;exact h
 |.bl _,_,h=>by unfold tx at h ⊢;exact h
 |.int _,_,h=>by unfold tx at h ⊢;exact h
 |.str _,_,h=>by unfold tx at h ⊢;exact h
 |.ty _,_,h=>by unfold tx at h ⊢;exact h
 |.tup ds,_,h=>by
  unfold tx at h ⊢;obtain⟨a,vs,e1,e2,r⟩:=h;exact⟨a,vs,e1,e.tup _ _ e2,tj.ext e r⟩
 |.fz ds,_,h=>by
  unfold tx at h ⊢;obtain⟨a,vs,e1,e2,r⟩:=h;exact⟨a,vs,e1,e.fz e2,tj.ext e r⟩
 |.loc n,_,h=>by
  unfold tx at h ⊢;obtain⟨a,e1,e2⟩:=h;exact⟨a,e1,e.get e2⟩
 |.own c,_,h=>by unfold tx at h ⊢;exact h
def tj.ext(e:Ext Z H Z' H'):∀{ds:List D} {vs:List V},tj K Z H ds vs->tj K Z' H' ds vs
 |[],_,h=>by unfold tj at h ⊢;exact h
 |d::ds,_,h=>by
  unfold tj at h ⊢;obtain⟨v,r,e1,h1,h2⟩:=h;exact⟨v,r,e1,tx.ext e h1,tj.ext e h2⟩
end
def Sn.ext(e:Ext Z H Z' H')(h:Sn K Z H Y J):Sn K Z' H' Y J:=λi d q=>
 let ⟨v,e1,r⟩:=h i d q
 ⟨v,e1,r.ext e⟩
def tj.length:∀{ds:List D} {vs:List V},tj K Z H ds vs->ds.length=vs.length
 |[],_,h=>by unfold tj at h;subst h;rfl
 |d::ds,_,h=>by
  unfold tj at h;obtain⟨v,r,e1,_,h2⟩:=h;subst e1;have:=tj.length h2;simp[this]
def tj.get:∀{ds:List D} {vs:List V} {i:Nat} {d:D},tj K Z H ds vs->ds[i]?=some d->∃v,vs[i]?=some v/\tx K Z H d v
 |[],_,_,_,_,q=>by simp at q
 |d::ds,_,0,d',h,q=>by
  unfold tj at h;obtain⟨v,r,e1,h1,_⟩:=h;subst e1;simp at q;subst q;exact⟨v,by simp,h1⟩
 |d::ds,_,i+1,d',h,q=>by
  unfold tj at h;obtain⟨v,r,e1,_,h2⟩:=h;subst e1;obtain⟨w,e2,h3⟩:=tj.get (i:=i) h2 (by simpa using q);exact⟨w,by simpa using e2,h3⟩
def tj.cons{d:D}{v:V}{ds:List D}{vs:List V}(h1:tx K Z H d v)(h2:tj K Z H ds vs):tj K Z H (d::ds) (v::vs):=by
 unfold tj;exact⟨v,vs,rfl,h1,h2⟩
def tj.nil:tj K Z H [] []:=by unfold tj;rfl
def tj.cons_inv{d:D}{ds:List D}{vs:List V}(h:tj K Z H (d::ds) vs):∃v r,vs=v::r/\tx K Z H d v/\tj K Z H ds r:=by
 unfold tj at h;exact h
def tj.nil_inv{vs:List V}(h:tj K Z H [] vs):vs=[]:=by unfold tj at h;exact h
def tj.append:∀{ds es:List D} {vs us:List V},tj K Z H ds vs->tj K Z H es us->tj K Z H (ds++es) (vs++us)
 |[],_,_,_,h,q=>by rw[h.nil_inv];exact q
 |d::ds,_,_,_,h,q=>by
  obtain⟨v,r,rfl,h1,h2⟩:=h.cons_inv;exact .cons h1 (tj.append h2 q)
def tj.take:∀{ds:List D} {vs:List V} (n:Nat),tj K Z H ds vs->tj K Z H (ds.take n) (vs.take n)
 |[],_,n,h=>by rw[h.nil_inv];simp[tj.nil]
 |d::ds,_,0,h=>by simp[tj.nil]
 |d::ds,_,n+1,h=>by
  obtain⟨v,r,rfl,h1,h2⟩:=h.cons_inv;simpa using tj.cons h1 (tj.take n h2)
def tj.drop:∀{ds:List D} {vs:List V} (n:Nat),tj K Z H ds vs->tj K Z H (ds.drop n) (vs.drop n)
 |[],_,n,h=>by rw[h.nil_inv];simp[tj.nil]
 |d::ds,_,0,h=>by simpa using h
 |d::ds,_,n+1,h=>by
  obtain⟨v,r,rfl,h1,h2⟩:=h.cons_inv;simpa using tj.drop n h2
def tj.set:∀{ds:List D} {vs:List V} {d:D} {v:V} (n:Nat),tx K Z H d v->tj K Z H ds vs->tj K Z H (ds.set n d) (vs.set n v)
 |[],_,_,_,n,_,h=>by rw[h.nil_inv];simp[tj.nil]
 |d::ds,_,_,_,0,q,h=>by
  obtain⟨v,r,rfl,h1,h2⟩:=h.cons_inv;simpa using tj.cons q h2
 |d::ds,_,_,_,n+1,q,h=>by
  obtain⟨v,r,rfl,h1,h2⟩:=h.cons_inv;simpa using tj.cons h1 (tj.set n q h2)
def tx.int_inv{i:Int}{v:V}(h:tx K Z H (.int i) v):v=.int i:=by unfold tx at h;exact h
def tx.tK{i:Bool}{v:V}(h:tx K Z H (.bl i) v):v=.bl i:=by unfold tx at h;exact h
def tx.tF{v:V}(h:tx K Z H .non v):v=.non:=by unfold tx at h;exact h
def tx.str_inv{x:yn}{v:V}(h:tx K Z H (.str x) v):v=.str x:=by unfold tx at h;exact h
def tx.ty_inv{x:String}{v:V}(h:tx K Z H (.ty x) v):v=.ty x:=by unfold tx at h;exact h
def tx.tN{ds:List D}{v:V}(h:tx K Z H (.tup ds) v):∃a vs,v=.ref a/\H a=some (.tup vs)/\tj K Z H ds vs:=by unfold tx at h;exact h
def tx.TZ{ds:List D}{v:V}(h:tx K Z H (.fz ds) v):∃a vs,v=.ref a/\FzL K H a vs/\tj K Z H ds vs:=by unfold tx at h;exact h
def tx.tz{n:Nat}{v:V}(h:tx K Z H (.loc n) v):∃a,v=.ref a/\Z[n]?=some a:=by unfold tx at h;exact h
def tx.So{c:yn}{v:V}(h:tx K Z H (.own c) v):∃a,v=.ref a/\Yj K yi c=some (some (.ref a)):=by unfold tx at h;exact h
def tx.own{c:yn}{a:yc}(h:Yj K yi c=some (some (.ref a))):tx K Z H (.own c) (.ref a):=by unfold tx;exact⟨a,rfl,h⟩
def tx.int{i:Int}:tx K Z H (.int i) (.int i):=by unfold tx;rfl
def tx.bl{i:Bool}:tx K Z H (.bl i) (.bl i):=by unfold tx;rfl
def tx.non:tx K Z H .non .non:=by unfold tx;rfl
def tx.str{x:yn}:tx K Z H (.str x) (.str x):=by unfold tx;rfl
def tx.ty{x:String}:tx K Z H (.ty x) (.ty x):=by unfold tx;rfl
def tx.tup{ds:List D}{a:yc}{vs:List V}(e:H a=some (.tup vs))(h:tj K Z H ds vs):tx K Z H (.tup ds) (.ref a):=by unfold tx;exact⟨a,vs,rfl,e,h⟩
def tx.fz{ds:List D}{a:yc}{vs:List V}(e:FzL K H a vs)(h:tj K Z H ds vs):tx K Z H (.fz ds) (.ref a):=by unfold tx;exact⟨a,vs,rfl,e,h⟩
def tx.loc{n:Nat}{a:yc}(e:Z[n]?=some a):tx K Z H (.loc n) (.ref a):=by unfold tx;exact⟨a,rfl,e⟩
def FzL.sq{a:yc}{vs:List V}(h:FzL K H a vs):SqL K H a vs:=by
 rcases h with h|h
 ·exact .inl (.inr h)
 ·exact .inr h
def Sa.some{a:yc}{o:tD}(h:Sa K Z H a o):∃u,H a=some u:=by
 cases o with
 |lst ds=>obtain⟨vs,e,_⟩:=h;exact⟨_,e⟩
 |dct kvs=>obtain⟨vs,e,_⟩:=h;exact⟨_,e⟩
 |dcf kvs=>obtain⟨o,vs,e,_⟩:=h;exact⟨_,e⟩
 |exc c fs=>obtain⟨C,dx,_,e,_⟩:=h;exact⟨_,e⟩
 |ins c fs=>obtain⟨C,dx,vs,_,e,_⟩:=h;exact⟨_,e⟩
def tG.mem_some(R:tG K Z H O){a:yc}(h:a∈Z):∃u,H a=some u:=by
 obtain⟨n,h1,e⟩:=List.mem_iff_getElem.mp h;have h2:n<O.length:=by rw[<-R.len];exact h1
 exact(R.at_ n a O[n] (by rw[yA h1,e]) (by simp[h2])).some
def Sz.ext{fs:List (yn×D)}{dx:Option yc}(e:Ext Z H Z' H')(h:Sz K Z H fs dx):Sz K Z' H' fs dx:=by
 rcases h with h|⟨p,vs,e1,e2,e3,r⟩
 ·exact .inl h
 ·exact .inr ⟨p,vs,e1,e.xd _ _ e2,e3,r.ext e⟩
def Sa.ext{a:yc}{o:tD}(e:Ext Z H Z' H')(h:Sa K Z H a o)(s:H' a=H a):Sa K Z' H' a o:=by
 cases o with
 |lst ds=>obtain⟨vs,q,r⟩:=h;exact⟨vs,s.trans q,r.ext e⟩
 |dct kvs=>obtain⟨vs,q,q2,r⟩:=h;exact⟨vs,s.trans q,q2,r.ext e⟩
 |dcf kvs=>obtain⟨o,vs,q,q2,r⟩:=h;exact⟨o,vs,s.trans q,q2,r.ext e⟩
 |exc c fs=>obtain⟨C,dx,n,q,r⟩:=h;exact⟨C,dx,n,s.trans q,r.ext e⟩
 |ins c fs=>obtain⟨C,dx,vs,n,q,q2,r⟩:=h;exact⟨C,dx,vs,n,s.trans q,q2,r.ext e⟩
def Ext.new{p:yc}{o:HO}(hp:H p=none):Ext Z H Z (upd H p o) :=
 ⟨⟨[],by simp⟩,λa vs e=>by rw[zab (zY e hp)];exact e,λa o u e=>by rw[zab (zY e hp)];exact e,λa fs e=>by rw[zab (zY e hp)];exact e⟩
def tG.other(R:tG K Z H O)(e:Ext Z H Z H')(s:∀a∈Z,H' a=H a):tG K Z H' O :=
 ⟨R.nd,R.len,λn a o h1 h2=>(R.at_ n a o h1 h2).ext e (s a (mem_of_getElem? h1))⟩
def tG.Tj(R:tG K Z H O){p:yc}{o:HO}(hp:H p=none):tG K Z (upd H p o) O :=
 R.other (Ext.new hp) λa ha=>by
  obtain⟨u,e⟩:=R.mem_some ha;exact zab (zY e hp)
def Ext.push{p:yc}{o:HO}(hp:H p=none):Ext Z H (Z++[p]) (upd H p o) :=
 ⟨⟨[p],rfl⟩,(Ext.new (Z:=Z) hp).tup,(Ext.new (Z:=Z) hp).frz,(Ext.new (Z:=Z) hp).xd⟩
def tG.push(R:tG K Z H O){p:yc}{o:HO}{lo:tD}(hp:H p=none)(h:Sa K (Z++[p]) (upd H p o) p lo):tG K (Z++[p]) (upd H p o) (O++[lo]):=by
 refine⟨?_,by simp[R.len],λn a u h1 h2=>?_⟩
 ·rw[nodup_append];refine⟨R.nd,by simp,λa ha b hb=>?_⟩;simp at hb;subst hb;obtain⟨u,e⟩:=R.mem_some ha;exact zY e hp
 ·by_cases hn:n<Z.length
  ·rw[yv hn]at h1;rw[yv (by rw[<-R.len];exact hn)]at h2;have q:=R.at_ n a u h1 h2;obtain⟨z,e⟩:=q.some;exact q.ext (Ext.push hp) (zab (zY e hp))
  ·have hl:n<(Z++[p]).length:=(List.getElem?_eq_some_iff.mp h1).1;have e:n=Z.length:=by simp at hl;omega
   subst e;rw[Yd (yk _)]at h1;rw[R.len,Yd (yk _)]at h2;simp at h1 h2;subst h1 h2;exact h
def zGc{p:yc}(R:tG K Z H O):(Z++[p])[O.length]?=some p:=by
 rw[<-R.len];simp
def Ext.wr{p:yc}{o:HO}(hm:Mut (H p)):Ext Z H Z (upd H p o) :=
 ⟨⟨[],by simp⟩,λa vs e=>by rw[zab (by rintro rfl;rw[e]at hm;exact hm)];exact e,λa o u e=>by rw[zab (by rintro rfl;rw[e]at hm;exact hm)];exact e,λa fs e=>by rw[zab (by rintro rfl;rw[e]at hm;exact hm)];exact e⟩
def tG.wr(R:tG K Z H O){n:Nat}{p:yc}{o:HO}{lo:tD}(hm:Mut (H p))(hn:Z[n]?=some p)(h:Sa K Z (upd H p o) p lo):tG K Z (upd H p o) (O.set n lo):=by
 have hlt:=(List.getElem?_eq_some_iff.mp hn).1;refine⟨R.nd,by simp[R.len],λm a u h1 h2=>?_⟩
 by_cases hmn:m=n
 ·subst hmn;rw[hn]at h1;cases h1;rw[yZ (by rw[<-R.len];exact hlt)]at h2;cases h2;exact h
 ·rw[Yc (yM hmn)]at h2
  have hap:a≠p:=by
   rintro rfl;obtain⟨x1,y1⟩:=List.getElem?_eq_some_iff.mp h1;obtain⟨x2,y2⟩:=List.getElem?_eq_some_iff.mp hn;exact hmn ((List.getElem_inj R.nd).mp (y1.trans y2.symm))
  exact(R.at_ m a u h1 h2).ext (Ext.wr hm) (zab hap)
end
abbrev FE:=Loc->Mem->Option (D×Mem)
abbrev FT:=Loc->Mem->Option (Bool×Mem)
abbrev FA:=Loc->Mem->Option (List D×Mem)
inductive Out where
 |next (J:Loc) (O:Mem)|ret (d:D) (O:Mem)|brk (J:Loc) (O:Mem)|cont (J:Loc) (O:Mem)
  |exc (c:yn) (fs:List (yn×D)) (O:Mem)
abbrev FS:=Loc->Mem->Option Out
section
variable (K:yw)
structure At(Z:List yc)(H:Hp)(Y:L2.St)(J:Loc)(O:Mem):Prop where
 st:Sn K Z H Y J
 hp:tG K Z H O
 len:Y.length=J.length
def tM(G:FE):TE:=λY H Q=>∃Z J O d O',At K Z H Y J O/\G J O=some (d,O')/\∀Z' H' v,Ext Z H Z' H'->tG K Z' H' O'->tx K Z' H' d v->Q v H'
def tMT(G:FT):TT:=λY H Q=>∃Z J O b O',At K Z H Y J O/\G J O=some (b,O')/\∀Z' H',Ext Z H Z' H'->tG K Z' H' O'->Q b H'
def tMA(G:FA):TA:=λY H Q=>∃Z J O ds O',At K Z H Y J O/\G J O=some (ds,O')/\∀Z' H' vs,Ext Z H Z' H'->tG K Z' H' O'->tj K Z' H' ds vs->Q vs H'
def sH(W:XK)(Z:List yc)(H:Hp)(E:Ends):Out->Prop
 |.next J' O'=>∀Z' Y' H',Ext Z H Z' H'->At K Z' H' Y' J' O'->E.nx Y' H'
 |.brk J' O'=>∀Z' Y' H',Ext Z H Z' H'->At K Z' H' Y' J' O'->E.bk Y' H'
 |.cont J' O'=>∀Z' Y' H',Ext Z H Z' H'->At K Z' H' Y' J' O'->E.ct Y' H'
 |.ret d O'=>∀Z' v H',Ext Z H Z' H'->tG K Z' H' O'->tx K Z' H' d v->E.rt v H'
 |.exc c fs O'=>∀Z' H' C dx,PySem.W.nsIn K yi c=some (some (.ref C))->Ext Z H Z' H'->tG K Z' H' O'->Sz K Z' H' fs dx->W (.ref C) dx H'
def tMS(W:XK)(ψ:FS):TS:=λE Y H=>∃Z J O o,At K Z H Y J O/\ψ J O=some o/\sH K W Z H E o
end
def ME(X:Cx)(e:yD)(G:FE):Prop:=PE X e (tM X.K G)
def MT(X:Cx)(e:yD)(G:FT):Prop:=PT X e (tMT X.K G)
def MW(X:Cx)(e:yD)(G:FT):Prop:=PW X e (tMT X.K G)
def MA(X:Cx)(es:List yD)(G:FA):Prop:=PA X es (tMA X.K G)
def MS(X:Cx)(st:yR)(ψ:FS):Prop:=PS X st (tMS X.K (zYv X) ψ)
def MSs(X:Cx)(st:List yR)(ψ:FS):Prop:=PSs X st (tMS X.K (zYv X) ψ)
abbrev FF:=List D->Mem->Option (D×Mem)
def spM(K:yw)(n:Nat)(F:FF):Sp:=λvs H Q _=>vs.length=n/\∃Z ds O d O',tj K Z H ds vs/\tG K Z H O/\F ds O=some (d,O')/\∀Z' H' v,Ext Z H Z' H'->tG K Z' H' O'->tx K Z' H' d v->Q v H'
def At.ext{K:yw}{Z Z':List yc}{H H':Hp}{Y:L2.St}{J:Loc}{O O':Mem}(a:At K Z H Y J O)(e:Ext Z H Z' H')(R:tG K Z' H' O'):At K Z' H' Y J O':=⟨a.st.ext e,R,a.len⟩
def zFe{X:Cx}{e:yD}{t:TE}{G:FE}(h:PE X e t)(w:∀Z J O Y H d O' Q,At X.K Z H Y J O->G J O=some (d,O')->(∀Z' H' v,Ext Z H Z' H'->tG X.K Z' H' O'->tx X.K Z' H' d v->Q v H')->t Y H Q):ME X e G :=
 by intro U s Y H Q I hh;obtain⟨Z,J,O,d,O',a,e,k⟩:=hh;exact h U s Y H Q I (w Z J O Y H d O' Q a e k)
def zKA{X:Cx}{e:yD}{t:TT}{G:FT}(h:PT X e t)(w:∀Z J O Y H b O' Q,At X.K Z H Y J O->G J O=some (b,O')->(∀Z' H',Ext Z H Z' H'->tG X.K Z' H' O'->Q b H')->t Y H Q):MT X e G :=
 by intro U s Y H Q I hh;obtain⟨Z,J,O,d,O',a,e,k⟩:=hh;exact h U s Y H Q I (w Z J O Y H d O' Q a e k)
def zEC{X:Cx}{e:yD}{t:TT}{G:FT}(h:PW X e t)(w:∀Z J O Y H b O' Q,At X.K Z H Y J O->G J O=some (b,O')->(∀Z' H',Ext Z H Z' H'->tG X.K Z' H' O'->Q b H')->t Y H Q):MW X e G :=
 λwh U s Y H Q I ⟨Z,J,O,d,O',a,e,k⟩=>h wh U s Y H Q I (w Z J O Y H d O' Q a e k)
def zDD{X:Cx}{e:List yD}{t:TA}{G:FA}(h:PA X e t)(w:∀Z J O Y H ds O' Q,At X.K Z H Y J O->G J O=some (ds,O')->(∀Z' H' vs,Ext Z H Z' H'->tG X.K Z' H' O'->tj X.K Z' H' ds vs->Q vs H')->t Y H Q):MA X e G :=
 λpos U s Y H Q I ⟨Z,J,O,d,O',a,e,k⟩=>h pos U s Y H Q I (w Z J O Y H d O' Q a e k)
def zOl{X:Cx}{e:yR}{t:TS}{ψ:FS}(h:PS X e t)(w:∀Z J O Y H o E,At X.K Z H Y J O->ψ J O=some o->sH X.K (zYv X) Z H E o->t E Y H):MS X e ψ :=
 by intro U s Y H E I hh;obtain⟨Z,J,O,o,a,e,k⟩:=hh;exact h U s Y H E I (w Z J O Y H o E a e k)
def z5z{X:Cx}{e:List yR}{t:TS}{ψ:FS}(h:PSs X e t)(w:∀Z J O Y H o E,At X.K Z H Y J O->ψ J O=some o->sH X.K (zYv X) Z H E o->t E Y H):MSs X e ψ :=
 by intro U s Y H E I hh;obtain⟨Z,J,O,o,a,e,k⟩:=hh;exact h U s Y H E I (w Z J O Y H o E a e k)
end M
namespace M
open PySem PySem.Spec PyProof.Rows L2
def zm{α β:Type}{o:Option α}{f:α->Option β}{b:β}(h:o.bind f=some b):∃a,o=some a/\f a=some b:=by
 cases o with
 |none=>cases h
 |some a=>exact⟨a,rfl,h⟩
section
variable {X:Cx}{a b c e:yD}{es:List yD}{G ψ χ:FE}{pos:xo}
@[simp] def zq(i:Nat):FE:=λJ O=>match J[i]? with
 |some (some d)=>some (d,O)
 |_=>none
@[simp] def fC(d:D):FE:=λ_ O=>some (d,O)
def zeD{i:Nat}{x:yn}(h:PE X (.Name x pos) (zgE i)):ME X (.Name x pos) (zq i) :=
 zFe h λZ J O Y H d O' Q A e k=>by
  unfold zq at e
  split at e
  ·rename_i d' hd
   cases e;obtain⟨v,hv,r⟩:=A.st i _ hd;exact⟨v,hv,k Z H v Ext.refl A.hp r⟩
  ·cases e
def zEA{v:V}{d:D}(h:PE X e (tC v))(r:∀Z H,tx X.K Z H d v):ME X e (fC d) :=
 zFe h λZ J O Y H d' O' Q A e k=>by
  cases e;exact k Z H v Ext.refl A.hp (r Z H)
def zo{i j}:ME X (.Constant (.int i) j pos) (fC (.int i)):=zEA zAD λ_ _ =>.int
def z6q{i j}:ME X (.Constant (.bool i) j pos) (fC (.bl i)):=zEA zKE λ_ _ =>.bl
def zJi{j}:ME X (.Constant .none j pos) (fC .non):=zEA zbD λ_ _ =>.non
def z0{x j}:ME X (.Constant (.str x) j pos) (fC (.str x)):=zEA z8D λ_ _ =>.str
def mv(i:Nat){x:yn}(hN:X.N[i]?=some x:=by rfl)(hv:Vis X.env.scope x:=by first|exact Or.inl rfl|exact Or.inr (Or.inl rfl)|exact Or.inr (Or.inr rfl))(hd:(x==("__debug__":yn))=false:=by decide)
 (hcd:(x==("__classdict__":yn))=false:=by decide):ME X (.Name x pos) (zq i):=zeD (z8z hN hv hd hcd)
def z2i{x:yn}{i:Int}(hm:∃t,X.mg x=some (.int i t))(hg:Gl X x:=by rfl)(hd:(x==("__debug__":yn))=false:=by decide):ME X (.Name x pos) (fC (.int i)) :=
 let ⟨t,ht⟩:=hm
 zEA (zKs (v:=V.int i) hg ht ⟨t,rfl⟩ hd) λ_ _ =>.int
def zZq{x:yn}{T:String}(hm:X.mg x=none)(hb:yH x=some (.type T))(hg:Gl X x:=by rfl)(hn:x≠"__name__":=by decide)(hd:(x==("__debug__":yn))=false:=by decide):ME X (.Name x pos) (fC (.ty T)) :=
 zEA (zXB (v:=V.ty T) hg hm hb (show L2.RelV (V.ty T) (YJ T) from rfl) hn hd) λ_ _ =>.ty
abbrev φ2:=D->D->Mem->Option (D×Mem)
def rM(K:yw)(g:φ2):R2:=λx y H Q=>∃Z dx dy O d O',tx K Z H dx x/\tx K Z H dy y/\tG K Z H O/\g dx dy O=some (d,O')/\∀Z' H' v,Ext Z H Z' H'->tG K Z' H' O'->tx K Z' H' d v->Q v H'
def OpM(X:Cx)(f:yb->yb->Sem yb)(g:φ2):Prop:=OpR X f (rM X.K g)
def OpM.of{X:Cx}{f:yb->yb->Sem yb}{g:φ2}(h:∀(U:List (yc×YS)) (s:yd) (Y:L2.St) (H:Hp) (x y:V) (v u:yb) (Q:VK),Inv X U Y H s->RelV x v->RelV y u->∀(Z:List yc)(dx dy:D)(O:Mem)(d:D)(O':Mem),tx X.K Z H dx x->tx X.K Z H dy y->tG X.K Z H O->g dx dy O=some (d,O')->(∀Z' H' v,Ext Z H Z' H'->tG X.K Z' H' O'->tx X.K Z' H' d v->Q v H')->yq (yC X.prog X.w) X.A (f v u) (EP X U Y Q) X.xe s):OpM X f g:=by
 intro U s Y H x y v u Q I rx ry hh;obtain⟨Z,dx,dy,O,d,O',r1,r2,R,e,k⟩:=hh;exact h U s Y H x y v u Q I rx ry Z dx dy O d O' r1 r2 R e k
@[simp] def zC(g:φ2)(G ψ:FE):FE:=λJ O=>(G J O).bind λp=>(ψ J p.2).bind λq=>g p.1 q.1 q.2
def zot{g:φ2}{Z:List yc}{J:Loc}{O:Mem}{Y:L2.St}{H:Hp}{d:D}{O':Mem}{Q:VK}(A:At X.K Z H Y J O)(e:zC g G ψ J O=some (d,O'))
 (k:∀Z' H' v,Ext Z H Z' H'->tG X.K Z' H' O'->tx X.K Z' H' d v->Q v H'):tOp (rM X.K g) (tM X.K G) (tM X.K ψ) Y H Q:=by
 obtain⟨⟨x,O1⟩,e1,e⟩:=zm e;obtain⟨⟨y,O2⟩,e2,e⟩:=zm e;refine⟨Z,J,O,x,O1,A,e1,λZ1 H1 v x1 R1 r1=>?_⟩;refine⟨Z1,J,O1,y,O2,A.ext x1 R1,e2,λZ2 H2 u x2 R2 r2=>?_⟩;exact⟨Z2,x,y,O2,d,O',r1.ext x2,r2,R2,e,λZ3 H3 w x3 R3 r3=>k Z3 H3 w (x1.trans (x2.trans x3)) R3 r3⟩
def zib{op:Operator}{g:φ2}(ho:OpM X (xl op) g)(ha:ME X a G)(hb:ME X b ψ):ME X (.BinOp a op b pos) (zC g G ψ) :=
 zFe (zpF ho ha hb) λ_ _ _ _ _ _ _ _ A e k=>zot A e k
def znj{op:CmpOp}{g:φ2}(ho:OpM X (yV op) g)(ha:ME X a G)(hb:ME X b ψ)(hm:behindInMarks op b=false:=by first|exact sW _ (by decide) (by decide)|rfl|with_unfolding_all rfl):ME X (.Compare a [op] [b] pos) (zC g G ψ) :=
 zFe (zzB ho ha hb hm) λ_ _ _ _ _ _ _ _ A e k=>zot A e k
@[simp] def zeb(G:FE):FT:=λJ O=>(G J O).bind λp=>match p.1 with
 |.bl b=>some (b,p.2)
 |_=>none
def zru{J:Loc}{O O':Mem}{b:Bool}(h:zeb G J O=some (b,O')):G J O=some (.bl b,O'):=by
 obtain⟨⟨x,O1⟩,e1,e⟩:=zm h;dsimp only at e
 split at e
 ·cases e;exact e1
 ·cases e
def z6{op:CmpOp}{g:φ2}(ho:OpM X (yV op) g)(ha:ME X a G)(hb:ME X b ψ)(hm:behindInMarks op b=false:=by first|exact sW _ (by decide) (by decide)|rfl|with_unfolding_all rfl):MT X (.Compare a [op] [b] pos) (zeb (zC g G ψ)) :=
 zKA (zNB ho ha hb hm) λZ J O Y H b O' Q A e k=>zot (Q:=λx H'=>∃k,x=.bl k/\Q k H') A (zru e) λZ' H' v x R r=>⟨b,r.tK,k Z' H' x R⟩
@[simp] def zPk:φ2:=λx y O=>match x,y with
 |.int i,.int j=>some (.int (i+j),O)
 |.tup as,.tup bs=>bif decide (as.length+bs.length<=1000000) then some (.tup (as++bs),O) else none
 |.loc l,.loc m=>match O[l]?,O[m]? with
  |some (.lst as),some (.lst bs)=>bif decide (as.length+bs.length<=1000000) then some (.loc O.length,O++[.lst (as++bs)]) else none
  |_,_=>none
 |_,_=>none
@[simp] def z7x:φ2:=λx y O=>match x,y with
 |.int i,.int j=>some (.int (i-j),O)
 |_,_=>none
def zjo(i j:Int):Bool:=decide (-(2^64)<i/\i<2^64)||decide (-(2^64)<j/\j<2^64)||(decide (i.natAbs<2^1000)&&decide (j.natAbs<2^1000))
def z1y{i j:Int}(h:zjo i j=true):IntMulOk i j:=by
 unfold zjo at h;rw[Bool.or_eq_true,Bool.or_eq_true,yK]at h;rcases h with (h|h)|⟨h1,h2⟩
 ·have h:=of_decide_eq_true h;exact .of_left (intBits_le_64 h.1 h.2)
 ·have h:=of_decide_eq_true h;exact .of_right (intBits_le_64 h.1 h.2)
 ·exact .of_le (m:=1000) (n:=1000) (intBits_le (of_decide_eq_true h1)) (intBits_le (of_decide_eq_true h2)) (by decide)
def zjn:φ2:=λx y O=>match x,y with
 |.int i,.int j=>bif zjo i j then some (.int (i*j),O) else none
 |.tup ds,.int n=>bif decide (2<=n/\n<=1000/\0<ds.length/\ds.length<=1000) then some (.tup (yy n.toNat ds).flatten,O) else none
 |.loc l,.int n=>match O[l]? with
  |some (.lst ds)=>bif decide (n<=1000/\-(2^62)<=n/\ds.length<=1000) then some (.loc O.length,O++[.lst (yy n.toNat ds).flatten]) else none
  |_=>none
 |_,_=>none
@[simp] def zUq:φ2:=λx y O=>match x,y with
 |.int i,.int j=>bif decide (0<j) then some (.int (i%j),O) else none
 |_,_=>none
@[simp] def zqC:φ2:=λx y O=>match x,y with
 |.int i,.int j=>bif decide (0<j/\j<1606938044258990275541962092341162602522202993782792835301376) then some (.int (i / j),O) else none
 |_,_=>none
def zJD:φ2:=λx y O=>match x,y with
 |.int i,.int j=>bif decide (0<=j/\j<=100000/\i.natAbs<1606938044258990275541962092341162602522202993782792835301376) then some (.int (i^j.toNat),O) else none
 |_,_=>none
def zP{α:Type}{c:Bool}{o:Option α}{x:α}(h:(bif c then o else none)=some x):c=true/\o=some x:=by
 cases c with
 |true=>exact⟨rfl,h⟩
 |false=>cases h
def zQp{f:yb->yb->Sem yb}{g:φ2}{C:Int->Int->Prop}{h:Int->Int->Int}(o:OpR X f (rI C λi j =>.int (h i j)))
 (w:∀x y O d O',g x y O=some (d,O')->∃i j,x=.int i/\y=.int j/\C i j/\d=.int (h i j)/\O'=O):OpM X f g:=by
 refine OpM.of λU s Y H x y v u Q I rx ry Z dx dy O d O' r1 r2 R e k=>?_;obtain⟨i,j,rfl,rfl,hc,rfl,rfl⟩:=w _ _ _ _ _ e;refine o U s Y H x y v u Q I rx ry ⟨i,j,r1.int_inv,r2.int_inv,hc,?_⟩;exact k Z H _ Ext.refl R .int
def zOn:OpM X (xl .Sub) z7x:=zQp (C:=λ_ _=>True) (h:=λi j=>i-j) (opI λ_ _ _ _ _ _ _ _ q=>sub_int q) λx y O d O' e=>by
 unfold z7x at e
 split at e
 ·cases e;exact⟨_,_,rfl,rfl,trivial,rfl,rfl⟩
 ·cases e
def zWd:OpM X (xl .Mod) zUq:=zQp (h:=λi j=>i%j) zYD λx y O d O' e=>by
 unfold zUq at e
 split at e
 ·obtain⟨h1,e⟩:=zP e;cases e;have h2:=of_decide_eq_true h1;exact⟨_,_,rfl,rfl,h2,rfl,rfl⟩
 ·cases e
def z5C(i j:Int):Prop:=0<j/\j<1606938044258990275541962092341162602522202993782792835301376
def zxy:OpR X (xl .FloorDiv) (rI z5C λi j =>.int (i / j)):=opI λi j _ _ _ _ _ hc q=>by
 have h1:(0:Int)<j:=hc.1;have h2:j<1606938044258990275541962092341162602522202993782792835301376:=hc.2;refine floordiv_int (by omega) (by rw[Int.fdiv_eq_ediv_of_nonneg i (by omega)];exact q) (.inl (PyProof.noPylong_of_log2 ?_));have:j.natAbs.log2<200:=(Nat.log2_lt (by omega)).mpr (by rw[show 2^200=1606938044258990275541962092341162602522202993782792835301376 from rfl];omega);omega
def zit:OpM X (xl .FloorDiv) zqC:=zQp (C:=z5C) (h:=λi j=>i / j) zxy λx y O d O' e=>by
 unfold zqC at e
 split at e
 ·obtain⟨h1,e⟩:=zP e;cases e;have h2:=of_decide_eq_true h1;exact⟨_,_,rfl,rfl,h2,rfl,rfl⟩
 ·cases e
def zVC(i j:Int):Prop:=0<=j/\j<=100000/\i.natAbs<1606938044258990275541962092341162602522202993782792835301376
def zeC:OpR X (xl .Pow) (rI zVC λi j =>.int (i^j.toNat)):=opI λi j _ _ _ _ _ hc q=>by
 refine pow_int hc.1 ?_ q;have hb:Builtin.Int.intBits i<=200:=intBits_le (by rw[show 2^200=1606938044258990275541962092341162602522202993782792835301376 from rfl];exact hc.2.2);have h2:=hc.2.1;have h1:=hc.1
 calc (Builtin.Int.intBits i:Int)*j<=200*100000:=Int.mul_le_mul (by omega) h2 h1 (by omega)
  _<=2^27:=by decide
def zvB:OpM X (xl .Pow) zJD:=zQp (C:=zVC) (h:=λi j=>i^j.toNat) zeC λx y O d O' e=>by
 unfold zJD at e
 split at e
 ·obtain⟨h1,e⟩:=zP e;cases e;have h2:=of_decide_eq_true h1;exact⟨_,_,rfl,rfl,h2,rfl,rfl⟩
 ·cases e
@[simp] def zFj(p:Int->Int->Bool):φ2:=λx y O=>match x,y with
 |.int i,.int j=>some (.bl (p i j),O)
 |_,_=>none
def zlq{f:yb->yb->Sem yb}{p:Int->Int->Bool}(o:OpR X f (rI0 λi j =>.bl (p i j))):OpM X f (zFj p):=by
 refine OpM.of λU s Y H x y v u Q I rx ry Z dx dy O d O' r1 r2 R e k=>?_;unfold zFj at e
 split at e
 ·cases e;exact o U s Y H x y v u Q I rx ry ⟨_,_,r1.int_inv,r2.int_inv,k Z H _ Ext.refl R .bl⟩
 ·cases e
def z8m:OpM X (yV .Lt) (zFj λi j=>decide (i<j)):=zlq zOE
def zhp:OpM X (yV .LtE) (zFj λi j=>decide (i<=j)):=zlq zdF
def zis:OpM X (yV .Gt) (zFj λi j=>decide (j<i)):=zlq zwE
def zbA:OpM X (yV .GtE) (zFj λi j=>decide (j<=i)):=zlq z7E
@[simp] def zQo(g g':φ2)(G ψ χ:FE):FE:=λJ O=>(G J O).bind λp=>(ψ J p.2).bind λq=>(g p.1 q.1 q.2).bind λr=>match r.1 with
 |.bl true=>(χ J r.2).bind λt=>g' q.1 t.1 t.2
 |.bl false=>some (.bl false,r.2)
 |_=>none
def zyp{op op':CmpOp}{g g':φ2}(ho:OpM X (yV op) g)(ho':OpM X (yV op') g')(ha:ME X a G)(hb:ME X b ψ)(hc:ME X c χ)
 (hm:lastMarks [op,op'] [b,c]=false:=by with_unfolding_all rfl):ME X (.Compare a [op,op'] [b,c] pos) (zQo g g' G ψ χ) :=
 zFe (zey ho ho' ha hb hc hm) λZ J O Y H d O' Q A e k=>by
  obtain⟨⟨x,O1⟩,e1,e⟩:=zm e;obtain⟨⟨y,O2⟩,e2,e⟩:=zm e;obtain⟨⟨z,O3⟩,e3,e⟩:=zm e;refine⟨Z,J,O,x,O1,A,e1,λZ1 H1 v x1 R1 r1=>?_⟩;refine⟨Z1,J,O1,y,O2,A.ext x1 R1,e2,λZ2 H2 u x2 R2 r2=>?_⟩;refine⟨Z2,x,y,O2,z,O3,r1.ext x2,r2,R2,e3,λZ3 H3 w x3 R3 r3=>?_⟩;dsimp only at e
  split at e
  ·rename_i hz
   refine⟨true,r3.tK,Sh ?_⟩;obtain⟨⟨t,O4⟩,e4,e⟩:=zm e;refine⟨Z3,J,O3,t,O4,A.ext (x1.trans (x2.trans x3)) R3,e4,λZ4 H4 w' x4 R4 r4=>?_⟩;exact⟨Z4,y,t,O4,d,O',r2.ext (x3.trans x4),r4,R4,e,λZ5 H5 w5 x5 R5 r5=>k Z5 H5 w5 (x1.trans (x2.trans (x3.trans (x4.trans x5)))) R5 r5⟩
  ·cases e;exact⟨false,r3.tK,Sg (k Z3 H3 _ (x1.trans (x2.trans x3)) R3 .bl)⟩
  ·cases e
@[simp] def z3v(G ψ:FE):FE:=λJ O=>(G J O).bind λp=>match p.1 with
 |.bl true=>ψ J p.2
 |.bl false=>some (.bl false,p.2)
 |_=>none
@[simp] def fOr(G ψ:FE):FE:=λJ O=>(G J O).bind λp=>match p.1 with
 |.bl false=>ψ J p.2
 |.bl true=>some (.bl true,p.2)
 |_=>none
@[simp] def zNE(G:FE):FE:=λJ O=>(G J O).bind λp=>match p.1 with
 |.bl b=>some (.bl (!b),p.2)
 |_=>none
def z5n{op}(h:ME X a G):ME X (.BoolOp op [a] pos) G:=zoD h
def zKi{rest:List yD}(ha:ME X a G)(hb:ME X (.BoolOp .And (b::rest) pos) ψ):ME X (.BoolOp .And (a::b::rest) pos) (z3v G ψ) :=
 zFe (zxC ha hb) λZ J O Y H d O' Q A e k=>by
  obtain⟨⟨x,O1⟩,e1,e⟩:=zm e;refine⟨Z,J,O,x,O1,A,e1,λZ1 H1 v x1 R1 r1=>?_⟩;dsimp only at e
  split at e
  ·exact⟨true,r1.tK,Sh ⟨Z1,J,O1,d,O',A.ext x1 R1,e,λZ2 H2 w x2 R2 r2=>k Z2 H2 w (x1.trans x2) R2 r2⟩⟩
  ·cases e;exact⟨false,r1.tK,Sg (k Z1 H1 _ x1 R1 .bl)⟩
  ·cases e
def zZD(ha:ME X a G):ME X (.UnaryOp .Not a pos) (zNE G) :=
 zFe (zuD ha) λZ J O Y H d O' Q A e k=>by
  obtain⟨⟨x,O1⟩,e1,e⟩:=zm e;refine⟨Z,J,O,x,O1,A,e1,λZ1 H1 v x1 R1 r1=>?_⟩;dsimp only at e
  split at e
  ·rename_i q
   cases e;exact⟨q,r1.tK,k Z1 H1 _ x1 R1 .bl⟩
  ·cases e
@[simp] def z5s(G ψ:FT):FT:=λJ O=>(G J O).bind λp=>bif p.1 then ψ J p.2 else some (false,p.2)
@[simp] def zQu(G ψ:FT):FT:=λJ O=>(G J O).bind λp=>bif p.1 then some (true,p.2) else ψ J p.2
@[simp] def zfo(G:FT):FT:=λJ O=>(G J O).bind λp=>some (!p.1,p.2)
def z5h{G:FE}(h:ME X a G)(he:∀whole,isTrue a X.env whole=(do let v <-whole;standAt a.pos;xD [v] (truthy v)):=by intro _;rfl):MT X a (zeb G) :=
 zKA (zXC h he) λZ J O Y H b O' Q A e k=>⟨Z,J,O,.bl b,O',A,zru e,λZ' H' v x R r=>⟨b,r.tK,k Z' H' x R⟩⟩
def MW.mt{G:FT}(h:MW X a G):MT X a G:=h _
def zSn{G:FT}(h:MT X a G):MW X (.BoolOp .And [a] pos) G:=zsB h
def zSi{G:FT}(h:MT X a G):MW X (.BoolOp .Or [a] pos) G:=zyC h
def zFr{G ψ:FT}{rest:List yD}(ha:MT X a G)(hb:MW X (.BoolOp .And (b::rest) pos) ψ):MW X (.BoolOp .And (a::b::rest) pos) (z5s G ψ) :=
 zEC (zZC ha hb) λZ J O Y H b O' Q A e k=>by
  obtain⟨⟨x,O1⟩,e1,e⟩:=zm e;refine⟨Z,J,O,x,O1,A,e1,λZ1 H1 x1 R1=>?_⟩
  cases x with
  |true=>exact Sh ⟨Z1,J,O1,b,O',A.ext x1 R1,e,λZ2 H2 x2 R2=>k Z2 H2 (x1.trans x2) R2⟩
  |false=>
   cases e;exact Sg (k Z1 H1 x1 R1)
def z1m{G ψ:FT}{rest:List yD}(ha:MT X a G)(hb:MW X (.BoolOp .Or (b::rest) pos) ψ):MW X (.BoolOp .Or (a::b::rest) pos) (zQu G ψ) :=
 zEC (zYE ha hb) λZ J O Y H b O' Q A e k=>by
  obtain⟨⟨x,O1⟩,e1,e⟩:=zm e;refine⟨Z,J,O,x,O1,A,e1,λZ1 H1 x1 R1=>?_⟩
  cases x with
  |false=>exact Sg ⟨Z1,J,O1,b,O',A.ext x1 R1,e,λZ2 H2 x2 R2=>k Z2 H2 (x1.trans x2) R2⟩
  |true=>
   cases e;exact Sh (k Z1 H1 x1 R1)
def zml{G:FT}(ha:MT X a G):MT X (.UnaryOp .Not a pos) (zfo G) :=
 zKA (zCC ha) λZ J O Y H b O' Q A e k=>by
  obtain⟨⟨x,O1⟩,e1,e⟩:=zm e;cases e;exact⟨Z,J,O,x,O1,A,e1,λZ1 H1 x1 R1=>k Z1 H1 x1 R1⟩
structure MAn(X:Cx)(es:List yD)(G:FA):Prop where
 ma:MA X es G
 len:∀J O ds O',G J O=some (ds,O')->ds.length=es.length
@[simp] def zA:FA:=λ_ O=>some ([],O)
@[simp] def zk(G:FE)(ψ:FA):FA:=λJ O=>(G J O).bind λp=>(ψ J p.2).bind λq=>some (p.1::q.1,q.2)
def zh:MAn X [] zA:=⟨zDD zwm λZ J O Y H ds O' Q A e k=>by
 cases e;exact k Z H [] Ext.refl A.hp .nil,λ_ _ _ _ e=>by cases e;rfl⟩
def z2C:yD->Bool
 |.Starred ..=>false
 |_=>true
def zjf{e:yD}{es:List yD}{env:Env}(h:z2C e=true):yj (e::es) env=(false,Yb e env)::yj es env:=by
 cases e<;>first|rfl|cases h
def zf{G:FE}{ψ:FA}(ha:ME X e G)(hr:MAn X es ψ)(hs:yj (e::es) X.env=(false,Yb e X.env)::yj es X.env:=by exact zjf rfl):MAn X (e::es) (zk G ψ) :=
 ⟨zDD (z7i ha hr.ma hs) λZ J O Y H ds O' Q A e k=>by
  obtain⟨⟨x,O1⟩,e1,e⟩:=zm e;obtain⟨⟨y,O2⟩,e2,e⟩:=zm e;cases e;refine⟨Z,J,O,x,O1,A,e1,λZ1 H1 v x1 R1 r1=>?_⟩;refine⟨Z1,J,O1,y,O2,A.ext x1 R1,e2,λZ2 H2 u x2 R2 r2=>?_⟩;exact k Z2 H2 _ (x1.trans x2) R2 (.cons (r1.ext x2) r2),λJ O ds O' e=>by
  obtain⟨⟨x,O1⟩,e1,e⟩:=zm e;obtain⟨⟨y,O2⟩,e2,e⟩:=zm e;cases e;have:=hr.len _ _ _ _ e2;simp[this]⟩
@[simp] def zAm(G:FA):FE:=λJ O=>(G J O).bind λp=>some (.tup p.1,p.2)
@[simp] def zNq(G:FA):FE:=λJ O=>(G J O).bind λp=>some (.loc p.2.length,p.2++[.lst p.1])
def zCd{x1}{G:FA}(h:MAn X es G)(hn:es.length<=1000:=by decide):ME X (.Tuple es x1 pos) (zAm G) :=
 zFe (zvD h.ma) λZ J O Y H d O' Q A e k=>by
  obtain⟨⟨x,O1⟩,e1,e⟩:=zm e;cases e;refine⟨Z,J,O,x,O1,A,e1,λZ1 H1 vs x1 R1 r1=>⟨?_,λp hp=>?_⟩⟩
  ·rw[<-r1.length,h.len _ _ _ _ e1];exact YU (sG hn)
  ·exact k Z1 _ _ (x1.trans (Ext.new hp)) (R1.Tj hp) (.tup zM (r1.ext (Ext.new hp)))
def zlf{G:FA}(h:MAn X es G)(hn:es.length<=1000:=by decide):ME X (.List es pos) (zNq G) :=
 zFe (zRC h.ma) λZ J O Y H d O' Q A e k=>by
  obtain⟨⟨x,O1⟩,e1,e⟩:=zm e;cases e;refine⟨Z,J,O,x,O1,A,e1,λZ1 H1 vs x1 R1 r1=>⟨?_,λp hp=>?_⟩⟩
  ·rw[<-r1.length,h.len _ _ _ _ e1];exact YU (sG hn)
  ·exact k _ _ _ (x1.trans (Ext.push hp)) (R1.push hp ⟨vs,zM,r1.ext (Ext.push hp)⟩) (.loc (zGc R1))
@[simp] def zx(F:FF)(G:FA):FE:=λJ O=>(G J O).bind λp=>F p.1 p.2
def zgx{k n:Nat}{f:yc}{fd:yf}{ps:List yn}{F:FF}{x:yn}{p:xo}{G:FA}(φ:tm X.prog X.w X.K X.mg X.base CX0 k f fd ps (spM X.K n F))(hr:tW k X.A)(hm:X.mg x=some (.ref f))(hk:W.keepIn X.K (.ref f)=true)(hb:Binds X.K fd ps [])
 (ha:MAn X (e::es) G) (hn:(e::es).length=n:=by rfl) (hg:Gl X x:=by rfl) (hdb:(x==("__debug__":yn))=false:=by decide) (he:yj (e::es) X.env=(false,Yb e X.env)::yj es X.env:=by exact zjf rfl) (hpl:(Yq pos (yj es X.env)).any (·.1)=false:=by rfl) :
 ME X (.Call (.Name x p) (e::es) [] pos) (zx F G) :=
 zFe (zgB φ hr hg hm hk hb .nil sZ ha.ma hdb he hpl) λZ J O Y H d O' Q A e k=>by
  obtain⟨⟨x,O1⟩,e1,e⟩:=zm e;refine⟨Z,J,O,x,O1,A,e1,λZ1 H1 vs x1 R1 r1=>?_⟩;show spM X.K n F (vs++[]) H1 Q E0;rw[append_nil];exact⟨by rw[<-r1.length,ha.len _ _ _ _ e1];exact hn,Z1,x,O1,d,O',r1,R1,e,λZ2 H2 v x2 R2 r2=>k Z2 H2 v (x1.trans x2) R2 r2⟩
abbrev GL:=List D->Mem->Option (D×Mem)
def rCM(K:yw)(g:GL):List V->Hp->VK->Prop:=λvs H Q=>∃Z ds O d O',tj K Z H ds vs/\tG K Z H O/\g ds O=some (d,O')/\∀Z' H' v,Ext Z H Z' H'->tG K Z' H' O'->tx K Z' H' d v->Q v H'
def tS(X:Cx)(f:yb)(g:GL):Prop:=zLl X f (rCM X.K g)
def tS.of{X:Cx}{f:yb}{g:GL}(h:∀(U:List (yc×YS)) (s:yd) (Y:L2.St) (H:Hp) (xs:List V) (us:List yb) (Q:VK),Inv X U Y H s->Vals xs us->∀(Z:List yc)(ds:List D)(O:Mem)(d:D)(O':Mem),tj X.K Z H ds xs->tG X.K Z H O->g ds O=some (d,O')->(∀Z' H' v,Ext Z H Z' H'->tG X.K Z' H' O'->tx X.K Z' H' d v->Q v H')->yq (yC X.prog X.w) X.A (call f us) (EP X U Y Q) X.xe s):tS X f g:=by
 intro U s Y H xs us Q I r hh;obtain⟨Z,ds,O,d,O',r1,R,e,k⟩:=hh;exact h U s Y H xs us Q I r Z ds O d O' r1 R e k
def zEF{g:GL}{G:FA}{Z:List yc}{J:Loc}{O:Mem}{Y:L2.St}{H:Hp}{d:D}{O':Mem}{Q:VK}(A:At X.K Z H Y J O)(e:zx g G J O=some (d,O'))
 (k:∀Z' H' v,Ext Z H Z' H'->tG X.K Z' H' O'->tx X.K Z' H' d v->Q v H'):tCB (rCM X.K g) (tMA X.K G) Y H Q:=by
 obtain⟨⟨x,O1⟩,e1,e⟩:=zm e;exact⟨Z,J,O,x,O1,A,e1,λZ1 H1 vs x1 R1 r1=>⟨Z1,x,O1,d,O',r1,R1,e,λZ2 H2 v x2 R2 r2=>k Z2 H2 v (x1.trans x2) R2 r2⟩⟩
def zL{g:GL}{id:String}{x:yn}{p:xo}{G:FA}(hc:tS X (.builtin id) g)(hm:X.mg x=none)(hv:yH x=some (.builtin id))(ha:MAn X (e::es) G)(hg:Gl X x:=by rfl)(hn:x≠"__name__":=by decide)(hdb:(x==("__debug__":yn))=false:=by decide)
 (he:yj (e::es) X.env=(false,Yb e X.env)::yj es X.env:=by exact zjf rfl) (hpl:(Yq pos (yj es X.env)).any (·.1)=false:=by rfl):ME X (.Call (.Name x p) (e::es) [] pos) (zx g G) :=
 zFe (zSt hc hg hm hv ha.ma hn hdb he hpl) λ_ _ _ _ _ _ _ _ A e k=>zEF A e k
def zdb{g:GL}{T:String}{x:yn}{p:xo}{G:FA}(hc:tS X (.type T) g)(hm:X.mg x=none)(hv:yH x=some (.type T))(ha:MAn X (e::es) G)(hg:Gl X x:=by rfl)(hn:x≠"__name__":=by decide)(hdb:(x==("__debug__":yn))=false:=by decide)
 (he:yj (e::es) X.env=(false,Yb e X.env)::yj es X.env:=by exact zjf rfl) (hpl:(Yq pos (yj es X.env)).any (·.1)=false:=by rfl):ME X (.Call (.Name x p) (e::es) [] pos) (zx g G) :=
 zFe (zkj hc hg hm hv ha.ma hn hdb he hpl) λ_ _ _ _ _ _ _ _ A e k=>zEF A e k
variable {K:yw}{Z:List yc}{H:Hp}{O:Mem}
@[simp] def items(O:Mem):D->Option (List D)
 |.tup ds=>some ds
 |.fz ds=>some ds
 |.loc n=>match O[n]? with
  |some (.lst ds)=>some ds
  |_=>none
 |_=>none
def zSj{d:D}{v:V}{ds:List D}(R:tG K Z H O)(r:tx K Z H d v)(e:items O d=some ds):∃p vs,v=.ref p/\(SqL K H p vs\/SqT K H p vs)/\tj K Z H ds vs:=by
 unfold items at e
 split at e
 ·cases e;obtain⟨a,vs,e1,e2,q⟩:=r.tN;exact⟨a,vs,e1,.inr (SqT.of e2),q⟩
 ·cases e;obtain⟨a,vs,e1,e2,q⟩:=r.TZ;exact⟨a,vs,e1,.inl e2.sq,q⟩
 ·split at e
  ·rename_i h
   cases e;obtain⟨a,e1,e2⟩:=r.tz;obtain⟨vs,e3,q⟩:=R.at_ _ _ _ e2 h;exact⟨a,vs,e1,.inl (SqL.of e3),q⟩
  ·cases e
 ·cases e
@[simp] def gIx:φ2:=λx y O=>match y with
 |.int i=>(items O x).bind λds=>(atI ds i).bind λd=>some (d,O)
 |_=>none
def zLx{K:yw}{Z:List yc}{H:Hp}{ds:List D}{vs:List V}{i:Int}{d:D}(r:tj K Z H ds vs)(e:atI ds i=some d):∃v,atI vs i=some v/\tx K Z H d v:=by
 unfold atI at e ⊢;rw[r.length]at e;obtain⟨j,e1,e2⟩:=zm e;obtain⟨v,e3,q⟩:=r.get e2;exact⟨v,by rw[e1];exact e3,q⟩
def ixM:IxR X (rM X.K gIx):=by
 intro value slice U s Y H x y v u Q I rx ry ⟨Z,dx,dy,O,d,O',r1,r2,R,e,k⟩ hs;unfold gIx at e
 split at e
 ·obtain⟨ds,e1,e⟩:=zm e;obtain⟨d',e2,e⟩:=zm e;cases e;obtain⟨p,vs,rfl,hq,rr⟩:=zSj R r1 e1;obtain⟨w,e3,q⟩:=zLx rr e2;rcases hq with hq|hq
  ·exact zHA value slice U s Y H _ y v u Q I rx ry (.inl ⟨p,vs,_,w,rfl,r2.int_inv,hq,e3,k Z H w Ext.refl R q⟩) hs
  ·exact zHA value slice U s Y H _ y v u Q I rx ry (.inr (.inl ⟨p,vs,_,w,rfl,r2.int_inv,hq,e3,k Z H w Ext.refl R q⟩)) hs
 ·cases e
def zJ(ha:ME X a G)(hb:ME X b ψ)(hs:zan b:=by exact λ_ _=>rfl):ME X (.Subscript a b pos) (zC gIx G ψ) :=
 zFe (zcy ixM ha hb hs) λ_ _ _ _ _ _ _ _ A e k=>zot A e k
@[simp] def zej:GL:=λds O=>match ds with
 |[d]=>(items O d).bind λxs=>some (.int xs.length,O)
 |_=>none
def zW:tS X (.builtin "len") zej:=by
 refine tS.of λU s Y H xs us Q I r Z ds O d O' r1 R e k=>?_;unfold zej at e
 split at e
 ·obtain⟨ds,e1,e⟩:=zm e;cases e;obtain⟨v,rr,rfl,q1,q2⟩:=r1.cons_inv;have q2:=q2.nil_inv;subst q2;obtain⟨p,vs,rfl,hq,rr⟩:=zSj R q1 e1;exact zKr U s Y H _ us Q I r ⟨p,vs,rfl,hq,k Z H _ Ext.refl R (by rw[rr.length];exact .int)⟩
 ·cases e
@[simp] def zbw:GL:=λds O=>match ds with
 |[d]=>(items O d).bind λxs=>some (.loc O.length,O++[.lst xs])
 |_=>none
def zup:tS X (.type "list") zbw:=by
 refine tS.of λU s Y H xs us Q I r Z ds O d O' r1 R e k=>?_;unfold zbw at e
 split at e
 ·obtain⟨ds,e1,e⟩:=zm e;cases e;obtain⟨v,rr,rfl,q1,q2⟩:=r1.cons_inv;have q2:=q2.nil_inv;subst q2;obtain⟨p,vs,rfl,hq,rr⟩:=zSj R q1 e1;exact zXr U s Y H _ us Q I r ⟨p,vs,rfl,hq,λl hl=>k _ _ _ (Ext.push hl) (R.push hl ⟨vs,zM,rr.ext (Ext.push hl)⟩) (.loc (zGc R))⟩
 ·cases e
@[simp] def zFd:GL:=λds O=>match ds with
 |[.tup xs]=>some (.tup xs,O)
 |[d]=>(items O d).bind λxs=>some (.tup xs,O)
 |_=>none
def ztb:tS X (.type "tuple") zFd:=by
 refine tS.of λU s Y H xs us Q I r Z ds O d O' r1 R e k=>?_
 have key:∃x ys,ds=[x]/\items O x=some ys/\d=.tup ys/\O'=O:=by
  unfold zFd at e
  split at e
  ·cases e;exact⟨_,_,rfl,rfl,rfl,rfl⟩
  ·obtain⟨ds,e1,e⟩:=zm e;cases e;exact⟨_,_,rfl,e1,rfl,rfl⟩
  ·cases e
 obtain⟨x,ys,rfl,e1,rfl,rfl⟩:=key;obtain⟨v,rr,rfl,q1,q2⟩:=r1.cons_inv;have q2:=q2.nil_inv;subst q2
 cases x with
 |tup zs=>
  cases e1;obtain⟨a,vs,rfl,e2,q⟩:=q1.tN;exact zgh U s Y H _ us Q I r ⟨a,vs,rfl,.inr ⟨SqT.of e2,k Z H _ Ext.refl R q1⟩⟩
 |fz zs=>
  cases e1;obtain⟨a,vs,rfl,e2,q⟩:=q1.TZ;exact zgh U s Y H _ us Q I r ⟨a,vs,rfl,.inl ⟨e2.sq,λl hl=>k Z _ _ (Ext.new hl) (R.Tj hl) (.tup zM (q.ext (Ext.new hl)))⟩⟩
 |loc n=>
  unfold items at e1;dsimp only at e1
  split at e1
  ·rename_i h
   cases e1;obtain⟨a,rfl,e2⟩:=q1.tz;obtain⟨vs,e3,q⟩:=R.at_ _ _ _ e2 h;exact zgh U s Y H _ us Q I r ⟨a,vs,rfl,.inl ⟨SqL.of e3,λl hl=>k Z _ _ (Ext.new hl) (R.Tj hl) (.tup zM (q.ext (Ext.new hl)))⟩⟩
  ·cases e1
 |_=>cases e1
end
def zXq{prog:yu}{w:yI}{A:yJ}{R:Result->yd->Prop}{s:yd}{elt target iter:yD}{ifs:List yD}{scope:Xl}{pos:xo}{it acc:yb}{env:Env}(I:Nat->yd->Prop)
 (turn:∀n s,I n s->yq (yC prog w) A (xP it) (λr s₁=>match r with
  |none=>R (.ok .next) s₁
  |some v=>yq (yC prog w) A (letOwnedTupleGo target it v) (λ_ s₁'=>yq (yC prog w) A (assign target env v) (λ_ s₂=>
   yq (yC prog w) A (forIn ifs true λc r=>if r=true then do let ok <-isTrue c env (Yb c env);pure (YZ ok) else pure (YZ r)) (λok s₃=>
    if ok=true then yq (yC prog w) A (Yb elt env) (λx s₄=>
     yq (yC prog w) A (call (.builtin "list.append") [acc,x]) (λ_ s₅=>∃m,m<n/\I m s₅) (λ_ _=>False) s₄) (λ_ _=>False) s₃
    else ∃m,m<n/\I m s₃) (λ_ _=>False) s₂) (λ_ _=>False) s₁') (λ_ _=>False) s₁) (λ_ _=>False) s)
 (n:Nat) (h:I n s) :
 codeAny (yC prog w) A (.compLoop (.ListComp elt [⟨target,iter,ifs,0⟩] scope pos) 0 it acc env) R s:=by
 refine codeAny_loop rfl I (λn s hI=>?_) n h;show yq _ A ((compTurn (.ListComp elt [⟨target,iter,ifs,0⟩] scope pos) 0 it acc env).onRaise (λx=>do noteFrame x env;theTreesLotGoes x)) _ _ s;refine wpAny_noted ?_;rw[compTurn_list];refine ya (wpAny_standAt (ya (xp (turn n s hI) (λr s₁ h₁=>?_) λ_ _ h'=>h'.elim)))
 cases r with
 |none=>exact yg h₁
 |some v=>
  refine ya (xp h₁ (λ_ s₁' h₁=>?_) λ_ _ h'=>h'.elim);refine ya (xp h₁ (λ_ s₂ h₂=>ya (xp h₂ (λok s₃ h₃=>?_) λ_ _ h'=>h'.elim)) λ_ _ h'=>h'.elim)
  cases ok with
  |false=>exact yg ⟨rfl,h₃⟩
  |true=>
   exact ya (ya (xp h₃ (λx s₄ h₄=>ya (xp h₄ (λ_ s₅ h₅=>yg (yg ⟨rfl,h₅⟩)) λ_ _ h'=>h'.elim)) λ_ _ h'=>h'.elim))
def zvc(cells:List (yn×yc)):List (yn×xn)->List (yn×yc)->List (yn×yc)
 |[],acc=>acc
 |(n,k)::r,acc=>zvc cells r (if k == .free then(match cells.lookup n with|some c=>(n,c)::acc|none=>acc) else acc)
def znl{env:Env}:∀(names:List (yn×xn)) (acc:List (yn×yc)),(∀x∈names,x.2=.free->∃c,env.cells.lookup x.1=some c) ->
 (forIn names acc λ(x:yn×xn) (cs:List (yn×yc))=>(match x with|(name,kind)=>if kind == .free then do let c <-cellOf env name;pure (YZ ((name,c)::cs)) else pure (YZ cs):Sem (ForInStep (List (yn×yc)))))=(pure (zvc env.cells names acc):Sem (List (yn×yc)))
 |[],acc,_=>rfl
 |(n,k)::r,acc,h=>by
  have ih:=λacc'=>znl r acc' λx hx=>h x (mem_cons_of_mem _ hx);rw[List.forIn_cons]
  by_cases hk:k=.free
  ·subst hk;obtain⟨c,hc⟩:=h (n,.free) mem_cons_self rfl;have e:cellOf env n=pure c:=by unfold cellOf;rw[hc]
   have:zvc env.cells ((n,yx)::r) acc=zvc env.cells r ((n,c)::acc):=by
    show zvc env.cells r (if(yx==yx)=true then(match env.cells.lookup n with|some c=>(n,c)::acc|none=>acc) else acc)=_;rw[hc];rfl
   rw[this,<-ih];show((do let c <-cellOf env n;pure (YZ ((n,c)::acc))) >>= _:Sem _)=_;rw[e];rfl
  ·have hb:(k==yx)=false:=by simpa using hk
   have:zvc env.cells ((n,k)::r) acc=zvc env.cells r acc:=by
    show zvc env.cells r (if(k==yx)=true then _ else acc)=_;rw[hb];rfl
   rw[this,<-ih];simp only[hb,Bool.false_eq_true,if_false];rfl
def zmp{scope:Xl}{env:Env}(h:∀x∈scope.names,x.2=.free->∃c,env.cells.lookup x.1=some c):closureFor scope env=pure (zvc env.cells scope.names []):=by
 have e:=znl (env:=env) scope.names [] h;unfold closureFor;show(forIn scope.names [] _ >>= λr=>pure r:Sem _)=_;rw[show(forIn scope.names ([]:List (yn×yc)) λ(x:yn×xn) (r:List (yn×yc))=>(match x with|(name,kind)=>if kind == .free then do let c <-cellOf env name;pure (YZ ((name,c)::r)) else pure (YZ r):Sem (ForInStep (List (yn×yc)))))=pure (zvc env.cells scope.names []) from e];rfl
def zbq{cells:List (yn×yc)}{x:yn}{c:yc}:∀(names:List (yn×xn)) (acc:List (yn×yc)),(zvc cells names acc).lookup x=some c->acc.lookup x=some c\/cells.lookup x=some c
 |[],_,h =>.inl h
 |(n,k)::r,acc,h=>by
  rcases zbq r _ h with q|q
  ·by_cases hk:(k==yx)=true
   ·rw[if_pos hk]at q
    cases e:cells.lookup n with
    |none=>rw[e]at q;exact .inl q
    |some a=>
     rw[e]at q;simp only[lookup_cons]at q
     by_cases hx:(x==n)=true
     ·rw[hx]at q;have hx':x=n:=by simpa using hx
      subst hx';cases q;exact .inr e
     ·have hx':(x==n)=false:=by simpa using hx
      rw[hx']at q;exact .inl q
   ·rw[if_neg hk]at q;exact .inl q
  ·exact .inr q
def zLw{cells:List (yn×yc)}{x:yn}:∀(names:List (yn×xn)) (acc:List (yn×yc)),(acc.lookup x).isSome=true->((zvc cells names acc).lookup x).isSome=true
 |[],_,h=>h
 |(n,k)::r,acc,h=>by
  refine zLw r _ ?_
  by_cases hk:(k==yx)=true
  ·rw[if_pos hk]
   cases e:cells.lookup n with
   |none=>exact h
   |some a=>
    simp only[lookup_cons]
    by_cases hx:(x==n)=true
    ·rw[hx];rfl
    ·have hx':(x==n)=false:=by simpa using hx
     rw[hx'];exact h
  ·rw[if_neg hk];exact h
def zaA{cells:List (yn×yc)}{x:yn}{c:yc}(hc:cells.lookup x=some c):∀(names:List (yn×xn)) (acc:List (yn×yc)),(x,yx)∈names->((zvc cells names acc).lookup x).isSome=true
 |[],_,h=>by cases h
 |(n,k)::r,acc,h=>by
  rcases List.mem_cons.mp h with h|h
  ·cases h;refine zLw r _ ?_;rw[if_pos (by rfl),hc];simp[lookup_cons]
  ·exact zaA hc r _ h
def cxC(X:Cx)(own:List yn)(fr:List Nat)(scope:Xl)(cl:List (yn×yc))(C:yc)(s₀:yd)(H₀:Hp)(fp:List yc):Cx :=
 {X with N:=own++fr.map λi=>X.N.getD i Str.empty,s₀:=s₀,H₀:=H₀,env:=compEnvC scope cl C X.env,outer:=X.stack,ex:=fp,fn:=λx=>scope.names.lookup x==some .cell,xe:=λ_ _=>False }
def σC(n:Nat)(fr:List Nat)(Y:L2.St):L2.St:=yy n none++fr.map λi=>(Y[i]?).getD none
def ztB(Y Y':L2.St):Prop:=Y'.length=Y.length/\∀(i:Nat) v,Y[i]?=some (some v)->Y'[i]?=some (some v)
def PF(X:Cx)(ifs:List yD)(t:TT):Prop:=∀(U:List (yc×YS)) (s:yd) (Y:L2.St) (H:Hp) (Q:Bool->Hp->Prop),Inv X U Y H s->t Y H Q ->
 yq (yC X.prog X.w) X.A (forIn ifs true λc r=>if r=true then do let ok <-isTrue c X.env (Yb c X.env);pure (YZ ok) else pure (YZ r)) (TP X U Y Q) X.xe s
def zQD{X:Cx}:PF X [] (λY H Q=>Q true H):=λU s Y H Q I h=>wpAny_tests_nil ⟨H,I,h⟩
def z3C{X:Cx}{c:yD}{t:TT}(h:PT X c t):PF X [c] t:=λU s Y H Q I hw=>wpAny_tests_one (h U s Y H Q I hw)
def tLC(n:Nat)(fr:List Nat)(wi:TI)(g:TG)(tc:TT)(te:TE):TE:=λY H Q=>wi Y H λδ H1=>∃W:Nat->Nat->List V->Hp->Prop,(∃m,W 0 m [] H1)/\∀i m ys H,W i m ys H ->
 (δ.stop i H/\∀p,H p=none->Q (.ref p) (upd H p (.lst ys))) \/
 (δ.go i H/\ys.length<yG/\∀x H',δ.yld i H x H'->g x (σC n fr Y) H' λY2 H2=>ztB (σC n fr Y) Y2/\tc Y2 H2 λb H3=>
  if b=true then te Y2 H3 λy H4=>∃m',m'<m/\W (i+1) m' (ys++[y]) H4 else ∃m',m'<m/\W (i+1) m' ys H3)
section
variable {X:Cx}{own:List yn}{fr:List Nat}{scope:Xl}{U:List (yc×YS)}{Y:L2.St}{H:Hp}{s:yd}
def z4f{env:Env}{x:yn}{k:xn}:∀{names:List (yn×xn)},(names.map λ(n,k)=>if(k==yx&&env.scope.kind == .function&&env.kindOf n==some .cell) then(n,yQ) else(n,k)).lookup x=some k ->
 (k=.cell\/k=.free)->(x,yx)∈names\/(x,yQ)∈names
 |[],h,_=>by simp at h
 |(n,k')::r,h,hk=>by
  rw[map_cons]at h
  by_cases hx:x=n
  ·subst hx
   by_cases hb:(k'==yx&&env.scope.kind == .function&&env.kindOf x==some .cell)=true
   ·have:k'=.free:=by
     simp only[yK,beq_iff_eq]at hb;exact hb.1.1
    subst this;exact .inl mem_cons_self
   ·have h2:((x,k')::r.map λ(n,k)=>if(k==yx&&env.scope.kind == .function&&env.kindOf n==some .cell) then(n,yQ) else(n,k)).lookup x=some k:=by
     have e:(if(k'==yx&&env.scope.kind == .function&&env.kindOf x==some .cell)=true then(x,yQ) else(x,k'))=(x,k'):=if_neg hb;rw[<-e];exact h
    simp only[lookup_cons,beq_self_eq_true]at h2;cases h2;rcases hk with rfl|rfl
    ·exact .inr mem_cons_self
    ·exact .inl mem_cons_self
  ·have hx':(x==n)=false:=by simpa using hx
   have h2:(r.map λ(n,k)=>if(k==yx&&env.scope.kind == .function&&env.kindOf n==some .cell) then(n,yQ) else(n,k)).lookup x=some k:=by
    by_cases hb:(k'==yx&&env.scope.kind == .function&&env.kindOf n==some .cell)=true
    ·have e:(if(k'==yx&&env.scope.kind == .function&&env.kindOf n==some .cell)=true then(n,yQ) else(n,k'))=(n,yQ):=if_pos hb;have h3:((n,yQ)::r.map λ(n,k)=>if(k==yx&&env.scope.kind == .function&&env.kindOf n==some .cell) then(n,yQ) else(n,k)).lookup x=some k:=by rw[<-e];exact h
     simpa only[lookup_cons,hx'] using h3
    ·have e:(if(k'==yx&&env.scope.kind == .function&&env.kindOf n==some .cell)=true then(n,yQ) else(n,k'))=(n,k'):=if_neg hb;have h3:((n,k')::r.map λ(n,k)=>if(k==yx&&env.scope.kind == .function&&env.kindOf n==some .cell) then(n,yQ) else(n,k)).lookup x=some k:=by rw[<-e];exact h
     simpa only[lookup_cons,hx'] using h3
   rcases z4f h2 hk with q|q
   ·exact .inl (mem_cons_of_mem _ q)
   ·exact .inr (mem_cons_of_mem _ q)
def zil{env:Env}{x:yn}:∀{names:List (yn×xn)},names.lookup x=some .free ->
 (names.map λ(n,k)=>if(k==yx&&env.scope.kind == .function&&env.kindOf n==some .cell) then(n,yQ) else(n,k)).lookup x=some .cell \/
 (names.map λ(n,k)=>if(k==yx&&env.scope.kind == .function&&env.kindOf n==some .cell) then(n,yQ) else(n,k)).lookup x=some .free
 |[],h=>by simp at h
 |(n,k')::r,h=>by
  rw[map_cons]
  by_cases hx:x=n
  ·subst hx;simp only[lookup_cons,beq_self_eq_true]at h;cases h
   by_cases hb:(yx==yx&&env.scope.kind == .function&&env.kindOf x==some .cell)=true
   ·have e:(if(yx==yx&&env.scope.kind == .function&&env.kindOf x==some .cell)=true then(x,yQ) else(x,yx))=(x,yQ):=if_pos hb
    left
    show xm x ((if(yx==yx&&env.scope.kind == .function&&env.kindOf x==some .cell)=true then(x,yQ) else(x,yx))::_)=_;rw[e];simp[lookup_cons]
   ·have e:(if(yx==yx&&env.scope.kind == .function&&env.kindOf x==some .cell)=true then(x,yQ) else(x,yx))=(x,yx):=if_neg hb
    right
    show xm x ((if(yx==yx&&env.scope.kind == .function&&env.kindOf x==some .cell)=true then(x,yQ) else(x,yx))::_)=_;rw[e];simp[lookup_cons]
  ·have hx':(x==n)=false:=by simpa using hx
   simp only[lookup_cons,hx']at h;have ih:=zil (env:=env) h
   have step:∀k,(r.map λ(n,k)=>if(k==yx&&env.scope.kind == .function&&env.kindOf n==some .cell) then(n,yQ) else(n,k)).lookup x=some k ->
    xm x ((if(k'==yx&&env.scope.kind == .function&&env.kindOf n==some .cell)=true then(n,yQ) else(n,k'))::(r.map λ(n,k)=>if(k==yx&&env.scope.kind == .function&&env.kindOf n==some .cell) then(n,yQ) else(n,k)))=some k:=λk hk=>by
     by_cases hb:(k'==yx&&env.scope.kind == .function&&env.kindOf n==some .cell)=true
     ·rw[if_pos hb];simpa only[lookup_cons,hx'] using hk
     ·rw[if_neg hb];simpa only[lookup_cons,hx'] using hk
   rcases ih with ih|ih
   ·exact .inl (step _ ih)
   ·exact .inr (step _ ih)
def zWs{b:yc}(I:Inv X U Y H s)(h1:b≠X.env.locals)(h2:b∉X.fs):b∉frs X.stack:=λz=>
 (List.mem_cons.mp (I.sM b z)).elim h1 h2
def σC_get{n:Nat}{i:Nat}{v:V}(h:(σC n fr Y)[i]?=some (some v)):n<=i/\∃j,fr[i-n]?=some j/\Y[j]?=some (some v):=by
 unfold σC at h
 by_cases hi:i<n
 ·rw[yv (by simpa using hi),YR]at h
  split at h<;>cases h
 ·have hi:n<=i:=Xw hi;rw[Yd (by simpa using hi),Xi,yr]at h
  cases e:fr[i-n]? with
  |none=>rw[e]at h;cases h
  |some j=>
   rw[e]at h;refine⟨hi,j,rfl,?_⟩;have h':(Y[j]?).getD none=some v:=yW h
   cases e2:Y[j]? with
   |none=>rw[e2]at h';cases h'
   |some o=>rw[e2]at h';exact congrArg some h'
def zso:∀(names:List (yn×xn)) (n:Nat) (acc:List (yn×yc)),Ys n names acc=Ys n names []++acc
 |[],n,acc=>rfl
 |(x,k)::r,n,acc=>by
  unfold Ys
  split
  ·rw[zso r (n+1) ((x,n)::acc),zso r (n+1) [(x,n)]];simp
  ·exact zso r n acc
def zkp:∀(names:List (yn×xn)) (n:Nat) (x:yn) (c:yc),(x,c)∈Ys n names []->n<=c/\(x,yQ)∈names
 |[],n,x,c,h=>by cases h
 |(y,k)::r,n,x,c,h=>by
  unfold Ys at h
  split at h
  ·rename_i hk
   rw[zso]at h;rcases List.mem_append.mp h with h|h
   ·obtain⟨h1,h2⟩:=zkp r (n+1) x c h;exact⟨Nat.le_of_succ_le h1,mem_cons_of_mem _ h2⟩
   ·have e:(x,c)=(y,n):=by simpa using h
    cases e;rw[beq_iff_eq.mp hk];exact⟨yk _,mem_cons_self⟩
  ·obtain⟨h1,h2⟩:=zkp r n x c h;exact⟨h1,mem_cons_of_mem _ h2⟩
def z4s{names:List (yn×xn)}{n:Nat}{acc:List (yn×yc)}{x:yn}{c:yc}(h:(Ys n names acc).lookup x=some c):(Ys n names []).lookup x=some c\/((Ys n names []).lookup x=none/\acc.lookup x=some c):=by
 rw[zso,List.lookup_append]at h
 cases e:(Ys n names []).lookup x with
 |none=>rw[e]at h;exact .inr ⟨rfl,h⟩
 |some d=>rw[e]at h;exact .inl h
def zJB{names:List (yn×xn)}{n:Nat}{x:yn}(hn:∀y∈names,names.lookup y.1=some y.2)(h:(x,yx)∈names):(Ys n names []).lookup x=none:=by
 cases e:(Ys n names []).lookup x with
 |none=>rfl
 |some c=>
  have h1:=hn _ (zkp _ _ _ _ (yX e)).2;have h2:=hn _ h;rw[h1]at h2;cases h2
def ztz{fp:List yc}{D C:yc}{lo:Nat}{h1:yS}{t:Nat}{mC:yn->Option yb}{oD:YS}(I:Inv X U Y H s)(hf:∀b∈fp,zSs X U H b)(hfl:∀b∈fp,b<s.heap.objs.size)
 (hk:scope.kind=.function) (hnm:∀y∈scope.names,scope.names.lookup y.1=some y.2) (hfree:∀x∈scope.names,x.2=.free->(X.env.kindOf x.1=some .cell\/X.env.kindOf x.1=some .free))
 (hfr:∀i∈fr,∃x,X.N[i]?=some x/\scope.names.lookup x=some .free) (hlo:C<lo) (hOC:CellsOk h1 lo (Ys lo scope.names []))
 (old:∀b o,s.heap.get? b=some o->h1.get? b=some o) (hD:s.heap.objs.size<=D) (hC:s.heap.objs.size<=C) (hDC:D≠C) (hDlo:D<lo) (eD:h1.get? D=some oD) (dD:∀v,oD.data≠.cell v) (nC:h1.Ns C mC) :
 Inv (cxC X own fr scope (Ys lo scope.names (zvc X.env.cells scope.names [])) C s H fp) (U++[(D,oD)]) (σC own.length fr Y) H {s with heap:=h1,toks:=t }:=by
 have cl1:∀x c,(zvc X.env.cells scope.names []).lookup x=some c->X.env.cells.lookup x=some c:=λx c e=>by
  rcases zbq _ _ e with q|q
  ·cases q
  ·exact q
 have clH:∀x,(x,yx)∈scope.names->∃c,(Ys lo scope.names (zvc X.env.cells scope.names [])).lookup x=some c/\X.env.cells.lookup x=some c:=λx hx=>by
  obtain⟨c,hc⟩:=I.ok.has x (hfree _ hx rfl);obtain⟨c',hc'⟩:=Option.isSome_iff_exists.mp (zaA hc scope.names [] hx);exact⟨c',by rw[zso,List.lookup_append,zJB hnm hx];exact hc',cl1 _ _ hc'⟩
 have two:∀x c,(Ys lo scope.names (zvc X.env.cells scope.names [])).lookup x=some c->((Ys lo scope.names []).lookup x=some c/\lo<=c)\/X.env.cells.lookup x=some c:=λx c e=>by
  rcases z4s e with q|⟨_,q⟩
  ·exact .inl ⟨q,(zkp _ _ _ _ (yX q)).1⟩
  ·exact .inr (cl1 _ _ q)
 have oldc:∀x c,X.env.cells.lookup x=some c->c<s.heap.objs.size:=λx c e=>by
  obtain⟨v,o,ho,_⟩:=I.cell x c e;exact yo ho
 have hslo:s.heap.objs.size<=lo:=yF hC (YU hlo)
 refine⟨⟨I.ok.mod,hk,I.ok.glob,I.ok.blt,hC,λx y c e1 e2=>?inj,λx hx=>?_,λx c hx e=>?cab,I.ok.hd,I.ok.frames,.inl rfl,λb hb=>⟨?_,λx c e=>?exf⟩,I.bs,yF I.ok.bsz I.sz,λb o e hb=>?_,λb hb=>?_,I.stack,I.Sl⟩,
  rfl,I.bare,Un.kept old,⟨mC,nC,λi x v h1 h2 h3=>?_⟩,λx c e=>?cell,I.hok.fresh hC,λx c e=>?freeC,λp hp=>?_,I.hok.kept old,?_⟩
 case inj=>
  rcases two x c e1 with ⟨q1,l1⟩|q1
  ·rcases two y c e2 with ⟨q2,_⟩|q2
   ·exact name_of_addr hOC.apart (yX q1) (yX q2)
   ·exact absurd (yE (oldc y c q2) (yF hslo l1)) (yY _)
  ·rcases two y c e2 with ⟨_,l2⟩|q2
   ·exact absurd (yE (oldc x c q1) (yF hslo l2)) (yY _)
   ·exact I.ok.inj x y c q1 q2
 case cab=>
  have hx:(scope.names.lookup x==some .cell)=true:=hx;obtain⟨d,hd⟩:=Option.isSome_iff_exists.mp (W.cellsFrom_some scope.names lo [] (.inl (beq_iff_eq.mp hx)));rcases z4s (show(Ys lo scope.names (zvc X.env.cells scope.names [])).lookup x=some c from e) with q|⟨q,_⟩
  ·exact yF hslo (zkp _ _ _ _ (yX q)).1
  ·rw[q]at hd;cases hd
 case exf=>
  rcases two x c e with ⟨_,l⟩|q
  ·exact Yk (yE (hfl b hb) (yF hslo l))
  ·exact(hf b hb).2.2.2.2.1 x c q
 case cell=>
  rcases two x c e with ⟨q,_⟩|q
  ·exact⟨none,(hOC.empty x c (yX q)).1⟩
  ·obtain⟨v,o,ho,hd⟩:=I.cell x c q;exact⟨v,o,old _ _ ho,hd⟩
 case freeC=>
  rcases two x c e with ⟨_,l⟩|q
  ·exact I.hok.fresh (yF hslo l)
  ·exact I.freeC x c q
 ·have hx':(relabel scope X.env).names.lookup x=some .cell\/(relabel scope X.env).names.lookup x=some .free:=hx
  have hm:(x,yx)∈scope.names\/(x,yQ)∈scope.names:=by
   rcases hx' with h|h
   ·exact z4f (env:=X.env) h (.inl rfl)
   ·exact z4f (env:=X.env) h (.inr rfl)
  rcases hm with hm|hm
  ·obtain⟨c,e,_⟩:=clH x hm;exact⟨c,e⟩
  ·exact Option.isSome_iff_exists.mp (W.cellsFrom_some scope.names lo _ (.inl (hnm _ hm)))
 ·exact yz (yE (hfl b hb) hC)
 ·rcases(hf b hb).2.2.2.1 with z|z
  ·exact I.ok.Sx b o e z
  ·exact absurd (yE (yo e) (yF I.ok.bsz z)) (yY _)
 ·exact zWs I (hf b hb).2.1 (hf b hb).2.2.1
 ·obtain⟨hi,j,e1,e2⟩:=σC_get h2;have hjm:j∈fr:=mem_of_getElem? e1;obtain⟨y,ey,ly⟩:=hfr j hjm
  have hxy:x=y:=by
   have h1':(own++fr.map λi=>X.N.getD i Str.empty)[i]?=some x:=h1;rw[Yd hi,yr,e1]at h1';have h1'':X.N.getD j Str.empty=x:=yW h1';rw[getD_eq_getElem?_getD,ey]at h1'';exact h1''.symm
  subst hxy;have hm:(x,yx)∈scope.names:=yX ly
  have hv:Vis X.env.scope x:=by
   rcases hfree _ hm rfl with q|q
   ·exact .inr (.inl q)
   ·exact .inr (.inr q)
  obtain⟨m,hn,hl⟩:=id I.loc;obtain⟨u,ru,q⟩:=hl j x v ey e2 hv;obtain⟨c,c1,c2⟩:=clH x hm;refine⟨u,ru,.inr ⟨zil (env:=X.env) ly,c,c1,?_⟩⟩;rcases q with ⟨k,_⟩|⟨k,c',e',z⟩
  ·rcases hfree _ hm rfl with q|q
   ·rw[show X.env.kindOf (x,yx).1=X.env.kindOf x from rfl,k]at q;cases q
   ·rw[show X.env.kindOf (x,yx).1=X.env.kindOf x from rfl,k]at q;cases q
  ·rw[c2]at e';cases e';obtain⟨o,ho,hd⟩:=z;exact⟨o,old _ _ ho,hd⟩
 ·have hp':p∈X.pn++(U++[(D,oD)]):=hp;rw[<-append_assoc]at hp';rcases List.mem_append.mp hp' with hp'|hp'
  ·obtain⟨a1,a2,a3,a4,a5⟩:=I.pin p hp';exact⟨old _ _ a1,a2,yz (yE (yo a1) hC),zWs I a3 a4,a5⟩
  ·have:p=(D,oD):=by simpa using hp'
   subst this;refine⟨eD,I.hok.fresh hD,hDC,λz=>?_,dD⟩;rcases List.mem_cons.mp (I.sM _ z) with z|z
   ·exact absurd (yE I.lt (z▸hD)) (yY _)
   ·exact I.nofs hD z
 ·show(σC own.length fr Y).length=(own++fr.map λi=>X.N.getD i Str.empty).length;unfold σC;simp
end
def HOk.track{P:yu}{w:yI}{H:Hp}{h:yS}{a:yc}{o:HO}(x:HOk P w H h)(hn:H a=none)(new:tI P w (upd H a o) h a o):HOk P w (upd H a o) h:=λb u e=>by
 by_cases hb:b=a
 ·subst hb;rw[zM]at e;cases e;exact new
 ·rw[zab hb]at e;exact(x b u e).stay (λc v _ q=>q) (λc q=>by rw[zab (zY q hn)];exact q) λc xs q=>by rw[zab (zY q hn)];exact q
def newEnvC{M:Model}{A:yJ}{E:yb->yd->Prop}{s:yd}{scope:Xl}{globals:yc}{cl:List (yn×yc)}{qual:yn}{env:Env}{Q:Env->yd->Prop}
 (hQ:Q (newEnv scope s.heap.objs.size globals (Ys (s.heap.objs.size+1) scope.names cl) qual none .none (some env) builtinsNs) {s with heap:=pushCells (s.heap.push {cls:=.type "dict",data:=.dict #[]}) scope.names }) :
 yq M A (newFunctionEnv scope globals cl [] qual none .none (some env)) Q E s:=by
 simp only[newFunctionEnv,Option.isSome_some,if_true];refine ya (wpAny_alloc ?_);refine ya (wpAny_layCells _ (λname kind cells=>by cases hkc:kind==yQ<;>simp[hkc]) _ _ _ _ ?_);rw[show({s with heap:=s.heap.push {cls:=.type "dict",data:=.dict #[]}}:yd).heap.objs.size=s.heap.objs.size+1 from yT ..];refine ya ?_;rw[forIn_nil];exact yg (yg hQ)
section
variable {X:Cx}{own:List yn}{fr:List Nat}{scope:Xl}
structure Si(X:Cx)(U:List (yc×YS))(Y:L2.St)(H:Hp)(ys:List V)(D C:yc)(s:yd):Prop where
 inv:Inv X U Y (upd H D (.lst ys)) s
 free:H D=none
 freeC:upd H D (.lst ys) C=none
 own:∃m,s.heap.Ns C m
 notL:C≠X.env.locals
 young:X.s₀.heap.objs.size<=C
 sQ:∀x c,X.env.cells.lookup x=some c->c≠C
 SA:∀p∈X.pn++U,p.1≠C
def zGw{elt tg iter:yD}{ifs:List yD}{pos:xo}{g:TG}{tc:TT}{te:TE}{U:List (yc×YS)}{Y:L2.St}{s2:yd}{Qn:List V->Hp->Prop}{itv:yb}{RR:yb->yc->Result->yd->Prop}(own:List yn)(fr:List Nat)(hc:X.calm=true)
 (hg:∀cl C s₀ H₀ fp,PG (cxC X own fr scope cl C s₀ H₀ fp) tg g) (hq:∀cl C s₀ H₀ fp,PF (cxC X own fr scope cl C s₀ H₀ fp) ifs tc) (he:∀cl C s₀ H₀ fp,PE (cxC X own fr scope cl C s₀ H₀ fp) elt te)
 (hk:scope.kind=.function) (hnm:∀y∈scope.names,scope.names.lookup y.1=some y.2)
 (hfree:∀x∈scope.names,x.2=.free->(X.env.kindOf x.1=some .cell\/X.env.kindOf x.1=some .free)) (hfr:∀i∈fr,∃x,X.N[i]?=some x/\scope.names.lookup x=some .free)
 (h2:PIE X U Y tg (λδ H1=>∃W:Nat->Nat->List V->Hp->Prop,(∃m,W 0 m [] H1)/\∀i m ys H,W i m ys H ->
  (δ.stop i H/\Qn ys H)\/(δ.go i H/\ys.length<yG/\∀x H',δ.yld i H x H'->g x (σC own.length fr Y) H' λY2 H2=>ztB (σC own.length fr Y) Y2/\tc Y2 H2 λb H3=>
   if b=true then te Y2 H3 λy H4=>∃m',m'<m/\W (i+1) m' (ys++[y]) H4 else ∃m',m'<m/\W (i+1) m' ys H3)) itv s2)
 (fin:∀ys H D C s4,Qn ys H->Si X U Y H ys D C s4->RR (.ref D) C (.ok .next) s4) :
 yq (yC X.prog X.w) X.A (newList []) (λacc s₃=>yq (yC X.prog X.w) X.A (newFunctionEnv scope X.env.globals (zvc X.env.cells scope.names []) [] X.env.qual none .none (some X.env)) (λcenv s₄=>
  codeAny (yC X.prog X.w) X.A (.compStart (.ListComp elt [⟨tg,iter,ifs,0⟩] scope pos) 0 itv acc {cenv with scope:=relabel scope X.env }) (RR acc cenv.locals) s₄) X.xe s₃) X.xe s2:=by
 obtain⟨it,fp,tn,δ,H2,e,I2,T,st2,f2,W,⟨m0,w0⟩,turn⟩:=h2;subst e
 have hfl:∀b∈fp,b<s2.heap.objs.size:=λb hb=>by
  obtain⟨o,e,_⟩:=T.obj _ _ st2 b hb;exact yo e
 refine Yh (newEnvC ?_);dsimp only;generalize hH2:s2.heap.push {cls:=.type "list",dict:=none,data:=.seq ([]:List yb).toArray } = φ2;have hC:φ2.objs.size=s2.heap.objs.size+1:=by rw[<-hH2,yT]
 have hDC:s2.heap.objs.size≠φ2.objs.size:=by rw[hC];exact yz (Yr _)
 have hCle:s2.heap.objs.size<=φ2.objs.size:=by rw[hC];exact Nat.le_succ _
 have below:∀b,b<s2.heap.objs.size->b≠φ2.objs.size/\b≠s2.heap.objs.size:=λb hb=>⟨by rw[hC];exact yz (Yx hb),yz hb⟩
 have hns₁:(pushCells (φ2.push {cls:=.type "dict",data:=.dict #[]}) scope.names).Ns φ2.objs.size (λ_=>none):=(Heap.Ns.new φ2 (.type "dict")).keeps λb o e=>pushCells_keeps _ _ _ _ e
 have hok₁:CellsOk (pushCells (φ2.push {cls:=.type "dict",data:=.dict #[]}) scope.names) (φ2.objs.size+1) (Ys (φ2.objs.size+1) scope.names []):=by
  have:=cellsFrom_ok scope.names (φ2.push {cls:=.type "dict",data:=.dict #[]}) (φ2.objs.size+1) [] ⟨λ_ _ hm=>(nomatch hm),List.Pairwise.nil⟩ (by rw[yT];exact yk _);rw[yT]at this;exact this
 have hk₁:∀b o,φ2.get? b=some o->(pushCells (φ2.push {cls:=.type "dict",data:=.dict #[]}) scope.names).get? b=some o:=λb o e=>pushCells_keeps _ _ _ _ (ye _ e);generalize pushCells (φ2.push {cls:=.type "dict",data:=.dict #[]}) scope.names=h₁ at hns₁ hok₁ hk₁ ⊢;have old:∀b o,s2.heap.get? b=some o->h₁.get? b=some o:=λb o e=>hk₁ b o (hH2▸ye _ e);have hacc:h₁.get? s2.heap.objs.size=some {cls:=.type "list",data:=.seq ([]:List yb).toArray 0 }:=hk₁ _ _ (hH2▸ym _ rfl);generalize hXC:cxC X own fr scope (Ys (φ2.objs.size+1) scope.names (zvc X.env.cells scope.names [])) φ2.objs.size s2 H2 fp=XC;have eenv:compEnvC scope (Ys (φ2.objs.size+1) scope.names (zvc X.env.cells scope.names [])) φ2.objs.size X.env=XC.env:=by rw[<-hXC];rfl
 have eprog:XC.prog=X.prog:=by rw[<-hXC];rfl
 have ew:XC.w=X.w:=by rw[<-hXC];rfl
 have eA:XC.A=X.A:=by rw[<-hXC];rfl
 have eK:XC.K=X.K:=by rw[<-hXC];rfl
 have ecalm:XC.calm=true:=by rw[<-hXC];exact hc
 have exe:XC.xe=λ_ _=>False:=by rw[<-hXC];rfl
 have eloc:XC.env.locals=φ2.objs.size:=by rw[<-hXC];rfl
 have eex:XC.ex=fp:=by rw[<-hXC];rfl
 have efs:XC.fs=frs X.stack:=by rw[<-hXC];rfl
 have es0:XC.s₀=s2:=by rw[<-hXC];rfl
 have eH0:XC.H₀=H2:=by rw[<-hXC];rfl
 have epn:XC.pn=X.pn:=by rw[<-hXC];rfl
 have ecells:∀x c,XC.env.cells.lookup x=some c->X.env.cells.lookup x=some c\/φ2.objs.size<c:=λx c e=>by
  rw[<-hXC]at e;rcases z4s (show(Ys (φ2.objs.size+1) scope.names (zvc X.env.cells scope.names [])).lookup x=some c from e) with q|⟨_,q⟩
  ·exact .inr (zkp _ _ _ _ (yX q)).1
  ·rcases zbq _ _ q with q|q
   ·cases q
   ·exact .inl q
 have hg':PG XC tg g:=hXC▸hg _ _ _ _ _;have hq':PF XC ifs tc:=hXC▸hq _ _ _ _ _;have he':PE XC elt te:=hXC▸he _ _ _ _ _
 have fpok:∀{H':Hp} {pl:List (yc×YS)},(∀b∈fp,H' b=none)->(∀p∈pl,p.1=s2.heap.objs.size)->∀b∈fp,zSs XC (U++pl) H' b:=λ{H' pl} hn hpl b hb=>by
  obtain⟨_,f2,f3,f4,f5,f6⟩:=f2 b hb;refine⟨hn b hb,by rw[eloc];exact(below b (hfl b hb)).1,by rw[efs];exact zWs I2 f2 f3,.inl (by rw[eex];exact hb),λx c e=>?c5,λp hp=>?_⟩
  case c5=>
   rcases ecells x c e with q|q
   ·exact f5 x c q
   ·exact Yk (yE (hfl b hb) (yF hCle (YU q)))
  rw[epn,<-append_assoc]at hp;rcases List.mem_append.mp hp with hp|hp
  ·exact f6 p hp
  ·rw[hpl p hp];exact yM (below b (hfl b hb)).2
 have loop:∀s₃:yd,s₃ = {s2 with heap:=h₁ } ->
  codeAny (yC X.prog X.w) X.A (.compLoop (.ListComp elt [⟨tg,iter,ifs,0⟩] scope pos) 0 (.ref it) (.ref s2.heap.objs.size) (compEnvC scope (Ys (φ2.objs.size+1) scope.names (zvc X.env.cells scope.names [])) φ2.objs.size X.env))
   (RR (.ref s2.heap.objs.size) φ2.objs.size) s₃:=by
  rintro s₃ rfl;have I0:=ztz (own:=own) (fr:=fr) (t:=s2.toks) (lo:=φ2.objs.size+1) I2 f2 hfl hk hnm hfree hfr (Yr _) hok₁ old (yk _) hCle hDC (Nat.lt_succ_of_le hCle) hacc (by intro v z;cases z) hns₁;rw[hXC]at I0
  refine zXq (λn s'=>∃(i:Nat)(ys:List V)(its:Array yb)(k:Nat)(H':Hp),Inv XC (U++[(s2.heap.objs.size,({cls:=.type "list",data:=.seq its k }:YS))]) (σC own.length fr Y) H' s'/\Vals ys its.toList/\ys.length<=yG/\tn i s'.heap/\(∀b∈fp,H' b=none)/\W i n ys H') ?_ m0
   ⟨0,[],#[],0,H2,I0,.nil,Yy _,T.keep _ _ _ st2 (λb hb o e=>old b o e),λb hb=>(f2 b hb).1,w0⟩
  rintro n s3 ⟨i,ys,its,kk,H3,I3,rv,hz,st3,fr3,w3⟩
  have pl1:∀p∈[(s2.heap.objs.size,({cls:=.type "list",data:=.seq its kk }:YS))],p.1=s2.heap.objs.size:=λp hp=>by
   rw[List.mem_singleton.mp hp]
  rcases turn i n ys H3 w3 with ⟨stop,qn⟩|⟨go,hlt,step⟩
  ·have td:=T.done XC eprog ew eK ecalm i _ s3 _ H3 (λ_ _=>False) I3 (fpok fr3 pl1) st3 stop;rw[eA]at td;refine thn td λr s4 ⟨hr,I4⟩=>?_;subst hr;obtain⟨m,hn,_⟩:=id I4.loc;rw[eloc]at hn;obtain⟨p1,p2,p3,p4,p5⟩:=I4.pin (s2.heap.objs.size,_) (mem_append_right _ (mem_append_right _ mem_cons_self));have hnC:H3 φ2.objs.size=none:=by have:=I4.free;rw[eloc]at this;exact this
   have hokf:HOk X.prog X.w (upd H3 s2.heap.objs.size (.lst ys)) s4.heap:=by
    refine HOk.track (by have:=I4.hok;rw[eprog,ew]at this;exact this) p2 ⟨hz,its.toList,kk,rv,by simpa using p1⟩
   have u0:Un (frs X.stack) fp H2 H3 s2.heap s4.heap:=by
    have:=I4.base;rw[efs,eex,es0,eH0]at this;exact this
   have u1:Un (frs X.stack) fp H2 (upd H3 s2.heap.objs.size (.lst ys)) s2.heap s4.heap:=by
    have bd:∀b o,s2.heap.get? b=some o->b≠s2.heap.objs.size:=λb o e=>(below b (yo e)).2;refine⟨u0.keep,u0.slot,λb o e n hx=>by rw[zab (bd b o e)];exact u0.free b o e n hx,u0.there,λb xs e=>?_,λb o u e=>?_,λb ps e=>?_⟩
    ·have q:=u0.tups b xs e;rw[zab (zY q p2)];exact q
    ·have q:=u0.sC b o u e;rw[zab (zY q p2)];exact q
    ·obtain⟨more,q⟩:=u0.sL b ps e;exact⟨more,by rw[zab (zY q p2)];exact q⟩
   have os4:s4.os=s2.os:=by have:=I4.os;rw[es0]at this;exact this
   have IF:Inv X U Y (upd H3 s2.heap.objs.size (.lst ys)) {s2 with heap:=s4.heap,gens:=s4.gens,drawn:=s4.drawn,toks:=s4.toks } :=
    I2.call (h':=s4.heap) (ch:=fp) u1 hokf I4.bare λb hb=>by
     obtain⟨_,f2,f3,f4,f5,f6⟩:=f2 b hb;exact⟨f4,f2,f5,f6⟩
   have es:s4 = {s2 with heap:=s4.heap,gens:=s4.gens,drawn:=s4.drawn,toks:=s4.toks }:=by
    obtain⟨a1,a2,a3,a4,a5⟩:=s4;have:a5=s2.os:=os4;subst this;rfl
   rw[<-es]at IF;refine fin ys H3 _ _ s4 qn ⟨IF,p2,by rw[zab (yM hDC)];exact hnC,⟨m,hn⟩,yM (below _ I2.lt).1,yF I2.sz hCle,λx c e=>?_,λp hp=>?_⟩
   ·obtain⟨v,o,ho,_⟩:=I2.cell x c e;exact(below c (yo ho)).1
   ·exact(below p.1 (yo (I2.pin p hp).1)).1
  ·have td:=T.item XC eprog ew eK ecalm i _ s3 _ H3 (λ_ _=>False) I3 (fpok fr3 pl1) st3 go;rw[eA]at td;refine thn td λr s4 ⟨u,hr,h4⟩=>?_;subst hr;refine thn h4 λ_ s5 ⟨x,H5,I5,r5,y5,st5,fr5⟩=>?_;have I5':=I5.pinned (fpok fr5 pl1) (T.obj _ _ st5);have hgw:=hg' _ s5 _ H5 x u _ I5' r5 (step x H5 y5);rw[exe,eprog,ew,eA]at hgw;rw[eenv];refine thn hgw λ_ s6 ⟨Y6,H6,I6,⟨hsl,hsub⟩,q6⟩=>?_;have hqw:=hq' _ s6 Y6 H6 _ I6 q6;rw[exe,eprog,ew,eA]at hqw;refine thn hqw λok s7 ⟨H7,I7,q7⟩=>?_
   have back:∀{H8:Hp} {s8:yd},Inv XC (U++[(s2.heap.objs.size,({cls:=.type "list",data:=.seq its kk }:YS))]++ztr fp s5.heap) Y6 H8 s8 ->
    Inv XC (U++[(s2.heap.objs.size,({cls:=.type "list",data:=.seq its kk }:YS))]) (σC own.length fr Y) H8 s8/\tn (i+1) s8.heap/\∀b∈fp,H8 b=none:=λ{H8 s8} I8=>by
    refine⟨I8.Tx.weak hsl.symm hsub,T.keep _ _ _ st5 λb hb o e=>(I8.pin (b,o) (mem_append_right _ (mem_append_right _ (zFi hb e)))).1,λb hb=>?_⟩;obtain⟨o,e,d⟩:=T.obj _ _ st5 b hb;exact(I8.pin (b,o) (mem_append_right _ (mem_append_right _ (zFi hb e)))).2.1
   cases ok with
   |false=>
    have q7':∃m',m'<n/\W (i+1) m' ys H7:=by simpa using q7
    rw[if_neg yB];obtain⟨m',hm,w7⟩:=q7';obtain⟨δ1,δ2,δ3⟩:=back I7;exact⟨m',hm,i+1,ys,its,kk,H7,δ1,rv,hz,δ2,δ3,w7⟩
   |true=>
    rw[if_pos rfl]at q7 ⊢;have hew:=he' _ s7 Y6 H7 _ I7 q7;rw[exe,eprog,ew,eA]at hew;refine thn hew λy s8 ⟨vy,H8,I8,r8,m',hm,w8⟩=>?_;obtain⟨δ1,δ2,δ3⟩:=back I8;obtain⟨p1,p2,p3,p4,p5⟩:=δ1.pin (s2.heap.objs.size,_) (mem_append_right _ (mem_append_right _ mem_cons_self));have hil:its.size=ys.length:=by rw[rv.length];simp
    refine append_at (hsz:=by rw[hil];exact hz) p1 λh9 sb9 e9=>?_;have Df:s2.heap.objs.size∉fp:=λz=>absurd (hfl _ z) (yY _);have δ0:Inv XC U (σC own.length fr Y) H8 s8:=δ1.Tx
    have δ9:Inv XC U (σC own.length fr Y) H8 {s8 with heap:=h9 }:=by
     refine δ0.turned (t':=s8.toks) (it:=s2.heap.objs.size) (λb o hb e=>(sb9.2 b hb).trans e) p2 p3 (.inr (by rw[es0];exact yk _)) (λx c e z=>?_) (λp hp z=>?_)
     ·rcases ecells x c e with q|q
      ·obtain⟨v,o,ho,_⟩:=I2.cell x c q;exact(below c (yo ho)).2 z
      ·exact Yk (Nat.lt_of_le_of_lt hCle q) z
     ·rw[epn]at hp;exact(below p.1 (yo (I2.pin p hp).1)).2 z
    refine⟨m',hm,i+1,ys++[vy],its.push y,kk+1,H8,δ9.sN λp hp=>?_,?_,by simp;exact hlt,T.keep _ _ _ δ2 (λb hb o e=>(sb9.2 b (λz=>Df (z▸hb))).trans e),δ3,w8⟩
    ·rcases List.mem_append.mp hp with hp|hp
     ·exact δ9.pin p (mem_append_right _ hp)
     ·have e:=List.mem_singleton.mp hp;subst e;exact⟨e9,p2,p3,p4,by intro v z;cases z⟩
    ·rw[Array.toList_push];exact rv.append (.cons r8 .nil)
 exact codeAny_compStart_list (loop _ rfl) (T.self X.A 0 _ _ _ (T.keep _ _ _ st2 λb hb o e=>old b o e) (loop _ rfl))
def Si.gone{U:List (yc×YS)}{Y:L2.St}{H:Hp}{ys:List V}{D C:yc}{s:yd}(w:Si X U Y H ys D C s){h':yS}(sb:yL C s.heap h'):Inv X U Y (upd H D (.lst ys)) {s with heap:=h' } :=
 w.inv.turned (t':=s.toks) (λb o hb e=>(sb.2 b hb).trans e) w.freeC (yM (yM w.notL)) (.inr w.young) w.sQ w.SA
def z3E{elt tg iter:yD}{ifs:List yD}{pos:xo}{wi:TI}{g:TG}{tc:TT}{te:TE}(own:List yn)(fr:List Nat)(hc:X.calm=true)(hi:PI X tg iter wi)
 (hg:∀cl C s₀ H₀ fp,PG (cxC X own fr scope cl C s₀ H₀ fp) tg g) (hq:∀cl C s₀ H₀ fp,PF (cxC X own fr scope cl C s₀ H₀ fp) ifs tc) (he:∀cl C s₀ H₀ fp,PE (cxC X own fr scope cl C s₀ H₀ fp) elt te)
 (hk:scope.kind=.function) (hnm:∀y∈scope.names,scope.names.lookup y.1=some y.2)
 (hfree:∀x∈scope.names,x.2=.free->(X.env.kindOf x.1=some .cell\/X.env.kindOf x.1=some .free)) (hfr:∀i∈fr,∃x,X.N[i]?=some x/\scope.names.lookup x=some .free)
 (hs:∀x,YX iter X.env x=pure x:=by intro _;rfl):PE X (.ListComp elt [⟨tg,iter,ifs,0⟩] scope pos) (tLC own.length fr wi g tc te):=by
 intro U s Y H Q I h;rw[eval_ListComp];have hclos:closureFor scope X.env=pure (zvc X.env.cells scope.names []):=zmp λx hx e=>I.ok.has x.1 (hfree x hx e);refine wpAny_comprehension_free (use:=none) rfl hs hclos hk (λx hx e=>by rw[hnm x hx,e]) ?_;show yq _ _ (Yb iter X.env) _ _ s;refine thn (hi U s Y H _ I h) λv s1 h1=>thn h1 λitv s2 h2=>?_;refine zGw (RR:=λacc C=>compPost (yC X.prog X.w) X.A X.xe none (EP X U Y Q) acc C) own fr hc hg hq he hk hnm hfree hfr h2 λys H3 D C s4 q w=>?_;obtain⟨m,hn⟩:=w.own;exact⟨m,hn,λh' sb=>⟨.ref D,_,w.gone sb,rfl,q D w.free⟩⟩
def zVy{elt tg iter:yD}{ifs:List yD}{pos spos py:xo}{wi:TI}{g:TG}{tc:TT}{te:TE}{y:yn}{i:Nat}(own:List yn)(fr:List Nat)(hN:X.N.Nodup)(hiN:X.N[i]?=some y)(hy:X.env.scope.names.lookup y=some .local)(hc:X.calm=true)(hi:PI X tg iter wi)
 (hsw:swapsWith (.ListComp elt [⟨tg,iter,ifs,0⟩] scope pos) (some (.Name y py)) spos.line X.env=pure true)
 (hg:∀cl C s₀ H₀ fp,PG (cxC X own fr scope cl C s₀ H₀ fp) tg g) (hq:∀cl C s₀ H₀ fp,PF (cxC X own fr scope cl C s₀ H₀ fp) ifs tc) (he:∀cl C s₀ H₀ fp,PE (cxC X own fr scope cl C s₀ H₀ fp) elt te)
 (hk:scope.kind=.function) (hnm:∀y∈scope.names,scope.names.lookup y.1=some y.2)
 (hfree:∀x∈scope.names,x.2=.free->(X.env.kindOf x.1=some .cell\/X.env.kindOf x.1=some .free)) (hfr:∀i∈fr,∃x,X.N[i]?=some x/\scope.names.lookup x=some .free)
 (hs:∀x,YX iter X.env x=pure x:=by intro _;rfl):PS X (.Assign [.Name y py] (.ListComp elt [⟨tg,iter,ifs,0⟩] scope pos) spos) (zVE (tLC own.length fr wi g tc te) (z1B i)):=by
 intro U s Y H E I h;rw[exec_Assign_Name_used _ _ _ _ hsw];refine ya (wpAny_standAt (ya ?_));have hclos:closureFor scope X.env=pure (zvc X.env.cells scope.names []):=zmp λx hx e=>I.ok.has x.1 (hfree x hx e);show yq _ X.A (do let _ <-comprehension (.ListComp elt [⟨tg,iter,ifs,0⟩] scope pos) scope X.env _ (newList []) false (Yb iter X.env) (some (assign (.Name y py) X.env))) _ _ s;refine ya (xp (wpAny_comprehension_free (use:=some (assign (.Name y py) X.env)) (Q:=λ_ s'=>SP X U E .next s') rfl hs hclos hk (λx hx e=>by rw[hnm x hx,e]) ?_) (λ_ s' hq=>yg (yg hq)) λ_ _ e=>e);show yq _ _ (Yb iter X.env) _ _ s;refine thn (hi U s Y H _ I h) λv s1 h1=>thn h1 λitv s2 h2=>?_;refine zGw (RR:=λacc C=>compPost (yC X.prog X.w) X.A X.xe (some (assign (.Name y py) X.env)) (λ_ s'=>SP X U E .next s') acc C) own fr hc hg hq he hk hnm hfree hfr h2 λys H3 D C s4 q w=>?_;show yq _ X.A (assign (.Name y py) X.env (.ref D)) _ _ s4;obtain⟨m,hn⟩:=w.own;refine wpAny_assign_Name (zPq (v:=V.ref D) w.inv hN hiN (.inl hy) rfl (λs5 I5 ⟨a,sb,ha⟩=>?_) (.inr hy))
 have haC:C≠a:=by
  rcases ha with e|e
  ·rw[e];exact w.notL
  ·exact yM (w.sQ y a e)
 refine⟨m,hn.sameBut sb haC,λh' sb'=>?_⟩;refine⟨_,_,I5.turned (t':=s5.toks) (λb o hb e=>(sb'.2 b hb).trans e) w.freeC w.notL (.inr w.young) w.sQ w.SA,q D w.free⟩
variable {K:yw}{Z Z1:List yc}{H H1:Hp}
def sH.ext{W:XK}{E:Ends}{o:Out}(h:sH K W Z H E o)(x:Ext Z H Z1 H1):sH K W Z1 H1 E o:=by
 cases o with
 |next J O=>exact λZ' Y' H' x' A=>h Z' Y' H' (x.trans x') A
 |brk J O=>exact λZ' Y' H' x' A=>h Z' Y' H' (x.trans x') A
 |cont J O=>exact λZ' Y' H' x' A=>h Z' Y' H' (x.trans x') A
 |ret d O=>exact λZ' v H' x' R r=>h Z' v H' (x.trans x') R r
 |exc c fs O=>exact λZ' H' C dx hc x' R r=>h Z' H' C dx hc (x.trans x') R r
def At.set{Y:L2.St}{J:Loc}{O:Mem}{d:D}{v:V}(A:At K Z H Y J O)(r:tx K Z H d v)(i:Nat):At K Z H (Y.set i (some v)) (J.set i (some d)) O:=by
 refine⟨λj d' e=>?_,A.hp,by simp[A.len]⟩
 by_cases hj:j=i
 ·subst hj
  have hl:j<J.length:=by
   have:=(List.getElem?_eq_some_iff.mp e).1;simpa using this
  rw[yZ hl]at e;cases e;exact⟨v,by rw[yZ (by rw[A.len];exact hl)],r⟩
 ·rw[Yc (yM hj)]at e;obtain⟨u,e1,q⟩:=A.st j d' e;exact⟨u,by rw[Yc (yM hj)];exact e1,q⟩
variable {a b c e:yD}{es:List yD}{G ψ χ:FE}{pos:xo}{st:yR}{rest:List yR}
@[simp] def zHc:FS:=λJ O=>some (.next J O)
@[simp] def zgb(p q:FS):FS:=λJ O=>match p J O with
 |some (.next J' O')=>q J' O'
 |o=>o
def z7:MSs X [] zHc:=z5z zdB λZ J O Y H o E A e k=>by
 cases e;exact k Z Y H Ext.refl A
def zp{p:FS}(h:MS X st p):MSs X [st] p:=ziB h
def zn{p q:FS}(h1:MS X st p)(h2:MSs X rest q):MSs X (st::rest) (zgb p q) :=
 z5z (zQy h1 h2) λZ J O Y H o E A e k=>by
  unfold zgb at e;show tMS X.K (zYv X) p {E with nx:=tMS X.K (zYv X) q E } Y H
  cases ep:p J O with
  |none=>rw[ep]at e;cases e
  |some op=>
   rw[ep]at e;refine⟨Z,J,O,op,A,ep,?_⟩
   cases op with
   |next J' O'=>exact λZ' Y' H' x' A'=>⟨Z',J',O',o,A',e,k.ext x'⟩
   |brk J' O'=>cases e;exact k
   |cont J' O'=>cases e;exact k
   |ret d O'=>cases e;exact k
   |exc C fs O'=>cases e;exact k
@[simp] def zbc(G:FE):FS:=λJ O=>(G J O).bind λp=>some (.ret p.1 p.2)
def zE(h:ME X e G):MS X (.Return (some e) pos) (zbc G):=zOl (zOD h) λZ J O Y H o E A e k=>by
 obtain⟨⟨x,O1⟩,e1,e⟩:=zm e;cases e;exact⟨Z,J,O,x,O1,A,e1,λZ' H' v x' R r=>k Z' v H' x' R r⟩
@[simp] def zyj(G:FE):FS:=λJ O=>(G J O).bind λp=>some (.next J p.2)
def z0f(h:ME X e G)(hs:swapsWith e none pos.line X.env=pure false:=by rfl):MS X (.Expr e pos) (zyj G):=zOl (zMA h hs) λZ J O Y H o E A e k=>by
 obtain⟨⟨x,O1⟩,e1,e⟩:=zm e;cases e;exact⟨Z,J,O,x,O1,A,e1,λZ' H' v x' R r=>k Z' Y H' x' (A.ext x' R)⟩
@[simp] def zxc(i:Nat)(G:FE):FS:=λJ O=>(G J O).bind λp=>some (.next (J.set i (some p.1)) p.2)
def zN{x:yn}{pos':xo}(i:Nat)(he:ME X e G)(hN:X.N.Nodup:=by first|assumption|decide)(hi:X.N[i]?=some x:=by rfl)(hx:L2.Loc X.env.scope x:=by first|exact Or.inl rfl|exact Or.inr rfl)(hs:swapsWith e (some (.Name x pos')) pos.line X.env=pure false:=by rfl)
 (hf:X.fn x=true\/X.env.scope.names.lookup x=some .local:=by first|exact .inl rfl|exact .inr rfl|assumption):MS X (.Assign [.Name x pos'] e pos) (zxc i G):=zOl (zyD hN hi hx he hs hf) λZ J O Y H o E A e k=>by
 obtain⟨⟨x,O1⟩,e1,e⟩:=zm e;cases e;exact⟨Z,J,O,x,O1,A,e1,λZ' H' v x' R r=>k Z' _ H' x' ((A.ext x' R).set r i)⟩
@[simp] def sIf(c:FT)(p q:FS):FS:=λJ O=>(c J O).bind λt=>bif t.1 then p J t.2 else q J t.2
def zQc{s1 s2:List yR}{t:FT}{p q:FS}(hc:MT X c t)(h1:MSs X s1 p)(h2:MSs X s2 q):MS X (.If c s1 s2 pos) (sIf t p q):=zOl (zeF hc h1 h2) λZ J O Y H o E A e k=>by
 obtain⟨⟨x,O1⟩,e1,e⟩:=zm e;refine⟨Z,J,O,x,O1,A,e1,λZ' H' x' R=>?_⟩
 cases x with
 |true=>exact Sh ⟨Z',J,O1,o,A.ext x' R,e,k.ext x'⟩
 |false=>exact Sg ⟨Z',J,O1,o,A.ext x' R,e,k.ext x'⟩
def zXh:FS:=λ_ _=>none
def zte:MS X st zXh:=zOl zqy λ_ _ _ _ _ _ _ _ e _=>by cases e
abbrev FG:=D->Loc->Mem->Option (Loc×Mem)
abbrev FGs:=List D->Loc->Mem->Option (Loc×Mem)
def tMG(K:yw)(g:FG):TG:=λv Y H Q=>∃Z J O d J' O',At K Z H Y J O/\tx K Z H d v/\g d J O=some (J',O')/\∀Z' Y' H',Ext Z H Z' H'->At K Z' H' Y' J' O'->Q Y' H'
def zWF(K:yw)(g:FGs):TGs:=λvs Y H Q=>∃Z J O ds J' O',At K Z H Y J O/\tj K Z H ds vs/\g ds J O=some (J',O')/\∀Z' Y' H',Ext Z H Z' H'->At K Z' H' Y' J' O'->Q Y' H'
def MG(X:Cx)(t:yD)(g:FG):Prop:=PG X t (tMG X.K g)
def MGs(X:Cx)(t:List yD)(g:FGs):Prop:=PGs X t (zWF X.K g)
def mg_of{t:yD}{tt:TG}{g:FG}(h:PG X t tt)(w:∀Z J O d J' O' v Y H Q,At X.K Z H Y J O->tx X.K Z H d v->g d J O=some (J',O')->(∀Z' Y' H',Ext Z H Z' H'->At X.K Z' H' Y' J' O'->Q Y' H')->tt v Y H Q):MG X t g :=
 by intro U s Y H v u Q I r hh;obtain⟨Z,J,O,d,J',O',A,q,e,k⟩:=hh;exact h U s Y H v u Q I r (w Z J O d J' O' v Y H Q A q e k)
def ziA{t:List yD}{tt:TGs}{g:FGs}(h:PGs X t tt)(w:∀Z J O d J' O' v Y H Q,At X.K Z H Y J O->tj X.K Z H d v->g d J O=some (J',O')->(∀Z' Y' H',Ext Z H Z' H'->At X.K Z' H' Y' J' O'->Q Y' H')->tt v Y H Q):MGs X t g :=
 by intro U s Y H v u Q I r hh;obtain⟨Z,J,O,d,J',O',A,q,e,k⟩:=hh;exact h U s Y H v u Q I r (w Z J O d J' O' v Y H Q A q e k)
@[simp] def gN(i:Nat):FG:=λd J O=>some (J.set i (some d),O)
def ztc{x:yn}(i:Nat)(hN:X.N.Nodup:=by first|assumption|decide)(hi:X.N[i]?=some x:=by rfl)(hx:L2.Loc X.env.scope x:=by first|exact Or.inl rfl|exact Or.inr rfl)(hf:X.fn x=true\/X.env.scope.names.lookup x=some .local:=by first|exact .inl rfl|exact .inr rfl|assumption):MG X (.Name x pos) (gN i) :=
 mg_of (zFw hN hi hx hf) λZ J O d J' O' v Y H Q A q e k=>by
  cases e;exact k Z _ H Ext.refl (A.set q i)
@[simp] def zRj:FGs:=λds J O=>match ds with
 |[]=>some (J,O)
 |_=>none
@[simp] def zPc(g:FG)(gs:FGs):FGs:=λds J O=>match ds with
 |d::r=>(g d J O).bind λp=>gs r p.1 p.2
 |_=>none
def zhq:MGs X [] zRj:=ziA zKw λZ J O ds J' O' vs Y H Q A q e k=>by
 unfold zRj at e
 split at e
 ·cases e;exact⟨q.nil_inv,k Z Y H Ext.refl A⟩
 ·cases e
def zKf{g:FG}{gs:FGs}(h1:MG X e g)(h2:MGs X es gs)(hs:(YW (e::es) X.env).map (·.2)=assign e X.env::(YW es X.env).map (·.2):=by rfl):MGs X (e::es) (zPc g gs) :=
 ziA (z3t h1 h2 hs) λZ J O ds J' O' vs Y H Q A q e k=>by
  unfold zPc at e
  split at e
  ·obtain⟨⟨J1,O1⟩,e1,e⟩:=zm e;obtain⟨v,r,rfl,q1,q2⟩:=q.cons_inv;refine⟨v,r,rfl,Z,J,O,_,J1,O1,A,q1,e1,λZ1 Y1 H1 x1 A1=>?_⟩;exact⟨Z1,J1,O1,_,J',O',A1,q2.ext x1,e,λZ2 Y2 H2 x2 A2=>k Z2 Y2 H2 (x1.trans x2) A2⟩
  ·cases e
@[simp] def gT(n:Nat)(gs:FGs):FG:=λd J O=>match d with
 |.tup ds=>bif ds.length==n then gs ds J O else none
 |_=>none
def zbu{k n:Nat}{gs:FGs}(h:MGs X es gs)(hc:X.calm=true:=by rfl)(hn:(YW es X.env).length=n:=by rfl)(hst:(YW es X.env).findIdx? (·.1)=none:=by rfl):MG X (.Tuple es k pos) (gT n gs) :=
 mg_of (zvA hc h hn hst) λZ J O d J' O' v Y H Q A q e k=>by
  unfold gT at e
  split at e
  ·obtain⟨h1,e⟩:=zP e;obtain⟨a,vs,rfl,e2,q2⟩:=q.tN;exact⟨a,vs,rfl,SqT.of e2,by rw[<-q2.length];exact beq_iff_eq.mp h1,Z,J,O,_,J',O',A,q2,e,k⟩
  ·cases e
@[simp] def gAt(G ψ:FE):FG:=λd J O=>(G J O).bind λp=>(ψ J p.2).bind λq=>match p.1,q.1 with
 |.loc n,.int i=>match q.2[n]? with
  |some (.lst ds)=>(ixN ds.length i).bind λj=>some (J,q.2.set n (.lst (ds.set j d)))
  |_=>none
 |_,_=>none
def zzz{o i:yD}(ho:ME X o G)(hi:ME X i ψ)(ha:∀v,assign (.Subscript o i pos) X.env v=(do
 let ov <-xD [v] (Yb o X.env)
 let iv <-xD [v,ov] (Yb i X.env)
 standAt pos
 xD [v,ov,iv] (setItem ov iv v)
 release [v,ov,iv] []):=by intro _;rfl):MG X (.Subscript o i pos) (gAt G ψ) :=
 mg_of (zyA ho hi zzu ha) λZ J O d J' O' v Y H Q A q e k=>by
  obtain⟨⟨x,O1⟩,e1,e⟩:=zm e;obtain⟨⟨y,O2⟩,e2,e⟩:=zm e;refine⟨Z,J,O,x,O1,A,e1,λZ1 H1 v1 x1 R1 r1=>?_⟩;refine⟨Z1,J,O1,y,O2,A.ext x1 R1,e2,λZ2 H2 v2 x2 R2 r2=>?_⟩;dsimp only at e
  split at e
  ·split at e
   ·rename_i hm
    obtain⟨j,e3,e⟩:=zm e;cases e;obtain⟨ad,rfl,hr⟩:=(r1.ext x2).tz;obtain⟨vs,hv,q3⟩:=R2.at_ _ _ _ hr hm;have hmu:Mut (H2 ad):=by rw[hv];trivial
    refine⟨ad,vs,_,j,rfl,r2.int_inv,hv,by rw[<-q3.length];exact e3,?_⟩;have xx:=x1.trans x2;have R3:=R2.wr (o:=.lst (vs.set j v)) (lo:=.lst _) hmu hr ⟨_,zM,tj.ext (Ext.wr hmu) (q3.set j (q.ext xx))⟩;exact k Z2 Y _ (xx.trans (Ext.wr hmu)) (A.ext (xx.trans (Ext.wr hmu)) R3)
   ·cases e
  ·cases e
@[simp] def z9x(G:FE)(g:FG):FS:=λJ O=>(G J O).bind λp=>(g p.1 J p.2).bind λq=>some (.next q.1 q.2)
def zMm{tg:yD}{g:FG}(he:ME X e G)(hg:MG X tg g)(hs:swapsWithSole [tg] e pos.line X.env=pure false:=by rfl)(hw:swappedStores [tg] e X.env=pure none:=by rfl)
 (h1:(YW [tg] X.env).map (·.2)=[assign tg X.env]:=by rfl):MS X (.Assign [tg] e pos) (z9x G g):=zOl (zVD he hg hs hw h1) λZ J O Y H o E A e k=>by
 obtain⟨⟨x,O1⟩,e1,e⟩:=zm e;obtain⟨⟨J1,O2⟩,e2,e⟩:=zm e;cases e;refine⟨Z,J,O,x,O1,A,e1,λZ1 H1 v1 x1 R1 r1=>?_⟩;exact⟨Z1,J,O1,x,J1,O2,A.ext x1 R1,r1,e2,λZ2 Y2 H2 x2 A2=>k Z2 Y2 H2 (x1.trans x2) A2⟩
abbrev FI:=Loc->Mem->Option (List D×(Mem->Bool)×Mem)
structure sx(K:yw)(δ:It)(Z:List yc)(H:Hp)(ds:List D)(ok:Mem->Bool):Prop where
 go:∀Z' H' O' (i:Nat),Ext Z H Z' H'->tG K Z' H' O'->ok O'=true->i<ds.length->δ.go i H'
 yld:∀Z' H' O' (i:Nat) x H'' d,Ext Z H Z' H'->tG K Z' H' O'->ok O'=true->ds[i]?=some d->δ.yld i H' x H''->Ext Z' H' Z' H''/\tG K Z' H'' O'/\tx K Z' H'' d x
 stop:∀Z' H' O',Ext Z H Z' H'->tG K Z' H' O'->ok O'=true->δ.stop ds.length H'
def tMI(K:yw)(G:FI):TI:=λY H R=>∃Z J O ds ok O',At K Z H Y J O/\G J O=some (ds,ok,O')/\∀Z' H' δ,Ext Z H Z' H'->tG K Z' H' O'->sx K δ Z' H' ds ok->R δ H'
def MI(X:Cx)(tg iter:yD)(G:FI):Prop:=PI X tg iter (tMI X.K G)
def z8s{tg it:yD}{t:TI}{G:FI}(h:PI X tg it t)(w:∀Z J O Y H ds ok O' R,At X.K Z H Y J O->G J O=some (ds,ok,O')->(∀Z' H' δ,Ext Z H Z' H'->tG X.K Z' H' O'->sx X.K δ Z' H' ds ok->R δ H')->t Y H R):MI X tg it G :=
 by intro U s Y H R I hh;obtain⟨Z,J,O,ds,ok,O',A,e,k⟩:=hh;exact h U s Y H R I (w Z J O Y H ds ok O' R A e k)
@[simp] def yes:Mem->Bool:=λ_=>true
@[simp] def zNf(G:FA):FI:=λJ O=>(G J O).bind λp=>match p.1 with
 |[.int j]=>bif decide (-(2^62)<=j/\j<2^62) then some ((yt j.toNat).map λ(k:Nat) =>.int k,yes,p.2) else none
 |_=>none
def z4e{tg:yD}{p:xo}{G:FA}(hm:X.mg "range"=none)(ha:MAn X [a] G)(hg:Gl X "range":=by rfl)(hs:yj [a] X.env=[(false,Yb a X.env)]:=by rfl):MI X tg (.Call (.Name "range" p) [a] [] pos) (zNf G) :=
 z8s (zXx hg hm ha.ma hs) λZ J O Y H ds ok O' R A e k=>by
  obtain⟨⟨x,O1⟩,e1,e⟩:=zm e;refine⟨Z,J,O,x,O1,A,e1,λZ1 H1 v1 x1 R1 r1=>?_⟩;dsimp only at e
  split at e
  ·rename_i j
   obtain⟨h1,e⟩:=zP e;have h2:=of_decide_eq_true h1;cases e;obtain⟨w,r,rfl,q1,q2⟩:=r1.cons_inv;refine⟨j,by rw[q1.int_inv,q2.nil_inv],h2.1,h2.2,k Z1 H1 _ x1 R1 ⟨λZ' H' O' i _ _ _ h=>by rw[length_map,length_range]at h;exact h,λZ' H' O' i x H'' d _ RR _ e ⟨y1,y2⟩=>⟨y1▸Ext.refl,y1▸RR,?_⟩,λZ' H' O' _ _ _=>by show j.toNat<=_;simp⟩⟩;rw[yr]at e
   cases e3:(yt j.toNat)[i]? with
   |none=>rw[e3]at e;cases e
   |some m=>
    rw[e3]at e
    have hmi:m=i:=by
     obtain⟨w1,w2⟩:=List.getElem?_eq_some_iff.mp e3;simpa using w2.symm
    subst hmi;have e':D.int (m:Nat)=d:=yW e;subst e';rw[y2,show(0:Int)+(m:Nat)=(m:Int) by omega];exact .int
  ·cases e
def zIw{K:yw}{Z:List yc}{H:Hp}{a:yc}{vs:List V}{ds:List D}(h:H a=some (.tup vs))(r:tj K Z H ds vs):sx K (Itt K a) Z H ds yes:=by
 refine⟨λZ' H' O' i x R _ hi=>?_,λZ' H' O' i x H'' d x' R _ e ⟨y1,y2⟩=>⟨y1▸Ext.refl,y1▸R,y1▸?_⟩,λZ' H' O' x R _=>⟨vs,SqT.of (x.tup _ _ h),by rw[r.length];exact yk _⟩⟩
 ·have hi':i<vs.length:=by rw[<-r.length];exact hi
  exact⟨vs,vs[i],SqT.of (x.tup _ _ h),by simp[hi']⟩
 ·have q:=y2 vs (SqT.of (x'.tup _ _ h));obtain⟨w,e1,rr⟩:=(r.ext x').get e;rw[q]at e1;cases e1;exact rr
@[simp] def zrA(G:FE):FI:=λJ O=>(G J O).bind λp=>match p.1 with
 |.tup ds=>some (ds,yes,p.2)
 |_=>none
def zcD{tg:yD}(h:ME X a G):MI X tg a (zrA G) :=
 z8s (zAC h) λZ J O Y H ds ok O' R A e k=>by
  obtain⟨⟨x,O1⟩,e1,e⟩:=zm e;refine⟨Z,J,O,x,O1,A,e1,λZ1 H1 v1 x1 R1 r1=>?_⟩;dsimp only at e
  split at e
  ·cases e;obtain⟨a,vs,rfl,e2,q2⟩:=r1.tN;exact⟨a,rfl,⟨vs,SqT.of e2⟩,k Z1 H1 _ x1 R1 (zIw e2 q2)⟩
  ·cases e
def z9n(n:Nat)(ds:List D):Mem->Bool:=λO=>@decide (O[n]?=some (.lst ds)) (Classical.propDecidable _)
def TH{n:Nat}{ds:List D}{O:Mem}:z9n n ds O=true↔O[n]?=some (.lst ds):=by
 unfold z9n;exact @decide_eq_true_iff _ (Classical.propDecidable _)
def zvw(G:FE):FI:=λJ O=>(G J O).bind λp=>match p.1 with
 |.fz ds=>some (ds,yes,p.2)
 |.loc n=>match p.2[n]? with
  |some (.lst ds)=>some (ds,z9n n ds,p.2)
  |_=>none
 |_=>none
def zMo{K:yw}{Z:List yc}{H:Hp}{a:yc}{ds:List D}{ok:Mem->Bool}(h:∀Z' H' O',Ext Z H Z' H'->tG K Z' H' O'->ok O'=true->∃vs,SqL K H' a vs/\tj K Z' H' ds vs):sx K (Itl K a) Z H ds ok:=by
 refine⟨λZ' H' O' i x R o hi=>?_,λZ' H' O' i x H'' d x' R o e ⟨y1,y2⟩=>⟨y1▸Ext.refl,y1▸R,y1▸?_⟩,λZ' H' O' x R o=>?_⟩
 ·obtain⟨vs,s,r⟩:=h Z' H' O' x R o;have hi':i<vs.length:=by rw[<-r.length];exact hi
  exact⟨vs,vs[i],s,by simp[hi']⟩
 ·obtain⟨vs,s,r⟩:=h Z' H' O' x' R o;have q:=y2 vs s;obtain⟨w,e1,rr⟩:=r.get e;rw[q]at e1;cases e1;exact rr
 ·obtain⟨vs,s,r⟩:=h Z' H' O' x R o;exact⟨vs,s,by rw[r.length];exact yk _⟩
def zIx{tg:yD}(h:ME X a G):MI X tg a (zvw G) :=
 z8s (zoB h) λZ J O Y H ds ok O' R A e k=>by
  obtain⟨⟨x,O1⟩,e1,e⟩:=zm e;refine⟨Z,J,O,x,O1,A,e1,λZ1 H1 v1 x1 R1 r1=>?_⟩;dsimp only at e
  split at e
  ·cases e;obtain⟨a,vs,rfl,e2,q2⟩:=r1.TZ;exact⟨a,rfl,⟨vs,e2.sq⟩,k Z1 H1 _ x1 R1 (zMo λZ' H' O' x _ _=>⟨vs,(x.fz e2).sq,q2.ext x⟩)⟩
  ·split at e
   ·rename_i hm
    cases e;obtain⟨a,rfl,e2⟩:=r1.tz;obtain⟨vs,e3,q3⟩:=R1.at_ _ _ _ e2 hm;refine⟨a,rfl,⟨vs,SqL.of e3⟩,k Z1 H1 _ x1 R1 (zMo λZ' H' O'' x R' o=>?_)⟩;obtain⟨vs',e4,q4⟩:=R'.at_ _ _ _ (x.get e2) (TH.mp o);exact⟨vs',SqL.of e4,q4⟩
   ·cases e
  ·cases e
def zIk(g:FG)(body:FS)(ok:Mem->Bool):List D->FS
 |[],J,O=>bif ok O then some (.next J O) else none
 |x::xs,J,O=>bif ok O then(g x J O).bind λp=>match body p.1 p.2 with
  |some (.next J' O')=>zIk g body ok xs J' O'
  |some (.cont J' O')=>zIk g body ok xs J' O'
  |some (.brk J' O')=>some (.next J' O')
  |some (.ret d O')=>some (.ret d O')
  |some (.exc C fs O')=>some (.exc C fs O')
  |none=>none
  else none
@[simp] def zMq(i:FI)(g:FG)(body:FS):FS:=λJ O=>(i J O).bind λp=>zIk g body p.2.1 p.1 J p.2.2
def zVf{tg iter:yD}{body:List yR}{i:FI}{g:FG}{p:FS}(hi:MI X tg iter i)(hg:MG X tg g)(hb:MSs X body p)(hx:PassesOwn (yC X.prog X.w) X.A X.env X.xe:=by first|exact PassesOwn.never|exact PassesOwn.leaving)(hc:X.calm=true:=by rfl)
 (hs:∀x,YX iter X.env x=pure x:=by intro _;rfl):MS X (.For tg iter body [] pos) (zMq i g p) :=
 zOl (z1D hx hc hi hg hb hs) λZ J O Y H o E A e k=>by
  obtain⟨⟨ds,ok,O1⟩,e1,e⟩:=zm e;refine⟨Z,J,O,ds,ok,O1,A,e1,λZ1 H1 δ x1 R1 II=>?_⟩;refine⟨λi m Y' H'=>∃Z' J' O',Ext Z1 H1 Z' H'/\At X.K Z' H' Y' J' O'/\i<=ds.length/\m=ds.length-i/\zIk g p ok (ds.drop i) J' O'=some o,⟨_,Z1,J,O1,Ext.refl,A.ext x1 R1,Yy _,rfl,e⟩,?_⟩;rintro i m Y' H' ⟨Z',J',O',x',A',hi,rfl,ef⟩
  by_cases hlt:i<ds.length
  ·right
   have hd:ds.drop i=ds[i]::ds.drop (i+1):=drop_eq_getElem_cons hlt;rw[hd]at ef;unfold zIk at ef;obtain⟨hok,ef⟩:=zP ef;obtain⟨⟨J2,O2⟩,e2,ef⟩:=zm ef;refine⟨II.go Z' H' O' i x' A'.hp hok hlt,λY3 H3=>∃Z3 J3 O3,Ext Z1 H1 Z3 H3/\At X.K Z3 H3 Y3 J3 O3/\zIk g p ok (ds.drop (i+1)) J3 O3=some o,λY3 H3 ⟨Z3,J3,O3,x3,A3,e3⟩=>⟨ds.length-(i+1),by omega,Z3,J3,O3,x3,A3,hlt,rfl,e3⟩,λx H'' y=>?_⟩;obtain⟨xe,Re,rx⟩:=II.yld Z' H' O' i x H'' ds[i] x' A'.hp hok (by simp[hlt]) y;have x':=x'.trans xe;refine⟨Z',J',O',ds[i],J2,O2,A'.ext xe Re,rx,e2,λZ4 Y4 H4 x4 A4=>?_⟩
   cases eb:p J2 O2 with
   |none=>rw[eb]at ef;cases ef
   |some ob=>
    rw[eb]at ef;refine⟨Z4,J2,O2,ob,A4,eb,?_⟩;have x5:=x'.trans x4
    cases ob with
    |next J6 O6=>exact λZ6 Y6 H6 x6 A6=>⟨Z6,J6,O6,x5.trans x6,A6,ef⟩
    |cont J6 O6=>exact λZ6 Y6 H6 x6 A6=>⟨Z6,J6,O6,x5.trans x6,A6,ef⟩
    |brk J6 O6=>cases ef;exact(k.ext x1).ext x5
    |ret d O6=>cases ef;exact(k.ext x1).ext x5
    |exc C fs O6=>cases ef;exact(k.ext x1).ext x5
  ·left
   have e0:i=ds.length:=by omega
   subst e0;rw[List.drop_length]at ef;unfold zIk at ef;obtain⟨hok,ef⟩:=zP ef;cases ef;exact⟨II.stop Z' H' O' x' A'.hp hok,k Z' Y' H' (x1.trans x') A'⟩
end
def zay(g:FG)(c:FT)(G:FE)(ok:Mem->Bool)(J:Loc):List D->List D->Mem->Option (D×Mem)
 |[],ys,O=>bif ok O then some (.loc O.length,O++[.lst ys]) else none
 |x::xs,ys,O=>bif ok O then(g x J O).bind λp=>(c p.1 p.2).bind λt=>bif t.1 then(G p.1 t.2).bind λq=>zay g c G ok J xs (ys++[q.1]) q.2 else zay g c G ok J xs ys t.2 else none
@[simp] def δC(n:Nat)(fr:List Nat)(J:Loc):Loc:=yy n none++fr.map λi=>(J[i]?).getD none
@[simp] def few(ds:List D):Bool:=decide (ds.length<=1000000)
@[simp] def fLC(n:Nat)(fr:List Nat)(i:FI)(g:FG)(c:FT)(G:FE):FE:=λJ O=>(i J O).bind λp=>bif few p.1 then zay g c G p.2.1 (δC n fr J) p.1 [] p.2.2 else none
def MF(X:Cx)(ifs:List yD)(c:FT):Prop:=PF X ifs (tMT X.K c)
@[simp] def zxh:FT:=λ_ O=>some (true,O)
def zSb{X:Cx}:MF X [] zxh:=by intro U s Y H Q I hh;obtain⟨Z,J,O,b,O',A,e,k⟩:=hh;exact zQD U s Y H Q I (by cases e;exact k Z H Ext.refl A.hp)
def zOo{X:Cx}{e:yD}{c:FT}(h:MT X e c):MF X [e] c:=z3C h
def At.δC{K:yw}{Z:List yc}{H:Hp}{Y:L2.St}{J:Loc}{O:Mem}(A:At K Z H Y J O)(n:Nat)(fr:List Nat):At K Z H (σC n fr Y) (M.δC n fr J) O:=by
 refine⟨λi d e=>?_,A.hp,by unfold σC M.δC;simp⟩;unfold M.δC at e;unfold σC
 by_cases hi:i<n
 ·rw[yv (by simpa using hi),YR]at e
  split at e<;>cases e
 ·have hi:n<=i:=Xw hi;rw[Yd (by simpa using hi),Xi,yr]at e;rw[Yd (by simpa using hi),Xi,yr]
  cases e1:fr[i-n]? with
  |none=>rw[e1]at e;cases e
  |some j=>
   rw[e1]at e;have e2:(J[j]?).getD none=some d:=yW e
   have e3:J[j]?=some (some d):=by
    cases q:J[j]? with
    |none=>rw[q]at e2;cases e2
    |some z=>rw[q]at e2;exact congrArg some e2
   obtain⟨v,hv,r⟩:=A.st j d e3;exact⟨v,by rw[Option.map_some,hv];rfl,r⟩
def TL(n:Nat)(Y Y':L2.St):Prop:=Y'.length=Y.length/\∀(i:Nat),n<=i->Y'[i]?=Y[i]?
def TL.refl{n:Nat}{Y:L2.St}:TL n Y Y:=⟨rfl,λ_ _=>rfl⟩
def TL.trans{n:Nat}{Y Y1 Y2:L2.St}(a:TL n Y Y1)(b:TL n Y1 Y2):TL n Y Y2:=⟨b.1.trans a.1,λi h=>(b.2 i h).trans (a.2 i h)⟩
def tGc(K:yw)(n:Nat)(g:FG):TG:=λv Y H Q=>∃Z J O d J' O',At K Z H Y J O/\tx K Z H d v/\g d J O=some (J',O')/\∀Z' Y' H',Ext Z H Z' H'->At K Z' H' Y' J' O'->TL n Y Y'->Q Y' H'
def zYF(K:yw)(n:Nat)(g:FGs):TGs:=λvs Y H Q=>∃Z J O ds J' O',At K Z H Y J O/\tj K Z H ds vs/\g ds J O=some (J',O')/\∀Z' Y' H',Ext Z H Z' H'->At K Z' H' Y' J' O'->TL n Y Y'->Q Y' H'
def MGc(X:Cx)(n:Nat)(t:yD)(g:FG):Prop:=PG X t (tGc X.K n g)
def zkE(X:Cx)(n:Nat)(t:List yD)(g:FGs):Prop:=PGs X t (zYF X.K n g)
section
variable {X:Cx}{e:yD}{es:List yD}{pos:xo}{n:Nat}
def zH{x:yn}(i:Nat)(hin:i<n:=by decide)(hN:X.N.Nodup:=by first|assumption|decide)(hi:X.N[i]?=some x:=by rfl)(hx:L2.Loc X.env.scope x:=by first|exact Or.inl rfl|exact Or.inr rfl)(hf:X.fn x=true\/X.env.scope.names.lookup x=some .local:=by first|exact .inl rfl|exact .inr rfl|assumption):MGc X n (.Name x pos) (gN i) :=
 by intro U s Y H v u Q I r hh;obtain⟨Z,J,O,d,J',O',A,q,e,k⟩:=hh;exact zFw hN hi hx hf U s Y H v u Q I r (by
  cases e;exact k Z _ H Ext.refl (A.set q i) ⟨by simp,λj hj=>Yc (by omega)⟩)
def zCj:zkE X n [] zRj:=by intro U s Y H v u Q I r hh;obtain⟨Z,J,O,d,J',O',A,q,e,k⟩:=hh;exact zKw U s Y H v u Q I r (by
 unfold zRj at e
 split at e
 ·cases e;exact⟨q.nil_inv,k Z Y H Ext.refl A TL.refl⟩
 ·cases e)
def zld{g:FG}{gs:FGs}(h1:MGc X n e g)(h2:zkE X n es gs)(hs:(YW (e::es) X.env).map (·.2)=assign e X.env::(YW es X.env).map (·.2):=by rfl):zkE X n (e::es) (zPc g gs) :=
 by intro U s Y H vs us Q I r hh;obtain⟨Z,J,O,ds,J',O',A,q,e,k⟩:=hh;exact z3t h1 h2 hs U s Y H vs us Q I r (by
  unfold zPc at e
  split at e
  ·obtain⟨⟨J1,O1⟩,e1,e⟩:=zm e;obtain⟨v,vr,rfl,q1,q2⟩:=q.cons_inv;refine⟨v,vr,rfl,Z,J,O,_,J1,O1,A,q1,e1,λZ1 Y1 H1 x1 A1 f1=>?_⟩;exact⟨Z1,J1,O1,_,J',O',A1,q2.ext x1,e,λZ2 Y2 H2 x2 A2 f2=>k Z2 Y2 H2 (x1.trans x2) A2 (f1.trans f2)⟩
  ·cases e)
def zkm{k m:Nat}{gs:FGs}(h:zkE X n es gs)(hc:X.calm=true:=by rfl)(hn:(YW es X.env).length=m:=by rfl)(hst:(YW es X.env).findIdx? (·.1)=none:=by rfl):MGc X n (.Tuple es k pos) (gT m gs) :=
 by intro U s Y H v u Q I r hh;obtain⟨Z,J,O,d,J',O',A,q,e,k⟩:=hh;exact zvA hc h hn hst U s Y H v u Q I r (by
  unfold gT at e
  split at e
  ·obtain⟨h1,e⟩:=zP e;obtain⟨a,vs,rfl,e2,q2⟩:=q.tN;exact⟨a,vs,rfl,SqT.of e2,by rw[<-q2.length];exact beq_iff_eq.mp h1,Z,J,O,_,J',O',A,q2,e,k⟩
  ·cases e)
end
def zrw{n:Nat}{fr:List Nat}{Y Y':L2.St}(f:TL n (σC n fr Y) Y'):ztB (σC n fr Y) Y':=by
 refine⟨f.1,λi v e=>?_⟩;obtain⟨hi,_⟩:=σC_get e;rw[f.2 i hi];exact e
def Tf:1000000<yG:=by rw[Xp];decide
def zAF{K:yw}{n:Nat}{fr:List Nat}{i:FI}{g:FG}{c:FT}{G:FE}{Z:List yc}{J:Loc}{O:Mem}{Y:L2.St}{H:Hp}{d:D}{O':Mem}{Q:VK}(A:At K Z H Y J O)(e:fLC n fr i g c G J O=some (d,O'))
 (k:∀Z' H' v,Ext Z H Z' H'->tG K Z' H' O'->tx K Z' H' d v->Q v H'):tLC n fr (tMI K i) (tGc K n g) (tMT K c) (tM K G) Y H Q:=by
 obtain⟨⟨ds,ok,O1⟩,e1,e⟩:=zm e;obtain⟨hfew,e⟩:=zP e;have hfew:ds.length<=1000000:=of_decide_eq_true hfew;refine⟨Z,J,O,ds,ok,O1,A,e1,λZ1 H1 δ x1 R1 II=>?_⟩;refine⟨λi m ys H'=>∃Z' es O2,Ext Z1 H1 Z' H'/\tG K Z' H' O2/\tj K Z' H' es ys/\es.length<=i/\i<=ds.length/\m=ds.length-i/\zay g c G ok (δC n fr J) (ds.drop i) es O2=some (d,O'),⟨_,Z1,[],O1,Ext.refl,R1,.nil,Yy _,Yy _,rfl,e⟩,?_⟩;rintro i m ys H' ⟨Z',es,O2,x',R',re,hel,hi,rfl,ef⟩
 by_cases hlt:i<ds.length
 ·right
  have hd:ds.drop i=ds[i]::ds.drop (i+1):=drop_eq_getElem_cons hlt;rw[hd]at ef;unfold zay at ef;obtain⟨hok,ef⟩:=zP ef;obtain⟨⟨J2,O3⟩,e2,ef⟩:=zm ef;obtain⟨⟨b,O4⟩,e3,ef⟩:=zm ef;refine⟨II.go Z' H' O2 i x' R' hok hlt,?_,λx H'' y=>?_⟩
  ·rw[<-re.length];exact Nat.lt_of_le_of_lt (yF hel (yF hi hfew)) Tf
  ·obtain⟨xe,Re,rx⟩:=II.yld Z' H' O2 i x H'' ds[i] x' R' hok (by simp[hlt]) y;have x':=x'.trans xe;have re:=re.ext xe;have A':At K Z' H'' (σC n fr Y) (δC n fr J) O2:=((A.ext x1 R1).ext x' Re).δC n fr;refine⟨Z',_,O2,ds[i],J2,O3,A',rx,e2,λZ4 Y4 H4 x4 A4 f4=>⟨zrw f4,?_⟩⟩;refine⟨Z4,J2,O3,b,O4,A4,e3,λZ5 H5 x5 R5=>?_⟩
   cases b with
   |false=>exact Sg ⟨ds.length-(i+1),by omega,Z5,es,O4,x'.trans (x4.trans x5),R5,re.ext (x4.trans x5),by omega,hlt,rfl,ef⟩
   |true=>
    obtain⟨⟨y,O6⟩,e4,ef⟩:=zm ef;refine Sh ⟨Z5,J2,O4,y,O6,A4.ext x5 R5,e4,λZ6 H6 v x6 R6 r6=>?_⟩;exact⟨ds.length-(i+1),by omega,Z6,es++[y],O6,x'.trans (x4.trans (x5.trans x6)),R6,(re.ext (x4.trans (x5.trans x6))).append (.cons r6 .nil),by simp;exact hel,hlt,rfl,ef⟩
 ·left
  have e0:i=ds.length:=by omega
  subst e0;rw[List.drop_length]at ef;unfold zay at ef;obtain⟨hok,ef⟩:=zP ef;cases ef;refine⟨II.stop Z' H' O2 x' R' hok,λp hp=>?_⟩;exact k _ _ _ (x1.trans (x'.trans (Ext.push hp))) (R'.push hp ⟨ys,zM,re.ext (Ext.push hp)⟩) (.loc (zGc R'))
def zQE{X:Cx}{scope:Xl}{elt tg iter:yD}{ifs:List yD}{pos:xo}{i:FI}{g:FG}{c:FT}{G:FE}(own:List yn)(fr:List Nat)(hi:MI X tg iter i)
 (hg:∀cl C s₀ H₀ fp,MGc (cxC X own fr scope cl C s₀ H₀ fp) own.length tg g) (hq:∀cl C s₀ H₀ fp,MF (cxC X own fr scope cl C s₀ H₀ fp) ifs c) (he:∀cl C s₀ H₀ fp,ME (cxC X own fr scope cl C s₀ H₀ fp) elt G)
 (hc:X.calm=true:=by rfl) (hk:scope.kind=.function:=by rfl) (hnm:∀y∈scope.names,scope.names.lookup y.1=some y.2:=by decide)
 (hfree:∀x∈scope.names,x.2=.free->(X.env.kindOf x.1=some .cell\/X.env.kindOf x.1=some .free):=by decide) (hfr:∀i∈fr,∃x,X.N[i]?=some x/\scope.names.lookup x=some .free)
 (hs:∀x,YX iter X.env x=pure x:=by intro _;rfl):ME X (.ListComp elt [⟨tg,iter,ifs,0⟩] scope pos) (fLC own.length fr i g c G) :=
 zFe (z3E (wi:=tMI X.K i) (g:=tGc X.K own.length g) (tc:=tMT X.K c) (te:=tM X.K G) own fr hc hi (λcl C s₀ H₀ fp=>hg cl C s₀ H₀ fp) (λcl C s₀ H₀ fp=>hq cl C s₀ H₀ fp) (λcl C s₀ H₀ fp=>he cl C s₀ H₀ fp) hk hnm hfree hfr hs) λZ J O Y H d O' Q A e k=>zAF A e k
def toP(O:Mem):Nat->D->Option xI
 |0,_=>none
 |n+1,d=>match d with
  |.non=>some .none
  |.bl b=>some (.bool b)
  |.int i=>some (.int i)
  |.str x=>bif Yv x then some (.str x) else none
  |.ty _=>none
  |.own _=>none
  |.tup ds=>(ds.mapM (toP O n)).bind λps=>some (.tuple ps)
  |.fz ds=>(ds.mapM (toP O n)).bind λps=>some (.list ps)
  |.loc k=>match O[k]? with
   |some (.lst ds)=>(ds.mapM (toP O n)).bind λps=>some (.list ps)
   |_=>none
def z6k{f:D->Option xI}{ps:List xI}(h:([]:List D).mapM f=some ps):ps=[]:=by
 simp at h;exact h
def zsj{f:D->Option xI}{d:D}{ds:List D}{ps:List xI}(h:(d::ds).mapM f=some ps):∃p r,f d=some p/\ds.mapM f=some r/\ps=p::r:=by
 rw[mapM_cons]at h;obtain⟨p,e1,h⟩:=zm h;obtain⟨r,e2,h⟩:=zm h;cases h;exact⟨p,r,e1,e2,rfl⟩
def zpp{f:D->Option xI}{m:Nat}(hf:∀d p,f d=some p->p.canLay0=true/\p.depth<=m):∀{ds:List D} {ps:List xI},ds.mapM f=some ps->Xm ps=true/\PyData.depthAll ps<=m
 |[],ps,h=>by rw[z6k h];exact⟨rfl,Yy _⟩
 |d::ds,ps,h=>by
  obtain⟨p,r,e1,e2,rfl⟩:=zsj h;obtain⟨h1,h2⟩:=hf d p e1;obtain⟨h3,h4⟩:=zpp hf e2;refine⟨?_,?_⟩
  ·simp only[Xm,h1,h3,Bool.and_true]
  ·simp only[PyData.depthAll];omega
def zZj{O:Mem}:∀(n:Nat)(d:D)(p:xI),toP O n d=some p->p.canLay0=true/\p.depth<=n
 |0,d,p,h=>by cases h
 |n+1,d,p,h=>by
  have seq:∀{ds:List D} {c:List xI->xI},(∀ps,(c ps).canLay0=Xm ps)->(∀ps,(c ps).depth=PyData.depthAll ps+1)->((ds.mapM (toP O n)).bind λps=>some (c ps))=some p->p.canLay0=true/\p.depth<=n+1:=λ{ds c} h1 h2 h=>by
   obtain⟨ps,e1,e2⟩:=zm h;cases e2;obtain⟨q1,q2⟩:=zpp (zZj n) e1;exact⟨by rw[h1];exact q1,by rw[h2];omega⟩
  unfold toP at h
  cases d with
  |non=>cases h;exact⟨rfl,Yy _⟩
  |bl b=>cases h;exact⟨rfl,Yy _⟩
  |int b=>cases h;exact⟨rfl,Yy _⟩
  |str x=>
   obtain⟨h1,h2⟩:=zP h;cases h2;exact⟨h1,Yy _⟩
  |ty _=>cases h
  |own _=>cases h
  |tup ds=>exact seq (λ_=>rfl) (λ_=>rfl) h
  |fz ds=>exact seq (λ_=>rfl) (λ_=>rfl) h
  |loc k=>
   dsimp only at h
   split at h
   ·exact seq (λ_=>rfl) (λ_=>rfl) h
   ·cases h
section
variable {X:Cx}{U:List (yc×YS)}{Y:L2.St}{H:Hp}{s:yd}{Z:List yc}{O:Mem}
def zKj{f:D->Option xI}(hf:∀d p v u,f d=some p->tx X.K Z H d v->RelV v u->∃as,Reads s.heap u p as):∀{ds:List D} {ps:List xI} {vs:List V} {us:List yb},ds.mapM f=some ps->tj X.K Z H ds vs->Vals vs us->∃as,ReadsAll s.heap us ps as
 |[],ps,vs,us,h,r,q=>by
  rw[z6k h];rw[r.nil_inv]at q;cases q;exact⟨[],.nil⟩
 |d::ds,ps,vs,us,h,r,q=>by
  obtain⟨p,pr,e1,e2,rfl⟩:=zsj h;obtain⟨v,vr,rfl,r1,r2⟩:=r.cons_inv
  cases q with
  |cons q1 q2=>
   obtain⟨a1,h1⟩:=hf _ _ _ _ e1 r1 q1;obtain⟨a2,h2⟩:=zKj hf e2 r2 q2;exact⟨_,.cons h1 h2⟩
def zbh(I:Inv X U Y H s)(R:tG X.K Z H O):∀(n:Nat)(d:D)(p:xI)(v:V)(u:yb),toP O n d=some p->tx X.K Z H d v->RelV v u->∃as,Reads s.heap u p as
 |0,d,p,v,u,h,_,_=>by cases h
 |n+1,d,p,v,u,h,r,q=>by
  unfold toP at h
  cases d with
  |non=>cases h;rw[r.tF]at q;cases q;exact⟨_,.none⟩
  |bl b=>cases h;rw[r.tK]at q;cases q;exact⟨_,.bool b⟩
  |int b=>cases h;rw[r.int_inv]at q;obtain⟨t,rfl⟩:=q;exact⟨_,.int b t⟩
  |str x=>
   obtain⟨h1,h2⟩:=zP h;cases h2;rw[r.str_inv]at q;obtain⟨t,rfl⟩:=q;exact⟨_,.str x t⟩
  |ty _=>cases h
  |own _=>cases h
  |tup ds=>
   obtain⟨ps,e1,e2⟩:=zm h;cases e2;obtain⟨a,vs,rfl,e3,rr⟩:=r.tN;cases q;obtain⟨its,rv,⟨o,ho,hc,k,hd⟩,_⟩:=I.tuple (SqT.of e3);obtain⟨as,ha⟩:=zKj (zbh I R n) e1 rr rv;exact⟨_,reads_tuple_at ho hc hd (by simpa using ha)⟩
  |fz ds=>
   obtain⟨ps,e1,e2⟩:=zm h;cases e2;obtain⟨a,vs,rfl,e3,rr⟩:=r.TZ;cases q;obtain⟨its,rv,⟨o,k,ho,hc,_,hd⟩,_⟩:=I.list e3.sq;obtain⟨as,ha⟩:=zKj (zbh I R n) e1 rr rv;exact⟨_,reads_list_at ho hc hd (by simpa using ha)⟩
  |loc k=>
   dsimp only at h
   split at h
   ·rename_i hm
    obtain⟨ps,e1,e2⟩:=zm h;cases e2;obtain⟨a,rfl,e2⟩:=r.tz;obtain⟨vs,e3,rr⟩:=R.at_ _ _ _ e2 hm;cases q;obtain⟨its,rv,⟨o,k,ho,hc,_,hd⟩,_⟩:=I.list (SqL.of (K:=X.K) e3);obtain⟨as,ha⟩:=zKj (zbh I R n) e1 rr rv;exact⟨_,reads_list_at ho hc hd (by simpa using ha)⟩
   ·cases h
end
def gEq:φ2:=λx y O=>(toP O 8 x).bind λp=>(toP O 8 y).bind λq=>some (.bl (Ym p q),O)
def gNe:φ2:=λx y O=>(toP O 8 x).bind λp=>(toP O 8 y).bind λq=>some (.bl (!PyData.eqv p q),O)
def zuk{O:Mem}{d:D}{p:xI}(h:toP O 8 d=some p):SeqAt.shaped p=true:=by
 obtain⟨h1,h2⟩:=zZj 8 d p h;unfold SeqAt.shaped;rw[h1,decide_eq_true (by omega)];rfl
section
variable {X:Cx}{a b c e:yD}{es:List yD}{G ψ χ:FE}{pos:xo}
def zjd(hu:X.A.units+64<cLine):OpM X (yV .Eq) gEq:=by
 refine OpM.of λU s Y H x y v u Q I rx ry Z dx dy O d O' r1 r2 R e k=>?_;obtain⟨p,e1,e⟩:=zm e;obtain⟨q,e2,e⟩:=zm e;cases e;obtain⟨as,h1⟩:=zbh I R 8 dx p x v e1 r1 rx;obtain⟨bs,h2⟩:=zbh I R 8 dy q y u e2 r2 ry;exact eq_dataH h1 h2 (zuk e1) (zuk e2) hu ⟨.bl _,H,I,rfl,k Z H _ Ext.refl R .bl⟩
def zsl(hu:X.A.units+64<cLine):OpM X (yV .NotEq) gNe:=by
 refine OpM.of λU s Y H x y v u Q I rx ry Z dx dy O d O' r1 r2 R e k=>?_;obtain⟨p,e1,e⟩:=zm e;obtain⟨q,e2,e⟩:=zm e;cases e;obtain⟨as,h1⟩:=zbh I R 8 dx p x v e1 r1 rx;obtain⟨bs,h2⟩:=zbh I R 8 dy q y u e2 r2 ry;exact ne_dataH h1 h2 (zuk e1) (zuk e2) hu ⟨.bl _,H,I,rfl,k Z H _ Ext.refl R .bl⟩
@[simp] def gIs:φ2:=λx y O=>match x,y with
 |.bl i,.bl j=>some (.bl (i==j),O)
 |.non,.non=>some (.bl true,O)
 |.bl _,.non=>some (.bl false,O)
 |.int _,.non=>some (.bl false,O)
 |.str _,.non=>some (.bl false,O)
 |.tup _,.non=>some (.bl false,O)
 |.loc _,.non=>some (.bl false,O)
 |_,_=>none
@[simp] def ztk:φ2:=λx y O=>match x,y with
 |.bl i,.bl j=>some (.bl (i != j),O)
 |.non,.non=>some (.bl false,O)
 |.bl _,.non=>some (.bl true,O)
 |.int _,.non=>some (.bl true,O)
 |.str _,.non=>some (.bl true,O)
 |.tup _,.non=>some (.bl true,O)
 |.loc _,.non=>some (.bl true,O)
 |_,_=>none
def zgD:OpM X (yV .Is) gIs:=by
 refine OpM.of λU s Y H x y v u Q I rx ry Z dx dy O d O' r1 r2 R e k=>?_;unfold gIs at e
 split at e<;>cases e
 ·rw[r1.tK]at rx;rw[r2.tK]at ry;cases rx;cases ry;exact is_bool ⟨.bl _,H,I,rfl,k Z H _ Ext.refl R .bl⟩
 ·exact zwo U s Y H x y v u Q I rx ry ⟨r2.tF,by rw[r1.tF];exact k Z H _ Ext.refl R .bl⟩
 ·exact zwo U s Y H x y v u Q I rx ry ⟨r2.tF,by rw[r1.tK];exact k Z H _ Ext.refl R .bl⟩
 ·exact zwo U s Y H x y v u Q I rx ry ⟨r2.tF,by rw[r1.int_inv];exact k Z H _ Ext.refl R .bl⟩
 ·exact zwo U s Y H x y v u Q I rx ry ⟨r2.tF,by rw[r1.str_inv];exact k Z H _ Ext.refl R .bl⟩
 ·exact zwo U s Y H x y v u Q I rx ry ⟨r2.tF,by obtain⟨a,vs,rfl,_⟩:=r1.tN;exact k Z H _ Ext.refl R .bl⟩
 ·exact zwo U s Y H x y v u Q I rx ry ⟨r2.tF,by obtain⟨a,rfl,_⟩:=r1.tz;exact k Z H _ Ext.refl R .bl⟩
def zzh:OpM X (yV .IsNot) ztk:=by
 refine OpM.of λU s Y H x y v u Q I rx ry Z dx dy O d O' r1 r2 R e k=>?_;unfold ztk at e
 split at e<;>cases e
 ·rw[r1.tK]at rx;rw[r2.tK]at ry;cases rx;cases ry;exact isnot_bool ⟨.bl _,H,I,rfl,k Z H _ Ext.refl R .bl⟩
 ·exact zQk U s Y H x y v u Q I rx ry ⟨r2.tF,by rw[r1.tF];exact k Z H _ Ext.refl R .bl⟩
 ·exact zQk U s Y H x y v u Q I rx ry ⟨r2.tF,by rw[r1.tK];exact k Z H _ Ext.refl R .bl⟩
 ·exact zQk U s Y H x y v u Q I rx ry ⟨r2.tF,by rw[r1.int_inv];exact k Z H _ Ext.refl R .bl⟩
 ·exact zQk U s Y H x y v u Q I rx ry ⟨r2.tF,by rw[r1.str_inv];exact k Z H _ Ext.refl R .bl⟩
 ·exact zQk U s Y H x y v u Q I rx ry ⟨r2.tF,by obtain⟨a,vs,rfl,_⟩:=r1.tN;exact k Z H _ Ext.refl R .bl⟩
 ·exact zQk U s Y H x y v u Q I rx ry ⟨r2.tF,by obtain⟨a,rfl,_⟩:=r1.tz;exact k Z H _ Ext.refl R .bl⟩
inductive Ty where
 |non|bl|int|str|tup|lst|dict
 deriving DecidableEq
@[simp] def zmE(O:Mem):D->Option Ty
 |.non=>some .non
 |.bl _=>some .bl
 |.int _=>some .int
 |.str _=>some .str
 |.tup _=>some .tup
 |.loc n=>match O[n]? with
  |some (.lst _)=>some .lst
  |some (.dct _)=>some .dict
  |_=>none
 |_=>none
@[simp] def Ty.name:Ty->String
 |.non=>"NoneType" | .bl=>"bool" | .int=>"int" | .str=>"str" | .tup=>"tuple" | .lst=>"list" | .dict=>"dict"
@[simp] def zgF:Ty->Ty->Bool
 |.bl,.int=>true
 |.non,.non=>true
 |.bl,.bl=>true
 |.int,.int=>true
 |.str,.str=>true
 |.tup,.tup=>true
 |.lst,.lst=>true
 |.dict,.dict=>true
 |_,_=>false
@[simp] def z8x(c:Ty):GL:=λds O=>match ds with
 |[x,.ty n]=>bif n==c.name then(zmE O x).bind λt=>some (.bl (zgF t c),O) else none
 |_=>none
def zhC{K:yw}{Z:List yc}{H:Hp}{O:Mem}{x:D}{v:V}{t:Ty}(R:tG K Z H O)(r:tx K Z H x v)(e:zmE O x=some t):TY K H v (.type t.name):=by
 cases x with
 |non=>cases e;rw[r.tF];exact .non
 |bl b=>cases e;rw[r.tK];exact .bl b
 |int b=>cases e;rw[r.int_inv];exact .int b
 |str b=>cases e;rw[r.str_inv];exact .str b
 |tup ds=>cases e;obtain⟨a,vs,rfl,e2,_⟩:=r.tN;exact .tup e2
 |loc n=>
  unfold zmE at e;dsimp only at e
  split at e
  ·rename_i hm;cases e;obtain⟨a,rfl,e2⟩:=r.tz;obtain⟨vs,e3,_⟩:=R.at_ _ _ _ e2 hm;exact .lst e3
  ·rename_i hm;cases e;obtain⟨a,rfl,e2⟩:=r.tz;obtain⟨vs,e3,_⟩:=R.at_ _ _ _ e2 hm;exact .dK e3
  ·cases e
 |_=>cases e
def zGC(K:yw)(t c:Ty):W.kitOne K (.type t.name) (.type c.name)=some (zgF t c):=by
 cases t<;>cases c<;>first|rfl|decide +kernel
def zAh(c:Ty):tS X (.builtin "isinstance") (z8x c):=by
 refine tS.of λU s Y H xs us Q I r Z ds O d O' r1 R e k=>?_;unfold z8x at e
 split at e
 ·obtain⟨hn,e⟩:=zP e;obtain⟨t,e1,e⟩:=zm e;cases e;obtain⟨v,rr,rfl,q1,q2⟩:=r1.cons_inv;obtain⟨v2,rr2,rfl,q3,q4⟩:=q2.cons_inv;rw[q4.nil_inv,q3.ty_inv,beq_iff_eq.mp hn]at r
  cases r with
  |cons ra rb=>
   cases rb with
   |cons rc rd=>
    cases rd;cases rc;exact z5w I ra (zhC R q1 e1) (zGC X.K t c) λtk=>⟨.bl _,H,I.tok tk,rfl,k Z H _ Ext.refl R .bl⟩
 ·cases e
@[simp] def zzF:D->Bool
 |.bl _=>true
 |_=>false
@[simp] def blB:D->Bool
 |.bl b=>b
 |_=>false
@[simp] def znC:GL:=λds O=>match ds with
 |[.loc n]=>match O[n]? with
  |some (.lst xs)=>bif xs.all zzF then some (.bl (xs.all blB),O) else none
  |_=>none
 |_=>none
def znn(hc:X.calm=true):tS X (.builtin "all") znC:=by
 refine tS.of λU s Y H xs us Q I r Z ds O d O' r1 R e k=>?_;unfold znC at e
 split at e
 ·split at e
  ·rename_i n _ ys hm
   obtain⟨hb,e⟩:=zP e;cases e;obtain⟨v,rr,rfl,q1,q2⟩:=r1.cons_inv;obtain⟨a,rfl,e2⟩:=q1.tz;obtain⟨vs,e3,q3⟩:=R.at_ _ _ _ e2 hm;rw[q2.nil_inv]at r;obtain⟨u,rfl,ru⟩:=vals1 r;cases ru;obtain⟨its,rv,pl,hz⟩:=I.list (SqL.of (K:=X.K) e3);have hlt:a<s.heap.objs.size:=by obtain⟨_,_,e,_⟩:=pl;exact yo e
   refine call_all_walk (xM pl.isList ?_);refine⟨_,_,_,_,_,_,λi=>blB (ys.getD i .non),rfl,Walks.list (A:=X.A.in1) (I.ok.hd hc) s.heap.objs.size a (yz hlt) its.toArray,⟨⟨_,ym _ rfl,rfl,rfl⟩,pl.isList.push _⟩,?_,λh' tk hk=>?_⟩
   ·intro i w s' Q' E' hP hQ;have hi:its[i]?=some w:=by simpa using hP
    have hil:i<ys.length:=by
     have h1:=(List.getElem?_eq_some_iff.mp hi).1;rw[q3.length,rv.length];exact h1
    have hyi:ys[i]?=some ys[i]:=by simp[hil]
    obtain⟨vv,ev,rvv⟩:=q3.get hyi;obtain⟨ww,ew,rww⟩:=rv.get ev;rw[hi]at ew;cases ew;have hall:=List.all_eq_true.mp hb ys[i] (getElem_mem hil)
    have hQ':Q' (blB ys[i]) s':=by
     have e:ys.getD i .non=ys[i]:=by rw[getD_eq_getElem?_getD,hyi];rfl
     rw[<-e];exact hQ
    cases hyb:ys[i] with
    |bl b=>
     rw[hyb]at rvv hQ';rw[rvv.tK]at rww;cases rww;exact YV hQ'
    |_=>rw[hyb]at hall;cases hall
   ·have hsz:its.toArray.size=ys.length:=by rw[q3.length,rv.length];simp
    have eall:((yt its.toArray.size).all λi=>blB (ys.getD i .non))=ys.all blB:=by
     rw[hsz,xL,all_eq_true,all_eq_true];constructor
     ·intro h y hy;obtain⟨i,hi,rfl⟩:=List.mem_iff_getElem.mp hy;have:=h i (by simpa using hi);rw[getD_eq_getElem?_getD,show ys[i]?=some ys[i] by simp[hi]]at this;exact this
     ·intro h i hi;have hi':i<ys.length:=by simpa using hi
      rw[getD_eq_getElem?_getD,show ys[i]?=some ys[i] by simp[hi']];exact h ys[i] (getElem_mem hi')
    rw[eall];have I1:Inv X U Y H {s with heap:=s.heap.push {cls:=.type "list_iterator",data:=.fields #[.ref a,.int 0 0]}}:=I.kept (t':=s.toks) λb o e=>ye _ e;have hfr:=I1.hok;refine⟨.bl _,H,I.kept (h':=h') (t':=tk) λb o e=>hk b o (by simpa using yz (yo e)) (ye _ e),rfl,k Z H _ Ext.refl R .bl⟩
  ·cases e
 ·cases e
def zEz{scope:Xl}{elt tg iter:yD}{ifs:List yD}{spos py:xo}{y:yn}{fi:FI}{g:FG}{ct:FT}(i:Nat)(own:List yn)(fr:List Nat)(hi:MI X tg iter fi)
 (hg:∀cl C s₀ H₀ fp,MGc (cxC X own fr scope cl C s₀ H₀ fp) own.length tg g) (hq:∀cl C s₀ H₀ fp,MF (cxC X own fr scope cl C s₀ H₀ fp) ifs ct) (he:∀cl C s₀ H₀ fp,ME (cxC X own fr scope cl C s₀ H₀ fp) elt G)
 (hfr:∀i∈fr,∃x,X.N[i]?=some x/\scope.names.lookup x=some .free)
 (hN:X.N.Nodup:=by first|assumption|decide) (hiN:X.N[i]?=some y:=by rfl) (hy:X.env.scope.names.lookup y=some .local:=by rfl)
 (hsw:swapsWith (.ListComp elt [⟨tg,iter,ifs,0⟩] scope pos) (some (.Name y py)) spos.line X.env=pure true:=by rfl)
 (hc:X.calm=true:=by rfl) (hk:scope.kind=.function:=by rfl) (hnm:∀y∈scope.names,scope.names.lookup y.1=some y.2:=by decide)
 (hfree:∀x∈scope.names,x.2=.free->(X.env.kindOf x.1=some .cell\/X.env.kindOf x.1=some .free):=by decide)
 (hs:∀x,YX iter X.env x=pure x:=by intro _;rfl):MS X (.Assign [.Name y py] (.ListComp elt [⟨tg,iter,ifs,0⟩] scope pos) spos) (zxc i (fLC own.length fr fi g ct G)) :=
 zOl (zVy (wi:=tMI X.K fi) (g:=tGc X.K own.length g) (tc:=tMT X.K ct) (te:=tM X.K G) own fr hN hiN hy hc hi hsw (λcl C s₀ H₀ fp=>hg cl C s₀ H₀ fp) (λcl C s₀ H₀ fp=>hq cl C s₀ H₀ fp) (λcl C s₀ H₀ fp=>he cl C s₀ H₀ fp) hk hnm hfree hfr hs) λZ J O Y H o E A e k=>by
  obtain⟨⟨x,O1⟩,e1,e⟩:=zm e;cases e;exact zAF A e1 λZ' H' v x' R r=>k Z' _ H' x' ((A.ext x' R).set r i)
end
@[simp] def zcb:Option Out->Option (D×Mem)
 |some (.ret d O)=>some (d,O)
 |some (.next _ O)=>some (.non,O)
 |_=>none
@[simp] def zK(N:List yn)(ds:List D):Loc:=ds.map some++yy (N.length-ds.length) none
def zWy{K:yw}{Z:List yc}{H:Hp}{O:Mem}{N:List yn}{ds:List D}{vs:List V}(r:tj K Z H ds vs)(R:tG K Z H O):At K Z H (L2.start N vs) (zK N ds) O:=by
 refine⟨λi d e=>?_,R,by unfold L2.start zK;simp[r.length]⟩;unfold zK at e;unfold L2.start
 by_cases hi:i<ds.length
 ·rw[yv (by simpa using hi),yr]at e
  cases e1:ds[i]? with
  |none=>rw[e1]at e;cases e
  |some d'=>
   rw[e1]at e;cases e;obtain⟨v,e2,q⟩:=r.get e1;refine⟨v,?_,q⟩;rw[yv (by simpa[<-r.length] using hi),yr,e2];rfl
 ·rw[Yd (by simpa using hi),YR]at e
  split at e<;>cases e
def fnM{P:yu}{w:yI}{K:yw}{mg:yn->Option yb}{base:yS}{x qual:yn}{st:yR}{f:yc}{fd:yf}{N ps:List yn}{k n:Nat}{F:FF}(φ:Fun K x qual st f fd)(S:tq N ps (zu st))(hn:ps.length=n)
 (hbody:∀(cdv:yb)(A:yJ)(outer:List Env)(s:yd)(H:Hp)(E:XK),tW k (A.deeper (envOfC qual (zu st) s.heap.objs.size f cdv)) ->
  ∃p,MSs (zYB CX0 P w K mg base N qual (zu st) f cdv A outer s H E).nox (zQd st) p/\∀ds O d O',ds.length=n->F ds O=some (d,O')->zcb (p (zK N ds) O)=some (d,O')) :
 tm P w K mg base CX0 (k+1) f fd ps (spM K n F):=by
 refine φ.ok S (λvs H Q E h=>by rw[hn];exact h.1) (λcdv A outer s H vs Q E hr h=>?_);obtain⟨p,hp,hF⟩:=hbody cdv A outer s H E hr;refine⟨_,hp,?_⟩;obtain⟨hl,Z,ds,O,d,O',r,R,e,k⟩:=h;have e':=hF ds O d O' (by rw[r.length];exact hl) e
 cases eo:p (zK N ds) O with
 |none=>rw[eo]at e';cases e'
 |some o=>
  rw[eo]at e';refine⟨Z,zK N ds,O,o,zWy r R,eo,?_⟩
  cases o with
  |ret d2 O2=>cases e';exact λZ' v H' x' R' r'=>k Z' H' v x' R' r'
  |next J2 O2=>cases e';exact λZ' Y' H' x' A'=>k Z' H' .non x' A'.hp .non
  |brk _ _=>cases e'
  |cont _ _=>cases e'
  |exc _ _ _=>cases e'
def zcA(sc inner:Xl):Bool:=(inner.kind == .function)&&inner.names.all (λy=>inner.names.lookup y.1==some y.2) &&
 inner.names.all λx=>x.2 != .free||sc.names.lookup x.1==some .cell||sc.names.lookup x.1==some .free
def zos{sc inner:Xl}(h:zcA sc inner=true):inner.kind=.function:=by
 unfold zcA at h;simp only[yK,beq_iff_eq]at h;exact h.1.1
def z4x{sc inner:Xl}(h:zcA sc inner=true):∀y∈inner.names,inner.names.lookup y.1=some y.2:=by
 unfold zcA at h;simp only[yK]at h;intro y hy;exact beq_iff_eq.mp (List.all_eq_true.mp h.1.2 y hy)
def zjr{sc inner:Xl}(h:zcA sc inner=true):∀x∈inner.names,x.2=.free->(sc.names.lookup x.1=some .cell\/sc.names.lookup x.1=some .free):=by
 unfold zcA at h;simp only[yK]at h;intro y hy e;have:=List.all_eq_true.mp h.2 y hy;simpa[e] using this
def zG{N:List yn}(h:decide N.Nodup=true):N.Nodup:=of_decide_eq_true h
def zsb{P:Nat->Prop}:∀i∈([]:List Nat),P i:=λi h=>nomatch h
def z0b{P:Nat->Prop}{i:Nat}{l:List Nat}(h:P i)(r:∀j∈l,P j):∀j∈i::l,P j:=λj hj=>by
 rcases List.mem_cons.mp hj with rfl|hj
 ·exact h
 ·exact r j hj
section
variable {X:Cx}{a b c e:yD}{es:List yD}{G ψ χ:FE}{pos:xo}
def mlc{scope:Xl}{elt tg iter:yD}{ifs:List yD}{i:FI}{g:FG}{ct:FT}(own:List yn)(fr:List Nat)(hi:MI X tg iter i)
 (hg:∀cl C s₀ H₀ fp,MGc (cxC X own fr scope cl C s₀ H₀ fp) own.length tg g) (hq:∀cl C s₀ H₀ fp,MF (cxC X own fr scope cl C s₀ H₀ fp) ifs ct) (he:∀cl C s₀ H₀ fp,ME (cxC X own fr scope cl C s₀ H₀ fp) elt G)
 (hfr:∀i∈fr,∃x,X.N[i]?=some x/\scope.names.lookup x=some .free) (hok:zcA X.env.scope scope=true:=by rfl) (hc:X.calm=true:=by rfl) (hs:∀x,YX iter X.env x=pure x:=by intro _;rfl) :
 ME X (.ListComp elt [⟨tg,iter,ifs,0⟩] scope pos) (fLC own.length fr i g ct G) :=
 zQE own fr hi hg hq he hc (zos hok) (z4x hok) (zjr hok) hfr hs
def mslc{scope:Xl}{elt tg iter:yD}{ifs:List yD}{spos py:xo}{y:yn}{fi:FI}{g:FG}{ct:FT}(i:Nat)(own:List yn)(fr:List Nat)(hi:MI X tg iter fi)
 (hg:∀cl C s₀ H₀ fp,MGc (cxC X own fr scope cl C s₀ H₀ fp) own.length tg g) (hq:∀cl C s₀ H₀ fp,MF (cxC X own fr scope cl C s₀ H₀ fp) ifs ct) (he:∀cl C s₀ H₀ fp,ME (cxC X own fr scope cl C s₀ H₀ fp) elt G)
 (hfr:∀i∈fr,∃x,X.N[i]?=some x/\scope.names.lookup x=some .free) (hN:X.N.Nodup) (hiN:X.N[i]?=some y:=by rfl) (hy:X.env.scope.names.lookup y=some .local:=by rfl)
 (hsw:swapsWith (.ListComp elt [⟨tg,iter,ifs,0⟩] scope pos) (some (.Name y py)) spos.line X.env=pure true:=by rfl) (hok:zcA X.env.scope scope=true:=by rfl) (hc:X.calm=true:=by rfl) (hs:∀x,YX iter X.env x=pure x:=by intro _;rfl) :
 MS X (.Assign [.Name y py] (.ListComp elt [⟨tg,iter,ifs,0⟩] scope pos) spos) (zxc i (fLC own.length fr fi g ct G)) :=
 zEz i own fr hi hg hq he hfr hN hiN hy hsw hc (zos hok) (z4x hok) (zjr hok) hs
structure FnAt(K:yw)(mg:yn->Option yb)(x:yn)(st:yR)(ps:List yn)(f:yc)(fd:yf):Prop where
 fn:Fun K x x st f fd
 at_:mg x=some (.ref f)
 bd:Binds K fd ps []
def tu{k j n:Nat}{st:yR}{f:yc}{fd:yf}{ps:List yn}{F:FF}{x:yn}{p:xo}{G:FA}(B:FnAt X.K X.mg x st ps f fd)(φ:tm X.prog X.w X.K X.mg X.base CX0 j f fd ps (spM X.K n F))(hr:tW k X.A)
 (ha:MAn X (e::es) G) (hj:j<=k:=by decide) (hn:(e::es).length=n:=by rfl) (hg:Gl X x:=by rfl) (hdb:(x==("__debug__":yn))=false:=by decide) (he:yj (e::es) X.env=(false,Yb e X.env)::yj es X.env:=by exact zjf rfl) (hpl:(Yq pos (yj es X.env)).any (·.1)=false:=by rfl) :
 ME X (.Call (.Name x p) (e::es) [] pos) (zx F G):=zgx φ (hr.mono hj) B.at_ B.fn.kp B.bd ha hn hg hdb he hpl
def cat0{prog:yu}{w:yI}{A:yJ}{E:yb->yd->Prop}{s:yd}{t b:yc}{vs ws:List yb}{Q:yb->yd->Prop}(ht:IsTup s.heap t vs.toArray)(hb:IsTup s.heap b ws.toArray)(hv:vs=[])(h:Q (.ref b) s) :
 yq (yC prog w) A (xl .Add (.ref t) (.ref b)) Q E s:=by
 obtain⟨⟨cls,dd,data,sl⟩,ho,hc,n,hd⟩:=id ht;obtain⟨⟨cls2,dd2,data2,sl2⟩,ho2,hc2,n2,hd2⟩:=id hb;simp only at hc hd hc2 hd2;subst hc hd hc2 hd2;refine concat_meets ⟨_,ho,rfl⟩ ⟨_,ho2,rfl⟩ noFill_tuple_add seq_tuple_add PySem.F.slot_tuple_add PySem.F.entry_tuple_add (PySem.F.args_tuple_add_2 _ _) (tuple_addW0 t b vs.toArray ws.toArray n n2 dd dd2 sl sl2 (by rw[hv];rfl)) ⟨ho,ho2,h⟩
def z6b:OpM X (xl .Add) zPk:=by
 refine OpM.of λU s Y H x y v u Q I rx ry Z dx dy O d O' r1 r2 R e k=>?_;unfold zPk at e
 split at e
 ·cases e;rw[r1.int_inv]at rx;rw[r2.int_inv]at ry;obtain⟨t,rfl⟩:=rx;obtain⟨t',rfl⟩:=ry;exact add_int ⟨.int _,H,I.tok _,⟨_,rfl⟩,k Z H _ Ext.refl R .int⟩
 ·rename_i as bs
  obtain⟨h1,e⟩:=zP e;have h1:=of_decide_eq_true h1;cases e;obtain⟨a1,vs,rfl,e1,q1⟩:=r1.tN;obtain⟨a2,ws,rfl,e2,q2⟩:=r2.tN;have hm:=Tf;have hl1:=q1.length;have hl2:=q2.length
  by_cases hv:vs=[]
  ·cases rx;cases ry;obtain⟨its,rv,p1,_⟩:=I.tuple (SqT.of (K:=X.K) e1);obtain⟨its2,rv2,p2,_⟩:=I.tuple (SqT.of (K:=X.K) e2);refine cat0 p1 p2 (rv.su.mpr hv) ⟨.ref a2,H,I,rfl,k Z H _ Ext.refl R ?_⟩;have ha:as=[]:=by rw[hv]at hl1;exact List.length_eq_zero_iff.mp hl1
   rw[ha,List.nil_append];exact r2
  ·refine z0A U s Y H _ _ v u Q I rx ry ⟨a1,a2,vs,ws,rfl,rfl,SqT.of e1,SqT.of e2,hv,by omega,λhw=>?_,λ_ p hp=>?_⟩
   ·have hb:bs=[]:=by rw[hw]at hl2;exact List.length_eq_zero_iff.mp hl2
    rw[hb,append_nil]at k;exact k Z H _ Ext.refl R r1
   ·exact k Z _ _ (Ext.new hp) (R.Tj hp) (.tup zM ((q1.append q2).ext (Ext.new hp)))
 ·split at e
  ·rename_i hm1 hm2
   obtain⟨h1,e⟩:=zP e;have h1:=of_decide_eq_true h1;cases e;obtain⟨a1,rfl,e1⟩:=r1.tz;obtain⟨a2,rfl,e2⟩:=r2.tz;obtain⟨vs,e3,q1⟩:=R.at_ _ _ _ e1 hm1;obtain⟨ws,e4,q2⟩:=R.at_ _ _ _ e2 hm2;have hm:=Tf;have hl1:=q1.length;have hl2:=q2.length;exact zqD U s Y H _ _ v u Q I rx ry ⟨a1,a2,vs,ws,rfl,rfl,e3,e4,by omega,λp hp=>k _ _ _ (Ext.push hp) (R.push hp ⟨_,zM,(q1.append q2).ext (Ext.push hp)⟩) (.loc (zGc R))⟩
  ·cases e
 ·cases e
def zno:fillsNumberSlot (.type "tuple") "mul"=pure false :=
 PyProof.Rows.fillsNumberSlot_seq (id:="tuple.__mul__") (r:=some (.builtin "tuple.__rmul__")) PySem.F.slot_tuple_mul.lookup (by decide +kernel) PySem.F.slot_tuple_rmul.lookup (by decide +kernel)
def zuv:seqRepeat? (.type "tuple")=pure (some (.builtin "tuple.__mul__")):=by
 unfold seqRepeat?;rw[PyProof.Rows.seqSlot_of (T:="tuple") (name:="__mul__") (id:="tuple.__mul__") PySem.F.slot_tuple_mul.lookup (by decide +kernel),PyProof.Rows.seqSlot_of (T:="tuple") (name:="__rmul__") (id:="tuple.__rmul__") PySem.F.slot_tuple_rmul.lookup (by decide +kernel)];rfl
def z4k(i:Int)(t:Tok)(l:yc)(items:Array yb)(n:Nat)(dd:Option yc)(sl:Array (Option yb)) :
 Meets (YT.«int.__rmul__» ⟨[.int i t,.ref l],[]⟩) (λ_ R s=>s.heap.get? l=some {cls:=.type "tuple",dict:=dd,data:=.seq items n,slots:=sl }/\R (.ok (.ret Value.notImplemented)) s) :=
 .of_wp λprog w A R s h=>by
  obtain⟨hp,g,d,tk,os⟩:=s;obtain⟨hl,h⟩:=h
  wp_walk
  exact⟨_,rfl,h⟩
def zYp(l:yc)(items:Array yb)(n:Nat)(dd:Option yc)(sl:Array (Option yb))(i:Int)(t:Tok)(h2:2<=i)(h3:i<=1000)(h4:items.isEmpty=false)(h5:items.size<=1000)
 (hsz:((yy i.toNat items).foldl (λx1 x2=>x1++x2) #[]).size<=yG) :
 Meets (YT.«tuple.__mul__» ⟨[.ref l,.int i t],[]⟩) (λ_ R s=>s.heap.get? l=some {cls:=.type "tuple",dict:=dd,data:=.seq items n,slots:=sl } /\
  R (.ok (.ret (Ye s.heap.objs.size))) {s with heap:=s.heap.push {cls:=YJ "tuple",data:=Data.seq ((yy i.toNat items).foldl (λx1 x2=>x1++x2) #[])},toks:=s.toks }) :=
 .of_wp λprog w A R s h=>by
  obtain⟨hp,g,d,tk,os⟩:=s;obtain⟨hl,h⟩:=h;have f1:=AutoSeq1.idx_int
  have c1:¬((decide (i < -(2^63))||decide (i≥2^63))=true):=by
   rw[decide_eq_false (by omega),decide_eq_false (by omega)];exact yB
  have c2:¬((items.isEmpty||i==1)=true):=by
   rw[h4,show(i==1)=false by simp;omega];exact yB
  have c3:¬((decide (i<=0)||items.isEmpty)=true):=by
   rw[h4,decide_eq_false (by omega)];exact yB
  have c4:¬((items.size:Int)*i>(2^63-1) / 8):=by
   have h6:(items.size:Int)*i<=1000*1000:=Int.mul_le_mul (by omega) h3 (by omega) (by omega);omega
  have c5:¬(Builtin.Tuple.tupleTooMany ((items.size:Int)*i)=true):=by
   have h6:(items.size:Int)*i<=1000*1000:=Int.mul_le_mul (by omega) h3 (by omega) (by omega);have hz:(yG:Int)=16777216:=by rw[Xp];rfl
   unfold Builtin.Tuple.tupleTooMany;rw[decide_eq_false (by omega)];exact yB
  wp_walk using wpAny_loadPart' hl
  rw[if_neg c1]
  wp_walk using wpAny_loadPart' hl
  rw[if_neg c2];dsimp only;rw[if_neg c3,if_neg c4,if_neg c5];refine ya (m:=xi _) (Yh (yg ⟨_,rfl,h⟩) hsz)
def z9o(its:List yb):∀(n:Nat)(acc:List yb),List.foldl (λx1 x2=>x1++x2) acc.toArray (yy n its.toArray)=(acc++(yy n its).flatten).toArray
 |0,acc=>by simp
 |n+1,acc=>by
  rw[replicate_succ,foldl_cons,List.append_toArray,z9o its n,replicate_succ,flatten_cons,append_assoc]
def zwt{K:yw}{Z:List yc}{H:Hp}{ds:List D}{vs:List V}(r:tj K Z H ds vs):∀n:Nat,tj K Z H (yy n ds).flatten (yy n vs).flatten
 |0 =>.nil
 |n+1=>by
  rw[replicate_succ,replicate_succ,flatten_cons,flatten_cons];exact r.append (zwt r n)
def zBq{vs:List V}{us:List yb}(r:Vals vs us):∀n:Nat,Vals (yy n vs).flatten (yy n us).flatten
 |0 =>.nil
 |n+1=>by
  rw[replicate_succ,replicate_succ,flatten_cons,flatten_cons];exact r.append (zBq r n)
def z3d:OpM X (xl .Mult) zjn:=by
 refine OpM.of λU s Y H x y v u Q I rx ry Z dx dy O d O' r1 r2 R e k=>?_;unfold zjn at e
 split at e
 ·obtain⟨h1,e⟩:=zP e;cases e;rw[r1.int_inv]at rx;rw[r2.int_inv]at ry;obtain⟨t,rfl⟩:=rx;obtain⟨t',rfl⟩:=ry;exact mul_int ⟨.int _,H,I.tok _,⟨_,rfl⟩,k Z H _ Ext.refl R .int⟩ (z1y h1)
 ·rename_i ds i
  obtain⟨h1,e⟩:=zP e;have h1:=of_decide_eq_true h1;obtain⟨h2,h3,h4,h5⟩:=h1;cases e;obtain⟨a1,vs,rfl,e1,q1⟩:=r1.tN;rw[r2.int_inv]at ry;cases rx;obtain⟨t,rfl⟩:=ry;obtain⟨its,rv,⟨⟨cls,dd,data,sl⟩,ho,hc,n,hd⟩,hz⟩:=I.tuple (SqT.of (K:=X.K) e1);simp only at hc hd;subst hc hd;have hl:its.length=ds.length:=by rw[q1.length,rv.length]
  have hlen:((yy i.toNat vs).flatten).length<=yG:=by
   rw[ztw];have hm:=Tf;have h6:i.toNat*vs.length<=1000*1000:=Xr (by omega) (by rw[<-q1.length];exact h5);omega
  have e2:=z9o its i.toNat [];rw[List.nil_append]at e2
  have hsz:((yy i.toNat its.toArray).foldl (λx1 x2=>x1++x2) #[]).size<=yG:=by
   rw[show(#[]:Array yb)=([]:List yb).toArray from rfl,e2,size_toArray,<-(zBq rv i.toNat).length];exact hlen
  refine wpAny_binaryOp_repeat_ref (T:="tuple") (U:="int") (by decide) ⟨_,ho,rfl⟩ (λs'=>typeIs_int s' i t) zno PySem.F.fills_int_mul PySem.F.slot_int_rmul zuv PySem.F.slot_int_index.lookup
   (xz PySem.F.slot_int_rmul (typeIs_int s i t) PySem.F.entry_int_rmul (PySem.F.args_int_rmul_2 _ _) (z4k i t a1 its.toArray n dd sl)
    ⟨ho,rfl,⟨_,ho,rfl⟩,xz PySem.F.slot_tuple_mul ⟨_,ho,rfl⟩ PySem.F.entry_tuple_mul (PySem.F.args_tuple_mul_2 _ _) (zYp a1 its.toArray n dd sl i t h2 h3 (by rw[List.isEmpty_toArray,List.isEmpty_eq_false_iff_exists_mem];exact⟨_,getElem_mem (by omega:0<its.length)⟩) (by rw[size_toArray,hl];exact h5) hsz) ⟨ho,?_⟩⟩)
  rw[show(#[]:Array yb)=([]:List yb).toArray from rfl,e2];have hf:=I.hok.fresh (yk s.heap.objs.size);refine⟨.ref s.heap.objs.size,_,I.laid (t':=s.toks) (o:=.tup (yy i.toNat vs).flatten) (λb ob q=>ye _ q) (yk _) ?_,rfl,k Z _ _ (Ext.new hf) (R.Tj hf) (.tup zM ((zwt q1 i.toNat).ext (Ext.new hf)))⟩;exact⟨hlen,_,zBq rv i.toNat,IsTup.new _ _⟩
 ·rename_i l n
  split at e
  ·rename_i ds hm
   obtain⟨h1,e⟩:=zP e;have h1:=of_decide_eq_true h1;obtain⟨h2,h3,h4⟩:=h1;cases e;obtain⟨a1,rfl,ea⟩:=r1.tz;obtain⟨vs,e3,q3⟩:=R.at_ _ _ _ ea hm;refine zbE U s Y H _ _ v u Q I rx ry ⟨a1,n,vs,rfl,r2.int_inv,e3,by omega,by omega,?_,λp hp=>k _ _ _ (Ext.push hp) (R.push hp ⟨_,zM,(zwt q3 n.toNat).ext (Ext.push hp)⟩) (.loc (zGc R))⟩;have hmi:=Tf;have h6:vs.length*n.toNat<=1000*1000:=Xr (by rw[<-q3.length];exact h4) (by omega);omega
  ·cases e
 ·cases e
abbrev FO:=Loc->Mem->Option (Option Int×Mem)
def tMO(K:yw)(G:FO):TO:=λY H Q=>∃Z J O o O',At K Z H Y J O/\G J O=some (o,O')/\∀Z' H',Ext Z H Z' H'->tG K Z' H' O'->Q o H'
def MO(X:Cx)(e:Option yD)(G:FO):Prop:=PO X e (tMO X.K G)
@[simp] def pNo:FO:=λ_ O=>some (none,O)
@[simp] def znB(G:FE):FO:=λJ O=>(G J O).bind λp=>match p.1 with
 |.int i=>some (some i,p.2)
 |_=>none
def cutD(xs:List D)(lo hi:Option Int):List D:=(xs.drop (HT.sIx xs.length 0 lo)).take (HT.sIx xs.length xs.length hi-HT.sIx xs.length 0 lo)
@[simp] def fSl(G:FE)(lo hi:FO):FE:=λJ O=>(G J O).bind λp=>(lo J p.2).bind λl=>(hi J l.2).bind λh=>match p.1 with
 |.tup ds=>some (.tup (cutD ds l.1 h.1),h.2)
 |.loc n=>match h.2[n]? with
  |some (.lst ds)=>some (.loc h.2.length,h.2++[.lst (cutD ds l.1 h.1)])
  |_=>none
 |_=>none
end
def zjx{prog:yu}{w:yI}{A:yJ}{E:yb->yd->Prop}{s:yd}{t sl:yc}{items:Array yb}{vl vu:yb}{lo hi:Option Int}{Q:yb->yd->Prop}(ht:IsTup s.heap t items)(hs:s.heap.IsSliceOf sl vl vu .none)(pl:IsPart vl lo)(pu:IsPart vu hi)
 (hw:HT.sIx items.size 0 lo=0/\HT.sIx items.size items.size hi=items.size) (h:Q (.ref t) s):yq (yC prog w) A (getItem (.ref t) (.ref sl)) Q E s:=by
 obtain⟨os,hos,hcs,hds⟩:=id hs;have hTs:s.TypeIs (.ref sl) "slice":=⟨os,hos,hcs⟩
 unfold getItem
 try with_reducible refine Yp ?_
 first|refine ya (yg ?_)|skip
 refine ya (wpAny_sequenceKey ht.typeIs (by decide) ?_)
 refine ya (yO (name:=Yz "__getitem__") ht.typeIs xb
  (yP xb ht.typeIs entry_tuple_getitem ?_ (args_tuple_getitem _ _)))
 show yq _ _ (Builtin.Tuple.tupleItemsOf (.ref t) >>= _) _ _ s;refine ya (tupleItemsOf_ ht ?_);refine ya (Xv hTs ?_);rw[if_pos (by decide)];refine ya (HT.To hs pl pu ?_)
 have hyes:(((HT.sIx items.size 0 lo:Nat):Int)==0&&(1:Int)==1&&(HT.sIx items.size items.size hi-HT.sIx items.size 0 lo)==items.size)=true:=by
  rw[hw.1,hw.2];simp
 show yq _ _ (if(((HT.sIx items.size 0 lo:Nat):Int)==0&&(1:Int)==1&&(HT.sIx items.size items.size hi-HT.sIx items.size 0 lo)==items.size)=true then _ else _) _ _ s;rw[if_pos hyes];refine ya (m:=Builtin.Tuple.tupleIsExact _) ?_;unfold Builtin.Tuple.tupleIsExact;refine ya (Xv ht.typeIs (yg ?_));rw[if_pos (by decide)];exact ya (Xs (yg ⟨_,rfl,yg h⟩))
section
variable {X:Cx}{a b c e:yD}{es:List yD}{G ψ χ:FE}{pos p2:xo}{lo hi:Option yD}
def rSl(K:yw):V->Option Int->Option Int->Hp->VK->Prop:=λx lo hi H Q=>∃a xs,x=.ref a/\H a=some (.tup xs) /\
 ((HT.sIx xs.length 0 lo=0/\HT.sIx xs.length xs.length hi=xs.length)->Q (.ref a) H)/\∀p,H p=none->Q (.ref p) (upd H p (.tup (zJw xs lo hi)))
def zXD:SlR X (rSl X.K):=by
 intro U s Y H x v vl vu lo hi sl Q I rx hs pl pu h;obtain⟨a,xs,rfl,hx,h1,h2⟩:=h
 by_cases hw:HT.sIx xs.length 0 lo=0/\HT.sIx xs.length xs.length hi=xs.length
 ·cases rx;obtain⟨its,r,ht,hz⟩:=I.tuple (SqT.of (K:=X.K) hx);have hlen:its.toArray.size=xs.length:=by rw[size_toArray];exact r.length.symm
  exact⟨"tuple",_,PyProof.Rows.slot_tuple_getitem.lookup,ht.typeIs,zjx ht hs pl pu (by rw[hlen];exact hw) ⟨.ref a,H,I,rfl,h1 hw⟩⟩
 ·exact zKC U s Y H _ v vl vu lo hi sl Q I rx hs pl pu ⟨a,xs,rfl,SqT.of hx,hw,h2⟩
def zjw:MO X none pNo:=by intro U s Y H Q I hh;obtain⟨Z,J,O,o,O',A,e,k⟩:=hh;exact zTB U s Y H Q I (by cases e;exact k Z H Ext.refl A.hp)
def zSq(h:ME X e G):MO X (some e) (znB G):=by intro U s Y H Q I hh;obtain⟨Z,J,O,o,O',A,e,k⟩:=hh;exact zLA h U s Y H Q I (by
 obtain⟨⟨x,O1⟩,e1,e⟩:=zm e;refine⟨Z,J,O,x,O1,A,e1,λZ1 H1 v x1 R1 r1=>?_⟩;dsimp only at e
 split at e
 ·cases e;exact⟨_,r1.int_inv,k Z1 H1 x1 R1⟩
 ·cases e)
def zUs{K:yw}{Z:List yc}{H:Hp}{ds:List D}{vs:List V}{lo hi:Option Int}(r:tj K Z H ds vs):tj K Z H (cutD ds lo hi) (zJw vs lo hi):=by
 unfold cutD zJw;rw[r.length];exact(r.drop _).take _
def zex{l h:FO}(he:ME X e G)(hl:MO X lo l)(hu:MO X hi h):ME X (.Subscript e (.Slice lo hi none p2) pos) (fSl G l h) :=
 zFe (zdy (SlR.or zXD zbC) he hl hu) λZ J O Y H d O' Q A e k=>by
  obtain⟨⟨x,O1⟩,e1,e⟩:=zm e;obtain⟨⟨o1,O2⟩,e2,e⟩:=zm e;obtain⟨⟨o2,O3⟩,e3,e⟩:=zm e;refine⟨Z,J,O,x,O1,A,e1,λZ1 H1 v x1 R1 r1=>?_⟩;refine⟨Z1,J,O1,o1,O2,A.ext x1 R1,e2,λZ2 H2 x2 R2=>?_⟩;refine⟨Z2,J,O2,o2,O3,A.ext (x1.trans x2) R2,e3,λZ3 H3 x3 R3=>?_⟩;dsimp only at e
  split at e
  ·cases e;obtain⟨a,vs,rfl,ea,q⟩:=(r1.ext (x2.trans x3)).tN;have xx:=x1.trans (x2.trans x3);refine .inl ⟨a,vs,rfl,ea,λhw=>k Z3 H3 _ xx R3 (.tup ea ?_),λp hp=>k Z3 _ _ (xx.trans (Ext.new hp)) (R3.Tj hp) (.tup zM ((zUs q).ext (Ext.new hp)))⟩
   have e4:zJw vs o1 o2=vs:=by
    unfold zJw;rw[hw.1,hw.2,Nat.sub_zero,List.drop_zero,take_length]
   have:=zUs (lo:=o1) (hi:=o2) q;rw[e4]at this;exact this
  ·split at e
   ·rename_i hm
    cases e;obtain⟨a,rfl,ea⟩:=(r1.ext (x2.trans x3)).tz;obtain⟨vs,ev,q⟩:=R3.at_ _ _ _ ea hm;have xx:=x1.trans (x2.trans x3);exact .inr ⟨a,vs,rfl,SqL.of ev,λp hp=>k _ _ _ (xx.trans (Ext.push hp)) (R3.push hp ⟨_,zM,(zUs q).ext (Ext.push hp)⟩) (.loc (zGc R3))⟩
   ·cases e
  ·cases e
@[simp] def zSF(G:FE):FE:=λJ O=>(G J O).bind λp=>match p.1 with
 |.int i=>some (.int (-i),p.2)
 |_=>none
def big{U:List (yc×YS)}{Y:L2.St}{H:Hp}{s:yd}(I:Inv X U Y H s):sysModules<s.heap.objs.size:=by
 have h:yi<s.heap.objs.size:=(I.mod.glob.keeps I.bk).lt;exact Xc (by decide) h
@[simp] def zlE:FE:=λ_ O=>some (.loc O.length,O++[.dct []])
def zGA:ME X (.Dict [] [] pos) zlE:=by
 intro U s Y H Q I hh;obtain⟨Z,J,O,d,O',A,e,k⟩:=hh;cases e;have hf:=I.hok.fresh (yk s.heap.objs.size);refine wpAny_Dict_empty ⟨.ref s.heap.objs.size,_,I.laid (a:=s.heap.objs.size) (o:=.dK []) (t':=s.toks) (λ_ _ q=>ye _ q) (yk _) ?_,rfl,k _ _ _ (Ext.push hf) (A.hp.push hf ⟨[],zM,rfl,.nil⟩) (.loc (zGc A.hp))⟩;exact⟨Yy _,beq_eq_false_iff_ne.mpr (yM (yz (big I))),[],.nil,Heap.DictOf.new _⟩
def zge:D->Bool
 |.non | .bl _ | .int _ | .str _=>true
 |_=>false
def eqF:D->D->Bool
 |.non,.non=>true
 |.bl a,.bl b=>a==b
 |.bl a,.int b=>(if a then 1 else 0)==b
 |.int a,.bl b=>a==(if b then 1 else 0)
 |.int a,.int b=>a==b
 |.str a,.str b=>a==b
 |_,_=>false
def zyl:φ2:=λx y O=>(items O y).bind λds=>bif zge x&&ds.all zge then some (.bl (!ds.any λd=>eqF d x),O) else none
def zKq{K:yw}{Z:List yc}{H:Hp}{d:D}{v:V}(r:tx K Z H d v)(f:zge d=true):zym v=true:=by
 cases d with
 |non=>rw[r.tF];rfl
 |bl b=>rw[r.tK];rfl
 |int b=>rw[r.int_inv];rfl
 |str b=>rw[r.str_inv];rfl
 |_=>cases f
def zBw{K:yw}{Z:List yc}{H:Hp}{d d':D}{v v':V}(r:tx K Z H d v)(r':tx K Z H d' v')(f:zge d=true)(f':zge d'=true):eqV v v'=eqF d d':=by
 cases d with
 |non=>rw[r.tF];cases d' with
  |non=>rw[r'.tF];rfl
  |bl b=>rw[r'.tK];rfl
  |int b=>rw[r'.int_inv];rfl
  |str b=>rw[r'.str_inv];rfl
  |_=>cases f'
 |bl b=>rw[r.tK];cases d' with
  |non=>rw[r'.tF];rfl
  |bl b=>rw[r'.tK];rfl
  |int b=>rw[r'.int_inv];rfl
  |str b=>rw[r'.str_inv];rfl
  |_=>cases f'
 |int b=>rw[r.int_inv];cases d' with
  |non=>rw[r'.tF];rfl
  |bl b=>rw[r'.tK];rfl
  |int b=>rw[r'.int_inv];rfl
  |str b=>rw[r'.str_inv];rfl
  |_=>cases f'
 |str b=>rw[r.str_inv];cases d' with
  |non=>rw[r'.tF];rfl
  |bl b=>rw[r'.tK];rfl
  |int b=>rw[r'.int_inv];rfl
  |str b=>rw[r'.str_inv];rfl
  |_=>cases f'
 |_=>cases f
def zPw{K:yw}{Z:List yc}{H:Hp}{x:D}{v:V}(rx:tx K Z H x v)(fx:zge x=true):∀{ds:List D} {vs:List V},tj K Z H ds vs->ds.all zge=true->vs.all zym=true/\inV v vs=ds.any λd=>eqF d x
 |[],_,r,_=>by rw[r.nil_inv];exact⟨rfl,rfl⟩
 |d::ds,_,r,f=>by
  obtain⟨w,ws,rfl,r1,r2⟩:=r.cons_inv;rw[all_cons,yK]at f;obtain⟨h1,h2⟩:=zPw rx fx r2 f.2;refine⟨by rw[all_cons,zKq r1 f.1,h1];rfl,?_⟩;unfold inV at h2 ⊢;rw[any_cons,any_cons,h2,zBw r1 rx f.1 fx]
def zLj:OpM X (yV .NotIn) zyl:=by
 refine OpM.of λU s Y H x y v u Q I rx ry Z dx dy O d O' r1 r2 R e k=>?_;obtain⟨ds,e1,e⟩:=zm e;obtain⟨h1,e⟩:=zP e;rw[yK]at h1;cases e;obtain⟨p,vs,rfl,hq,rr⟩:=zSj R r2 e1;obtain⟨h3,h4⟩:=zPw r1 h1.1 rr h1.2;exact z5r U s Y H x _ v u Q I rx ry ⟨p,vs,rfl,hq,zKq r1 h1.1,h3,by rw[if_pos rfl,h4];exact k Z H _ Ext.refl R .bl⟩
abbrev GM:=D->List D->Mem->Option (D×Mem)
@[simp] def zVh(g:GM)(G:FE)(ψ:FA):FE:=λJ O=>(G J O).bind λp=>match p.1 with
 |.loc n=>match p.2[n]? with
  |some (.lst _)=>(ψ J p.2).bind λq=>g (.loc n) q.1 q.2
  |_=>none
 |_=>none
@[simp] def z2f:GM:=λx ds O=>match x,ds with
 |.loc n,[d]=>match O[n]? with
  |some (.lst xs)=>bif decide (xs.length<=1000000) then some (.non,O.set n (.lst (xs++[d]))) else none
  |_=>none
 |_,_=>none
def MtG(X:Cx)(id:String)(g:GM):Prop:=MtR X id λx xs H Q=>∃Z dx ds O d O',tx X.K Z H dx x/\tj X.K Z H ds xs/\tG X.K Z H O/\g dx ds O=some (d,O')/\∀Z' H' v,Ext Z H Z' H'->tG X.K Z' H' O'->tx X.K Z' H' d v->Q v H'
def MtG.of{X:Cx}{id:String}{g:GM}(h:∀(U:List (yc×YS)) (s:yd) (Y:L2.St) (H:Hp) (x:V) (xs:List V) (v:yb) (us:List yb) (Q:VK),Inv X U Y H s->RelV x v->Vals xs us->∀(Z:List yc)(dx:D)(ds:List D)(O:Mem)(d:D)(O':Mem),tx X.K Z H dx x->tj X.K Z H ds xs->tG X.K Z H O->g dx ds O=some (d,O')->(∀Z' H' v,Ext Z H Z' H'->tG X.K Z' H' O'->tx X.K Z' H' d v->Q v H')->yq (yC X.prog X.w) X.A (call (.builtin id) (v::us)) (EP X U Y Q) X.xe s):MtG X id g:=by
 intro U s Y H x xs v us Q I rx rs hh;obtain⟨Z,dx,ds,O,d,O',r1,r2,R,e,k⟩:=hh;exact h U s Y H x xs v us Q I rx rs Z dx ds O d O' r1 r2 R e k
def zNp{o:yD}{ψ:FA}{name:yn}{id:String}{g:GM}{apos:xo}(slot:Slot "list" name id)(hty:typeOf (.builtin id)=pure (.type "method_descriptor"))(hm:MtG X id g)(ho:ME X o G)(ha:MAn X (e::es) ψ)
 (hbase:YB o name X.env (Yb o X.env)=Yb o X.env:=by rfl)
 (hfew:((Yq pos (yj (e::es) X.env)).all (λx=>!x.1)&&(xy pos (YG [] X.env)).all (λx=>x.1.isSome)
  && decide ((e::es).length+([]:List xc).length+(if([]:List xc).isEmpty then 0 else 1)<30))=true:=by rfl)
 (hline:(apos.endLine==pos.line)=true:=by rfl) (hs:yj (e::es) X.env=(false,Yb e X.env)::yj es X.env:=by rfl) (hplain:(Yq pos (yj es X.env)).any (·.1)=false:=by rfl) :
 ME X (.Call (.Attribute o name apos) (e::es) [] pos) (zVh g G ψ) :=
 zFe (z0D PySem.F.plainAttrs_list slot hty hm ho ha.ma hbase hfew hline hs hplain) λZ J O Y H d O' Q A e k=>by
  obtain⟨⟨x,O1⟩,e1,e⟩:=zm e;refine⟨Z,J,O,x,O1,A,e1,λZ1 H1 v x1 R1 r1=>?_⟩;dsimp only at e
  split at e
  ·split at e
   ·rename_i hm'
    obtain⟨⟨ds,O2⟩,e2,e⟩:=zm e;obtain⟨a,rfl,ea⟩:=r1.tz;obtain⟨vs,e3,q3⟩:=R1.at_ _ _ _ ea hm';refine⟨.inl ⟨rfl,vs,SqL.of e3⟩,Z1,J,O1,ds,O2,A.ext x1 R1,e2,λZ2 H2 vs2 x2 R2 r2=>?_⟩;exact⟨Z2,_,ds,O2,d,O',r1.ext x2,r2,R2,e,λZ3 H3 v3 x3 R3 r3=>k Z3 H3 v3 (x1.trans (x2.trans x3)) R3 r3⟩
   ·cases e
  ·cases e
def zHv:MtG X "list.append" z2f:=by
 refine MtG.of λU s Y H x xs v us Q I rx rs Z dx ds O d O' r1 r2 R e k=>?_;unfold z2f at e
 split at e
 ·split at e
  ·rename_i hm
   obtain⟨h1,e⟩:=zP e;have h1:=of_decide_eq_true h1;cases e;obtain⟨a,rfl,ea⟩:=r1.tz;obtain⟨vs,e3,q3⟩:=R.at_ _ _ _ ea hm;obtain⟨w,r,rfl,q1,q2⟩:=r2.cons_inv;rw[q2.nil_inv]at rs;have hl:=q3.length;have hmi:=Tf;have hmu:Mut (H a):=by rw[e3];trivial
   refine zYx U s Y H _ _ v us Q I rx rs ⟨a,vs,w,rfl,rfl,e3,by omega,?_⟩;exact k Z _ _ (Ext.wr hmu) (R.wr hmu ea ⟨_,zM,tj.ext (Ext.wr hmu) (q3.append (.cons q1 .nil))⟩) .non
  ·cases e
 ·cases e
def zIh{o:yD}{ψ:FA}{apos:xo}(ho:ME X o G)(ha:MAn X (e::es) ψ)
 (hbase:YB o "append" X.env (Yb o X.env)=Yb o X.env:=by rfl)
 (hfew:((Yq pos (yj (e::es) X.env)).all (λx=>!x.1)&&(xy pos (YG [] X.env)).all (λx=>x.1.isSome)
  && decide ((e::es).length+([]:List xc).length+(if([]:List xc).isEmpty then 0 else 1)<30))=true:=by rfl)
 (hline:(apos.endLine==pos.line)=true:=by rfl) (hs:yj (e::es) X.env=(false,Yb e X.env)::yj es X.env:=by rfl) (hplain:(Yq pos (yj es X.env)).any (·.1)=false:=by rfl) :
 ME X (.Call (.Attribute o "append" apos) (e::es) [] pos) (zVh z2f G ψ):=zNp PySem.F.slot_list_append PySem.F.type_list_append zHv ho ha hbase hfew hline hs hplain
end
end M
namespace M
open PySem
def RS(xs:Array Nat):Prop:=xs.toList.Pairwise (· < ·)
def zaq(xs:Array Nat)(j:Nat)(h:RS xs):∀(fuel lo hi:Nat),lo<=hi->hi<=xs.size->hi-lo<=fuel->(∀i (hi':i<xs.size),i<lo->xs[i]<j)->(∀i (hi':i<xs.size),hi<=i->j<=xs[i]) ->
 Xn xs j fuel lo hi<=xs.size/\(∀i (hi':i<xs.size),i<Xn xs j fuel lo hi->xs[i]<j)/\∀i (hi':i<xs.size),Xn xs j fuel lo hi<=i->j<=xs[i]
 |0,lo,hi,h1,h2,h3,h4,h5=>by
  have:lo=hi:=by omega
  subst this;unfold Xn;exact⟨h2,h4,h5⟩
 |fuel+1,lo,hi,h1,h2,h3,h4,h5=>by
  have hp:∀i k (hi:i<xs.size) (hk:k<xs.size),i<k->xs[i]<xs[k]:=λi k hi hk hik=>by
   have:=List.pairwise_iff_getElem.mp h i k (by simpa using hi) (by simpa using hk) hik;simpa using this
  unfold Xn
  by_cases hlt:lo<hi
  ·rw[if_pos hlt];dsimp only;have hm:(lo+hi) / 2<xs.size:=by omega
   have hg:xs.getD ((lo+hi) / 2) j=xs[(lo+hi) / 2]:=by simp[Array.getD,hm]
   rw[hg]
   by_cases hc:xs[(lo+hi) / 2]<j
   ·rw[if_pos hc];refine zaq xs j h fuel _ hi (by omega) h2 (by omega) (λi hi' hil=>?_) h5
    by_cases e:i=(lo+hi) / 2
    ·subst e;exact hc
    ·exact Xc (hp i _ hi' hm (by omega)) hc
   ·rw[if_neg hc];refine zaq xs j h fuel lo _ (by omega) (by omega) (by omega) h4 (λi hi' hil=>?_)
    by_cases e:i=(lo+hi) / 2
    ·subst e;omega
    ·exact yF (by omega) (YU (hp _ i hm hi' (by omega)))
  ·rw[if_neg hlt];have:lo=hi:=by omega
   subst this;exact⟨h2,h4,h5⟩
def zKo(xs:Array Nat)(j:Nat)(h:RS xs):YN xs j<=xs.size/\(∀i (hi:i<xs.size),i<YN xs j->xs[i]<j)/\∀i (hi':i<xs.size),YN xs j<=i->j<=xs[i] :=
 zaq xs j h xs.size 0 xs.size (Yy _) (yk _) (by omega) (λi _ h=>by omega) (λi h1 h2=>by omega)
def zKp{α:Type}(xs:Array α)(p:Nat)(x:α):(SetTable.insertAt xs p x).toList=xs.toList.take p++x::xs.toList.drop p:=by
 unfold SetTable.insertAt;simp;rw[Xd (by simp)]
def zxD{xs:Array Nat}{j:Nat}(h:RS xs)(hn:xs[YN xs j]?≠some j):RS (SetTable.insertAt xs (YN xs j) j):=by
 obtain⟨h0,h1,h2⟩:=zKo xs j h;unfold RS at h ⊢;rw[zKp];generalize YN xs j=r at *
 have hd:∀y∈xs.toList.drop r,j<y:=λy hy=>by
  obtain⟨i,hi,rfl⟩:=List.mem_iff_getElem.mp hy;simp at hi;have hi':r+i<xs.size:=by omega
  have h3:=h2 (r+i) hi' (by omega);have e:(xs.toList.drop r)[i]'(by simp;omega)=xs[r+i]:=by simp
  rw[e]
  by_cases hz:i=0
  ·subst hz;have:xs[r]?=some xs[r]:=by simp
   simp only[Nat.add_zero]at h3 ⊢;rw[this]at hn;have:xs[r]≠j:=λe=>hn (by rw[e]);omega
  ·have hp:=List.pairwise_iff_getElem.mp h r (r+i) (by simp;omega) (by simpa using hi') (by omega);simp at hp;have:=h2 r (by omega) (yk _);omega
 have ht:∀y∈xs.toList.take r,y<j:=λy hy=>by
  obtain⟨i,hi,rfl⟩:=List.mem_iff_getElem.mp hy;simp at hi;have e:(xs.toList.take r)[i]'(by simp;omega)=xs[i]:=by simp
  rw[e];exact h1 i (by omega) (by omega)
 rw[List.pairwise_append];refine⟨h.sublist (List.take_sublist _ _),List.pairwise_cons.mpr ⟨hd,h.sublist (List.drop_sublist _ _)⟩,λa ha b hb=>?_⟩;rcases List.mem_cons.mp hb with rfl|hb
 ·exact ht a ha
 ·exact Xc (ht a ha) (hd b hb)
structure TOk(L:Bool)(t:xA):Prop where
 rs:RS t.place
 nd:t.dummies = #[]
 led:t.led=L
def zZt{j:Nat}:SetTable.has #[] j=false:=by
 unfold SetTable.has;simp
def zhu{t:xA}(hn:t.dummies = #[]){ha:Nat->Int}{h:Int}:∀(fuel:Nat)(p:SetTable.Probe)(j:Nat)(d:Option Nat),p.dummy=none->SetTable.probe.go t ha h fuel p=some (.empty j d)->t.slot j=.empty/\d=none
 |0,p,j,d,_,e=>by unfold SetTable.probe.go at e;cases e
 |fuel+1,p,j,d,hd,e=>by
  unfold SetTable.probe.go at e
  have hadv:(t.advance p).dummy=none:=by
   unfold SetTable.advance
   split
   ·exact hd
   ·exact hd
  split at e
  ·rename_i hs
   cases e;exact⟨hs,hd⟩
  ·rename_i hs
   unfold SetTable.slot at hs;dsimp only at hs;rw[hn,zZt]at hs
   split at hs<;>simp at hs
  ·split at e
   ·cases e
   ·exact zhu hn fuel _ j d hadv e
def zIq{t:xA}(hn:t.dummies = #[]){h:Int}{j:Nat}{b:Bool}(e:t.freeSlot h=some (j,b)):t.place[YN t.place j]?≠some j:=by
 unfold SetTable.freeSlot at e
 split at e
 ·rename_i j' d hp
  obtain⟨h1,rfl⟩:=zhu hn _ _ _ _ rfl hp;cases e;unfold SetTable.slot at h1;dsimp only at h1;intro q;simp only[Option.getD_none]at q;rw[q]at h1;simp at h1
 ·cases e
def TOk.standIn{L:Bool}{t:xA}(h:TOk L t)(n:Nat):TOk L (t.standIn n):=by
 refine⟨?_,rfl,h.led⟩;unfold RS SetTable.standIn;rw[Array.toList_range];exact List.pairwise_lt_range
def TOk.layNew{L:Bool}{t:xA}(h:TOk L t)(es:Array (Int×yb))(hs:Int)(x:yb):TOk L (layNew t es hs x).2.1:=by
 unfold PySem.layNew
 split
 ·rename_i slot wd e
  have hne:=zIq h.nd e
  have h1:TOk L (t.put slot).1:=⟨zxD h.rs hne,by
   unfold SetTable.put;dsimp only;rw[h.nd,zZt];rfl,h.led⟩
  show TOk L ((t.put slot).1.orStandIn _);unfold SetTable.orStandIn
  split
  ·exact h1
  ·exact h1.standIn _
 ·exact h.standIn _
def TOk.relay{L:Bool}{t:xA}(h:TOk L t)(es:Array (Int×yb))(wanted:Nat):TOk L (relayAll t es wanted).2.1:=by
 unfold relayAll
 split
 ·rename_i t' order e
  dsimp only
  split
  ·unfold SetTable.relaid SetTable.laid at e;obtain⟨ow,_,e⟩:=Option.bind_eq_some_iff.mp e;cases e;refine⟨?_,rfl,h.led⟩;unfold RS;dsimp only;rw[List.pairwise_map];refine List.Pairwise.filterMap _ (λa a' hlt b hb b' hb'=>?_) List.pairwise_lt_range;simp at hb hb';obtain⟨_,_,rfl⟩:=hb;obtain⟨_,_,rfl⟩:=hb';exact hlt
  ·exact h.standIn _
 ·exact h.standIn _
def TOk.fresh(L:Bool):TOk L (.fresh 0 0 L):=⟨List.Pairwise.nil,rfl,rfl⟩
def zxn(e:Int×yb):Int:=match e.2 with
 |.int i _=>i
 |_=>0
def Tv(prog:yu)(w:yI)(h:yS)(a:yc)(ks:List Int):Prop :=
 ∃o es ep t,h.get? a=some o/\o.ExactSet/\o.data=.set es ep t/\t.fits es.size=true/\TOk (!w.params.followText "set-order") t/\ElemsOf (intKind prog w) es.toList/\(es.toList.map zxn).Perm ks
section
variable {prog:yu}{w:yI}{A:yJ}{E:yb->yd->Prop}{s:yd}
def z9w{es:List (Int×yb)}{e:Int×yb}{k:Int}(h:ElemsOf (intKind prog w) es)(he:e∈es):(intKind prog w).is k e.2=true↔zxn e=k:=by
 obtain⟨⟨j,hj,_⟩,_⟩:=h e he;obtain⟨t,ht⟩:=Value.isInt_shape (show Value.isInt j e.2=true from hj);unfold zxn;rw[ht];constructor
 ·intro q;obtain⟨u,hu⟩:=Value.isInt_shape (show Value.isInt k (.int j t)=true from q);cases hu;rfl
 ·intro q;have q:j=k:=q;rw[q];exact intKind_is prog w k t
def Tv.at'{h h':yS}{a:yc}{ks:List Int}(x:Tv prog w h a ks)(k:∀o,h.get? a=some o->h'.get? a=some o):Tv prog w h' a ks:=by
 obtain⟨o,es,ep,t,h1,h2⟩:=x;exact⟨o,es,ep,t,k o h1,h2⟩
def zeu(b:Bool){Q:Unit->yd->Prop}(h:Q () s):yq (yC prog w) A (match b with|true=>rule "set.scan.the-table-gave-way" | false=>pure ()) Q E s:=by
 cases b
 ·exact yg h
 ·exact Xs h
def stored{o:YS}{h:yS}{a:yc}{es:Array (Int×yb)}{ep:Nat}{t:xA}(ho:h.get? a=some o)(hd:o.data=.set es ep t)(es1:Array (Int×yb))(t1:xA) :
 (h.update a (Obj.putSet es1 t1)).get? a=some {o with data:=.set es1 (ep+1) t1 }:=by
 have e:=putSet_of es1 t1 hd;have q:=Yn (Obj.putSet es1 t1) ho (by rw[e];rfl);rw[e]at q;exact q
def zUA{a:yc}{ks:List Int}{k:Int}{tk:Tok}{Q:Bool->yd->Prop}(hS:Tv prog w s.heap a ks)(hroom:ks.length+1<scanBound)
 (h:∀b h',yL a s.heap h'->Tv prog w h' a (if k∈ks then ks else ks++[k])->Q b {s with heap:=h' }):yq (yC prog w) A (setAddHashed a (.int k tk) (hashInt k)) Q E s:=by
 obtain⟨o,es,ep,t,ho,hex,hd,hf,hT,hel,hp⟩:=hS
 have hsz:es.size=ks.length:=by
  have:=hp.length_eq;simpa using this
 have hmem:k∈ks↔∃e∈es.toList,zxn e=k:=by
  rw[<-hp.mem_iff,mem_map]
 unfold setAddHashed setAddHashedIn;refine Yp (ya (YY ho hd hf ?_));dsimp only;rw[byScan_of (knd:=intKind prog w) (x:=.int k tk) rfl (by omega) hel];simp only[↓reduceIte];unfold setAddByScan;refine ya (ya (Xs (ya (wpAny_setScan_of (knd:=intKind prog w) (k:=k) (intKind_is prog w k tk) ho hd hf hel ?_))))
 cases hr:List.findIdx? (λe=>(intKind prog w).is k e.2) es.toList with
 |some j=>
  dsimp only;obtain⟨hj,hpj,_⟩:=List.findIdx?_eq_some_iff_getElem.mp hr;have hk:k∈ks:=hmem.mpr ⟨es.toList[j],getElem_mem hj,(z9w hel (getElem_mem hj)).mp hpj⟩;have q:=h false s.heap (Heap.SameBut.refl a s.heap) ⟨o,es,ep,t,ho,hex,hd,hf,hT,hel,by rw[if_pos hk];exact hp⟩;exact yg (yg q)
 |none=>
  dsimp only
  have hk:k∉ks:=λhk=>by
   obtain⟨e,he,q⟩:=hmem.mp hk;have:=List.findIdx?_eq_none_iff.mp hr e he;rw[(z9w hel he).mpr q]at this;cases this
  rw[if_neg hk]at h;have p1:=layNew_perm t es (hashInt k) (.int k tk);have f1:=layNew_fits t es (hashInt k) (.int k tk);have T1:=hT.layNew es (hashInt k) (.int k tk);show yq _ _ (_ >>= _) _ _ _;generalize layNew t es (hashInt k) (.int k tk)=L1 at p1 f1 T1 ⊢;obtain⟨es1,t1,wd,gv⟩:=L1;dsimp only at p1 f1 T1 ⊢;rw[Array.toList_push]at p1;have el1:ElemsOf (intKind prog w) es1.toList:=(hel.push (intKind_is prog w k tk) rfl).perm p1
  have pk1:(es1.toList.map zxn).Perm (ks++[k]):=by
   refine(p1.map zxn).trans ?_;rw[map_append];exact hp.append_right _
  have z1:es1.size=ks.length+1:=by
   have:=pk1.length_eq;simpa using this
  refine ya (zeu gv ?_)
  have fin:yq (yC prog w) A (do
   storeSet a es1 t1
   if (!wd && t1.tooFull)=true then
    match relayAll t1 es1 (Xu es1.size) with
    |(es2,t2,gv2)=>do
     (match gv2 with|true=>rule "set.scan.the-table-gave-way" | false=>pure ())
     storeSet a es2 t2
     pure (some true)
   else pure (some true)) (λr s'=>∃h',s' = {s with heap:=h' }/\r=some true/\yL a s.heap h'/\Tv prog w h' a (ks++[k])) E s:=by
   refine ya (wpAny_storeSet_of ho hd ?_ (fits_of_scanBound (by omega)));have s1:=stored ho hd es1 t1;have b1:=YC s.heap a (Obj.putSet es1 t1)
   split
   ·have p2:=relayAll_perm t1 es1 (Xu es1.size);have f2:=relayAll_fits t1 es1 (Xu es1.size);have T2:=T1.relay es1 (Xu es1.size);generalize relayAll t1 es1 (Xu es1.size)=L2 at p2 f2 T2 ⊢;obtain⟨es2,t2,gv2⟩:=L2;dsimp only at p2 f2 T2 ⊢
    have z2:es2.size=es1.size:=by
     have:=p2.length_eq;simpa using this
    refine ya (zeu gv2 (ya (wpAny_storeSet_of s1 rfl ?_ (fits_of_scanBound (by omega)))));exact yg ⟨_,rfl,rfl,b1.trans (YC _ a _),_,es2,_,t2,stored s1 rfl es2 t2,hex,rfl,f2,T2,el1.perm p2,(p2.map zxn).trans pk1⟩
   ·exact yg ⟨_,rfl,rfl,b1,_,es1,_,t1,s1,hex,rfl,f1,T1,el1,pk1⟩
  have goal2:yq (yC prog w) A (do
   storeSet a es1 t1
   if (!wd && t1.tooFull)=true then
    match relayAll t1 es1 (Xu es1.size) with
    |(es2,t2,gv2)=>do
     (match gv2 with|true=>rule "set.scan.the-table-gave-way" | false=>pure ())
     storeSet a es2 t2
     pure (some true)
   else pure (some true)) (λr s'=>yq (yC prog w) A (match r with|some added=>pure added|none=>setAddHashedIn a (.int k tk) (hashInt k) 99999) Q E s') E s:=by
   refine xp fin (λr s' ⟨h',e1,e2,b,x⟩=>?_) λ_ _ z=>z;subst e1 e2;exact yg (h true h' b x)
  split
  ·refine ya ?_;rw[hashByValue_scannable 8 (x:=.int k tk) rfl];exact yg goal2
  ·exact ya (yg goal2)
end
def zMk{α:Type}:∀(l:List α)(i:Nat)(h:i<l.length),(l[i]::l.eraseIdx i).Perm l
 |[],i,h=>by simp at h
 |y::ys,0,h=>by simp
 |y::ys,i+1,h=>by
  have h':i<ys.length:=by simpa using h
  show(ys[i]::y::ys.eraseIdx i).Perm (y::ys);exact(List.Perm.swap y ys[i] _).trans ((zMk ys i h').cons y)
def zvx{α:Type}(next:Nat->Nat):∀(fuel k:Nat)(rest:List α)(out:Array α),rest.length<=fuel->(pickOrder.go next fuel k rest out).toList.Perm (out.toList++rest)
 |0,k,rest,out,h=>by
  have:rest=[]:=List.length_eq_zero_iff.mp (Nat.le_zero.mp h);subst this;unfold pickOrder.go;simp
 |fuel+1,k,rest,out,h=>by
  unfold pickOrder.go
  cases rest with
  |nil=>simp
  |cons y ys=>
   have hlt:next k%(y::ys).length<(y::ys).length:=Nat.mod_lt _ (by simp);rw[yA hlt];dsimp only;refine(zvx next fuel (k+1) _ _ (by rw[List.length_eraseIdx_of_lt hlt];simp at h ⊢;omega)).trans ?_;rw[Array.toList_push,append_assoc];exact List.Perm.append_left _ (zMk _ _ hlt)
def zKm{α:Type}(next:Nat->Nat)(xs:Array α):(pickOrder next xs).toList.Perm xs.toList:=by
 unfold pickOrder;exact(zvx next xs.size 0 xs.toList #[] (by simp)).trans (by simp)
def tH:Slot "set_iterator" "__next__" "set_iterator.__next__" :=
 .of (owner:="set_iterator") (n:="__next__") (by rw[typeLookup_type,Xj];kernel_rfl) (by decide +kernel) (by decide +kernel) (by decide +kernel) (by first|exact .inl (by decide +kernel)|exact .inr (by decide +kernel)) (by rw[isSubtype_type];kernel_rfl)
def zzl:Slot "set_iterator" "__iter__" "set_iterator.__iter__" :=
 .of (owner:="set_iterator") (n:="__iter__") (by rw[typeLookup_type,Xj];kernel_rfl) (by decide +kernel) (by decide +kernel) (by decide +kernel) (by first|exact .inl (by decide +kernel)|exact .inr (by decide +kernel)) (by rw[isSubtype_type];kernel_rfl)
def z8e:entryFor table "set_iterator.__next__"=some YT.«set_iterator.__next__»:=entryFor_of_tree (by kernel_rfl)
def zSp:entryFor table "set_iterator.__iter__"=some YT.«dict_keyiterator.__iter__»:=entryFor_alias (id':="dict_keyiterator.__iter__") (by kernel_rfl) rfl (by decide +kernel) (by kernel_rfl)
def zRf(a:yb):argsOk "set_iterator.__next__" ⟨[a],[]⟩:=by unfold argsOk;kernel_rfl
def zQr(a:yb):argsOk "set_iterator.__iter__" ⟨[a],[]⟩:=by unfold argsOk;kernel_rfl
def zRq:entryFor table "set.__iter__"=some YT.«frozenset.__iter__»:=entryFor_alias (id':="frozenset.__iter__") (by kernel_rfl) rfl (by decide +kernel) (by kernel_rfl)
def SIt(h:yS)(it a:yc)(first:yb)(i n ep:Nat):Prop:=∃o,h.get? it=some o/\o.cls=.type "set_iterator"/\o.data=.fields #[first,.int i 0,.ref a,.int n 0,.int ep 0]
def SOb(h:yS)(a:yc)(es:Array (Int×yb))(ep:Nat)(t:xA):Prop:=∃o,h.get? a=some o/\o.cls=.type "set"/\o.data=.set es ep t/\t.fits es.size=true
section
variable {prog:yu}{w:yI}{A:yJ}{E:yb->yd->Prop}{s:yd}
def SIt.typeIs{it a:yc}{first:yb}{i n ep:Nat}(x:SIt s.heap it a first i n ep):s.TypeIs (.ref it) "set_iterator":=let ⟨o,ho,hc,_⟩:=x;⟨o,ho,hc⟩
def SIt.at'{h h':yS}{it a:yc}{first:yb}{i n ep:Nat}(x:SIt h it a first i n ep)(k:∀o,h.get? it=some o->h'.get? it=some o):SIt h' it a first i n ep:=let ⟨o,ho,r⟩:=x;⟨o,k o ho,r⟩
def SOb.at'{h h':yS}{a:yc}{es:Array (Int×yb)}{ep:Nat}{t:xA}(x:SOb h a es ep t)(k:∀o,h.get? a=some o->h'.get? a=some o):SOb h' a es ep t:=let ⟨o,ho,r⟩:=x;⟨o,k o ho,r⟩
def zsw{it:yc}{o:YS}{vs:Array yb}{Q:Option yb->yd->Prop}(hh:A.handled=none)(ho:s.heap.get? it=some o)(hd:o.data=.fields vs)(h2:2<vs.size)
 (hQ:∀h',xZ it s.heap h'->Q none {s with heap:=h' }) :
 yq (yC prog w) A.in1 (do setField (.ref it) 2 .none;raiseNew (<-newExc (.type "StopIteration") []):Sem Fin)
  (λ_ _=>False) (λe s'=>yq (yC prog w) A (do if <-isInstance e (.type "StopIteration") then pure none else throw e) Q E s') s:=by
 refine ya (xV ho hd h2 ?_);refine ya ?_;simp only[newExc,newTuple];refine ya (Yh ?_ (by size_fits));refine ya (m:=firstArgMember _ _) (wpAny_of_eq (a:=YQ) (by first|rfl|(simp only[firstArgMember];rfl)) ?_);refine Yh ?_ (by size_fits);simp only[raiseNew];refine ya (wpAny_handled ?_);have e:A.in1.handled=none:=hh;rw[e];refine ya (yg (wpAny_throw ?_));refine ya (xW (T:="StopIteration") (b:=true) ⟨_,ym _ rfl,rfl⟩ isSubtype_stop ?_);exact yg (hQ _ (((YC s.heap it _).extBut.push _).push _))
variable {it a:yc}{es:Array (Int×yb)}{ep i:Nat}{t:xA}{Q:Option yb->yd->Prop}
def zwp(n:Nat):¬(((n:Int) != (n:Int))=true):=by simp
def z9m{slot nx:Nat}{x:yb}(hI:SIt s.heap it a (.int slot 0) i es.size ep)(hO:SOb s.heap a es ep t)
 (hn:∀(Q':Option (yb×Nat)->yd->Prop) (E':yb->yd->Prop),Q' (some (x,nx)) s->yq (yC prog w) A.in1 (setNext a slot i ep) Q' E' s)
 (hQ:∀h',SIt h' it a (.int nx 0) (i+1) es.size ep->yL it s.heap h'->Q (some x) {s with heap:=h' }):yq (yC prog w) A (xP (.ref it)) Q E s:=by
 obtain⟨o,ho,hc,hd⟩:=id hI;obtain⟨oa,hoa,_,hda,hfa⟩:=hO;unfold xP;refine ya (xQ (yO (name:=Yz "__next__") hI.typeIs tH (yP tH hI.typeIs z8e ?_ (zRf _))));unfold YT.«set_iterator.__next__»;refine ya (m:=slotArgs "__next__" 0 ⟨[Ye it],[]⟩) (yg ?_);refine ya (wpAny_fieldsOf ho hd ?_);dsimp only;refine ya (xT hoa hda hfa ?_);rw[if_neg (zwp es.size)];refine ya (hn _ _ ?_);dsimp only;refine ya (xV ho hd (by simp) ?_);have ho1:=Yn (Obj.mapFields (·.setIfInBounds 0 (YM nx))) ho (xE (YA hd _));have hd1:=YA hd (·.setIfInBounds 0 (YM nx));refine ya (xV ho1 hd1 (by simp) (yg ⟨x,rfl,yg (hQ _ ?_ ((YC s.heap it _).trans (YC _ it _)))⟩));refine⟨_,Yn _ ho1 (xE (YA hd1 _)),(Obj.cls_mapFields ..).trans ((Obj.cls_mapFields ..).trans hc),?_⟩;rw[YA hd1];simp[YM]
def zdp{slot:Nat}(hh:A.handled=none)(hI:SIt s.heap it a (.int slot 0) i es.size ep)(hO:SOb s.heap a es ep t)
 (hn:∀(Q':Option (yb×Nat)->yd->Prop) (E':yb->yd->Prop),Q' none s->yq (yC prog w) A.in1 (setNext a slot i ep) Q' E' s)
 (hQ:∀h',xZ it s.heap h'->Q none {s with heap:=h' }):yq (yC prog w) A (xP (.ref it)) Q E s:=by
 obtain⟨o,ho,hc,hd⟩:=id hI;obtain⟨oa,hoa,_,hda,hfa⟩:=hO;unfold xP;refine ya (xQ (yO (name:=Yz "__next__") hI.typeIs tH (yP tH hI.typeIs z8e ?_ (zRf _))));unfold YT.«set_iterator.__next__»;refine ya (m:=slotArgs "__next__" 0 ⟨[Ye it],[]⟩) (yg ?_);refine ya (wpAny_fieldsOf ho hd ?_);dsimp only;refine ya (xT hoa hda hfa ?_);rw[if_neg (zwp es.size)];refine ya (hn _ _ ?_);dsimp only;exact xp (zsw (Q:=Q) (E:=E) hh ho hd (by simp) hQ) (λ_ _ z=>z.elim) λ_ _ z=>z
def zmt{tup:yc}{ot:YS}{items:Array yb}{nt place:Nat}{x:yb}{hx:Int}(hI:SIt s.heap it a (.ref tup) i es.size ep)(hO:SOb s.heap a es ep t)(hot:s.heap.get? tup=some ot)(hdt:ot.data=.seq items nt)
 (hp:items[i]?=some (.int place 0)) (he:es[place]?=some (hx,x))
 (hQ:∀h',SIt h' it a (.ref tup) (i+1) es.size ep->yL it s.heap h'->Q (some x) {s with heap:=h' }):yq (yC prog w) A (xP (.ref it)) Q E s:=by
 obtain⟨o,ho,hc,hd⟩:=id hI;obtain⟨oa,hoa,_,hda,hfa⟩:=hO;unfold xP;refine ya (xQ (yO (name:=Yz "__next__") hI.typeIs tH (yP tH hI.typeIs z8e ?_ (zRf _))));unfold YT.«set_iterator.__next__»;refine ya (m:=slotArgs "__next__" 0 ⟨[Ye it],[]⟩) (yg ?_);refine ya (wpAny_fieldsOf ho hd ?_);dsimp only;refine ya (xT hoa hda hfa ?_);rw[if_neg (zwp es.size)];refine ya (YO hot hdt ?_);dsimp only;simp only[Yg,hp];unfold setNextDrawn;refine ya (ya (YY hoa hda hfa ?_));dsimp only;rw[if_neg (by simp),he];dsimp only;refine yg ?_;refine ya (xV ho hd (by simp) (yg ⟨x,rfl,yg (hQ _ ?_ (YC s.heap it _))⟩));refine⟨_,Yn _ ho (xE (YA hd _)),(Obj.cls_mapFields ..).trans hc,?_⟩;rw[YA hd];simp[YM]
def z1v{tup:yc}{ot:YS}{items:Array yb}{nt:Nat}(hh:A.handled=none)(hI:SIt s.heap it a (.ref tup) i es.size ep)(hO:SOb s.heap a es ep t)(hot:s.heap.get? tup=some ot)(hdt:ot.data=.seq items nt)
 (hp:items[i]?=none) (hQ:∀h',xZ it s.heap h'->Q none {s with heap:=h' }):yq (yC prog w) A (xP (.ref it)) Q E s:=by
 obtain⟨o,ho,hc,hd⟩:=id hI;obtain⟨oa,hoa,_,hda,hfa⟩:=hO;unfold xP;refine ya (xQ (yO (name:=Yz "__next__") hI.typeIs tH (yP tH hI.typeIs z8e ?_ (zRf _))));unfold YT.«set_iterator.__next__»;refine ya (m:=slotArgs "__next__" 0 ⟨[Ye it],[]⟩) (yg ?_);refine ya (wpAny_fieldsOf ho hd ?_);dsimp only;refine ya (xT hoa hda hfa ?_);rw[if_neg (zwp es.size)];refine ya (YO hot hdt ?_);dsimp only;simp only[Yg,hp];refine ya (xV ho hd (by simp) ?_);have ho1:=Yn (Obj.mapFields (·.setIfInBounds 0 (YM 0))) ho (xE (YA hd _));have hd1:=YA hd (·.setIfInBounds 0 (YM 0));exact xp (zsw (Q:=Q) (E:=E) hh ho1 hd1 (by simp) λh' x=>hQ h' λb o' hb e=>x b o' hb ((YC s.heap it _).extBut b o' hb e)) (λ_ _ z=>z.elim) λ_ _ z=>z
def zck{Q:Bool->yd->Prop}(h:Q (w.params.followText "set-order") s):yq (yC prog w) A setsByText Q E s:=by
 unfold setsByText;exact ya (wpAny_askSetting (yg h))
def zfr{slot:Nat}(hw:w.params.followText "set-order"=true)(hO:SOb s.heap a es ep t){Q:Option (yb×Nat)->yd->Prop}(h:Q (((pickOrder (w.params.setOrder a ep) es)[i]?).map λe=>(e.2,slot)) s) :
 yq (yC prog w) A (setNext a slot i ep) Q E s:=by
 obtain⟨oa,hoa,_,hda,hfa⟩:=hO;unfold setNext;refine ya (YY hoa hda hfa ?_);dsimp only;refine ya (zck ?_);rw[hw,if_pos rfl,if_neg (by simp)];unfold setWalk;refine ya (ya (YY hoa hda hfa ?_));dsimp only;refine ya (zck ?_);rw[hw,if_pos rfl];exact ya (wpAny_askSetting (yg (yg h)))
def zng(t:xA)(i:Nat):Nat:=if i=0 then 0 else t.place.getD (i-1) 0+1
def zgv(h:RS t.place)(hi:i<=t.place.size):YN t.place (zng t i)=i:=by
 obtain⟨h0,h1,h2⟩:=zKo t.place (zng t i) h
 have hp:∀i k (hi:i<t.place.size) (hk:k<t.place.size),i<k->t.place[i]<t.place[k]:=λi k hi hk hik=>by
  have:=List.pairwise_iff_getElem.mp h i k (by simpa using hi) (by simpa using hk) hik;simpa using this
 generalize hr:YN t.place (zng t i)=r at *;unfold zng at h1 h2
 by_cases hz:i=0
 ·subst hz;rw[if_pos rfl]at h1
  by_cases hr0:0<r
  ·have:=h1 0 (by omega) hr0;omega
  ·omega
 ·rw[if_neg hz]at h1 h2;have hl:i-1<t.place.size:=by omega
  have hg:t.place.getD (i-1) 0=t.place[i-1]:=by simp[Array.getD,hl]
  rw[hg]at h1 h2;rcases Nat.lt_trichotomy r i with hlt|he|hgt
  ·have h3:=h2 (i-1) hl (by omega);omega
  ·exact he
  ·have h3:=h1 i (by omega) hgt;have h4:=hp (i-1) i hl (by omega) (by omega);omega
def z4o(hw:w.params.followText "set-order"=false)(hd:(!t.plain&&decide (es.size>1))=false)(hT:TOk true t)(hi:i<=es.size)(hO:SOb s.heap a es ep t){Q:Option (yb×Nat)->yd->Prop}(h:Q ((es[i]?).map λe=>(e.2,zng t (i+1))) s) :
 yq (yC prog w) A (setNext a (zng t i) i ep) Q E s:=by
 obtain⟨oa,hoa,_,hda,hfa⟩:=hO
 have hsz:t.place.size=es.size:=by
  unfold SetTable.fits at hfa;rw[yK]at hfa;exact beq_iff_eq.mp hfa.1
 unfold setNext;refine ya (YY hoa hda hfa ?_);dsimp only;refine ya (zck ?_);rw[hw,if_neg yB];refine xa (λhab=>?_) λ_=>?_
 ·have hab:(!t.plain&&decide (es.size>1))=true:=hab;rw[hd]at hab;cases hab
 ·refine ya ?_
  have led:yq (yC prog w) A (if(!t.led && !es.isEmpty)=true then unsupported "set:maker-not-led" else pure ()) (λ_ s'=>yq (yC prog w) A (pure (match es[YN t.place (zng t i)]?,t.place[YN t.place (zng t i)]? with
   |some (_,x),some j=>some (x,j+1)
   |_,_=>none):Sem (Option (yb×Nat))) Q E s') E s:=by
   rw[hT.led,if_neg (by simp)];refine yg (yg ?_);rw[zgv hT.rs (by omega)]
   by_cases hlt:i<es.size
   ·have e1:es[i]?=some es[i]:=by simp[hlt]
    have e2:t.place[i]?=some (t.place[i]'(by omega)):=by simp[show i<t.place.size by omega]
    rw[e1]at h;rw[e1,e2]
    have e3:zng t (i+1)=t.place[i]'(by omega)+1:=by
     unfold zng;rw[if_neg (by omega)];simp[Array.getD,show i<t.place.size by omega]
    rw[e3]at h;exact h
   ·have e1:es[i]?=none:=by simp;omega
    rw[e1]at h;rw[e1];exact h
  exact led
def zrp{α:Type}:∀(n:Nat)(xs:List α)(s:yd)(Q:List α->yd->Prop),n=xs.length->(∀ys d,ys.Perm xs->Q ys {s with drawn:=d })->yq (yC prog w) A (drawOrder n xs) Q E s
 |0,xs,s,Q,hn,h=>by
  have:xs=[]:=List.length_eq_zero_iff.mp hn.symm;subst this;exact yg (h [] s.drawn .nil)
 |n+1,[],s,Q,hn,h=>by simp at hn
 |n+1,x::xs,s,Q,hn,h=>by
  unfold drawOrder;refine ya ?_;intro Γ p hΓ;unfold choose;rw[Sem.wp_choose];refine⟨by simp,?_⟩;have hlt:(yC prog w).w.draws .order (s.drawn.get .order)%(x::xs).length<(x::xs).length:=Nat.mod_lt _ (by simp);generalize (yC prog w).w.draws .order (s.drawn.get .order)%(x::xs).length=j at hlt ⊢;generalize s.drawn.bump .order=d1
  have main:yq (yC prog w) A (match(x::xs)[j]? with
   |some y=>do return y::(<-drawOrder n ((x::xs).eraseIdx j))
   |none=>unsupported "internal:drawOrder") Q E {s with drawn:=d1 }:=by
   rw[yA hlt];dsimp only;refine ya (zrp n _ _ _ (by rw[List.length_eraseIdx_of_lt hlt];simp at hn ⊢;omega) λys d hp=>yg (h _ d ?_));exact(hp.cons _).trans (zMk _ _ hlt)
  simp only[Sem.wp_pure];exact main
variable {I:yc}
def znt{first:yb}{n:Nat}{Q:yb->yd->Prop}(hI:SIt s.heap I a first i n ep)(h:Q (.ref I) s):yq (yC prog w) A (pyIter (.ref I)) Q E s:=by
 refine wpAny_pyIter_slot hI.typeIs zzl (yP zzl hI.typeIs zSp ?_ (zQr _));unfold YT.«dict_keyiterator.__iter__»;refine ya (m:=slotArgs "__iter__" 0 ⟨[Ye I],[]⟩) (yg ?_);exact yg ⟨_,rfl,"set_iterator",_,hI.typeIs,tH.lookup,h⟩
abbrev zrC(ent:List (Int×yb))(i:Nat)(v:yb):Prop:=∃k,ent[i]?=some (k,v)
def zCx(hh:A.handled=none)(hne:a≠I)(hw:w.params.followText "set-order"=true) :
 Walks prog w A I [I,a] [I] es.size (zrC (pickOrder (w.params.setOrder a ep) es).toList) (λi h=>SIt h I a (.int ((0:Nat):Int) 0) i es.size ep/\SOb h a es ep t) where
 sub:=λb hb=>by simp at hb;simp[hb]
 frame:=λ_ _ _ st hk=>⟨st.1.at' λo e=>hk I (by simp) o e,st.2.at' λo e=>hk a (by simp) o e⟩
 item:=λi s Q E hi st hQ=>by
  have hl:(pickOrder (w.params.setOrder a ep) es).size=es.size:=by
   have:=(zKm (w.params.setOrder a ep) es).length_eq;simpa using this
  have hi':i<(pickOrder (w.params.setOrder a ep) es).size:=by omega
  have e1:(pickOrder (w.params.setOrder a ep) es)[i]?=some (pickOrder (w.params.setOrder a ep) es)[i]:=by simp[hi']
  refine z9m (nx:=0) (x:=(pickOrder (w.params.setOrder a ep) es)[i].2) st.1 st.2 (λQ' E' hq=>zfr hw st.2 (by rw[e1];exact hq)) λh' x sb=>?_;refine hQ _ h' s.toks ⟨_,by rw[xF,e1]⟩ ⟨x,st.2.at' λo e=>sb.extBut a o hne e⟩ λb o hb e=>sb.extBut b o (λh=>hb (by simp[h])) e
 done:=λs Q E st hQ=>by
  have hl:(pickOrder (w.params.setOrder a ep) es).size=es.size:=by
   have:=(zKm (w.params.setOrder a ep) es).length_eq;simpa using this
  refine zdp hh st.1 st.2 (λQ' E' hq=>zfr hw st.2 (by rw[show(pickOrder (w.params.setOrder a ep) es)[es.size]?=none by simp;omega];exact hq)) λh' x=>hQ h' s.toks λb o hb e=>x b o (λh=>hb (by simp[h])) e
 self:=λ_ _ _ _ st hQ=>znt st.1 hQ
def zLv(hh:A.handled=none)(hne:a≠I)(hw:w.params.followText "set-order"=false)(hd:(!t.plain&&decide (es.size>1))=false)(hT:TOk true t) :
 Walks prog w A I [I,a] [I] es.size (zrC es.toList) (λi h=>SIt h I a (.int (zng t i:Nat) 0) i es.size ep/\SOb h a es ep t) where
 sub:=λb hb=>by simp at hb;simp[hb]
 frame:=λ_ _ _ st hk=>⟨st.1.at' λo e=>hk I (by simp) o e,st.2.at' λo e=>hk a (by simp) o e⟩
 item:=λi s Q E hi st hQ=>by
  have e1:es[i]?=some es[i]:=by simp[hi]
  refine z9m (nx:=zng t (i+1)) (x:=es[i].2) st.1 st.2 (λQ' E' hq=>z4o hw hd hT (by omega) st.2 (by rw[e1];exact hq)) λh' x sb=>?_;refine hQ _ h' s.toks ⟨_,by rw[xF,e1]⟩ ⟨x,st.2.at' λo e=>sb.extBut a o hne e⟩ λb o hb e=>sb.extBut b o (λh=>hb (by simp[h])) e
 done:=λs Q E st hQ=>by
  refine zdp hh st.1 st.2 (λQ' E' hq=>z4o hw hd hT (by omega) st.2 (by rw[show es[es.size]?=none by simp];exact hq)) λh' x=>hQ h' s.toks λb o hb e=>x b o (λh=>hb (by simp[h])) e
 self:=λ_ _ _ _ st hQ=>znt st.1 hQ
def zXu{tup:yc}{ord:List Nat}{nt:Nat}(hh:A.handled=none)(hne:a≠I)(hne2:tup≠I)(hp:ord.Perm (yt es.size)) :
 Walks prog w A I [I,a,tup] [I] es.size (zrC (ord.map λj=>es.getD j (0,.none))) (λi h=>SIt h I a (.ref tup) i es.size ep/\SOb h a es ep t/\∃ot,h.get? tup=some ot/\ot.data=.seq (ord.map λ(j:Nat)=>YM j).toArray nt) where
 sub:=λb hb=>by simp at hb;simp[hb]
 frame:=λ_ _ _ st hk=>⟨st.1.at' λo e=>hk I (by simp) o e,st.2.1.at' λo e=>hk a (by simp) o e,let ⟨ot,h1,h2⟩:=st.2.2;⟨ot,hk tup (by simp) ot h1,h2⟩⟩
 item:=λi s Q E hi st hQ=>by
  obtain⟨st1,st2,ot,h1,h2⟩:=st
  have hl:ord.length=es.size:=by
   have:=hp.length_eq;simpa using this
  have hi':i<ord.length:=by omega
  have hj:ord[i]<es.size:=by
   have:=hp.mem_iff.mp (getElem_mem hi');simpa using this
  have e1:es[ord[i]]?=some es[ord[i]]:=by simp[hj]
  refine zmt (x:=es[ord[i]].2) (place:=ord[i]) (hx:=es[ord[i]].1) st1 st2 h1 h2 (by simp[hi',YM]) e1 λh' x sb=>?_;refine hQ _ h' s.toks ⟨es[ord[i]].1,by simp[hi',Array.getD,hj]⟩ ⟨x,st2.at' λo e=>sb.extBut a o hne e,ot,sb.extBut tup ot hne2 h1,h2⟩ λb o hb e=>sb.extBut b o (λh=>hb (by simp[h])) e
 done:=λs Q E st hQ=>by
  obtain⟨st1,st2,ot,h1,h2⟩:=st
  have hl:ord.length=es.size:=by
   have:=hp.length_eq;simpa using this
  refine z1v hh st1 st2 h1 h2 (by simp;omega) λh' x=>hQ h' s.toks λb o hb e=>x b o (λh=>hb (by simp[h])) e
 self:=λ_ _ _ _ st hQ=>znt st.1 hQ
def zwy{ord:List Nat}(hp:ord.Perm (yt es.size)):(ord.map λj=>es.getD j (0,.none)).Perm es.toList:=by
 refine(hp.map _).trans ?_
 have:(yt es.size).map (λj=>es.getD j (0,YQ))=es.toList:=by
  apply List.ext_getElem
  ·simp
  ·intro n h1 h2;simp at h1 h2;simp[Array.getD,h1]
 rw[this]
def zGE(prog:yu)(w:yI)(A:yJ)(s:yd)(es:Array (Int×yb))(a:yc)(I:yc)(s':yd):Prop :=
 ∃fp ent St,Walks prog w A I fp [I] es.size (zrC ent) St/\St 0 s'.heap/\ent.Perm es.toList/\s.heap.objs.size<=I/\(∀b∈fp,s.heap.objs.size<=b\/b=a)/\(∀b∈fp,b<s'.heap.objs.size)/\(∀b o,s.heap.get? b=some o->s'.heap.get? b=some o)/\∃d,s' = {s with heap:=s'.heap,drawn:=d }
def zLz{Q:yb->yd->Prop}(hh:A.handled=none)(hT:TOk (!w.params.followText "set-order") t)(hO:SOb s.heap a es ep t)(hsz:es.size<=yG)
 (h:∀I s',zGE prog w A s es a I s'->Q (.ref I) s'):yq (yC prog w) A (pyIter (.ref a)) Q E s:=by
 obtain⟨oa,hoa,hca,hda,hfa⟩:=id hO;have hTy:s.TypeIs (.ref a) "set":=⟨oa,hoa,hca⟩
 have hlt:a<s.heap.objs.size:=yo hoa;refine wpAny_pyIter_slot hTy F.slot_set_iter (yP F.slot_set_iter hTy zRq ?_ (F.args_set_iter_1 _));unfold YT.«frozenset.__iter__»;refine ya (m:=Builtin.Frozenset.slot0 "__iter__" ⟨[Ye a],[]⟩) (yg ?_);unfold Builtin.Frozenset.sizeOf;refine ya (ya (xT hoa hda hfa (yg ?_)));unfold setDrawn;refine ya (ya (YY hoa hda hfa ?_));dsimp only;refine ya (zck (yg ?_));refine xa (λhab=>?_) λhab=>?_
 ·have hab:(!w.params.followText "set-order" && (!t.plain&&decide (es.size>1)))=true:=hab;refine ya (zrp es.size _ _ _ (by simp) λord d hp=>?_)
  have hol:ord.length=es.size:=by
   have:=hp.length_eq;simpa using this
  unfold newTuple;refine ya (Yh ?_ (by show(List.map (λ(i:Nat)=>YM i) ord).toArray.size<=yG;simp;omega));have hg:(s.heap.push {cls:=.type "tuple",data:=.seq (ord.map λ(i:Nat)=>YM i).toArray }).get? a=some oa:=ye _ hoa;refine ya ?_;unfold setEpoch;refine ya (YY (s:={s with heap:=_,drawn:=d }) hg hda hfa (yg ?_));unfold newFields;refine ya (Yh (yg ⟨_,rfl,"set_iterator",_,⟨_,ym _ rfl,rfl⟩,tH.lookup,?_⟩));have hs1:(s.heap.push {cls:=.type "tuple",data:=.seq (ord.map λ(i:Nat)=>YM i).toArray }).objs.size=s.heap.objs.size+1:=by rw[yT]
  refine h _ _ ⟨[(s.heap.push {cls:=.type "tuple",data:=.seq (ord.map λ(i:Nat)=>YM i).toArray }).objs.size,a,s.heap.objs.size],ord.map λj=>es.getD j (0,.none),_,
   zXu (t:=t) (ep:=ep) (nt:=0) hh (by rw[hs1];exact yz (Yx hlt)) (by rw[hs1];exact yz (Yr _)) hp,⟨⟨_,ym _ rfl,rfl,by simp[YM]⟩,⟨oa,ye _ hg,hca,hda,hfa⟩,_,ye _ (ym _ rfl),rfl⟩,
   zwy hp,by rw[hs1];exact Nat.le_succ _,?_,?_,λb o e=>ye _ (ye _ e),d,rfl⟩
  ·intro b hb;rw[hs1]at hb;simp at hb;rcases hb with rfl|rfl|rfl
   ·exact .inl (Nat.le_succ _)
   ·exact .inr rfl
   ·exact .inl (yk _)
  ·intro b hb;show b<((s.heap.push _).push _).objs.size;rw[yT,hs1];rw[hs1]at hb;simp at hb;rcases hb with rfl|rfl|rfl
   ·exact Yr _
   ·exact Yx (Yx hlt)
   ·exact Yx (Yr _)
 ·have hab:¬(!w.params.followText "set-order" && (!t.plain&&decide (es.size>1)))=true:=hab;refine ya (yg ?_);refine ya ?_;unfold setEpoch;refine ya (YY hoa hda hfa (yg ?_));unfold newFields;refine ya (Yh (yg ⟨_,rfl,"set_iterator",_,⟨_,ym _ rfl,rfl⟩,tH.lookup,?_⟩))
  have pre:∀(ent:List (Int×yb)) (St:Nat->yS->Prop),Walks prog w A s.heap.objs.size [s.heap.objs.size,a] [s.heap.objs.size] es.size (zrC ent) St->St 0 (s.heap.push {cls:=.type "set_iterator",data:=.fields #[YM 0,YM 0,.ref a,YM es.size,YM ep]})->ent.Perm es.toList ->
   Q (.ref s.heap.objs.size) {s with heap:=s.heap.push {cls:=.type "set_iterator",data:=.fields #[YM 0,YM 0,.ref a,YM es.size,YM ep]}}:=λent St W st hp=>
   h _ _ ⟨_,ent,St,W,st,hp,yk _,λb hb=>by simp at hb;rcases hb with rfl|rfl;exact .inl (yk _);exact .inr rfl,λb hb=>by
    show b<(s.heap.push _).objs.size;rw[yT];simp at hb;rcases hb with rfl|rfl
    ·exact Yr _
    ·exact Yx hlt,λb o e=>ye _ e,s.drawn,rfl⟩
  cases hw:w.params.followText "set-order" with
  |true=>exact pre _ _ (zCx (t:=t) (ep:=ep) hh (yz hlt) hw) ⟨⟨_,ym _ rfl,rfl,by simp[YM]⟩,⟨oa,ye _ hoa,hca,hda,hfa⟩⟩ (zKm _ _)
  |false=>
   rw[hw]at hab hT;exact pre _ _ (zLv (t:=t) (ep:=ep) hh (yz hlt) hw (by simpa using hab) hT) ⟨⟨_,ym _ rfl,rfl,by simp[YM,zng]⟩,⟨oa,ye _ hoa,hca,hda,hfa⟩⟩ (.refl _)
def zyy{Q:Bool->yd->Prop}(hT:s.TypeIs (.ref a) "set")(hq:Q false s):yq (yC prog w) A (xv (.ref a)) Q E s:=by
 unfold xv;refine ya (xr hT F.slot_set_len.lookup ?_);generalize hn:("set.__len__":String)=nm
 wp_delta
 rw[show splitId nm=some ("set","__len__") from by subst hn;decide +kernel];subst hn;refine ya (xW (T:="set") (b:=true) hT (by rw[isSubtype_type];kernel_rfl) ?_);refine xa (λno=>absurd no (by decide)) λ_=>?_;refine xa (λ_=>?_) λno=>absurd (by decide +kernel) no;exact ya (Xv hT (yg hq))
def zxF(s:yd)(es:Array (Int×yb))(vs:List yb)(s':yd):Prop :=
 (∃ent:List (Int×yb),ent.Perm es.toList/\vs=ent.map (·.2))/\(∀b o,s.heap.get? b=some o->s'.heap.get? b=some o)/\s'.os=s.os/\s'.gens=s.gens/\s.heap.objs.size<=s'.heap.objs.size
def zKy{ent:List (Int×yb)}{acc:Array yb}{n:Nat}(hl:ent.length=n)(h:ItemsOf (zrC ent) acc n):acc.toList=ent.map (·.2):=by
 apply List.ext_getElem
 ·simp[h.1,hl]
 ·intro j h1 h2;have h1':j<acc.size:=by simpa using h1
  obtain⟨k,e⟩:=h.2 j acc[j] (by simp[h1']);have h3:j<ent.length:=by simpa using h2
  rw[yA h3]at e;simp only[Option.some.injEq]at e;simp[e]
def z0s{Q:List yb->yd->Prop}(hh:A.handled=none)(hT:TOk (!w.params.followText "set-order") t)(hO:SOb s.heap a es ep t)(hsz:es.size<=yG)(h:∀vs s',zxF s es vs s'->Q vs s') :
 yq (yC prog w) A (collect (.ref a)) Q E s:=by
 obtain⟨oa,hoa,hca,hda,hfa⟩:=id hO;have hlt:a<s.heap.objs.size:=yo hoa;unfold collect;refine ya (wpAny_runValue (Xe F.entry_proto_collect ?_));rw[xO F.plain_proto_collect _];show yq _ A.in1 (newList [] >>= λl=>again (.builtin "list.__iadd__" ⟨[l,.ref a],[]⟩)) _ _ s;refine ya (Yh ?_);refine yg ⟨plainId_quiet F.plain_list_iadd _,Xe F.entry_list_iadd ?_⟩;rw[xO F.plain_list_iadd _];obtain⟨S,hSe⟩:∃S,S=s.heap.objs.size:=⟨_,rfl⟩
 have hL:(s.heap.push {cls:=.type "list",data:=.seq ([]:List yb).toArray }).get? S=some {cls:=.type "list",data:=.seq #[]}:=by rw[hSe];exact ym _ rfl
 have hk0:∀b o,s.heap.get? b=some o->(s.heap.push {cls:=.type "list",data:=.seq ([]:List yb).toArray }).get? b=some o:=λb o e=>ye _ e;have hz0:(s.heap.push {cls:=.type "list",data:=.seq ([]:List yb).toArray }).objs.size=S+1:=by rw[hSe,yT]
 show yq _ A.in1 (YE (.ref s.heap.objs.size) (.ref a) (.ref s.heap.objs.size)) _ _ _;rw[<-hSe];generalize s.heap.push {cls:=.type "list",data:=.seq ([]:List yb).toArray } = h0 at hL hk0 hz0 ⊢;have hO0:SOb h0 a es ep t:=hO.at' λo e=>hk0 _ o e;have hSa:S≠a:=by rw[hSe];exact Yk hlt
 have hTy:Shared.TypeIs {s with heap:=h0 } (.ref a) "set":=⟨oa,hk0 _ _ hoa,hca⟩
 unfold YE;refine ya (Xv hTy ?_);have g1:xR (.ref S) (.ref a)=false:=by simp[xR,hSa]
 have g2:(YJ "set" == YJ "list")=false:=by decide
 have g3:(YJ "set" == YJ "tuple")=false:=by decide
 simp only[g1,g2,g3,Bool.or_false,Bool.false_eq_true,if_false];refine ya (zLz (s:={s with heap:=h0 }) hh hT hO0 hsz λI s1 hI=>?_);obtain⟨fp,ent,St,W,st,hp,hIs,hf1,hf2,hk1,d,hs1⟩:=hI;have hL1:s1.heap.get? S=some {cls:=.type "list",data:=.seq #[]}:=hk1 _ _ hL;have hIs:S+1<=I:=by rw[<-hz0];exact hIs
 have hSf:S∉fp:=λhm=>by
  rcases hf1 S hm with q|q
  ·have q:h0.objs.size<=S:=q;rw[hz0]at q;exact yY _ q
  ·exact hSa q
 have hTy1:s1.TypeIs (.ref a) "set":=⟨oa,hk1 _ _ (hk0 _ _ hoa),hca⟩
 refine ya (Yp (zyy hTy1 ?_))
 have loop:∀(h2:yS)(c:Nat),(∀b o,b≠S->s1.heap.get? b=some o->h2.get? b=some o)->h2.get? S=some {cls:=.type "list",data:=.seq #[] c } ->
  codeAny (yC prog w) A (.builtin "list.extend.loop" ⟨[.ref S,.ref I,.ref S],[]⟩) (λr s'=>∃acc c',r=.ok (.ret (.ref S))/\s'.heap.get? S=some {cls:=.type "list",dict:=none,data:=.seq acc c',slots:=#[]}/\zxF s es acc.toList s') {s1 with heap:=h2 }:=by
  intro h2 c hk2 hL2;refine codeAny_extend_loopS W.toS hsz S hSf (.ref S) es.size 0 _ #[] c rfl (Yy _) (W.frame 0 _ _ st λb hb o e=>hk2 b o (λq=>hSf (q▸hb)) e) hL2 (ItemsOf.nil _) λs' acc c' hm hS' hacc=>?_;refine⟨acc,c',rfl,hS',⟨ent,hp,zKy (by simpa using hp.length_eq) hacc⟩,λb o e=>?_,?_,?_,by rw[<-hSe];exact YU (yo hS')⟩
  ·have hb:b<s.heap.objs.size:=yo e;rw[<-hSe]at hb;refine hm.heap b o (λhmem=>?_) (hk2 b o (yz hb) (hk1 _ _ (hk0 _ _ e)));rcases List.mem_cons.mp hmem with q|q
   ·exact absurd hb (by rw[q];exact yY _)
   ·rw[List.mem_singleton.mp q]at hb;exact yY _ (Xc hb (yE (Yr _) hIs))
  ·have:=hm.os;rw[this];show s1.os=s.os;rw[hs1]
  ·have:s'.gens=s1.gens:=hm.gens;rw[this,hs1]
 have fin:∀(h2:yS)(c:Nat),(∀b o,b≠S->s1.heap.get? b=some o->h2.get? b=some o)->h2.get? S=some {cls:=.type "list",data:=.seq #[] c } ->
  codeAny (yC prog w) A (.builtin "list.extend.loop" ⟨[.ref S,.ref I,.ref S],[]⟩) (λr s'=>match r with
   |.ok (.ret v)=>yq (yC prog w) A (match v with
    |.ref b=>do
     let o <-load b
     match o.data with
     |.seq xs _=>pure xs.toList
     |_=>unsupported "internal:collect"
    |_=>unsupported "internal:collect") Q E s'
   |_=>False) {s1 with heap:=h2 }:=λh2 c hk2 hL2=>xN (loop h2 c hk2 hL2) λr s' ⟨acc,c',e,hS',hc⟩=>by
  subst e;dsimp only;refine ya (wpAny_load hS' ?_);exact yg (h _ _ hc)
 refine xa (λ_=>?_) λ_=>?_
 ·refine ya (Xs ?_);refine ya ?_;show yq _ _ (updateSeq S (·.push .none) >>= λ_=>updateSeq S (·.pop)) _ _ _;refine ya (wpAny_updateSeq hL1 rfl ?_);have hL2:=Yn (Xb (·.push YQ)) hL1 rfl;refine wpAny_updateSeq (hz:=by seq_fits) hL2 rfl ?_;have hL3:=Yn (Xb (·.pop)) hL2 rfl;refine yg ⟨plainId_quiet F.plain_extend_loop _,xN (fin _ _ (λb o hb e=>?_) hL3) λr s' z=>?_⟩
  ·exact(xu _ _ (yM hb)).trans ((xu _ _ (yM hb)).trans e)
  ·cases r with
   |error e=>exact z.elim
   |ok f=>cases f<;>exact z
 ·refine yg ⟨plainId_quiet F.plain_extend_loop _,xN (fin _ _ (λb o hb e=>e) hL1) λr s' z=>?_⟩
  cases r with
  |error e=>exact z.elim
  |ok f=>cases f<;>exact z
end
end M
namespace M
open PySem PyProof.Rows
section
variable {prog:yu}{w:yI}{A:yJ}{E:yb->yd->Prop}{s:yd}{a:yc}
def zOj:∀(ent:List (Int×yb)),ElemsOf (intKind prog w) ent->IntsAre (ent.map (·.2)) (ent.map zxn)
 |[],_ =>.nil
 |e::ent,h=>by
  obtain⟨⟨k,hk,_⟩,_⟩:=h e mem_cons_self;obtain⟨t,ht⟩:=Value.isInt_shape (show Value.isInt k e.2=true from hk);have:zxn e=k:=by unfold zxn;rw[ht]
  rw[map_cons,map_cons,ht,this];exact .cons k t (zOj ent λx hx=>h x (mem_cons_of_mem _ hx))
def zzD(s:yd)(ks:List Int)(p:yc)(s':yd):Prop :=
 ∃(out:Array yb)(ns:List Int)(e:Nat),s'.heap.get? p=some {cls:=.type "list",data:=.seq out e }/\IntsAre out.toList ns/\ns.Perm ks/\ns.Pairwise (·<=·)/\s.heap.objs.size<=p/\(∀b o,s.heap.get? b=some o->s'.heap.get? b=some o)/\s'.os=s.os/\s'.gens=s.gens
def zOv{ks:List Int}{Q:yb->yd->Prop}(hh:A.handled=none)(hS:Tv prog w s.heap a ks)(h64:ks.length<64)(h:∀p s',zzD s ks p s'->Q (.ref p) s') :
 yq (yC prog w) A (call (.builtin "sorted") [.ref a]) Q E s:=by
 obtain⟨o,es,ep,t,ho,hex,hd,hf,hT,hel,hpk⟩:=hS
 have hlen:es.size=ks.length:=by
  have:=hpk.length_eq;simpa using this
 have hO:SOb s.heap a es ep t:=⟨o,ho,hex.1,hd,hf⟩
 refine Calls.call_function_entry kind_sorted plain_sorted entry_sorted (args_sorted1 _) ?_;unfold YT.«sorted»;refine ya (m:=checkCount "sorted" 1 1 _) (yg ?_);refine ya (z0s (A:=A.in1) hh hT hO (yF (YU (by omega:es.size<64)) (by rw[Xp];decide)) λvs s1 hc=>?_);obtain⟨⟨ent,hp,rfl⟩,hk,hos,hgn,hsz⟩:=hc;have hel2:ElemsOf (intKind prog w) ent:=hel.perm hp;have hI:=zOj ent hel2
 have hl:ent.length=ks.length:=by
  rw[hp.length_eq];simpa using hlen
 refine ya (wpAny_newList ?_ (by simp;rw[Xp];omega));have hnew:(s1.heap.push (seqObj "list" (ent.map (·.2)).toArray 0)).get? s1.heap.objs.size=some (seqObj "list" (ent.map (·.2)).toArray 0):=ym _ rfl;refine ya (Yp (yP slot_list_sort ⟨_,hnew,rfl⟩ entry_list_sort (list_sort_tree hnew hI (by simp;omega) λout ns q1 q2 q3=>⟨_,rfl,?_⟩) (args_list_sort _)));obtain⟨e,he⟩:=sortedHeap_at (out:=out) hnew;refine yg ⟨_,rfl,h _ _ ⟨out,ns,e,he,q1,q2.trans ((hp.map zxn).trans hpk),q3,hsz,λb ob eb=>?_,hos,hgn⟩⟩;have hb1:=hk _ _ eb;have hlt1:b<s1.heap.objs.size:=yo hb1;show(sortedHeap (s1.heap.push (seqObj "list" (ent.map (·.2)).toArray 0)) s1.heap.objs.size (ent.map (·.2)) out).get? b=some ob;rw[sortedHeap_old (yz hlt1) (by rw[size_push'];exact Yx hlt1)];exact ye _ hb1
end
def ziE(ks:List Int)(k:Int):List Int:=if k∈ks then ks else ks++[k]
def uqN(val:Nat->Int):Nat->List Int
 |0=>[]
 |i+1=>ziE (uqN val i) (val i)
def zix(val:Nat->Int):∀i,(uqN val i).length<=i
 |0=>yk _
 |i+1=>by
  have:=zix val i;unfold uqN ziE
  split
  ·omega
  ·simp;omega
def zTw(val:Nat->Int)(k:Int):∀i,k∈uqN val i↔∃j,j<i/\val j=k
 |0=>by simp[uqN]
 |i+1=>by
  have ih:=zTw val k i;unfold uqN ziE;constructor
  ·intro h
   split at h
   ·obtain⟨j,h1,h2⟩:=ih.mp h;exact⟨j,by omega,h2⟩
   ·rcases List.mem_append.mp h with h|h
    ·obtain⟨j,h1,h2⟩:=ih.mp h;exact⟨j,by omega,h2⟩
    ·exact⟨i,by omega,by simpa using(List.mem_singleton.mp h).symm⟩
  ·rintro⟨j,h1,h2⟩
   by_cases e:j=i
   ·subst e
    split
    ·rename_i hm
     rw[<-h2];exact hm
    ·simp[h2]
   ·have:=ih.mpr ⟨j,by omega,h2⟩
    split
    ·exact this
    ·exact mem_append_left _ this
def z0q(val:Nat->Int):∀i,(uqN val i).Nodup
 |0=>nodup_nil
 |i+1=>by
  have ih:=z0q val i;unfold uqN ziE
  split
  ·exact ih
  ·rename_i hm
   rw[nodup_append];exact⟨ih,by simp,λa ha b hb e=>by simp at hb;subst hb;exact hm (e▸ha)⟩
section
variable {prog:yu}{w:yI}{A:yJ}{R:Result->yd->Prop}{I:yc}{fp wr:List yc}{n:Nat}{P:Nat->yb->Prop}{St:Nat->yS->Prop}
def zsy(W:Walks prog w A.in1 I fp wr n P St)(S:yc)(hSf:S∉fp)(val:Nat->Int)(hval:∀i v,P i v->∃t,v=.int (val i) t)(hb:n+1<scanBound):∀(k i:Nat)(s:yd),n-i=k->i<=n->St i s.heap->Tv prog w s.heap S (uqN val i) ->
 (∀h' tk,(∀b o,b∉S::wr->s.heap.get? b=some o->h'.get? b=some o)->Tv prog w h' S (uqN val n)->R (.ok (.ret .none)) {s with heap:=h',toks:=tk })->codeAny (yC prog w) A (.builtin "set.update.loop" ⟨[.ref S,.ref I],[]⟩) R s:=by
 have hSw:S∉wr:=λq=>hSf (W.sub _ q);intro k
 induction k with
 |zero=>
  intro i s hk hi st hS hR;have e:i=n:=by omega
  subst e;refine Xe PyProof.Rows.F.entry_set_update_loop ?_;rw[xO xt _];show yq _ A.in1 (xP (.ref I) >>= _) _ _ s;refine ya (W.done s _ _ st λh' tk hk'=>?_);exact yg (hR h' tk (λb o hb e=>hk' b o (λq=>hb (mem_cons_of_mem _ q)) e) (hS.at' λo e=>hk' S o hSw e))
 |succ k ih=>
  intro i s hk hi st hS hR;have hlt:i<n:=by omega
  refine Xe PyProof.Rows.F.entry_set_update_loop ?_;rw[xO xt _];show yq _ A.in1 (xP (.ref I) >>= _) _ _ s;refine ya (W.item i s _ _ hlt st λv h1 tk hP st1 hk1=>?_);obtain⟨t,rfl⟩:=hval i v hP;show yq _ A.in1 (xD [Value.int (val i) t] (setAdd S (.int (val i) t)) >>= _) _ _ _;refine ya (Yp ?_);unfold setAdd;refine Yp ?_;refine ya (wpAny_pyHash_int ?_);have hS1:Tv prog w h1 S (uqN val i):=hS.at' λo e=>hk1 S o hSw e;refine zUA (s:={s with heap:=h1,toks:=tk+1 }) hS1 (by have:=zix val i;omega) λb h2 sb hS2=>?_;refine yg ⟨plainId_quiet xt _,ih (i+1) _ (by omega) hlt (W.frame _ _ _ st1 λc hc o e=>?_) hS2 λh3 tk3 hk3 hS3=>?_⟩
  ·exact sb.extBut c o (λq=>hSf (q▸hc)) e
  ·exact hR h3 tk3 (λc o hc e=>hk3 c o hc (sb.extBut c o (λq=>hc (by rw[q];exact mem_cons_self)) (hk1 c o (λq=>hc (mem_cons_of_mem _ q)) e))) hS3
variable {E:yb->yd->Prop}{s:yd}
abbrev zof(w:yI):YS:={cls:=.type "set",dict:=none,data:=.set #[] 0 (.fresh 0 0 (!w.params.followText "set-order"))}
def zZA(a:yb){Q:yb->yd->Prop}(h:Q (.ref s.heap.objs.size) {s with heap:=s.heap.push (zof w)}) :
 codeAny (yC prog w) A (.call (.builtin "set.__new__") ⟨[.type "set",a],[]⟩) (wants Q E) s:=by
 refine codeAny_of_tree ?_;show yq _ A.in1 (do checkBuiltinCall "set.__new__" ⟨[.type "set",a],[]⟩;again (.builtin "set.__new__" ⟨[.type "set",a],[]⟩)) _ _ s;refine ya (wpAny_of_eq (PySem.F.newCall_set_1 a) (yg ⟨plainId_quiet PySem.F.plain_set_new _,Xe PySem.F.entry_set_new ?_⟩));rw[xO PySem.F.plain_set_new _];unfold YT.«set.__new__» Builtin.Frozenset.newClass;have hsub:=PySem.sub_set_self;obtain⟨hp,g,d,tk,os⟩:=s;dsimp only
 wp_walk
 refine wpAny_askSetting (yg ?_);dsimp only;simp only[newObj];refine ya (wpAny_alloc (yg ?_));exact yg h
def z5v(prog:yu)(w:yI)(s:yd)(ks:List Int)(s':yd):Prop :=
 Tv prog w s'.heap s.heap.objs.size ks/\(∀b o,s.heap.get? b=some o->s'.heap.get? b=some o)/\∃h' tk,s' = {s with heap:=h',toks:=tk }
set_option maxHeartbeats 3200000 in
def zVs{l:yc}{its:Array yb}{ns:List Int}{Q:yb->yd->Prop}(hh:A.handled=none)(hl:s.heap.IsList l its)(hi:IntsAre its.toList ns)(hb:its.size+1<scanBound)
 (h:∀s',z5v prog w s (uqN (λi=>ns.getD i 0) its.size) s'->Q (.ref s.heap.objs.size) s'):yq (yC prog w) A (call (.type "set") [.ref l]) Q E s:=by
 obtain⟨c,tl,hmro⟩:=PySem.F.called_set.mro;have hmade:=PySem.F.called_set.made;have hsub:=PySem.F.called_set.sub;refine wpAny_call (codeAny_of_tree ?_);show yq _ _ (callAny (.type "set") _) _ _ _;refine yg ⟨Code.quiet_builtin _ (by decide +kernel),Xe PySem.F.entry_type_call ?_⟩;rw[Around.under_plain (weight_type_call_type "set" [.ref l] []) rfl];have t1:=PySem.F.called_set.notType;have t2:=PySem.F.called_set.canCreate;have t3:=PySem.F.typeCall_set_1 (.ref l)
 repeat (any_goals (first|assumption|wp_step))
 refine xN (zZA (w:=w) (.ref l) (E:=E) (Q:=λob s1=>ob=.ref s.heap.objs.size/\s1 = {s with heap:=s.heap.push (zof w)}) ⟨rfl,rfl⟩) λr s1 hr=>?_
 cases r with
 |error e=>exact hr
 |ok fl=>
  cases fl with
  |ret ob=>
   obtain⟨rfl,rfl⟩:=hr;have hS:(s.heap.push (zof w)).get? s.heap.objs.size=some (zof w):=ym _ rfl;have hT:Shared.TypeIs {s with heap:=s.heap.push (zof w)} (.ref s.heap.objs.size) "set":=⟨_,hS,rfl⟩
   have i1:=PySem.F.called_set.init.lookup;have i2:=PySem.F.called_set.init.bind (.ref s.heap.objs.size)
   repeat (any_goals (first|assumption|wp_step))
   refine xN (codeAny_call_builtin (R:=wants (λr s2=>r=.none/\z5v prog w s (uqN (λi=>ns.getD i 0) its.size) s2) E) PySem.F.called_set.init.plain PySem.F.entry_set_init (check_set_init_1 hT ?_)) λr2 s2 hr2=>?_
   ·obtain⟨ol,hol,hcl,nl,hdl⟩:=hl;obtain⟨ocls,odict,odata,oslots⟩:=ol;simp only at hcl hdl;subst hcl;subst hdl;have hlS:l<s.heap.objs.size:=yo hol;have hol1:(s.heap.push (zof w)).get? l=some {cls:=.type "list",dict:=odict,data:=.seq its nl,slots:=oslots }:=ye _ hol;have n1:=PySem.F.sub_list_set;have n2:=PySem.F.sub_list_frozenset;have n3:(YJ "list" == YJ "dict")=false:=by decide
    have hl1:(s.heap.push (zof w)).IsList l its:=⟨_,hol1,rfl,nl,rfl⟩
    unfold YT.«set.__init__» noKeywords Builtin.Frozenset.updateFrom;generalize hPI:pyIter=PI
    wp_walk
    subst hPI;refine xM hl1 ?_;refine ya (wpAny_runValue ?_);have hz:(s.heap.push (zof w)).objs.size=s.heap.objs.size+1:=by rw[yT]
    have hne:l≠(s.heap.push (zof w)).objs.size:=by rw[hz];exact yz (Yx hlS)
    have hSf:s.heap.objs.size∉[(s.heap.push (zof w)).objs.size,l]:=by
     rw[hz];simp only[mem_cons,not_mem_nil,or_false,not_or];exact⟨yz (Yr _),Yk hlS⟩
    have hval:∀(i:Nat)(v:yb),its[i]?=some v->∃t,v=.int ((λi=>ns.getD i 0) i) t:=λi v hv=>IntsAre.int_at hi i v (by rw[xF];exact hv);refine zsy (Walks.list (by simp[hh]) _ l hne its) s.heap.objs.size hSf (λi=>ns.getD i 0) hval hb (its.size-0) 0 _ (by omega) (Yy _) ⟨⟨_,ym _ rfl,rfl,rfl⟩,hl1.push _⟩ ?s0 ?r0
    case s0=>
     exact⟨zof w,#[],0,_,ye _ hS,⟨rfl,rfl,rfl⟩,rfl,rfl,.fresh _,λe he=>by simp at he,by simp[uqN]⟩
    case r0=>
     intro h' tk hk hS';refine yg ?_;show yq _ _ (ret YQ) _ _ _;refine yg ⟨rfl,hS',λb o e=>?_,h',tk,rfl⟩;have hlt:b<s.heap.objs.size:=yo e;refine hk b o ?_ (ye _ (ye _ e));rw[hz];simp only[mem_cons,not_mem_nil,or_false,not_or];exact⟨yz hlt,yz (Yx hlt)⟩
   ·cases r2 with
    |error e=>exact hr2
    |ok fl2=>
     cases fl2 with
     |ret r=>
      obtain⟨rfl,hm⟩:=hr2
      repeat (any_goals (first|assumption|wp_step))
      exact h _ hm
     |_=>exact hr2.elim
  |_=>exact hr.elim
end
end M
namespace M
open PySem PySem.Spec PyProof.Rows L2
section
variable {X:Cx}{U:List (yc×YS)}{Y:L2.St}{H:Hp}{s s':yd}
def zjy(I:Inv X U Y H s)(ho:s'.os=s.os)(hg:s'.gens=s.gens)(k:∀b u,s.heap.get? b=some u->s'.heap.get? b=some u):Inv X U Y H s' :=
 I.call' (ch:=[]) ho (Un.kept k) (I.hok.kept k) (by rw[hg];exact I.bare) λb z=>nomatch z
def zny{p:yc}{o:HO}(I:Inv X U Y H s)(ho:s'.os=s.os)(hg:s'.gens=s.gens)(k:∀b u,s.heap.get? b=some u->s'.heap.get? b=some u)(hp:s.heap.objs.size<=p)(new:tI X.prog X.w (upd H p o) s'.heap p o):Inv X U Y (upd H p o) s' :=
 I.call' (ch:=[]) ho (Un.laid k hp (I.hok.fresh hp)) (I.hok.laid k hp new) (by rw[hg];exact I.bare) λb z=>nomatch z
def zxl:∀{us:List yb} {ns:List Int},IntsAre us ns->Vals (ns.map V.int) us
 |_,_,.nil =>.nil
 |_,_,.cons n t r =>.cons ⟨t,rfl⟩ (zxl r)
def zAy(X:Cx)(p:yc)(ks:List Int):HO:=.ext λh=>Tv X.prog X.w h p ks
def zXw(hc:X.calm=true):zLl X (.type "set") (λxs H Q=>∃(a:yc)(ns:List Int),xs=[.ref a]/\SqL X.K H a (ns.map V.int)/\ns.length+1<scanBound/\∀p,H p=none->Q (.ref p) (upd H p (zAy X p (uqN (λi=>ns.getD i 0) ns.length)))):=by
 intro U s Y H xs us Q I r ⟨a,ns,e,hq,hb,k⟩;subst e;obtain⟨u,rfl,rx⟩:=vals1 r;cases rx;obtain⟨its,rv,pl,hz⟩:=I.list hq;have hl:its.length=ns.length:=by rw[<-rv.length];simp
 refine zVs (I.ok.hd hc) pl.isList (its:=its.toArray) (ns:=ns) (by simpa using zVk rv) (by simp;omega) λs' ⟨hS,hk,h',tk,e⟩=>?_;subst e;rw[show its.toArray.size=ns.length by simp;exact hl]at hS;refine⟨.ref s.heap.objs.size,_,I.laid (t':=tk) hk (yk _) (show tI X.prog X.w _ h' _ (zAy X _ _) from⟨hS,?_,λh1 h2 x y=>x.at' y⟩),rfl,k _ I.fresh⟩;obtain⟨o,_,_,_,ho,_⟩:=hS;exact⟨o,ho⟩
def zjv(hc:X.calm=true):zLl X (.builtin "sorted") (λxs H Q=>∃(a:yc)(ks:List Int),xs=[.ref a]/\H a=some (zAy X a ks)/\ks.length<64/\∀(p:yc)(ns:List Int),H p=none->ns.Perm ks->ns.Pairwise (·<=·)->Q (.ref p) (upd H p (.lst (ns.map V.int)))):=by
 intro U s Y H xs us Q I r ⟨a,ks,e,hq,h64,k⟩;subst e;obtain⟨u,rfl,rx⟩:=vals1 r;cases rx;obtain⟨hS,_,_⟩:=I.hok a _ hq;refine zOv (I.ok.hd hc) hS h64 λp s' ⟨out,ns,e,h1,h2,h3,h4,h5,h6,h7,h8⟩=>?_;have hl:ns.length=ks.length:=h3.length_eq;refine⟨.ref p,_,zny I h7 h8 h6 h5 (show tI X.prog X.w _ s'.heap _ (.lst (ns.map V.int)) from⟨by simp;rw[Xp];omega,out.toList,e,zxl h2,by simpa using h1⟩),rfl,k p ns (I.hok.fresh h5) h3 h4⟩
end
def zQF:D->Option Int
 |.int i=>some i
 |_=>none
def zvn(ds:List D):Option (List Int):=ds.mapM zQF
@[simp] theorem z6m:∀ns:List Int,zvn (ns.map D.int)=some ns
 |[]=>rfl
 |i::ns=>by
  have:=z6m ns;unfold zvn at this ⊢;rw[map_cons,mapM_cons,this];rfl
def zBh:∀{ds:List D} {ns:List Int},zvn ds=some ns->ds=ns.map D.int
 |[],ns,h=>by
  unfold zvn at h;simp at h;subst h;rfl
 |d::ds,ns,h=>by
  unfold zvn at h;rw[mapM_cons]at h;obtain⟨i,e1,h⟩:=zm h;obtain⟨r,e2,h⟩:=zm h;cases h
  cases d with
  |int j=>cases e1;rw[zBh (show zvn ds=some r from e2)];rfl
  |_=>cases e1
def zIj{K:yw}{Z:List yc}{H:Hp}:∀{ns:List Int} {vs:List V},tj K Z H (ns.map D.int) vs->vs=ns.map V.int
 |[],vs,r=>r.nil_inv
 |i::ns,vs,r=>by
  obtain⟨v,q,rfl,h1,h2⟩:=r.cons_inv;rw[h1.int_inv,zIj h2];rfl
def zwk{K:yw}{Z:List yc}{H:Hp}:∀{ns:List Int},tj K Z H (ns.map D.int) (ns.map V.int)
 |[] =>.nil
 |i::ns =>.cons .int zwk
def uqL(ns:List Int):List Int:=uqN (λi=>ns.getD i 0) ns.length
def z8y(ns:List Int):List Int:=(uqL ns).mergeSort λa b=>decide (a<=b)
def z7n{a b:List Int}(p:a.Perm b)(ha:a.Pairwise (·<=·))(hb:b.Pairwise (·<=·)):a=b:=p.eq_of_pairwise (λ_ _ _ _ h1 h2=>Int.le_antisymm h1 h2) ha hb
def zDw(ns:List Int):(ns.mergeSort λa b=>decide (a<=b)).Pairwise (·<=·):=by
 have:=List.pairwise_mergeSort (le:=λa b:Int=>decide (a<=b)) (λa b c h1 h2=>by simp at h1 h2 ⊢;omega) (λa b=>by simp;omega) ns;exact this.imp λh=>by simpa using h
def zXv(G:FE):FE:=λJ O=>(G J O).bind λp=>match p.1 with
 |.loc n=>match p.2[n]? with
  |some (.lst ds)=>(zvn ds).bind λns=>bif decide (ns.length<=4000/\(uqL ns).length<64) then some (.loc p.2.length,p.2++[.lst ((z8y ns).map .int)]) else none
  |_=>none
 |_=>none
section
variable {X:Cx}{a b c e:yD}{es:List yD}{G ψ χ:FE}{pos pos2 p1 p2:xo}
def z0x(hm1:X.mg "sorted"=none)(hv1:yH "sorted"=some (.builtin "sorted"))(hm2:X.mg "set"=none)(hv2:yH "set"=some (.type "set"))(h:ME X e G)(hc:X.calm=true:=by rfl)(hg1:Gl X "sorted":=by rfl)(hg2:Gl X "set":=by rfl)
 (he:yj [e] X.env=(false,Yb e X.env)::yj [] X.env:=by rfl) (he2:yj [.Call (.Name "set" p2) [e] [] pos2] X.env=(false,Yb (.Call (.Name "set" p2) [e] [] pos2) X.env)::yj [] X.env:=by rfl) :
 ME X (.Call (.Name "sorted" p1) [.Call (.Name "set" p2) [e] [] pos2] [] pos) (zXv G) :=
 zFe (zSt (zjv hc) hg1 hm1 hv1 (z7i (zkj (zXw hc) hg2 hm2 hv2 (z7i h zwm he) (by decide) (by decide) he rfl) zwm he2) (by decide) (by decide) he2 rfl) λZ J O Y H d O' Q A e k=>by
  obtain⟨⟨x,O1⟩,e1,e⟩:=zm e;refine⟨Z,J,O,x,O1,A,e1,λZ1 H1 v x1 R1 r1=>?_⟩;dsimp only at e
  split at e
  ·split at e
   ·rename_i hm
    obtain⟨ns,e2,e⟩:=zm e;obtain⟨hb,e⟩:=zP e;have hb:=of_decide_eq_true hb;cases e;rw[zBh e2]at hm;obtain⟨p,rfl,ep⟩:=r1.tz;obtain⟨vs,e3,q⟩:=R1.at_ _ _ _ ep hm;rw[zIj q]at e3;refine⟨p,ns,rfl,SqL.of e3,by unfold scanBound;omega,λp1 hp1=>?_⟩;refine⟨p1,uqL ns,rfl,zM,hb.2,λp2 ms hp2 hpm hpw=>?_⟩;have hms:ms=z8y ns:=z7n (hpm.trans (List.mergeSort_perm _ _).symm) hpw (zDw _);subst hms;have R2:=R1.Tj (o:=zAy X p1 (uqL ns)) hp1;exact k _ _ _ (x1.trans ((Ext.new hp1).trans (Ext.push hp2))) (R2.push hp2 ⟨_,zM,zwk⟩) (.loc (zGc R2))
   ·cases e
  ·cases e
variable {prog:yu}{w:yI}{A:yJ}{E:yb->yd->Prop}{s:yd}
def zRv{l b:yc}{its its2:List yb}{n:Nat}{Q:yb->yd->Prop}(hl:s.heap.get? l=some {cls:=.type "list",data:=.seq its.toArray n })(hb:IsTup s.heap b its2.toArray)(hz:its.length+its2.length<=yG)
 (h:Q .none {s with heap:=s.heap.update l (Xb (· ++ its2.toArray))}):yq (yC prog w) A (call (.builtin "list.extend") [.ref l,.ref b]) Q E s:=by
 obtain⟨o,ho,hc,m,hd⟩:=hb
 have hlong:¬(!its.toArray.isEmpty&&xj (its.toArray.size+its2.toArray.size))=true:=by
  rw[sw (by rw[size_toArray,size_toArray];exact hz),Bool.and_false];exact yB
 refine yP PySem.F.slot_list_extend ⟨_,hl,rfl⟩ PySem.F.entry_list_extend ?_ (PySem.F.args_list_extend_2 _ _);unfold YT.«list.extend»;refine ya (m:=selfAndOne "list.extend" ⟨[.ref l,.ref b],[]⟩) (yg ?_);dsimp only;unfold YE;refine ya (Xv (T:="tuple") ⟨o,ho,hc⟩ ?_);have ht:(YJ "tuple" == YJ "tuple")=true:=by rfl
 rw[if_pos (by rw[ht];simp)];refine ya (listItems_at ho hd ?_);refine ya (listItems_at hl rfl ?_);rw[if_neg hlong];refine ya (listUpdate_at hl rfl ?_ (by rw[size_toArray];omega) (by rw[Array.size_append,size_toArray,size_toArray];omega));exact yg ⟨_,rfl,h⟩
@[simp] def z3B:GM:=λx ds O=>match x,ds with
 |.loc n,[.tup ys]=>match O[n]? with
  |some (.lst xs)=>bif decide (xs.length+ys.length<=1000000) then some (.non,O.set n (.lst (xs++ys))) else none
  |_=>none
 |.loc n,[.loc m]=>match O[n]?,O[m]? with
  |some (.lst xs),some (.lst ys)=>bif decide (xs.length+ys.length<=1000000) then some (.non,O.set n (.lst (xs++ys))) else none
  |_,_=>none
 |_,_=>none
def zPu:MtG X "list.extend" z3B:=by
 refine MtG.of λU s Y H x xs v us Q I rx rs Z dx ds O d O' r1 r2 R e k=>?_;have hmi:=Tf;unfold z3B at e
 split at e
 ·split at e
  ·rename_i hm
   obtain⟨h1,e⟩:=zP e;have h1:=of_decide_eq_true h1;cases e;obtain⟨l,rfl,ea⟩:=r1.tz;obtain⟨vs,e3,q3⟩:=R.at_ _ _ _ ea hm;obtain⟨w,r,rfl,q1,q2⟩:=r2.cons_inv;rw[q2.nil_inv]at rs;obtain⟨b,ws,rfl,eb,qb⟩:=q1.tN;obtain⟨u,rfl,ru⟩:=vals1 rs;cases ru;cases rx;obtain⟨z,its,n,rv,hl,el⟩:=I.sP e3;obtain⟨its2,rv2,pt,_⟩:=I.tuple (SqT.of (K:=X.K) eb);have hl1:=q3.length;have hl2:=qb.length;have hl3:=rv2.length;have hmu:Mut (H l):=by rw[e3];trivial
   refine zRv el pt (by omega) ?_;refine⟨.non,_,I.lset (t':=s.toks) (ys:=vs++ws) (its':=its++its2) e3 el (by simp) (rv.append rv2) (by rw[length_append];omega),rfl,?_⟩;exact k Z _ _ (Ext.wr hmu) (R.wr hmu ea ⟨_,zM,tj.ext (Ext.wr hmu) (q3.append qb)⟩) .non
  ·cases e
 ·split at e
  ·rename_i hm1 hm2
   obtain⟨h1,e⟩:=zP e;have h1:=of_decide_eq_true h1;cases e;obtain⟨l,rfl,ea⟩:=r1.tz;obtain⟨vs,e3,q3⟩:=R.at_ _ _ _ ea hm1;obtain⟨w,r,rfl,q1,q2⟩:=r2.cons_inv;rw[q2.nil_inv]at rs;obtain⟨b,rfl,eb⟩:=q1.tz;obtain⟨ws,e4,q4⟩:=R.at_ _ _ _ eb hm2;have hl1:=q3.length;have hl2:=q4.length;have hmu:Mut (H l):=by rw[e3];trivial
   refine zEx U s Y H _ _ v us Q I rx rs ⟨l,b,vs,ws,rfl,rfl,e3,e4,by omega,?_⟩;exact k Z _ _ (Ext.wr hmu) (R.wr hmu ea ⟨_,zM,tj.ext (Ext.wr hmu) (q3.append q4)⟩) .non
  ·cases e
 ·cases e
def z8q{o:yD}{ψ:FA}{apos:xo}(ho:ME X o G)(ha:MAn X (e::es) ψ)
 (hbase:YB o "extend" X.env (Yb o X.env)=Yb o X.env:=by rfl)
 (hfew:((Yq pos (yj (e::es) X.env)).all (λx=>!x.1)&&(xy pos (YG [] X.env)).all (λx=>x.1.isSome)
  && decide ((e::es).length+([]:List xc).length+(if([]:List xc).isEmpty then 0 else 1)<30))=true:=by rfl)
 (hline:(apos.endLine==pos.line)=true:=by rfl) (hs:yj (e::es) X.env=(false,Yb e X.env)::yj es X.env:=by rfl) (hplain:(Yq pos (yj es X.env)).any (·.1)=false:=by rfl) :
 ME X (.Call (.Attribute o "extend" apos) (e::es) [] pos) (zVh z3B G ψ):=zNp PySem.F.slot_list_extend PySem.F.type_list_extend zPu ho ha hbase hfew hline hs hplain
@[simp] def zoC:GL:=λds O=>match ds with
 |[.loc n]=>match O[n]? with
  |some (.lst xs)=>(zvn xs).bind λns=>some (.int ns.sum,O)
  |_=>none
 |_=>none
def zOq(ns:List Int):∀i,i<=ns.length->preSum (λj=>ns.getD j 0) i=(ns.take i).sum
 |0,_=>by simp[preSum]
 |i+1,h=>by
  have ih:=zOq ns i (by omega);unfold preSum;have hi:i<ns.length:=by omega
  have e:ns.take (i+1)=ns.take i++[ns[i]]:=by simp
  rw[ih,e,List.sum_append];simp[hi]
def zGr(hc:X.calm=true):tS X (.builtin "sum") zoC:=by
 refine tS.of λU s Y H xs us Q I r Z ds O d O' r1 R e k=>?_;unfold zoC at e
 split at e
 ·split at e
  ·rename_i hm
   obtain⟨ns,e2,e⟩:=zm e;cases e;rw[zBh e2]at hm;obtain⟨v,rr,rfl,q1,q2⟩:=r1.cons_inv;obtain⟨a,rfl,ea⟩:=q1.tz;obtain⟨vs,e3,q3⟩:=R.at_ _ _ _ ea hm;rw[zIj q3]at e3;rw[q2.nil_inv]at r;obtain⟨u,rfl,ru⟩:=vals1 r;cases ru;obtain⟨its,rv,pl,hz⟩:=I.list (SqL.of (K:=X.K) e3);have hlt:a<s.heap.objs.size:=by obtain⟨_,_,e,_⟩:=pl;exact yo e
   have hI:=zVk rv;have hl:its.length=ns.length:=by rw[<-rv.length];simp
   refine call_sum_walkAnyS (xM pl.isList ?_);refine⟨_,_,_,_,_,_,_,λj=>ns.getD j 0,rfl,(Walks.list (A:=X.A.in1) (I.ok.hd hc) s.heap.objs.size a (yz hlt) its.toArray).toS,⟨⟨_,ym _ rfl,rfl,rfl⟩,pl.isList.push _⟩,λb hb=>?_,λi v hv=>IntsAre.int_at hI i v (by simpa using hv),λs' t' hmv=>?_⟩
   ·show b<(s.heap.push _).objs.size;rw[yT];simp at hb;rcases hb with rfl|rfl
    ·exact Yr _
    ·exact Yx hlt
   ·refine⟨.int _,H,zjy I hmv.os hmv.gens λb o e=>hmv.heap b o (by simpa using yz (yo e)) (ye _ e),⟨t',rfl⟩,?_⟩;rw[size_toArray,hl,zOq ns _ (yk _),take_length];exact k Z H _ Ext.refl R .int
  ·cases e
 ·cases e
@[simp] def zzg(G:FE):FI:=λJ O=>(G J O).bind λp=>match p.1 with
 |.tup ds=>some (ds,yes,p.2)
 |.fz ds=>some (ds,yes,p.2)
 |.loc n=>match p.2[n]? with
  |some (.lst ds)=>some (ds,z9n n ds,p.2)
  |_=>none
 |_=>none
def zKb{tg:yD}(h:ME X a G):MI X tg a (zzg G):=by
 intro U s Y H R I hh;obtain⟨Z,J,O,ds,ok,O',A,e,k⟩:=hh
 cases e1:G J O with
 |none=>unfold zzg at e;rw[e1]at e;cases e
 |some p=>
  obtain⟨x,O1⟩:=p
  cases x with
  |tup zs=>exact zcD h U s Y H R I ⟨Z,J,O,ds,ok,O',A,by unfold zzg at e;unfold zrA;rw[e1]at e ⊢;exact e,k⟩
  |fz zs=>exact zIx h U s Y H R I ⟨Z,J,O,ds,ok,O',A,by unfold zzg at e;unfold zvw;rw[e1]at e ⊢;exact e,k⟩
  |loc n=>exact zIx h U s Y H R I ⟨Z,J,O,ds,ok,O',A,by unfold zzg at e;unfold zvw;rw[e1]at e ⊢;exact e,k⟩
  |_=>unfold zzg at e;rw[e1]at e;cases e
variable {np cpos:xo}{x:yn}{C:yc}{B newId initId:String}{bmB:List yb}
end
inductive RO where
 |ok (d:D) (O:Mem)
 |exc (c:yn) (fs:List (yn×D)) (O:Mem)
abbrev FX:=List D->Mem->Option RO
section
variable {X:Cx}{e:yD}{es:List yD}{pos p spos:xo}{x:yn}{k j n:Nat}{st:yR}{f:yc}{fd:yf}{ps:List yn}{F:FX}{G:FA}
end
end M
namespace L2
open PySem PySem.Spec PyProof.Rows
section
variable {X:Cx}{U:List (yc×YS)}{Y:St}{H:Hp}{s:yd}
variable {M:Model}{A:yJ}{E:yb->yd->Prop}{h:yS}{g:Array GenState}{d:Drawn}{t:Nat}{os:OsState}
end
end L2
namespace M
open PySem PySem.Spec PyProof.Rows L2
section
variable {X:Cx}{c e:yD}{es:List yD}{pos p spos:xo}{x:yn}{k j n:Nat}{st:yR}{f:yc}{fd:yf}{ps:List yn}{F:FX}{G:FA}
end
@[simp] def behind(i:Nat):Option Out->Option Out
 |some (.next J O)=>some (.next (J.set i none) O)
 |some (.ret d O)=>some (.ret d O)
 |some (.brk J O)=>some (.brk (J.set i none) O)
 |some (.cont J O)=>some (.cont (J.set i none) O)
 |_=>none
end M
namespace PySem.W
open PySem PySem.Spec PySem.Calls PyProof.Rows
structure AskC(K:Frag)(C:yc):Prop where
 cl:(clsIn K C).isSome=true
 ga:findIn K (.ref C) "__getattribute__"=some (some (.builtin "BaseException.__getattribute__"))
 gk:findIn K (.ref C) "__getattr__"=some none
 be:mroIn K C (.type "BaseException")=some true
 ha:findIn K (.ref C) "__class__"=some (some (.builtin "object.__class__"))
 hn:specialIn K (.builtin "object.__class__") "__get__"=some (some (.builtin "getset_descriptor.__get__"))
 tk:takesIn K (.builtin "object.__class__")=some true
 hm:mroIn K C (.type "object")=some true
section
variable {prog:yu}{w:yI}{A:yJ}{E:yb->yd->Prop}{s:yd}{K:Frag}{x D:yc}{ox:YS}{odo:Option YS}
end
end PySem.W
namespace M
open PySem PySem.Spec PyProof.Rows L2
section
variable {X:Cx}
def zFD{x:yn}{a:yc}{pos:xo}(hn:Yj X.K yi x=some (some (.ref a)))(hm:X.mg x=some (.ref a))(hg:Gl X x:=by rfl)(hd:(x==("__debug__":yn))=false:=by decide):ME X (.Name x pos) (fC (.own x)) :=
 zEA (zKs (v:=V.ref a) hg hm rfl hd) λ_ _ =>.own hn
inductive CN where
 |own (c:yn)
 |ty (n:String)
 deriving DecidableEq
abbrev Kit:=List ((Option yn×CN)×Bool)
def zIF(K:yw):CN->yb->Prop
 |.own d,v=>∃a,Yj K yi d=some (some (.ref a))/\v=.ref a
 |.ty n,v=>v=.type n
structure KitOk(K:yw)(tb:Kit):Prop where
 non:∀d b v,tb.lookup (none,d)=some b->zIF K d v->W.kitOne K (.type "NoneType") v=some b
 ask:∀c d b,tb.lookup (some c,d)=some b->∀C,Yj K yi c=some (some (.ref C))->W.AskC K C
 exc:∀c d b v,tb.lookup (some c,d)=some b->zIF K d v->∀C,Yj K yi c=some (some (.ref C))->W.kitOne K (.ref C) v=some b
variable {K:yw}{D0:yc}{tb:List (yn×Bool)}{kt:Kit}
end
structure MSsl(X:Cx)(sts:List yR)(ψ:FS):Prop where
 h:MSs X sts ψ
end M
namespace PySem
open Sem (wp)
section
variable {prog:yu}{w:yI}{A:yJ}{E:yb->yd->Prop}{h:yS}{g:Array GenState}{d:Drawn}{t:Nat}{os:OsState}
variable {nm q:yn}{C N fI:yc}{bs bm bmB:List yb}{hdct:Bool}{sn:List yn}{sub:List yb}{ab:Bool}{col:Option Bool}{dd:Option yc}{k0 k1 k2 k3 k5:Option yb}{B newId initId:String}
variable {s:yd}{env:Env}
variable {nm q:yn}{C N fI:yc}{bs bm bmB:List yb}{hdct:Bool}{sn:List yn}{sub:List yb}{ab:Bool}{col:Option Bool}{dd:Option yc}{k0 k1 k2 k3 k5:Option yb}{B newId initId:String}
end
end PySem
namespace PySem
open Sem (wp)
section
variable {prog:yu}{w:yI}{A:yJ}{E:yb->yd->Prop}{h:yS}{g:Array GenState}{d:Drawn}{t:Nat}{os:OsState}
variable {nm q:yn}{C N:yc}{bs bm bmB:List yb}{hdct:Bool}{sn:List yn}{sub:List yb}{ab:Bool}{col:Option Bool}{dd:Option yc}{k0 k1 k2 k3 k5:Option yb}{B newId initId:String}
end
end PySem
namespace PySem.W
open PySem PySem.Spec PySem.Calls PyProof.Rows
open Builtin Builtin.ObjectAttr
abbrev bmV:List yb:=[.type "ValueError",.type "Exception",.type "BaseException",.type "object"]
section
variable {prog:yu}{w:yI}{A:yJ}{E:yb->yd->Prop}{s:yd}{K:Frag}{x C:yc}{ox:YS}{name:yn}{v:yb}{cd:ClassData}
variable {D:yc}{odo:Option YS}
end
end PySem.W
namespace L2
open PySem PySem.Spec PyProof.Rows
section
variable {P:yu}{w:yI}{fs ex:List yc}{H H':Hp}{h h':yS}{e:yc}{G:yS->Prop}
end
end L2
namespace M
open PySem PySem.Spec PyProof.Rows L2
structure ExcI(K:yw)(C NE fI:yc)(f:yn):Prop where
 ob:∃nm q N bs sn sub ab col dd k0 k1 k2 k3 k5,K.lookup C=some (excClassObj nm q C N bs (.ref NE::W.bmV) true sn sub ab col dd k0 k1 k2 k3 k5 "ValueError.__new__")
 ini:YF K (.ref C) "__init__"=some (some (.ref fI))
 fn:W.typeIn K (.ref fI)=some (.type "function")
 ne:W.excIn K NE W.bmV "ValueError.__new__"=true
 sa:YF K (.ref C) "__setattr__"=some (some (.builtin "object.__setattr__"))
 at_:YF K (.ref C) f=some none
 gt:W.specialIn K (.ref NE) "__getattribute__"=some (some (.builtin "type.__getattribute__"))
 rd:W.readsIn K NE (.type "type")=true
 fc:W.findCls K (.ref NE) (.type "type") "__init__"=some (.val (.builtin "ValueError.__init__"))
section
variable {X:Cx}{v o value:yD}{e:yD}{es:List yD}{tv ta:TE}{t:TA}{C NE fI:yc}{f:yn}{np apos pos pos' p1 p2 p3 p4:xo}{x1 x2:yn}{j1 j2:Nat}
variable {x:yn}{cpos:xo}{k:Nat}{fd:yf}{ps:List yn}{G:FA}
end
structure AtC(K:yw)(c f:yn):Prop where
 ok:∀C,Yj K yi c=some (some (.ref C))->W.AskC K C/\YF K (.ref C) f=some none/\W.hasDictIn K C=true
structure IniAt(K:yw)(mg:yn->Option yb)(c f qual:yn)(st:yR)(ps:List yn)(C NE fI:yc)(fd:yf):Prop where
 nm:Yj K yi c=some (some (.ref C))
 ne:mg "NestError"=some (.ref NE)
 ex:ExcI K C NE fI f
 fn:Fun K "__init__" qual st fI fd
 bd:Binds K fd ps []
def zIA(ns:List Int):Prop:=ns.length<=100/\∀n∈ns,n.natAbs<1606938044258990275541962092341162602522202993782792835301376
section
variable {X:Cx}{v:yD}{tv:TE}{p1 p2 p4:xo}{x1:yn}{j1:Nat}
end
instance smallDec(ns:List Int):Decidable (zIA ns):=by unfold zIA;exact inferInstance
section
variable {X:Cx}{x:yn}{e:yD}{np cpos pos:xo}{C NE fI:yc}{f:yn}{k:Nat}{fd:yf}{ps:List yn}{G:FA}
variable {a b c:yD}{es:List yD}{G ψ χ:FE}{pos2 p1 p2:xo}
def z3y(p:yc)(j:Int):HO:=.ext λh=>∃t u v,IsRange h p 0 j 1 t u v
def zbt:zLl X (.type "range") (λxs H Q=>∃j:Int,xs=[.int j]/\∀p,H p=none->Q (.ref p) (upd H p (z3y p j))):=by
 intro U s Y H xs us Q I r ⟨j,e,k⟩;subst e;obtain⟨u,rfl,ru⟩:=vals1 r;obtain⟨t,rfl⟩:=ru;refine call_range_1 ?_;refine⟨.ref s.heap.objs.size,_,I.laid (t':=s.toks+1+1) (λb o e=>ye _ e) (yk _) (show tI X.prog X.w _ _ _ (z3y _ j) from⟨⟨_,_,_,IsRange.new _ _ _ _ _ _ _⟩,⟨_,ym _ rfl⟩,λh1 h2 ⟨t,u,v,x⟩ y=>⟨t,u,v,y _ x⟩⟩),rfl,k _ I.fresh⟩
def zTu{its:Array yb}{n:Nat}(h:ItemsOf (λi v=>∃t,v=.int (0+i*1) t) its n):Vals ((yt n).map λ(k:Nat)=>V.int k) its.toList:=by
 obtain⟨h1,h2⟩:=h
 have key:∀(l:List yb)(m:Nat),(∀i (hi:i<l.length),∃t,l[i]=.int ((m+i:Nat):Int) t)->Vals ((List.range' m l.length).map λ(k:Nat)=>V.int k) l:=by
  intro l
  induction l with
  |nil=>intro m _;exact .nil
  |cons x xs ih=>
   intro m h;obtain⟨t,e⟩:=h 0 (by simp);refine .cons ⟨t,by simpa using e⟩ (ih (m+1) λi hi=>?_);obtain⟨t,e⟩:=h (i+1) (by simpa using hi);exact⟨t,by rw[show m+1+i=m+(i+1) by omega];simpa using e⟩
 have:=key its.toList 0 λi hi=>?_
 ·rw[List.range_eq_range',<-h1];simpa using this
 ·have hi':i<its.size:=by simpa using hi
  obtain⟨t,e⟩:=h2 i its[i] (by simp[hi']);exact⟨t,by simpa using e⟩
def zLp(G:FE):FE:=λJ O=>(G J O).bind λp=>match p.1 with
 |.int j=>bif decide (-(2^62)<=j/\j<=1000000) then some (.loc p.2.length,p.2++[.lst ((yt j.toNat).map λ(k:Nat) =>.int k)]) else none
 |_=>none
def zIu(hc:X.calm=true):zLl X (.type "list") (λxs H Q=>∃p j,xs=[.ref p]/\H p=some (z3y p j)/\-(2^62)<=j/\j<=1000000/\∀l,H l=none->Q (.ref l) (upd H l (.lst ((yt j.toNat).map λ(k:Nat)=>V.int k)))):=by
 intro U s Y H xs us Q I r ⟨p,j,e,hq,h1,h2,k⟩;subst e;obtain⟨u,rfl,ru⟩:=vals1 r;cases ru;obtain⟨⟨t,u,v,hr⟩,_,_⟩:=I.hok p _ hq;have hn:Builtin.Range.rangeSize 0 j 1=(j.toNat:Nat):=by rw[rangeSize_one];split<;>omega
 refine call_list_range (n:=j.toNat) (I.ok.hd hc) hr (small_one (by decide) (by decide) h1 (by omega)) hn (by omega) λh' tk acc' c' kp e hi=>?_;have hm:=Tf;have hv:=zTu hi;refine⟨.ref s.heap.objs.size,_,I.laid (t':=tk) kp (yk _) (show tI X.prog X.w _ h' _ (.lst _) from⟨by simp;omega,acc'.toList,c',hv,by simpa using e⟩),rfl,k _ I.fresh⟩
def z3x(hm1:X.mg "list"=none)(hv1:yH "list"=some (.type "list"))(hm2:X.mg "range"=none)(h:ME X e G)(hc:X.calm=true:=by rfl)(hg1:Gl X "list":=by rfl)(hg2:Gl X "range":=by rfl)
 (he:yj [e] X.env=(false,Yb e X.env)::yj [] X.env:=by rfl) (he2:yj [.Call (.Name "range" p2) [e] [] pos2] X.env=(false,Yb (.Call (.Name "range" p2) [e] [] pos2) X.env)::yj [] X.env:=by rfl) :
 ME X (.Call (.Name "list" p1) [.Call (.Name "range" p2) [e] [] pos2] [] pos) (zLp G) :=
 zFe (zkj (zIu hc) hg1 hm1 hv1 (z7i (zkj zbt hg2 hm2 boot_range (z7i h zwm he) (by decide) (by decide) he rfl) zwm he2) (by decide) (by decide) he2 rfl) λZ J O Y H d O' Q A e k=>by
  obtain⟨⟨x,O1⟩,e1,e⟩:=zm e;refine⟨Z,J,O,x,O1,A,e1,λZ1 H1 v x1 R1 r1=>?_⟩;dsimp only at e
  split at e
  ·rename_i j
   obtain⟨hb,e⟩:=zP e;have hb:=of_decide_eq_true hb;cases e;refine⟨j,by rw[r1.int_inv],λp1 hp1=>⟨p1,j,rfl,zM,hb.1,hb.2,λl hl=>?_⟩⟩;have R2:=R1.Tj (o:=z3y p1 j) hp1;refine k _ _ _ (x1.trans ((Ext.new hp1).trans (Ext.push hl))) (R2.push hl ⟨_,zM,?_⟩) (.loc (zGc R2));have hr:=λZ H=>@zwk X.K Z H ((yt j.toNat).map λ(k:Nat)=>(k:Int));simp only[map_map]at hr;exact hr _ _
  ·cases e
@[simp] def zoE:GL:=λds O=>match ds with
 |[.loc n]=>match O[n]? with
  |some (.lst xs)=>bif xs.all zzF then some (.bl (xs.any blB),O) else none
  |_=>none
 |_=>none
def zyx(hc:X.calm=true):tS X (.builtin "any") zoE:=by
 refine tS.of λU s Y H xs us Q I r Z ds O d O' r1 R e k=>?_;unfold zoE at e
 split at e
 ·split at e
  ·rename_i n _ ys hm
   obtain⟨hb,e⟩:=zP e;cases e;obtain⟨v,rr,rfl,q1,q2⟩:=r1.cons_inv;obtain⟨a,rfl,e2⟩:=q1.tz;obtain⟨vs,e3,q3⟩:=R.at_ _ _ _ e2 hm;rw[q2.nil_inv]at r;obtain⟨u,rfl,ru⟩:=vals1 r;cases ru;obtain⟨its,rv,pl,hz⟩:=I.list (SqL.of (K:=X.K) e3);have hlt:a<s.heap.objs.size:=by obtain⟨_,_,e,_⟩:=pl;exact yo e
   refine call_any_walk (xM pl.isList ?_);refine⟨_,_,_,_,_,_,λi=>blB (ys.getD i .non),rfl,Walks.list (A:=X.A.in1) (I.ok.hd hc) s.heap.objs.size a (yz hlt) its.toArray,⟨⟨_,ym _ rfl,rfl,rfl⟩,pl.isList.push _⟩,?_,λh' tk hk=>?_⟩
   ·intro i w s' Q' E' hP hQ;have hi:its[i]?=some w:=by simpa using hP
    have hil:i<ys.length:=by
     have h1:=(List.getElem?_eq_some_iff.mp hi).1;rw[q3.length,rv.length];exact h1
    have hyi:ys[i]?=some ys[i]:=by simp[hil]
    obtain⟨vv,ev,rvv⟩:=q3.get hyi;obtain⟨ww,ew,rww⟩:=rv.get ev;rw[hi]at ew;cases ew;have hall:=List.all_eq_true.mp hb ys[i] (getElem_mem hil)
    have hQ':Q' (blB ys[i]) s':=by
     have e:ys.getD i .non=ys[i]:=by rw[getD_eq_getElem?_getD,hyi];rfl
     rw[<-e];exact hQ
    cases hyb:ys[i] with
    |bl b=>
     rw[hyb]at rvv hQ';rw[rvv.tK]at rww;cases rww;exact YV hQ'
    |_=>rw[hyb]at hall;cases hall
   ·have hsz:its.toArray.size=ys.length:=by rw[q3.length,rv.length];simp
    have eall:((yt its.toArray.size).any λi=>blB (ys.getD i .non))=ys.any blB:=by
     rw[hsz,xL,any_eq_true,any_eq_true];constructor
     ·rintro⟨i,hi,h⟩;have hi':i<ys.length:=by simpa using hi
      rw[getD_eq_getElem?_getD,show ys[i]?=some ys[i] by simp[hi']]at h;exact⟨_,getElem_mem hi',h⟩
     ·rintro⟨y,hy,h⟩;obtain⟨i,hi,rfl⟩:=List.mem_iff_getElem.mp hy;refine⟨i,by simpa using hi,?_⟩;rw[getD_eq_getElem?_getD,show ys[i]?=some ys[i] by simp[hi]];exact h
    rw[eall];refine⟨.bl _,H,I.kept (h':=h') (t':=tk) λb o e=>hk b o (by simpa using yz (yo e)) (ye _ e),rfl,k Z H _ Ext.refl R .bl⟩
  ·cases e
 ·cases e
@[simp] def zJF:GL:=λds O=>match ds with
 |[.int i]=>some (.int i,O)
 |[.bl b]=>some (.int (if b then 1 else 0),O)
 |_=>none
@[simp] def zkF:GL:=λds O=>match ds with
 |[.int i,.int j]=>some (.int (if j<i then j else i),O)
 |_=>none
@[simp] def zvE:GL:=λds O=>match ds with
 |[.int i,.int j]=>some (.int (if j>i then j else i),O)
 |_=>none
@[simp] def fIf(c:FT)(G ψ:FE):FE:=λJ O=>(c J O).bind λp=>bif p.1 then G J p.2 else ψ J p.2
variable {prog:yu}{w:yI}{A:yJ}{E:yb->yd->Prop}{s:yd}
def nextT{it t:yc}{i:Nat}{items:Array yb}{x:yb}{Q:yb->yd->Prop}(hit:s.heap.IsTupleIter it t i)(ht:s.heap.IsTuple t items)(hx:items[i]?=some x)
 (hQ:∀h',h'.IsTupleIter it t (i+1)->yL it s.heap h'->Q x {s with heap:=h' }):yq (yC prog w) A (yN (.ref it)) Q E s:=by
 obtain⟨ob,hob,hcl,hfs⟩:=id hit;obtain⟨ot,hot,_,m,hits⟩:=ht;unfold yN;refine ya (yO (name:=Yz "__next__") hit.typeIs xB (yP xB hit.typeIs F.entry_tuple_iterator_next ?_ (F.args_tuple_iterator_next_1 _)));show yq _ _ (field (.ref it) 0 >>= _) _ _ s;refine ya (Yo hob hfs (x:=.ref t) rfl ?_);show yq _ _ (if(Ye t==YQ)=true then _ else field (.ref it) 1 >>= _) _ _ s;rw[if_neg (show ¬(Ye t==YQ)=true from yB)];refine ya (Yo hob hfs (x:=.int i 0) rfl ?_);show yq _ _ (seqItems? (.ref t) >>= _) _ _ s;refine ya (YO hot hits ?_);simp only[Yg,hx];refine ya (xV hob hfs (by simp) (yg ⟨x,rfl,yg (hQ _ ?_ (YC ..))⟩));refine⟨_,Yn _ hob (xE (YA hfs _)),(Obj.cls_mapFields ..).trans hcl,?_⟩;rw[YA hfs];simp[YM]
def z9q{it t:yc}{i:Nat}{items:Array yb}{Q:yb->yd->Prop}(hh:A.handled=none)(hit:s.heap.IsTupleIter it t i)(ht:s.heap.IsTuple t items)(hx:items[i]?=none)
 (hE:∀h' e,xZ it s.heap h'->(∃o,h'.get? e=some o/\o.cls=.type "StopIteration")->E (.ref e) {s with heap:=h' }):yq (yC prog w) A (yN (.ref it)) Q E s:=by
 obtain⟨ob,hob,hcl,hfs⟩:=id hit;obtain⟨ot,hot,_,m,hits⟩:=ht;unfold yN;refine ya (yO (name:=Yz "__next__") hit.typeIs xB (yP xB hit.typeIs F.entry_tuple_iterator_next ?_ (F.args_tuple_iterator_next_1 _)));show yq _ _ (field (.ref it) 0 >>= _) _ _ s;refine ya (Yo hob hfs (x:=.ref t) rfl ?_);show yq _ _ (if(Ye t==YQ)=true then _ else field (.ref it) 1 >>= _) _ _ s;rw[if_neg (show ¬(Ye t==YQ)=true from yB)];refine ya (Yo hob hfs (x:=.int i 0) rfl ?_);show yq _ _ (seqItems? (.ref t) >>= _) _ _ s;refine ya (YO hot hits ?_);simp only[Yg,hx];refine ya (Xs (ya (xV hob hfs (by simp) ?_)));show yq _ _ (newExc (.type "StopIteration") [] >>= _) _ _ _;refine ya ?_;simp only[newExc,newTuple];refine ya (Yh ?_ (by size_fits));refine ya (m:=firstArgMember _ _) (wpAny_of_eq (a:=YQ) (by first|rfl|(simp only[firstArgMember];rfl)) ?_);refine Yh ?_ (by size_fits);simp only[raiseNew];refine ya (wpAny_handled ?_)
 first|rw[show A.in1.handled=none from hh]|rw[hh]
 exact ya (yg (wpAny_throw (hE _ _ (((YC ..).extBut.push _).push _) ⟨_,ym _ rfl,rfl⟩)))
def z3q{e it:yc}{i:Int}{x old:yb}{N:yS->Prop}{Q:Option yb->yd->Prop}(he:IsEnum s.heap e it i old)(hne:e≠it)
 (nx:∀(A':yJ)(Q':yb->yd->Prop)(E':yb->yd->Prop),(∀h1,N h1->yL it s.heap h1->Q' x {s with heap:=h1 })->yq (yC prog w) A' (yN (.ref it)) Q' E' s)
 (hN:∀h h',N h->(∀o,h.get? it=some o->h'.get? it=some o)->N h')
 (hQ:∀h',IsEnumOut h' e it (i+1) x s.heap.objs.size->N h'->h'.get? s.heap.objs.size=some {cls:=.type "tuple",data:=.seq #[.int i s.toks,x]}->h'.objs.size=s.heap.objs.size+1 ->
  (∀b o,b≠e->b≠it->s.heap.get? b=some o->h'.get? b=some o)->Q (some (.ref s.heap.objs.size)) {s with heap:=h',toks:=s.toks+1 }):yq (yC prog w) A (xP (.ref e)) Q E s:=by
 obtain⟨hp,g,d,tk,os⟩:=s;have hT:Shared.TypeIs ⟨hp,g,d,tk,os⟩ (.ref e) "enumerate":=⟨_,he,rfl⟩
 unfold xP;refine ya (xQ (yO (name:=Yz "__next__") hT Xk (yP Xk hT F.entry_enumerate_next ?_ (F.args_enumerate_next_1 _))));show yq _ _ (field (.ref e) 2 >>= _) _ _ _;refine ya (Yo he rfl (x:=.ref it) rfl (ya (nx _ _ _ λh1 n1 sb1=>?_)));replace sb1:yL it hp h1:=sb1;have e1:IsEnum h1 e it i old:=(sb1.2 e hne).trans he;show yq _ _ (field (.ref e) 3 >>= _) _ _ ⟨h1,g,d,tk,os⟩;refine ya (Yo e1 rfl (x:=YM i) rfl ?_);show yq _ _ (field (.ref e) 4 >>= _) _ _ ⟨h1,g,d,tk,os⟩;refine ya (Yo e1 rfl (x:=.none) rfl ?_);show yq _ _ (mkInt i >>= _) _ _ ⟨h1,g,d,tk,os⟩;refine ya (wpAny_mkInt ?_);show yq _ _ (setField (.ref e) 3 (YM (i+1)) >>= _) _ _ ⟨h1,g,d,tk+1,os⟩;refine ya (Yt e1 (by simp) λh2 e2 sb2=>?_);replace sb2:yL e h1 h2:=sb2;replace e2:IsEnum h2 e it (i+1) old:=e2;show yq _ _ (setField (.ref e) 4 .none >>= _) _ _ ⟨h2,g,d,tk+1,os⟩;refine ya (Yt e2 (by simp) λh3 e3 sb3=>?_);replace sb3:yL e h2 h3:=sb3;replace e3:IsEnum h3 e it (i+1) old:=e3;show yq _ _ (newTuple [.int i tk,x] >>= _) _ _ ⟨h3,g,d,tk+1,os⟩;refine ya (wpAny_newTuple ?_);have z3:h3.objs.size=hp.objs.size:=by rw[sb3.1,sb2.1,sb1.1]
 have el:e<hp.objs.size:=yo he;have ne4:hp.objs.size≠e:=Yk el;obtain⟨h4,hh4⟩:∃h4,h4=h3.push {cls:=.type "tuple",data:=.seq #[.int i tk,x]}:=⟨_,rfl⟩
 have e4:IsEnum h4 e it (i+1) old:=by rw[hh4];exact ye _ e3
 have t4:h4.get? hp.objs.size=some {cls:=.type "tuple",data:=.seq #[.int i tk,x]}:=by rw[hh4,<-z3];exact ym _ rfl
 have z4:h4.objs.size=hp.objs.size+1:=by rw[hh4,yT,z3]
 have up:∀b o,b≠e->h1.get? b=some o->h4.get? b=some o:=λb o hb q=>by
  rw[hh4];exact ye _ ((sb3.2 b hb).trans ((sb2.2 b hb).trans q))
 show yq _ _ (Yl (.ref e) >>= _) _ _ ⟨h3.push {cls:=.type "tuple",data:=.seq #[.int i tk,x]},g,d,tk+1,os⟩;rw[<-hh4,z3];refine ya ?_;unfold Yl;refine ya (Yo e4 rfl (x:=.none) rfl (yg ?_));simp only[if_true];refine ya (Xs (ya (Yo e4 rfl (x:=old) rfl (ya (Yt e4 (by simp) λh5 e5 sb5=>?_)))));replace sb5:yL e h4 h5:=sb5;replace e5:IsEnum h5 e it (i+1) x:=e5;show yq _ _ (YK (.ref e) (.ref hp.objs.size) >>= _) _ _ ⟨h5,g,d,tk+1,os⟩;refine ya ?_;unfold YK;refine ya (Yt e5 (by simp) λh6 e6 sb6=>?_);replace sb6:yL e h5 h6:=sb6;replace e6:IsEnumOut h6 e it (i+1) x hp.objs.size:=e6;refine Yt e6 (by simp) λh7 e7 sb7=>?_;replace sb7:yL e h6 h7:=sb7;replace e7:IsEnumOut h7 e it (i+1) x hp.objs.size:=e7;have up7:∀b o,b≠e->h4.get? b=some o->h7.get? b=some o:=λb o hb q=>(sb7.2 b hb).trans ((sb6.2 b hb).trans ((sb5.2 b hb).trans q));refine ya (wpAny_letGo (yg ⟨_,rfl,yg (hQ h7 e7 (hN _ _ n1 λo q=>up7 _ _ (yM hne) (up _ _ (yM hne) q)) (up7 _ _ ne4 t4) ?_ λb o h1 h2 q=>up7 _ _ h1 (up _ _ h1 ((sb1.2 b h2).trans q)))⟩));show h7.objs.size=hp.objs.size+1;rw[sb7.1,sb6.1,sb5.1,z4]
def zBu{e it:yc}{i:Int}{old:yb}{Q:Option yb->yd->Prop}(he:IsEnum s.heap e it i old)
 (nx:∀(A':yJ)(Q':yb->yd->Prop)(E':yb->yd->Prop),A'.handled=A.handled->(∀h' x,xZ it s.heap h'->(∃o,h'.get? x=some o/\o.cls=.type "StopIteration")->E' (.ref x) {s with heap:=h' })->yq (yC prog w) A' (yN (.ref it)) Q' E' s)
 (hQ:∀h',xZ it s.heap h'->Q none {s with heap:=h' }):yq (yC prog w) A (xP (.ref e)) Q E s:=by
 have hT:s.TypeIs (.ref e) "enumerate":=⟨_,he,rfl⟩
 unfold xP;refine ya (xQ (yO (name:=Yz "__next__") hT Xk (yP Xk hT F.entry_enumerate_next ?_ (F.args_enumerate_next_1 _))));show yq _ _ (field (.ref e) 2 >>= _) _ _ _;refine ya (Yo he rfl (x:=.ref it) rfl (ya (nx _ _ _ rfl λh' x eb ⟨o,ho,hc⟩=>?_)));exact ya (xW (T:="StopIteration") (b:=true) ⟨o,ho,hc⟩ isSubtype_stop (yg (hQ _ eb)))
variable {U:List (yc×YS)}{Y:L2.St}{H:Hp}
def z0p{fp:List yc}(hf:∀b∈fp,zSs X U H b){b:yc}{u:HO}(e:H b=some u):b∉fp:=λz=>by rw[(hf b z).1]at e;cases e
def zLC{fp:List yc}(hf:∀b∈fp,zSs X U H b):∀b∈fp,(b∈X.ex\/X.s₀.heap.objs.size<=b)/\b≠X.env.locals/\(∀x c,X.env.cells.lookup x=some c->c≠b)/\∀p∈X.pn++U,p.1≠b:=λb hb=>by
 obtain⟨_,f1,_,f3,f4,f5⟩:=hf b hb;exact⟨f3,f1,f4,f5⟩
def zSk{fp:List yc}{h':yS}{t':Nat}(I:Inv X U Y H s)(hf:∀b∈fp,zSs X U H b)(k:∀b o,b∉fp->s.heap.get? b=some o->h'.get? b=some o):Inv X U Y H {s with heap:=h',toks:=t' }:=by
 refine I.call (g':=s.gens) (t':=t') (d':=s.drawn) (ch:=fp) ⟨λb o e _ _ hx=>k b o hx e,λb o e _ _ hx=>⟨o.slots,k b o hx e⟩,λ_ _ _ n _=>n,λb o e hx=>⟨o,k b o hx e⟩,λ_ _ e=>e,λ_ _ _ e=>e,λ_ ps e=>⟨#[],by rw[e];simp⟩⟩ (λa o e=>?_) I.bare (zLC hf);refine(I.hok a o e).stay (λb u hb q=>k b u ?_ q) (λ_ q=>q) λ_ _ q=>q;rcases hb with rfl|hb
 ·exact z0p hf e
 ·exact z0p hf hb
def zue{fp:List yc}{h':yS}{t':Nat}{p:yc}{o:HO}(I:Inv X U Y H s)(hf:∀b∈fp,zSs X U H b)(k:∀b o,b∉fp->s.heap.get? b=some o->h'.get? b=some o)(hp:s.heap.objs.size<=p)
 (new:tI X.prog X.w (upd H p o) h' p o):Inv X U Y (upd H p o) {s with heap:=h',toks:=t' }:=by
 have hn:=I.hok.fresh hp;have hlt:∀b ob,s.heap.get? b=some ob->b≠p:=λb ob e=>yz (yE (yo e) hp)
 refine I.call (g':=s.gens) (t':=t') (d':=s.drawn) (ch:=fp) ⟨λb o e _ _ hx=>k b o hx e,λb o e _ _ hx=>⟨o.slots,k b o hx e⟩,λb ob e n _=>by rw[zab (hlt b ob e)];exact n,λb o e hx=>⟨o,k b o hx e⟩,
  λ_ _ e=>by rw[zab (zY e hn)];exact e,λ_ _ _ e=>by rw[zab (zY e hn)];exact e,λ_ ps e=>⟨#[],by rw[zab (zY e hn),e];simp⟩⟩ (λa u e=>?_) I.bare (zLC hf)
 by_cases ha:a=p
 ·subst ha;rw[zM]at e;cases e;exact new
 ·rw[zab ha]at e;refine(I.hok a u e).stay (λb u hb q=>k b u ?_ q) (λb q=>by rw[zab (zY q hn)];exact q) λb xs q=>by rw[zab (zY q hn)];exact q
  rcases hb with rfl|hb
  ·exact z0p hf e
  ·exact z0p hf hb
def Ien(δ:It):It:=⟨δ.go,λi H x H'=>∃p y,x=.ref p/\H p=none/\H'=upd H p (.tup [.int i,y])/\δ.yld i H y H,δ.stop⟩
def z9s{P:yu}{w:yI}{H:Hp}{h:yS}{p:yc}{x y:V}{u v:yb}(e:h.get? p=some {cls:=.type "tuple",data:=.seq #[u,v]})(rx:RelV x u)(ry:RelV y v):tI P w H h p (.tup [x,y]) :=
 ⟨by rw[Xp];simp,[u,v],.cons rx (.cons ry .nil),⟨_,e,rfl,_,rfl⟩⟩
def ztv{P:yu}{w:yI}{K:yw}{elts:List yD}{x1}{pos:xo}(a e it:yc)(hne:e≠it):Turn P w K (.Tuple elts x1 pos) (Ien (Itl K a)) [e,it] e (λi h=>(∃old,IsEnum h e it i old)/\h.IsListIter it a i) where
 mem:=by simp
 obj:=λi h ⟨⟨old,he⟩,st⟩ b hb=>by
  have hb:b=e\/b=it:=by simpa using hb
  rcases hb with rfl|rfl
  ·exact⟨_,he,λv z=>by have z':Data.fields _=Data.cell v:=z;cases z'⟩
  ·obtain⟨o,q,c,d⟩:=st;exact⟨o,q,λv z=>by rw[d]at z;cases z⟩
 keep:=λi h h' ⟨⟨old,he⟩,st⟩ k=>⟨⟨old,k e (by simp) _ he⟩,st.at λo q=>k it (by simp) o q⟩
 item:=by
  intro X hP hw hK hc i U s Y H E I hf ⟨⟨old,he⟩,st⟩ hg;subst hP hw hK;obtain⟨xs,x,hq,hx⟩:=hg;obtain⟨its,rv,p,hz⟩:=I.list hq;obtain⟨u,hu,ru⟩:=rv.get hx;refine z3q (N:=λh=>h.IsListIter it a (i+1)) he hne (λA' Q' E' hQ=>wpAny_nextOf_list_item st p.isList (x:=u) (by simpa using hu) λh' st' sb=>hQ h' st' sb) (λh h' n k=>n.at λo q=>k o q) λh' eo n' t' z' kk=>?_;refine⟨_,rfl,wpAny_letOwnedTupleGo_enum eo λh2 e2 sb2=>?_⟩;replace sb2:yL e h' h2:=sb2;have hlt:e<s.heap.objs.size:=yo he;have t2:=(sb2.2 s.heap.objs.size (Yk hlt)).trans t';have hfr:=I.hok.fresh (yk s.heap.objs.size)
  have I2:Inv X U Y (upd H s.heap.objs.size (.tup [.int i,x])) {s with heap:=h2,toks:=s.toks+1 }:=by
   refine zue I hf (λb o hb q=>?_) (yk _) (z9s t2 ⟨_,rfl⟩ ru);simp only[mem_cons,not_mem_nil,or_false,not_or]at hb;exact(sb2.2 b hb.1).trans (kk b o hb.1 hb.2 q)
  refine⟨.ref s.heap.objs.size,_,I2,rfl,⟨_,x,rfl,hfr,rfl,rfl,λys hy=>by rw[I.sv hy hq];exact hx⟩,⟨⟨u,by simpa using e2⟩,n'.at λo q=>(sb2.2 it (yM hne)).trans q⟩,λb hb=>?_⟩
  ·rw[zab]
   ·exact(hf b hb).1
   ·rintro rfl;have hb:s.heap.objs.size=e\/s.heap.objs.size=it:=by simpa using hb
    rcases hb with q|q
    ·exact absurd hlt (by rw[q];exact yY _)
    ·obtain⟨o,qo,_⟩:=st;exact absurd (yo qo) (by rw[q];exact yY _)
 done:=by
  intro X hP hw hK hc i U s Y H E I hf ⟨⟨old,he⟩,st⟩ hg;subst hP hw hK;obtain⟨xs,hq,hx⟩:=hg;obtain⟨its,rv,p,hz⟩:=I.list hq;have hl:=rv.length;refine zBu he (λA' Q' E' hA hE=>wpAny_nextOf_list_end (hA.trans (I.ok.hd hc)) st p.isList (by simp;omega) hE) λh' eb=>⟨rfl,zSk (t':=s.toks) I hf λb o hb q=>eb b o (λz=>hb (by simp[z])) q⟩
 self:=λ_ _ _ _ _ ⟨⟨old,he⟩,_⟩ h=>wpAny_pyIter_enum he h
def zUu{P:yu}{w:yI}{K:yw}{elts:List yD}{x1}{pos:xo}(a e it:yc)(hne:e≠it):Turn P w K (.Tuple elts x1 pos) (Ien (Itt K a)) [e,it] e (λi h=>(∃old,IsEnum h e it i old)/\h.IsTupleIter it a i) where
 mem:=by simp
 obj:=λi h ⟨⟨old,he⟩,st⟩ b hb=>by
  have hb:b=e\/b=it:=by simpa using hb
  rcases hb with rfl|rfl
  ·exact⟨_,he,λv z=>by have z':Data.fields _=Data.cell v:=z;cases z'⟩
  ·obtain⟨o,q,c,d⟩:=st;exact⟨o,q,λv z=>by rw[d]at z;cases z⟩
 keep:=λi h h' ⟨⟨old,he⟩,st⟩ k=>⟨⟨old,k e (by simp) _ he⟩,st.at λo q=>k it (by simp) o q⟩
 item:=by
  intro X hP hw hK hc i U s Y H E I hf ⟨⟨old,he⟩,st⟩ hg;subst hP hw hK;obtain⟨xs,x,hq,hx⟩:=hg;obtain⟨its,rv,p,hz⟩:=I.tuple hq;obtain⟨u,hu,ru⟩:=rv.get hx;refine z3q (N:=λh=>h.IsTupleIter it a (i+1)) he hne (λA' Q' E' hQ=>nextT st (show s.heap.IsTuple a its.toArray from p) (x:=u) (by simpa using hu) λh' st' sb=>hQ h' st' sb) (λh h' n k=>n.at λo q=>k o q) λh' eo n' t' z' kk=>?_;refine⟨_,rfl,wpAny_letOwnedTupleGo_enum eo λh2 e2 sb2=>?_⟩;replace sb2:yL e h' h2:=sb2;have hlt:e<s.heap.objs.size:=yo he;have t2:=(sb2.2 s.heap.objs.size (Yk hlt)).trans t';have hfr:=I.hok.fresh (yk s.heap.objs.size)
  have I2:Inv X U Y (upd H s.heap.objs.size (.tup [.int i,x])) {s with heap:=h2,toks:=s.toks+1 }:=by
   refine zue I hf (λb o hb q=>?_) (yk _) (z9s t2 ⟨_,rfl⟩ ru);simp only[mem_cons,not_mem_nil,or_false,not_or]at hb;exact(sb2.2 b hb.1).trans (kk b o hb.1 hb.2 q)
  refine⟨.ref s.heap.objs.size,_,I2,rfl,⟨_,x,rfl,hfr,rfl,rfl,λys hy=>by rw[I.TX hy hq];exact hx⟩,⟨⟨u,by simpa using e2⟩,n'.at λo q=>(sb2.2 it (yM hne)).trans q⟩,λb hb=>?_⟩
  ·rw[zab]
   ·exact(hf b hb).1
   ·rintro rfl;have hb:s.heap.objs.size=e\/s.heap.objs.size=it:=by simpa using hb
    rcases hb with q|q
    ·exact absurd hlt (by rw[q];exact yY _)
    ·obtain⟨o,qo,_⟩:=st;exact absurd (yo qo) (by rw[q];exact yY _)
 done:=by
  intro X hP hw hK hc i U s Y H E I hf ⟨⟨old,he⟩,st⟩ hg;subst hP hw hK;obtain⟨xs,hq,hx⟩:=hg;obtain⟨its,rv,p,hz⟩:=I.tuple hq;have hl:=rv.length;refine zBu he (λA' Q' E' hA hE=>z9q (hA.trans (I.ok.hd hc)) st (show s.heap.IsTuple a its.toArray from p) (by simp;omega) hE) λh' eb=>⟨rfl,zSk (t':=s.toks) I hf λb o hb q=>eb b o (λz=>hb (by simp[z])) q⟩
 self:=λ_ _ _ _ _ ⟨⟨old,he⟩,_⟩ h=>wpAny_pyIter_enum he h
def zqx(l:yc)(items:Array yb)(n:Nat)(dct:Option yc)(sl:Array (Option yb)) :
 Meets (YT.«enumerate.__new__» ⟨[.type "enumerate",.ref l],[]⟩) (λ_ R s=>s.heap.get? l=some {cls:=.type "tuple",dict:=dct,data:=.seq items n,slots:=sl } /\
  R (.ok (.ret (.ref (s.heap.push {cls:=.type "tuple_iterator",data:=.fields #[.ref l,.int 0 0]}).objs.size)))
   {s with heap:=(s.heap.push {cls:=.type "tuple_iterator",data:=.fields #[.ref l,.int 0 0]}).push {cls:=.type "enumerate",data:=.fields #[.none,.bool false,.ref s.heap.objs.size,YM 0,.none,.none]}}) :=
 .of_wp λprog w A R s h=>by
  obtain⟨hp,g,d,tk,os⟩:=s;obtain⟨hl,h⟩:=h;have hsub:=sub_enumerate;have hL:Heap.IsTuple (Shared.heap ⟨hp,g,d,tk,os⟩) l items:=⟨_,hl,rfl,n,rfl⟩
  wp_walk using xS hl
  refine wpAny_stack_any λst=>yg ?_
  split
  ·rename_i c _ _ _ _ _
   cases (c==YJ "enumerate")
   ·wp_walk using xS hl,xw hL
    exact⟨_,rfl,h⟩
   ·wp_walk using xS hl,xw hL
    exact⟨_,rfl,h⟩
  ·wp_walk using xS hl,xw hL
   exact⟨_,rfl,h⟩
def zav{prog:yu}{w:yI}{A:yJ}{E:yb->yd->Prop}{l:yc}{items:Array yb}{Q:yb->yd->Prop}(hL:s.heap.IsTuple l items)
 (h:∀h',IsEnum h' (s.heap.objs.size+1) s.heap.objs.size 0 .none->h'.IsTupleIter s.heap.objs.size l 0->h'.objs.size=s.heap.objs.size+2 ->
  (∀b o,s.heap.get? b=some o->h'.get? b=some o)->Q (.ref (s.heap.objs.size+1)) {s with heap:=h' }):yq (yC prog w) A (call (.type "enumerate") [.ref l]) Q E s:=by
 obtain⟨⟨c,dct,dt,sl⟩,hl,hc,n,hd⟩:=hL;replace hc:c=.type "tuple":=hc;replace hd:dt=.seq items n:=hd;subst hc hd;refine callType_new F.called_enumerate (by decide) (F.typeCall_enumerate_1 _) (F.newCall_enumerate_1 _) (λobj=>F.args_object_init_2 obj _) F.entry_enumerate_new (zqx l items n dct sl) ⟨hl,?_⟩;have hz:(s.heap.push {cls:=.type "tuple_iterator",data:=.fields #[.ref l,.int 0 0]}).objs.size=s.heap.objs.size+1:=yT ..
 have he:IsEnum ((s.heap.push {cls:=.type "tuple_iterator",data:=.fields #[.ref l,.int 0 0]}).push {cls:=.type "enumerate",data:=.fields #[.none,.bool false,.ref s.heap.objs.size,YM 0,.none,.none]}) (s.heap.objs.size+1) s.heap.objs.size 0 .none:=by
  have:=ym (s.heap.push {cls:=.type "tuple_iterator",data:=.fields #[.ref l,.int 0 0]}) (o:={cls:=.type "enumerate",data:=.fields #[.none,.bool false,.ref s.heap.objs.size,YM 0,.none,.none]}) rfl;rw[hz]at this;exact this
 show _/\_;rw[hz];exact⟨⟨_,he,rfl⟩,h _ he ⟨_,ye _ (ym _ rfl),rfl,rfl⟩ (by rw[yT,hz]) λb o x=>ye _ (ye _ x)⟩
def z6F(K:yw)(tl:TE):TI:=λY H R=>tl Y H λx H1=>∃a,x=.ref a/\((∃xs,SqL K H1 a xs)/\R (Ien (Itl K a)) H1\/(∃xs,SqT K H1 a xs)/\R (Ien (Itt K a)) H1)
def zhB{l:yD}{tl:TE}{elts:List yD}{x1}{tp p pos:xo}(hg:Gl X "enumerate")(hm:X.mg "enumerate"=none)(hv:yH "enumerate"=some (.type "enumerate"))(hl:PE X l tl)(hs:yj [l] X.env=[(false,Yb l X.env)]:=by rfl) :
 PI X (.Tuple elts x1 tp) (.Call (.Name "enumerate" p) [l] [] pos) (z6F X.K tl):=by
 intro U s Y H R I h
 refine Call_ (zvl I hg hm hv (YD (thn (z7i hl zwm hs pos U s Y H (λvs H1=>match vs with
  |[x]=>∃a,x=.ref a/\((∃xs,SqL X.K H1 a xs)/\R (Ien (Itl X.K a)) H1\/(∃xs,SqT X.K H1 a xs)/\R (Ien (Itt X.K a)) H1)
  |_=>False) I h) λus s1 ⟨vs,H1,I1,r1,q1⟩=>?_) hs rfl))
 dsimp only at q1
 split at q1
 case h_2=>exact q1.elim
 obtain⟨a,e,q⟩:=q1;subst e
 cases r1 with
 |cons r rr=>
  cases rr;cases r
  have fin:∀h':yS,(∀b o,s1.heap.get? b=some o->h'.get? b=some o)->∀b∈[s1.heap.objs.size+1,s1.heap.objs.size],zSs X U H1 b:=λh' kp b hb=>by
   have hb:b=s1.heap.objs.size+1\/b=s1.heap.objs.size:=by simpa using hb
   rcases hb with rfl|rfl
   ·exact I1.sO (Nat.le_succ _) (I1.hok.fresh (Nat.le_succ _))
   ·exact I1.sO (yk _) (I1.hok.fresh (yk _))
  have hne:s1.heap.objs.size+1≠s1.heap.objs.size:=Nat.succ_ne_self _;rcases q with ⟨⟨xs,hq⟩,q⟩|⟨⟨xs,hq⟩,q⟩
  ·obtain⟨its,rv,pl,hz⟩:=I1.list hq;refine call_enumerate_list pl.isList λh' e1 i1 z1 kp=>?_;refine wpAny_pyIter_enum (s:={s1 with heap:=h' }) e1 ?_;exact⟨_,[s1.heap.objs.size+1,s1.heap.objs.size],_,_,H1,rfl,I1.kept (t':=s1.toks) kp,ztv a _ _ hne,⟨⟨_,e1⟩,i1⟩,fin h' kp,q⟩
  ·obtain⟨its,rv,pl,hz⟩:=I1.tuple hq;refine zav (show s1.heap.IsTuple a its.toArray from pl) λh' e1 i1 z1 kp=>?_;refine wpAny_pyIter_enum (s:={s1 with heap:=h' }) e1 ?_;exact⟨_,[s1.heap.objs.size+1,s1.heap.objs.size],_,_,H1,rfl,I1.kept (t':=s1.toks) kp,zUu a _ _ hne,⟨⟨_,e1⟩,i1⟩,fin h' kp,q⟩
def zdk(ds:List D):List D:=ds.zipIdx.map λp =>.tup [.int (p.2:Nat),p.1]
def z6d(ds:List D):(zdk ds).length=ds.length:=by simp[zdk]
def zzp{ds:List D}{i:Nat}{d:D}(h:(zdk ds)[i]?=some d):∃y,ds[i]?=some y/\d=.tup [.int i,y]:=by
 unfold zdk at h;rw[yr,List.getElem?_zipIdx]at h
 cases e:ds[i]? with
 |none=>rw[e]at h;cases h
 |some y=>
  rw[e]at h;refine⟨y,rfl,?_⟩;have:=yW h;rw[<-this];simp
@[simp] def zDq(G:FE):FI:=λJ O=>(G J O).bind λp=>match p.1 with
 |.tup ds=>some (zdk ds,yes,p.2)
 |.fz ds=>some (zdk ds,yes,p.2)
 |.loc n=>match p.2[n]? with
  |some (.lst ds)=>some (zdk ds,z9n n ds,p.2)
  |_=>none
 |_=>none
def z1s{K:yw}{δ:It}{Z:List yc}{H:Hp}{ds:List D}{ok:Mem->Bool}(h:sx K δ Z H ds ok):sx K (Ien δ) Z H (zdk ds) ok:=by
 refine⟨λZ' H' O' i x R o hi=>h.go Z' H' O' i x R o (by rw[z6d]at hi;exact hi),λZ' H' O' i x H'' d x' R o e ⟨p,y,e1,hp,e2,yl⟩=>?_,λZ' H' O' x R o=>by rw[z6d];exact h.stop Z' H' O' x R o⟩;obtain⟨z,ez,rfl⟩:=zzp e;obtain⟨_,_,rz⟩:=h.yld Z' H' O' i y H' z x' R o ez yl;subst e1 e2;exact⟨Ext.new hp,R.Tj hp,.tup zM (.cons .int (.cons (rz.ext (Ext.new hp)) .nil))⟩
def z6i{a:yD}{G:FE}{elts:List yD}{x1}{tp p pos:xo}(hm:X.mg "enumerate"=none)(hv:yH "enumerate"=some (.type "enumerate"))(h:ME X a G)(hg:Gl X "enumerate":=by rfl)(hs:yj [a] X.env=[(false,Yb a X.env)]:=by rfl) :
 MI X (.Tuple elts x1 tp) (.Call (.Name "enumerate" p) [a] [] pos) (zDq G) :=
 z8s (zhB hg hm hv h hs) λZ J O Y H ds ok O' R A e k=>by
  obtain⟨⟨x,O1⟩,e1,e⟩:=zm e;refine⟨Z,J,O,x,O1,A,e1,λZ1 H1 v1 x1 R1 r1=>?_⟩;dsimp only at e
  split at e
  ·cases e;obtain⟨a,vs,rfl,e2,q2⟩:=r1.tN;exact⟨a,rfl,.inr ⟨⟨vs,SqT.of e2⟩,k Z1 H1 _ x1 R1 (z1s (zIw e2 q2))⟩⟩
  ·cases e;obtain⟨a,vs,rfl,e2,q2⟩:=r1.TZ;exact⟨a,rfl,.inl ⟨⟨vs,e2.sq⟩,k Z1 H1 _ x1 R1 (z1s (zMo λZ' H' O' x _ _=>⟨vs,(x.fz e2).sq,q2.ext x⟩))⟩⟩
  ·split at e
   ·rename_i hm
    cases e;obtain⟨a,rfl,e2⟩:=r1.tz;obtain⟨vs,e3,q3⟩:=R1.at_ _ _ _ e2 hm;refine⟨a,rfl,.inl ⟨⟨vs,SqL.of e3⟩,k Z1 H1 _ x1 R1 (z1s (zMo λZ' H' O'' x R' o=>?_))⟩⟩;obtain⟨vs',e4,q4⟩:=R'.at_ _ _ _ (x.get e2) (TH.mp o);exact⟨vs',SqL.of e4,q4⟩
   ·cases e
  ·cases e
@[simp] def zLi:GM:=λx ds O=>match x,ds with
 |.loc n,[d]=>match O[n]? with
  |some (.lst xs)=>bif zge d&&xs.all zge then some (.int (xs.countP λy=>eqF y d:Nat),O) else none
  |_=>none
 |_,_=>none
def zCr{x:V}:∀{xs:List V} {us:List yb},Vals xs us->xs.all zym=true->us.countP (eqU x)=xs.countP λy=>eqV y x
 |_,_,.nil,_=>rfl
 |y::xs,u::us,.cons r t,f=>by
  rw[all_cons,yK]at f;rw[countP_cons,countP_cons,zMw r f.1,zCr t f.2]
def zbr{K:yw}{Z:List yc}{H:Hp}{x:D}{v:V}(rx:tx K Z H x v)(fx:zge x=true):∀{ds:List D} {vs:List V},tj K Z H ds vs->ds.all zge=true->(vs.countP λy=>eqV y v)=ds.countP λd=>eqF d x
 |[],_,r,_=>by rw[r.nil_inv];rfl
 |d::ds,_,r,f=>by
  obtain⟨w,ws,rfl,r1,r2⟩:=r.cons_inv;rw[all_cons,yK]at f;rw[countP_cons,countP_cons,zbr rx fx r2 f.2,zBw r1 rx f.1 fx]
def z6v:MtG X "list.count" zLi:=by
 refine MtG.of λU s Y H x xs v us Q I rx rs Z dx ds O d O' r1 r2 R e k=>?_;unfold zLi at e
 split at e
 ·split at e
  ·rename_i hm
   obtain⟨h1,e⟩:=zP e;rw[yK]at h1;cases e;obtain⟨a,rfl,ea⟩:=r1.tz;obtain⟨vs,e3,q3⟩:=R.at_ _ _ _ ea hm;obtain⟨w,r,rfl,q1,q2⟩:=r2.cons_inv;rw[q2.nil_inv]at rs;obtain⟨u,rfl,ru⟩:=vals1 rs;cases rx;obtain⟨z,its,n,rv,hl,el⟩:=I.sP e3;obtain⟨fv,_⟩:=zPw q1 h1.1 q3 h1.2;refine xz PySem.F.slot_list_count ⟨_,el,rfl⟩ PySem.F.entry_list_count (PySem.F.args_list_count_2 _ _) (SeqAt.list_countAt a its.toArray n _ _ u (eqU w)) ⟨el,λy hy=>z2l ru (zKq q1 h1.1) rv fv y (by simpa using hy),?_⟩;refine⟨.int _,H,I.tok _,⟨_,rfl⟩,?_⟩;rw[show its.toArray.toList=its by simp,zCr rv fv,zbr q1 h1.1 q3 h1.2];exact k Z H _ Ext.refl R .int
  ·cases e
 ·cases e
def zDt{o:yD}{ψ:FA}{apos:xo}(ho:ME X o G)(ha:MAn X (e::es) ψ)
 (hbase:YB o "count" X.env (Yb o X.env)=Yb o X.env:=by rfl)
 (hfew:((Yq pos (yj (e::es) X.env)).all (λx=>!x.1)&&(xy pos (YG [] X.env)).all (λx=>x.1.isSome)
  && decide ((e::es).length+([]:List xc).length+(if([]:List xc).isEmpty then 0 else 1)<30))=true:=by rfl)
 (hline:(apos.endLine==pos.line)=true:=by rfl) (hs:yj (e::es) X.env=(false,Yb e X.env)::yj es X.env:=by rfl) (hplain:(Yq pos (yj es X.env)).any (·.1)=false:=by rfl) :
 ME X (.Call (.Attribute o "count" apos) (e::es) [] pos) (zVh zLi G ψ):=zNp PySem.F.slot_list_count PySem.F.type_list_count z6v ho ha hbase hfew hline hs hplain
@[simp] def zRk:GM:=λx ds O=>match x,ds with
 |.loc n,[.int i]=>match O[n]? with
  |some (.lst xs)=>(zvn xs).bind λns=>bif ns.contains i then some (.non,O.set n (.lst ((ns.erase i).map .int))) else none
  |_=>none
 |_,_=>none
def zEt{i:Int}:∀{ns:List Int},i∈ns->∃j,∃hj:j<ns.length,ns[j]=i/\(∀m (hm:m<ns.length),m<j->ns[m]≠i)/\ns.erase i=ns.eraseIdx j
 |[],h=>by cases h
 |n::ns,h=>by
  by_cases hn:n=i
  ·exact⟨0,by simp,hn,λm _ hm=>absurd hm (Nat.not_lt_zero _),by simp[hn]⟩
  ·have h':i∈ns:=by
    rcases List.mem_cons.mp h with h|h
    ·exact absurd h.symm hn
    ·exact h
   obtain⟨j,hj,e1,e2,e3⟩:=zEt h';refine⟨j+1,by simpa using hj,by simpa using e1,λm hm hmj=>?_,?_⟩
   ·cases m with
    |zero=>simpa using hn
    |succ m=>simpa using e2 m (by simpa using hm) (by omega)
   ·rw[List.erase_cons_tail (by simpa using hn),e3,List.eraseIdx_cons_succ]
def zyr{α β:Type}(f:α->β):∀(l:List α)(j:Nat),(l.eraseIdx j).map f=(l.map f).eraseIdx j
 |[],j=>by simp
 |x::l,0=>by simp
 |x::l,j+1=>by simp[zyr f l j]
def zSo:∀{vs:List V} {us:List yb} (j:Nat),Vals vs us->Vals (vs.eraseIdx j) (us.eraseIdx j)
 |_,_,_,.nil=>by simp;exact .nil
 |_,_,0,.cons r t=>by simpa using t
 |_,_,j+1,.cons r t=>by rw[List.eraseIdx_cons_succ,List.eraseIdx_cons_succ];exact .cons r (zSo j t)
def zWu:MtG X "list.remove" zRk:=by
 refine MtG.of λU s Y H x xs v us Q I rx rs Z dx ds O d O' r1 r2 R e k=>?_;unfold zRk at e
 split at e
 ·rename_i l i
  split at e
  ·rename_i hm
   obtain⟨ns,e2,e⟩:=zm e;obtain⟨h1,e⟩:=zP e;cases e;rw[zBh e2]at hm;obtain⟨a,rfl,ea⟩:=r1.tz;obtain⟨vs,e3,q3⟩:=R.at_ _ _ _ ea hm;rw[zIj q3]at e3;obtain⟨w,r,rfl,q1,q2⟩:=r2.cons_inv;rw[q2.nil_inv,q1.int_inv]at rs;obtain⟨u,rfl,ru⟩:=vals1 rs;obtain⟨t,rfl⟩:=ru;cases rx;obtain⟨z,its,n,rv,hl,el⟩:=I.sP e3;obtain⟨j,hj,hit,hno,her⟩:=zEt (show i∈ns by simpa using h1);have hlen:its.length=ns.length:=by rw[<-rv.length];simp
   have at_:∀m (hm:m<its.length),∃t,its[m]=.int (ns[m]'(by omega)) t:=λm hm=>by
    have hg:(ns.map V.int)[m]?=some (.int (ns[m]'(by omega))):=by simp[show m<ns.length by omega]
    obtain⟨u,hu,t,ru⟩:=rv.get hg;exact⟨t,by rw[<-ru];exact(List.getElem?_eq_some_iff.mp hu).2⟩
   let f:yb->Bool:=λy=>match y with | .int z _=>z==i|_=>false
   have hz':its.length<=yG:=by rw[<-rv.length];exact z
   refine xz PySem.F.slot_list_remove ⟨_,el,rfl⟩ PySem.F.entry_list_remove (PySem.F.args_list_remove_2 _ _)
    (MeetsSeq.list_remove a its.toArray n (.int i t) f (λy hy=>?_) j (by simp;omega) ?_ (λm hm hmj=>?_) (by simpa using hz')) ⟨el,?_⟩
   ·obtain⟨m,hm,rfl⟩:=List.mem_iff_getElem.mp (show y∈its by simpa using hy);obtain⟨t',e'⟩:=at_ m hm;rw[e'];exact MeetsSeq.EqGives.int _ _ _ _
   ·obtain⟨t',e'⟩:=at_ j (by omega);show f its[j]=true;rw[e'];simp[f,hit]
   ·have hm':m<its.length:=by simpa using hm
    obtain⟨t',e'⟩:=at_ m hm';show f its[m]=false;rw[e'];simpa[f] using hno m (by omega) hmj
   ·have hmu:Mut (H a):=by rw[e3];trivial
    refine⟨.non,_,I.lset (t':=s.toks) (ys:=(ns.erase i).map V.int) (its':=its.eraseIdx j) e3 el ?_ ?_ ?_,rfl,k Z _ _ (Ext.wr hmu) (R.wr hmu ea ⟨_,zM,zwk⟩) .non⟩
    ·simp[Array.eraseIdxIfInBounds,show j<its.length by omega]
    ·rw[her,zyr];exact zSo j rv
    ·have:(ns.erase i).length<=ns.length:=by rw[her];exact List.length_eraseIdx_le _ _
     rw[length_map]at z ⊢;omega
  ·cases e
 ·cases e
def zrx{o:yD}{ψ:FA}{apos:xo}(ho:ME X o G)(ha:MAn X (e::es) ψ)
 (hbase:YB o "remove" X.env (Yb o X.env)=Yb o X.env:=by rfl)
 (hfew:((Yq pos (yj (e::es) X.env)).all (λx=>!x.1)&&(xy pos (YG [] X.env)).all (λx=>x.1.isSome)
  && decide ((e::es).length+([]:List xc).length+(if([]:List xc).isEmpty then 0 else 1)<30))=true:=by rfl)
 (hline:(apos.endLine==pos.line)=true:=by rfl) (hs:yj (e::es) X.env=(false,Yb e X.env)::yj es X.env:=by rfl) (hplain:(Yq pos (yj es X.env)).any (·.1)=false:=by rfl) :
 ME X (.Call (.Attribute o "remove" apos) (e::es) [] pos) (zVh zRk G ψ):=zNp PySem.F.slot_list_remove PySem.F.type_list_remove zWu ho ha hbase hfew hline hs hplain
@[simp] def zhD(i:Nat)(g:φ2)(G:FE):FS:=λJ O=>match J[i]? with
 |some (some x)=>(G J O).bind λp=>(g x p.1 p.2).bind λq=>some (.next (J.set i (some q.1)) q.2)
 |_=>none
def z3w:φ2:=λx y O=>match x,y with
 |.int i,.int j=>some (.int (i+j),O)
 |_,_=>none
def zUw:OpM X (inplaceOp .Add) z3w:=by
 refine OpM.of λU s Y H x y v u Q I rx ry Z dx dy O d O' r1 r2 R e k=>?_;unfold z3w at e
 split at e
 ·cases e;exact zcC U s Y H x y v u Q I rx ry ⟨_,_,r1.int_inv,r2.int_inv,k Z H _ Ext.refl R .int⟩
 ·cases e
def zkD{x:yn}{op:Operator}{g:φ2}{pos':xo}(i:Nat)(ho:OpM X (inplaceOp op) g)(he:ME X e G)(hN:X.N.Nodup:=by assumption)(hi:X.N[i]?=some x:=by rfl)(hx:L2.Loc X.env.scope x:=by first|exact Or.inl rfl|exact Or.inr rfl)
 (hf:X.fn x=true\/X.env.scope.names.lookup x=some .local:=by first|exact .inl rfl|exact .inr rfl|assumption):MS X (.AugAssign (.Name x pos') op e pos) (zhD i g G) :=
 zOl (zOC (ti:=rM X.K g) hN hi hx he (λU s Y H x y v u Q I rx ry q=>ho U s Y H x y v u Q I rx ry q) hf) λZ J O Y H o E A e k=>by
  unfold zhD at e
  split at e
  ·rename_i d hd
   obtain⟨v,hv,rv⟩:=A.st i _ hd;obtain⟨⟨y,O1⟩,e1,e⟩:=zm e;obtain⟨⟨z,O2⟩,e2,e⟩:=zm e;cases e;refine⟨v,hv,Z,J,O,y,O1,A,e1,λZ1 H1 w x1 R1 r1=>?_⟩;refine⟨Z1,d,y,O1,z,O2,rv.ext x1,r1,R1,e2,λZ2 H2 w2 x2 R2 r2=>?_⟩;exact k Z2 _ H2 (x1.trans x2) ((A.ext (x1.trans x2) R2).set r2 i)
  ·cases e
def zOc(c:FT)(body:FS):Nat->FS
 |0,_,_=>none
 |n+1,J,O=>(c J O).bind λp=>bif p.1 then(match body J p.2 with
  |some (.next J' O')=>zOc c body n J' O'
  |some (.cont J' O')=>zOc c body n J' O'
  |some (.brk J' O')=>some (.next J' O')
  |some (.ret d O')=>some (.ret d O')
  |some (.exc C fs O')=>some (.exc C fs O')
  |none=>none) else some (.next J p.2)
def z4q(n:Nat)(c:FT)(body:FS):FS:=zOc c body n
def zVp{body:List yR}{t:FT}{p:FS}(n:Nat)(hc:MT X c t)(hb:MSs X body p)(hx:PassesOwn (yC X.prog X.w) X.A X.env X.xe:=by first|exact PassesOwn.never|exact PassesOwn.leaving):MS X (.While c body [] pos) (z4q n t p) :=
 zOl (zry hx hc hb) λZ J O Y H o E A e k=>by
  refine⟨λm Y' H'=>∃Z' J' O',Ext Z H Z' H'/\At X.K Z' H' Y' J' O'/\zOc t p m J' O'=some o,⟨n,Z,J,O,Ext.refl,A,e⟩,?_⟩;rintro m Y' H' ⟨Z',J',O',x',A',ew⟩
  cases m with
  |zero=>cases ew
  |succ m=>
   unfold zOc at ew;obtain⟨⟨b,O1⟩,e1,ew⟩:=zm ew;refine⟨Z',J',O',b,O1,A',e1,λZ1 H1 x1 R1=>?_⟩;have xx:=x'.trans x1
   cases b with
   |false=>
    cases ew;exact Sg (k Z1 Y' H1 xx (A'.ext x1 R1))
   |true=>
    refine Sh ⟨λY3 H3=>∃Z3 J3 O3,Ext Z H Z3 H3/\At X.K Z3 H3 Y3 J3 O3/\zOc t p m J3 O3=some o,λY3 H3 q=>⟨m,Yr _,q⟩,?_⟩;dsimp only[cond_true]at ew
    cases eb:p J' O1 with
    |none=>rw[eb]at ew;cases ew
    |some ob=>
     rw[eb]at ew;refine⟨Z1,J',O1,ob,A'.ext x1 R1,eb,?_⟩
     cases ob with
     |next J6 O6=>exact λZ6 Y6 H6 x6 A6=>⟨Z6,J6,O6,xx.trans x6,A6,ew⟩
     |cont J6 O6=>exact λZ6 Y6 H6 x6 A6=>⟨Z6,J6,O6,xx.trans x6,A6,ew⟩
     |brk J6 O6=>cases ew;exact k.ext xx
     |ret d O6=>cases ew;exact k.ext xx
     |exc C fs O6=>cases ew;exact k.ext xx
end
end M
namespace L2
open PySem PySem.Spec PyProof.Rows
section
variable {κ:Type}[DecidableEq κ]
def zAu(kvs:List (κ×V))(k:κ):Option V:=(kvs.find? λkv=>decide (kv.1=k)).map (·.2)
def z2v(kvs:List (κ×V))(k:κ)(v:V):List (κ×V) :=
 if(kvs.any λkv=>decide (kv.1=k))=true then kvs.map (λkv=>if kv.1=k then(kv.1,v) else kv) else kvs++[(k,v)]
def zqu{p:κ×V}{r:List (κ×V)}{k:κ}(e:p.1=k):zAu (p::r) k=some p.2:=by simp[zAu,List.find?_cons,e]
def zBt{p:κ×V}{r:List (κ×V)}{k:κ}(e:¬p.1=k):zAu (p::r) k=zAu r k:=by simp[zAu,List.find?_cons,e]
def ztt(kvs:List (κ×V))(k:κ)(v:V):(z2v kvs k v).length<=kvs.length+1:=by
 unfold z2v
 split
 ·rw[length_map];omega
 ·rw[length_append,length_cons,List.length_nil];omega
def TU.sI{o:Option V}{u:Option yb}(r:TU o u):o.isSome=u.isSome:=by
 cases o with
 |none=>cases u with
  |none=>rfl
  |some _=>exact(show False from r).elim
 |some _=>cases u with
  |none=>exact(show False from r).elim
  |some _=>rfl
def KV.val{kvs:List (κ×V)}{vs:List (κ×yb)}(r:KV kvs vs)(k:κ):TU (zAu kvs k) (valueAt vs k):=by
 unfold KV at r
 induction r with
 |nil=>exact Xa
 |@cons p q ps qs h t ih=>
  obtain⟨h1,h2⟩:=h
  by_cases e:p.1=k
  ·have e':q.1=k:=h1.symm.trans e;have b:valueAt (q::qs) k=some q.2:=by simp[valueAt,List.find?_cons,e']
   rw[zqu e,b];exact h2
  ·have e':¬q.1=k:=λz=>e (h1.trans z);have b:valueAt (q::qs) k=valueAt qs k:=by simp[valueAt,List.find?_cons,e']
   rw[zBt e,b];exact ih
def KV.any{kvs:List (κ×V)}{vs:List (κ×yb)}(r:KV kvs vs)(k:κ):(kvs.any λkv=>decide (kv.1=k))=vs.any λkv=>decide (kv.1=k):=by
 unfold KV at r
 induction r with
 |nil=>rfl
 |cons h t ih=>rw[any_cons,any_cons,ih,h.1]
def KV.repl{kvs:List (κ×V)}{vs:List (κ×yb)}(r:KV kvs vs)(k:κ){y:V}{u:yb}(ry:RelV y u) :
 KV (kvs.map λkv=>if kv.1=k then(kv.1,y) else kv) (vs.map λkv=>if kv.1=k then(kv.1,u) else kv):=by
 unfold KV at r ⊢
 induction r with
 |nil=>exact .nil
 |@cons p q ps qs h t ih=>
  rw[map_cons,map_cons];refine .cons ?_ ih;obtain⟨h1,h2⟩:=h
  by_cases e:p.1=k
  ·rw[if_pos e,if_pos (h1.symm.trans e)];exact⟨h1,ry⟩
  ·rw[if_neg e,if_neg (λz=>e (h1.trans z))];exact⟨h1,h2⟩
def KV.put{kvs:List (κ×V)}{vs:List (κ×yb)}(r:KV kvs vs)(k:κ){y:V}{u:yb}(ry:RelV y u):KV (z2v kvs k y) (stored vs k u):=by
 unfold z2v stored;rw[r.any k]
 by_cases e:(vs.any λkv=>decide (kv.1=k))=true
 ·rw[if_pos e,if_pos e];exact r.repl k ry
 ·rw[if_neg e,if_neg e];exact Paired.snoc r ⟨rfl,ry⟩
def KV.keys{kvs:List (κ×V)}{vs:List (κ×yb)}(r:KV kvs vs):kvs.map (·.1)=vs.map (·.1):=by
 unfold KV at r
 induction r with
 |nil=>rfl
 |cons h t ih=>rw[map_cons,map_cons,ih,h.1]
def KV.length{kvs:List (κ×V)}{vs:List (κ×yb)}(r:KV kvs vs):kvs.length=vs.length:=Paired.length r
end
def zYw{P:yu}{w:yI}{k:Key}{u:yb}(r:RelV (kV k) u):(zZb P w).is k u=true:=by
 cases k with
 |inl i=>obtain⟨t,e⟩:=(show ∃t,u=Value.int i t from r);subst e;exact zJs P w i t
 |inr x=>obtain⟨t,e⟩:=(show ∃t,u=Value.str x t from r);subst e;exact zht P w x t
def zYC{P:yu}{w:yI}{H:Hp}{h:yS}{a:yc}{kvs:List (Key×V)}(ok:HOk P w H h)(e:H a=some (.dK kvs)):kvs.length<=yG/\(a==sysModules)=false/\∃vs,KV kvs vs/\h.DictOf (zZb P w) a vs :=
 show tI P w H h a (.dK kvs) from ok a _ e
end L2
namespace M
open PySem PySem.Spec PyProof.Rows L2
def zAf(kvs:List (Int×D))(i:Int):Option D:=(kvs.find? λp=>decide (p.1=i)).map (·.2)
def zux(kvs:List (Int×D))(i:Int)(d:D):List (Int×D):=if(kvs.any λp=>decide (p.1=i))=true then kvs.map (λp=>if p.1=i then(p.1,d) else p) else kvs++[(i,d)]
@[simp] def zNd(O:Mem):D->Option (List (Int×D))
 |.loc n=>match O[n]? with
  |some (.dct kvs)=>some kvs
  |some (.dcf kvs)=>some kvs
  |_=>none
 |_=>none
def RdK(H:Hp)(a:yc)(vs:List (Key×V)):Prop:=H a=some (.dK vs)\/∃o,H a=some (.frz o (.dK vs))
def zmm{P:yu}{w:yI}{H:Hp}{h:yS}{a:yc}{kvs:List (Key×V)}(ok:HOk P w H h)(e:RdK H a kvs):kvs.length<=yG/\(a==sysModules)=false/\∃vs,KV kvs vs/\h.DictOf (zZb P w) a vs:=by
 rcases e with e|⟨o,e⟩
 ·exact zYC ok e
 ·exact(show tI P w H h a (.frz o (.dK kvs)) from ok a _ e).2
section
variable {K:yw}{Z:List yc}{H:Hp}{O:Mem}
def zvj{d:D}{v:V}{kvs:List (Int×D)}(R:tG K Z H O)(r:tx K Z H d v)(e:zNd O d=some kvs):∃p vs,v=.ref p/\RdK H p vs/\vs.map (·.1)=kvs.map (λp=>yU p.1)/\tj K Z H (kvs.map (·.2)) (vs.map (·.2)):=by
 unfold zNd at e
 split at e
 ·split at e
  ·rename_i hm
   cases e;obtain⟨a,e1,e2⟩:=r.tz;obtain⟨vs,e3,q1,q2⟩:=R.at_ _ _ _ e2 hm;exact⟨a,vs,e1,.inl e3,q1,q2⟩
  ·rename_i hm
   cases e;obtain⟨a,e1,e2⟩:=r.tz;obtain⟨o,vs,e3,q1,q2⟩:=R.at_ _ _ _ e2 hm;exact⟨a,vs,e1,.inr ⟨o,e3⟩,q1,q2⟩
  ·cases e
 ·cases e
def z6p:∀{kvs:List (Int×D)} {vs:List (Key×V)} (i:Int),vs.map (·.1)=kvs.map (λp=>yU p.1)->tj K Z H (kvs.map (·.2)) (vs.map (·.2)) ->
 (∀d,zAf kvs i=some d->∃v,zAu vs (yU i)=some v/\tx K Z H d v)/\(zAf kvs i=none->zAu vs (yU i)=none)
 |[],vs,i,h1,h2=>by
  have:vs=[]:=by simpa using h1
  subst this;exact⟨λd h=>(by cases h),λ_=>rfl⟩
 |(j,d)::kvs,vs,i,h1,h2=>by
  cases vs with
  |nil=>simp at h1
  |cons q vs=>
   obtain⟨k,v⟩:=q;rw[map_cons,map_cons,List.cons.injEq]at h1;obtain⟨hk,h1⟩:=h1;have hk:k=yU j:=hk;subst hk;obtain⟨v',r,e,q1,q2⟩:=h2.cons_inv;rw[map_cons,List.cons.injEq]at e;obtain⟨e1,e2⟩:=e;subst e2;have e1:v=v':=e1;subst e1;obtain⟨ih1,ih2⟩:=z6p i h1 q2
   by_cases hj:j=i
   ·subst hj;have a1:zAf ((j,d)::kvs) j=some d:=by simp[zAf]
    have a2:zAu ((yU j,v)::vs) (yU j)=some v:=zqu rfl;rw[a1,a2];exact⟨λd' h=>(by cases h;exact⟨v,rfl,q1⟩),λh=>(by cases h)⟩
   ·have a1:zAf ((j,d)::kvs) i=zAf kvs i:=by simp[zAf,hj]
    have a2:zAu ((yU j,v)::vs) (yU i)=zAu vs (yU i):=zBt (λz=>hj (by simpa using z));rw[a1,a2];exact⟨ih1,ih2⟩
def zJz(kvs:List (Int×D))(vs:List (Key×V))(i:Int)(d:D)(v:V)(h:vs.map (·.1)=kvs.map (λp=>yU p.1)):(z2v vs (yU i) v).map (·.1)=(zux kvs i d).map (λp=>yU p.1):=by
 have hany:(vs.any λkv=>decide (kv.1=yU i))=kvs.any λp=>decide (p.1=i):=by
  have e1:(vs.any λkv=>decide (kv.1=yU i))=(vs.map (·.1)).any λk=>decide (k=yU i):=by rw[any_map];rfl
  rw[e1,h,any_map]
  congr 1
  funext p
  simp
 unfold z2v zux;rw[hany]
 split
 ·rw[map_map,map_map]
  have e1:(λx:Key×V=>x.1)∘(λkv=>if kv.1=yU i then(kv.1,v) else kv)=λx=>x.1:=by
   funext x;simp only[Function.comp];split<;>rfl
  have e2:(λp:Int×D=>(yU p.1:Key))∘(λp=>if p.1=i then(p.1,d) else p)=λp=>yU p.1:=by
   funext x;simp only[Function.comp];split<;>rfl
  rw[e1,e2];exact h
 ·simp[h]
def zFt:∀(kvs:List (Int×D)) (vs:List (Key×V)) (i:Int) {d:D} {v:V},tx K Z H d v->vs.map (·.1)=kvs.map (λp=>yU p.1)->tj K Z H (kvs.map (·.2)) (vs.map (·.2)) ->
 tj K Z H ((kvs.map λp=>if p.1=i then(p.1,d) else p).map (·.2)) ((vs.map λkv=>if kv.1=yU i then(kv.1,v) else kv).map (·.2))
 |[],vs,i,d,v,r,h1,h2=>by
  have:vs=[]:=by simpa using h1
  subst this;exact .nil
 |(j,e)::kvs,vs,i,d,v,r,h1,h2=>by
  cases vs with
  |nil=>simp at h1
  |cons q vs=>
   obtain⟨k,u⟩:=q;rw[map_cons,map_cons,List.cons.injEq]at h1;obtain⟨hk,h1⟩:=h1;have hk:k=yU j:=hk;subst hk;obtain⟨v',r',e',q1,q2⟩:=h2.cons_inv;rw[map_cons,List.cons.injEq]at e';obtain⟨e1,e2⟩:=e';subst e2;have e1:u=v':=e1;subst e1;have ih:=zFt kvs vs i r h1 q2;simp only[map_cons]
   by_cases hj:j=i
   ·subst hj;rw[if_pos rfl,if_pos rfl];exact .cons r ih
   ·rw[if_neg hj,if_neg (λz=>hj (by simpa using z))];exact .cons q1 ih
def zQB{kvs:List (Int×D)}{vs:List (Key×V)}{i:Int}{d:D}{v:V}(r:tx K Z H d v)(h1:vs.map (·.1)=kvs.map (λp=>yU p.1))(h2:tj K Z H (kvs.map (·.2)) (vs.map (·.2))) :
 tj K Z H ((zux kvs i d).map (·.2)) ((z2v vs (yU i) v).map (·.2)):=by
 have hany:(vs.any λkv=>decide (kv.1=yU i))=kvs.any λp=>decide (p.1=i):=by
  have e1:(vs.any λkv=>decide (kv.1=yU i))=(vs.map (·.1)).any λk=>decide (k=yU i):=by rw[any_map];rfl
  rw[e1,h1,any_map]
  congr 1
  funext p
  simp
 unfold z2v zux;rw[hany]
 split
 ·exact zFt kvs vs i r h1 h2
 ·simp only[map_append,map_cons,List.map_nil];exact h2.append (.cons r .nil)
variable {X:Cx}{a b c e:yD}{es:List yD}{G ψ χ:FE}{pos:xo}
@[simp] def z5B:φ2:=λx y O=>match y with
 |.int i=>(zNd O x).bind λkvs=>(zAf kvs i).bind λd=>some (d,O)
 |_=>none
def zLB{U:List (yc×YS)}{s:yd}{Y:L2.St}{H:Hp}{p:yc}{vs:List (Key×V)}{k:Key}{v:V}{u:yb}{A:yJ}{E:yb->yd->Prop}{Q:yb->yd->Prop}(I:Inv X U Y H s)(e:RdK H p vs)(l:zAu vs k=some v)(ry:RelV (kV k) u)
 (h:∀w' s',Inv X U Y H s'->RelV v w'->Q w' s'):yq (yC X.prog X.w) A (getItem (.ref p) u) Q E s:=by
 obtain⟨z,hd,us,rel,dd⟩:=zmm I.hok e;obtain⟨w',hw,rw'⟩:=TU.some_of (v:=v) (o:=valueAt us k) (by rw[<-l];exact rel.val k);exact wpAny_getItem_of (zYw ry) dd.mapOf hw (h w' _ (I.tok _) rw')
def ixD:IxR X (rM X.K z5B):=by
 intro value slice U s Y H x y v u Q I rx ry ⟨Z,dx,dy,O,d,O',r1,r2,R,e,k⟩ hs;unfold z5B at e
 split at e
 ·rename_i i
  obtain⟨kvs,e1,e⟩:=zm e;obtain⟨d',e2,e⟩:=zm e;cases e;obtain⟨p,vs,rfl,hq,q1,q2⟩:=zvj R r1 e1;obtain⟨w',e3,rw'⟩:=(z6p i q1 q2).1 _ e2;cases rx;rw[r2.int_inv]at ry
  have hT:s.TypeIs (.ref p) "dict":=by
   obtain⟨_,_,us,_,dd⟩:=zmm I.hok hq;exact dd.typeIs
  unfold subscriptTail;refine ya ?_;rw[getitemInPython_of_ne hT.not_modules];refine ya (xr hT PySem.F.slot_dict_getitem.lookup ?_)
  have fin:yq (yC X.prog X.w) X.A (subscripted slice false (.ref p) u) (λr s₃=>yq (yC X.prog X.w) X.A (letTemporaryGo value (.ref p) r >>= λ_=>pure r) (EP X U Y Q) X.xe s₃) X.xe s:=by
   rw[hs];exact wpAny_operating (zLB I hq e3 ry λw2 s2 I2 r2=>ya (wpAny_letTemporaryGo (yg ⟨_,H,I2,r2,k Z H _ Ext.refl R rw'⟩)))
  first
   |exact yg (ya fin)
   |exact ya (yg (ya fin))
   |exact ya fin
 ·cases e
def z7z(ha:ME X a G)(hb:ME X b ψ)(hs:zan b:=by intro _ _;rfl):ME X (.Subscript a b pos) (zC z5B G ψ) :=
 zFe (zcy ixD ha hb hs) λ_ _ _ _ _ _ _ _ A e k=>zot A e k
@[simp] def zwF:φ2:=λx y O=>match x with
 |.int i=>(zNd O y).bind λkvs=>some (.bl (zAf kvs i).isSome,O)
 |_=>none
@[simp] def zbn:φ2:=λx y O=>match x with
 |.int i=>(zNd O y).bind λkvs=>some (.bl (!(zAf kvs i).isSome),O)
 |_=>none
def zPC{U:List (yc×YS)}{s:yd}{Y:L2.St}{H:Hp}{p:yc}{vs:List (Key×V)}{k:Key}{u:yb}{A:yJ}{E:yb->yd->Prop}{Q:yb->yd->Prop}(I:Inv X U Y H s)(e:RdK H p vs)(ry:RelV (kV k) u)
 (h:∀s',Inv X U Y H s'->Q (.bool (zAu vs k).isSome) s'):yq (yC X.prog X.w) A (yV .In u (.ref p)) Q E s:=by
 obtain⟨z,hd,us,rel,dd⟩:=zmm I.hok e;refine wpAny_in_of (zYw ry) hd dd.mapOf ?_;rw[<-(rel.val k).sI];exact h _ (I.tok _)
def zDu{K:yw}{Z:List yc}{H:Hp}{kvs:List (Int×D)}{vs:List (Key×V)}(i:Int)(q1:vs.map (·.1)=kvs.map (λp=>yU p.1))(q2:tj K Z H (kvs.map (·.2)) (vs.map (·.2))):(zAu vs (yU i)).isSome=(zAf kvs i).isSome:=by
 obtain⟨h1,h2⟩:=z6p i q1 q2
 cases e:zAf kvs i with
 |none=>rw[h2 e];rfl
 |some d=>
  obtain⟨v,ev,_⟩:=h1 d e;rw[ev];rfl
def zRA:OpM X (yV .In) zwF:=by
 refine OpM.of λU s Y H x y v u Q I rx ry Z dx dy O d O' r1 r2 R e k=>?_;unfold zwF at e
 split at e
 ·rename_i i
  obtain⟨kvs,e1,e⟩:=zm e;cases e;obtain⟨p,vs,rfl,hq,q1,q2⟩:=zvj R r2 e1;cases ry;rw[r1.int_inv]at rx;refine zPC (k:=yU i) I hq rx λs' I'=>⟨.bl _,H,I',rfl,?_⟩
  rw[zDu i q1 q2];exact k Z H _ Ext.refl R .bl
 ·cases e
def zHu:OpM X (yV .NotIn) zbn:=by
 refine OpM.of λU s Y H x y v u Q I rx ry Z dx dy O d O' r1 r2 R e k=>?_;unfold zbn at e
 split at e
 ·rename_i i
  obtain⟨kvs,e1,e⟩:=zm e;cases e;obtain⟨p,vs,rfl,hq,q1,q2⟩:=zvj R r2 e1;cases ry;rw[r1.int_inv]at rx;obtain⟨z,hd,us,rel,dd⟩:=zmm I.hok hq;refine wpAny_notIn_of (zYw (k:=yU i) rx) hd dd.mapOf ⟨.bl _,H,I.tok _,rfl,?_⟩;rw[<-(rel.val (yU i)).sI,zDu i q1 q2];exact k Z H _ Ext.refl R .bl
 ·cases e
@[simp] def zrE(G ψ:FE):FG:=λd J O=>(G J O).bind λp=>(ψ J p.2).bind λq=>match p.1,q.1 with
 |.loc n,.int i=>match q.2[n]? with
  |some (.dct kvs)=>bif decide (kvs.length<=1000000) then some (J,q.2.set n (.dct (zux kvs i d))) else none
  |_=>none
 |_,_=>none
def zIz:zfE X (λo i v H Q=>∃p vs k,o=.ref p/\i=kV k/\H p=some (.dK vs)/\vs.length<yG/\Q (upd H p (.dK (z2v vs k v)))):=by
 intro U s Y H o i v ov iv u Q I ro ri rv ⟨p,vs,k,e1,e2,e3,hl,q⟩;subst e1 e2;cases ro;obtain⟨z,hd,us,rel,dd⟩:=zYC I.hok e3;have hz:us.length<=yG:=by rw[<-rel.length];exact z
 have hl':(z2v vs k v).length<=yG:=by have:=ztt vs k v;omega
 refine wpAny_setItem_pairs (hsz:=hz) (zYw ri) dd λh' dd' hs=>⟨_,I.write (x:=p) (e:=p) (by rw[e3];exact Xa) (.inl rfl) (λb q hb z=>(hs.2 b hb).trans z) ?_ (show tI X.prog X.w _ h' p (.dK (z2v vs k v)) from⟨hl',hd,_,rel.put k rv,dd'⟩),q⟩
 obtain⟨q,_,_,hq,_⟩:=dd';exact⟨q,hq⟩
def z1z{o i:yD}(ho:ME X o G)(hi:ME X i ψ)(ha:∀v,assign (.Subscript o i pos) X.env v=(do
 let ov <-xD [v] (Yb o X.env)
 let iv <-xD [v,ov] (Yb i X.env)
 standAt pos
 xD [v,ov,iv] (setItem ov iv v)
 release [v,ov,iv] []):=by intro _;rfl):MG X (.Subscript o i pos) (zrE G ψ) :=
 mg_of (zyA ho hi zIz ha) λZ J O d J' O' v Y H Q A q e k=>by
  obtain⟨⟨x,O1⟩,e1,e⟩:=zm e;obtain⟨⟨y,O2⟩,e2,e⟩:=zm e;refine⟨Z,J,O,x,O1,A,e1,λZ1 H1 v1 x1 R1 r1=>?_⟩;refine⟨Z1,J,O1,y,O2,A.ext x1 R1,e2,λZ2 H2 v2 x2 R2 r2=>?_⟩;dsimp only at e
  split at e
  ·rename_i n j _
   split at e
   ·rename_i kvs hm
    obtain⟨h1,e⟩:=zP e;have h1:=of_decide_eq_true h1;cases e;obtain⟨ad,rfl,hr⟩:=(r1.ext x2).tz;obtain⟨vs,hv,q1,q2⟩:=R2.at_ _ _ _ hr hm;have hmu:Mut (H2 ad):=by rw[hv];trivial
    have hlen:vs.length=kvs.length:=by
     have:=congrArg Xq q1;simpa using this
    have hmi:=Tf;refine⟨ad,vs,yU j,rfl,r2.int_inv,hv,by omega,?_⟩;have xx:=x1.trans x2;have R3:=R2.wr (o:=.dK (z2v vs (yU j) v)) (lo:=.dct (zux kvs j d)) hmu hr ⟨_,zM,zJz kvs vs j d v q1,tj.ext (Ext.wr hmu) (zQB (q.ext xx) q1 q2)⟩;exact k Z2 Y _ (xx.trans (Ext.wr hmu)) (A.ext (xx.trans (Ext.wr hmu)) R3)
   ·cases e
  ·cases e
def zNm(kvs:List (Int×D)):List D:=kvs.map λp =>.int p.1
@[simp] def zwr:GL:=λds O=>match ds with
 |[x]=>(zNd O x).bind λkvs=>some (.loc O.length,O++[.lst (zNm kvs)])
 |_=>none
def z9B{P:yu}{w:yI}{H:Hp}{h:yS}{p:yc}{vs:List (Key×V)}(ok:HOk P w H h)(e:RdK H p vs):∃us ep,KV vs us/\h.DictAt (zZb P w) p us ep:=by
 obtain⟨_,_,us,rel,o,es,ep,h1,h2,h3,h4⟩:=zmm ok e;exact⟨us,ep,rel,o,es,h1,h2,h3,h4⟩
def zQq{P:yu}{w:yI}:∀{vs:List (Key×V)} {us:List (Key×yb)} {its:List yb},KV vs us->its.length=us.length->(∀(j:Nat)(v:yb),its[j]?=some v->∃(k:Key)(x:yb),us[j]?=some (k,x)/\(zZb P w).is k v=true)->Vals (vs.map λp=>kV p.1) its
 |[],us,its,r,hl,h=>by
  cases r;have:its=[]:=List.length_eq_zero_iff.mp (by simpa using hl);subst this;exact .nil
 |p::vs,us,its,r,hl,h=>by
  cases r with
  |@cons _ q _ qs hq t=>
   cases its with
   |nil=>simp at hl
   |cons i its=>
    refine .cons ?_ (zQq t (by simpa using hl) λj v e=>by
     obtain⟨k,x,h1,h2⟩:=h (j+1) v (by simpa using e);exact⟨k,x,by simpa using h1,h2⟩)
    obtain⟨k,x,h1,h2⟩:=h 0 i rfl;have e:q=(k,x):=by simpa using h1
    have ek:p.1=k:=by rw[hq.1,e]
    show RelV (kV p.1) i;rw[ek]
    cases k with
    |inl n=>
     rcases zIb ((zOk P w _ _).symm.trans h2) with ⟨j,t,e1,e2⟩|⟨j,t,e1,e2⟩
     ·cases e1;exact⟨t,e2⟩
     ·cases e1
    |inr n=>
     rcases zIb ((zOk P w _ _).symm.trans h2) with ⟨j,t,e1,e2⟩|⟨j,t,e1,e2⟩
     ·cases e1
     ·cases e1;exact⟨t,e2⟩
def zDs(hc:X.calm=true):tS X (.type "list") zwr:=by
 refine tS.of λU s Y H xs us Q I r Z ds O d O' r1 R e k=>?_;unfold zwr at e
 split at e
 ·obtain⟨kvs,e1,e⟩:=zm e;cases e;obtain⟨v,rr,rfl,q1,q2⟩:=r1.cons_inv;rw[q2.nil_inv]at r;obtain⟨p,vs,rfl,hq,w1,w2⟩:=zvj R q1 e1;obtain⟨u,rfl,ru⟩:=vals1 r;cases ru;obtain⟨hz,hd,_⟩:=zmm I.hok hq;obtain⟨us',ep,rel,da⟩:=z9B I.hok hq;have hl:=rel.length;refine W.kdl_call (W.kdl_dict hd) (I.ok.hd hc) da (by omega) λh' tk acc' c' kp e2 hi=>?_;obtain⟨hi1,hi2⟩:=hi;have hv:=zQq (P:=X.prog) (w:=X.w) (its:=acc'.toList) rel (by simpa using hi1) λj v e=>hi2 j v (by simpa using e)
  have hkv:(vs.map λp=>kV p.1)=(kvs.map λp=>V.int p.1):=by
   have:(vs.map (·.1)).map kV=(kvs.map λp=>(yU p.1:Key)).map kV:=by rw[w1]
   rw[map_map,map_map]at this;exact this
  rw[hkv]at hv
  have hlk:kvs.length=vs.length:=by
   have:=congrArg Xq w1;simpa using this.symm
  have hf:=I.fresh;refine⟨.ref s.heap.objs.size,_,I.laid (t':=tk) kp (yk _) (show tI X.prog X.w _ h' _ (.lst _) from⟨by simp;omega,acc'.toList,c',hv,by simpa using e2⟩),rfl,k _ _ _ (Ext.push hf) (R.push hf ⟨_,zM,?_⟩) (.loc (zGc R))⟩;have hr:=λZ H=>@zwk X.K Z H (kvs.map (·.1));simp only[map_map]at hr;exact hr _ _
 ·cases e
end
def Itd(a:yc)(o:YS)(vs:List (Key×V)):It:=⟨λi H=>H a=some (.frz o (.dK vs))/\i<vs.length,λi H x H'=>H'=H/\∃p,vs[i]?=some p/\x=kV p.1,λi H=>H a=some (.frz o (.dK vs))/\vs.length<=i⟩
def zUt{P:yu}{w:yI}{H:Hp}{h:yS}{a:yc}{o:YS}{vs:List (Key×V)}{es:Array Xf}{ep:Nat}(ok:HOk P w H h)(e:H a=some (.frz o (.dK vs)))(hd:o.data=.dict es ep):∃us,KV vs us/\h.DictAt (zZb P w) a us ep:=by
 obtain⟨h0,_,_,us,rel,o',es',ep',h1,h2,h3,h4⟩:=(show tI P w H h a (.frz o (.dK vs)) from ok a _ e)
 rw[h0]at h1;cases h1;rw[hd]at h3;cases h3;exact⟨us,rel,o,es,h0,h2,hd,h4⟩
def z9v{P:yu}{w:yI}{K:yw}{tg:yD}(a it:yc)(o:YS)(vs:List (Key×V))(es:Array Xf)(ep:Nat)(hd:o.data=.dict es ep):Turn P w K tg (Itd a o vs) [it] it (λi h=>h.IsKeyIter it a i vs.length ep) where
 mem:=by simp
 obj:=λi h st b hb=>by
  have e:b=it:=by simpa using hb
  subst e;obtain⟨o,e,c,d⟩:=st;exact⟨o,e,λv z=>by rw[d]at z;cases z⟩
 keep:=λi h h' st k=>st.at λo e=>k it (by simp) o e
 item:=by
  intro X hP hw hK hc i U s Y H E I hf st hg;subst hP hw hK;obtain⟨hq,hi⟩:=hg;obtain⟨us,rel,da⟩:=zUt I.hok hq hd;have hl:=rel.length;obtain⟨f0,f1,f2,f3,f4,f5⟩:=hf it (by simp);have hx:us[i]?=some ((us[i]'(by omega)).1,(us[i]'(by omega)).2):=by simp[show i<us.length by omega]
  rw[hl]at st ⊢;refine wpAny_pyNext_dict_item st da hx λkey h' hkey st' sb=>?_;have I1:Inv X U Y H {s with heap:=h' }:=I.turned (t':=s.toks) (λb o hb e=>(sb.2 b hb).trans e) f0 f1 f3 f4 f5;obtain⟨o',e',c',d'⟩:=id st';have hk:vs[i]?=some vs[i]:=by simp[hi]
  have hkk:(vs[i]).1=(us[i]'(by omega)).1:=by
   have h1:(vs.map (·.1))[i]?=(us.map (·.1))[i]?:=by rw[rel.keys]
   simp only[yr,hk,yA (show i<us.length by omega),Option.map_some,Option.some.injEq]at h1;exact h1
  have rk:RelV (kV (vs[i]).1) key:=by
   rw[hkk];rcases zIb ((zOk X.prog X.w _ _).symm.trans hkey) with ⟨j,t,e1,e2⟩|⟨j,t,e1,e2⟩
   ·rw[e1];exact⟨t,e2⟩
   ·rw[e1];exact⟨t,e2⟩
  exact⟨key,rfl,zOx (s:={s with heap:=h' }) e' c' d' (by decide) ⟨kV (vs[i]).1,H,I1,rk,⟨rfl,_,hk,rfl⟩,st',λb hb=>(hf b hb).1⟩⟩
 done:=by
  intro X hP hw hK hc i U s Y H E I hf st hg;subst hP hw hK;obtain⟨hq,hi⟩:=hg;obtain⟨us,rel,da⟩:=zUt I.hok hq hd;have hl:=rel.length;obtain⟨f0,f1,f2,f3,f4,f5⟩:=hf it (by simp);rw[hl]at st;exact wpAny_pyNext_dict_end (I.ok.hd hc) st da (by simp;omega) λh' eb=>⟨rfl,I.turned (t':=s.toks) (λb o hb e=>eb b o hb e) f0 f1 f3 f4 f5⟩
 self:=λ_ _ _ _ _ st h=>wpAny_pyIter_keyiter st h
section
variable {X:Cx}{a b c e:yD}{es:List yD}{G ψ χ:FE}{pos:xo}{tg:yD}
def zUF(tl:TE):TI:=λY H R=>tl Y H λx H1=>∃p vs,x=.ref p/\((H1 p=some (.dK vs)/\∀o,R (Itd p o vs) (upd H1 p (.frz o (.dK vs))))\/∃o,H1 p=some (.frz o (.dK vs))/\R (Itd p o vs) H1)
def zwB{l:yD}{tl:TE}(hl:PE X l tl):PI X tg l (zUF tl):=by
 intro U s Y H R I h;refine thn (hl U s Y H _ I h) λv s1 ⟨x,H1,I1,r1,q1⟩=>?_;obtain⟨p,vs,e,q⟩:=q1;subst e;cases r1
 have fin:∀(H2:Hp)(o:YS),Inv X U Y H2 s1->H2 p=some (.frz o (.dK vs))->R (Itd p o vs) H2->yq (yC X.prog X.w) X.A (pyIter (.ref p)) (PIE X U Y tg R) X.xe s1:=λH2 o I2 e2 q2=>by
  obtain⟨h0,hz,hd,us,rel,o',es,ep,h1,h2,h3,h4⟩:=(show tI X.prog X.w H2 s1.heap p (.frz o (.dK vs)) from I2.hok p _ e2)
  rw[h0]at h1;cases h1;have da:s1.heap.DictAt (zZb X.prog X.w) p us ep:=⟨o,es,h0,h2,h3,h4⟩
  refine wpAny_pyIter_dict hd da ?_;refine⟨s1.heap.objs.size,[s1.heap.objs.size],_,_,H2,rfl,I2.kept (t':=s1.toks) λb o e=>ye _ e,z9v p _ o vs es ep h3,⟨_,ym _ rfl,rfl,by rw[rel.length];rfl⟩,λb hb=>?_,q2⟩;have e:b=s1.heap.objs.size:=by simpa using hb
  subst e;exact I2.sO (yk _) (I2.hok.fresh (yk _))
 rcases q with ⟨e1,q⟩|⟨o,e1,q⟩
 ·have hok:=I1.hok p _ e1;obtain⟨hz,hd,us,rel,o,es,ep,h1,h2⟩:=(show tI X.prog X.w H1 s1.heap p (.dK vs) from hok)
  have I2:Inv X U Y (upd H1 p (.frz o (.dK vs))) {s1 with heap:=s1.heap,toks:=s1.toks }:=by
   refine I1.write (x:=p) (e:=p) (by rw[e1];exact Xa) (.inl rfl) (λb u _ e=>e) ⟨o,h1⟩ ?_;exact⟨h1,hz,hd,us,rel,o,es,ep,h1,h2⟩
  exact fin _ o I2 zM (q o)
 ·exact fin H1 o I1 e1 q
@[simp] def z1A(G:FE):FI:=λJ O=>(G J O).bind λp=>match p.1 with
 |.loc n=>match p.2[n]? with
  |some (.dct kvs)=>some (zNm kvs,yes,p.2.set n (.dcf kvs))
  |some (.dcf kvs)=>some (zNm kvs,yes,p.2)
  |_=>none
 |_=>none
def znA{K:yw}{Z:List yc}{H:Hp}{p:yc}{o:YS}{vs:List (Key×V)}{kvs:List (Int×D)}(h:H p=some (.frz o (.dK vs)))(q1:vs.map (·.1)=kvs.map (λp=>yU p.1)):sx K (Itd p o vs) Z H (zNm kvs) yes:=by
 have hlen:vs.length=kvs.length:=by
  have:=congrArg Xq q1;simpa using this
 have hkl:(zNm kvs).length=kvs.length:=by simp[zNm]
 refine⟨λZ' H' O' i x R _ hi=>⟨x.frz _ _ _ h,by rw[hkl]at hi;omega⟩,λZ' H' O' i x H'' d x' R _ e ⟨y1,q,y2,y3⟩=>⟨y1▸Ext.refl,y1▸R,y1▸?_⟩,λZ' H' O' x R _=>⟨x.frz _ _ _ h,by rw[hkl];omega⟩⟩;have h1:(vs.map (·.1))[i]?=(kvs.map (λp=>(yU p.1:Key)))[i]?:=by rw[q1]
 rw[yr,yr,y2]at h1;unfold zNm at e;rw[yr]at e
 cases hk:kvs[i]? with
 |none=>rw[hk]at e;cases e
 |some z=>
  rw[hk]at e h1;cases e;have h1:q.1=yU z.1:=by simpa using h1
  rw[y3,h1];exact .int
def zdC(h:ME X a G):MI X tg a (z1A G) :=
 z8s (zwB h) λZ J O Y H ds ok O' R A e k=>by
  obtain⟨⟨x,O1⟩,e1,e⟩:=zm e;refine⟨Z,J,O,x,O1,A,e1,λZ1 H1 v1 x1 R1 r1=>?_⟩;dsimp only at e
  split at e
  ·split at e
   ·rename_i hm
    cases e;obtain⟨p,rfl,ep⟩:=r1.tz;obtain⟨vs,e3,q1,q2⟩:=R1.at_ _ _ _ ep hm;have hmu:Mut (H1 p):=by rw[e3];trivial
    refine⟨p,vs,rfl,.inl ⟨e3,λo=>?_⟩⟩;exact k Z1 _ _ (x1.trans (Ext.wr hmu)) (R1.wr hmu ep ⟨o,vs,zM,q1,tj.ext (Ext.wr hmu) q2⟩) (znA zM q1)
   ·rename_i hm
    cases e;obtain⟨p,rfl,ep⟩:=r1.tz;obtain⟨o,vs,e3,q1,q2⟩:=R1.at_ _ _ _ ep hm;exact⟨p,vs,rfl,.inr ⟨o,e3,k Z1 _ _ x1 R1 (znA e3 q1)⟩⟩
   ·cases e
  ·cases e
def zwx{prog:yu}{w:yI}{A:yJ}{E:yb->yd->Prop}{s:yd}{Q:Int->yd->Prop}(h:Q 0xFCA86420 {s with toks:=s.toks+1 }):yq (yC prog w) A (pyHash .none) Q E s:=by
 unfold pyHash;have hv:[YQ].any Value.onHeap=false:=rfl;refine ya ?_;rw[cRoomFor,if_neg (by rw[hv];exact yB)];refine yg ?_;refine ya (xr (typeIs_none s) PySem.F.slot_NoneType_hash.lookup ?_);show yq _ _ (if(some (Value.builtin "NoneType.__hash__")==some YQ)=true then _ else _) Q E s;rw[if_neg (by rw[beq_builtin_none];exact yB)];refine ya (xr (typeIs_none s) PySem.F.slot_NoneType_hash.lookup ?_);show yq _ _ (callSpecialIfBoundUnlessNone? .none "__hash__" _ >>= _) Q E s;refine ya (wpAny_callSpecialIfBoundUnlessNone?_slot (typeIs_none s) PySem.F.slot_NoneType_hash (yP PySem.F.slot_NoneType_hash (typeIs_none s) PySem.F.entry_NoneType_hash ?_ (PySem.F.args_NoneType_hash_1 _)));show yq _ _ (do ret (<-mkInt 0xFCA86420)) _ _ s;refine wpAny_ret_mkInt ?_;show yq _ _ (if(decide (-(2:Int)^63<=0xFCA86420)&&decide ((0xFCA86420:Int)<2^63))=true then _ else _) Q E _;rw[if_pos (by decide)];exact yg h
def zPv{i:Int}(h0:0<=i)(h1:i<1000):hashInt i=i:=by
 have e:(i.natAbs%(2^61-1):Nat)=i.natAbs:=Nat.mod_eq_of_lt (by omega)
 have hr:rawHash i=i:=by
  unfold rawHash;dsimp only;rw[if_neg (by omega:¬i<0)];have:((i.natAbs%(2^61-1:Nat):Nat):Int)=i:=by rw[e];omega
  rw[show((i.natAbs:Int)%((2^61-1:Nat):Int))=i by rw[<-Int.natCast_emod];exact this];rw[if_neg (by simp;omega)]
 unfold hashInt;rw[hr,if_neg (by simp;omega)]
def zRr:Key->Bool
 |.inl i=>decide (0<=i/\i<1000)
 |.inr _=>false
def znm{P:yu}{w:yI}:∀{es:List Xf} {us:List (Key×yb)},Pairs (zZb P w) es us->(∀e∈es,∃k,(zZb P w).is k e.key=true/\e.hash=(zZb P w).hash k)->(us.all λq=>zRr q.1)=true->∀e∈es,(e.hash==0xFCA86420)=false
 |_,_,.nil,_,_=>λe he=>by cases he
 |_,_,.cons (kv:=kv) hk hv t,hh,hs=>λe he=>by
  rw[all_cons,yK]at hs;rcases List.mem_cons.mp he with rfl|he
  ·obtain⟨k',h1,h2⟩:=hh e mem_cons_self;have ek:=(zZb P w).inj _ _ _ hk h1;rw[h2,<-ek];have hsm:zRr kv.1=true:=hs.1
   cases hkv:kv.1 with
   |inl i=>
    rw[hkv]at hsm;have hi:=of_decide_eq_true (show decide (0<=i/\i<1000)=true from hsm);show(hashInt i==0xFCA86420)=false;rw[zPv hi.1 hi.2];simp;omega
   |inr x=>rw[hkv]at hsm;cases hsm
  ·exact znm t (λe he=>hh e (mem_cons_of_mem _ he)) hs.2 e he
def z9A{prog:yu}{w:yI}{A:yJ}{E:yb->yd->Prop}{s:yd}{p:yc}{us:List (Key×yb)}{Q:yb->yd->Prop}(hd:(p==sysModules)=false)(dd:s.heap.DictOf (zZb prog w) p us)(hs:(us.all λq=>zRr q.1)=true)
 (h:Q (.bool false) {s with toks:=s.toks+1 }):yq (yC prog w) A (yV .In .none (.ref p)) Q E s:=by
 obtain⟨o,es,ep,ho,hx,hdat,hk,hp,hn⟩:=id dd;have hno:=znm hp (λe he=>hk e (by simpa using he)) hs
 have hpl:placesWithHash es.size (λi=>es[i]?.map (·.hash)) 0xFCA86420=[]:=by
  unfold placesWithHash;rw[List.filter_eq_nil_iff];intro i hi;have hi:i<es.size:=by simpa using hi
  dsimp only;rw[Array.getElem?_eq_getElem hi];have:=hno es[i] (by simp);simpa using this
 show yq _ _ (do return .bool (<-contains (.ref p) .none)) Q E s;refine ya ?_;unfold contains
 try with_reducible refine Yp ?_
 refine ya (xr dd.typeIs slot_dict_contains.lookup ?_);show yq _ _ (if(some (Value.builtin "dict.__contains__")==some YQ)=true then _ else _) _ E s;rw[if_neg (by rw[beq_builtin_none];exact yB)];refine ya (wpAny_callSpecialUnlessNone?_slot (name:=Yz "__contains__") dd.typeIs slot_dict_contains (yP slot_dict_contains dd.typeIs entry_dict_contains ?_ (args_dict_contains _ _)));show yq _ _ (dictGet p .none >>= _) _ _ s;refine ya ?_;unfold dictGet
 try with_reducible refine Yp ?_
 refine ya (zwx (ya ?_));unfold dictFind
 try with_reducible refine Yp ?_
 refine ya (wpAny_dictEntries (s:={s with toks:=s.toks+1 }) ho hdat ?_);dsimp only;rw[hpl];rw[if_pos (by rfl)];unfold dictWalkPlain;refine ya ?_;rw[forIn_nil];refine yg ?_;refine yg (yg ?_);show yq _ _ (Builtin.Dict.pendingKey? p .none >>= _) _ _ _;exact ya (wpAny_pendingKey_other hd (yg ⟨_,rfl,YV (yg h)⟩))
@[simp] def zMs:φ2:=λx y O=>match x with
 |.int i=>(zNd O y).bind λkvs=>some (.bl (zAf kvs i).isSome,O)
 |.non=>(zNd O y).bind λkvs=>bif kvs.all (λp=>decide (0<=p.1/\p.1<1000)) then some (.bl false,O) else none
 |_=>none
def zMy:OpM X (yV .In) zMs:=by
 refine OpM.of λU s Y H x y v u Q I rx ry Z dx dy O d O' r1 r2 R e k=>?_;unfold zMs at e
 split at e
 ·rename_i i
  exact zRA U s Y H x y v u Q I rx ry ⟨Z,.int i,dy,O,d,O',r1,r2,R,e,k⟩
 ·obtain⟨kvs,e1,e⟩:=zm e;obtain⟨hsm,e⟩:=zP e;cases e;obtain⟨p,vs,rfl,hq,q1,q2⟩:=zvj R r2 e1;cases ry;rw[r1.tF]at rx;cases rx;obtain⟨z,hd,us,rel,dd⟩:=zmm I.hok hq;refine z9A hd dd ?_ ⟨.bl false,H,I.tok _,rfl,k Z H _ Ext.refl R .bl⟩;have e1:(us.all λq=>zRr q.1)=(us.map (·.1)).all zRr:=by rw[all_map];rfl
  rw[e1,<-rel.keys,q1,all_map];exact hsm
 ·cases e
variable {prog:yu}{w:yI}{A:yJ}{E:yb->yd->Prop}{s:yd}
def zOu:typeLookup (.type "list_reverseiterator") "__len__"=pure none:=by rw[typeLookup_type,Xj];kernel_rfl
def zGz:typeLookup (.type "list_reverseiterator") "__length_hint__"=pure (some (.builtin "list_reverseiterator.__length_hint__")):=by rw[typeLookup_type,Xj];kernel_rfl
def zpy{r:yc}{Q:Bool->yd->Prop}(hT:s.TypeIs (.ref r) "list_reverseiterator")(h:Q false s):yq (yC prog w) A (xv (.ref r)) Q E s:=by
 unfold xv;refine ya (xr hT zOu ?_);show yq _ _ (specialOf (Ye r) (Yz "__length_hint__") >>= _) _ _ _;refine ya (xr hT zGz ?_);generalize hid:("list_reverseiterator.__length_hint__":String)=id0
 wp_delta
 rw[show splitId id0=some ("list_reverseiterator","__length_hint__") from by subst hid;decide +kernel];subst hid;refine ya (xW (T:="list_reverseiterator") (b:=true) hT (by rw[isSubtype_type];kernel_rfl) ?_);refine xa (λhab=>absurd hab (by decide)) (λ_=>?_);refine xa (λ_=>?_) (λhab=>absurd (by decide +kernel) hab);refine xa (λhab=>absurd hab (by decide +kernel)) (λ_=>?_);exact yg h
def zFy{I l:yc}{items:Array yb}{Q:yb->yd->Prop}(hh:A.handled=none)(hne:l≠I)(hI:s.heap.IsRevIter I l ((items.size:Int)-1))(hl:s.heap.IsList l items)(hn:items.size<=yG)
 (hQ:∀h' tk acc' c',(∀b o,b≠I->s.heap.get? b=some o->h'.get? b=some o)->h'.get? s.heap.objs.size=some {cls:=.type "list",dict:=none,data:=.seq acc' c',slots:=#[]}->ItemsOf (λi v=>items[items.size-1-i]?=some v) acc' items.size->Q (.ref s.heap.objs.size) {s with heap:=h',toks:=tk }) :
 yq (yC prog w) A (call (.type "list") [.ref I]) Q E s:=by
 have hIlt:I<s.heap.objs.size:=by obtain⟨o,ho,_⟩:=hI;exact yo ho
 have hllt:l<s.heap.objs.size:=by obtain⟨o,ho,_⟩:=hl;exact yo ho
 refine callType_codes (Q₁:=λobj s₁=>obj=.ref s.heap.objs.size/\s₁ = {s with heap:=s.heap.push {cls:=.type "list",data:=.seq #[]}}) PySem.F.called_list (PySem.F.typeCall_list_1 _) PySem.F.entry_list_init (code_list_new _ ⟨rfl,rfl⟩) λobj s₁ h₁=>?_;obtain⟨rfl,rfl⟩:=h₁;generalize hS0:s.heap.objs.size=S;have hSI:S≠I:=by rw[<-hS0];exact Yk hIlt
 have hSl:S≠l:=by rw[<-hS0];exact Yk hllt
 have hS:(s.heap.push {cls:=.type "list",data:=.seq #[]}).get? S=some {cls:=.type "list",data:=.seq #[]}:=by rw[<-hS0];exact ym _ rfl
 refine⟨⟨_,hS,rfl⟩,PySem.F.args_list_init_2 _ _,?_⟩;have oldS:∀b o,s.heap.get? b=some o->b≠S:=λb o e=>by rw[<-hS0];exact yz (yo e)
 have W:=(Walks.listRev (prog:=prog) (w:=w) (A:=A.in1.in1) hh I l hne items).toS;show yq _ _ (do let old <-Builtin.List.listItems (.ref S);Builtin.List.listUpdate (.ref S) (λ_=>#[]);letGo old.toList.reverse;YE (.ref S) (.ref I) .none) _ _ _;refine ya ?_;unfold Builtin.List.listItems;refine ya (YO hS rfl (yg ?_));show yq _ _ (updateSeq S (λ_=>#[]) >>= λ_=>letGo (#[]:Array yb).toList.reverse >>= λ_=>YE (.ref S) (.ref I) .none) _ _ _;refine ya (wpAny_updateSeq hS rfl ?_);have hS2:=Yn (Xb (λ_=>(#[]:Array yb))) hS rfl;generalize hh2:(s.heap.push {cls:=.type "list",data:=.seq #[]}).update S (Xb (λ_=>(#[]:Array yb)))=h2 at hS2 ⊢
 have k2:∀b o,s.heap.get? b=some o->h2.get? b=some o:=λb o e=>by
  rw[<-hh2];exact(xu _ _ (yM (oldS b o e))).trans (ye _ e)
 refine ya (wpAny_letGo ?_);have hI2:h2.IsRevIter I l ((items.size:Int)-1):=hI.at λo e=>k2 _ _ e;have hl2:h2.IsList l items:=hl.at λo e=>k2 _ _ e;unfold YE;refine ya (Xv (T:="list_reverseiterator") (Heap.IsRevIter.typeIs (s:={s with heap:=h2 }) hI2) ?_);have h1:xR (.ref S) (.ref I)=false:=by simp[xR,hSI]
 have h2':(YJ "list_reverseiterator" == YJ "list")=false:=by decide
 have h3':(YJ "list_reverseiterator" == YJ "tuple")=false:=by decide
 simp only[h1,h2',h3',Bool.or_false,Bool.false_eq_true,if_false];refine ya (wpAny_pyIter_revIter (s:={s with heap:=h2 }) hI2 ?_);refine ya (Yp (zpy (Heap.IsRevIter.typeIs (s:={s with heap:=h2 }) hI2) ?_));refine xa (λhab=>absurd hab (by decide)) (λ_=>?_)
 have hSf:S∉[I,l]:=by
  simp only[mem_cons,not_mem_nil,or_false,not_or];exact⟨hSI,hSl⟩
 refine yg ⟨plainId_quiet PySem.F.plain_extend_loop _,codeAny_extend_loopS W hn S hSf _ items.size 0 _ #[] _ rfl (Yy _) ⟨Yy _,by simpa using hI2,hl2⟩ hS2 (ItemsOf.nil _) λs' acc' c' hm hS' hacc=>?_⟩;rw[Moved.eq_with hm];refine⟨rfl,?_⟩;rw[<-hS0]at hS' ⊢;refine hQ s'.heap s'.toks acc' c' (λb o hb e=>hm.heap b o (λhmem=>?_) (k2 b o e)) hS' hacc;rcases List.mem_cons.mp hmem with e'|hmem
 ·exact oldS b o e e'
 ·exact hb (List.mem_singleton.mp hmem)
variable {pos2 p1 p2:xo}
def z4y(G:FE):FE:=λJ O=>(G J O).bind λp=>match p.1 with
 |.loc n=>match p.2[n]? with
  |some (.lst ds)=>some (.loc p.2.length,p.2++[.lst ds.reverse])
  |_=>none
 |_=>none
def zpz{items:List yb}{vs:List V}{its:List yb}(rv:Vals vs items)(hl:its.length=items.length)(h:∀(j:Nat)(v:yb),its[j]?=some v->items[items.length-1-j]?=some v):Vals vs.reverse its:=by
 have e:its=items.reverse:=by
  refine List.ext_getElem? λj=>?_
  by_cases hj:j<its.length
  ·have h1:its[j]?=some its[j]:=by simp[hj]
   rw[List.getElem?_reverse (by omega),h j _ h1,h1]
  ·rw[Yu (by omega),Yu (by simp;omega)]
 rw[e];exact rv.reverse
def zkx{K:yw}{Z:List yc}{H:Hp}:∀{ds:List D} {vs:List V},tj K Z H ds vs->tj K Z H ds.reverse vs.reverse
 |[],vs,r=>by rw[r.nil_inv];exact .nil
 |d::ds,vs,r=>by
  obtain⟨v,q,rfl,h1,h2⟩:=r.cons_inv;rw[List.reverse_cons,List.reverse_cons];exact(zkx h2).append (.cons h1 .nil)
def zxE(X:Cx)(tl:TE):TE:=λY H Q=>tl Y H λx H1=>∃a ys,x=.ref a/\SqL X.K H1 a ys/\∀q,H1 q=none->Q (.ref q) (upd H1 q (.lst ys.reverse))
def z6B{l:yD}{tl:TE}(hm1:X.mg "list"=none)(hv1:yH "list"=some (.type "list"))(hm2:X.mg "reversed"=none)(hv2:yH "reversed"=some (.type "reversed"))(hl:PE X l tl)(hc:X.calm=true)(hg1:Gl X "list")(hg2:Gl X "reversed")
 (he:yj [l] X.env=(false,Yb l X.env)::yj [] X.env) (he2:yj [.Call (.Name "reversed" p2) [l] [] pos2] X.env=(false,Yb (.Call (.Name "reversed" p2) [l] [] pos2) X.env)::yj [] X.env) :
 PE X (.Call (.Name "list" p1) [.Call (.Name "reversed" p2) [l] [] pos2] [] pos) (zxE X tl):=by
 intro U s Y H Q I h;refine xf (zvl I hg1 hm1 hv1 ?_ (by decide) (by decide));refine YD ?_ he2 rfl;rw[he2];show yq _ _ (spliced ((false,Yb (.Call (.Name "reversed" p2) [l] [] pos2) X.env)::Yq pos (yj [] X.env))) _ _ s;refine Calls.spliced_cons ?_;refine xf (zvl I hg2 hm2 hv2 ?_ (by decide) (by decide))
 refine YD (thn (z7i hl zwm he pos2 U s Y H (λvs H1=>match vs with
  |[x]=>∃a ys,x=.ref a/\SqL X.K H1 a ys/\∀q,H1 q=none->Q (.ref q) (upd H1 q (.lst ys.reverse))
  |_=>False) I h) λus s1 ⟨vs,H1,I1,r1,q1⟩=>?_) he rfl
 dsimp only at q1
 split at q1
 case h_2=>exact q1.elim
 obtain⟨a,ys,e,hq,q⟩:=q1;subst e
 cases r1 with
 |cons r rr=>
  cases rr;cases r;obtain⟨its,rv,pl,hz⟩:=I1.list hq;have hlen:=rv.length;refine call_reversed_list pl.isList ?_;refine Calls.spliced_nil ?_;have I2:Inv X U Y H1 {s1 with heap:=s1.heap.push (revObj a ((its.toArray.size:Int)-1))}:=I1.kept (t':=s1.toks) λb o e=>ye _ e;have halt:a<s1.heap.objs.size:=by obtain⟨_,_,e,_⟩:=pl;exact yo e
  have hf:∀b∈[s1.heap.objs.size],zSs X U H1 b:=λb hb=>by
   have e:b=s1.heap.objs.size:=by simpa using hb
   subst e;exact I1.sO (yk _) (I1.hok.fresh (yk _))
  refine zFy (s:={s1 with heap:=s1.heap.push (revObj a ((its.toArray.size:Int)-1))}) (I.ok.hd hc) (yz halt) ⟨_,ym _ rfl,rfl,rfl⟩ (pl.isList.push _) (by simp;omega) λh' tk acc' c' kp e hi=>?_;obtain⟨hi1,hi2⟩:=hi;have hv:=zpz (its:=acc'.toList) rv (by simpa using hi1) λj v e=>by simpa using hi2 j v (by simpa using e)
  refine⟨.ref _,_,zue (t':=tk) I2 hf (λb o hb e=>kp b o (by simpa using hb) e) (yk _) (show tI X.prog X.w _ h' _ (.lst ys.reverse) from⟨by simp;omega,acc'.toList,c',hv,by simpa using e⟩),rfl,q _ (I2.hok.fresh (yk _))⟩
def zXA(hm1:X.mg "list"=none)(hv1:yH "list"=some (.type "list"))(hm2:X.mg "reversed"=none)(hv2:yH "reversed"=some (.type "reversed"))(h:ME X e G)(hc:X.calm=true:=by rfl)(hg1:Gl X "list":=by rfl)(hg2:Gl X "reversed":=by rfl)
 (he:yj [e] X.env=(false,Yb e X.env)::yj [] X.env:=by rfl) (he2:yj [.Call (.Name "reversed" p2) [e] [] pos2] X.env=(false,Yb (.Call (.Name "reversed" p2) [e] [] pos2) X.env)::yj [] X.env:=by rfl) :
 ME X (.Call (.Name "list" p1) [.Call (.Name "reversed" p2) [e] [] pos2] [] pos) (z4y G) :=
 zFe (z6B hm1 hv1 hm2 hv2 h hc hg1 hg2 he he2) λZ J O Y H d O' Q A e k=>by
  obtain⟨⟨x,O1⟩,e1,e⟩:=zm e;refine⟨Z,J,O,x,O1,A,e1,λZ1 H1 v x1 R1 r1=>?_⟩;dsimp only at e
  split at e
  ·split at e
   ·rename_i hm
    cases e;obtain⟨p,rfl,ep⟩:=r1.tz;obtain⟨vs,e3,q⟩:=R1.at_ _ _ _ ep hm;exact⟨p,vs,rfl,SqL.of e3,λq' hq'=>k _ _ _ (x1.trans (Ext.push hq')) (R1.push hq' ⟨_,zM,(zkx q).ext (Ext.push hq')⟩) (.loc (zGc R1))⟩
   ·cases e
  ·cases e
variable {te:TE}{stp:yD}{ts:TO}
end
def zQA:List Int->Int
 |[]=>0
 |[n]=>n
 |n::m::r=>if n<=zQA (m::r) then n else zQA (m::r)
def zTy:List Int->Int
 |[]=>0
 |[n]=>n
 |n::m::r=>if zTy (m::r)<=n then n else zTy (m::r)
def zVA:∀{ns:List Int},0<ns.length->zQA ns∈ns/\∀a∈ns,zQA ns<=a
 |[],h=>absurd h (yY _)
 |[n],_=>⟨by simp[zQA],by simp[zQA]⟩
 |n::m::r,_=>by
  obtain⟨h1,h2⟩:=zVA (ns:=m::r) (by simp);unfold zQA
  split
  ·rename_i h
   refine⟨mem_cons_self,λa ha=>?_⟩;rcases List.mem_cons.mp ha with rfl|ha
   ·exact Int.le_refl _
   ·exact Int.le_trans h (h2 a ha)
  ·rename_i h
   refine⟨mem_cons_of_mem _ h1,λa ha=>?_⟩;rcases List.mem_cons.mp ha with rfl|ha
   ·omega
   ·exact h2 a ha
def zBs:∀{ns:List Int},0<ns.length->zTy ns∈ns/\∀a∈ns,a<=zTy ns
 |[],h=>absurd h (yY _)
 |[n],_=>⟨by simp[zTy],by simp[zTy]⟩
 |n::m::r,_=>by
  obtain⟨h1,h2⟩:=zBs (ns:=m::r) (by simp);unfold zTy
  split
  ·rename_i h
   refine⟨mem_cons_self,λa ha=>?_⟩;rcases List.mem_cons.mp ha with rfl|ha
   ·exact Int.le_refl _
   ·exact Int.le_trans (h2 a ha) h
  ·rename_i h
   refine⟨mem_cons_of_mem _ h1,λa ha=>?_⟩;rcases List.mem_cons.mp ha with rfl|ha
   ·omega
   ·exact h2 a ha
section
variable {prog:yu}{w:yI}{A:yJ}{E:yb->yd->Prop}{s:yd}
variable {X:Cx}
variable {a b c e:yD}{es:List yD}{G ψ χ:FE}{pos p2:xo}
end
inductive Kd
 |l
 |t
def Kd.nm:Kd->String
 |.l=>"list_iterator"
 |.t=>"tuple_iterator"
def Tp:Kd->yS->yc->Array yb->Prop
 |.l,h,a,xs=>h.IsList a xs
 |.t,h,a,xs=>h.IsTuple a xs
def sE(k:Kd)(h:yS)(it a:yc)(i:Nat):Prop:=∃o,h.get? it=some o/\o.cls=.type k.nm/\o.data=.fields #[.ref a,.int i 0]
def sE.at{k:Kd}{h h':yS}{it a:yc}{i:Nat}(x:sE k h it a i)(e:∀o,h.get? it=some o->h'.get? it=some o):sE k h' it a i:=by
 obtain⟨o,h1,h2⟩:=x;exact⟨o,e o h1,h2⟩
def Tp.at{k:Kd}{h h':yS}{a:yc}{xs:Array yb}(x:Tp k h a xs)(e:∀o,h.get? a=some o->h'.get? a=some o):Tp k h' a xs:=by
 cases k<;>(obtain⟨o,h1,h2⟩:=x;exact⟨o,e o h1,h2⟩)
def JK(K:yw):Kd->yc->It
 |.l,a=>Itl K a
 |.t,a=>Itt K a
section
variable {prog:yu}{w:yI}{A:yJ}{E:yb->yd->Prop}{s:yd}
def nextK{k:Kd}{it a:yc}{i:Nat}{xs:Array yb}{x:yb}{Q:yb->yd->Prop}(hit:sE k s.heap it a i)(ha:Tp k s.heap a xs)(hx:xs[i]?=some x)
 (hQ:∀h',sE k h' it a (i+1)->yL it s.heap h'->Q x {s with heap:=h' }):yq (yC prog w) A (yN (.ref it)) Q E s:=by
 cases k
 ·exact wpAny_nextOf_list_item (l:=a) hit ha hx hQ
 ·exact nextT (t:=a) hit ha hx hQ
def zcs{k:Kd}{it a:yc}{i:Nat}{xs:Array yb}{Q:yb->yd->Prop}(hh:A.handled=none)(hit:sE k s.heap it a i)(ha:Tp k s.heap a xs)(hx:xs[i]?=none)
 (hE:∀h' e,xZ it s.heap h'->(∃o,h'.get? e=some o/\o.cls=.type "StopIteration")->E (.ref e) {s with heap:=h' }):yq (yC prog w) A (yN (.ref it)) Q E s:=by
 cases k
 ·exact wpAny_nextOf_list_end (l:=a) hh hit ha hx hE
 ·exact z9q (t:=a) hh hit ha hx hE
def iterK{k:Kd}{a:yc}{xs:Array yb}{Q:yb->yd->Prop}(ha:Tp k s.heap a xs)(hQ:Q (.ref s.heap.objs.size) {s with heap:=s.heap.push {cls:=.type k.nm,data:=.fields #[.ref a,.int 0 0]}}):yq (yC prog w) A (pyIter (.ref a)) Q E s:=by
 cases k
 ·exact xM ha hQ
 ·exact xw ha hQ
end
structure Zp(z t o i1 i2 a1 a2:yc):Prop where
 nd:[z,t,o,i1,i2].Nodup
 n1:a1∉[z,t,o,i1,i2]
 n2:a2∉[z,t,o,i1,i2]
structure Zs(k1 k2:Kd)(z t o i1 i2 a1 a2:yc)(f:yb)(m1 m2:Nat)(h:yS):Prop where
 hz:IsZip h z t o f
 ht:IsPair h t (.ref i1) (.ref i2)
 ho:∃p q,IsPair h o p q
 h1:sE k1 h i1 a1 m1
 h2:sE k2 h i2 a2 m2
section
variable {prog:yu}{w:yI}{A:yJ}{E:yb->yd->Prop}{s:yd}{k1 k2:Kd}{z t o i1 i2 a1 a2:yc}
def zSz{i:Nat}{xs ys:Array yb}{x y:yb}{Q:Option yb->yd->Prop}(d:Zp z t o i1 i2 a1 a2)(st:Zs k1 k2 z t o i1 i2 a1 a2 .none i i s.heap)(l1:Tp k1 s.heap a1 xs)(l2:Tp k2 s.heap a2 ys)(hx:xs[i]?=some x)(hy:ys[i]?=some y)
 (hQ:∀h',Zs k1 k2 z t o i1 i2 a1 a2 (YM s.heap.objs.size) (i+1) (i+1) h'->h'.get? s.heap.objs.size=some {cls:=.type "tuple",data:=.seq #[x,y]}->(∀b u,b∉[z,t,o,i1,i2]->s.heap.get? b=some u->h'.get? b=some u)->Q (some (.ref s.heap.objs.size)) {s with heap:=h' }) :
 yq (yC prog w) A (xP (.ref z)) Q E s:=by
 obtain⟨hp,g,dr,tk,os⟩:=s;obtain⟨hz,ht,⟨p,q,ho⟩,h1,h2⟩:=st;obtain⟨nd,n1,n2⟩:=d;simp only[nodup_cons,mem_cons,not_mem_nil,or_false,not_or,not_false_eq_true,nodup_nil,and_true]at nd n1 n2;obtain⟨⟨dzt,dzo,dz1,dz2⟩,⟨dto,dt1,dt2⟩,⟨do1,do2⟩,d12⟩:=nd;obtain⟨nz,nt,no,n11,n12⟩:=n1;obtain⟨mz,mt,mo,m11,m12⟩:=n2;have hT:Shared.TypeIs ⟨hp,g,dr,tk,os⟩ (.ref z) "zip":=⟨_,hz,rfl⟩
 unfold xP;refine ya (xQ (yO (name:=Yz "__next__") hT F.slot_zip_next (yP F.slot_zip_next hT F.entry_zip_next ?_ (F.args_zip_next_1 _))));show yq _ _ (field (.ref z) 2 >>= _) _ _ _;refine ya (Yo hz rfl (x:=.bool false) rfl ?_);show yq _ _ (field (.ref z) 3 >>= _) _ _ _;refine ya (Yo hz rfl (x:=.ref t) rfl (ya (YO ht rfl ?_)));show yq _ _ (Yl (.ref z) >>= _) _ _ _;unfold Yl;refine ya (ya (Yo hz rfl (x:=.none) rfl (yg ?_)));simp only[if_true];refine ya (Xs (ya (Yo hz rfl (x:=.ref o) rfl (ya (Yt hz (by simp) λha za sa=>?_)))));replace za:IsZip ha z t o .ellipsis:=za;replace sa:yL z hp ha:=sa;simp only[List.zipIdx_cons,List.zipIdx_nil,List.forIn_cons,forIn_nil];refine ya (ya (ya (wpAny_onRaise ?_)));show yq _ _ (yN (.ref i1) >>= _) _ _ ⟨ha,g,dr,tk,os⟩;have ka:∀b u,b≠z->hp.get? b=some u->ha.get? b=some u:=λb u hb e=>(sa.2 b hb).trans e;refine ya (nextK (h1.at λu e=>ka _ u (yM dz1) e) (l1.at λu e=>ka _ u nz e) hx λhb ib sb=>yg ?_);replace sb:yL i1 ha hb:=sb;have kb:∀b u,b≠z->b≠i1->hp.get? b=some u->hb.get? b=some u:=λb u e1 e2 e=>(sb.2 b e2).trans (ka b u e1 e);have ob:IsPair hb o p q:=kb o _ (yM dzo) do1 ho;refine ya (YO (s:=⟨hb,g,dr,tk,os⟩) ob rfl (ya (wpAny_updateSeq_pair ob λhc oc sc=>ya (wpAny_letGo (yg ?_)))));replace oc:IsPair hc o x q:=oc;replace sc:yL o hb hc:=sc;have kc:∀b u,b≠z->b≠i1->b≠o->hp.get? b=some u->hc.get? b=some u:=λb u e1 e2 e3 e=>(sc.2 b e3).trans (kb b u e1 e2 e);refine ya (ya (wpAny_onRaise ?_));show yq _ _ (yN (.ref i2) >>= _) _ _ ⟨hc,g,dr,tk,os⟩;refine ya (nextK (h2.at λu e=>kc _ u (yM dz2) (yM d12) (yM do2) e) (l2.at λu e=>kc _ u mz m11 mo e) hy λhd id' sd=>yg ?_);replace sd:yL i2 hc hd:=sd;have od:IsPair hd o x q:=(sd.2 o do2).trans oc;refine ya (YO (s:=⟨hd,g,dr,tk,os⟩) od rfl (ya (wpAny_updateSeq_pair od λhe oe se=>ya (wpAny_letGo (yg (yg ?_))))));replace oe:IsPair he o x y:=oe;replace se:yL o hd he:=se;have ke:∀b u,b≠z->b≠i1->b≠o->b≠i2->hp.get? b=some u->he.get? b=some u:=λb u e1 e2 e3 e4 e=>(se.2 b e3).trans ((sd.2 b e4).trans (kc b u e1 e2 e3 e));refine ya (YO (s:=⟨he,g,dr,tk,os⟩) oe rfl (ya (wpAny_newTuple ?_)));have zs:he.objs.size=hp.objs.size:=by rw[se.1,sd.1,sc.1,sb.1,sa.1]
 have ze:IsZip he z t o .ellipsis:=(se.2 z dzo).trans ((sd.2 z dz2).trans ((sc.2 z dzo).trans ((sb.2 z dz1).trans za)));have i1e:sE k1 he i1 a1 (i+1):=ib.at λu e=>(se.2 i1 (yM do1)).trans ((sd.2 i1 d12).trans ((sc.2 i1 (yM do1)).trans e));have i2e:sE k2 he i2 a2 (i+1):=id'.at λu e=>(se.2 i2 (yM do2)).trans e;have lz:z<hp.objs.size:=yo hz;have nz4:hp.objs.size≠z:=Yk lz;obtain⟨hf,ehf⟩:∃hf,hf=he.push {cls:=.type "tuple",data:=.seq #[x,y]}:=⟨_,rfl⟩
 have pf:∀b u,he.get? b=some u->hf.get? b=some u:=λb u e=>by rw[ehf];exact ye _ e
 have tf:hf.get? hp.objs.size=some {cls:=.type "tuple",data:=.seq #[x,y]}:=by rw[ehf,<-zs];exact ym _ rfl
 show yq _ _ (YK (.ref z) (.ref he.objs.size) >>= _) _ _ ⟨he.push {cls:=.type "tuple",data:=.seq #[x,y]},g,dr,tk,os⟩;rw[<-ehf,zs];unfold YK;refine ya (ya (Yt (pf _ _ ze) (by simp) λhg' zg sg=>?_));replace zg:IsZip hg' z t o (YM hp.objs.size):=zg;replace sg:yL z hf hg':=sg;refine Yt zg (by simp) λhi zi si=>yg ⟨_,rfl,?_⟩;replace zi:IsZip hi z t o (YM hp.objs.size):=zi;replace si:yL z hg' hi:=si;have ki:∀b u,b≠z->he.get? b=some u->hi.get? b=some u:=λb u e1 e=>(si.2 b e1).trans ((sg.2 b e1).trans (pf b u e));refine yg (hQ hi ⟨zi,ki _ _ (yM dzt) (ke _ _ (yM dzt) dt1 dto dt2 ht),⟨x,y,ki _ _ (yM dzo) oe⟩,i1e.at λu e=>ki _ u (yM dz1) e,i2e.at λu e=>ki _ u (yM dz2) e⟩ ?_ λb u hb e=>?_)
 ·exact(si.2 _ nz4).trans ((sg.2 _ nz4).trans tf)
 ·simp only[mem_cons,not_mem_nil,or_false,not_or]at hb;exact ki b u hb.1 (ke b u hb.1 hb.2.2.2.1 hb.2.2.1 hb.2.2.2.2 e)
def z0B{i:Nat}{xs ys:Array yb}{Q:Option yb->yd->Prop}(hh:A.handled=none)(d:Zp z t o i1 i2 a1 a2)(st:Zs k1 k2 z t o i1 i2 a1 a2 .none i i s.heap)(l1:Tp k1 s.heap a1 xs)(l2:Tp k2 s.heap a2 ys)(hend:xs[i]?=none\/ys[i]?=none)
 (hQ:∀h',(∀b u,b∉[z,t,o,i1,i2]->s.heap.get? b=some u->h'.get? b=some u)->Q none {s with heap:=h' }):yq (yC prog w) A (xP (.ref z)) Q E s:=by
 obtain⟨hp,g,dr,tk,os⟩:=s;obtain⟨hz,ht,⟨p,q,ho⟩,h1,h2⟩:=st;obtain⟨nd,n1,n2⟩:=d;simp only[nodup_cons,mem_cons,not_mem_nil,or_false,not_or,not_false_eq_true,nodup_nil,and_true]at nd n1 n2;obtain⟨⟨dzt,dzo,dz1,dz2⟩,⟨dto,dt1,dt2⟩,⟨do1,do2⟩,d12⟩:=nd;obtain⟨nz,nt,no,n11,n12⟩:=n1;obtain⟨mz,mt,mo,m11,m12⟩:=n2;have hT:Shared.TypeIs ⟨hp,g,dr,tk,os⟩ (.ref z) "zip":=⟨_,hz,rfl⟩
 unfold xP;refine ya (xQ (yO (name:=Yz "__next__") hT F.slot_zip_next (yP F.slot_zip_next hT F.entry_zip_next ?_ (F.args_zip_next_1 _))));show yq _ _ (field (.ref z) 2 >>= _) _ _ _;refine ya (Yo hz rfl (x:=.bool false) rfl ?_);show yq _ _ (field (.ref z) 3 >>= _) _ _ _;refine ya (Yo hz rfl (x:=.ref t) rfl (ya (YO ht rfl ?_)));show yq _ _ (Yl (.ref z) >>= _) _ _ _;unfold Yl;refine ya (ya (Yo hz rfl (x:=.none) rfl (yg ?_)));simp only[if_true];refine ya (Xs (ya (Yo hz rfl (x:=.ref o) rfl (ya (Yt hz (by simp) λha za sa=>?_)))));replace za:IsZip ha z t o .ellipsis:=za;replace sa:yL z hp ha:=sa;simp only[List.zipIdx_cons,List.zipIdx_nil,List.forIn_cons,forIn_nil];refine ya (ya (ya (wpAny_onRaise ?_)));show yq _ _ (yN (.ref i1) >>= _) _ _ ⟨ha,g,dr,tk,os⟩;have ka:∀b u,b≠z->hp.get? b=some u->ha.get? b=some u:=λb u hb e=>(sa.2 b hb).trans e;have l1a:=l1.at λu e=>ka _ u nz e;have h1a:=h1.at λu e=>ka _ u (yM dz1) e
 cases hx:xs[i]? with
 |none=>
  refine ya (zcs hh h1a l1a hx λhb e sb hs=>?_);replace sb:xZ i1 ha hb:=sb;obtain⟨u,hu,hc⟩:=hs;have zb:IsZip hb z t o .ellipsis:=sb _ _ dz1 za
  have ez:e≠z:=by
   rintro rfl;rw[zb]at hu;cases hu;simp at hc
  refine Yt zb (by simp) λhc' zc sc=>ya (xW (T:="StopIteration") (b:=true) ⟨u,(sc.2 e ez).trans hu,hc⟩ isSubtype_stop (yg (hQ _ λb u hb e=>?_)));simp only[mem_cons,not_mem_nil,or_false,not_or]at hb;exact(sc.2 b hb.1).trans (sb b u hb.2.2.2.1 (ka b u hb.1 e))
 |some x=>
  have hy:ys[i]?=none:=by
   rcases hend with h|h
   ·rw[hx]at h;cases h
   ·exact h
  refine ya (nextK h1a l1a hx λhb ib sb=>yg ?_);replace sb:yL i1 ha hb:=sb;have kb:∀b u,b≠z->b≠i1->hp.get? b=some u->hb.get? b=some u:=λb u e1 e2 e=>(sb.2 b e2).trans (ka b u e1 e);have ob:IsPair hb o p q:=kb o _ (yM dzo) do1 ho;refine ya (YO (s:=⟨hb,g,dr,tk,os⟩) ob rfl (ya (wpAny_updateSeq_pair ob λhc oc sc=>ya (wpAny_letGo (yg ?_)))));replace sc:yL o hb hc:=sc;have kc:∀b u,b≠z->b≠i1->b≠o->hp.get? b=some u->hc.get? b=some u:=λb u e1 e2 e3 e=>(sc.2 b e3).trans (kb b u e1 e2 e);refine ya (ya (wpAny_onRaise ?_));show yq _ _ (yN (.ref i2) >>= _) _ _ ⟨hc,g,dr,tk,os⟩;refine ya (zcs hh (h2.at λu e=>kc _ u (yM dz2) (yM d12) (yM do2) e) (l2.at λu e=>kc _ u mz m11 mo e) hy λhd e sd hs=>?_);replace sd:xZ i2 hc hd:=sd;obtain⟨u,hu,hcl⟩:=hs;have zd:IsZip hd z t o .ellipsis:=sd _ _ dz2 ((sc.2 z dzo).trans ((sb.2 z dz1).trans za))
  have ez:e≠z:=by
   rintro rfl;rw[zd]at hu;cases hu;simp at hcl
  refine Yt zd (by simp) λhe ze se=>ya (xW (T:="StopIteration") (b:=true) ⟨u,(se.2 e ez).trans hu,hcl⟩ isSubtype_stop (yg (hQ _ λb u hb e=>?_)));simp only[mem_cons,not_mem_nil,or_false,not_or]at hb;exact(se.2 b hb.1).trans (sd b u hb.2.2.2.2 (kc b u hb.1 hb.2.2.2.1 hb.2.2.1 e))
end
abbrev zpA(k:Kd)(a:yc):YS:={cls:=.type k.nm,data:=.fields #[.ref a,.int 0 0]}
abbrev zpB(h:yS)(k1 k2:Kd)(a1 a2:yc):yS:=(h.push (zpA k1 a1)).push (zpA k2 a2)
abbrev zpC(h:yS)(k1 k2:Kd)(a1 a2:yc):yS:=(zpB h k1 k2 a1 a2).push {cls:=.type "tuple",data:=.seq #[.ref h.objs.size,.ref (h.push (zpA k1 a1)).objs.size]}
abbrev zpD(h:yS)(k1 k2:Kd)(a1 a2:yc):yS:=(zpC h k1 k2 a1 a2).push {cls:=.type "tuple",data:=.seq #[.none,.none]}
abbrev zpE(h:yS)(k1 k2:Kd)(a1 a2:yc):yS:=(zpD h k1 k2 a1 a2).push {cls:=.type "zip",data:=.fields #[.none,.bool false,.bool false,.ref (zpB h k1 k2 a1 a2).objs.size,.ref (zpC h k1 k2 a1 a2).objs.size]}
def zmz(k1 k2:Kd)(a1 a2:yc)(xs ys:Array yb):Meets (YT.«zip.__new__» ⟨[.type "zip",.ref a1,.ref a2],[]⟩) (λ_ R s=>Tp k1 s.heap a1 xs/\Tp k2 s.heap a2 ys/\R (.ok (.ret (.ref (zpD s.heap k1 k2 a1 a2).objs.size))) {s with heap:=zpE s.heap k1 k2 a1 a2 }) :=
 .of_wp λprog w A R s h=>by
  obtain⟨hp,g,d,tk,os⟩:=s;obtain⟨l1,l2,h⟩:=h;have hsub:=sub_zip;have q1:Tp k1 (Shared.heap ⟨hp,g,d,tk,os⟩) a1 xs:=l1;have q2:Tp k2 (Shared.heap ⟨hp.push (zpA k1 a1),g,d,tk,os⟩) a2 ys:=l2.at λu e=>ye _ e
  wp_walk using iterK q1,iterK q2
  exact⟨_,rfl,h⟩
section
variable {prog:yu}{w:yI}{A:yJ}{E:yb->yd->Prop}{s:yd}{k1 k2:Kd}{a1 a2:yc}
def zDx{xs ys:Array yb}{Q:yb->yd->Prop}(l1:Tp k1 s.heap a1 xs)(l2:Tp k2 s.heap a2 ys)
 (h:∀h',Zs k1 k2 (s.heap.objs.size+4) (s.heap.objs.size+2) (s.heap.objs.size+3) s.heap.objs.size (s.heap.objs.size+1) a1 a2 .none 0 0 h'->(∀b u,s.heap.get? b=some u->h'.get? b=some u)->Q (.ref (s.heap.objs.size+4)) {s with heap:=h' }) :
 yq (yC prog w) A (call (.type "zip") [.ref a1,.ref a2]) Q E s:=by
 refine callType_new F.called_zip (by decide) (F.typeCall_zip_2 _ _) (F.newCall_zip_2 _ _) (λobj=>F.args_object_init_3 obj _ _) F.entry_zip_new (zmz k1 k2 a1 a2 xs ys) ⟨l1,l2,?_⟩;have z1:(s.heap.push (zpA k1 a1)).objs.size=s.heap.objs.size+1:=yT ..;have z2:(zpB s.heap k1 k2 a1 a2).objs.size=s.heap.objs.size+2:=by rw[yT,z1]
 have z3:(zpC s.heap k1 k2 a1 a2).objs.size=s.heap.objs.size+3:=by rw[yT,z2]
 have z4:(zpD s.heap k1 k2 a1 a2).objs.size=s.heap.objs.size+4:=by rw[yT,z3]
 obtain⟨hE,eE⟩:∃hE,hE=zpE s.heap k1 k2 a1 a2:=⟨_,rfl⟩
 have up:∀b u,(zpC s.heap k1 k2 a1 a2).get? b=some u->hE.get? b=some u:=λb u e=>by rw[eE];exact ye _ (ye _ e)
 have e5:hE.get? (zpD s.heap k1 k2 a1 a2).objs.size=some {cls:=.type "zip",data:=.fields #[.none,.bool false,.bool false,.ref (zpB s.heap k1 k2 a1 a2).objs.size,.ref (zpC s.heap k1 k2 a1 a2).objs.size]}:=by rw[eE];exact ym _ rfl
 have e4:hE.get? (zpC s.heap k1 k2 a1 a2).objs.size=some {cls:=.type "tuple",data:=.seq #[.none,.none]}:=by rw[eE];exact ye _ (ym _ rfl)
 have e3:hE.get? (zpB s.heap k1 k2 a1 a2).objs.size=some {cls:=.type "tuple",data:=.seq #[.ref s.heap.objs.size,.ref (s.heap.push (zpA k1 a1)).objs.size]}:=up _ _ (ym _ rfl);have e2:hE.get? (s.heap.push (zpA k1 a1)).objs.size=some (zpA k2 a2):=up _ _ (ye _ (ym _ rfl));have e1:hE.get? s.heap.objs.size=some (zpA k1 a1):=up _ _ (ye _ (ye _ (ym _ rfl)));rw[z2,z3,z4]at e5;rw[z3]at e4;rw[z1,z2]at e3;rw[z1]at e2;show _/\_;rw[<-eE,z4];exact⟨⟨_,e5,rfl⟩,h _ ⟨e5,e3,⟨_,_,e4⟩,⟨_,e1,rfl,rfl⟩,⟨_,e2,rfl,rfl⟩⟩ λb u e=>up b u (ye _ (ye _ (ye _ e)))⟩
end
def Izp(δ1 δ2:It):It:=⟨λi H=>δ1.go i H/\δ2.go i H,λi H x H'=>∃p y1 y2,x=.ref p/\H p=none/\H'=upd H p (.tup [y1,y2])/\δ1.yld i H y1 H/\δ2.yld i H y2 H,λi H=>(δ1.stop i H/\(δ2.go i H\/δ2.stop i H))\/(δ1.go i H/\δ2.stop i H)⟩
def SqK(K:yw):Kd->Hp->yc->List V->Prop
 |.l=>SqL K
 |.t=>SqT K
section
variable {X:Cx}{U:List (yc×YS)}{Y:L2.St}{H:Hp}{s:yd}
def zJo{k:Kd}{a:yc}{xs:List V}(I:Inv X U Y H s)(hq:SqK X.K k H a xs):∃its:List yb,Vals xs its/\Tp k s.heap a its.toArray:=by
 cases k
 ·obtain⟨its,rv,p,_⟩:=I.list hq;exact⟨its,rv,p.isList⟩
 ·obtain⟨its,rv,p,_⟩:=I.tuple hq;exact⟨its,rv,p⟩
def zzw{k:Kd}{a:yc}{xs ys:List V}(I:Inv X U Y H s)(h1:SqK X.K k H a xs)(h2:SqK X.K k H a ys):xs=ys:=by
 cases k
 ·exact I.sv h1 h2
 ·exact I.TX h1 h2
def Sq{K:yw}{k:Kd}{a:yc}{i:Nat}:(JK K k a).go i H↔∃xs x,SqK K k H a xs/\xs[i]?=some x:=by
 cases k<;>exact Iff.rfl
def SB{K:yw}{k:Kd}{a:yc}{i:Nat}{x:V}{H':Hp}:(JK K k a).yld i H x H'↔H'=H/\∀xs,SqK K k H a xs->xs[i]?=some x:=by
 cases k<;>exact Iff.rfl
def sR{K:yw}{k:Kd}{a:yc}{i:Nat}:(JK K k a).stop i H↔∃xs,SqK K k H a xs/\xs.length<=i:=by
 cases k<;>exact Iff.rfl
def zmy{P:yu}{w:yI}{K:yw}{elts:List yD}{x1}{pos:xo}{k1 k2:Kd}{z t o i1 i2 a1 a2:yc}(d:Zp z t o i1 i2 a1 a2) :
 Turn P w K (.Tuple elts x1 pos) (Izp (JK K k1 a1) (JK K k2 a2)) [z,t,o,i1,i2] z (λi h=>Zs k1 k2 z t o i1 i2 a1 a2 .none i i h) where
 mem:=by simp
 obj:=λi h st b hb=>by
  obtain⟨hz,ht,⟨p,q,ho⟩,⟨u1,q1,_,d1⟩,⟨u2,q2,_,d2⟩⟩:=st;simp only[mem_cons,not_mem_nil,or_false]at hb;rcases hb with rfl|rfl|rfl|rfl|rfl
  ·exact⟨_,hz,λv e=>by have e':Data.fields _=Data.cell v:=e;cases e'⟩
  ·exact⟨_,ht,λv e=>by have e':Data.seq _ _=Data.cell v:=e;cases e'⟩
  ·exact⟨_,ho,λv e=>by have e':Data.seq _ _=Data.cell v:=e;cases e'⟩
  ·exact⟨u1,q1,λv e=>by rw[d1]at e;cases e⟩
  ·exact⟨u2,q2,λv e=>by rw[d2]at e;cases e⟩
 keep:=λi h h' st k=>by
  obtain⟨hz,ht,⟨p,q,ho⟩,h1,h2⟩:=st;exact⟨k z (by simp) _ hz,k t (by simp) _ ht,⟨p,q,k o (by simp) _ ho⟩,h1.at λu e=>k i1 (by simp) u e,h2.at λu e=>k i2 (by simp) u e⟩
 item:=by
  intro X hP hw hK hc i U s Y H E I hf st hg;subst hP hw hK;obtain⟨g1,g2⟩:=hg;obtain⟨xs,x,hq1,hx⟩:=Sq.mp g1;obtain⟨ys,y,hq2,hy⟩:=Sq.mp g2;obtain⟨its1,rv1,p1⟩:=zJo I hq1;obtain⟨its2,rv2,p2⟩:=zJo I hq2;obtain⟨u1,hu1,ru1⟩:=rv1.get hx;obtain⟨u2,hu2,ru2⟩:=rv2.get hy;refine zSz d st p1 p2 (x:=u1) (y:=u2) (by simpa using hu1) (by simpa using hu2) λh' st' t' kk=>?_;obtain⟨hz',ht',⟨p,q,ho'⟩,h1',h2'⟩:=st';refine⟨_,rfl,wpAny_letOwnedTupleGo_zip hz' λh2 z2 sb2=>?_⟩;replace sb2:yL z h' h2:=sb2;have nd:=d.nd;simp only[nodup_cons,mem_cons,not_mem_nil,or_false,not_or,not_false_eq_true,nodup_nil,and_true]at nd;obtain⟨⟨dzt,dzo,dz1,dz2⟩,_⟩:=nd;have hlt:z<s.heap.objs.size:=yo st.hz;have t2:=(sb2.2 s.heap.objs.size (Yk hlt)).trans t';have hfr:=I.hok.fresh (yk s.heap.objs.size)
  have I2:Inv X U Y (upd H s.heap.objs.size (.tup [x,y])) {s with heap:=h2,toks:=s.toks }:=by
   refine zue I hf (λb u hb e=>?_) (yk _) (z9s t2 ru1 ru2);exact(sb2.2 b λe=>hb (by simp[e])).trans (kk b u hb e)
  refine⟨.ref s.heap.objs.size,_,I2,rfl,⟨_,x,y,rfl,hfr,rfl,SB.mpr ⟨rfl,λzs hz=>by rw[zzw I hz hq1];exact hx⟩,SB.mpr ⟨rfl,λzs hz=>by rw[zzw I hz hq2];exact hy⟩⟩,
   ⟨z2,(sb2.2 t (yM dzt)).trans ht',⟨p,q,(sb2.2 o (yM dzo)).trans ho'⟩,h1'.at λu e=>(sb2.2 i1 (yM dz1)).trans e,h2'.at λu e=>(sb2.2 i2 (yM dz2)).trans e⟩,λb hb=>?_⟩
  rw[zab]
  ·exact(hf b hb).1
  ·rintro rfl;have fr:∀{c:yc} {u:YS},s.heap.get? c=some u->s.heap.objs.size≠c:=λe=>Yk (yo e);obtain⟨hz,ht,⟨p,q,ho⟩,⟨u1,q1,_⟩,⟨u2,q2,_⟩⟩:=st;simp only[mem_cons,not_mem_nil,or_false]at hb;rcases hb with e|e|e|e|e
   ·exact fr hz e
   ·exact fr ht e
   ·exact fr ho e
   ·exact fr q1 e
   ·exact fr q2 e
 done:=by
  intro X hP hw hK hc i U s Y H E I hf st hg;subst hP hw hK
  have fin:∀{xs ys:List V},SqK X.K k1 H a1 xs->SqK X.K k2 H a2 ys->(xs.length<=i\/ys.length<=i)->yq (yC X.prog X.w) X.A (xP (.ref z)) (λr s1=>r=none/\Inv X U Y H s1) E s:=λ{xs ys} hq1 hq2 hl=>by
   obtain⟨its1,rv1,p1⟩:=zJo I hq1;obtain⟨its2,rv2,p2⟩:=zJo I hq2;have e1:=rv1.length;have e2:=rv2.length;refine z0B (I.ok.hd hc) d st p1 p2 ?_ λh' kk=>⟨rfl,zSk (t':=s.toks) I hf λb u hb e=>kk b u hb e⟩
   rcases hl with hl|hl
   ·exact .inl (by simp;omega)
   ·exact .inr (by simp;omega)
  rcases hg with ⟨g1,g2⟩|⟨g1,g2⟩
  ·obtain⟨xs,hq1,hl⟩:=sR.mp g1;rcases g2 with g2|g2
   ·obtain⟨ys,y,hq2,_⟩:=Sq.mp g2;exact fin hq1 hq2 (.inl hl)
   ·obtain⟨ys,hq2,_⟩:=sR.mp g2;exact fin hq1 hq2 (.inl hl)
  ·obtain⟨xs,x,hq1,_⟩:=Sq.mp g1;obtain⟨ys,hq2,hl⟩:=sR.mp g2;exact fin hq1 hq2 (.inr hl)
 self:=λ_ _ _ _ _ st h=>wpAny_pyIter_zip st.hz h
def iZp(K:yw)(ta:TA):TI:=λY H R=>ta Y H λvs H1=>∃a1 a2 k1 k2 xs ys,vs=[.ref a1,.ref a2]/\SqK K k1 H1 a1 xs/\SqK K k2 H1 a2 ys/\R (Izp (JK K k1 a1) (JK K k2 a2)) H1
def Tp.lt{k:Kd}{h:yS}{a:yc}{xs:Array yb}(q:Tp k h a xs):a<h.objs.size:=by
 cases k<;>(obtain⟨o,e,_⟩:=q;exact yo e)
def zMC{a b:yD}{ta:TA}{elts:List yD}{x1}{tp p pos:xo}(hg:Gl X "zip")(hm:X.mg "zip"=none)(hv:yH "zip"=some (.type "zip"))(ha:PA X [a,b] ta)(hs:yj [a,b] X.env=[(false,Yb a X.env),(false,Yb b X.env)]:=by rfl)(hs2:yj [b] X.env=[(false,Yb b X.env)]:=by rfl) :
 PI X (.Tuple elts x1 tp) (.Call (.Name "zip" p) [a,b] [] pos) (iZp X.K ta):=by
 intro U s Y H R I h;refine Call_ (zvl I hg hm hv (YD (thn (ha pos U s Y H _ I h) λus s1 ⟨vs,H1,I1,r1,q1⟩=>?_) (by rw[hs,hs2]) (by rw[hs2];rfl)));obtain⟨a1,a2,k1,k2,xs,ys,e,hq1,hq2,q⟩:=q1;subst e
 cases r1 with
 |cons r rr=>
  cases rr with
  |cons r' rr=>
   cases rr;cases r;cases r';obtain⟨its1,rv1,p1⟩:=zJo I1 hq1;obtain⟨its2,rv2,p2⟩:=zJo I1 hq2;have l1:=p1.lt;have l2:=p2.lt;refine zDx p1 p2 λh' st kp=>?_;refine wpAny_pyIter_zip (s:={s1 with heap:=h' }) st.hz ?_;have fp:∀b,s1.heap.objs.size<=b->zSs X U H1 b:=λb hb=>I1.sO hb (I1.hok.fresh hb);generalize s1.heap.objs.size=n at l1 l2 st fp;refine⟨_,[n+4,n+2,n+3,n,n+1],_,_,H1,rfl,I1.kept (t':=s1.toks) kp,zmy ⟨?_,?_,?_⟩,st,λb hb=>?_,q⟩
   ·simp
   ·simp only[mem_cons,not_mem_nil,or_false,not_or];exact⟨yz (xg 4 l1),yz (xg 2 l1),yz (xg 3 l1),yz l1,yz (xg 1 l1)⟩
   ·simp only[mem_cons,not_mem_nil,or_false,not_or];exact⟨yz (xg 4 l2),yz (xg 2 l2),yz (xg 3 l2),yz l2,yz (xg 1 l2)⟩
   ·simp only[mem_cons,not_mem_nil,or_false]at hb;rcases hb with rfl|rfl|rfl|rfl|rfl
    ·exact fp _ (Nat.le_add_right _ _)
    ·exact fp _ (Nat.le_add_right _ _)
    ·exact fp _ (Nat.le_add_right _ _)
    ·exact fp _ (yk _)
    ·exact fp _ (Nat.le_add_right _ _)
@[simp] def zeA(O:Mem):D->Option (List D×(Mem->Bool))
 |.tup ds=>some (ds,yes)
 |.fz ds=>some (ds,yes)
 |.loc n=>match O[n]? with
  |some (.lst ds)=>some (ds,z9n n ds)
  |_=>none
 |_=>none
def zAA{K:yw}{Z:List yc}{H:Hp}{O:Mem}{d:D}{v:V}{ds:List D}{ok:Mem->Bool}(R:tG K Z H O)(r:tx K Z H d v)(e:zeA O d=some (ds,ok)):∃a k xs,v=.ref a/\SqK K k H a xs/\sx K (JK K k a) Z H ds ok:=by
 unfold zeA at e
 split at e
 ·cases e;obtain⟨a,vs,rfl,e2,q2⟩:=r.tN;exact⟨a,.t,vs,rfl,SqT.of e2,zIw e2 q2⟩
 ·cases e;obtain⟨a,vs,rfl,e2,q2⟩:=r.TZ;exact⟨a,.l,vs,rfl,e2.sq,zMo λZ' H' O' x _ _=>⟨vs,(x.fz e2).sq,q2.ext x⟩⟩
 ·split at e
  ·rename_i hm
   cases e;obtain⟨a,rfl,e2⟩:=r.tz;obtain⟨vs,e3,q3⟩:=R.at_ _ _ _ e2 hm;refine⟨a,.l,vs,rfl,SqL.of e3,zMo λZ' H' O'' x R' o=>?_⟩;obtain⟨vs',e4,q4⟩:=R'.at_ _ _ _ (x.get e2) (TH.mp o);exact⟨vs',SqL.of e4,q4⟩
  ·cases e
 ·cases e
def zIy(xs ys:List D):List D:=List.zipWith (λx y=>D.tup [x,y]) xs ys
def zuB{xs ys:List D}{i:Nat}{d:D}(h:(zIy xs ys)[i]?=some d):∃x y,xs[i]?=some x/\ys[i]?=some y/\d=.tup [x,y]:=by
 unfold zIy at h;rw[List.getElem?_zipWith]at h
 cases e1:xs[i]? with
 |none=>rw[e1]at h;cases h
 |some x=>
  cases e2:ys[i]? with
  |none=>rw[e1,e2]at h;cases h
  |some y=>
   rw[e1,e2]at h;exact⟨x,y,rfl,rfl,(yW h).symm⟩
def ziD{K:yw}{δ1 δ2:It}{Z:List yc}{H:Hp}{xs ys:List D}{ok1 ok2:Mem->Bool}(h1:sx K δ1 Z H xs ok1)(h2:sx K δ2 Z H ys ok2):sx K (Izp δ1 δ2) Z H (zIy xs ys) (λm=>ok1 m&&ok2 m):=by
 have hl:(zIy xs ys).length=min xs.length ys.length:=by simp[zIy]
 refine⟨λZ' H' O' i x R o hi=>?_,λZ' H' O' i x H'' d x' R o e ⟨p,y1,y2,e1,hp,e2,yl1,yl2⟩=>?_,λZ' H' O' x R o=>?_⟩
 ·have o':=Bool.and_eq_true_iff.mp o;rw[hl]at hi;exact⟨h1.go Z' H' O' i x R o'.1 (by omega),h2.go Z' H' O' i x R o'.2 (by omega)⟩
 ·have o':=Bool.and_eq_true_iff.mp o;obtain⟨z1,z2,ez1,ez2,rfl⟩:=zuB e;obtain⟨_,_,rz1⟩:=h1.yld Z' H' O' i y1 H' z1 x' R o'.1 ez1 yl1;obtain⟨_,_,rz2⟩:=h2.yld Z' H' O' i y2 H' z2 x' R o'.2 ez2 yl2;subst e1 e2;exact⟨Ext.new hp,R.Tj hp,.tup zM (.cons (rz1.ext (Ext.new hp)) (.cons (rz2.ext (Ext.new hp)) .nil))⟩
 ·have o':=Bool.and_eq_true_iff.mp o;rw[hl];rcases Nat.lt_trichotomy xs.length ys.length with h|h|h
  ·rw[Nat.min_eq_left (YU h)];exact .inl ⟨h1.stop Z' H' O' x R o'.1,.inl (h2.go Z' H' O' _ x R o'.2 h)⟩
  ·rw[Nat.min_eq_left (Nat.le_of_eq h)];refine .inl ⟨h1.stop Z' H' O' x R o'.1,.inr ?_⟩;rw[h];exact h2.stop Z' H' O' x R o'.2
  ·rw[Nat.min_eq_right (YU h)];exact .inr ⟨h1.go Z' H' O' _ x R o'.1 h,h2.stop Z' H' O' x R o'.2⟩
@[simp] def zhE(G:FA):FI:=λJ O=>(G J O).bind λp=>match p.1 with
 |[x,y]=>(zeA p.2 x).bind λu=>(zeA p.2 y).bind λv=>some (zIy u.1 v.1,(λm=>u.2 m&&v.2 m),p.2)
 |_=>none
def zWC{a b:yD}{G:FA}{elts:List yD}{x1}{tp p pos:xo}(hm:X.mg "zip"=none)(hv:yH "zip"=some (.type "zip"))(ha:MAn X [a,b] G)(hg:Gl X "zip":=by rfl)(hs:yj [a,b] X.env=[(false,Yb a X.env),(false,Yb b X.env)]:=by rfl)(hs2:yj [b] X.env=[(false,Yb b X.env)]:=by rfl) :
 MI X (.Tuple elts x1 tp) (.Call (.Name "zip" p) [a,b] [] pos) (zhE G) :=
 z8s (zMC hg hm hv ha.ma hs hs2) λZ J O Y H ds ok O' R A e k=>by
  obtain⟨⟨x,O1⟩,e1,e⟩:=zm e;refine⟨Z,J,O,x,O1,A,e1,λZ1 H1 v1 x1 R1 r1=>?_⟩;dsimp only at e
  split at e
  ·obtain⟨⟨us,o1⟩,e2,e⟩:=zm e;obtain⟨⟨vs,o2⟩,e3,e⟩:=zm e;cases e;obtain⟨v,r,rfl,q1,q2⟩:=r1.cons_inv;obtain⟨v',r',rfl,q3,q4⟩:=q2.cons_inv;obtain⟨a1,k1,xs,rfl,s1,t1⟩:=zAA R1 q1 e2;obtain⟨a2,k2,ys,rfl,s2,t2⟩:=zAA R1 q3 e3;rw[q4.nil_inv];exact⟨a1,a2,k1,k2,xs,ys,rfl,s1,s2,k Z1 H1 _ x1 R1 (ziD t1 t2)⟩
  ·cases e
variable {a b c e:yD}{G ψ χ:FE}{pos:xo}
def zwD:φ2:=λx y O=>match x,y with
 |.loc n,.int i=>match O[n]? with
  |some (.lst ds)=>bif decide (0<=i) then(atI ds i).bind λd=>some (d,O) else none
  |_=>none
 |_,_=>none
def z7v:zKF X (rM X.K zwD):=by
 refine OpM.of λU s Y H x y v u Q I rx ry Z dx dy O d O' r1 r2 R e k=>?_;unfold zwD at e
 split at e
 ·split at e
  ·rename_i hm
   obtain⟨h0,e⟩:=zP e;obtain⟨d',e2,e⟩:=zm e;cases e;obtain⟨a,rfl,ea⟩:=r1.tz;obtain⟨vs,e3,rr⟩:=R.at_ _ _ _ ea hm;obtain⟨w,e4,q⟩:=zLx rr e2;rw[r2.int_inv]at ry;cases rx;obtain⟨t,rfl⟩:=ry;obtain⟨its,r,pl,hz⟩:=I.list (SqL.of (K:=X.K) e3);obtain⟨j,h1,h2,h3,h4,h5⟩:=zOp e4;obtain⟨u',ew,rw'⟩:=r.get h2;have hn:=TM;have h0:=of_decide_eq_true h0;rw[seqIndex_of h0 h5]at h1;have hj:=yW h1;exact wpAny_getItem_list pl.isList h0 (by omega) (by rw[hj];simpa using ew) ⟨w,H,I,rw',k Z H w Ext.refl R q⟩
  ·cases e
 ·cases e
@[simp] def zEu(g:φ2)(G ψ χ:FE):FS:=λJ O=>(G J O).bind λp=>(ψ J p.2).bind λq=>(zwD p.1 q.1 q.2).bind λr=>(χ J r.2).bind λt=>(g r.1 t.1 t.2).bind λu=>match p.1,q.1 with
 |.loc n,.int i=>match u.2[n]? with
  |some (.lst ds)=>(ixN ds.length i).bind λj=>some (.next J (u.2.set n (.lst (ds.set j u.1))))
  |_=>none
 |_,_=>none
def zfy{o i:yD}{op:Operator}{g:φ2}{tpos:xo}(hop:OpM X (inplaceOp op) g)(ho:ME X o G)(hi:ME X i ψ)(he:ME X e χ)
 (ha:∀ov iv new,augStore i ov iv new=(do xD [new,ov,iv] (setItem ov iv new);release [new,ov,iv] [];pure .next):=by intros;rfl):MS X (.AugAssign (.Subscript o i tpos) op e pos) (zEu g G ψ χ) :=
 zOl (z7B (tip:=rM X.K g) ho hi z7v he (λU s Y H x y v u Q I rx ry q=>hop U s Y H x y v u Q I rx ry q) zzu ha) λZ J O Y H o E A e k=>by
  obtain⟨⟨x,O1⟩,e1,e⟩:=zm e;obtain⟨⟨y,O2⟩,e2,e⟩:=zm e;obtain⟨⟨z,O3⟩,e3,e⟩:=zm e;obtain⟨⟨t,O4⟩,e4,e⟩:=zm e;obtain⟨⟨u,O5⟩,e5,e⟩:=zm e;refine⟨Z,J,O,x,O1,A,e1,λZ1 H1 v1 x1 R1 r1=>?_⟩;refine⟨Z1,J,O1,y,O2,A.ext x1 R1,e2,λZ2 H2 v2 x2 R2 r2=>?_⟩;refine⟨Z2,x,y,O2,z,O3,r1.ext x2,r2,R2,e3,λZ3 H3 v3 x3 R3 r3=>?_⟩;have A3:=A.ext (x1.trans (x2.trans x3)) R3;refine⟨Z3,J,O3,t,O4,A3,e4,λZ4 H4 v4 x4 R4 r4=>?_⟩;refine⟨Z4,z,t,O4,u,O5,r3.ext x4,r4,R4,e5,λZ5 H5 v5 x5 R5 r5=>?_⟩;dsimp only at e
  split at e
  ·split at e
   ·rename_i hm
    obtain⟨j,e6,e⟩:=zm e;cases e;have x25:=x2.trans (x3.trans (x4.trans x5));obtain⟨ad,rfl,hr⟩:=(r1.ext x25).tz;obtain⟨vs,hv,q3⟩:=R5.at_ _ _ _ hr hm;have hmu:Mut (H5 ad):=by rw[hv];trivial
    refine⟨ad,vs,_,j,rfl,r2.int_inv,hv,by rw[<-q3.length];exact e6,?_⟩;have R6:=R5.wr (o:=.lst (vs.set j v5)) (lo:=.lst _) hmu hr ⟨_,zM,tj.ext (Ext.wr hmu) (q3.set j r5)⟩;exact k Z5 Y _ (x1.trans (x25.trans (Ext.wr hmu))) (A.ext (x1.trans (x25.trans (Ext.wr hmu))) R6)
   ·cases e
  ·cases e
variable {te:TE}{stp:yD}{ts:TO}{p2:xo}
variable {es:List yD}
end
end M
namespace M
open PySem PyProof.Rows
section
variable {prog:yu}{w:yI}{A:yJ}{E:yb->yd->Prop}{s:yd}
end
end M
namespace M
open PySem PySem.Spec PyProof.Rows L2
section
variable {X:Cx}{U:List (yc×YS)}{Y:L2.St}{H:Hp}{s s':yd}
variable {a b c e:yD}{es:List yD}{G ψ χ:FE}{pos pos2 p1 p2:xo}
variable {prog:yu}{w:yI}{A:yJ}{E:yb->yd->Prop}{T:String}{r d:yc}{n:Nat}{P:Nat->yb->Prop}{OK:yS->Prop}
end
def z1r(K:yw)(c f:yn):Prop:=∀C,Yj K yi c=some (some (.ref C))->Cls K C/\TN K C f
def zJt{K:yw}{Z:List yc}{H:Hp}{f:yn}{d:D}:∀{fs:List (yn×D)} {vs:List (yn×V)},vs.map (·.1)=fs.map (·.1)->tj K Z H (fs.map (·.2)) (vs.map (·.2))->fs.lookup f=some d->∃v,vs.lookup f=some v/\tx K Z H d v
 |[],_,_,_,e=>by cases e
 |(g,x)::fs,[],h,_,_=>by cases h
 |(g,x)::fs,(g',y)::vs,h,r,e=>by
  obtain⟨h1,h2⟩:=yh h;have h1:g'=g:=h1;subst h1;obtain⟨v,q,e1,r1,r2⟩:=r.cons_inv;obtain⟨e2,e3⟩:=yh e1;subst e2 e3;rw[lookup_cons]at e ⊢
  cases hb:f==g' with
  |true=>rw[hb]at e;cases e;exact⟨_,rfl,r1⟩
  |false=>rw[hb]at e;exact zJt h2 r2 e
def ztu{f:yn}:∀{fs:List (yn×D)} {vs:List (yn×V)},vs.map (·.1)=fs.map (·.1)->fs.lookup f=none->vs.lookup f=none
 |[],[],_,_=>rfl
 |[],_::_,h,_=>by cases h
 |_::_,[],h,_=>by cases h
 |(g,x)::fs,(g',y)::vs,h,e=>by
  obtain⟨h1,h2⟩:=yh h;have h1:g'=g:=h1;subst h1;rw[lookup_cons]at e ⊢
  cases hb:f==g' with
  |true=>rw[hb]at e;cases e
  |false=>rw[hb]at e;exact ztu h2 e
def zLm(f:yn)(d:D):List (yn×D)->List (yn×D)
 |[]=>[(f,d)]
 |(g,x)::r=>if g=f then(g,d)::r else(g,x)::zLm f d r
def z6w{K:yw}{Z:List yc}{H:Hp}{f:yn}{d:D}{v:V}(rd:tx K Z H d v):∀{fs:List (yn×D)} {vs:List (yn×V)},vs.map (·.1)=fs.map (·.1)->tj K Z H (fs.map (·.2)) (vs.map (·.2)) ->
 (z8n f v vs).map (·.1)=(zLm f d fs).map (·.1)/\tj K Z H ((zLm f d fs).map (·.2)) ((z8n f v vs).map (·.2))
 |[],[],_,_=>⟨rfl,.cons rd .nil⟩
 |[],_::_,h,_=>by cases h
 |_::_,[],h,_=>by cases h
 |(g,x)::fs,(g',y)::vs,h,r=>by
  obtain⟨h1,h2⟩:=yh h;have h1:g'=g:=h1;subst h1;obtain⟨v',q,e1,r1,r2⟩:=r.cons_inv;obtain⟨e2,e3⟩:=yh e1;subst e2 e3;unfold z8n zLm
  by_cases hg:g'=f
  ·rw[if_pos hg,if_pos hg];exact⟨h,.cons rd r2⟩
  ·rw[if_neg hg,if_neg hg];obtain⟨k1,k2⟩:=z6w rd h2 r2;exact⟨by show g'::_=g'::_;rw[k1],.cons r1 k2⟩
section
variable {X:Cx}{a o e:yD}{es:List yD}{G:FE}{ψ:FA}{pos apos:xo}{c f m:yn}
@[simp] def zmC(c f:yn)(G:FE):FE:=λJ O=>(G J O).bind λp=>match p.1 with
 |.loc n=>match p.2[n]? with
  |some (.ins c' fs)=>bif c'==c then(fs.lookup f).bind λd=>some (d,p.2) else none
  |_=>none
 |_=>none
def zdA(T:z1r X.K c f)(h:ME X a G)(hb:YB a f X.env (Yb a X.env)=Yb a X.env:=by rfl):ME X (.Attribute a f pos) (zmC c f G) :=
 zFe (zBC h hb) λZ J O Y H d O' Q A e k=>by
  obtain⟨⟨x,O1⟩,e1,e⟩:=zm e;refine⟨Z,J,O,x,O1,A,e1,λZ1 H1 v x1 R1 r1=>?_⟩;dsimp only at e
  split at e
  ·split at e
   ·rename_i hm
    obtain⟨hc,e3⟩:=zP e;clear e;have hc:=eq_of_beq hc;subst hc;obtain⟨d',e2,e4⟩:=zm e3;cases e4;obtain⟨a,rfl,ea⟩:=r1.tz;obtain⟨C,dx,vs,hn,hH,hk,hv⟩:=R1.at_ _ _ _ ea hm;obtain⟨cl,na⟩:=T C hn;obtain⟨v,hl,rv⟩:=zJt hk hv e2;exact⟨a,C,dx,vs,v,rfl,hH,cl,na,hl,k Z1 H1 v x1 R1 rv⟩
   ·cases e
  ·cases e
@[simp] def zdv(c f:yn)(G ψ:FE):FS:=λJ O=>(ψ J O).bind λy=>(G J y.2).bind λp=>match p.1 with
 |.loc n=>match p.2[n]? with
  |some (.ins c' fs)=>bif (c'==c)&&decide (fs.length<1000) then some (.next J (p.2.set n (.ins c (zLm f y.1 fs)))) else none
  |_=>none
 |_=>none
def zSw{value:yD}{χ:FE}{pos':xo}(T:z1r X.K c f)(ha:ME X o G)(hv:ME X value χ)(hs:swapsWith value (some (.Attribute o f pos')) pos.line X.env=pure false:=by rfl):MS X (.Assign [.Attribute o f pos'] value pos) (zdv c f G χ) :=
 zOl (zrD ha hv hs) λZ J O Y H o E A e k=>by
  obtain⟨⟨y,O1⟩,e1,e⟩:=zm e;refine⟨Z,J,O,y,O1,A,e1,λZ1 H1 vy x1 R1 r1=>?_⟩;obtain⟨⟨x,O2⟩,e2,e⟩:=zm e;refine⟨Z1,J,O1,x,O2,A.ext x1 R1,e2,λZ2 H2 v x2 R2 r2=>?_⟩;dsimp only at e
  split at e
  ·split at e
   ·rename_i n c' fs hm
    obtain⟨hc,e3⟩:=zP e;clear e;rw[yK]at hc;have hl:=of_decide_eq_true hc.2;have hc:=eq_of_beq hc.1;subst hc;cases e3;obtain⟨a,rfl,ea⟩:=r2.tz;obtain⟨C,dx,vs,hn,hH,hk,hvs⟩:=R2.at_ _ _ _ ea hm;obtain⟨cl,na⟩:=T C hn
    have hlen:vs.length<1000:=by
     have:=congrArg Xq hk;rw[length_map,length_map]at this;omega
    refine⟨a,C,dx,vs,rfl,hH,cl,na,hlen,?_⟩;have hmu:Mut (H2 a):=by rw[hH];trivial
    obtain⟨k1,k2⟩:=z6w (f:=f) (r1.ext (x2.trans (Ext.wr (o:=.ins C dx (z8n f vy vs)) hmu))) hk (hvs.ext (Ext.wr (o:=.ins C dx (z8n f vy vs)) hmu));have R3:=R2.wr (lo:=.ins c' (zLm f y fs)) hmu ea ⟨C,dx,z8n f vy vs,hn,zM,k1,k2⟩;exact k Z2 Y _ (x1.trans (x2.trans (Ext.wr hmu))) ((A.ext x1 R1).ext (x2.trans (Ext.wr hmu)) R3)
   ·cases e
  ·cases e
@[simp] def zKl(c m:yn)(G:FE)(ψ:FA):FA:=λJ O=>(G J O).bind λp=>match p.1 with
 |.loc n=>match p.2[n]? with
  |some (.ins c' fs)=>bif (c'==c)&&(fs.lookup m).isNone then(ψ J p.2).bind λq=>some (.loc n::q.1,q.2) else none
  |_=>none
 |_=>none
def zQt{J:Loc}{O O':Mem}{ds:List D}(h:zKl c m G ψ J O=some (ds,O')):∃n fs O1 as,G J O=some (.loc n,O1)/\O1[n]?=some (.ins c fs)/\fs.lookup m=none/\ψ J O1=some (as,O')/\ds=.loc n::as:=by
 obtain⟨⟨x,O1⟩,e1,h⟩:=zm h;dsimp only at h
 split at h
 ·split at h
  ·rename_i n c' fs hm
   obtain⟨hc,h3⟩:=zP h;clear h;rw[yK]at hc;have h1:=eq_of_beq hc.1;have h2:=Option.isNone_iff_eq_none.mp hc.2;subst h1;obtain⟨⟨as,O2⟩,e2,h4⟩:=zm h3;cases h4;exact⟨_,fs,O1,as,e1,hm,h2,e2,rfl⟩
  ·cases h
 ·cases h
structure MethAt(K:yw)(c m qual:yn)(st:yR)(ps:List yn)(C f:yc)(fd:yf):Prop where
 nm:Yj K yi c=some (some (.ref C))
 cl:Cls K C
 me:Meth K C m f
 fn:Fun K m qual st f fd
 bd:Binds K fd ps []
variable {C g:yc}{fd:yf}{ps:List yn}{qual:yn}{st:yR}{CX:CXT}{sp:Sp}{E:XK}{j k n:Nat}{F:FF}{FXm:FX}
def zXz{t:TA}{Z:List yc}{J:Loc}{O:Mem}{Y:L2.St}{H:Hp}{Q:VK}{ds:List D}{O1:Mem}(B:MethAt X.K c m qual st ps C g fd)(A:At X.K Z H Y J O)(e1:zKl c m G ψ J O=some (ds,O1))(ht:∀Y H R,tMA X.K ψ Y H R->t Y H R)
 (kk:∀Z' H' vs,Ext Z H Z' H'->tG X.K Z' H' O1->tj X.K Z' H' ds vs->sp (vs++[]) H' Q E):zZB C m sp [] E (tM X.K G) t Y H Q:=by
 obtain⟨n,fs,μo,as,ea,hm,hlk,eψ,rfl⟩:=zQt e1;refine⟨Z,J,O,.loc n,μo,A,ea,λZ1 H1 v x1 R1 r1=>?_⟩;obtain⟨a,rfl,ea'⟩:=r1.tz;obtain⟨C',dx,vs,hn',hH,hk,hv⟩:=R1.at_ _ _ _ ea' hm;have hC:=B.nm;rw[hn']at hC;cases hC;refine⟨a,dx,vs,rfl,hH,ztu hk hlk,ht _ _ _ ⟨Z1,J,μo,as,O1,A.ext x1 R1,eψ,λZ2 H2 vs2 x2 R2 r2=>?_⟩⟩;exact kk Z2 H2 (.ref a::vs2) (x1.trans x2) R2 (.cons (r1.ext x2) r2)
def zlC{pl:Sem Bool}(B:MethAt X.K c m qual st ps C g fd)(φ:tm X.prog X.w X.K X.mg X.base CX j g fd ps sp)(hr:tW k X.A)(hx:zmk CX X E)(ho:ME X o G)(ha:MAn X (e::es) ψ)(hj:j<=k)
 (hst:yj (e::es) X.env=(false,Yb e X.env)::yj es X.env:=by exact zjf rfl) (hpl:(Yq pos (yj es X.env)).any (·.1)=false:=by rfl)
 (ht:Yb (.Call (.Attribute o m apos) (e::es) [] pos) X.env=(do
  let ov <-Yb o X.env
  standAt apos.atName
  let (f,first) <-xD [ov] (getMethod ov m pl)
  callWith pos f first (Yq pos (yj (e::es) X.env)) (xy pos (YG [] X.env))):=by rfl) :
 PE X (.Call (.Attribute o m apos) (e::es) [] pos) (zLy sp [] E (tMA X.K (zKl c m G ψ))):=by
 intro U s Y H Q I h;obtain⟨Z,J,O,ds,O1,A,e1,kk⟩:=h;exact zRB ho B.cl B.me φ (hr.mono hj) B.bd .nil hx ha.ma hst hpl ht U s Y H Q I (zXz B A e1 (λ_ _ _ h=>h) kk)
def zHz{pl:Sem Bool}(B:MethAt X.K c m qual st ps C g fd)(φ:tm X.prog X.w X.K X.mg X.base CX j g fd ps sp)(hr:tW k X.A)(hx:zmk CX X E)(ho:ME X o G)(hj:j<=k)
 (ht:Yb (.Call (.Attribute o m apos) [] [] pos) X.env=(do
  let ov <-Yb o X.env
  standAt apos.atName
  let (f,first) <-xD [ov] (getMethod ov m pl)
  callWith pos f first (Yq pos (yj [] X.env)) (xy pos (YG [] X.env))):=by rfl) :
 PE X (.Call (.Attribute o m apos) [] [] pos) (zLy sp [] E (tMA X.K (zKl c m G zA))):=by
 intro U s Y H Q I h;obtain⟨Z,J,O,ds,O1,A,e1,kk⟩:=h
 exact zBy ho B.cl B.me φ (hr.mono hj) B.bd .nil hx ht U s Y H Q I (zXz B A e1 (λY H R h=>by
  obtain⟨Z,J,O,ds,O',A,e,k⟩:=h;cases e;exact k Z H [] Ext.refl A.hp .nil) kk)
def zMt{J:Loc}{O O':Mem}{ds:List D}(ha:∀J O ds O',ψ J O=some (ds,O')->ds.length+1=n)(h:zKl c m G ψ J O=some (ds,O')):ds.length=n:=by
 obtain⟨_,_,_,as,_,_,_,e,rfl⟩:=zQt h;exact ha _ _ _ _ e
def zoA(h:PE X a (zLy (spM X.K n F) [] E0 (tMA X.K ψ)))(hl:∀J O ds O',ψ J O=some (ds,O')->ds.length=n):ME X a (zx F ψ) :=
 zFe h λZ J O Y H d O' Q A eo kk=>by
  obtain⟨⟨ds,O1⟩,e1,eo⟩:=zm eo;refine⟨Z,J,O,ds,O1,A,e1,λZ1 H1 vs x1 R1 r1=>?_⟩;show spM X.K n F (vs++[]) H1 Q E0;rw[append_nil];exact⟨by rw[<-r1.length];exact hl _ _ _ _ e1,Z1,ds,O1,d,O',r1,R1,eo,λZ2 H2 v x2 R2 r2=>kk Z2 H2 v (x1.trans x2) R2 r2⟩
abbrev zjA(X:Cx)(o:yD)(m:yn)(es:List yD)(apos pos:xo)(pl:Sem Bool):Prop:=Yb (.Call (.Attribute o m apos) es [] pos) X.env=(do
 let ov <-Yb o X.env
 standAt apos.atName
 let (f,first) <-xD [ov] (getMethod ov m pl)
 callWith pos f first (Yq pos (yj es X.env)) (xy pos (YG [] X.env)))
def mmeth{pl:Sem Bool}(B:MethAt X.K c m qual st ps C g fd)(φ:tm X.prog X.w X.K X.mg X.base CX0 j g fd ps (spM X.K n F))(hr:tW k X.A)(ho:ME X o G)(ha:MAn X (e::es) ψ)(hj:j<=k:=by decide)(hn:(e::es).length+1=n:=by rfl)
 (hst:yj (e::es) X.env=(false,Yb e X.env)::yj es X.env:=by exact zjf rfl) (hpl:(Yq pos (yj es X.env)).any (·.1)=false:=by rfl) (ht:zjA X o m (e::es) apos pos pl:=by rfl) :
 ME X (.Call (.Attribute o m apos) (e::es) [] pos) (zx F (zKl c m G ψ)) :=
 zoA (zlC B φ hr sZ ho ha hj hst hpl ht) λ_ _ _ _ h=>zMt (λ_ _ _ _ h=>by rw[ha.len _ _ _ _ h];exact hn) h
def mmeth0{pl:Sem Bool}(B:MethAt X.K c m qual st ps C g fd)(φ:tm X.prog X.w X.K X.mg X.base CX0 j g fd ps (spM X.K 1 F))(hr:tW k X.A)(ho:ME X o G)(hj:j<=k:=by decide)(ht:zjA X o m [] apos pos pl:=by rfl) :
 ME X (.Call (.Attribute o m apos) [] [] pos) (zx F (zKl c m G zA)) :=
 zoA (zHz B φ hr sZ ho hj ht) λ_ _ _ _ h=>zMt (λ_ _ _ _ h=>by cases h;rfl) h
@[simp] def z3u(c:yn)(F:FF)(ψ:FA):FE:=λJ O=>(ψ J O).bind λq=>(F (.loc q.2.length::q.1) (q.2++[.ins c []])).bind λr=>match r.1 with
 |.non=>some (.loc q.2.length,r.2)
 |_=>none
def mmake{p:xo}(mk:Mk X.K C g)(hc:Yj X.K yi c=some (some (.ref C)))(hm:X.mg c=some (.ref C))(bd:Binds X.K fd ps [])(φ:tm X.prog X.w X.K X.mg X.base CX0 j g fd ps (spM X.K n F))(hr:tW k X.A)(ha:MAn X (e::es) ψ)
 (hj:j+1<=k:=by decide) (hn:(e::es).length+1=n:=by rfl) (hg:Gl X c:=by rfl) (hdb:(c==("__debug__":yn))=false:=by decide) (he:yj (e::es) X.env=(false,Yb e X.env)::yj es X.env:=by exact zjf rfl) (hpl:(Yq pos (yj es X.env)).any (·.1)=false:=by rfl) :
 ME X (.Call (.Name c p) (e::es) [] pos) (z3u c F ψ) :=
 zFe (zWA mk φ (hr.mono hj) hg hm bd .nil sZ ha.ma hdb he hpl) λZ J O Y H d O' Q A eo kk=>by
  obtain⟨⟨ds,O1⟩,e1,eo⟩:=zm eo;refine⟨Z,J,O,ds,O1,A,e1,λZ1 H1 vs x1 R1 r1 x dx nx ndx nex=>?_⟩;obtain⟨⟨r,O2⟩,e2,eo⟩:=zm eo;dsimp only at eo
  split at eo
  ·cases eo;have nx2:(upd H1 dx (.own x)) x=none:=by rw[zab (yM nex)];exact nx
   have R2:tG X.K Z1 (upd H1 dx (.own x)) O1:=R1.Tj ndx;have R3:=R2.push (lo:=.ins c []) nx2 ⟨C,dx,[],hc,zM,rfl,.nil⟩;have X3:=(Ext.new (Z:=Z1) (o:=.own x) ndx).trans (Ext.push (o:=.ins C dx []) nx2);rw[append_nil];refine⟨by rw[length_cons,<-r1.length,ha.len _ _ _ _ e1];exact hn,Z1++[x],.loc O1.length::ds,O1++[.ins c []],.non,_,.cons (.loc (zGc R2)) (r1.ext X3),R3,e2,λZ4 H4 v x4 R4 r4=>⟨r4.tF,kk Z4 H4 (.ref x) (x1.trans (X3.trans x4)) R4 (.loc (x4.get (zGc R2)))⟩⟩
  ·cases eo
def SD{x x0:yn}{p:xo}{f:yc}(hm:X.mg x=some (.ref f))(B:FnAt X.K X.mg x0 st ps f fd)(φ:tm X.prog X.w X.K X.mg X.base CX0 j f fd ps (spM X.K n F))(hr:tW k X.A)
 (ha:MAn X (e::es) ψ) (hj:j<=k:=by decide) (hn:(e::es).length=n:=by rfl) (hg:Gl X x:=by rfl) (hdb:(x==("__debug__":yn))=false:=by decide) (he:yj (e::es) X.env=(false,Yb e X.env)::yj es X.env:=by exact zjf rfl) (hpl:(Yq pos (yj es X.env)).any (·.1)=false:=by rfl) :
 ME X (.Call (.Name x p) (e::es) [] pos) (zx F ψ):=zgx φ (hr.mono hj) hm B.fn.kp B.bd ha hn hg hdb he hpl
end
structure TQ(K:yw)(mg:yn->Option yb)(c:yn)(st:yR)(ps:List yn)(C f:yc)(fd:yf):Prop where
 nm:Yj K yi c=some (some (.ref C))
 mgc:mg c=some (.ref C)
 mkc:Mk K C f
 fn:Fun K "__init__" (c ++ ".__init__") st f fd
 bd:Binds K fd ps []
section
variable {X:Cx}{e:yD}{es:List yD}{ψ:FA}{pos p:xo}{c:yn}{C g:yc}{fd:yf}{ps:List yn}{st:yR}{j k n:Nat}{F:FF}
def SE(B:TQ X.K X.mg c st ps C g fd)(φ:tm X.prog X.w X.K X.mg X.base CX0 j g fd ps (spM X.K n F))(hr:tW k X.A)(ha:MAn X (e::es) ψ)
 (hj:j+1<=k:=by decide) (hn:(e::es).length+1=n:=by rfl) (hg:Gl X c:=by rfl) (hdb:(c==("__debug__":yn))=false:=by decide) (he:yj (e::es) X.env=(false,Yb e X.env)::yj es X.env:=by exact zjf rfl) (hpl:(Yq pos (yj es X.env)).any (·.1)=false:=by rfl) :
 ME X (.Call (.Name c p) (e::es) [] pos) (z3u c F ψ):=mmake B.mkc B.nm B.mgc B.bd φ hr ha hj hn hg hdb he hpl
def FnAt.al{K:yw}{mg:yn->Option yb}{x y:yn}{f:yc}(B:FnAt K mg x st ps f fd)(h:mg y=mg x):mg y=some (.ref f):=h.trans B.at_
variable {prog:yu}{w:yI}{A:yJ}{R:Result->yd->Prop}{I:yc}{fp wr:List yc}{P:Nat->yb->Prop}{St:Nat->yS->Prop}
variable {E:yb->yd->Prop}{s:yd}
variable {P:yu}{K:yw}{mg:yn->Option yb}{base:yS}{x qual:yn}{f:yc}{N:List yn}
variable {G ψ:FE}
section
variable {K:yw}{Z:List yc}{H H':Hp}
end
variable {a b:yD}
@[simp] def zor:φ2:=λx y O=>match x,y with
 |.str a,.str b=>bif decide (a.length+b.length<=1000000) then some (.str (a++b),O) else none
 |_,_=>none
def zim:OpM X (xl .Add) zor:=by
 refine OpM.of λU s Y H x y v u Q I rx ry Z dx dy O d O' r1 r2 R e k=>?_;unfold zor at e
 split at e
 ·obtain⟨h0,e⟩:=zP e;have h0:=of_decide_eq_true h0;cases e;exact z0u U s Y H x y v u Q I rx ry ⟨_,_,r1.str_inv,r2.str_inv,yF h0 (by decide),k Z H _ Ext.refl R .str⟩
 ·cases e
@[simp] def zcr:GL:=λds O=>match ds with
 |[.str a]=>bif decide (a.length<=1000000) then some (.int a.length,O) else none
 |_=>none
def zDi:tS X (.builtin "len") zcr:=by
 refine tS.of λU s Y H xs us Q I r Z ds O d O' r1 R e k=>?_;unfold zcr at e
 split at e
 ·obtain⟨h1,e⟩:=zP e;have h1:=of_decide_eq_true h1;cases e;obtain⟨v,rr,rfl,q1,q2⟩:=r1.cons_inv;have q2:=q2.nil_inv;subst q2;exact zas U s Y H _ us Q I r ⟨_,by rw[q1.str_inv],yF h1 (by decide),k Z H _ Ext.refl R .int⟩
 ·cases e
@[simp] def zhn:φ2:=λx y O=>match x,y with
 |.str a,.str b=>some (.bl (xU b a 0 b.length 1).isEmpty,O)
 |_,_=>none
def zNo:OpM X (yV .NotIn) zhn:=by
 refine OpM.of λU s Y H x y v u Q I rx ry Z dx dy O d O' r1 r2 R e k=>?_;unfold zhn at e
 split at e
 ·cases e;exact zes U s Y H x y v u Q I rx ry ⟨_,_,r1.str_inv,r2.str_inv,by rw[Bool.not_not];exact k Z H _ Ext.refl R .bl⟩
 ·cases e
@[simp] def zBx:φ2:=λx y O=>match x,y with
 |.str z,.int i=>bif decide (z.length<=1000000) then(atI z.cps.toList i).bind λc=>some (.str ⟨#[c]⟩,O) else none
 |_,_=>none
def ixMS:IxR X (rM X.K zBx):=by
 intro value slice U s Y H x y v u Q I rx ry ⟨Z,dx,dy,O,d,O',r1,r2,R,e,k⟩ hs;unfold zBx at e
 split at e
 ·obtain⟨h0,e⟩:=zP e;have h0:=of_decide_eq_true h0;obtain⟨c,e1,e⟩:=zm e;cases e;exact zuA value slice U s Y H _ y v u Q I rx ry ⟨_,_,c,r1.str_inv,r2.int_inv,yF h0 (by decide),e1,k Z H _ Ext.refl R .str⟩ hs
 ·cases e
def zto(ha:ME X a G)(hb:ME X b ψ)(hs:zan b:=by exact λ_ _=>rfl):ME X (.Subscript a b pos) (zC zBx G ψ) :=
 zFe (zcy ixMS ha hb hs) λ_ _ _ _ _ _ _ _ A e k=>zot A e k
@[simp] def zFn:GL:=λds O=>match ds with
 |[.int i]=>bif decide (i.natAbs.log2<1920) then some (.str (toString i),O) else none
 |_=>none
def zef:tS X (.type "str") zFn:=by
 refine tS.of λU s Y H xs us Q I r Z ds O d O' r1 R e k=>?_;unfold zFn at e
 split at e
 ·obtain⟨h1,e⟩:=zP e;have h1:=of_decide_eq_true h1;cases e;obtain⟨v,rr,rfl,q1,q2⟩:=r1.cons_inv;have q2:=q2.nil_inv;subst q2;exact zPr U s Y H _ us Q I r ⟨_,by rw[q1.int_inv],h1,k Z H _ Ext.refl R .str⟩
 ·cases e
end
end M
namespace M
open PySem PySem.Spec PyProof.Rows L2 PySem.Builtin PySem.Builtin.Str
def zLq{X:Cx}{x y:yn}{pos:xo}(hm:∃t,X.mg x=some (.str y t))(hg:Gl X x:=by rfl)(hd:(x==("__debug__":yn))=false:=by decide):ME X (.Name x pos) (fC (.str y)):=by
 obtain⟨t,h⟩:=hm;exact zEA (zKs (v:=V.str y) hg h ⟨t,rfl⟩ hd) λ_ _ =>.str
section
variable {X:Cx}{e:yD}{es:List yD}{G:FE}{pos:xo}
@[simp] def zLb(g:GM)(G:FE)(ψ:FA):FE:=λJ O=>(G J O).bind λp=>match p.1 with
 |.str x=>(ψ J p.2).bind λq=>g (.str x) q.1 q.2
 |_=>none
def z3l{o:yD}{ψ:FA}{name:yn}{id:String}{g:GM}{apos:xo}(slot:Slot "str" name id)(hty:typeOf (.builtin id)=pure (.type "method_descriptor"))(hm:MtG X id g)(ho:ME X o G)(ha:MAn X (e::es) ψ)
 (hbase:YB o name X.env (Yb o X.env)=Yb o X.env:=by rfl)
 (hfew:((Yq pos (yj (e::es) X.env)).all (λx=>!x.1)&&(xy pos (YG [] X.env)).all (λx=>x.1.isSome)
  && decide ((e::es).length+([]:List xc).length+(if([]:List xc).isEmpty then 0 else 1)<30))=true:=by rfl)
 (hline:(apos.endLine==pos.line)=true:=by rfl) (hs:yj (e::es) X.env=(false,Yb e X.env)::yj es X.env:=by rfl) (hplain:(Yq pos (yj es X.env)).any (·.1)=false:=by rfl) :
 ME X (.Call (.Attribute o name apos) (e::es) [] pos) (zLb g G ψ) :=
 zFe (z0D PySem.F.plainAttrs_str slot hty hm ho ha.ma hbase hfew hline hs hplain) λZ J O Y H d O' Q A e k=>by
  obtain⟨⟨x,O1⟩,e1,e⟩:=zm e;refine⟨Z,J,O,x,O1,A,e1,λZ1 H1 v x1 R1 r1=>?_⟩;dsimp only at e
  split at e
  ·obtain⟨⟨ds,O2⟩,e2,e⟩:=zm e;have ev:=r1.str_inv;subst ev;refine⟨rfl,Z1,J,O1,ds,O2,A.ext x1 R1,e2,λZ2 H2 vs2 x2 R2 r2=>?_⟩;exact⟨Z2,_,ds,O2,d,O',.str,r2,R2,e,λZ3 H3 v3 x3 R3 r3=>k Z3 H3 v3 (x1.trans (x2.trans x3)) R3 r3⟩
  ·cases e
def zBF:D->Option yn
 |.str x=>some x
 |_=>none
def zww:List D->Option (List yn)
 |[]=>some []
 |d::ds=>(zBF d).bind λx=>(zww ds).bind λxs=>some (x::xs)
@[simp] theorem zNr:∀ys:List yn,zww (ys.map D.str)=some ys
 |[]=>rfl
 |y::ys=>by
  have:=zNr ys;show(zww (ys.map D.str)).bind _=_;rw[this];rfl
def zVr:∀{ds:List D} {ys:List yn},zww ds=some ys->ds=ys.map D.str
 |[],ys,h=>by cases h;rfl
 |d::ds,ys,h=>by
  obtain⟨x,e1,h⟩:=zm (show(zBF d).bind _=_ from h);obtain⟨xs,e2,h⟩:=zm h;cases h;rw[zVr e2];cases d<;>cases e1
  rfl
def zXt{K:yw}{Z:List yc}{H:Hp}:∀{ys:List yn} {vs:List V},tj K Z H (ys.map D.str) vs->vs=ys.map V.str
 |[],vs,r=>r.nil_inv
 |i::ns,vs,r=>by
  obtain⟨v,q,rfl,h1,h2⟩:=r.cons_inv;rw[h1.str_inv,zXt h2];rfl
def zdu{K:yw}{Z:List yc}{H:Hp}:∀{ys:List yn},tj K Z H (ys.map D.str) (ys.map V.str)
 |[] =>.nil
 |_::_ =>.cons .str zdu
def zLo:∀{ys:List yn} {us:List yb},Vals (ys.map V.str) us->StrsAre us ys
 |[],us,h=>by rw[h.unnil];exact .nil
 |y::ys,us,h=>by
  obtain⟨u,ws,rfl,r,t⟩:=h.Sy;obtain⟨k,rfl⟩:=r;exact .cons y k (zLo t)
def zhl:∀{l:List (yn×Tok)},Vals ((l.map (·.1)).map V.str) (strValues l)
 |[] =>.nil
 |(y,t)::l =>.cons ⟨t,rfl⟩ zhl
@[simp] def z4i:GM:=λx ds O=>match x,ds with
 |.str z,[.loc n]=>match O[n]? with
  |some (.lst xs)=>(zww xs).bind λys=>bif decide ((ys.map (·.length)).sum+ys.length*z.length<=1000000) then some (.str (YH z ys),O) else none
  |_=>none
 |_,_=>none
def zBz:MtG X "str.join" z4i:=by
 refine MtG.of λU s Y H x xs v us Q I rx rs Z dx ds O d O' r1 r2 R e k=>?_;unfold z4i at e
 split at e
 ·split at e
  ·rename_i hm
   obtain⟨ys,e2,e⟩:=zm e;obtain⟨h1,e⟩:=zP e;have h1:=of_decide_eq_true h1;cases e;have ev:=r1.str_inv;subst ev;obtain⟨t,rfl⟩:=rx;obtain⟨w,r,rfl,q1,q2⟩:=r2.cons_inv;rw[q2.nil_inv]at rs;obtain⟨a,rfl,ea⟩:=q1.tz;rw[zVr e2]at hm;obtain⟨vs,e3,q3⟩:=R.at_ _ _ _ ea hm;rw[zXt q3]at e3;obtain⟨u,rfl,ru⟩:=vals1 rs;cases ru;obtain⟨its,rv,pl,hz⟩:=I.list (SqL.of (K:=X.K) e3);exact join_list pl.isList (zLo (by simpa using rv)) (yF h1 (by decide)) λt' k'=>⟨.str _,H,I.tok _,⟨t',rfl⟩,k Z H _ Ext.refl R .str⟩
  ·cases e
 ·cases e
def z7f{o:yD}{ψ:FA}{apos:xo}(ho:ME X o G)(ha:MAn X (e::es) ψ)
 (hbase:YB o "join" X.env (Yb o X.env)=Yb o X.env:=by rfl)
 (hfew:((Yq pos (yj (e::es) X.env)).all (λx=>!x.1)&&(xy pos (YG [] X.env)).all (λx=>x.1.isSome)
  && decide ((e::es).length+([]:List xc).length+(if([]:List xc).isEmpty then 0 else 1)<30))=true:=by rfl)
 (hline:(apos.endLine==pos.line)=true:=by rfl) (hs:yj (e::es) X.env=(false,Yb e X.env)::yj es X.env:=by rfl) (hplain:(Yq pos (yj es X.env)).any (·.1)=false:=by rfl) :
 ME X (.Call (.Attribute o "join" apos) (e::es) [] pos) (zLb z4i G ψ):=z3l PySem.F.slot_str_join PySem.F.type_str_join zBz ho ha hbase hfew hline hs hplain
def zOy{prog:yu}{w:yI}{A:yJ}{E:yb->yd->Prop}{s:yd}{x y:yn}{t u:Tok}{Q:yb->yd->Prop}(hy:(y.length==0)=false)
 (hq:∀l k,l.map (·.1)=xh x y->Q (.ref s.heap.objs.size) {s with heap:=s.heap.push {cls:=.type "list",data:=.seq (strValues l).toArray },toks:=k })
 (hsz:x.length<=yG) (hsz2:(partsBetween x (occurrences x y 0 x.length (x.length+1)) y.length).length<=yG) :
 yq (yC prog w) A (call (.builtin "str.split") [.str x t,.str y u]) Q E s:=by
 cases h1:(decide (x.length<y.length)||decide (strKind x<strKind y))
 ·cases hf:(occurrences x y 0 x.length (x.length+1)).isEmpty
  ·refine xz F.slot_str_split (typeIs_str _ _ _) F.entry_str_split (F.args_str_split_2 _ _) (meets_str_split_sep x y t u h1 hy hf hsz hsz2) ?_;show wants Q E _ {s with toks:=_,heap:=s.heap.push {cls:=.type "list",data:=.seq (strsFrom s.toks (partsBetween x (occurrences x y 0 x.length (x.length+1)) y.length)).toArray }};rw[strsFrom_eq];exact hq (numbered s.toks _) _ ((numbered_texts _ _).trans ((if_neg (ne_true_of_eq_false h1)).trans (if_neg (ne_true_of_eq_false hf))).symm)
  ·exact xz F.slot_str_split (typeIs_str _ _ _) F.entry_str_split (F.args_str_split_2 _ _) (meets_str_split_not_found x y t u h1 hy hf)
    (hq [(x,t)] s.toks ((if_neg (ne_true_of_eq_false h1)).trans (if_pos hf)).symm)
 ·exact xz F.slot_str_split (typeIs_str _ _ _) F.entry_str_split (F.args_str_split_2 _ _) (meets_str_split_cannot_occur x y t u h1) (hq [(x,t)] s.toks (if_pos h1).symm)
def zal(x:yn)(w:Nat):∀(cuts:List Nat)(a:Nat),(Xo x w a cuts).length=cuts.length+1
 |[],a=>rfl
 |c::r,a=>by
  show(Xo x w _ r).length+1=_;rw[zal x w r];rfl
def zWx(x y:yn):(partsBetween x (occurrences x y 0 x.length (x.length+1)) y.length).length<=x.length+2:=by
 rw[StrLaws.partsBetween_eq,zal];have:=StrLaws.occ_length_le x y 0 x.length (x.length+1);omega
@[simp] def zUd:GM:=λx ds O=>match x,ds with
 |.str z,[.str y]=>bif decide (z.length<=1000000/\1<=y.length) then some (.loc O.length,O++[.lst ((xh z y).map D.str)]) else none
 |_,_=>none
def z4v:MtG X "str.split" zUd:=by
 refine MtG.of λU s Y H x xs v us Q I rx rs Z dx ds O d O' r1 r2 R e k=>?_;unfold zUd at e
 split at e
 ·rename_i z y
  obtain⟨h1,e⟩:=zP e;obtain⟨h1,h2⟩:=of_decide_eq_true h1;cases e;have ev:=r1.str_inv;subst ev;obtain⟨t,rfl⟩:=rx;obtain⟨w,r,rfl,q1,q2⟩:=r2.cons_inv;rw[q2.nil_inv,q1.str_inv]at rs;obtain⟨u,rfl,ru⟩:=vals1 rs;obtain⟨t',rfl⟩:=ru;have hmi:(1000000:Nat)+2<=yG:=by decide
  have hp:=zWx z y;refine zOy (by simp;omega) (λl k' hl=>?_) (by omega) (by omega);have hf:H s.heap.objs.size=none:=I.hok.fresh (yk _);have hw:=split_weight z y h2;have hll:((l.map (·.1)).map V.str).length<=yG:=by rw[length_map,hl];omega
  have I1:Inv X U Y (upd H s.heap.objs.size (.lst ((l.map (·.1)).map V.str))) {s with heap:=s.heap.push {cls:=.type "list",data:=.seq (strValues l).toArray },toks:=k' } :=
   I.laid (t':=k') (λb u e=>ye _ e) (yk _) ⟨hll,strValues l,0,zhl,ym _ rfl⟩
  refine⟨.ref s.heap.objs.size,_,I1,rfl,?_⟩;rw[hl];exact k _ _ _ (Ext.push hf) (R.push hf ⟨_,zM,zdu⟩) (.loc (zGc R))
 ·cases e
def zFc{o:yD}{ψ:FA}{apos:xo}(ho:ME X o G)(ha:MAn X (e::es) ψ)
 (hbase:YB o "split" X.env (Yb o X.env)=Yb o X.env:=by rfl)
 (hfew:((Yq pos (yj (e::es) X.env)).all (λx=>!x.1)&&(xy pos (YG [] X.env)).all (λx=>x.1.isSome)
  && decide ((e::es).length+([]:List xc).length+(if([]:List xc).isEmpty then 0 else 1)<30))=true:=by rfl)
 (hline:(apos.endLine==pos.line)=true:=by rfl) (hs:yj (e::es) X.env=(false,Yb e X.env)::yj es X.env:=by rfl) (hplain:(Yq pos (yj es X.env)).any (·.1)=false:=by rfl) :
 ME X (.Call (.Attribute o "split" apos) (e::es) [] pos) (zLb zUd G ψ):=z3l PySem.F.slot_str_split PySem.F.type_str_split z4v ho ha hbase hfew hline hs hplain
@[simp] def zdx:GM:=λx ds O=>match x,ds with
 |.str z,[.str y]=>some (.int (Txt.find z y),O)
 |_,_=>none
def zOz:MtG X "str.find" zdx:=by
 refine MtG.of λU s Y H x xs v us Q I rx rs Z dx ds O d O' r1 r2 R e k=>?_;unfold zdx at e
 split at e
 ·cases e;have ev:=r1.str_inv;subst ev;obtain⟨t,rfl⟩:=rx;obtain⟨w,r,rfl,q1,q2⟩:=r2.cons_inv;rw[q2.nil_inv,q1.str_inv]at rs;obtain⟨u,rfl,ru⟩:=vals1 rs;obtain⟨t',rfl⟩:=ru;exact SC.find ⟨.int _,H,I.tok _,⟨_,rfl⟩,k Z H _ Ext.refl R .int⟩
 ·cases e
def zfB{o:yD}{ψ:FA}{apos:xo}(ho:ME X o G)(ha:MAn X (e::es) ψ)
 (hbase:YB o "find" X.env (Yb o X.env)=Yb o X.env:=by rfl)
 (hfew:((Yq pos (yj (e::es) X.env)).all (λx=>!x.1)&&(xy pos (YG [] X.env)).all (λx=>x.1.isSome)
  && decide ((e::es).length+([]:List xc).length+(if([]:List xc).isEmpty then 0 else 1)<30))=true:=by rfl)
 (hline:(apos.endLine==pos.line)=true:=by rfl) (hs:yj (e::es) X.env=(false,Yb e X.env)::yj es X.env:=by rfl) (hplain:(Yq pos (yj es X.env)).any (·.1)=false:=by rfl) :
 ME X (.Call (.Attribute o "find" apos) (e::es) [] pos) (zLb zdx G ψ):=z3l PySem.F.slot_str_find PySem.F.type_str_find zOz ho ha hbase hfew hline hs hplain
@[simp] def zFq:GL:=λds O=>match ds with
 |[.str x]=>bif decide (x.length<=640) then(intText? x).bind λn=>some (.int n,O) else none
 |_=>none
def z1k:tS X (.type "int") zFq:=by
 refine tS.of λU s Y H xs us Q I r Z ds O d O' r1 R e k=>?_;unfold zFq at e
 split at e
 ·obtain⟨h1,e⟩:=zP e;have h1:=of_decide_eq_true h1;obtain⟨n,e1,e⟩:=zm e;cases e;obtain⟨v,rr,rfl,q1,q2⟩:=r1.cons_inv;rw[q2.nil_inv,q1.str_inv]at r;obtain⟨u,rfl,ru⟩:=vals1 r;obtain⟨t',rfl⟩:=ru;exact W.KIN.call_text e1 h1 ⟨.int _,H,I.tok _,⟨_,rfl⟩,k Z H _ Ext.refl R .int⟩
 ·cases e
def Its(x:yn):It:=⟨λi _=>i<x.cps.size,λi H v H'=>H'=H/\∃c,x.cps[i]?=some c/\v=.str ⟨#[c]⟩,λi _=>x.cps.size<=i⟩
def zbz{P:yu}{w:yI}{K:yw}{tg:yD}(it:yc)(x:yn)(t:Tok):Turn P w K tg (Its x) [it] it (λi h=>h.IsStrIter it "str_ascii_iterator" x t i) where
 mem:=by simp
 obj:=λi h st b hb=>by
  have e:b=it:=by simpa using hb
  subst e;obtain⟨o,e,c,d⟩:=st;exact⟨o,e,λv z=>by rw[d]at z;cases z⟩
 keep:=λi h h' st k=>let ⟨o,ho,r⟩:=st;⟨o,k it (by simp) o ho,r⟩
 item:=by
  intro X hP hw hK hc i U s Y H E I hf st hg;subst hP hw hK;obtain⟨f0,f1,f2,f3,f4,f5⟩:=hf it (by simp);have hg:i<x.cps.size:=hg;refine wpAny_pyNext_ascii_item st (c:=x.cps[i]) (by simp[hg]) λh' st' sb=>?_;have I1:Inv X U Y H {s with heap:=h',toks:=s.toks+1 }:=I.turned (λb o hb e=>(sb.2 b hb).trans e) f0 f1 f3 f4 f5;obtain⟨o,e,c,d⟩:=id st';exact⟨_,rfl,zOx (s:={s with heap:=h',toks:=s.toks+1 }) e c d (by decide) ⟨.str ⟨#[x.cps[i]]⟩,H,I1,⟨_,rfl⟩,⟨rfl,_,by simp[hg],rfl⟩,st',λb hb=>(hf b hb).1⟩⟩
 done:=by
  intro X hP hw hK hc i U s Y H E I hf st hg;subst hP hw hK;obtain⟨f0,f1,f2,f3,f4,f5⟩:=hf it (by simp);have hg:x.cps.size<=i:=hg;exact wpAny_pyNext_ascii_end (I.ok.hd hc) st (by simp;omega) λh' eb=>⟨rfl,I.turned (t':=s.toks) (λb o hb e=>eb b o hb e) f0 f1 f3 f4 f5⟩
 self:=λ_ _ _ _ _ st h=>wpAny_pyIter_striter_ascii st h
def zhF(tl:TE):TI:=λY H R=>tl Y H λv H1=>∃x:yn,v=.str x/\x.cps.all (· < 128)=true/\R (Its x) H1
def zUC{tg l:yD}{tl:TE}(hl:PE X l tl):PI X tg l (zhF tl):=by
 intro U s Y H R I h;refine thn (hl U s Y H _ I h) λv s1 ⟨x,H1,I1,r1,q1⟩=>?_;obtain⟨z,e,ha,q⟩:=q1;subst e;obtain⟨t,rfl⟩:=r1;refine wpAny_pyIter_ascii ha ?_;refine⟨s1.heap.objs.size,[s1.heap.objs.size],_,_,H1,rfl,I1.kept (t':=s1.toks) λb o e=>ye _ e,zbz _ z t,⟨_,ym _ rfl,rfl,rfl⟩,λb hb=>?_,q⟩;have e:b=s1.heap.objs.size:=by simpa using hb
 subst e;exact I1.sO (yk _) (I1.hok.fresh (yk _))
def zBm(x:yn):List D:=x.cps.toList.map λc =>.str ⟨#[c]⟩
@[simp] def zjE(G:FE):FI:=λJ O=>(G J O).bind λp=>match p.1 with
 |.str x=>bif x.cps.all (· < 128) then some (zBm x,yes,p.2) else none
 |_=>none
def zDC{tg a:yD}(h:ME X a G):MI X tg a (zjE G) :=
 z8s (zUC h) λZ J O Y H ds ok O' R A e k=>by
  obtain⟨⟨x,O1⟩,e1,e⟩:=zm e;refine⟨Z,J,O,x,O1,A,e1,λZ1 H1 v1 x1 R1 r1=>?_⟩;dsimp only at e
  split at e
  ·rename_i z
   obtain⟨h1,e⟩:=zP e;cases e;refine⟨z,r1.str_inv,h1,k Z1 H1 _ x1 R1 ⟨λZ' H' O' i _ _ _ h=>by show i<z.cps.size;simpa[zBm] using h,λZ' H' O' i x H'' d _ RR _ e ⟨y1,c,y2,y3⟩=>⟨y1▸Ext.refl,y1▸RR,?_⟩,λZ' H' O' _ _ _=>by simp[Its,zBm]⟩⟩;rw[y3];unfold zBm at e;rw[yr,xF,y2]at e;cases e;exact .str
  ·cases e
end
end M
namespace M
open PySem PySem.Spec PySem.Builtin PySem.Builtin.Str PyProof.Rows L2
section
variable {X:Cx}{a b e:yD}{es:List yD}{G ψ:FE}{pos:xo}
def zBB{prog:yu}{w:yI}{A:yJ}{E:yb->yd->Prop}{s:yd}{x y:yn}{t u:Tok}{Q:yb->yd->Prop}(hy:(y.length==0)=false)
 (h:∀ta tb tc k,Q (.ref s.heap.objs.size) {s with heap:=s.heap.push {cls:=.type "tuple",data:=.seq [.str (Yi x y).1 ta,.str (Yi x y).2.1 tb,.str (Yi x y).2.2 tc].toArray },toks:=k }) (hsz:x.length<=yG) :
 yq (yC prog w) A (call (.builtin "str.partition") [.str x t,.str y u]) Q E s:=by
 refine xz F.slot_str_partition (typeIs_str _ _ _) F.entry_str_partition (F.args_str_partition_2 _ _) (meets_str_partition x y t u hy hsz) ?_;have h':=h;unfold Yi at h';revert h'
 cases occurrences x y 0 x.length 1 with
 |nil=>intro h';exact h' _ _ _ _
 |cons i r=>intro h';exact h' _ _ _ _
@[simp] def zZs:GM:=λx ds O=>match x,ds with
 |.str z,[.str y]=>bif decide (z.length<=1000000/\1<=y.length) then some (.tup [.str (Yi z y).1,.str (Yi z y).2.1,.str (Yi z y).2.2],O) else none
 |_,_=>none
def zEy:MtG X "str.partition" zZs:=by
 refine MtG.of λU s Y H x xs v us Q I rx rs Z dx ds O d O' r1 r2 R e k=>?_;unfold zZs at e
 split at e
 ·rename_i z y
  obtain⟨h1,e⟩:=zP e;obtain⟨h1,h2⟩:=of_decide_eq_true h1;cases e;have ev:=r1.str_inv;subst ev;obtain⟨t,rfl⟩:=rx;obtain⟨w,r,rfl,q1,q2⟩:=r2.cons_inv;rw[q2.nil_inv,q1.str_inv]at rs;obtain⟨u,rfl,ru⟩:=vals1 rs;obtain⟨t',rfl⟩:=ru;have hmi:=Tf;refine zBB (by simp;omega) (λta tb tc k'=>?_) (by omega);have hf:H s.heap.objs.size=none:=I.hok.fresh (yk _);refine⟨.ref s.heap.objs.size,_,I.laid (t':=k') (o:=.tup [.str (Yi z y).1,.str (Yi z y).2.1,.str (Yi z y).2.2]) (λb u e=>ye _ e) (yk _) ⟨?_,_,?_,⟨_,ym _ rfl,rfl,_,rfl⟩⟩,rfl,?_⟩
  ·show 3<=yG;omega
  ·exact .cons ⟨_,rfl⟩ (.cons ⟨_,rfl⟩ (.cons ⟨_,rfl⟩ .nil))
  ·exact k Z _ _ (Ext.new hf) (R.Tj hf) (.tup zM (.cons .str (.cons .str (.cons .str .nil))))
 ·cases e
def zgC{o:yD}{ψ:FA}{apos:xo}(ho:ME X o G)(ha:MAn X (e::es) ψ)
 (hbase:YB o "partition" X.env (Yb o X.env)=Yb o X.env:=by rfl)
 (hfew:((Yq pos (yj (e::es) X.env)).all (λx=>!x.1)&&(xy pos (YG [] X.env)).all (λx=>x.1.isSome)
  && decide ((e::es).length+([]:List xc).length+(if([]:List xc).isEmpty then 0 else 1)<30))=true:=by rfl)
 (hline:(apos.endLine==pos.line)=true:=by rfl) (hs:yj (e::es) X.env=(false,Yb e X.env)::yj es X.env:=by rfl) (hplain:(Yq pos (yj es X.env)).any (·.1)=false:=by rfl) :
 ME X (.Call (.Attribute o "partition" apos) (e::es) [] pos) (zLb zZs G ψ):=z3l PySem.F.slot_str_partition PySem.F.type_str_partition zEy ho ha hbase hfew hline hs hplain
def zrt{prog:yu}{w:yI}{A:yJ}{E:yb->yd->Prop}{s:yd}{d:yc}{o:YS}{es:Array Xf}{ep:Nat}{x:yn}{t:Tok}{i:Nat}{en:Xf}{Q:Option yb->yd->Prop}(ho:s.heap.get? d=some o)(hd:o.data=.dict es ep)(hall:(es.all λe=>isExactStrKey e.key)=true)(hi:es.findIdx? (·.key.isStr x)=some i)(hv:es[i]?=some en)
 (h:Q (some en.val) {s with toks:=s.toks+1 }):yq (yC prog w) A (dictGet d (.str x t)) Q E s:=by
 have hkey:(zZb prog w).is (.inr x) (.str x t)=true:=zYw (k:=.inr x) ⟨_,rfl⟩
 have hkey2:(zZb prog w).is (.inr x) en.key=true:=by
  obtain⟨hlt,hi,_⟩:=Array.findIdx?_eq_some_iff_getElem.mp hi;rw[Array.getElem?_eq_getElem hlt]at hv;cases hv;rw[(zZb prog w).strs _ _ _ _ hkey];exact hi
 unfold dictGet
 try with_reducible refine Yp ?_
 refine ya ((zZb prog w).pyHash hkey (ya ?_));unfold dictFind
 try with_reducible refine Yp ?_
 refine ya (wpAny_dictEntries (s:={s with toks:=s.toks+1 }) ho hd ?_);dsimp only;rw[hall,if_pos rfl];unfold foundByValue;rw[hi];dsimp only;rw[hv];dsimp only;refine ya (wpAny_dictEpoch ho hd (ya ((zZb prog w).eqBool (a:=.inr x) (b:=.inr x) hkey2 hkey (ya (wpAny_dictEpoch ho hd ?_)))));show yq _ _ (if(ep != ep)=true then _ else _) _ E _;rw[if_neg (by simp),decide_eq_true rfl];refine ya (Xs (yg ?_));exact ya (wpAny_dictEntries (s:={s with toks:=s.toks+1 }) ho hd (yg (by rw[hv];exact h)))
end
end M
namespace M
open PySem PySem.Spec PySem.Builtin PySem.Builtin.Str PyProof.Rows L2
def getItem_str{prog:yu}{w:yI}{A:yJ}{E:yb->yd->Prop}{s:yd}{d:yc}{o:YS}{es:Array Xf}{ep:Nat}{x:yn}{t:Tok}{i:Nat}{en:Xf}{Q:yb->yd->Prop}(ho:s.heap.get? d=some o)(hc:o.cls=.type "dict")(hd:o.data=.dict es ep)(hall:(es.all λe=>isExactStrKey e.key)=true)(hi:es.findIdx? (·.key.isStr x)=some i)(hv:es[i]?=some en)
 (h:Q en.val {s with toks:=s.toks+1 }):yq (yC prog w) A (getItem (.ref d) (.str x t)) Q E s:=by
 have hT:s.TypeIs (.ref d) "dict":=⟨o,ho,hc⟩
 unfold getItem
 try with_reducible refine Yp ?_
 refine ya (wpAny_sequenceKey hT (by decide) ?_)
 refine ya (yO (name:=Yz "__getitem__") hT PySem.F.slot_dict_getitem
  (yP PySem.F.slot_dict_getitem hT PySem.F.entry_dict_getitem ?_ (args_dict_getitem _ _)))
 show yq _ _ (dictGet d (.str x t) >>= _) _ _ s;refine ya (zrt ho hd hall hi hv ?_);exact yg ⟨_,rfl,yg h⟩
def zku(K:yw)(x:yn)(tb:List (yn×yn)):Prop:=∃(a:yc)(o:YS)(es:Array Xf)(ep:Nat),Yj K yi x=some (some (.ref a))/\K.lookup a=some o/\o.cls=.type "dict"/\o.data=.dict es ep/\(es.all λe=>isExactStrKey e.key)=true /\
 ∀s c,tb.lookup s=some c->∃i en f,es.findIdx? (·.key.isStr s)=some i/\es[i]?=some en/\en.val=.ref f/\Yj K yi c=some (some (.ref f))
section
variable {X:Cx}{a b e:yD}{es:List yD}{G ψ:FE}{pos:xo}
def zJA(n:yn)(tb:List (yn×yn)):φ2:=λx y O=>match x,y with
 |.own m,.str s=>bif m==n then(tb.lookup s).bind λc=>some (.own c,O) else none
 |_,_=>none
def ixAns{n:yn}{tb:List (yn×yn)}(T:zku X.K n tb):IxR X (rM X.K (zJA n tb)):=by
 intro value slice U s Y H x y v u Q I rx ry ⟨Z,dx,dy,O,d,O',r1,r2,R,e,k⟩ hs;unfold zJA at e
 split at e
 ·rename_i m st
  obtain⟨h1,e5⟩:=zP e;clear e;have h1:m=n:=by simpa using h1
  obtain⟨c,e2,e6⟩:=zm e5;clear e5;cases e6;subst h1;obtain⟨p,o,es,ep,hn,hl,hc,hd,hall,ht⟩:=T;obtain⟨i,en,f,hi,hv,hf,hcf⟩:=ht st c e2;obtain⟨p',rfl,hp⟩:=r1.So
  have hpp:p'=p:=by
   rw[hn]at hp;cases hp;rfl
  subst hpp;cases rx;rw[r2.str_inv]at ry;obtain⟨t,rfl⟩:=ry;have ho:s.heap.get? p'=some o:=I.kIn _ _ hl;have hT:s.TypeIs (.ref p') "dict":=⟨o,ho,hc⟩
  unfold subscriptTail;refine ya ?_;rw[getitemInPython_of_ne hT.not_modules];refine ya (xr hT PySem.F.slot_dict_getitem.lookup ?_)
  have fin:yq (yC X.prog X.w) X.A (subscripted slice false (.ref p') (.str st t)) (λr s₃=>yq (yC X.prog X.w) X.A (letTemporaryGo value (.ref p') r >>= λ_=>pure r) (EP X U Y Q) X.xe s₃) X.xe s:=by
   rw[hs];refine wpAny_operating (getItem_str ho hc hd hall hi hv (ya (wpAny_letTemporaryGo (yg ⟨.ref f,H,I.tok _,?_,k Z H _ Ext.refl R (.own hcf)⟩))));rw[hf];rfl
  first
   |exact yg (ya fin)
   |exact ya (yg (ya fin))
   |exact ya fin
 ·cases e
def zSD{n:yn}{tb:List (yn×yn)}(T:zku X.K n tb)(ha:ME X a G)(hb:ME X b ψ)(hs:zan b:=by intro _ _;rfl):ME X (.Subscript a b pos) (zC (zJA n tb) G ψ) :=
 zFe (zcy (ixAns T) ha hb hs) λ_ _ _ _ _ _ _ _ A e k=>zot A e k
def zsC(i:Nat)(tb:List (yn×FF))(α:FA):FE:=λJ O=>match J[i]? with
 |some (some (.own c))=>(tb.lookup c).bind λF=>(α J O).bind λp=>F p.1 p.2
 |_=>none
def znE(X:Cx)(k n:Nat)(tb:List (yn×FF)):Prop:=∀c F,tb.lookup c=some F->∃st ps f fd j,FnAt X.K X.mg c st ps f fd/\Yj X.K yi c=some (some (.ref f))/\j<=k/\tm X.prog X.w X.K X.mg X.base CX0 j f fd ps (spM X.K n F)
def dynNil{k n:Nat}:znE X k n []:=λc F h=>by cases h
def Sr{k n j:Nat}{c:yn}{F:FF}{st:yR}{ps:List yn}{f:yc}{fd:yf}{tb:List (yn×FF)}(B:FnAt X.K X.mg c st ps f fd)(h:∃f,Yj X.K yi c=some (some (.ref f))/\X.mg c=some (.ref f))(φ:tm X.prog X.w X.K X.mg X.base CX0 j f fd ps (spM X.K n F))(r:znE X k n tb)(hj:j<=k:=by decide):znE X k n ((c,F)::tb):=λc' F' e=>by
 rw[lookup_cons]at e
 by_cases q:c'==c
 ·rw[q]at e;cases e;have q:=eq_of_beq q;subst q;obtain⟨f0,h1,h2⟩:=h;rw[B.at_]at h2;cases h2;exact⟨st,ps,f,fd,j,B,h1,hj,φ⟩
 ·rw[Bool.not_eq_true]at q;rw[q]at e;exact r c' F' e
def zTD{k i n:Nat}{y:yn}{p:xo}{α:FA}{tb:List (yn×FF)}(hy:PE X (.Name y p) (zgE i))(hT:znE X k n tb)(hr:tW k X.A)
 (ha:MAn X (e::es) α) (hn:(e::es).length=n:=by rfl) (he:yj (e::es) X.env=(false,Yb e X.env)::yj es X.env:=by exact zjf rfl) (hpl:(Yq pos (yj es X.env)).any (·.1)=false:=by rfl) :
 ME X (.Call (.Name y p) (e::es) [] pos) (zsC i tb α):=by
 intro U s Y H Q I hh;obtain⟨Z,J,O,d,O',A,e0,kk⟩:=hh;unfold zsC at e0
 split at e0
 ·rename_i c hc
  obtain⟨F,e1,e0⟩:=zm e0;obtain⟨⟨ds,O1⟩,e2,e0⟩:=zm e0;obtain⟨st,ps,f,fd,j,B,hcf,hj,φ⟩:=hT c F e1;obtain⟨v,hv,r⟩:=A.st i _ hc;obtain⟨f',rfl,hf'⟩:=r.So
  have hff:f'=f:=by
   rw[hcf]at hf';cases hf';rfl
  subst hff;refine xf (thn (hy U s Y H (λw H'=>w=.ref f'/\H'=H) I ⟨_,hv,rfl,rfl⟩) λu s1 ⟨w,H1,I1,r1,hw⟩=>?_);obtain⟨rfl,rfl⟩:=hw;cases r1;refine W.callWith_K (h₀:=X.base) I1.ok.mod.kin B.fn.kp (thn (ha.ma pos U s1 Y _ (λvs H2=>spM X.K n F (vs++[]) H2 Q E0) I1 ⟨Z,J,O,ds,O1,A,e2,λZ1 H1 vs x1 R1 r1=>?_⟩) λus s2 ⟨vs,H2,I2,r,q⟩=>⟨I2.kIn,?_⟩) he hpl
  ·show spM X.K n F (vs++[]) H1 Q E0;rw[append_nil];exact⟨by rw[<-r1.length,ha.len _ _ _ _ e2];exact hn,Z1,ds,O1,d,O',r1,R1,e0,λZ2 H2 v x2 R2 r2=>kk Z2 H2 v (x1.trans x2) R2 r2⟩
  ·exact z8t φ (hr.mono hj) B.bd .nil sZ I2 r q
 ·cases e0
end
end M
namespace M
open PySem PySem.Spec PySem.Builtin PySem.Builtin.Str PyProof.Rows L2
section
variable {X:Cx}
@[simp] def zeE:φ2:=λx y O=>match x,y with
 |.str a,.str b=>some (.bl (!(xU b a 0 b.length 1).isEmpty),O)
 |_,_=>none
def zeB:OpM X (yV .In) zeE:=by
 refine OpM.of λU s Y H x y v u Q I rx ry Z dx dy O d O' r1 r2 R e k=>?_;unfold zeE at e
 split at e
 ·cases e;exact zRx U s Y H x y v u Q I rx ry ⟨_,_,r1.str_inv,r2.str_inv,k Z H _ Ext.refl R .bl⟩
 ·cases e
variable {prog:yu}{w:yI}{A:yJ}{E:yb->yd->Prop}{s:yd}{l:yc}
def zKv{xs:Array (Int×Tok)}{Q:yb->yd->Prop}(hh:A.handled=none)(hl:s.heap.IsTuple l (intItems xs))(hne:0<xs.size)
 (h:∀v h' tk,(intItems xs)[argBest (λi j=>decide (numAt xs i>numAt xs j)) (xs.size-1)]?=some v->(∀b o,s.heap.get? b=some o->h'.get? b=some o)->Q v {s with heap:=h',toks:=tk }) :
 yq (yC prog w) A (call (.builtin "max") [.ref l]) Q E s:=by
 have hlt:l<s.heap.objs.size:=by obtain⟨_,e,_⟩:=hl;exact yo e
 refine call_max_walk (xw hl ?_);refine⟨_,[_,l],[_],_,_,_,_,rfl,Walks.tuple (A:=A.in1) hh _ l (yz hlt) (intItems xs),⟨⟨_,ym _ rfl,rfl,rfl⟩,hl.push _⟩,λc hc=>?_,by simpa[intItems] using hne,CmpOf.ints_gt (numAt xs) (λ_ _=>intItems_at),λv h' tk hP hk=>?_⟩
 ·show c<(s.heap.push _).objs.size;rw[yT];rcases List.mem_cons.mp hc with rfl|hc
  ·exact Yr _
  ·rcases List.mem_cons.mp hc with rfl|hc
   ·exact Yx hlt
   ·cases hc
 ·refine h v h' tk (by simpa[intItems] using hP) λb o e=>?_;refine hk b o (λhm=>?_) (ye _ e);rcases List.mem_cons.mp hm with e1|hm
  ·exact absurd (e1▸yo e) (yY _)
  ·cases hm
def zfz{vs:List yb}{ns:List Int}{Q:yb->yd->Prop}(hh:A.handled=none)(hl:s.heap.IsTuple l vs.toArray)(hi:IntsAre vs ns)(hne:0<ns.length)
 (h:∀h' M (t:Tok) tk,(∀b o,s.heap.get? b=some o->h'.get? b=some o)->M∈ns->(∀a,a∈ns->a<=M)->Q (.int M t) {s with heap:=h',toks:=tk }):yq (yC prog w) A (call (.builtin "max") [.ref l]) Q E s:=by
 obtain⟨xs,e⟩:=hi.allInts.items
 have hns:ns=xs.toList.map (·.1):=by
  rw[<-hi.numsOf,<-nums_intItems,<-e]
 have hsz:0<xs.size:=by
  have h3:=hne;rw[hns,length_map,YI]at h3;exact h3
 rw[e]at hl;refine zKv hh hl hsz λv h' tk hv hk=>?_;obtain⟨t,rfl⟩:=intItems_at hv;obtain⟨h1,h2⟩:=argBest_gt (numAt xs) (xs.size-1);refine h _ _ t tk hk ?_ λa ha=>?_
 ·rw[hns,numAt_eq];exact getD_mem (by rw[length_map,YI];omega)
 ·rw[hns]at ha;obtain⟨j,hj,rfl⟩:=mem_getD ha;rw[length_map,YI]at hj;rw[<-numAt_eq];exact h2 j (by omega)
def zvz:GL:=λds O=>match ds with
 |[.tup xs]=>(zvn xs).bind λns=>bif decide (0<ns.length) then some (.int (zTy ns),O) else none
 |_=>none
def zxv(hc:X.calm=true):tS X (.builtin "max") zvz:=by
 refine tS.of λU s Y H xs us Q I r Z ds O d O' r1 R e k=>?_;unfold zvz at e
 split at e
 ·obtain⟨ns,e2,e⟩:=zm e;obtain⟨hp,e⟩:=zP e;have hp:=of_decide_eq_true hp;cases e;rw[zBh e2]at r1;obtain⟨v,rr,rfl,q1,q2⟩:=r1.cons_inv;obtain⟨a,vs,rfl,e3,q3⟩:=q1.tN;rw[zIj q3]at e3;rw[q2.nil_inv]at r;obtain⟨u,rfl,ru⟩:=vals1 r;cases ru;obtain⟨its,rv,pl,hz⟩:=I.tuple (SqT.of (K:=X.K) e3);refine zfz (I.ok.hd hc) pl (zVk rv) hp λh' M t tk hk hM hle=>?_;obtain⟨h1,h2⟩:=zBs hp;have eM:M=zTy ns:=Int.le_antisymm (h2 _ hM) (hle _ h1);subst eM;exact⟨.int _,H,I.kept (t':=tk) hk,⟨t,rfl⟩,k Z H _ Ext.refl R .int⟩
 ·cases e
end
end M
namespace M
open PySem PySem.Spec PyProof.Rows L2
@[simp] theorem zME{i j:Int}(h1:-18446744073709551616<j)(h2:j<18446744073709551616):zjo i j=true:=by
 unfold zjo;rw[decide_eq_true (p:=-(2^64)<j/\j<2^64) ⟨by omega,by omega⟩];simp
@[simp] theorem zaC{i j:Int}(h1:-18446744073709551616<i)(h2:i<18446744073709551616):zjo i j=true:=by
 unfold zjo;rw[decide_eq_true (p:=-(2^64)<i/\i<2^64) ⟨by omega,by omega⟩];simp
@[simp] theorem zFF{α:Type}(l:List α):(l.all λ_=>true)=true:=by simp
def zUB{O g:Mem}{n:Nat}(h:n<O.length):(O++g)[n]?=O[n]?:=yv h
def zzb{O g:Mem}{n:Nat}{o:tD}(h:O[n]?=some o):(O++g)[n]?=some o:=by
 rw[zUB (List.getElem?_eq_some_iff.mp h).1];exact h
mutual
def zyq:∀p:xI,p.canLay0=true->Ym p p=true
 |.none,_=>rfl
 |.bool b,_=>by simp[Ym]
 |.int b,_=>by simp[Ym]
 |.str b,_=>by simp[Ym]
 |.list xs,h=>by
  unfold Ym;exact eqvAll_refl xs (by simpa[PyData.canLay0] using h)
 |.tuple xs,h=>by
  unfold Ym;exact eqvAll_refl xs (by simpa[PyData.canLay0] using h)
 |.dict _,h=>by simp[PyData.canLay0]at h
def eqvAll_refl:∀ps:List xI,Xm ps=true->Xh ps ps=true
 |[],_=>rfl
 |p::ps,h=>by
  simp only[Xm,yK]at h;unfold Xh;rw[zyq p h.1,eqvAll_refl ps h.2];rfl
end
def zRy{x y:D}{O:Mem}{p:xI}(h1:toP O 8 x=some p)(h2:toP O 8 y=some p):gEq x y O=some (.bl true,O):=by
 unfold gEq;rw[h1,h2];simp[zyq p (zZj 8 x p h1).1]
def zoy{x y:D}{O:Mem}{p:xI}(h1:toP O 8 x=some p)(h2:toP O 8 y=some p):gNe x y O=some (.bl false,O):=by
 unfold gNe;rw[h1,h2];simp[zyq p (zZj 8 x p h1).1]
def znD{K:yw}{F:FF}{H:Hp}{a:yc}{ns:List Int}(hF:∃O',F [.fz (ns.map D.int)] []=some (.bl true,O'))(hO:zqE H)(hS:SqL K H a (ns.map V.int)):spM K 1 F [.ref a] H (λv _=>v=.bl true) λ_ _ _=>False:=by
 obtain⟨O',e⟩:=hF
 have fz:FzL K H a (ns.map V.int):=by
  rcases hS with (h|⟨o,h⟩)|h
  ·rcases hO a with z|⟨o,xs,z⟩
   ·rw[h]at z;cases z
   ·rw[h]at z;cases z
  ·exact .inl ⟨o,h⟩
  ·exact .inr h
 have hints:∀ns:List Int,tj K [] H (ns.map D.int) (ns.map V.int):=λns=>by
  induction ns with
  |nil=>exact .nil
  |cons i r ih=>exact .cons .int ih
 exact⟨rfl,[],[.fz (ns.map D.int)],[],.bl true,O',.cons (.fz fz (hints ns)) .nil,⟨nodup_nil,rfl,λn a o h1 _=>by simp at h1⟩,e,λZ' H' v _ _ r=>r.tK⟩
structure WE(G:FE)(J:Loc)(O:Mem)(Q:D->Mem->Prop):Prop where
 ex:∃d O',G J O=some (d,O')/\Q d O'
structure WT(G:FT)(J:Loc)(O:Mem)(Q:Bool->Mem->Prop):Prop where
 ex:∃d O',G J O=some (d,O')/\Q d O'
structure WA(G:FA)(J:Loc)(O:Mem)(Q:List D->Mem->Prop):Prop where
 ex:∃d O',G J O=some (d,O')/\Q d O'
structure WO(G:FO)(J:Loc)(O:Mem)(Q:Option Int->Mem->Prop):Prop where
 ex:∃d O',G J O=some (d,O')/\Q d O'
structure W2(g:φ2)(x y:D)(O:Mem)(Q:D->Mem->Prop):Prop where
 ex:∃d O',g x y O=some (d,O')/\Q d O'
structure WF(F:FF)(ds:List D)(O:Mem)(Q:D->Mem->Prop):Prop where
 ex:∃d O',F ds O=some (d,O')/\Q d O'
structure WM(g:GM)(x:D)(ds:List D)(O:Mem)(Q:D->Mem->Prop):Prop where
 ex:∃d O',g x ds O=some (d,O')/\Q d O'
structure WI(i:FI)(J:Loc)(O:Mem)(Q:List D->(Mem->Bool)->Mem->Prop):Prop where
 ex:∃ds ok O',i J O=some (ds,ok,O')/\Q ds ok O'
structure WG(g:FG)(d:D)(J:Loc)(O:Mem)(Q:Loc->Mem->Prop):Prop where
 ex:∃J' O',g d J O=some (J',O')/\Q J' O'
structure WGs(g:FGs)(ds:List D)(J:Loc)(O:Mem)(Q:Loc->Mem->Prop):Prop where
 ex:∃J' O',g ds J O=some (J',O')/\Q J' O'
structure WL(g:FG)(c:FT)(G:FE)(ok:Mem->Bool)(J:Loc)(xs ys:List D)(O:Mem)(Q:D->Mem->Prop):Prop where
 ex:∃d O',zay g c G ok J xs ys O=some (d,O')/\Q d O'
def Ek(nx:Loc->Mem->Prop)(rt:D->Mem->Prop)(bk ct:Loc->Mem->Prop):Out->Prop
 |.next J O=>nx J O
 |.ret d O=>rt d O
 |.brk J O=>bk J O
 |.cont J O=>ct J O
 |.exc _ _ _=>False
structure WS(ψ:FS)(J:Loc)(O:Mem)(nx:Loc->Mem->Prop)(rt:D->Mem->Prop)(bk ct:Loc->Mem->Prop):Prop where
 ex:∃o,ψ J O=some o/\Ek nx rt bk ct o
structure WFor(g:FG)(body:FS)(ok:Mem->Bool)(xs:List D)(J:Loc)(O:Mem)(nx:Loc->Mem->Prop)(rt:D->Mem->Prop):Prop where
 ex:∃o,zIk g body ok xs J O=some o/\Ek nx rt (λ_ _=>False) (λ_ _=>False) o
def tw(O O':Mem):Prop:=∀(n:Nat)(o:tD),O[n]?=some o->O'[n]?=some o
def tw.refl{O:Mem}:tw O O:=λ_ _ h=>h
def tw.trans{O O1 O2:Mem}(a:tw O O1)(b:tw O1 O2):tw O O2:=λn o h=>b n o (a n o h)
def tw.app{O g:Mem}:tw O (O++g):=λ_ _ h=>zzb h
def tw.to{O O1 g:Mem}(a:tw O O1):tw O (O1++g):=a.trans .app
def tw.len{O O':Mem}(a:tw O O'):O.length<=O'.length:=by
 rcases Nat.lt_or_ge O'.length O.length with h|h
 ·have:=a O'.length O[O'.length] (by simp[h]);simp at this
 ·exact h
def zw{O:Mem}{o:tD}:(O++[o])[O.length]?=some o:=by simp
def zO{O:Mem}{n:Nat}{o:tD}(h:O[n]?=some o):n<O.length:=(List.getElem?_eq_some_iff.mp h).1
def zU{O:Mem}{n m:Nat}{o o':tD}(h:O[n]?=some o)(hne:m≠n):(O.set m o')[n]?=some o:=by
 rw[Yc hne];exact h
def z8{O:Mem}{n:Nat}{o o':tD}(h:O[n]?=some o):(O.set n o')[n]?=some o':=by
 rw[yZ (zO h)]
def zy{O:Mem}{n:Nat}{ds:List D}(h:O[n]?=some (.lst ds)):items O (.loc n)=some ds:=by simp[h]
section
variable {G ψ χ:FE}{g g2:φ2}{J:Loc}{O:Mem}{Q:D->Mem->Prop}{i j:Int}{d x y:D}{ds xs:List D}
def WE.mono{Q':D->Mem->Prop}(h:WE G J O Q)(k:∀d O',Q d O'->Q' d O'):WE G J O Q':=let ⟨d,O',e,q⟩:=h;⟨d,O',e,k d O' q⟩
def zl{n:Nat}(h:J[n]?=some (some d))(q:Q d O):WE (zq n) J O Q:=⟨d,O,by simp[h],q⟩
def w_c(q:Q d O):WE (fC d) J O Q:=⟨d,O,rfl,q⟩
def zz(h:WE G J O λx O1=>WE ψ J O1 λy O2=>W2 g x y O2 Q):WE (zC g G ψ) J O Q:=by
 obtain⟨x,O1,e1,y,O2,e2,d,O3,e3,q⟩:=h;exact⟨d,O3,by simp[e1,e2,e3],q⟩
def zEr(h:WE G J O λx O1=>∃b,x=.bl b/\(b=true->WE ψ J O1 Q)/\(b=false->Q (.bl false) O1)):WE (z3v G ψ) J O Q:=by
 obtain⟨x,O1,e1,b,rfl,h1,h2⟩:=h
 cases b with
 |true=>obtain⟨d,O2,e2,q⟩:=h1 rfl;exact⟨d,O2,by simp[e1,e2],q⟩
 |false=>exact⟨_,O1,by simp[e1],h2 rfl⟩
def zLF(h:WE G J O λx O1=>∃b,x=.bl b/\(b=false->WE ψ J O1 Q)/\(b=true->Q (.bl true) O1)):WE (fOr G ψ) J O Q:=by
 obtain⟨x,O1,e1,b,rfl,h1,h2⟩:=h
 cases b with
 |false=>obtain⟨d,O2,e2,q⟩:=h1 rfl;exact⟨d,O2,by simp[e1,e2],q⟩
 |true=>exact⟨_,O1,by simp[e1],h2 rfl⟩
def w_not(h:WE G J O λx O1=>∃b,x=.bl b/\Q (.bl (!b)) O1):WE (zNE G) J O Q:=by
 obtain⟨x,O1,e1,b,rfl,q⟩:=h;exact⟨_,O1,by simp[e1],q⟩
def z6E(h:WE G J O λx O1=>∃i,x=.int i/\Q (.int (-i)) O1):WE (zSF G) J O Q:=by
 obtain⟨x,O1,e1,b,rfl,q⟩:=h;exact⟨_,O1,by simp[e1],q⟩
def zYh{α:FA}(h:WA α J O λds O1=>Q (.tup ds) O1):WE (zAm α) J O Q:=by
 obtain⟨x,O1,e1,q⟩:=h;exact⟨_,O1,by simp[e1],q⟩
def zqm{α:FA}(h:WA α J O λds O1=>Q (.loc O1.length) (O1++[.lst ds])):WE (zNq α) J O Q:=by
 obtain⟨x,O1,e1,q⟩:=h;exact⟨_,_,by simp[e1]<;>rfl,q⟩
def zdE(h:Q (.loc O.length) (O++[.dct []])):WE zlE J O Q:=⟨_,_,rfl,h⟩
def zfv{R:Option Int->Mem->Prop}(q:R none O):WO pNo J O R:=⟨_,_,rfl,q⟩
def zyo{R:Option Int->Mem->Prop}(h:WE G J O λx O1=>∃i,x=.int i/\R (some i) O1):WO (znB G) J O R:=by
 obtain⟨x,O1,e1,i,rfl,q⟩:=h;exact⟨_,_,by simp[e1]<;>rfl,q⟩
def zt{F:FF}{α:FA}(h:WA α J O λds O1=>WF F ds O1 Q):WE (zx F α) J O Q:=by
 obtain⟨ds,O1,e1,d,O2,e2,q⟩:=h;exact⟨d,O2,by simp[e1,e2],q⟩
def zPm{m:GM}{α:FA}(h:WE G J O λx O1=>∃n xs,x=.loc n/\O1[n]?=some (.lst xs)/\WA α J O1 λds O2=>WM m (.loc n) ds O2 Q):WE (zVh m G α) J O Q:=by
 obtain⟨x,O1,e1,n,xs,rfl,e2,ds,O2,e3,d,O3,e4,q⟩:=h;exact⟨d,O3,by simp[e1,e2,e3,e4],q⟩
def zfi{n:Nat}{fr:List Nat}{it:FI}{tg:FG}{c:FT}(h:WI it J O λds ok O1=>few ds=true/\WL tg c G ok (δC n fr J) ds [] O1 Q):WE (fLC n fr it tg c G) J O Q:=by
 obtain⟨ds,ok,O1,e1,hf,d,O2,e2,q⟩:=h;exact⟨d,O2,by unfold fLC;simp only[e1,yp,hf,cond_true];exact e2,q⟩
def zYz(h:WE G J O λx O1=>∃n ns,x=.loc n/\O1[n]?=some (.lst (ns.map .int))/\ns.length<=4000/\(uqL ns).length<64/\Q (.loc O1.length) (O1++[.lst ((z8y ns).map .int)])):WE (zXv G) J O Q:=by
 obtain⟨x,O1,e1,n,ns,rfl,e2,h1,h2,q⟩:=h;exact⟨_,_,by simp[zXv,e1,e2,h1,h2]<;>rfl,q⟩
def zS{R:Bool->Mem->Prop}(h:WE G J O λx O1=>∃b,x=.bl b/\R b O1):WT (zeb G) J O R:=by
 obtain⟨x,O1,e1,b,rfl,q⟩:=h;exact⟨_,_,by simp[e1]<;>rfl,q⟩
def zop{c e:FT}{R:Bool->Mem->Prop}(h:WT c J O λb O1=>(b=true->WT e J O1 R)/\(b=false->R false O1)):WT (z5s c e) J O R:=by
 obtain⟨b,O1,e1,h1,h2⟩:=h
 cases b with
 |true=>obtain⟨d,O2,e2,q⟩:=h1 rfl;exact⟨d,O2,by simp[e1,e2],q⟩
 |false=>exact⟨_,O1,by simp[e1],h2 rfl⟩
def z1j{c e:FT}{R:Bool->Mem->Prop}(h:WT c J O λb O1=>(b=false->WT e J O1 R)/\(b=true->R true O1)):WT (zQu c e) J O R:=by
 obtain⟨b,O1,e1,h1,h2⟩:=h
 cases b with
 |false=>obtain⟨d,O2,e2,q⟩:=h1 rfl;exact⟨d,O2,by simp[e1,e2],q⟩
 |true=>exact⟨_,O1,by simp[e1],h2 rfl⟩
def zhk{c:FT}{R:Bool->Mem->Prop}(h:WT c J O λb O1=>R (!b) O1):WT (zfo c) J O R:=by
 obtain⟨b,O1,e1,q⟩:=h;exact⟨_,_,by simp[e1]<;>rfl,q⟩
def zcz{R:Bool->Mem->Prop}(q:R true O):WT zxh J O R:=⟨_,_,rfl,q⟩
def zr{R:List D->Mem->Prop}(q:R [] O):WA zA J O R:=⟨_,_,rfl,q⟩
def zj{α:FA}{R:List D->Mem->Prop}(h:WE G J O λx O1=>WA α J O1 λxs O2=>R (x::xs) O2):WA (zk G α) J O R:=by
 obtain⟨x,O1,e1,xs,O2,e2,q⟩:=h;exact⟨_,_,by simp[e1,e2]<;>rfl,q⟩
def zho(q:Q (.int (i+j)) O):W2 zPk (.int i) (.int j) O Q:=⟨_,_,rfl,q⟩
def z3z{l m:Nat}{as bs:List D}(h1:O[l]?=some (.lst as))(h2:O[m]?=some (.lst bs))(h:as.length+bs.length<=1000000)(q:Q (.loc O.length) (O++[.lst (as++bs)])):W2 zPk (.loc l) (.loc m) O Q:=⟨_,_,by simp[h1,h2,h]<;>rfl,q⟩
def z5x(q:Q (.int (i-j)) O):W2 z7x (.int i) (.int j) O Q:=⟨_,_,rfl,q⟩
def z4C(h:zjo i j=true)(q:Q (.int (i*j)) O):W2 zjn (.int i) (.int j) O Q:=⟨_,_,by simp[zjn,h]<;>rfl,q⟩
def zty(h:0<j)(q:Q (.int (i%j)) O):W2 zUq (.int i) (.int j) O Q:=⟨_,_,by simp[h]<;>rfl,q⟩
def zvF(h:0<j)(h':j<1606938044258990275541962092341162602522202993782792835301376)(q:Q (.int (i / j)) O):W2 zqC (.int i) (.int j) O Q:=⟨_,_,by simp[h,h']<;>rfl,q⟩
def zzC(h:0<=j)(h1:j<=100000)(h2:i.natAbs<1606938044258990275541962092341162602522202993782792835301376)(q:Q (.int (i^j.toNat)) O):W2 zJD (.int i) (.int j) O Q:=⟨_,_,by simp only[zJD];rw[decide_eq_true ⟨h,h1,h2⟩];rfl,q⟩
def zEj{r:Int->Int->Bool}(q:Q (.bl (r i j)) O):W2 (zFj r) (.int i) (.int j) O Q:=⟨_,_,rfl,q⟩
def z6c(h:items O x=some xs)(h2:atI xs i=some d)(q:Q d O):W2 gIx x (.int i) O Q:=⟨_,_,by show((items O x).bind λds=>(atI ds i).bind λd=>some (d,O))=_;rw[h,yp,h2,yp],q⟩
def zxt(q:Q (.bl (i==j)) O):W2 gEq (.int i) (.int j) O Q:=⟨_,_,by simp[gEq,toP,Ym]<;>rfl,q⟩
def zHD(q:Q (.bl (!(i==j))) O):W2 gNe (.int i) (.int j) O Q:=⟨_,_,by simp[gNe,toP,Ym]<;>rfl,q⟩
def zRE{p:xI}(h1:toP O 8 x=some p)(h2:toP O 8 y=some p)(q:Q (.bl true) O):W2 gEq x y O Q:=⟨_,_,zRy h1 h2,q⟩
def zBE{p:xI}(h1:toP O 8 x=some p)(h2:toP O 8 y=some p)(q:Q (.bl false) O):W2 gNe x y O Q:=⟨_,_,zoy h1 h2,q⟩
def zoF{p p':xI}(h1:toP O 8 x=some p)(h2:toP O 8 y=some p')(q:Q (.bl (Ym p p')) O):W2 gEq x y O Q:=⟨_,_,by simp[gEq,h1,h2]<;>rfl,q⟩
def zHE{p p':xI}(h1:toP O 8 x=some p)(h2:toP O 8 y=some p')(q:Q (.bl (!PyData.eqv p p')) O):W2 gNe x y O Q:=⟨_,_,by simp[gNe,h1,h2]<;>rfl,q⟩
def zTE{a b:Bool}(q:Q (.bl (a==b)) O):W2 gIs (.bl a) (.bl b) O Q:=⟨_,_,rfl,q⟩
def zFz{a b:Bool}(q:Q (.bl (a != b)) O):W2 ztk (.bl a) (.bl b) O Q:=⟨_,_,rfl,q⟩
def zdt(h:items O y=some xs)(h1:zge x=true)(h2:xs.all zge=true)(q:Q (.bl (!xs.any λd=>eqF d x)) O):W2 zyl x y O Q:=⟨_,_,by simp only[zyl,h,yp,h1,h2,Bool.and_self,cond_true],q⟩
def zvh(h:items O x=some xs)(q:Q (.int xs.length) O):WF zej [x] O Q:=⟨_,_,by show((items O x).bind λxs=>some (D.int xs.length,O))=_;rw[h,yp],q⟩
def zWw(h:items O x=some xs)(q:Q (.loc O.length) (O++[.lst xs])):WF zbw [x] O Q:=⟨_,_,by show((items O x).bind λxs=>some (D.loc O.length,O++[tD.lst xs]))=_;rw[h,yp],q⟩
def zXd(h:items O x=some xs)(q:Q (.tup xs) O):WF zFd [x] O Q:=by
 refine⟨_,_,?_,q⟩;cases x<;>first|(cases h;rfl)|(simp only[zFd,h];rfl)
def zqF{c t:Ty}(h:zmE O x=some t)(q:Q (.bl (zgF t c)) O):WF (z8x c) [x,.ty c.name] O Q:=⟨_,_,by simp only[z8x,beq_self_eq_true,cond_true,h,yp],q⟩
def zIE{n:Nat}{ns:List Int}(h:O[n]?=some (.lst (ns.map .int)))(q:Q (.int ns.sum) O):WF zoC [.loc n] O Q:=⟨_,_,by simp[h]<;>rfl,q⟩
def z8A{n:Nat}{bs:List Bool}(h:O[n]?=some (.lst (bs.map .bl)))(q:Q (.bl (bs.all λb=>b)) O):WF znC [.loc n] O Q:=⟨_,_,by simp[h,all_map,Function.comp_def],q⟩
def zlj{n:Nat}(h:O[n]?=some (.lst xs))(hl:xs.length<=1000000)(q:Q .non (O.set n (.lst (xs++[d])))):WM z2f (.loc n) [d] O Q:=⟨_,_,by simp[h,hl]<;>rfl,q⟩
def zaD{n:Nat}(h:O[n]?=some (.lst xs))(hl:xs.length+ds.length<=1000000)(q:Q .non (O.set n (.lst (xs++ds)))):WM z3B (.loc n) [.tup ds] O Q:=⟨_,_,by simp[h,hl]<;>rfl,q⟩
def zmb{F:FF}{N:List yn}{p:FS}(hF:F=λds O=>zcb (p (zK N ds) O))(h:WS p (zK N ds) O (λ_ O'=>Q .non O') Q (λ_ _=>False) λ_ _=>False):WF F ds O Q:=by
 subst hF;obtain⟨o,e,k⟩:=h
 cases o with
 |next J' O'=>exact⟨_,_,by rw[e];rfl,k⟩
 |ret d O'=>exact⟨_,_,by rw[e];rfl,k⟩
 |brk _ _=>exact k.elim
 |cont _ _=>exact k.elim
 |exc _ _ _=>exact k.elim
def zJh{α:FA}{R:List D->(Mem->Bool)->Mem->Prop}(h:WA α J O λds O1=>∃j:Int,ds=[.int j]/\-(2^62)<=j/\j<2^62/\R ((yt j.toNat).map λ(k:Nat) =>.int k) yes O1):WI (zNf α) J O R:=by
 obtain⟨ds,O1,e1,j,rfl,h1,h2,q⟩:=h;refine⟨_,_,_,?_,q⟩;unfold zNf;simp only[e1,yp];rw[decide_eq_true ⟨h1,h2⟩];rfl
def z1c{R:List D->(Mem->Bool)->Mem->Prop}(h:WE G J O λx O1=>(∃ds,x=.tup ds/\R ds yes O1)\/(∃ds,x=.fz ds/\R ds yes O1)\/∃n ds,x=.loc n/\O1[n]?=some (.lst ds)/\R ds (z9n n ds) O1):WI (zzg G) J O R:=by
 obtain⟨x,O1,e1,⟨ds,rfl,q⟩|⟨ds,rfl,q⟩|⟨n,ds,rfl,e2,q⟩⟩:=h
 ·exact⟨_,_,_,by simp[e1]<;>rfl,q⟩
 ·exact⟨_,_,_,by simp[e1]<;>rfl,q⟩
 ·exact⟨_,_,_,by simp[e1,e2]<;>rfl,q⟩
def zOe{n:Nat}{R:Loc->Mem->Prop}(q:R (J.set n (some d)) O):WG (gN n) d J O R:=⟨_,_,rfl,q⟩
def zDF{n:Nat}{gs:FGs}{R:Loc->Mem->Prop}(hl:ds.length=n)(h:WGs gs ds J O R):WG (gT n gs) (.tup ds) J O R:=by
 obtain⟨J',O',e,q⟩:=h;exact⟨J',O',by simp[hl,e],q⟩
def z4u{gs:FGs}{R:Loc->Mem->Prop}{a b:D}(h:WGs gs [a,b] J O R):WG (gT 2 gs) (.tup [a,b]) J O R:=zDF rfl h
def zCE{gs:FGs}{R:Loc->Mem->Prop}{a b c:D}(h:WGs gs [a,b,c] J O R):WG (gT 3 gs) (.tup [a,b,c]) J O R:=zDF rfl h
def zYu{R:Loc->Mem->Prop}(q:R J O):WGs zRj [] J O R:=⟨_,_,rfl,q⟩
def zvm{t:FG}{gs:FGs}{R:Loc->Mem->Prop}(h:WG t d J O λJ1 O1=>WGs gs ds J1 O1 R):WGs (zPc t gs) (d::ds) J O R:=by
 obtain⟨J1,O1,e1,J2,O2,e2,q⟩:=h;exact⟨J2,O2,by simp[e1,e2],q⟩
variable {nx:Loc->Mem->Prop}{rt:D->Mem->Prop}{bk ct:Loc->Mem->Prop}{p q:FS}
def zDb(h:nx J O):WS zHc J O nx rt bk ct:=⟨.next J O,rfl,h⟩
def zB(h:WS p J O (λJ' O'=>WS q J' O' nx rt bk ct) rt bk ct):WS (zgb p q) J O nx rt bk ct:=by
 obtain⟨o,e,k⟩:=h
 cases o with
 |next J' O'=>obtain⟨o2,e2,k2⟩:=k;exact⟨o2,by simp[e,e2],k2⟩
 |ret d O'=>exact⟨.ret d O',by simp only[zgb,e],k⟩
 |brk d O'=>exact⟨.brk d O',by simp only[zgb,e],k⟩
 |cont d O'=>exact⟨.cont d O',by simp only[zgb,e],k⟩
 |exc _ _ _=>exact k.elim
def zMb{n:Nat}(h:WE G J O λd O'=>nx (J.set n (some d)) O'):WS (zxc n G) J O nx rt bk ct:=by
 obtain⟨d,O',e,k⟩:=h;exact⟨.next _ _,by simp only[zxc,e,yp],k⟩
def zCv{g:FG}(h:WE G J O λd O1=>WG g d J O1 nx):WS (z9x G g) J O nx rt bk ct:=by
 obtain⟨d,O1,e,J',O2,e2,k⟩:=h;exact⟨.next _ _,by simp only[z9x,e,yp,e2],k⟩
def zjl(h:WE G J O λ_ O'=>nx J O'):WS (zyj G) J O nx rt bk ct:=by
 obtain⟨d,O',e,k⟩:=h;exact⟨.next _ _,by simp only[zyj,e,yp],k⟩
def zFb(h:WE G J O rt):WS (zbc G) J O nx rt bk ct:=by
 obtain⟨d,O',e,k⟩:=h;exact⟨.ret _ _,by simp only[zbc,e,yp],k⟩
def zIi{c:FT}(h:WT c J O λb O1=>(b=true->WS p J O1 nx rt bk ct)/\(b=false->WS q J O1 nx rt bk ct)):WS (sIf c p q) J O nx rt bk ct:=by
 obtain⟨b,O1,e,h1,h2⟩:=h
 cases b with
 |true=>obtain⟨o,e2,k⟩:=h1 rfl;exact⟨o,by simp[e,e2],k⟩
 |false=>obtain⟨o,e2,k⟩:=h2 rfl;exact⟨o,by simp[e,e2],k⟩
def zHk{it:FI}{g:FG}{body:FS}(h:WI it J O λds ok O1=>WFor g body ok ds J O1 nx rt):WS (zMq it g body) J O nx rt bk ct:=by
 obtain⟨ds,ok,O1,e,o,e2,k⟩:=h;refine⟨o,by simp only[zMq,e,yp];exact e2,?_⟩
 cases o with
 |next _ _=>exact k
 |ret _ _=>exact k
 |brk _ _=>exact k.elim
 |cont _ _=>exact k.elim
 |exc _ _ _=>exact k.elim
def zCw{g:FG}{body:FS}{ok:Mem->Bool}{nx:Loc->Mem->Prop}{rt:D->Mem->Prop}(I:Nat->Loc->Mem->Prop):∀{xs:List D} {n:Nat} {J:Loc} {O:Mem},I n J O->(∀m J O,I m J O->ok O=true) ->
 (∀(m:Nat)(x:D)(J:Loc)(O:Mem),xs[m]?=some x->I (n+m) J O->WG g x J O λJ1 O1=>WS body J1 O1 (I (n+m+1)) rt nx (I (n+m+1)))->(∀J O,I (n+xs.length) J O->nx J O)->WFor g body ok xs J O nx rt
 |[],n,J,O,h0,hok,_,hend=>⟨.next J O,by simp only[zIk,hok _ _ _ h0,cond_true],hend J O h0⟩
 |x::xs,n,J,O,h0,hok,hs,hend=>by
  obtain⟨J1,O1,e1,o,e2,k⟩:=hs 0 x J O rfl h0
  cases o with
  |next J2 O2=>
   obtain⟨o3,e3,k3⟩:=zCw I (xs:=xs) (n:=n+1) (J:=J2) (O:=O2) k hok (λm y J O hy hI=>by
    have:=hs (m+1) y J O (by simpa using hy) (by rw[show n+(m+1)=n+1+m by omega];exact hI);rw[show n+(m+1)=n+1+m by omega]at this;exact this) (λJ O hI=>hend J O (by rw[length_cons,show n+(xs.length+1)=n+1+xs.length by omega];exact hI))
   exact⟨o3,by simp only[zIk,hok _ _ _ h0,cond_true,e1,yp,e2];exact e3,k3⟩
  |cont J2 O2=>
   obtain⟨o3,e3,k3⟩:=zCw I (xs:=xs) (n:=n+1) (J:=J2) (O:=O2) k hok (λm y J O hy hI=>by
    have:=hs (m+1) y J O (by simpa using hy) (by rw[show n+(m+1)=n+1+m by omega];exact hI);rw[show n+(m+1)=n+1+m by omega]at this;exact this) (λJ O hI=>hend J O (by rw[length_cons,show n+(xs.length+1)=n+1+xs.length by omega];exact hI))
   exact⟨o3,by simp only[zIk,hok _ _ _ h0,cond_true,e1,yp,e2];exact e3,k3⟩
  |brk J2 O2=>exact⟨.next J2 O2,by simp only[zIk,hok _ _ _ h0,cond_true,e1,yp,e2],k⟩
  |ret d O2=>exact⟨.ret d O2,by simp only[zIk,hok _ _ _ h0,cond_true,e1,yp,e2],k⟩
  |exc _ _ _=>exact k.elim
end
def zkA{g:FG}{c:FT}{G:FE}{ok:Mem->Bool}{J:Loc}{Q:D->Mem->Prop}(I:Nat->List D->Mem->Prop):∀{xs ys:List D} {n:Nat} {O:Mem},I n ys O->(∀m ys O,I m ys O->ok O=true) ->
 (∀(m:Nat)(x:D)(ys:List D)(O:Mem),xs[m]?=some x->I (n+m) ys O->WG g x J O λJ1 O1=>WT c J1 O1 λb O2=>(b=true->WE G J1 O2 λd O3=>I (n+m+1) (ys++[d]) O3)/\(b=false->I (n+m+1) ys O2)) ->
 (∀ys O,I (n+xs.length) ys O->Q (.loc O.length) (O++[.lst ys]))->WL g c G ok J xs ys O Q
 |[],ys,n,O,h0,hok,_,hend=>⟨_,_,by simp only[zay,hok _ _ _ h0,cond_true],hend ys O h0⟩
 |x::xs,ys,n,O,h0,hok,hs,hend=>by
  obtain⟨J1,O1,e1,b,O2,e2,ht,hf⟩:=hs 0 x ys O rfl h0
  have step:∀ys2 O3,I (n+1) ys2 O3->WL g c G ok J xs ys2 O3 Q:=λys2 O3 h=>zkA I (n:=n+1) h hok (λm y ys O hy hI=>by
   have:=hs (m+1) y ys O (by simpa using hy) (by rw[show n+(m+1)=n+1+m by omega];exact hI);rw[show n+(m+1)=n+1+m by omega]at this;exact this) (λys O hI=>hend ys O (by rw[length_cons,show n+(xs.length+1)=n+1+xs.length by omega];exact hI))
  cases b with
  |true=>
   obtain⟨d,O3,e3,h3⟩:=ht rfl;obtain⟨d',O4,e4,q⟩:=step _ _ h3;exact⟨d',O4,by simp only[zay,hok _ _ _ h0,cond_true,e1,yp,e2,e3];exact e4,q⟩
  |false=>
   obtain⟨d',O4,e4,q⟩:=step _ _ (hf rfl);exact⟨d',O4,by simp only[zay,hok _ _ _ h0,cond_true,e1,yp,e2,cond_false];exact e4,q⟩
def zTd{g:FG}{body:FS}{ok:Mem->Bool}{nx:Loc->Mem->Prop}{rt:D->Mem->Prop}{xs:List D}{J:Loc}{O:Mem}(I:Nat->Loc->Mem->Prop)(h0:I 0 J O)(hok:∀m J O,I m J O->ok O=true)
 (hs:∀(m:Nat)(x:D)(J:Loc)(O:Mem),xs[m]?=some x->I m J O->WG g x J O λJ1 O1=>WS body J1 O1 (I (m+1)) rt nx (I (m+1))) (hend:∀J O,I xs.length J O->nx J O):WFor g body ok xs J O nx rt :=
 zCw I (n:=0) h0 hok (λm x J O hx h=>by
  rw[Nat.zero_add]at h ⊢;exact hs m x J O hx h) (λJ O h=>hend J O (by rw[Nat.zero_add]at h;exact h))
def zFm{g:FG}{c:FT}{G:FE}{ok:Mem->Bool}{J:Loc}{Q:D->Mem->Prop}{xs:List D}{O:Mem}(I:Nat->List D->Mem->Prop)(h0:I 0 [] O)(hok:∀m ys O,I m ys O->ok O=true)
 (hs:∀(m:Nat)(x:D)(ys:List D)(O:Mem),xs[m]?=some x->I m ys O->WG g x J O λJ1 O1=>WT c J1 O1 λb O2=>(b=true->WE G J1 O2 λd O3=>I (m+1) (ys++[d]) O3)/\(b=false->I (m+1) ys O2))
 (hend:∀ys O,I xs.length ys O->Q (.loc O.length) (O++[.lst ys])):WL g c G ok J xs [] O Q :=
 zkA I (n:=0) h0 hok (λm x ys O hx h=>by
  rw[Nat.zero_add]at h ⊢;exact hs m x ys O hx h) (λys O h=>hend ys O (by rw[Nat.zero_add]at h;exact h))
def zCg{j m:Nat}{x:D}(h:((yt j).map λ(k:Nat)=>D.int k)[m]?=some x):m<j/\x=.int m:=by
 have h1:=(List.getElem?_eq_some_iff.mp h).1;simp at h1;refine⟨h1,?_⟩;simp[h1]at h;exact h.symm
def zbj{α:Type}{g:FG}{c:FT}{G:FE}{ok:Mem->Bool}{J:Loc}{Q:D->Mem->Prop}{O:Mem}(e:α->D)(l:List α)(f:α->D)(p:α->Bool)(hok:∀O',tw O O'->ok O'=true)
 (hs:∀x∈l,∀O',tw O O'->WG g (e x) J O' λJ1 O1=>WT c J1 O1 λb O2=>b=p x/\tw O O2/\(b=true->WE G J1 O2 λd O3=>d=f x/\tw O O3))
 (hq:∀O',tw O O'->Q (.loc O'.length) (O'++[.lst ((l.filter p).map f)])):WL g c G ok J (l.map e) [] O Q:=by
 refine zFm (λm ys O'=>tw O O'/\ys=((l.take m).filter p).map f) ⟨.refl,by simp⟩ (λm ys O' h=>hok O' h.1) (λm x ys O' hx h=>?_) (λys O' h=>?_)
 ·rw[yr]at hx
  cases hy:l[m]? with
  |none=>rw[hy]at hx;cases hx
  |some y=>
   rw[hy]at hx;cases hx;obtain⟨J1,O1,e1,b,O2,e2,hb,k2,h3⟩:=hs y (mem_of_getElem? hy) O' h.1
   have ht:l.take (m+1)=l.take m++[y]:=by
    rw[take_succ,hy];rfl
   refine⟨J1,O1,e1,b,O2,e2,λhb1=>?_,λhb1=>⟨k2,?_⟩⟩
   ·obtain⟨d,O3,e3,rfl,k3⟩:=h3 hb1;refine⟨_,_,e3,k3,?_⟩;rw[ht,List.filter_append,map_append,<-h.2,List.filter_cons_of_pos (by rw[<-hb,hb1])];rfl
   ·rw[ht,List.filter_append,map_append,<-h.2,List.filter_cons_of_neg (by rw[<-hb,hb1];exact yB)];simp
 ·rw[length_map,take_length]at h;rw[h.2];exact hq O' h.1
def zXb{α:Type}{g:FG}{G:FE}{ok:Mem->Bool}{J:Loc}{Q:D->Mem->Prop}{O:Mem}(e:α->D)(l:List α)(f:α->D)(hok:∀O',tw O O'->ok O'=true)
 (hs:∀x∈l,∀O',tw O O'->WG g (e x) J O' λJ1 O1=>WE G J1 O1 λd O3=>d=f x/\tw O O3/\tw O O1)
 (hq:∀O',tw O O'->Q (.loc O'.length) (O'++[.lst (l.map f)])):WL g zxh G ok J (l.map e) [] O Q :=
 zbj e l f (λ_=>true) hok (λx hx O' k=>by
  obtain⟨J1,O1,e1,d,O3,e3,h1,h2,h3⟩:=hs x hx O' k;exact⟨J1,O1,e1,true,O1,rfl,rfl,h3,λ_=>⟨d,O3,e3,h1,h2⟩⟩) (λO' k=>by rw[List.filter_eq_self.mpr (λ_ _=>rfl)];exact hq O' k)
def zjb{ds:List D}(h:ds.length<=1000000):few ds=true:=decide_eq_true h
def z9{n:Nat}{ds:List D}{O O':Mem}(h:O[n]?=some (.lst ds))(k:tw O O'):z9n n ds O'=true:=TH.mpr (k n _ h)
def zHB{ns:List Int}{k:Int}:k∈uqL ns↔k∈ns:=by
 unfold uqL;rw[zTw,List.mem_iff_getElem];constructor
 ·rintro⟨j,hj,h⟩;exact⟨j,hj,by simpa[hj] using h⟩
 ·rintro⟨j,hj,h⟩;exact⟨j,hj,by simpa[hj] using h⟩
def zEp{ns l:List Int}(h1:∀k,k∈l↔k∈ns)(h2:l.Pairwise (· < ·)):(uqL ns).Perm l:=by
 refine(List.perm_ext_iff_of_nodup (z0q _ _) (h2.imp λh=>Int.ne_of_lt h)).mpr λk=>?_;rw[h1];exact zHB
def zwu{ns l:List Int}(h1:∀k,k∈l↔k∈ns)(h2:l.Pairwise (· < ·)):z8y ns=l :=
 z7n ((List.mergeSort_perm _ _).trans (zEp h1 h2)) (zDw _) (h2.imp λh=>Int.le_of_lt h)
end M
namespace M
open PySem PySem.Spec PyProof.Rows L2
structure KB(L:List Nat)(O O':Mem):Prop where
 len:O.length<=O'.length
 at_:∀(n:Nat)(o:tD),n∉L->O[n]?=some o->O'[n]?=some o
section
variable {L:List Nat}{O O1 O2 O':Mem}{n:Nat}{o:tD}
def KB.refl:KB L O O:=⟨yk _,λ_ _ _ h=>h⟩
def KB.trans(a:KB L O O1)(b:KB L O1 O2):KB L O O2:=⟨yF a.len b.len,λn o h e=>b.at_ n o h (a.at_ n o h e)⟩
def KB.app{g:Mem}(a:KB L O O1):KB L O (O1++g):=⟨by simp;have:=a.len;omega,λn o h e=>zzb (a.at_ n o h e)⟩
def KB.set{m:Nat}(a:KB L O O1)(h:m∈L\/O.length<=m):KB L O (O1.set m o):=⟨by simp;exact a.len,λn o' hn e=>by
 rw[Yc]
 ·exact a.at_ n o' hn e
 ·rintro rfl;rcases h with h|h
  ·exact hn h
  ·exact absurd (zO e) (by omega)⟩
def KB.of_keep(a:tw O O'):KB L O O':=⟨a.len,λn o _ e=>a n o e⟩
def KB.sub{L':List Nat}(a:KB L O O')(h:∀n∈L,n∈L'\/O.length<=n):KB L' O O':=⟨a.len,λn o hn e=>a.at_ n o (λq=>by
 rcases h n q with h|h
 ·exact hn h
 ·exact absurd (zO e) (by omega)) e⟩
def KB.step{L':List Nat}(a:KB L O O1)(b:KB L' O1 O2)(h:∀n∈L',n∈L\/O.length<=n):KB L O O2:=⟨yF a.len b.len,λn o hn e=>b.at_ n o (λq=>by
 rcases h n q with h|h
 ·exact hn h
 ·exact absurd (zO e) (by omega)) (a.at_ n o hn e)⟩
variable {G ψ χ:FE}{g g2:φ2}{J:Loc}{Q:D->Mem->Prop}{i j:Int}{d x y:D}{ds xs:List D}
def z7t(h:WE G J O λx O1=>∃j:Int,x=.int j/\(-(2^62)<=j/\j<=1000000)/\Q (.loc O1.length) (O1++[.lst ((yt j.toNat).map λ(k:Nat) =>.int k)])):WE (zLp G) J O Q:=by
 obtain⟨x,O1,e1,j,rfl,h1,q⟩:=h;exact⟨_,_,by simp only[zLp,e1,yp];rw[decide_eq_true h1];rfl,q⟩
def z4D{n:Nat}{bs:List Bool}(h:O[n]?=some (.lst (bs.map .bl)))(q:Q (.bl (bs.any λb=>b)) O):WF zoE [.loc n] O Q:=⟨_,_,by simp[h,any_map,Function.comp_def],q⟩
def zKD(q:Q (.int i) O):WF zJF [.int i] O Q:=⟨_,_,rfl,q⟩
def z7D{b:Bool}(q:Q (.int (if b then 1 else 0)) O):WF zJF [.bl b] O Q:=⟨_,_,rfl,q⟩
def zLD(q:Q (.int (if j<i then j else i)) O):WF zkF [.int i,.int j] O Q:=⟨_,_,rfl,q⟩
def zvC(q:Q (.int (if j>i then j else i)) O):WF zvE [.int i,.int j] O Q:=⟨_,_,rfl,q⟩
def zAE{c:FT}(h:WT c J O λb O1=>(b=true->WE G J O1 Q)/\(b=false->WE ψ J O1 Q)):WE (fIf c G ψ) J O Q:=by
 obtain⟨b,O1,e,h1,h2⟩:=h
 cases b with
 |true=>obtain⟨d,O2,e2,k⟩:=h1 rfl;exact⟨d,O2,by simp[e,e2],k⟩
 |false=>obtain⟨d,O2,e2,k⟩:=h2 rfl;exact⟨d,O2,by simp[e,e2],k⟩
def zVz{l:Nat}{n:Int}(h:O[l]?=some (.lst xs))(h1:n<=1000)(h2:-(2^62)<=n)(h3:xs.length<=1000)(q:Q (.loc O.length) (O++[.lst (yy n.toNat xs).flatten])):W2 zjn (.loc l) (.int n) O Q :=
 ⟨_,_,by simp only[zjn,h];rw[decide_eq_true ⟨h1,h2,h3⟩];rfl,q⟩
def zNx{lo hi:FO}(h:WE G J O λx O1=>WO lo J O1 λl O2=>WO hi J O2 λu O3=>∃n ds,x=.loc n/\O3[n]?=some (.lst ds)/\Q (.loc O3.length) (O3++[.lst (cutD ds l u)])):WE (fSl G lo hi) J O Q:=by
 obtain⟨x,O1,e1,l,O2,e2,u,O3,e3,n,ds,rfl,e4,q⟩:=h;exact⟨_,_,by simp[e1,e2,e3,e4]<;>rfl,q⟩
def zJC{R:Loc->Mem->Prop}(h:WE G J O λx O1=>WE ψ J O1 λy O2=>∃(n:Nat)(i:Int)(zs:List D),x=.loc n/\y=.int i/\O2[n]?=some (.lst zs)/\(0<=i/\i<zs.length)/\R J (O2.set n (.lst (zs.set i.toNat d)))):WG (gAt G ψ) d J O R:=by
 obtain⟨x,O1,e1,y,O2,e2,n,i,zs,rfl,rfl,e3,hi,q⟩:=h;have e4:ixN zs.length i=some i.toNat:=by unfold ixN;rw[if_pos hi.1,if_pos hi.2]
 exact⟨_,_,by simp[e1,e2,e3,e4]<;>rfl,q⟩
end
abbrev nat(S:List Nat):List D:=S.map λ(k:Nat)=>D.int k
def zWk(a b:List Nat):nat (a++b)=nat a++nat b:=map_append
def zNh{α:Type}(f:α->Nat)(l:List α):nat (l.map f)=l.map λa=>D.int (f a:Nat):=map_map
def zkB(S:List Nat)(i k:Nat):nat (S.set i k)=(nat S).set i (.int k):=List.map_set
class Enc(α:Type) where
 d:α->D
 p:α->xI
 dep:Nat
 rd:∀(O:Mem)(n:Nat)(a:α),toP O (n+dep) (d a)=some (p a)
 eq:∀a b:α,Ym (p a) (p b)=true↔a=b
instance:Enc Int:=⟨.int,.int,1,λ_ _ _=>rfl,λa b=>by simp[Ym]⟩
instance:Enc Nat:=⟨λ(k:Nat) =>.int k,λ(k:Nat) =>.int k,1,λ_ _ _=>rfl,λa b=>by simp[Ym];omega⟩
instance:Enc Bool:=⟨.bl,.bool,1,λ_ _ _=>rfl,λa b=>by simp[Ym]⟩
abbrev onD:Option Nat->D
 |none =>.non
 |some k =>.int k
instance:Enc (Option Nat):=⟨onD,fun|none =>.none|some k =>.int k,1,λ_ _ a=>by cases a<;>rfl,λa b=>by cases a<;>cases b<;>simp[Ym];omega⟩
def zmi{α:Type}[Enc α]:∀xs ys:List α,Xh (xs.map Enc.p) (ys.map Enc.p)=true↔xs=ys
 |[],[]=>by simp[Xh]
 |[],y::ys=>by simp[Xh]
 |x::xs,[]=>by simp[Xh]
 |x::xs,y::ys=>by
  rw[map_cons,map_cons,Xh,yK,Enc.eq,zmi xs ys,List.cons.injEq]
def SF{α:Type}[Enc α](O:Mem)(n:Nat):∀xs:List α,(xs.map Enc.d).mapM (toP O (n+Enc.dep α))=some (xs.map Enc.p)
 |[]=>rfl
 |x::xs=>by rw[map_cons,mapM_cons,SF O n xs,Enc.rd];rfl
instance instEncList{α:Type}[Enc α]:Enc (List α):=⟨λxs =>.tup (xs.map Enc.d),λxs =>.tuple (xs.map Enc.p),Enc.dep α+1,λO n xs=>by
 show((xs.map Enc.d).mapM (toP O (n+Enc.dep α))).bind (λps=>some (PyData.tuple ps))=_;rw[SF];rfl,λa b=>by rw[Ym];exact zmi a b⟩
def z7l{O:Mem}{α:Type}[Enc α](a:α)(h:Enc.dep α<=8):toP O 8 (Enc.d a)=some (Enc.p a):=by
 have:=Enc.rd O (8-Enc.dep α) a;rw[Nat.sub_add_cancel h]at this;exact this
def zGi{b:Bool}{p:Prop}[Decidable p](h:b=true↔p):b=decide p:=by
 cases b<;>simp_all
section
variable {G ψ χ:FE}{g g2:φ2}{J:Loc}{O:Mem}{Q:D->Mem->Prop}{i j:Int}{d x y:D}{ds xs:List D}{α:Type}[Enc α][DecidableEq α]
def z4B(a b:α)(q:Q (.bl (decide (a=b))) O)(hx:x=Enc.d a:=by rfl)(hy:y=Enc.d b:=by rfl)(h:Enc.dep α<=8:=by decide):W2 gEq x y O Q:=by
 subst hx hy;exact zoF (z7l a h) (z7l b h) (by rw[zGi (Enc.eq a b)];exact q)
def znF(a b:α)(q:Q (.bl (!decide (a=b))) O)(hx:x=Enc.d a:=by rfl)(hy:y=Enc.d b:=by rfl)(h:Enc.dep α<=8:=by decide):W2 gNe x y O Q:=by
 subst hx hy;exact zHE (z7l a h) (z7l b h) (by rw[zGi (Enc.eq a b)];exact q)
def zem{n:Nat}(as:List α)(e:O[n]?=some (.lst (as.map Enc.d)))(h:Enc.dep α<=7):toP O 8 (.loc n)=some (.list (as.map Enc.p)):=by
 show(match O[n]? with
  |some (.lst ds)=>(ds.mapM (toP O 7)).bind λps=>some (PyData.list ps)
  |_=>none)=_
 rw[e];show((as.map Enc.d).mapM (toP O 7)).bind (λps=>some (PyData.list ps))=_;have:=SF O (7-Enc.dep α) as;rw[Nat.sub_add_cancel h]at this;rw[this];rfl
def zdD(as bs:List α){m n:Nat}(e1:O[m]?=some (.lst (as.map Enc.d)))(e2:O[n]?=some (.lst (bs.map Enc.d)))(q:Q (.bl (decide (as=bs))) O)(h:Enc.dep α<=7:=by decide):W2 gEq (.loc m) (.loc n) O Q :=
 zoF (zem as e1 h) (zem bs e2 h) (by rw[Ym,zGi (zmi as bs)];exact q)
def zlF(as bs:List α){m n:Nat}(e1:O[m]?=some (.lst (as.map Enc.d)))(e2:O[n]?=some (.lst (bs.map Enc.d)))(q:Q (.bl (!decide (as=bs))) O)(h:Enc.dep α<=7:=by decide):W2 gNe (.loc m) (.loc n) O Q :=
 zHE (zem as e1 h) (zem bs e2 h) (by rw[Ym,zGi (zmi as bs)];exact q)
def zpu(S:List Nat):(nat S).all zge=true:=List.all_eq_true.mpr λx hx=>by
 obtain⟨k,_,rfl⟩:=List.mem_map.mp hx;rfl
def z8v(k:Nat):∀S:List Nat,((nat S).any λd=>eqF d (.int k))=decide (k∈S):=λS=>by
 refine zGi ?_;rw[any_eq_true];constructor
 ·rintro⟨x,hx,e⟩;obtain⟨j,hj,rfl⟩:=List.mem_map.mp hx;have h1:(j:Int)=k:=beq_iff_eq.mp (show((j:Int)==(k:Int))=true from e);have h2:j=k:=by omega
  exact h2▸hj
 ·intro h;exact⟨.int k,List.mem_map.mpr ⟨k,h,rfl⟩,(show((k:Int)==(k:Int))=true from beq_self_eq_true _)⟩
def zcu{k:Nat}{S:List Nat}(h:items O y=some (nat S))(q:Q (.bl (!decide (k∈S))) O):W2 zyl (.int k) y O Q:=zdt h rfl (zpu S) (by rw[z8v];exact q)
def zQx(S:List (Option Nat)):(S.map onD).all zge=true:=List.all_eq_true.mpr λx hx=>by
 obtain⟨k,_,rfl⟩:=List.mem_map.mp hx;cases k<;>rfl
def zUD(a b:Option Nat):eqF (onD a) (onD b)=decide (a=b):=by
 cases a<;>cases b<;>try rfl
 rename_i a b
 show(((a:Nat):Int)==(b:Nat))=decide (some a=some b);rw[xL,beq_iff_eq,decide_eq_true_iff,Option.some.injEq,Int.natCast_inj]
def zfA{n:Nat}{S:List Nat}(h:O[n]?=some (.lst (nat S)))(q:Q (.int (S.sum:Nat)) O):WF zoC [.loc n] O Q:=by
 refine zIE (ns:=S.map λ(k:Nat)=>(k:Int)) (by rw[h];simp) ?_
 have:(S.map λ(k:Nat)=>(k:Int)).sum=((S.sum:Nat):Int):=by
  clear h q
  induction S with
  |nil=>rfl
  |cons a S ih=>rw[map_cons,sum_cons,sum_cons,ih];omega
 rw[this];exact q
def zhm{S:List Nat}{i:Nat}(h:i<S.length):atI (nat S) (i:Int)=some (.int (S.getD i 0:Nat)):=zuc (by simp[h])
end
section
variable {G ψ χ:FE}{g g2:φ2}{J:Loc}{O:Mem}{Q:D->Mem->Prop}{i j:Int}{d x y:D}{ds xs:List D}
def zql{R:List D->(Mem->Bool)->Mem->Prop}(h:WE G J O λx O1=>(∃ds,x=.tup ds/\R (zdk ds) yes O1)\/(∃ds,x=.fz ds/\R (zdk ds) yes O1)\/∃n ds,x=.loc n/\O1[n]?=some (.lst ds)/\R (zdk ds) (z9n n ds) O1):WI (zDq G) J O R:=by
 obtain⟨x,O1,e1,⟨ds,rfl,q⟩|⟨ds,rfl,q⟩|⟨n,ds,rfl,e2,q⟩⟩:=h
 ·exact⟨_,_,_,by simp[e1]<;>rfl,q⟩
 ·exact⟨_,_,_,by simp[e1]<;>rfl,q⟩
 ·exact⟨_,_,_,by simp[e1,e2]<;>rfl,q⟩
def zov{α:Type}{f:α->D}{xs:List α}{m:Nat}{x:D}(h:(zdk (xs.map f))[m]?=some x):∃y,xs[m]?=some y/\x=.tup [.int m,f y]:=by
 obtain⟨z,hz,rfl⟩:=zzp h;rw[yr]at hz
 cases e:xs[m]? with
 |none=>rw[e]at hz;cases hz
 |some y=>rw[e]at hz;cases hz;exact⟨y,rfl,rfl⟩
def zpw{n:Nat}(h:O[n]?=some (.lst xs))(h1:zge d=true)(h2:xs.all zge=true)(q:Q (.int (xs.countP λy=>eqF y d:Nat)) O):WM zLi (.loc n) [d] O Q:=⟨_,_,by simp only[zLi,h,h1,h2,Bool.and_self,cond_true],q⟩
def zzx{n k:Nat}{S:List Nat}(h:O[n]?=some (.lst (nat S)))(hk:k∈S)(q:Q .non (O.set n (.lst (nat (S.erase k))))):WM zRk (.loc n) [.int k] O Q:=by
 have e1:nat S=(S.map λ(k:Nat)=>(k:Int)).map D.int:=by simp
 have e2:∀T:List Nat,(T.map λ(k:Nat)=>(k:Int)).erase (k:Int)=(T.erase k).map λ(k:Nat)=>(k:Int):=λT=>by
  induction T with
  |nil=>rfl
  |cons t T ih=>
   rw[map_cons]
   by_cases ht:t=k
   ·subst ht;simp
   ·rw[List.erase_cons_tail (by simp;omega),List.erase_cons_tail (by simpa using ht),ih];rfl
 have e3:(S.map λ(k:Nat)=>(k:Int)).contains (k:Int)=true:=by
  rw[List.contains_iff_mem];exact List.mem_map.mpr ⟨k,hk,rfl⟩
 refine⟨.non,_,?_,q⟩;simp only[zRk,h];rw[e1,z6m];simp only[yp,e3,cond_true,e2];rw[map_map];rfl
variable {nx:Loc->Mem->Prop}{rt:D->Mem->Prop}{bk ct:Loc->Mem->Prop}{p q:FS}
def zWE{i:Nat}{g:φ2}{x:D}(hx:J[i]?=some (some x))(h:WE G J O λy O1=>W2 g x y O1 λd O2=>nx (J.set i (some d)) O2):WS (zhD i g G) J O nx rt bk ct:=by
 obtain⟨y,O1,e1,d,O2,e2,k⟩:=h;exact⟨.next _ _,by simp only[zhD,hx,e1,yp,e2],k⟩
def z8C{i j:Int}{Q:D->Mem->Prop}(q:Q (.int (i+j)) O):W2 z3w (.int i) (.int j) O Q:=⟨_,_,rfl,q⟩
def zIp{c:FT}{body:FS}(I:Nat->Loc->Mem->Prop):∀{n m:Nat} {J:Loc} {O:Mem},m<n->I m J O ->
 (∀m J O,I m J O->WT c J O λb O1=>(b=true->WS body J O1 (λJ' O'=>∃m',m'<m/\I m' J' O') rt nx (λJ' O'=>∃m',m'<m/\I m' J' O'))/\(b=false->nx J O1))->WS (z4q n c body) J O nx rt bk ct
 |0,m,J,O,h,_,_=>absurd h (Nat.not_lt_zero _)
 |n+1,m,J,O,h,h0,hs=>by
  obtain⟨b,O1,e1,ht,hf⟩:=hs m J O h0
  cases b with
  |false=>exact⟨.next J O1,by show zOc c body (n+1) J O=_;simp only[zOc,e1,yp,cond_false],hf rfl⟩
  |true=>
   obtain⟨o,e2,k⟩:=ht rfl
   have step:∀J' O',(∃m',m'<m/\I m' J' O')->∃o,zOc c body n J' O'=some o/\Ek nx rt bk ct o:=λJ' O' ⟨m',hm',hI⟩=>by
    obtain⟨o,e,k⟩:=zIp I (n:=n) (m:=m') (by omega) hI hs;exact⟨o,e,k⟩
   cases o with
   |next J' O'=>obtain⟨o,e3,k3⟩:=step J' O' k;exact⟨o,by show zOc c body (n+1) J O=_;simp only[zOc,e1,yp,cond_true,e2];exact e3,k3⟩
   |cont J' O'=>obtain⟨o,e3,k3⟩:=step J' O' k;exact⟨o,by show zOc c body (n+1) J O=_;simp only[zOc,e1,yp,cond_true,e2];exact e3,k3⟩
   |brk J' O'=>exact⟨.next J' O',by show zOc c body (n+1) J O=_;simp only[zOc,e1,yp,cond_true,e2],k⟩
   |ret d O'=>exact⟨.ret d O',by show zOc c body (n+1) J O=_;simp only[zOc,e1,yp,cond_true,e2],k⟩
   |exc _ _ _=>exact k.elim
end
def zee{α:Type}(f:α->D)(xs:List α)(d:α):zdk (xs.map f)=(yt xs.length).map λ(k:Nat) =>.tup [.int k,f (xs.getD k d)]:=by
 refine List.ext_getElem? λi=>?_;unfold zdk;simp only[yr,List.getElem?_zipIdx]
 by_cases h:i<xs.length
 ·simp[h]
 ·simp[h]
def zWz{s:yn}{O:Mem}{Q:D->Mem->Prop}(q:Q (.bl true) O):WF (z8x .str) [.str s,.ty "str"] O Q:=zqF (c:=.str) (t:=.str) rfl q
def zPB{G ψ χ:FE}{g g':φ2}{J:Loc}{O:Mem}{Q:D->Mem->Prop}(h:WE G J O λx O1=>WE ψ J O1 λy O2=>W2 g x y O2 λr O3=>∃b,r=.bl b/\(b=true->WE χ J O3 λz O4=>W2 g' y z O4 Q)/\(b=false->Q (.bl false) O3)):WE (zQo g g' G ψ χ) J O Q:=by
 obtain⟨x,O1,e1,y,O2,e2,r,O3,e3,b,rfl,h1,h2⟩:=h
 cases b with
 |true=>obtain⟨z,O4,e4,d,O5,e5,q⟩:=h1 rfl;exact⟨d,O5,by simp[e1,e2,e3,e4,e5],q⟩
 |false=>exact⟨_,O3,by simp[e1,e2,e3],h2 rfl⟩
abbrev oiD:Option Int->D
 |none =>.non
 |some k =>.int k
instance:Enc (Option Int):=⟨oiD,fun|none =>.none|some k =>.int k,1,λ_ _ a=>by cases a<;>rfl,λa b=>by cases a<;>cases b<;>simp[Ym]⟩
def zlz:D->Bool
 |.non=>true
 |_=>false
def zUE{d:D}{O:Mem}{Q:D->Mem->Prop}(h:zge d=true)(q:Q (.bl (zlz d)) O):W2 gIs d .non O Q:=by
 cases d<;>first|exact⟨_,_,rfl,q⟩|cases h
def zij{d:D}{O:Mem}{Q:D->Mem->Prop}(h:zge d=true)(q:Q (.bl (!zlz d)) O):W2 ztk d .non O Q:=by
 cases d<;>first|exact⟨_,_,rfl,q⟩|cases h
def zbm(a:Option Nat):zge (onD a)=true:=by cases a<;>rfl
def zfC(ds:List D)(h:Nat):Nat:=ds.countP λy=>eqF y (.int h)
def zEw(lay:List (Option Nat))(h:Nat):zfC (lay.map onD) h=lay.count (some h):=by
 unfold zfC List.count;rw[List.countP_map]
 congr 1
 funext a
 have:=zUD a (some h);show eqF (onD a) (onD (some h))=_;rw[this];exact(Bool.beq_eq_decide_eq a (some h)).symm
def zJx{n:Nat}{lay:List (Option Nat)}{h:Nat}{O:Mem}{Q:D->Mem->Prop}(e:O[n]?=some (.lst (lay.map onD)))(q:Q (.int (lay.count (some h):Nat)) O):WM zLi (.loc n) [.int h] O Q :=
 zpw e rfl (zQx lay) (by rw[show(lay.map onD).countP (λy=>eqF y (.int h))=lay.count (some h) from zEw lay h];exact q)
def zvo{n m:Nat}{p:Nat->Bool}(h:p m=true)(hlt:m<n)(hb:∀j<m,p j=false):(yt n).find? p=some m:=by
 rw[List.find?_eq_some_iff_append];refine⟨h,yt m,(List.range' (m+1) (n-m-1)),?_,λa ha=>by simp[hb a (by simpa using ha)]⟩
 have:yt n=yt m++List.range' m (n-m):=by
  have e:n=m+(n-m):=by omega
  have:=List.range'_append_1 (s:=0) (m:=m) (n:=n-m);rw[<-e]at this;rw[List.range_eq_range',List.range_eq_range',<-this];simp
 rw[this,show n-m=(n-m-1)+1 by omega,List.range'_succ];simp
def zEh{n:Nat}{p:Nat->Bool}(h:∀j<n,p j=false):(yt n).find? p=none:=by
 rw[List.find?_eq_none];intro x hx;rw[h x (by simpa using hx)];exact yB
section
variable {G ψ χ:FE}{g g2:φ2}{J:Loc}{O:Mem}{Q:D->Mem->Prop}{i j:Int}{d x y:D}{ds xs:List D}{kvs:List (Int×D)}{n:Nat}
def zep(h:O[n]?=some (.dct kvs)):zNd O (.loc n)=some kvs:=by simp[h]
def zFk(h:O[n]?=some (.dcf kvs)):zNd O (.loc n)=some kvs:=by simp[h]
def zID(h:zNd O x=some kvs)(h2:zAf kvs i=some d)(q:Q d O):W2 z5B x (.int i) O Q:=⟨_,_,by simp only[z5B,h,yp,h2],q⟩
def z3D(h:zNd O y=some kvs)(q:Q (.bl (zAf kvs i).isSome) O):W2 zMs (.int i) y O Q:=⟨_,_,by simp only[zMs,h,yp],q⟩
def zMD(h:zNd O y=some kvs)(h2:kvs.all (λp=>decide (0<=p.1/\p.1<1000))=true)(q:Q (.bl false) O):W2 zMs .non y O Q:=⟨_,_,by simp only[zMs,h,yp,h2,cond_true],q⟩
def z7y(h:zNd O y=some kvs)(q:Q (.bl (!(zAf kvs i).isSome)) O):W2 zbn (.int i) y O Q:=⟨_,_,by simp only[zbn,h,yp],q⟩
def zmA{R:Loc->Mem->Prop}(h:WE G J O λx O1=>WE ψ J O1 λy O2=>∃(n:Nat)(i:Int)(kvs:List (Int×D)),x=.loc n/\y=.int i/\O2[n]?=some (.dct kvs)/\kvs.length<=1000000/\R J (O2.set n (.dct (zux kvs i d)))):WG (zrE G ψ) d J O R:=by
 obtain⟨x,O1,e1,y,O2,e2,n,i,kvs,rfl,rfl,e3,hi,q⟩:=h;exact⟨_,_,by simp[e1,e2,e3,hi]<;>rfl,q⟩
def zSB(h:zNd O x=some kvs)(q:Q (.loc O.length) (O++[.lst (zNm kvs)])):WF zwr [x] O Q:=⟨_,_,by simp only[zwr,h,yp],q⟩
def zAB{R:List D->(Mem->Bool)->Mem->Prop}(h:WE G J O λx O1=>∃n kvs,x=.loc n/\O1[n]?=some (.dct kvs)/\R (zNm kvs) yes (O1.set n (.dcf kvs))):WI (z1A G) J O R:=by
 obtain⟨x,O1,e1,n,kvs,rfl,e2,q⟩:=h;exact⟨_,_,_,by simp[e1,e2]<;>rfl,q⟩
def zRD(h:WE G J O λx O1=>∃n ds,x=.loc n/\O1[n]?=some (.lst ds)/\Q (.loc O1.length) (O1++[.lst ds.reverse])):WE (z4y G) J O Q:=by
 obtain⟨x,O1,e1,n,ds,rfl,e2,q⟩:=h;exact⟨_,_,by simp[z4y,e1,e2]<;>rfl,q⟩
end
end M
namespace M
open PySem PySem.Spec PyProof.Rows L2 PySem.Builtin PySem.Builtin.Str
section
variable {G:FE}{J:Loc}{O:Mem}{Q:D->Mem->Prop}
def zub{m:GM}{α:FA}(h:WE G J O λx O1=>∃z,x=.str z/\WA α J O1 λds O2=>WM m (.str z) ds O2 Q):WE (zLb m G α) J O Q:=by
 obtain⟨d,O1,e,z,rfl,ds,O2,e2,d',O',e3,q⟩:=h;exact⟨d',O',by simp[e,e2,e3],q⟩
def zHh{n:Nat}{ys:List yn}{z:yn}(h:O[n]?=some (.lst (ys.map .str)))(hl:(ys.map (·.length)).sum+ys.length*z.length<=1000000)(q:Q (.str (YH z ys)) O):WM z4i (.str z) [.loc n] O Q :=
 ⟨_,_,by simp only[z4i,h,zNr,yp,decide_eq_true hl,cond_true],q⟩
def zMd{z y:yn}{ds:List D}(hs:(xh z y).map D.str=ds)(h:z.length<=1000000)(h1:1<=y.length)(q:Q (.loc O.length) (O++[.lst ds])):WM zUd (.str z) [.str y] O Q :=
 ⟨_,_,by simp only[zUd];rw[decide_eq_true ⟨h,h1⟩,hs];rfl,q⟩
def zED{z y:yn}(q:Q (.int (Txt.find z y)) O):WM zdx (.str z) [.str y] O Q:=⟨_,_,rfl,q⟩
def zHt{x:yn}{n:Int}(h:intText? x=some n)(hl:x.length<=640)(q:Q (.int n) O):WF zFq [.str x] O Q :=
 ⟨_,_,by simp only[zFq];rw[decide_eq_true hl,h];rfl,q⟩
def zau{a b:yn}(h:a.length+b.length<=1000000)(q:Q (.str (a++b)) O):W2 zor (.str a) (.str b) O Q :=
 ⟨_,_,by simp only[zor];rw[decide_eq_true h];rfl,q⟩
def z3n{a:yn}(h:a.length<=1000000)(q:Q (.int a.length) O):WF zcr [.str a] O Q :=
 ⟨_,_,by simp only[zcr];rw[decide_eq_true h];rfl,q⟩
def zxp{a b:yn}(q:Q (.bl (occurrences b a 0 b.length 1).isEmpty) O):W2 zhn (.str a) (.str b) O Q:=⟨_,_,rfl,q⟩
def zkr{z:yn}{i:Int}{c:Nat}(h:z.length<=1000000)(e:atI z.cps.toList i=some c)(q:Q (.str ⟨#[c]⟩) O):W2 zBx (.str z) (.int i) O Q :=
 ⟨_,_,by simp only[zBx];rw[decide_eq_true h,e];rfl,q⟩
def zBr{i:Int}(h:i.natAbs.log2<1920)(q:Q (.str (toString i)) O):WF zFn [.int i] O Q :=
 ⟨_,_,by simp only[zFn];rw[decide_eq_true h];rfl,q⟩
def zgA{R:List D->(Mem->Bool)->Mem->Prop}(h:WE G J O λx O1=>∃z,x=.str z/\z.cps.all (· < 128)=true/\R (zBm z) yes O1):WI (zjE G) J O R:=by
 obtain⟨d,O1,e,z,rfl,h1,q⟩:=h;exact⟨_,_,_,by simp only[zjE,e,yp,h1,cond_true],q⟩
end
end M
namespace M
open PySem PySem.Spec PyProof.Rows L2
section
variable {G χ:FE}{ψ:FA}{J:Loc}{O:Mem}{Q:D->Mem->Prop}{c f m:yn}
def ztD(h:WE G J O λx O1=>∃n fs d,x=.loc n/\O1[n]?=some (.ins c fs)/\fs.lookup f=some d/\Q d O1):WE (zmC c f G) J O Q:=by
 obtain⟨x,O1,e,n,fs,d,rfl,h1,h2,q⟩:=h;exact⟨d,O1,by simp only[zmC,e,yp,h1,beq_self_eq_true,cond_true,h2],q⟩
def znx{nx:Loc->Mem->Prop}{rt:D->Mem->Prop}{bk ct:Loc->Mem->Prop}(h:WE χ J O λy O1=>WE G J O1 λx O2=>∃n fs,x=.loc n/\O2[n]?=some (.ins c fs)/\fs.length<1000/\nx J (O2.set n (.ins c (zLm f y fs)))):WS (zdv c f G χ) J O nx rt bk ct:=by
 obtain⟨y,O1,e1,x,O2,e2,n,fs,rfl,h1,h2,q⟩:=h;exact⟨.next J _,by simp only[zdv,e1,e2,yp,h1,beq_self_eq_true,decide_eq_true h2,Bool.and_self,cond_true],q⟩
def zGx{R:List D->Mem->Prop}(h:WE G J O λx O1=>∃n fs,x=.loc n/\O1[n]?=some (.ins c fs)/\fs.lookup m=none/\WA ψ J O1 λds O2=>R (.loc n::ds) O2):WA (zKl c m G ψ) J O R:=by
 obtain⟨x,O1,e,n,fs,rfl,h1,h2,ds,O2,e2,q⟩:=h;exact⟨_,O2,by simp only[zKl,e,yp,h1,h2,beq_self_eq_true,Option.isNone_none,Bool.and_self,cond_true,e2],q⟩
def zqA{F:FF}(h:WA ψ J O λds O1=>WF F (.loc O1.length::ds) (O1++[.ins c []]) λd O2=>d=.non/\Q (.loc O1.length) O2):WE (z3u c F ψ) J O Q:=by
 obtain⟨ds,O1,e,d,O2,e2,rfl,q⟩:=h;exact⟨_,O2,by simp only[z3u,e,yp,e2],q⟩
end
end M
namespace M
open PySem PySem.W PyProof.Rows L2
def zct{h:yS}:∀{as:List yc} {a:yc} {o:YS},(kOf as h).lookup a=some o->h.get? a=some o
 |[],a,o,e=>by cases e
 |b::as,a,o,e=>by
  unfold kOf at e;rw[filterMap_cons]at e
  cases hb:h.get? b with
  |none=>rw[hb]at e;exact zct (as:=as) e
  |some u=>
   rw[hb]at e
   change xm a ((b,u)::kOf as h)=some o at e
   rw[lookup_cons]at e
   by_cases q:a==b
   ·rw[q]at e;cases e;rw[eq_of_beq q];exact hb
   ·rw[Bool.not_eq_true]at q;rw[q]at e;exact zct (as:=as) e
def zPA{h:yS}:(zyz h).In h:=λ_ _ e=>zct e
def z2y(s:yR):zOA s=zQe s:=by cases s<;>rfl
def zvy(s:yR):z4A s=zQd s:=by cases s<;>rfl
def zAx(s:yR):zUx s=zu s:=by cases s<;>rfl
def zwj{K:Frag}{a:yc}{nm qual:yn}{st:yR}(e:zol K a qual=zen nm qual st):∃(oc:yb)(od:Option yc)(sl:Array (Option yb)) (kV dc pm:yb) (an:Option yc) (cd ct:yb),
 K.lookup a=some ⟨oc,od,.func (fnOf nm qual (zQe st) (zQd st) (zu st) .none kV dc pm an cd ct),sl⟩/\codeIn K cd qual=true/\keepIn K (.ref a)=true:=by
 rw[<-z2y,<-zvy,<-zAx];unfold zol at e
 split at e
 ·rename_i oc od fd sl hl
  obtain⟨x1,x2,x3,x4,x5,x6,x7,x8,x9,x10,x11,x12,x13,x14,x15⟩:=fd;have e:=yW e;simp only[TR.mk.injEq]at e;obtain⟨rfl,rfl,rfl,rfl,rfl,rfl,rfl,rfl,rfl,h1,h2⟩:=e;exact⟨_,_,_,_,_,_,_,_,_,hl,h1,h2⟩
 ·cases e
def fnl{K:Frag}{nm:yn}{st:yR}{l l':List (Option TR)}(e:zQ K nm::l=zR nm st::l'):(∃(f:yc)(oc:yb)(od:Option yc)(sl:Array (Option yb)) (kV dc pm:yb) (an:Option yc) (cd ct:yb),
 nsIn K yi nm=some (some (.ref f))/\K.lookup f=some ⟨oc,od,.func (fnOf nm nm (zQe st) (zQd st) (zu st) .none kV dc pm an cd ct),sl⟩/\codeIn K cd nm=true/\keepIn K (.ref f)=true)/\l=l':=by
 obtain⟨h1,h2⟩:=yh e;refine⟨?_,h2⟩;unfold zQ at h1
 split at h1
 ·rename_i a ha
  obtain⟨oc,od,sl,kV,dc,pm,an,cd,ct,q⟩:=zwj (show zol K a nm=zen nm nm st from h1);exact⟨a,oc,od,sl,kV,dc,pm,an,cd,ct,ha,q⟩
 ·cases h1
def fnc{K:Frag}{nm:yn}{st:yR}{l l':List (Option TR)}(e:zQ K nm::l=zR nm st::l'):(∃(f:yc)(fd:yf),nsIn K yi nm=some (some (.ref f))/\Fun K nm nm st f fd)/\l=l':=by
 obtain⟨⟨f,oc,od,sl,kV,dc,pm,an,cd,ct,a,l,c,k⟩,e⟩:=fnl e;exact⟨⟨f,_,a,zlp l c k⟩,e⟩
def z0h{K:Frag}{nm:yn}{i:Int}(e:zcj K nm=some i):∃t,nsIn K yi nm=some (some (.int i t)):=by
 unfold zcj at e
 split at e
 ·rename_i h
  cases e;exact⟨_,h⟩
 ·cases e
def zns{K:Frag}{nm:yn}{i:yn}(e:zBp K nm=some i):∃t,nsIn K yi nm=some (some (.str i t)):=by
 unfold zBp at e
 split at e
 ·rename_i h
  cases e;exact⟨_,h⟩
 ·cases e
def SG{l:OpenLaw}{q:yu}{loose:List yn}{d:DefRec}{α:Type}{obs:Frag->α}{good:α}{N:Nat}(said:l.wellSaid=true)
 (left:LeftO l.prog q loose (λ_=>true) (λs=>obs (zyz s.heap)) (λ_=>good) N) (hdef:defOf q l.name=some (d,[])) (hp:l.prog.theDef l.name=some (d.params,d.body,d.scope))
 (hk:kwWritten? d.params.kwonlyargs d.params.kw_defaults=some []) (ok:(chainsOk q&&opensWell l.prog&&(frees l.row.toRowW&&l.row.within.isEmpty))=true) (hb:l.prog.bare) (hw:l.row.toRowW.promised)
 (walk:∀K:Frag,obs K=good->WalkO q loose (λ_ _=>True) (λ_ h=>K.In h) l.row.toRowW d [] λf vs=>PySem.call f vs):l.Holds:=by
 refine holds_law said λsaid=>?_
 refine holds_open (r:=l.row) (q:=q) (loose:=loose) (Xt:=λ_=>true) (XP:=λ_ _=>True) (Yf:=λs=>obs (zyz s.heap)) (Ya:=λ_=>good) (YP:=λ_ h=>∃K:Frag,obs K=good/\K.In h) (N:=N) left
  (λw s e=>⟨_,e,zPA⟩) (λw h h' ⟨K,e,k⟩ x=>⟨K,e,k.keeps x⟩) (λ_ _=>trivial) (λ_ _ _ _ _=>trivial) hdef hp hk (λs _=>?_) ?_ said ok hb hw (λw s₀ s₁ mg mb φ σ=>?_)
 ·exact(show RecFacts [] s.heap from⟨λx h=>(nomatch h),λx h=>(nomatch h),λc c' a hc=>(nomatch hc),λc fs hf=>(nomatch hf)⟩)
 ·show(!l.row.writes||true)=true;exact Bool.or_true _
 ·obtain⟨K,e,k⟩:=σ;exact walk K e w s₀ s₁ mg mb φ k
end M
namespace M
open PySem PySem.W PyProof.Rows L2
end M
namespace M
open PySem PySem.W PyProof.Rows L2
def zIt:∀(es:List Xf)(l:List (yn×yb)),es.mapM zrr=some l->(es.all λe=>isExactStrKey e.key)=true/\∀s v,l.lookup s=some v->∃i en,es.findIdx? (·.key.isStr s)=some i/\es[i]?=some en/\en.val=v
 |[],l,h=>by
  cases h;exact⟨rfl,λs v e=>by cases e⟩
 |e::es,l,h=>by
  rw[mapM_cons]at h
  cases hr:zrr e with
  |none=>rw[hr]at h;cases h
  |some p=>
   rw[hr]at h
   cases hm:es.mapM zrr with
   |none=>rw[hm]at h;cases h
   |some l'=>
    rw[hm]at h;cases h;obtain⟨h1,h2⟩:=zIt es l' hm;unfold zrr at hr
    split at hr
    ·rename_i s0 t hk
     cases hr;refine⟨by rw[all_cons,h1,hk];rfl,λs v hl=>?_⟩;rw[lookup_cons]at hl;have es0:e.key.isStr s=(s0==s):=by rw[hk];rfl
     by_cases q:s==s0
     ·rw[q]at hl;cases hl;have q':=eq_of_beq q;subst q';exact⟨0,e,by rw[List.findIdx?_cons,es0];simp,rfl,rfl⟩
     ·rw[Bool.not_eq_true]at q;rw[q]at hl;obtain⟨i,en,g1,g2,g3⟩:=h2 s v hl
      have q2:(s0==s)=false:=by
       cases z:s0==s with
       |false=>rfl
       |true=>rw[eq_of_beq z]at q;simp at q
      refine⟨i+1,en,?_,by simpa using g2,g3⟩;rw[List.findIdx?_cons,es0,q2,g1];rfl
    ·cases hr
def z8w{K:Frag}{x:yn}{l:List (yn×yb)}{tb:List (yn×yn)}(e:zFs K x=some (.type "dict",l))(ht:∀s c,tb.lookup s=some c->∃f,l.lookup s=some (.ref f)/\nsIn K yi c=some (some (.ref f))):zku K x tb/\∃a,nsIn K yi x=some (some (.ref a)):=by
 unfold zFs at e
 split at e
 ·rename_i a ha
  split at e
  ·rename_i c od es ep sl hl
   obtain⟨l',em,e'⟩:=Option.map_eq_some_iff.mp e;cases e';obtain⟨h1,h2⟩:=zIt _ _ em;refine⟨⟨a,_,es,_,ha,hl,rfl,rfl,?_,λs c hc=>?_⟩,a,ha⟩
   ·rw[<-Array.all_toList];exact h1
   ·obtain⟨f,g1,g2⟩:=ht s c hc;obtain⟨i,en,k1,k2,k3⟩:=h2 s _ g1;refine⟨i,en,f,?_,?_,k3,g2⟩
    ·obtain⟨L⟩:=es;rw[List.findIdx?_toArray];exact k1
    ·rw[<-xF];exact k2
  ·cases e
 ·cases e
def dicNil{K:Frag}{l:List (yn×yb)}:∀s c,([]:List (yn×yn)).lookup s=some c->∃f,l.lookup s=some (.ref f)/\nsIn K yi c=some (some (.ref f)):=λs c h=>by cases h
def Ss{K:Frag}{l:List (yn×yb)}{tb:List (yn×yn)}{a d:yn}{g:yc}(h1:l.lookup a=some (.ref g))(h2:nsIn K yi d=some (some (.ref g)))(r:∀s c,tb.lookup s=some c->∃f,l.lookup s=some (.ref f)/\nsIn K yi c=some (some (.ref f))):∀s c,((a,d)::tb).lookup s=some c->∃f,l.lookup s=some (.ref f)/\nsIn K yi c=some (some (.ref f)):=λs c h=>by
 rw[lookup_cons]at h
 by_cases q:s==a
 ·rw[q]at h;cases h;have q:=eq_of_beq q;subst q;exact⟨g,h1,h2⟩
 ·rw[Bool.not_eq_true]at q;rw[q]at h;exact r s c h
end M
namespace P
local macro_rules | `(tactic| walk_at "s") => `(tactic| exact ⟨rfl, rfl, rfl, by decide +kernel, rfl, by decide +kernel, by decide +kernel⟩)
open PySem PySem.Spec PyProof.Rows L2 M
def top(i:Nat):yR:=PySem.Challenge.pw_keynests_k74_whole_from_text_to_places.main.body.getD i (.Pass ⟨0,0,0,0⟩)
def SH:List (yn×yn):=[("fits","answer_fits"),("most","answer_most")]
def zEf:List yn:=["_law_script","_law_k","_law_number"]
def zOf:FS:=(zgb (zxc 2 (fC (.int 0))) (zgb (sIf (zeb (zC (zFj λi j=>decide (j<i)) (zx zej (zk (zq 0) zA)) (fC (.int 0)))) (zxc 2 (zC zUq (zC gIx (zq 0) (zC zUq (zq 1) (zx zej (zk (zq 0) zA)))) (fC (.int 2305843009213693951)))) zHc) (zgb (zxc 2 (zC zUq (zC zPk (zC zPk (zC zPk (zC zjn (zq 2) (fC (.int 48271))) (zC zjn (zC zjn (zq 1) (zq 1)) (fC (.int 40692)))) (zC zjn (fC (.int 7)) (zq 1))) (fC (.int 11))) (fC (.int 2147483647)))) (zbc (zC zUq (zC zjn (zq 2) (fC (.int 1181783497276652981))) (fC (.int 2305843009213693951)))))))
def zxd:FF:=λds O=>zcb (zOf (zK zEf ds) O)
def zye:List yn:=["_law_script","_law_k"]
def zwe:FS:=(zgb (sIf (zeb (zC (zFj λi j=>decide (i<j)) (zq 1) (zx zej (zk (zq 0) zA)))) (zbc (zC gIx (zq 0) (zq 1))) zHc) (zbc (zx zxd (zk (zq 0) (zk (zq 1) zA)))))
def zQb:FF:=λds O=>zcb (zwe (zK zye ds) O)
def zTo:List yn:=["_law_script","_law_k","_law_cell"]
def zEk:FS:=(zgb (zxc 2 (zx zQb (zk (zq 0) (zk (zq 1) zA)))) (zbc (zNq (zk (zC zUq (zq 2) (fC (.int 2))) (zk (zC zqC (zq 2) (fC (.int 2))) (zk (zx zej (zk (zq 0) zA)) (zk (zC zjn (fC (.int 101)) (zq 1)) zA)))))))
def zrg:FF:=λds O=>zcb (zEk (zK zTo ds) O)
def zah:List yn:=["_law_pen_here","_law_size","_law_digit","_law_at","_law_number"]
def zjh:FS:=(zgb (sIf (zeb (zC gEq (zC gIx (zq 0) (fC (.int 0))) (fC (.int 0)))) (zgb (zxc 2 (zC zUq (zC gIx (zq 0) (fC (.int 1))) (zq 1))) (zgb (z9x (zC zqC (zC gIx (zq 0) (fC (.int 1))) (zq 1)) (gAt (zq 0) (fC (.int 1)))) (zbc (zq 2)))) zHc) (zgb (z9x (zC zPk (zC gIx (zq 0) (fC (.int 3))) (fC (.int 1))) (gAt (zq 0) (fC (.int 3)))) (zgb (zxc 3 (zC gIx (zq 0) (fC (.int 3)))) (zgb (zxc 4 (zC zjn (zC zUq (zC gIx (zq 0) (fC (.int 1))) (fC (.int 2305843009213693951))) (fC (.int 48271)))) (zgb (zxc 4 (zC zUq (zC zPk (zC zPk (zC zPk (zq 4) (zC zjn (zC zjn (zq 3) (zq 3)) (fC (.int 40692)))) (zC zjn (fC (.int 7)) (zq 3))) (fC (.int 11))) (fC (.int 2147483647)))) (zbc (zC zUq (zC zqC (zC zUq (zC zjn (zq 4) (fC (.int 1181783497276652981))) (fC (.int 2305843009213693951))) (fC (.int 64))) (zq 1))))))))
def zD:FF:=λds O=>zcb (zjh (zK zah ds) O)
def zFf:FS:=(zgb (zxc 8 (zNq (zk (zx zD (zk (zq 0) (zk (zq 2) zA))) (zk (zx zD (zk (zq 0) (zk (zq 2) zA))) zA)))) (zgb (sIf (zeb (zC gEq (zx zD (zk (zq 0) (zk (fC (.int 3)) zA))) (fC (.int 1)))) (zyj (zVh z2f (zq 8) (zk (zx zD (zk (zq 0) (zk (zq 2) zA))) zA))) zHc) (zyj (zVh z2f (zq 6) (zk (zx zFd (zk (zq 8) zA)) zA)))))
def zDf:FE:=(zC gIx (zNq (zk (zx zD (zk (zq 1) (zk (fC (.int 3)) zA))) (zk (fC (.int 1)) (zk (zx zD (zk (zq 1) (zk (fC (.int 10)) zA))) (zk (zx zD (zk (zq 1) (zk (fC (.int 2)) zA))) zA))))) (zq 2))
def zxo:List yn:=["_law_pen_here","_law_limit","_law_many","_law_kind","_law_rooms","_law_count","_law_keys","_law_k","_law_key"]
def zLk:FS:=(zgb (zxc 2 (zC zPk (fC (.int 1)) (zx zD (zk (zq 0) (zk (fC (.int 6)) zA))))) (zgb (sIf (zeb (zC gEq (zx zD (zk (zq 0) (zk (fC (.int 8)) zA))) (fC (.int 5)))) (zxc 2 (zC zPk (fC (.int 7)) (zx zD (zk (zq 0) (zk (fC (.int 4)) zA))))) zHc) (zgb (zxc 3 (zx zD (zk (zq 0) (zk (fC (.int 4)) zA)))) (zgb (zxc 4 (zx zFd (zk (fLC 1 [0,3] (zNf (zk (zq 2) zA)) (gN 0) zxh zDf) zA))) (zgb (zxc 5 (zx zD (zk (zq 0) (zk (zC zPk (zq 1) (fC (.int 1))) zA)))) (zgb (zxc 6 (zNq zA)) (zgb (zMq (zNf (zk (zq 5) zA)) (gN 7) zFf) (zbc (zAm (zk (zq 4) (zk (zx zFd (zk (zq 6) zA)) zA)))))))))))
def zli:FF:=λds O=>zcb (zLk (zK zxo ds) O)
def zAj:FE:=(zC zBx (fC (.str "abcdefghij")) (zq 0))
def zek:FS:=(zyj (zVh z2f (zq 1) (zk (zLb z4i (fC (.str " ")) (zk (fLC 1 [] (zzg (zq 2)) (gN 0) zxh zAj) zA)) zA)))
def zbk:FE:=(zx zFn (zk (zq 0) zA))
def zGn:List yn:=["_law_web_here","_law_pieces","_law_key"]
def zTg:FS:=(zgb (zxc 1 (zNq (zk (zLb z4i (fC (.str ",")) (zk (fLC 1 [] (zzg (zC gIx (zq 0) (fC (.int 0)))) (gN 0) zxh zbk) zA)) zA))) (zgb (zMq (zzg (zC gIx (zq 0) (fC (.int 1)))) (gN 2) zek) (zbc (zLb z4i (fC (.str "; ")) (zk (zq 1) zA)))))
def z6g:FF:=λds O=>zcb (zTg (zK zGn ds) O)
def zdl:List yn:=["text"]
def zPf:FS:=(sIf (zfo (zeb (zx (z8x .str) (zk (zq 0) (zk (fC (.ty "str")) zA))))) zXh zHc)
def zvd:FF:=λds O=>zcb (zPf (zK zdl ds) O)
def zrf:FE:=(zC zhn (zq 0) (fC (.str "0123456789")))
def z6j:List yn:=["word"]
def z3c:FS:=(zgb (sIf (zQu (zeb (zC gEq (zx zcr (zk (zq 0) zA)) (fC (.int 0)))) (zQu (zeb (zC (zFj λi j=>decide (j<i)) (zx zcr (zk (zq 0) zA)) (fC (.int (60))))) (zeb (zx zoE (zk (fLC 1 [] (zjE (zq 0)) (gN 0) zxh zrf) zA))))) zXh zHc) (zgb (sIf (z5s (zeb (zC gEq (zC zBx (zq 0) (fC (.int 0))) (fC (.str "0")))) (zeb (zC (zFj λi j=>decide (j<i)) (zx zcr (zk (zq 0) zA)) (fC (.int 1))))) zXh zHc) (zbc (zx zFq (zk (zq 0) zA)))))
def zmc:FF:=λds O=>zcb (z3c (zK z6j ds) O)
def zrh:FE:=(zx zmc (zk (zq 0) zA))
def zUi:List yn:=["word"]
def zxe:FS:=(zbc (zx zFd (zk (fLC 1 [] (zzg (zLb zUd (zq 0) (zk (fC (.str ",")) zA))) (gN 0) zxh zrh) zA)))
def z9b:FF:=λds O=>zcb (zxe (zK zUi ds) O)
def zUk:List yn:=["thing","fewest","most"]
def z3k:FS:=(zbc (z3v (zx (z8x .tup) (zk (zq 0) (zk (fC (.ty "tuple")) zA))) (zQo (zFj λi j=>decide (i<=j)) (zFj λi j=>decide (i<=j)) (zq 1) (zx zej (zk (zq 0) zA)) (zq 2))))
def zVb:FF:=λds O=>zcb (z3k (zK zUk ds) O)
def zYi:List yn:=["thing","greatest"]
def z8i:FS:=(zbc (z3v (zx (z8x .int) (zk (zq 0) (zk (fC (.ty "int")) zA))) (z3v (zNE (zx (z8x .bl) (zk (zq 0) (zk (fC (.ty "bool")) zA)))) (zQo (zFj λi j=>decide (i<=j)) (zFj λi j=>decide (i<=j)) (fC (.int 0)) (zq 0) (zq 1)))))
def zvf:FF:=λds O=>zcb (z8i (zK zYi ds) O)
def zsf:FE:=(zx zvf (zk (zq 0) (zk (zq 1) zA)))
def zsg:List yn:=["thing","fewest","most","greatest"]
def z0c:FS:=(zbc (z3v (zx zVb (zk (zq 0) (zk (zq 1) (zk (zq 2) zA)))) (zx znC (zk (fLC 1 [3] (zzg (zq 0)) (gN 0) zxh zsf) zA))))
def zhb:FF:=λds O=>zcb (z0c (zK zsg ds) O)
def zUn:List yn:=["thing"]
def z4g:FS:=(zbc (zx zhb (zk (zq 0) (zk (fC (.int 1)) (zk (fC (.int (10))) (zk (fC (.int (9))) zA))))))
def zne:FF:=λds O=>zcb (z4g (zK zUn ds) O)
def zwl:FE:=(zx zhb (zk (zq 0) (zk (fC (.int 2)) (zk (fC (.int 3)) (zk (zC z7x (zq 1) (fC (.int 1))) zA)))))
def zcp:List yn:=["thing","nests"]
def zyi:FS:=(zbc (z3v (zx zVb (zk (zq 0) (zk (fC (.int 0)) (zk (fC (.int (30))) zA)))) (zx znC (zk (fLC 1 [1] (zzg (zq 0)) (gN 0) zxh zwl) zA))))
def zai:FF:=λds O=>zcb (zyi (zK zcp ds) O)
def zYt:List yn:=["thing"]
def z9l:FS:=(zbc (z3v (zx zVb (zk (zq 0) (zk (fC (.int 2)) (zk (fC (.int 2)) zA)))) (z3v (zx zne (zk (zC gIx (zq 0) (fC (.int 0))) zA)) (zx zai (zk (zC gIx (zq 0) (fC (.int 1))) (zk (zx zej (zk (zC gIx (zq 0) (fC (.int 0))) zA)) zA))))))
def zdm:FF:=λds O=>zcb (z9l (zK zYt ds) O)
def zsm:List yn:=["word"]
def zEg:FS:=(zgb (sIf (zQu (zeb (zC gNe (zx zcr (zk (zq 0) zA)) (fC (.int 1)))) (zeb (zC zhn (zq 0) (fC (.str "abcdefghijklmnopqrstuvwxyz"))))) zXh zHc) (zbc (zLb zdx (fC (.str "abcdefghijklmnopqrstuvwxyz")) (zk (zq 0) zA))))
def z7g:FF:=λds O=>zcb (zEg (zK zsm ds) O)
def zPi:FE:=(zx z7g (zk (zq 0) zA))
def z8k:List yn:=["words"]
def zZf:FS:=(zbc (zx zFd (zk (fLC 1 [] (zzg (zLb zUd (zq 0) (zk (fC (.str " ")) zA))) (gN 0) zxh zPi) zA)))
def zCf:FF:=λds O=>zcb (zZf (zK z8k ds) O)
def zll:FE:=(zx zCf (zk (zq 0) zA))
def z3o:List yn:=["text","pieces","web"]
def zui:FS:=(zgb (zyj (zx zvd (zk (zq 0) zA))) (zgb (zxc 1 (zLb zUd (zq 0) (zk (fC (.str "; ")) zA))) (zgb (zxc 2 (zAm (zk (zx z9b (zk (zC gIx (zq 1) (fC (.int 0))) zA)) (zk (zx zFd (zk (fLC 1 [] (zzg (fSl (zq 1) (znB (fC (.int 1))) pNo)) (gN 0) zxh zll) zA)) zA)))) (zgb (sIf (zfo (zeb (zx zdm (zk (zq 2) zA)))) zXh zHc) (zbc (zq 2))))))
def zkg:FF:=λds O=>zcb (zui (zK z3o ds) O)
def zir:FE:=(zq 0)
def zsx:FT:=(zeb (zC gEq (zq 1) (zq 2)))
def zKx:List yn:=["laying","nest"]
def zEq:FS:=(zbc (fLC 2 [1] (zDq (zq 0)) (gT 2 (zPc (gN 0) (zPc (gN 1) zRj))) zsx zir))
def zeq:FF:=λds O=>zcb (zEq (zK zKx ds) O)
def z9j:FS:=(sIf (zeb (zC zbn (zq 4) (zq 3))) (zgb (z9x (zAm (zk (zq 7) (zk (zC gIx (zq 5) (zq 6)) zA))) (zrE (zq 3) (zq 4))) (zyj (zVh z2f (zq 5) (zk (zq 4) zA)))) zHc)
def zNg:FS:=(zMq (zzg (zC gIx (zC gIx (zq 0) (fC (.int 1))) (zq 7))) (gN 4) z9j)
def zMj:FS:=(zgb (zMq (zzg (zx zeq (zk (zq 1) (zk (zC gIx (zq 5) (zq 6)) zA)))) (gN 7) zNg) (zhD 6 z3w (fC (.int 1))))
def znk:FS:=(z9x (zAm (zk (zq 2) (zk (fC .non) zA))) (zrE (zq 3) (zq 4)))
def zZn:List yn:=["web","laying","key","pushes","nest","nests","at","other"]
def zYg:FS:=(zgb (zxc 3 zlE) (zgb (zMq (zzg (zC gIx (zC gIx (zq 0) (fC (.int 1))) (zq 2))) (gN 4) znk) (zgb (zxc 5 (zx zwr (zk (zq 3) zA))) (zgb (zxc 6 (fC (.int 0))) (zgb (z4q 100000 (zeb (zC (zFj λi j=>decide (i<j)) (zq 6) (zx zej (zk (zq 5) zA)))) zMj) (zbc (zq 3)))))))
def zdh:FF:=λds O=>zcb (zYg (zK zZn ds) O)
def zhz:FE:=(zC z7x (zq 1) (zVh zLi (zq 2) (zk (zq 0) zA)))
def zBA:List yn:=["web","laying"]
def z5o:FS:=(zbc (fLC 2 [1] (zDq (zC gIx (zq 0) (fC (.int 0)))) (gT 2 (zPc (gN 0) (zPc (gN 1) zRj))) zxh zhz))
def zgn:FF:=λds O=>zcb (z5o (zK zBA ds) O)
def zXo:FS:=(zgb (zyj (zVh z2f (zq 2) (zk (zAm (zk (zC gIx (zC z5B (zq 0) (zq 1)) (fC (.int 0))) (zk (zq 1) zA))) zA))) (zxc 1 (zC gIx (zC z5B (zq 0) (zq 1)) (fC (.int 1)))))
def zVt:List yn:=["pushes","nest","row"]
def zSl:FS:=(zgb (zxc 2 (zNq zA)) (zgb (z4q 100000 (zeb (zC ztk (zq 1) (fC .non))) zXo) (zbc (z4y (zq 2)))))
def zVl:FF:=λds O=>zcb (zSl (zK zVt ds) O)
def zVo:FE:=(zq 0)
def z8o:FT:=(zQu (zeb (zC gEq (zq 0) (zq 2))) (zeb (zC zMs (zq 1) (zq 3))))
def znp:FS:=(sIf (zeb (zC (zFj λi j=>decide (j<i)) (zC gIx (zq 4) (zq 5)) (fC (.int 0)))) (zbc (zAm (zk (fC (.str "put")) (zk (zx zVl (zk (zq 3) (zk (zq 5) zA))) zA)))) zHc)
def z5t:List yn:=["web","laying","key","pushes","room","nest"]
def zRl:FS:=(zgb (zxc 3 (zx zdh (zk (zq 0) (zk (zq 1) (zk (zq 2) zA))))) (zgb (zxc 4 (zx zgn (zk (zq 0) (zk (zq 1) zA)))) (zgb (zMq (z1A (zq 3)) (gN 5) znp) (zbc (zAm (zk (fC (.str "full")) (zk (fLC 2 [2,3] (zDq (zq 1)) (gT 2 (zPc (gN 0) (zPc (gN 1) zRj))) z8o zVo) zA)))))))
def zQl:FF:=λds O=>zcb (zRl (zK z5t ds) O)
def z0w:FS:=(sIf (zeb (zC (zFj λi j=>decide (i<j)) (zq 4) (fC (.int 0)))) (zbc (zAm (zk (fC (.str "room")) (zk (zq 3) zA)))) zHc)
def zox:FS:=(sIf (z5s (zeb (zC ztk (zq 3) (fC .non))) (zeb (zC zyl (zq 3) (zC gIx (zC gIx (zq 0) (fC (.int 1))) (zq 2))))) (zbc (zAm (zk (fC (.str "home")) (zk (zq 2) zA)))) zHc)
def zTx:List yn:=["web","laying","key","nest","room"]
def znq:FS:=(zgb (zMq (zDq (zq 1)) (gT 2 (zPc (gN 2) (zPc (gN 3) zRj))) zox) (zgb (zMq (zDq (zx zgn (zk (zq 0) (zk (zq 1) zA)))) (gT 2 (zPc (gN 3) (zPc (gN 4) zRj))) z0w) (zbc (fC .non))))
def zrq:FF:=λds O=>zcb (znq (zK zTx ds) O)
def zKn:FE:=(zC gIx (zq 0) (fC (.int 0)))
def zdr:List yn:=["web","laying","row","at","key"]
def zrj:FS:=(zgb (zxc 4 (zC gIx (zC gIx (zq 2) (zq 3)) (fC (.int 0)))) (zgb (sIf (zQu (zeb (zC (zFj λi j=>decide (i<j)) (zq 4) (fC (.int 0)))) (zeb (zC (zFj λi j=>decide (j<=i)) (zq 4) (zx zej (zk (zq 1) zA))))) (zbc (fC (.bl false))) zHc) (zgb (sIf (zQu (zeb (zC zyl (zC gIx (zC gIx (zq 2) (zq 3)) (fC (.int 1))) (zC gIx (zC gIx (zq 0) (fC (.int 1))) (zq 4)))) (zeb (zC gEq (zC gIx (zC gIx (zq 2) (zq 3)) (fC (.int 1))) (zC gIx (zq 1) (zq 4))))) (zbc (fC (.bl false))) zHc) (zbc (zC zyl (zq 4) (fLC 1 [] (zzg (fSl (zq 2) pNo (znB (zq 3)))) (gN 0) zxh zKn))))))
def zAk:FF:=λds O=>zcb (zrj (zK zdr ds) O)
def zgr:List yn:=["laying","key","row","at"]
def z3j:FS:=(zgb (sIf (zeb (zC gEq (zq 3) (fC (.int 0)))) (zbc (zC gEq (zC gIx (zC gIx (zq 2) (fC (.int 0))) (fC (.int 0))) (zq 1))) zHc) (zbc (zC gEq (zC gIx (zq 0) (zC gIx (zC gIx (zq 2) (zq 3)) (fC (.int 0)))) (zC gIx (zC gIx (zq 2) (zC z7x (zq 3) (fC (.int 1)))) (fC (.int 1))))))
def zYj:FF:=λds O=>zcb (z3j (zK zgr ds) O)
def zjp:FS:=(zgb (sIf (zfo (z5s (zeb (zx zAk (zk (zq 0) (zk (zq 1) (zk (zq 3) (zk (zq 5) zA)))))) (zeb (zx zYj (zk (zq 1) (zk (zq 2) (zk (zq 3) (zk (zq 5) zA)))))))) zXh zHc) (z9x (zC gIx (zq 6) (fC (.int 1))) (gAt (zq 4) (zC gIx (zq 6) (fC (.int 0))))))
def zOt:List yn:=["web","laying","key","row","behind","at","push"]
def zcm:FS:=(zgb (zxc 4 (zx zbw (zk (zq 1) zA))) (zgb (zMq (zDq (zq 3)) (gT 2 (zPc (gN 5) (zPc (gN 6) zRj))) zjp) (zgb (sIf (zQu (zeb (zC gEq (zx zej (zk (zq 3) zA)) (fC (.int 0)))) (zeb (zC ztk (zx zrq (zk (zq 0) (zk (zq 4) zA))) (fC .non)))) zXh zHc) (zbc (zq 4)))))
def z4l:FF:=λds O=>zcb (zcm (zK zOt ds) O)
def zjj:FS:=(zgb (zxc 5 (zx zQl (zk (zq 0) (zk (zq 1) (zk (zq 4) zA))))) (sIf (zeb (zC gEq (zC gIx (zq 5) (fC (.int 0))) (fC (.str "put")))) (zxc 1 (zx z4l (zk (zq 0) (zk (zq 1) (zk (zq 4) (zk (zC gIx (zq 5) (fC (.int 1))) zA)))))) (zyj (zVh z3B (zq 3) (zk (zC gIx (zq 5) (fC (.int 1))) zA)))))
def ztm:List yn:=["web","laying","keys","crowded","key","told"]
def zfh:FS:=(zgb (zxc 3 (zNq zA)) (zgb (zMq (zzg (zq 2)) (gN 4) zjj) (zbc (zAm (zk (zq 1) (zk (zXv (zq 3)) zA))))))
def z8g:FF:=λds O=>zcb (zfh (zK ztm ds) O)
def zUj:List yn:=["web"]
def zYe:FS:=(zbc (zx z8g (zk (zq 0) (zk (zC zjn (zNq (zk (fC .non) zA)) (zx zej (zk (zC gIx (zq 0) (fC (.int 1))) zA))) (zk (zLp (zx zej (zk (zC gIx (zq 0) (fC (.int 1))) zA))) zA)))))
def z1b:FF:=λds O=>zcb (zYe (zK zUj ds) O)
def zAn:FE:=(zC gIx (zC gIx (zq 1) (fC (.int 0))) (zq 0))
def zWr:List yn:=["web","nests"]
def zzk:FS:=(zbc (zx zoC (zk (fLC 1 [0] (zzg (zq 1)) (gN 0) zxh zAn) zA)))
def zpk:FF:=λds O=>zcb (zzk (zK zWr ds) O)
def zHl:FS:=(zyj (zVh z3B (zq 2) (zk (zC gIx (zC gIx (zq 0) (fC (.int 1))) (zq 3)) zA)))
def zPo:List yn:=["web","some","found","key"]
def zti:FS:=(zgb (zxc 2 (zNq zA)) (zgb (zMq (zzg (zq 1)) (gN 3) zHl) (zbc (zXv (zq 2)))))
def z9e:FF:=λds O=>zcb (zti (zK zPo ds) O)
def zro:List yn:=["web","some"]
def zci:FS:=(zbc (zC (zFj λi j=>decide (i<j)) (zx zpk (zk (zq 0) (zk (zx z9e (zk (zq 0) (zk (zq 1) zA))) zA))) (zx zej (zk (zq 1) zA))))
def zqi:FF:=λds O=>zcb (zci (zK zro ds) O)
def zBj:FE:=(zq 0)
def zWp:FT:=(zeb (zC gNe (zq 0) (zq 1)))
def zfj:FS:=(sIf (zeb (zx zqi (zk (zq 0) (zk (fLC 1 [2] (zzg (zq 1)) (gN 0) zWp zBj) zA)))) (zbc (zq 2)) zHc)
def z7m:List yn:=["web","some","key"]
def z3g:FS:=(zgb (zMq (zzg (zq 1)) (gN 2) zfj) (zbc (fC .non)))
def zqf:FF:=λds O=>zcb (z3g (zK z7m ds) O)
def zxm:FS:=(zgb (zyj (zVh zRk (zq 2) (zk (zq 3) zA))) (zxc 3 (zx zqf (zk (zq 0) (zk (zq 2) zA)))))
def z2q:List yn:=["web","some","rest","spare"]
def zPj:FS:=(zgb (zxc 2 (zx zbw (zk (zq 1) zA))) (zgb (zxc 3 (zx zqf (zk (zq 0) (zk (zq 2) zA)))) (zgb (z4q 100000 (zeb (zC ztk (zq 3) (fC .non))) zxm) (zbc (zq 2)))))
def z2j:FF:=λds O=>zcb (zPj (zK z2q ds) O)
def z9t:List yn:=["web","told"]
def zgm:FS:=(zgb (zxc 1 (zx z1b (zk (zq 0) zA))) (zgb (sIf (zeb (zC gEq (zC gIx (zq 1) (fC (.int 1))) (zNq zA))) (zbc (zAm (zk (fC (.str "fits")) (zk (zC gIx (zq 1) (fC (.int 0))) zA)))) zHc) (zbc (zAm (zk (fC (.str "crowd")) (zk (zx z2j (zk (zq 0) (zk (zC gIx (zq 1) (fC (.int 1))) zA))) zA))))))
def zZd:FF:=λds O=>zcb (zgm (zK z9t ds) O)
def zJm:FE:=(zC zPk (zq 0) (zq 1))
def zLr:List yn:=["web","more"]
def zzj:FS:=(zbc (zAm (zk (zx zFd (zk (fLC 2 [] (zhE (zk (zC gIx (zq 0) (fC (.int 0))) (zk (zq 1) zA))) (gT 2 (zPc (gN 0) (zPc (gN 1) zRj))) zxh zJm) zA)) (zk (zC gIx (zq 0) (fC (.int 1))) zA))))
def zmj:FF:=λds O=>zcb (zzj (zK zLr ds) O)
def zXj:FE:=(zAm (zk (zx zD (zk (zq 1) (zk (zq 2) zA))) (zk (zx zD (zk (zq 1) (zk (zq 2) zA))) zA)))
def zhj:FE:=(zx zD (zk (zq 1) (zk (fC (.int 10)) zA)))
def zRm:List yn:=["_law_pen_here","_law_many","_law_rooms","_law_size","_law_turns"]
def zDg:FS:=(zgb (zxc 1 (zC zPk (fC (.int 1)) (zx zD (zk (zq 0) (zk (fC (.int 10)) zA))))) (zgb (zxc 2 (zx zFd (zk (fLC 1 [0] (zNf (zk (zq 1) zA)) (gN 0) zxh zhj) zA))) (zgb (zxc 3 (zC gIx (zNq (zk (fC (.int 10007)) (zk (fC (.int 30)) zA))) (zx zD (zk (zq 0) (zk (fC (.int 2)) zA))))) (zgb (zxc 4 (zx zFd (zk (fLC 1 [0,3] (zNf (zk (zC zPk (fC (.int 2)) (zx zD (zk (zq 0) (zk (fC (.int 2)) zA)))) zA)) (gN 0) zxh zXj) zA))) (zbc (zAm (zk (zq 2) (zk (zq 4) zA))))))))
def zih:FF:=λds O=>zcb (zDg (zK zRm ds) O)
def zqh:List yn:=["self","rule"]
def zrd:FS:=(zgb (zdv "Shelf" "kept_rule" (zq 0) (zq 1)) (zdv "Shelf" "nest_of" (zq 0) zlE))
def zpd:FF:=λds O=>zcb (zrd (zK zqh ds) O)
def z7k:FE:=(zx zhb (zk (zq 0) (zk (fC (.int 2)) (zk (fC (.int 2)) (zk (zC z7x (fC (.int (10007))) (fC (.int 1))) zA)))))
def z0o:List yn:=["thing"]
def zni:FS:=(zbc (z3v (zx zVb (zk (zq 0) (zk (fC (.int 2)) (zk (fC (.int 3)) zA)))) (zx znC (zk (fLC 1 [] (zzg (zq 0)) (gN 0) zxh z7k) zA))))
def zAi:FF:=λds O=>zcb (zni (zK z0o ds) O)
def z7r:List yn:=["thing"]
def zlk:FS:=(zbc (z3v (zx zVb (zk (zq 0) (zk (fC (.int 2)) (zk (fC (.int 2)) zA)))) (z3v (zx zne (zk (zC gIx (zq 0) (fC (.int 0))) zA)) (zx zAi (zk (zC gIx (zq 0) (fC (.int 1))) zA)))))
def zHj:FF:=λds O=>zcb (zlk (zK z7r ds) O)
def zsk:FE:=(zx z9b (zk (zq 0) zA))
def z2m:List yn:=["text","words","rule"]
def zMg:FS:=(zgb (zyj (zx zvd (zk (zq 0) zA))) (zgb (zxc 1 (zLb zUd (zq 0) (zk (fC (.str " ")) zA))) (zgb (zxc 2 (zAm (zk (zx z9b (zk (zC gIx (zq 1) (fC (.int 0))) zA)) (zk (zx zFd (zk (fLC 1 [] (zzg (fSl (zq 1) (znB (fC (.int 1))) pNo)) (gN 0) zxh zsk) zA)) zA)))) (zgb (sIf (zfo (zeb (zx zHj (zk (zq 2) zA)))) zXh zHc) (zbc (zq 2))))))
def zZg:FF:=λds O=>zcb (zMg (zK z2m ds) O)
def zyh:List yn:=["self","text"]
def zRd:FS:=(zdv "Desk" "shelf" (zq 0) (z3u "Shelf" zpd (zk (zx zZg (zk (zq 1) zA)) zA)))
def z0d:FF:=λds O=>zcb (zRd (zK zyh ds) O)
def zSr:FE:=(zC zUq (zC zUq (zC zPk (zC zjn (zC gIx (zq 0) (fC (.int 0))) (zq 1)) (zC gIx (zq 0) (fC (.int 1)))) (fC (.int (10007)))) (zq 2))
def zFx:List yn:=["rule","key","nests"]
def zCq:FS:=(zgb (zxc 2 (zx zej (zk (zC gIx (zq 0) (fC (.int 0))) zA))) (zbc (zx zFd (zk (fLC 1 [1,2] (zzg (zC gIx (zq 0) (fC (.int 1)))) (gN 0) zxh zSr) zA))))
def zsq:FF:=λds O=>zcb (zCq (zK zFx ds) O)
def zvp:FE:=(zx zsq (zk (zq 1) (zk (zq 0) zA)))
def zyu:List yn:=["rule","keys"]
def zfm:FS:=(zbc (zAm (zk (zC gIx (zq 0) (fC (.int 0))) (zk (zx zFd (zk (fLC 1 [0] (zzg (zq 1)) (gN 0) zxh zvp) zA)) zA))))
def zUg:FF:=λds O=>zcb (zfm (zK zyu ds) O)
def zth:FE:=(zx zFn (zk (zq 0) zA))
def zOi:List yn:=["numbers"]
def zve:FS:=(zbc (zLb z4i (fC (.str ",")) (zk (fLC 1 [] (zzg (zq 0)) (gN 0) zxh zth) zA)))
def z8b:FF:=λds O=>zcb (zve (zK zOi ds) O)
def zkk:FE:=(zx z8b (zk (zq 0) zA))
def zXn:List yn:=["rule"]
def zWg:FS:=(zbc (zLb z4i (fC (.str " ")) (zk (zC zPk (zNq (zk (zx z8b (zk (zC gIx (zq 0) (fC (.int 0))) zA)) zA)) (fLC 1 [] (zzg (zC gIx (zq 0) (fC (.int 1)))) (gN 0) zxh zkk)) zA)))
def zJg:FF:=λds O=>zcb (zWg (zK zXn ds) O)
def znu:List yn:=["words"]
def z1l:FS:=(zgb (sIf (zeb (zC gEq (zC gIx (zq 0) (fC (.int 0))) (fC (.str "renew")))) (zbc (zC (zFj λi j=>decide (j<=i)) (zx zej (zk (zq 0) zA)) (fC (.int 2)))) zHc) (zgb (sIf (zQu (zeb (zC gEq (zC gIx (zq 0) (fC (.int 0))) (fC (.str "fits")))) (zeb (zC gEq (zC gIx (zq 0) (fC (.int 0))) (fC (.str "most"))))) (zbc (zQo (zFj λi j=>decide (i<=j)) (zFj λi j=>decide (i<=j)) (fC (.int 2)) (zx zej (zk (zq 0) zA)) (zC zPk (fC (.int (30))) (fC (.int 1))))) zHc) zXh))
def z5l:FF:=λds O=>zcb (z1l (zK znu ds) O)
def zBl:List yn:=["self"]
def zSf:FS:=(zbc (zmC "Shelf" "kept_rule" (zq 0)))
def zLh:FF:=λds O=>zcb (zSf (zK zBl ds) O)
def zph:FE:=(zx zmc (zk (zq 0) zA))
def zQi:List yn:=["shelf","rest"]
def zse:FS:=(zbc (zx zUg (zk (zx zLh (zKl "Shelf" "rule" (zq 0) zA)) (zk (fLC 1 [] (zzg (zLb zUd (zq 1) (zk (fC (.str " ")) zA))) (gN 0) zxh zph) zA))))
def zyc:FF:=λds O=>zcb (zse (zK zQi ds) O)
def zTi:FE:=(zx zFn (zk (zq 0) zA))
def zkl:List yn:=["numbers"]
def zQf:FS:=(zbc (zLb z4i (fC (.str " ")) (zk (fLC 1 [] (zzg (zq 0)) (gN 0) zxh zTi) zA)))
def zTf:FF:=λds O=>zcb (zQf (zK zkl ds) O)
def z1f:FE:=(zC zBx (fC (.str "abcdefghijklmnopqrstuvwxyz")) (zq 0))
def zel:List yn:=["nests"]
def zBd:FS:=(zbc (zLb z4i (fC (.str " ")) (zk (fLC 1 [] (zzg (zq 0)) (gN 0) zxh z1f) zA)))
def zNc:FF:=λds O=>zcb (zBd (zK zel ds) O)
def zok:List yn:=["shelf","rest","told"]
def zWe:FS:=(zgb (zxc 2 (zx zZd (zk (zx zyc (zk (zq 0) (zk (zq 1) zA))) zA))) (zgb (sIf (zeb (zC gEq (zC gIx (zq 2) (fC (.int 0))) (fC (.str "fits")))) (zbc (zC zor (fC (.str "fits ")) (zx zNc (zk (zC gIx (zq 2) (fC (.int 1))) zA)))) zHc) (zbc (zC zor (fC (.str "crowd ")) (zx zTf (zk (zC gIx (zq 2) (fC (.int 1))) zA))))))
def zoc:FF:=λds O=>zcb (zWe (zK zok ds) O)
def zou:FE:=(zq 0)
def zCz:FT:=(zeb (zC ztk (zq 1) (fC .non)))
def zsA:List yn:=["laying"]
def zmu:FS:=(zbc (fLC 2 [] (zDq (zq 0)) (gT 2 (zPc (gN 0) (zPc (gN 1) zRj))) zCz zou))
def zLn:FF:=λds O=>zcb (zmu (zK zsA ds) O)
def zFA:List yn:=["web","told"]
def z0t:FS:=(zgb (zxc 1 (zx z1b (zk (zq 0) zA))) (zbc (zAm (zk (zC gIx (zq 1) (fC (.int 0))) (zk (zx z9e (zk (zq 0) (zk (zC gIx (zq 1) (fC (.int 1))) zA))) zA)))))
def zYn:FF:=λds O=>zcb (z0t (zK zFA ds) O)
def zfk:List yn:=["shelf","rest"]
def z3e:FS:=(zbc (zx zFn (zk (zx zej (zk (zx zLn (zk (zC gIx (zx zYn (zk (zx zyc (zk (zq 0) (zk (zq 1) zA))) zA)) (fC (.int 0))) zA)) zA)) zA)))
def zrc:FF:=λds O=>zcb (z3e (zK zfk ds) O)
def zap:List yn:=["self","row","parted","answer"]
def zwi:FS:=(zgb (sIf (zQu (zfo (zeb (zx (z8x .str) (zk (zq 1) (zk (fC (.ty "str")) zA))))) (zfo (zeb (zx z5l (zk (zLb zUd (zq 1) (zk (fC (.str " ")) zA)) zA))))) zXh zHc) (zgb (zxc 2 (zLb zZs (zq 1) (zk (fC (.str " ")) zA))) (zgb (zxc 3 (zC (zJA "ANSWERS" SH) (fC (.own "ANSWERS")) (zC gIx (zq 2) (fC (.int 0))))) (zbc (zsC 3 [("answer_fits",zoc),("answer_most",zrc)] (zk (zmC "Desk" "shelf" (zq 0)) (zk (zC gIx (zq 2) (fC (.int 2))) zA)))))))
def zhg:FF:=λds O=>zcb (zwi (zK zap ds) O)
def znf:FE:=(zx zFn (zk (zq 0) zA))
def zwf:FE:=(zC zUq (zx zQb (zk (zq 1) (zk (zC zPk (fC (.int 2)) (zq 0)) zA))) (zC zJD (fC (.int 10)) (fC (.int 40))))
def zpf:FE:=(zC zUq (zq 0) (fC (.int 4)))
def zcg:List yn:=["_law_pen_here","_law_script","_law_rule_here","_law_desk","_law_keys","_law_web_here","_law_row"]
def z7c:FS:=(zgb (zxc 2 (zx zih (zk (zq 0) zA))) (zgb (zxc 2 (zAm (zk (zx zFd (zk (fLC 1 [] (zzg (zC gIx (zq 2) (fC (.int 0)))) (gN 0) zxh zpf) zA)) (zk (zC gIx (zq 2) (fC (.int 1))) zA)))) (zgb (zxc 3 (z3u "Desk" z0d (zk (zx zJg (zk (zq 2) zA)) zA))) (zgb (zxc 4 (fLC 1 [1] (zNf (zk (zC zPk (fC (.int 1)) (zx zD (zk (zq 0) (zk (fC (.int 20)) zA)))) zA)) (gN 0) zxh zwf)) (zgb (zxc 5 (zx zUg (zk (zq 2) (zk (zq 4) zA)))) (zgb (zxc 6 (zLb z4i (fC (.str " ")) (zk (fLC 1 [] (zzg (zq 4)) (gN 0) zxh znf) zA))) (zgb (sIf (zeb (zC gNe (zC gIx (zLb zUd (zx zhg (zKl "Desk" "say" (zq 3) (zk (zC zor (fC (.str "fits ")) (zq 6)) zA))) (zk (fC (.str " ")) zA)) (fC (.int 0))) (zC gIx (zx zZd (zk (zq 5) zA)) (fC (.int 0))))) (zbc (fC (.bl false))) zHc) (zbc (zC gEq (zx zhg (zKl "Desk" "say" (zq 3) (zk (zC zor (fC (.str "most ")) (zq 6)) zA))) (zx zFn (zk (zx zej (zk (zx zLn (zk (zC gIx (zx zYn (zk (zq 5) zA)) (fC (.int 0))) zA)) zA)) zA)))))))))))
def zYc:FF:=λds O=>zcb (z7c (zK zcg ds) O)
def zbl:FE:=(zx zNc (zk (zq 0) zA))
def zgp:List yn:=["web"]
def zdi:FS:=(zbc (zLb z4i (fC (.str "; ")) (zk (zC zPk (zNq (zk (zx z8b (zk (zC gIx (zq 0) (fC (.int 0))) zA)) zA)) (fLC 1 [] (zzg (zC gIx (zq 0) (fC (.int 1)))) (gN 0) zxh zbl)) zA)))
def zgi:FF:=λds O=>zcb (zdi (zK zgp ds) O)
def zOh:FE:=(zq 0)
def zKe:FT:=(zeb (zC (zFj λi j=>decide (j<i)) (zVh zLi (zq 1) (zk (zC zBx (fC (.str "abcdefghij")) (zq 0)) zA)) (zC gIx (zq 2) (zq 0))))
def zMe:FS:=(sIf (zeb (zC zyl (zC gIx (zq 4) (zq 5)) (zLb zUd (zC gIx (zq 2) (zC zPk (fC (.int 1)) (zq 5))) (zk (fC (.str " ")) zA)))) (zbc (fC (.bl false))) zHc)
def zIe:FE:=(zC zBx (fC (.str "abcdefghij")) (zq 0))
def zNe:FE:=(zx zFq (zk (zq 0) zA))
def zyf:List yn:=["_law_text_here","_law_laying","_law_pieces","_law_rooms","_law_letters","_law_k"]
def zsc:FS:=(zgb (zxc 2 (zLb zUd (zq 0) (zk (fC (.str "; ")) zA))) (zgb (zxc 3 (fLC 1 [] (zzg (zLb zUd (zC gIx (zq 2) (fC (.int 0))) (zk (fC (.str ",")) zA))) (gN 0) zxh zNe)) (zgb (zxc 4 (fLC 1 [] (zzg (zq 1)) (gN 0) zxh zIe)) (zgb (sIf (zeb (zC gNe (zx zej (zk (zq 4) zA)) (zC z7x (zx zej (zk (zq 2) zA)) (fC (.int 1))))) (zbc (fC (.bl false))) zHc) (zgb (zMq (zNf (zk (zx zej (zk (zq 4) zA)) zA)) (gN 5) zMe) (zbc (zC gEq (fLC 1 [4,3] (zNf (zk (zx zej (zk (zq 3) zA)) zA)) (gN 0) zKe zOh) (zNq zA))))))))
def zpc:FF:=λds O=>zcb (zsc (zK zyf ds) O)
def z4h:FS:=(sIf (zeb (zC gIs (zC gIx (zq 2) (zq 3)) (fC .non))) (zgb (z9x (zC gIx (zC gIx (zC gIx (zq 0) (fC (.int 1))) (zq 3)) (fC (.int 0))) (gAt (zq 2) (zq 3))) (zEu z3w (zq 1) (zC gIx (zq 2) (zq 3)) (fC (.int 1)))) zHc)
def zgk:List yn:=["web","more","laying","key"]
def z2e:FS:=(zgb (zxc 1 (zC zjn (zNq (zk (fC (.int 0)) zA)) (zx zej (zk (zC gIx (zq 0) (fC (.int 0))) zA)))) (zgb (zxc 2 (zC gIx (zx z1b (zk (zq 0) zA)) (fC (.int 0)))) (zgb (zMq (zNf (zk (zx zej (zk (zq 2) zA)) zA)) (gN 3) z4h) (zbc (zAm (zk (zq 1) (zk (zq 2) zA)))))))
def z5e:FF:=λds O=>zcb (z2e (zK zgk ds) O)
def zbe:FE:=(zC gIx (zq 1) (zq 0))
def z8d:FT:=(zeb (zC zeE (zC zBx (fC (.str "abcdefghij")) (zq 0)) (zq 2)))
def zae:FE:=(zC gIx (zq 1) (zC zPk (fC (.int 1)) (zq 0)))
def z9d:FE:=(zx zFq (zk (zq 0) zA))
def zVe:List yn:=["_law_text_here","_law_some","_law_pieces","_law_rooms","_law_near"]
def zfc:FS:=(zgb (zxc 2 (zLb zUd (zq 0) (zk (fC (.str "; ")) zA))) (zgb (zxc 3 (fLC 1 [] (zzg (zLb zUd (zC gIx (zq 2) (fC (.int 0))) (zk (fC (.str ",")) zA))) (gN 0) zxh z9d)) (zgb (zxc 4 (zLb z4i (fC (.str " ")) (zk (fLC 1 [2] (zzg (zq 1)) (gN 0) zxh zae) zA))) (zbc (zC (zFj λi j=>decide (i<j)) (zx zoC (zk (fLC 1 [3,4] (zNf (zk (zx zej (zk (zq 3) zA)) zA)) (gN 0) z8d zbe) zA)) (zx zej (zk (zq 1) zA)))))))
def zec:FF:=λds O=>zcb (zfc (zK zVe ds) O)
def z0C:List yn:=["_law_script","_law_pen_here","_law_drawn","_law_text_here","_law_web_here","_law_word","_law_thing","_law_wider","_law_again"]
def zgz:FS:=(zgb (zxc 1 (zx zrg (zk (zq 0) (zk (fC (.int 0)) zA)))) (zgb (zxc 2 (zx zli (zk (zq 1) (zk (fC (.int 20)) zA)))) (zgb (zxc 3 (zx z6g (zk (zq 2) zA))) (zgb (zxc 4 (zx zkg (zk (zq 3) zA))) (zgb (z9x (zx zZd (zk (zq 4) zA)) (gT 2 (zPc (gN 5) (zPc (gN 6) zRj)))) (zgb (sIf (z5s (zeb (zC gEq (zq 5) (fC (.str "fits")))) (zfo (zeb (zx zpc (zk (zq 3) (zk (zq 6) zA)))))) (zbc (fC (.bl false))) zHc) (zgb (sIf (z5s (zeb (zC gNe (zq 5) (fC (.str "fits")))) (zQu (zeb (zC gNe (zq 5) (fC (.str "crowd")))) (zfo (zeb (zx zec (zk (zq 3) (zk (zq 6) zA))))))) (zbc (fC (.bl false))) zHc) (zgb (zxc 7 (zx zmj (zk (zq 4) (zk (zC gIx (zx z5e (zk (zq 4) zA)) (fC (.int 0))) zA)))) (zgb (sIf (zeb (zC (zFj λi j=>decide (i<j)) (zx zvz (zk (zC gIx (zq 7) (fC (.int 0))) zA)) (fC (.int 10)))) (zgb (zxc 8 (zx zgi (zk (zq 7) zA))) (sIf (zQu (zeb (zC gNe (zC gIx (zx zZd (zk (zx zkg (zk (zq 8) zA)) zA)) (fC (.int 0))) (fC (.str "fits")))) (zeb (zC gNe (fSl (zLb zUd (zq 8) (zk (fC (.str "; ")) zA)) (znB (fC (.int 1))) pNo) (fSl (zLb zUd (zq 3) (zk (fC (.str "; ")) zA)) (znB (fC (.int 1))) pNo)))) (zbc (fC (.bl false))) zHc)) zHc) (zbc (zx zYc (zk (zx zrg (zk (zq 0) (zk (fC (.int 1)) zA))) (zk (zq 0) zA)))))))))))))
def zFv:FF:=λds O=>zcb (zgz (zK z0C ds) O)
structure Txt(K:yw)(mg:yn->Option yb):Prop where
 ans:zku K "ANSWERS" SH
 an:∃a,Yj K yi "ANSWERS"=some (some (.ref a))/\mg "ANSWERS"=some (.ref a)
 Tk:∃f,Yj K yi "answer_fits"=some (some (.ref f))/\mg "answer_fits"=some (.ref f)
 Tl:∃f,Yj K yi "answer_most"=some (some (.ref f))/\mg "answer_most"=some (.ref f)
 Te:z1r K "Shelf" "nest_of"
 tT:z1r K "Shelf" "kept_rule"
 Tg:z1r K "Desk" "shelf"
 tY:mg "left_layings"=mg "left"
 SI:mg "all"=none
 n_any:mg "any"=none
 n_bool:mg "bool"=none
 tX:mg "enumerate"=none
 Su:mg "int"=none
 tZ:mg "isinstance"=none
 tO:mg "len"=none
 sy:mg "list"=none
 n_max:mg "max"=none
 Th:mg "range"=none
 Sj:mg "reversed"=none
 n_set:mg "set"=none
 Sb:mg "sorted"=none
 sk:mg "str"=none
 n_sum:mg "sum"=none
 tV:mg "tuple"=none
 n_zip:mg "zip"=none
 sJ:∃t,mg "DIVISOR"=some (.int 10007 t)
 sS:∃t,mg "MOST_NESTS"=some (.int 10 t)
 Sc:∃t,mg "MOST_ROOM"=some (.int 9 t)
 sm:∃t,mg "MOST_KEYS"=some (.int 30 t)
 Sw:∃t,mg "FIGURES"=some (.str "0123456789" t)
 sA:∃t,mg "MOST_FIGURES"=some (.int 60 t)
 sf:∃t,mg "LETTERS"=some (.str "abcdefghijklmnopqrstuvwxyz" t)
def zmw:yH "all"=some (.builtin "all"):=by decide +kernel
def zND:yH "any"=some (.builtin "any"):=by decide +kernel
def zjB:yH "bool"=some (.type "bool"):=by decide +kernel
def zIc:yH "enumerate"=some (.type "enumerate"):=by decide +kernel
def zTt:yH "int"=some (.type "int"):=by decide +kernel
def z2d:yH "isinstance"=some (.builtin "isinstance"):=by decide +kernel
def z4b:yH "len"=some (.builtin "len"):=by decide +kernel
def zRn:yH "list"=some (.type "list"):=by decide +kernel
def zCD:yH "max"=some (.builtin "max"):=by decide +kernel
def zRs:yH "reversed"=some (.type "reversed"):=by decide +kernel
def zlA:yH "set"=some (.type "set"):=by decide +kernel
def zds:yH "sorted"=some (.builtin "sorted"):=by decide +kernel
def zul:yH "str"=some (.type "str"):=by decide +kernel
def z4z:yH "sum"=some (.builtin "sum"):=by decide +kernel
def zEc:yH "tuple"=some (.type "tuple"):=by decide +kernel
def z2D:yH "zip"=some (.type "zip"):=by decide +kernel
section
variable {P:yu}{w:yI}{K:yw}{mg:yn->Option yb}{base:yS}
set_option maxHeartbeats 4000000
abbrev zGf:yR:=top 89
abbrev z5c:List yn:=["_law_script","_law_k"]
def Ti:tq zEf z5c (zu zGf):=by walk_at "s"
def zko(T:Txt K mg){f:yc}{fd:yf}(B:FnAt K mg "_law_mixed" zGf z5c f fd):tm P w K mg base CX0 1 f fd z5c (spM K 2 zxd):=by
 refine fnM B.fn Ti rfl (λcdv A outer s H E hr=>⟨zOf,?_,λ_ _ _ _ _ e=>e⟩);have hu:=hr.units;exact(zn (zN 2 zo (hN:=Ti.nd)) (zn (zQc (z6 zis (zL zW T.tO z4b (zf (mv 0) zh)) zo) (zp (zN 2 (zib zWd (zJ (mv 0) (zib zWd (mv 1) (zL zW T.tO z4b (zf (mv 0) zh)))) zo) (hN:=Ti.nd))) z7) (zn (zN 2 (zib zWd (zib z6b (zib z6b (zib z6b (zib z3d (mv 2) zo) (zib z3d (zib z3d (mv 1) (mv 1)) zo)) (zib z3d zo (mv 1))) zo) zo) (hN:=Ti.nd)) (zp (zE (zib zWd (zib z3d (mv 2) zo) zo))))))
abbrev zkd:yR:=top 90
abbrev zCb:List yn:=["_law_script","_law_k"]
def zzm:tq zye zCb (zu zkd):=by walk_at "s"
def zMl(T:Txt K mg){zFl:yc}{zqk:yf}(zUf:FnAt K mg "_law_mixed" zGf z5c zFl zqk)(zoh:tm P w K mg base CX0 1 zFl zqk z5c (spM K 2 zxd)){f:yc}{fd:yf}(B:FnAt K mg "_law_cell_at" zkd zCb f fd):tm P w K mg base CX0 2 f fd zCb (spM K 2 zQb):=by
 refine fnM B.fn zzm rfl (λcdv A outer s H E hr=>⟨zwe,?_,λ_ _ _ _ _ e=>e⟩);have hu:=hr.units;exact(zn (zQc (z6 z8m (mv 1) (zL zW T.tO z4b (zf (mv 0) zh))) (zp (zE (zJ (mv 0) (mv 1)))) z7) (zp (zE (tu zUf zoh hr (zf (mv 0) (zf (mv 1) zh))))))
abbrev zzi:yR:=top 92
abbrev zpe:List yn:=["_law_script","_law_k"]
def so:tq zTo zpe (zu zzi):=by walk_at "s"
def z9r(T:Txt K mg){zod:yc}{zKc:yf}(zac:FnAt K mg "_law_cell_at" zkd zCb zod zKc)(zhc:tm P w K mg base CX0 2 zod zKc zCb (spM K 2 zQb)){f:yc}{fd:yf}(B:FnAt K mg "_law_pen" zzi zpe f fd):tm P w K mg base CX0 3 f fd zpe (spM K 2 zrg):=by
 refine fnM B.fn so rfl (λcdv A outer s H E hr=>⟨zEk,?_,λ_ _ _ _ _ e=>e⟩);have hu:=hr.units;exact(zn (zN 2 (tu zac zhc hr (zf (mv 0) (zf (mv 1) zh))) (hN:=so.nd)) (zp (zE (zlf (zf (zib zWd (mv 2) zo) (zf (zib zit (mv 2) zo) (zf (zL zW T.tO z4b (zf (mv 0) zh)) (zf (zib z3d zo (mv 1)) zh))))))))
abbrev zhe:yR:=top 91
abbrev zTb:List yn:=["_law_pen_here","_law_size"]
def Ta:tq zah zTb (zu zhe):=by walk_at "s"
def zfq(T:Txt K mg){f:yc}{fd:yf}(B:FnAt K mg "_law_take" zhe zTb f fd):tm P w K mg base CX0 1 f fd zTb (spM K 2 zD):=by
 refine fnM B.fn Ta rfl (λcdv A outer s H E hr=>⟨zjh,?_,λ_ _ _ _ _ e=>e⟩);have hu:=hr.units;exact(zn (zQc (z6 (zjd hu) (zJ (mv 0) zo) zo) (zn (zN 2 (zib zWd (zJ (mv 0) zo) (mv 1)) (hN:=Ta.nd)) (zn (zMm (zib zit (zJ (mv 0) zo) (mv 1)) (zzz (mv 0) zo)) (zp (zE (mv 2))))) z7) (zn (zMm (zib z6b (zJ (mv 0) zo) zo) (zzz (mv 0) zo)) (zn (zN 3 (zJ (mv 0) zo) (hN:=Ta.nd)) (zn (zN 4 (zib z3d (zib zWd (zJ (mv 0) zo) zo) zo) (hN:=Ta.nd)) (zn (zN 4 (zib zWd (zib z6b (zib z6b (zib z6b (mv 4) (zib z3d (zib z3d (mv 3) (mv 3)) zo)) (zib z3d zo (mv 3))) zo) zo) (hN:=Ta.nd)) (zp (zE (zib zWd (zib zit (zib zWd (zib z3d (mv 4) zo) zo) zo) (mv 1)))))))))
abbrev zBi:yR:=top 93
abbrev zje:List yn:=["_law_pen_here","_law_limit"]
def tQ:tq zxo zje (zu zBi):=by walk_at "s"
def zxr(T:Txt K mg){zUc:yc}{zic:yf}(zI:FnAt K mg "_law_take" zhe zTb zUc zic)(zF:tm P w K mg base CX0 1 zUc zic zTb (spM K 2 zD)){f:yc}{fd:yf}(B:FnAt K mg "_law_web" zBi zje f fd):tm P w K mg base CX0 2 f fd zje (spM K 2 zli):=by
 refine fnM B.fn tQ rfl (λcdv A outer s H E hr=>⟨zLk,?_,λ_ _ _ _ _ e=>e⟩);have hu:=hr.units;exact(zn (zN 2 (zib z6b zo (tu zI zF hr (zf (mv 0) (zf zo zh)))) (hN:=tQ.nd)) (zn (zQc (z6 (zjd hu) (tu zI zF hr (zf (mv 0) (zf zo zh))) zo) (zp (zN 2 (zib z6b zo (tu zI zF hr (zf (mv 0) (zf zo zh)))) (hN:=tQ.nd))) z7) (zn (zN 3 (tu zI zF hr (zf (mv 0) (zf zo zh))) (hN:=tQ.nd)) (zn (zN 4 (zdb ztb T.tV zEc (zf (mlc ["_law_k"] [0,3] (z4e T.Th (zf (mv 2) zh)) (λ_ _ _ _ _=>(zH 0 (hN:=zG (by rfl)))) (λ_ _ _ _ _=>zSb) (λ_ _ _ _ _=>(zJ (zlf (zf (tu zI zF hr (zf (mv 1) (zf zo zh))) (zf zo (zf (tu zI zF hr (zf (mv 1) (zf zo zh))) (zf (tu zI zF hr (zf (mv 1) (zf zo zh))) zh))))) (mv 2))) (z0b ⟨_,rfl,rfl⟩ (z0b ⟨_,rfl,rfl⟩ zsb))) zh)) (hN:=tQ.nd)) (zn (zN 5 (tu zI zF hr (zf (mv 0) (zf (zib z6b (mv 1) zo) zh))) (hN:=tQ.nd)) (zn (zN 6 (zlf zh) (hN:=tQ.nd)) (zn (zVf (z4e T.Th (zf (mv 5) zh)) (ztc 7 (hN:=tQ.nd)) (zn (zN 8 (zlf (zf (tu zI zF hr (zf (mv 0) (zf (mv 2) zh))) (zf (tu zI zF hr (zf (mv 0) (zf (mv 2) zh))) zh))) (hN:=tQ.nd)) (zn (zQc (z6 (zjd hu) (tu zI zF hr (zf (mv 0) (zf zo zh))) zo) (zp (z0f (zIh (mv 8) (zf (tu zI zF hr (zf (mv 0) (zf (mv 2) zh))) zh)))) z7) (zp (z0f (zIh (mv 6) (zf (zdb ztb T.tV zEc (zf (mv 8) zh)) zh))))))) (zp (zE (zCd (zf (mv 4) (zf (zdb ztb T.tV zEc (zf (mv 6) zh)) zh))))))))))))
abbrev zGg:yR:=top 95
abbrev zKd:List yn:=["_law_web_here"]
def Tq:tq zGn zKd (zu zGg):=by walk_at "s"
def zTp(T:Txt K mg){f:yc}{fd:yf}(B:FnAt K mg "_law_text" zGg zKd f fd):tm P w K mg base CX0 1 f fd zKd (spM K 1 z6g):=by
 refine fnM B.fn Tq rfl (λcdv A outer s H E hr=>⟨zTg,?_,λ_ _ _ _ _ e=>e⟩);have hu:=hr.units;exact(zn (zN 1 (zlf (zf (z7f z0 (zf (mlc ["_law_room"] [] (zKb (zJ (mv 0) zo)) (λ_ _ _ _ _=>(zH 0 (hN:=zG (by rfl)))) (λ_ _ _ _ _=>zSb) (λ_ _ _ _ _=>(zdb zef T.sk zul (zf (mv 0) zh))) zsb) zh)) zh)) (hN:=Tq.nd)) (zn (zVf (zKb (zJ (mv 0) zo)) (ztc 2 (hN:=Tq.nd)) (zp (z0f (zIh (mv 1) (zf (z7f z0 (zf (mlc ["_law_home"] [] (zKb (mv 2)) (λ_ _ _ _ _=>(zH 0 (hN:=zG (by rfl)))) (λ_ _ _ _ _=>zSb) (λ_ _ _ _ _=>(zto z0 (mv 0))) zsb) zh)) zh))))) (zp (zE (z7f z0 (zf (mv 1) zh))))))
abbrev zEe:yR:=top 37
abbrev z5b:List yn:=["text"]
def zdq:tq zdl z5b (zu zEe):=by walk_at "s"
def zlo(T:Txt K mg){f:yc}{fd:yf}(B:FnAt K mg "check_text" zEe z5b f fd):tm P w K mg base CX0 1 f fd z5b (spM K 1 zvd):=by
 refine fnM B.fn zdq rfl (λcdv A outer s H E hr=>⟨zPf,?_,λ_ _ _ _ _ e=>e⟩);have hu:=hr.units;exact(zp (zQc (zml (z5h (zL (zAh .str) T.tZ z2d (zf (mv 0) (zf (zZq T.sk zul) zh))))) (zp zte) z7))
abbrev zSd:yR:=top 34
abbrev zPb:List yn:=["word"]
def zdo:tq z6j zPb (zu zSd):=by walk_at "s"
def zrn(T:Txt K mg){f:yc}{fd:yf}(B:FnAt K mg "read_number" zSd zPb f fd):tm P w K mg base CX0 1 f fd zPb (spM K 1 zmc):=by
 refine fnM B.fn zdo rfl (λcdv A outer s H E hr=>⟨z3c,?_,λ_ _ _ _ _ e=>e⟩);have hu:=hr.units;exact(zn (zQc (MW.mt (z1m (z6 (zjd hu) (zL zDi T.tO z4b (zf (mv 0) zh)) zo) (z1m (z6 zis (zL zDi T.tO z4b (zf (mv 0) zh)) (z2i T.sA)) (zSi (z5h (zL (zyx rfl) T.n_any zND (zf (mlc ["sign"] [] (zDC (mv 0)) (λ_ _ _ _ _=>(zH 0 (hN:=zG (by rfl)))) (λ_ _ _ _ _=>zSb) (λ_ _ _ _ _=>(znj zNo (mv 0) (zLq T.Sw))) zsb) zh))))))) (zp zte) z7) (zn (zQc (MW.mt (zFr (z6 (zjd hu) (zto (mv 0) zo) z0) (zSn (z6 zis (zL zDi T.tO z4b (zf (mv 0) zh)) zo)))) (zp zte) z7) (zp (zE (zdb z1k T.Su zTt (zf (mv 0) zh))))))
abbrev zid:yR:=top 35
abbrev zEb:List yn:=["word"]
def zTm:tq zUi zEb (zu zid):=by walk_at "s"
def zIl(T:Txt K mg){zVd:yc}{zcd:yf}(zkc:FnAt K mg "read_number" zSd zPb zVd zcd)(zDc:tm P w K mg base CX0 1 zVd zcd zPb (spM K 1 zmc)){f:yc}{fd:yf}(B:FnAt K mg "read_numbers" zid zEb f fd):tm P w K mg base CX0 2 f fd zEb (spM K 1 z9b):=by
 refine fnM B.fn zTm rfl (λcdv A outer s H E hr=>⟨zxe,?_,λ_ _ _ _ _ e=>e⟩);have hu:=hr.units;exact(zp (zE (zdb ztb T.tV zEc (zf (mlc ["part"] [] (zKb (zFc (mv 0) (zf z0 zh))) (λ_ _ _ _ _=>(zH 0 (hN:=zG (by rfl)))) (λ_ _ _ _ _=>zSb) (λ_ _ _ _ _=>(tu zkc zDc hr (zf (mv 0) zh))) zsb) zh))))
abbrev zHd:yR:=top 13
abbrev zpb:List yn:=["thing","fewest","most"]
def zXs:tq zUk zpb (zu zHd):=by walk_at "s"
def z7q(T:Txt K mg){f:yc}{fd:yf}(B:FnAt K mg "is_tuple" zHd zpb f fd):tm P w K mg base CX0 1 f fd zpb (spM K 3 zVb):=by
 refine fnM B.fn zXs rfl (λcdv A outer s H E hr=>⟨z3k,?_,λ_ _ _ _ _ e=>e⟩);have hu:=hr.units;exact(zp (zE (zKi (zL (zAh .tup) T.tZ z2d (zf (mv 0) (zf (zZq T.tV zEc) zh))) (z5n (zyp zhp zhp (mv 1) (zL zW T.tO z4b (zf (mv 0) zh)) (mv 2))))))
abbrev zlh:yR:=top 12
abbrev zzd:List yn:=["thing","greatest"]
def zjs:tq zYi zzd (zu zlh):=by walk_at "s"
def zJq(T:Txt K mg){f:yc}{fd:yf}(B:FnAt K mg "is_number" zlh zzd f fd):tm P w K mg base CX0 1 f fd zzd (spM K 2 zvf):=by
 refine fnM B.fn zjs rfl (λcdv A outer s H E hr=>⟨z8i,?_,λ_ _ _ _ _ e=>e⟩);have hu:=hr.units;exact(zp (zE (zKi (zL (zAh .int) T.tZ z2d (zf (mv 0) (zf (zZq T.Su zTt) zh))) (zKi (zZD (zL (zAh .bl) T.tZ z2d (zf (mv 0) (zf (zZq T.n_bool zjB) zh)))) (z5n (zyp zhp zhp zo (mv 0) (mv 1)))))))
abbrev zUb:yR:=top 14
abbrev zT:List yn:=["thing","fewest","most","greatest"]
def zVj:tq zsg zT (zu zUb):=by walk_at "s"
def zZi(T:Txt K mg){zHb:yc}{zob:yf}(zrb:FnAt K mg "is_tuple" zHd zpb zHb zob)(zfb:tm P w K mg base CX0 1 zHb zob zpb (spM K 3 zVb)){ztn:yc}{zgl:yf}(z1g:FnAt K mg "is_number" zlh zzd ztn zgl)(zUh:tm P w K mg base CX0 1 ztn zgl zzd (spM K 2 zvf)){f:yc}{fd:yf}(B:FnAt K mg "is_number_tuple" zUb zT f fd):tm P w K mg base CX0 2 f fd zT (spM K 4 zhb):=by
 refine fnM B.fn zVj rfl (λcdv A outer s H E hr=>⟨z0c,?_,λ_ _ _ _ _ e=>e⟩);have hu:=hr.units;exact(zp (zE (zKi (tu zrb zfb hr (zf (mv 0) (zf (mv 1) (zf (mv 2) zh)))) (z5n (zL (znn rfl) T.SI zmw (zf (mlc ["part"] [3] (zKb (mv 0)) (λ_ _ _ _ _=>(zH 0 (hN:=zG (by rfl)))) (λ_ _ _ _ _=>zSb) (λ_ _ _ _ _=>(tu z1g zUh hr (zf (mv 0) (zf (mv 1) zh)))) (z0b ⟨_,rfl,rfl⟩ zsb)) zh))))))
abbrev zxf:yR:=top 15
abbrev zjc:List yn:=["thing"]
def zks:tq zUn zjc (zu zxf):=by walk_at "s"
def zwq(T:Txt K mg){zlb:yc}{zbb:yf}(zX:FnAt K mg "is_number_tuple" zUb zT zlb zbb)(zZ:tm P w K mg base CX0 2 zlb zbb zT (spM K 4 zhb)){f:yc}{fd:yf}(B:FnAt K mg "are_rooms" zxf zjc f fd):tm P w K mg base CX0 3 f fd zjc (spM K 1 zne):=by
 refine fnM B.fn zks rfl (λcdv A outer s H E hr=>⟨z4g,?_,λ_ _ _ _ _ e=>e⟩);have hu:=hr.units;exact(zp (zE (tu zX zZ hr (zf (mv 0) (zf zo (zf (z2i T.sS) (zf (z2i T.Sc) zh)))))))
abbrev z7h:yR:=top 22
abbrev zqe:List yn:=["thing","nests"]
def zPs:tq zcp zqe (zu z7h):=by walk_at "s"
def z6r(T:Txt K mg){zHb:yc}{zob:yf}(zrb:FnAt K mg "is_tuple" zHd zpb zHb zob)(zfb:tm P w K mg base CX0 1 zHb zob zpb (spM K 3 zVb)){zlb:yc}{zbb:yf}(zX:FnAt K mg "is_number_tuple" zUb zT zlb zbb)(zZ:tm P w K mg base CX0 2 zlb zbb zT (spM K 4 zhb)){f:yc}{fd:yf}(B:FnAt K mg "are_keys" z7h zqe f fd):tm P w K mg base CX0 3 f fd zqe (spM K 2 zai):=by
 refine fnM B.fn zPs rfl (λcdv A outer s H E hr=>⟨zyi,?_,λ_ _ _ _ _ e=>e⟩);have hu:=hr.units;exact(zp (zE (zKi (tu zrb zfb hr (zf (mv 0) (zf zo (zf (z2i T.sm) zh)))) (z5n (zL (znn rfl) T.SI zmw (zf (mlc ["key"] [1] (zKb (mv 0)) (λ_ _ _ _ _=>(zH 0 (hN:=zG (by rfl)))) (λ_ _ _ _ _=>zSb) (λ_ _ _ _ _=>(tu zX zZ hr (zf (mv 0) (zf zo (zf zo (zf (zib zOn (mv 1) zo) zh)))))) (z0b ⟨_,rfl,rfl⟩ zsb)) zh))))))
abbrev z8l:yR:=top 23
abbrev zbg:List yn:=["thing"]
def zmx:tq zYt zbg (zu z8l):=by walk_at "s"
def zQv(T:Txt K mg){zHb:yc}{zob:yf}(zrb:FnAt K mg "is_tuple" zHd zpb zHb zob)(zfb:tm P w K mg base CX0 1 zHb zob zpb (spM K 3 zVb)){zzf:yc}{zDe:yf}(ztd:FnAt K mg "are_rooms" zxf zjc zzf zDe)(zEd:tm P w K mg base CX0 3 zzf zDe zjc (spM K 1 zne)){zRo:yc}{zSm:yf}(z8h:FnAt K mg "are_keys" z7h zqe zRo zSm)(z9i:tm P w K mg base CX0 3 zRo zSm zqe (spM K 2 zai)){f:yc}{fd:yf}(B:FnAt K mg "is_web" z8l zbg f fd):tm P w K mg base CX0 4 f fd zbg (spM K 1 zdm):=by
 refine fnM B.fn zmx rfl (λcdv A outer s H E hr=>⟨z9l,?_,λ_ _ _ _ _ e=>e⟩);have hu:=hr.units;exact(zp (zE (zKi (tu zrb zfb hr (zf (mv 0) (zf zo (zf zo zh)))) (zKi (tu ztd zEd hr (zf (zJ (mv 0) zo) zh)) (z5n (tu z8h z9i hr (zf (zJ (mv 0) zo) (zf (zL zW T.tO z4b (zf (zJ (mv 0) zo) zh)) zh))))))))
abbrev zPg:yR:=top 36
abbrev zGd:List yn:=["word"]
def zHr:tq zsm zGd (zu zPg):=by walk_at "s"
def zUp(T:Txt K mg){f:yc}{fd:yf}(B:FnAt K mg "read_nest" zPg zGd f fd):tm P w K mg base CX0 1 f fd zGd (spM K 1 z7g):=by
 refine fnM B.fn zHr rfl (λcdv A outer s H E hr=>⟨zEg,?_,λ_ _ _ _ _ e=>e⟩);have hu:=hr.units;exact(zn (zQc (MW.mt (z1m (z6 (zsl hu) (zL zDi T.tO z4b (zf (mv 0) zh)) zo) (zSi (z6 zNo (mv 0) (zLq T.sf))))) (zp zte) z7) (zp (zE (zfB (zLq T.sf) (zf (mv 0) zh)))))
abbrev zIf:yR:=top 39
abbrev z8c:List yn:=["words"]
def zAq:tq z8k z8c (zu zIf):=by walk_at "s"
def zmo(T:Txt K mg){zIm:yc}{zDl:yf}(zkh:FnAt K mg "read_nest" zPg zGd zIm zDl)(zPh:tm P w K mg base CX0 1 zIm zDl zGd (spM K 1 z7g)){f:yc}{fd:yf}(B:FnAt K mg "read_homes" zIf z8c f fd):tm P w K mg base CX0 2 f fd z8c (spM K 1 zCf):=by
 refine fnM B.fn zAq rfl (λcdv A outer s H E hr=>⟨zZf,?_,λ_ _ _ _ _ e=>e⟩);have hu:=hr.units;exact(zp (zE (zdb ztb T.tV zEc (zf (mlc ["word"] [] (zKb (zFc (mv 0) (zf z0 zh))) (λ_ _ _ _ _=>(zH 0 (hN:=zG (by rfl)))) (λ_ _ _ _ _=>zSb) (λ_ _ _ _ _=>(tu zkh zPh hr (zf (mv 0) zh))) zsb) zh))))
abbrev zxi:yR:=top 40
abbrev zce:List yn:=["text"]
def Tz:tq z3o zce (zu zxi):=by walk_at "s"
def zvs(T:Txt K mg){zze:yc}{z4d:yf}(zMc:FnAt K mg "check_text" zEe z5b zze z4d)(z9c:tm P w K mg base CX0 1 zze z4d z5b (spM K 1 zvd)){zgd:yc}{zLc:yf}(zNb:FnAt K mg "read_numbers" zid zEb zgd zLc)(zWb:tm P w K mg base CX0 2 zgd zLc zEb (spM K 1 z9b)){zAt:yc}{zsr:yf}(zUl:FnAt K mg "is_web" z8l zbg zAt zsr)(zlm:tm P w K mg base CX0 4 zAt zsr zbg (spM K 1 zdm)){z9k:yc}{zgj:yf}(zJf:FnAt K mg "read_homes" zIf z8c z9k zgj)(zXg:tm P w K mg base CX0 2 z9k zgj z8c (spM K 1 zCf)){f:yc}{fd:yf}(B:FnAt K mg "read_web" zxi zce f fd):tm P w K mg base CX0 5 f fd zce (spM K 1 zkg):=by
 refine fnM B.fn Tz rfl (λcdv A outer s H E hr=>⟨zui,?_,λ_ _ _ _ _ e=>e⟩);have hu:=hr.units;exact(zn (z0f (tu zMc z9c hr (zf (mv 0) zh))) (zn (zN 1 (zFc (mv 0) (zf z0 zh)) (hN:=Tz.nd)) (zn (zN 2 (zCd (zf (tu zNb zWb hr (zf (zJ (mv 1) zo) zh)) (zf (zdb ztb T.tV zEc (zf (mlc ["piece"] [] (zKb (zex (mv 1) (zSq zo) zjw)) (λ_ _ _ _ _=>(zH 0 (hN:=zG (by rfl)))) (λ_ _ _ _ _=>zSb) (λ_ _ _ _ _=>(tu zJf zXg hr (zf (mv 0) zh))) zsb) zh)) zh))) (hN:=Tz.nd)) (zn (zQc (zml (z5h (tu zUl zlm hr (zf (mv 2) zh)))) (zp zte) z7) (zp (zE (mv 2)))))))
abbrev zHp:yR:=top 46
abbrev zei:List yn:=["laying","nest"]
def zAz:tq zKx zei (zu zHp):=by walk_at "s"
def zQw(T:Txt K mg){f:yc}{fd:yf}(B:FnAt K mg "lying" zHp zei f fd):tm P w K mg base CX0 1 f fd zei (spM K 2 zeq):=by
 refine fnM B.fn zAz rfl (λcdv A outer s H E hr=>⟨zEq,?_,λ_ _ _ _ _ e=>e⟩);have hu:=hr.units;exact(zp (zE (mlc ["key","place"] [1] (z6i T.tX zIc (mv 0)) (λ_ _ _ _ _=>(zkm (zld (zH 0 (hN:=zG (by rfl))) (zld (zH 1 (hN:=zG (by rfl))) zCj)))) (λ_ _ _ _ _=>(zOo (z6 (zjd hu) (mv 1) (mv 2)))) (λ_ _ _ _ _=>(mv 0)) (z0b ⟨_,rfl,rfl⟩ zsb))))
abbrev z2g:yR:=top 51
abbrev zwd:List yn:=["web","laying","key"]
def tR:tq zZn zwd (zu z2g):=by walk_at "s"
def zvq(T:Txt K mg){zOw:yc}{zlu:yf}(zZp:FnAt K mg "lying" zHp zei zOw zlu)(z9p:tm P w K mg base CX0 1 zOw zlu zei (spM K 2 zeq)){f:yc}{fd:yf}(B:FnAt K mg "pushes_to" z2g zwd f fd):tm P w K mg base CX0 2 f fd zwd (spM K 3 zdh):=by
 refine fnM B.fn tR rfl (λcdv A outer s H E hr=>⟨zYg,?_,λ_ _ _ _ _ e=>e⟩);have hu:=hr.units;exact(zn (zN 3 zGA (hN:=tR.nd)) (zn (zVf (zKb (zJ (zJ (mv 0) zo) (mv 2))) (ztc 4 (hN:=tR.nd)) (zp (zMm (zCd (zf (mv 2) (zf zJi zh))) (z1z (mv 3) (mv 4))))) (zn (zN 5 (zdb (zDs rfl) T.sy zRn (zf (mv 3) zh)) (hN:=tR.nd)) (zn (zN 6 zo (hN:=tR.nd)) (zn (zVp 100000 (z6 z8m (mv 6) (zL zW T.tO z4b (zf (mv 5) zh))) (zn (zVf (zKb (tu zZp z9p hr (zf (mv 1) (zf (zJ (mv 5) (mv 6)) zh)))) (ztc 7 (hN:=tR.nd)) (zp (zVf (zKb (zJ (zJ (mv 0) zo) (mv 7))) (ztc 4 (hN:=tR.nd)) (zp (zQc (z6 zHu (mv 4) (mv 3)) (zn (zMm (zCd (zf (mv 7) (zf (zJ (mv 5) (mv 6)) zh))) (z1z (mv 3) (mv 4))) (zp (z0f (zIh (mv 5) (zf (mv 4) zh))))) z7))))) (zp (zkD 6 zUw zo (hN:=tR.nd))))) (zp (zE (mv 3))))))))
abbrev zOr:yR:=top 42
abbrev zMh:List yn:=["web","laying"]
def zFB:tq zBA zMh (zu zOr):=by walk_at "s"
def zUz(T:Txt K mg){f:yc}{fd:yf}(B:FnAt K mg "left" zOr zMh f fd):tm P w K mg base CX0 1 f fd zMh (spM K 2 zgn):=by
 refine fnM B.fn zFB rfl (λcdv A outer s H E hr=>⟨z5o,?_,λ_ _ _ _ _ e=>e⟩);have hu:=hr.units;exact(zp (zE (mlc ["nest","room"] [1] (z6i T.tX zIc (zJ (mv 0) zo)) (λ_ _ _ _ _=>(zkm (zld (zH 0 (hN:=zG (by rfl))) (zld (zH 1 (hN:=zG (by rfl))) zCj)))) (λ_ _ _ _ _=>zSb) (λ_ _ _ _ _=>(zib zOn (mv 1) (zDt (mv 2) (zf (mv 0) zh)))) (z0b ⟨_,rfl,rfl⟩ zsb))))
abbrev zZl:yR:=top 52
abbrev ztg:List yn:=["pushes","nest"]
def sh:tq zVt ztg (zu zZl):=by walk_at "s"
def znv(T:Txt K mg){f:yc}{fd:yf}(B:FnAt K mg "row_to" zZl ztg f fd):tm P w K mg base CX0 1 f fd ztg (spM K 2 zVl):=by
 refine fnM B.fn sh rfl (λcdv A outer s H E hr=>⟨zSl,?_,λ_ _ _ _ _ e=>e⟩);have hu:=hr.units;exact(zn (zN 2 (zlf zh) (hN:=sh.nd)) (zn (zVp 100000 (z6 zzh (mv 1) zJi) (zn (z0f (zIh (mv 2) (zf (zCd (zf (zJ (z7z (mv 0) (mv 1)) zo) (zf (mv 1) zh))) zh))) (zp (zN 1 (zJ (z7z (mv 0) (mv 1)) zo) (hN:=sh.nd))))) (zp (zE (zXA T.sy zRn T.Sj zRs (mv 2))))))
abbrev z6l:yR:=top 53
abbrev zvg:List yn:=["web","laying","key"]
def TJ:tq z5t zvg (zu z6l):=by walk_at "s"
def zLu(T:Txt K mg){zNn:yc}{zCl:yf}(z5g:FnAt K mg "pushes_to" z2g zwd zNn zCl)(zDh:tm P w K mg base CX0 2 zNn zCl zwd (spM K 3 zdh)){zur:yc}{zWn:yf}(Tr:FnAt K mg "left" zOr zMh zur zWn)(zXk:tm P w K mg base CX0 1 zur zWn zMh (spM K 2 zgn)){zCt:yc}{zps:yf}(zam:FnAt K mg "row_to" zZl ztg zCt zps)(zon:tm P w K mg base CX0 1 zCt zps ztg (spM K 2 zVl)){f:yc}{fd:yf}(B:FnAt K mg "put_in" z6l zvg f fd):tm P w K mg base CX0 3 f fd zvg (spM K 3 zQl):=by
 refine fnM B.fn TJ rfl (λcdv A outer s H E hr=>⟨zRl,?_,λ_ _ _ _ _ e=>e⟩);have hu:=hr.units;exact(zn (zN 3 (tu z5g zDh hr (zf (mv 0) (zf (mv 1) (zf (mv 2) zh)))) (hN:=TJ.nd)) (zn (zN 4 (SD (Tr.al T.tY) Tr zXk hr (zf (mv 0) (zf (mv 1) zh))) (hN:=TJ.nd)) (zn (zVf (zdC (mv 3)) (ztc 5 (hN:=TJ.nd)) (zp (zQc (z6 zis (zJ (mv 4) (mv 5)) zo) (zp (zE (zCd (zf z0 (zf (tu zam zon hr (zf (mv 3) (zf (mv 5) zh))) zh))))) z7))) (zp (zE (zCd (zf z0 (zf (mlc ["other","nest"] [2,3] (z6i T.tX zIc (mv 1)) (λ_ _ _ _ _=>(zkm (zld (zH 0 (hN:=zG (by rfl))) (zld (zH 1 (hN:=zG (by rfl))) zCj)))) (λ_ _ _ _ _=>(zOo (MW.mt (z1m (z6 (zjd hu) (mv 0) (mv 2)) (zSi (z6 zMy (mv 1) (mv 3))))))) (λ_ _ _ _ _=>(mv 0)) (z0b ⟨_,rfl,rfl⟩ (z0b ⟨_,rfl,rfl⟩ zsb))) zh))))))))
abbrev zDp:yR:=top 44
abbrev zji:List yn:=["web","laying"]
def TB:tq zTx zji (zu zDp):=by walk_at "s"
def zcx(T:Txt K mg){zur:yc}{zWn:yf}(Tr:FnAt K mg "left" zOr zMh zur zWn)(zXk:tm P w K mg base CX0 1 zur zWn zMh (spM K 2 zgn)){f:yc}{fd:yf}(B:FnAt K mg "fault" zDp zji f fd):tm P w K mg base CX0 2 f fd zji (spM K 2 zrq):=by
 refine fnM B.fn TB rfl (λcdv A outer s H E hr=>⟨znq,?_,λ_ _ _ _ _ e=>e⟩);have hu:=hr.units;exact(zn (zVf (z6i T.tX zIc (mv 1)) (zbu (zKf (ztc 2 (hN:=TB.nd)) (zKf (ztc 3 (hN:=TB.nd)) zhq))) (zp (zQc (MW.mt (zFr (z6 zzh (mv 3) zJi) (zSn (z6 zLj (mv 3) (zJ (zJ (mv 0) zo) (mv 2)))))) (zp (zE (zCd (zf z0 (zf (mv 2) zh))))) z7))) (zn (zVf (z6i T.tX zIc (SD (Tr.al T.tY) Tr zXk hr (zf (mv 0) (zf (mv 1) zh)))) (zbu (zKf (ztc 3 (hN:=TB.nd)) (zKf (ztc 4 (hN:=TB.nd)) zhq))) (zp (zQc (z6 z8m (mv 4) zo) (zp (zE (zCd (zf z0 (zf (mv 3) zh))))) z7))) (zp (zE zJi))))
abbrev zxk:yR:=top 48
abbrev zdf:List yn:=["web","laying","row","at"]
def sB:tq zdr zdf (zu zxk):=by walk_at "s"
def zqt(T:Txt K mg){f:yc}{fd:yf}(B:FnAt K mg "is_push" zxk zdf f fd):tm P w K mg base CX0 1 f fd zdf (spM K 4 zAk):=by
 refine fnM B.fn sB rfl (λcdv A outer s H E hr=>⟨zrj,?_,λ_ _ _ _ _ e=>e⟩);have hu:=hr.units;exact(zn (zN 4 (zJ (zJ (mv 2) (mv 3)) zo) (hN:=sB.nd)) (zn (zQc (MW.mt (z1m (z6 z8m (mv 4) zo) (zSi (z6 zbA (mv 4) (zL zW T.tO z4b (zf (mv 1) zh)))))) (zp (zE z6q)) z7) (zn (zQc (MW.mt (z1m (z6 zLj (zJ (zJ (mv 2) (mv 3)) zo) (zJ (zJ (mv 0) zo) (mv 4))) (zSi (z6 (zjd hu) (zJ (zJ (mv 2) (mv 3)) zo) (zJ (mv 1) (mv 4)))))) (zp (zE z6q)) z7) (zp (zE (znj zLj (mv 4) (mlc ["push"] [] (zKb (zex (mv 2) zjw (zSq (mv 3)))) (λ_ _ _ _ _=>(zH 0 (hN:=zG (by rfl)))) (λ_ _ _ _ _=>zSb) (λ_ _ _ _ _=>(zJ (mv 0) zo)) zsb)))))))
abbrev zak:yR:=top 49
abbrev zhf:List yn:=["laying","key","row","at"]
def zZu:tq zgr zhf (zu zak):=by walk_at "s"
def zkt(T:Txt K mg){f:yc}{fd:yf}(B:FnAt K mg "follows" zak zhf f fd):tm P w K mg base CX0 1 f fd zhf (spM K 4 zYj):=by
 refine fnM B.fn zZu rfl (λcdv A outer s H E hr=>⟨z3j,?_,λ_ _ _ _ _ e=>e⟩);have hu:=hr.units;exact(zn (zQc (z6 (zjd hu) (mv 3) zo) (zp (zE (znj (zjd hu) (zJ (zJ (mv 2) zo) zo) (mv 1)))) z7) (zp (zE (znj (zjd hu) (zJ (mv 0) (zJ (zJ (mv 2) (mv 3)) zo)) (zJ (zJ (mv 2) (zib zOn (mv 3) zo)) zo)))))
abbrev zWl:yR:=top 50
abbrev zqg:List yn:=["web","laying","key","row"]
def TK:tq zOt zqg (zu zWl):=by walk_at "s"
def zSu(T:Txt K mg){zaw:yc}{zuu:yf}(zkq:FnAt K mg "fault" zDp zji zaw zuu)(zxq:tm P w K mg base CX0 2 zaw zuu zji (spM K 2 zrq)){zIr:yc}{zsp:yf}(zTj:FnAt K mg "is_push" zxk zdf zIr zsp)(zCk:tm P w K mg base CX0 1 zIr zsp zdf (spM K 4 zAk)){zqs:yc}{zqo:yf}(zNj:FnAt K mg "follows" zak zhf zqs zqo)(z0k:tm P w K mg base CX0 1 zqs zqo zhf (spM K 4 zYj)){f:yc}{fd:yf}(B:FnAt K mg "pushed" zWl zqg f fd):tm P w K mg base CX0 3 f fd zqg (spM K 4 z4l):=by
 refine fnM B.fn TK rfl (λcdv A outer s H E hr=>⟨zcm,?_,λ_ _ _ _ _ e=>e⟩);have hu:=hr.units;exact(zn (zN 4 (zdb zup T.sy zRn (zf (mv 1) zh)) (hN:=TK.nd)) (zn (zVf (z6i T.tX zIc (mv 3)) (zbu (zKf (ztc 5 (hN:=TK.nd)) (zKf (ztc 6 (hN:=TK.nd)) zhq))) (zn (zQc (zml (MW.mt (zFr (z5h (tu zTj zCk hr (zf (mv 0) (zf (mv 1) (zf (mv 3) (zf (mv 5) zh)))))) (zSn (z5h (tu zNj z0k hr (zf (mv 1) (zf (mv 2) (zf (mv 3) (zf (mv 5) zh)))))))))) (zp zte) z7) (zp (zMm (zJ (mv 6) zo) (zzz (mv 4) (zJ (mv 6) zo)))))) (zn (zQc (MW.mt (z1m (z6 (zjd hu) (zL zW T.tO z4b (zf (mv 3) zh)) zo) (zSi (z6 zzh (tu zkq zxq hr (zf (mv 0) (zf (mv 4) zh))) zJi)))) (zp zte) z7) (zp (zE (mv 4))))))
abbrev zSg:yR:=top 54
abbrev zDd:List yn:=["web","laying","keys"]
def Tb:tq ztm zDd (zu zSg):=by walk_at "s"
def zqq(T:Txt K mg){zyt:yc}{zhs:yf}(z0l:FnAt K mg "put_in" z6l zvg zyt zhs)(z0m:tm P w K mg base CX0 3 zyt zhs zvg (spM K 3 zQl)){zNt:yc}{z0r:yf}(zXl:FnAt K mg "pushed" zWl zqg zNt z0r)(zZm:tm P w K mg base CX0 3 zNt z0r zqg (spM K 4 z4l)){f:yc}{fd:yf}(B:FnAt K mg "laid_more" zSg zDd f fd):tm P w K mg base CX0 4 f fd zDd (spM K 3 z8g):=by
 refine fnM B.fn Tb rfl (λcdv A outer s H E hr=>⟨zfh,?_,λ_ _ _ _ _ e=>e⟩);have hu:=hr.units;exact(zn (zN 3 (zlf zh) (hN:=Tb.nd)) (zn (zVf (zKb (mv 2)) (ztc 4 (hN:=Tb.nd)) (zn (zN 5 (tu z0l z0m hr (zf (mv 0) (zf (mv 1) (zf (mv 4) zh)))) (hN:=Tb.nd)) (zp (zQc (z6 (zjd hu) (zJ (mv 5) zo) z0) (zp (zN 1 (tu zXl zZm hr (zf (mv 0) (zf (mv 1) (zf (mv 4) (zf (zJ (mv 5) zo) zh))))) (hN:=Tb.nd))) (zp (z0f (z8q (mv 3) (zf (zJ (mv 5) zo) zh)))))))) (zp (zE (zCd (zf (mv 1) (zf (z0x T.Sb zds T.n_set zlA (mv 3)) zh)))))))
abbrev zZc:yR:=top 55
abbrev znb:List yn:=["web"]
def zbo:tq zUj znb (zu zZc):=by walk_at "s"
def z4n(T:Txt K mg){z5m:yc}{zfl:yf}(zAg:FnAt K mg "laid_more" zSg zDd z5m zfl)(zRh:tm P w K mg base CX0 4 z5m zfl zDd (spM K 3 z8g)){f:yc}{fd:yf}(B:FnAt K mg "laid_at_all" zZc znb f fd):tm P w K mg base CX0 5 f fd znb (spM K 1 z1b):=by
 refine fnM B.fn zbo rfl (λcdv A outer s H E hr=>⟨zYe,?_,λ_ _ _ _ _ e=>e⟩);have hu:=hr.units;exact(zp (zE (tu zAg zRh hr (zf (mv 0) (zf (zib z3d (zlf (zf zJi zh)) (zL zW T.tO z4b (zf (zJ (mv 0) zo) zh))) (zf (z3x T.sy zRn T.Th (zL zW T.tO z4b (zf (zJ (mv 0) zo) zh))) zh))))))
abbrev zrk:yR:=top 25
abbrev zaf:List yn:=["web","nests"]
def zUv:tq zWr zaf (zu zrk):=by walk_at "s"
def zYs(T:Txt K mg){f:yc}{fd:yf}(B:FnAt K mg "room_of" zrk zaf f fd):tm P w K mg base CX0 1 f fd zaf (spM K 2 zpk):=by
 refine fnM B.fn zUv rfl (λcdv A outer s H E hr=>⟨zzk,?_,λ_ _ _ _ _ e=>e⟩);have hu:=hr.units;exact(zp (zE (zL (zGr rfl) T.n_sum z4z (zf (mlc ["nest"] [0] (zKb (mv 1)) (λ_ _ _ _ _=>(zH 0 (hN:=zG (by rfl)))) (λ_ _ _ _ _=>zSb) (λ_ _ _ _ _=>(zJ (zJ (mv 1) zo) (mv 0))) (z0b ⟨_,rfl,rfl⟩ zsb)) zh))))
abbrev zjg:yR:=top 24
abbrev zRc:List yn:=["web","some"]
def TC:tq zPo zRc (zu zjg):=by walk_at "s"
def zDr(T:Txt K mg){f:yc}{fd:yf}(B:FnAt K mg "homes_of" zjg zRc f fd):tm P w K mg base CX0 1 f fd zRc (spM K 2 z9e):=by
 refine fnM B.fn TC rfl (λcdv A outer s H E hr=>⟨zti,?_,λ_ _ _ _ _ e=>e⟩);have hu:=hr.units;exact(zn (zN 2 (zlf zh) (hN:=TC.nd)) (zn (zVf (zKb (mv 1)) (ztc 3 (hN:=TC.nd)) (zp (z0f (z8q (mv 2) (zf (zJ (zJ (mv 0) zo) (mv 3)) zh))))) (zp (zE (z0x T.Sb zds T.n_set zlA (mv 2))))))
abbrev zoi:yR:=top 57
abbrev zde:List yn:=["web","some"]
def zNs:tq zro zde (zu zoi):=by walk_at "s"
def zgs(T:Txt K mg){zts:yc}{zWo:yf}(zGj:FnAt K mg "room_of" zrk zaf zts zWo)(zJk:tm P w K mg base CX0 1 zts zWo zaf (spM K 2 zpk)){zlg:yc}{ztf:yf}(zme:FnAt K mg "homes_of" zjg zRc zlg ztf)(zie:tm P w K mg base CX0 1 zlg ztf zRc (spM K 2 z9e)){f:yc}{fd:yf}(B:FnAt K mg "is_crowd" zoi zde f fd):tm P w K mg base CX0 2 f fd zde (spM K 2 zqi):=by
 refine fnM B.fn zNs rfl (λcdv A outer s H E hr=>⟨zci,?_,λ_ _ _ _ _ e=>e⟩);have hu:=hr.units;exact(zp (zE (znj z8m (tu zGj zJk hr (zf (mv 0) (zf (tu zme zie hr (zf (mv 0) (zf (mv 1) zh))) zh))) (zL zW T.tO z4b (zf (mv 1) zh)))))
abbrev zFg:yR:=top 58
abbrev zAd:List yn:=["web","some"]
def TW:tq z7m zAd (zu zFg):=by walk_at "s"
def zgq(T:Txt K mg){zbp:yc}{zwn:yf}(zki:FnAt K mg "is_crowd" zoi zde zbp zwn)(zdj:tm P w K mg base CX0 2 zbp zwn zde (spM K 2 zqi)){f:yc}{fd:yf}(B:FnAt K mg "spare_key" zFg zAd f fd):tm P w K mg base CX0 3 f fd zAd (spM K 2 zqf):=by
 refine fnM B.fn TW rfl (λcdv A outer s H E hr=>⟨z3g,?_,λ_ _ _ _ _ e=>e⟩);have hu:=hr.units;exact(zn (zVf (zKb (mv 1)) (ztc 2 (hN:=TW.nd)) (zp (zQc (z5h (tu zki zdj hr (zf (mv 0) (zf (mlc ["other"] [2] (zKb (mv 1)) (λ_ _ _ _ _=>(zH 0 (hN:=zG (by rfl)))) (λ_ _ _ _ _=>(zOo (z6 (zsl hu) (mv 0) (mv 1)))) (λ_ _ _ _ _=>(mv 0)) (z0b ⟨_,rfl,rfl⟩ zsb)) zh)))) (zp (zE (mv 2))) z7))) (zp (zE zJi)))
abbrev zxj:yR:=top 59
abbrev zgf:List yn:=["web","some"]
def Ts:tq z2q zgf (zu zxj):=by walk_at "s"
def zIs(T:Txt K mg){zHn:yc}{z5k:yf}(zkf:FnAt K mg "spare_key" zFg zAd zHn z5k)(zYf:tm P w K mg base CX0 3 zHn z5k zAd (spM K 2 zqf)){f:yc}{fd:yf}(B:FnAt K mg "trimmed" zxj zgf f fd):tm P w K mg base CX0 4 f fd zgf (spM K 2 z2j):=by
 refine fnM B.fn Ts rfl (λcdv A outer s H E hr=>⟨zPj,?_,λ_ _ _ _ _ e=>e⟩);have hu:=hr.units;exact(zn (zN 2 (zdb zup T.sy zRn (zf (mv 1) zh)) (hN:=Ts.nd)) (zn (zN 3 (tu zkf zYf hr (zf (mv 0) (zf (mv 2) zh))) (hN:=Ts.nd)) (zn (zVp 100000 (z6 zzh (mv 3) zJi) (zn (z0f (zrx (mv 2) (zf (mv 3) zh))) (zp (zN 3 (tu zkf zYf hr (zf (mv 0) (zf (mv 2) zh))) (hN:=Ts.nd))))) (zp (zE (mv 2))))))
abbrev zsi:yR:=top 60
abbrev zed:List yn:=["web"]
def sK:tq z9t zed (zu zsi):=by walk_at "s"
def zqv(T:Txt K mg){z3b:yc}{zRb:yf}(zyb:FnAt K mg "laid_at_all" zZc znb z3b zRb)(zxb:tm P w K mg base CX0 5 z3b zRb znb (spM K 1 z1b)){zMr:yc}{zzo:yf}(zQj:FnAt K mg "trimmed" zxj zgf zMr zzo)(zTk:tm P w K mg base CX0 4 zMr zzo zgf (spM K 2 z2j)){f:yc}{fd:yf}(B:FnAt K mg "fitted" zsi zed f fd):tm P w K mg base CX0 6 f fd zed (spM K 1 zZd):=by
 refine fnM B.fn sK rfl (λcdv A outer s H E hr=>⟨zgm,?_,λ_ _ _ _ _ e=>e⟩);have hu:=hr.units;exact(zn (zN 1 (tu zyb zxb hr (zf (mv 0) zh)) (hN:=sK.nd)) (zn (zQc (z6 (zjd hu) (zJ (mv 1) zo) (zlf zh)) (zp (zE (zCd (zf z0 (zf (zJ (mv 1) zo) zh))))) z7) (zp (zE (zCd (zf z0 (zf (tu zQj zTk hr (zf (mv 0) (zf (zJ (mv 1) zo) zh))) zh)))))))
abbrev zqj:yR:=top 63
abbrev zcf:List yn:=["web","more"]
def zTv:tq zLr zcf (zu zqj):=by walk_at "s"
def z2s(T:Txt K mg){f:yc}{fd:yf}(B:FnAt K mg "widened" zqj zcf f fd):tm P w K mg base CX0 1 f fd zcf (spM K 2 zmj):=by
 refine fnM B.fn zTv rfl (λcdv A outer s H E hr=>⟨zzj,?_,λ_ _ _ _ _ e=>e⟩);have hu:=hr.units;exact(zp (zE (zCd (zf (zdb ztb T.tV zEc (zf (mlc ["room","added"] [] (zWC T.n_zip z2D (zf (zJ (mv 0) zo) (zf (mv 1) zh))) (λ_ _ _ _ _=>(zkm (zld (zH 0 (hN:=zG (by rfl))) (zld (zH 1 (hN:=zG (by rfl))) zCj)))) (λ_ _ _ _ _=>zSb) (λ_ _ _ _ _=>(zib z6b (mv 0) (mv 1))) zsb) zh)) (zf (zJ (mv 0) zo) zh)))))
abbrev znh:yR:=top 94
abbrev zyd:List yn:=["_law_pen_here"]
def Tc:tq zRm zyd (zu znh):=by walk_at "s"
def zCp(T:Txt K mg){zUc:yc}{zic:yf}(zI:FnAt K mg "_law_take" zhe zTb zUc zic)(zF:tm P w K mg base CX0 1 zUc zic zTb (spM K 2 zD)){f:yc}{fd:yf}(B:FnAt K mg "_law_rule" znh zyd f fd):tm P w K mg base CX0 2 f fd zyd (spM K 1 zih):=by
 refine fnM B.fn Tc rfl (λcdv A outer s H E hr=>⟨zDg,?_,λ_ _ _ _ _ e=>e⟩);have hu:=hr.units;exact(zn (zN 1 (zib z6b zo (tu zI zF hr (zf (mv 0) (zf zo zh)))) (hN:=Tc.nd)) (zn (zN 2 (zdb ztb T.tV zEc (zf (mlc ["_law_k"] [0] (z4e T.Th (zf (mv 1) zh)) (λ_ _ _ _ _=>(zH 0 (hN:=zG (by rfl)))) (λ_ _ _ _ _=>zSb) (λ_ _ _ _ _=>(tu zI zF hr (zf (mv 1) (zf zo zh)))) (z0b ⟨_,rfl,rfl⟩ zsb)) zh)) (hN:=Tc.nd)) (zn (zN 3 (zJ (zlf (zf zo (zf zo zh))) (tu zI zF hr (zf (mv 0) (zf zo zh)))) (hN:=Tc.nd)) (zn (zN 4 (zdb ztb T.tV zEc (zf (mlc ["_law_k"] [0,3] (z4e T.Th (zf (zib z6b zo (tu zI zF hr (zf (mv 0) (zf zo zh)))) zh)) (λ_ _ _ _ _=>(zH 0 (hN:=zG (by rfl)))) (λ_ _ _ _ _=>zSb) (λ_ _ _ _ _=>(zCd (zf (tu zI zF hr (zf (mv 1) (zf (mv 2) zh))) (zf (tu zI zF hr (zf (mv 1) (zf (mv 2) zh))) zh)))) (z0b ⟨_,rfl,rfl⟩ (z0b ⟨_,rfl,rfl⟩ zsb))) zh)) (hN:=Tc.nd)) (zp (zE (zCd (zf (mv 2) (zf (mv 4) zh)))))))))
abbrev zwc:yR:=ziq (top 66) 0
abbrev zvb:List yn:=["self","rule"]
def zKk:tq zqh zvb (zu zwc):=by walk_at "s"
def z4j(T:Txt K mg){C:yc}{f:yc}{fd:yf}(B:TQ K mg "Shelf" zwc zvb C f fd):tm P w K mg base CX0 1 f fd zvb (spM K 2 zpd):=by
 refine fnM B.fn zKk rfl (λcdv A outer s H E hr=>⟨zrd,?_,λ_ _ _ _ _ e=>e⟩);have hu:=hr.units;exact(zn (zSw T.tT (mv 0) (mv 1)) (zp (zSw T.Te (mv 0) zGA)))
abbrev zpi:yR:=top 16
abbrev zoe:List yn:=["thing"]
def zOs:tq z0o zoe (zu zpi):=by walk_at "s"
def zbs(T:Txt K mg){zHb:yc}{zob:yf}(zrb:FnAt K mg "is_tuple" zHd zpb zHb zob)(zfb:tm P w K mg base CX0 1 zHb zob zpb (spM K 3 zVb)){zlb:yc}{zbb:yf}(zX:FnAt K mg "is_number_tuple" zUb zT zlb zbb)(zZ:tm P w K mg base CX0 2 zlb zbb zT (spM K 4 zhb)){f:yc}{fd:yf}(B:FnAt K mg "are_ways" zpi zoe f fd):tm P w K mg base CX0 3 f fd zoe (spM K 1 zAi):=by
 refine fnM B.fn zOs rfl (λcdv A outer s H E hr=>⟨zni,?_,λ_ _ _ _ _ e=>e⟩);have hu:=hr.units;exact(zp (zE (zKi (tu zrb zfb hr (zf (mv 0) (zf zo (zf zo zh)))) (z5n (zL (znn rfl) T.SI zmw (zf (mlc ["way"] [] (zKb (mv 0)) (λ_ _ _ _ _=>(zH 0 (hN:=zG (by rfl)))) (λ_ _ _ _ _=>zSb) (λ_ _ _ _ _=>(tu zX zZ hr (zf (mv 0) (zf zo (zf zo (zf (zib zOn (z2i T.sJ) zo) zh)))))) zsb) zh))))))
abbrev z8j:yR:=top 17
abbrev zff:List yn:=["thing"]
def z6u:tq z7r zff (zu z8j):=by walk_at "s"
def zzs(T:Txt K mg){zHb:yc}{zob:yf}(zrb:FnAt K mg "is_tuple" zHd zpb zHb zob)(zfb:tm P w K mg base CX0 1 zHb zob zpb (spM K 3 zVb)){zzf:yc}{zDe:yf}(ztd:FnAt K mg "are_rooms" zxf zjc zzf zDe)(zEd:tm P w K mg base CX0 3 zzf zDe zjc (spM K 1 zne)){zYo:yc}{zsn:yf}(zri:FnAt K mg "are_ways" zpi zoe zYo zsn)(z5i:tm P w K mg base CX0 3 zYo zsn zoe (spM K 1 zAi)){f:yc}{fd:yf}(B:FnAt K mg "is_rule" z8j zff f fd):tm P w K mg base CX0 4 f fd zff (spM K 1 zHj):=by
 refine fnM B.fn z6u rfl (λcdv A outer s H E hr=>⟨zlk,?_,λ_ _ _ _ _ e=>e⟩);have hu:=hr.units;exact(zp (zE (zKi (tu zrb zfb hr (zf (mv 0) (zf zo (zf zo zh)))) (zKi (tu ztd zEd hr (zf (zJ (mv 0) zo) zh)) (z5n (tu zri z5i hr (zf (zJ (mv 0) zo) zh)))))))
abbrev zKg:yR:=top 38
abbrev zId:List yn:=["text"]
def Tt:tq z2m zId (zu zKg):=by walk_at "s"
def z7p(T:Txt K mg){zze:yc}{z4d:yf}(zMc:FnAt K mg "check_text" zEe z5b zze z4d)(z9c:tm P w K mg base CX0 1 zze z4d z5b (spM K 1 zvd)){zgd:yc}{zLc:yf}(zNb:FnAt K mg "read_numbers" zid zEb zgd zLc)(zWb:tm P w K mg base CX0 2 zgd zLc zEb (spM K 1 z9b)){z2r:yc}{zIo:yf}(zWj:FnAt K mg "is_rule" z8j zff z2r zIo)(zDk:tm P w K mg base CX0 4 z2r zIo zff (spM K 1 zHj)){f:yc}{fd:yf}(B:FnAt K mg "read_rule" zKg zId f fd):tm P w K mg base CX0 5 f fd zId (spM K 1 zZg):=by
 refine fnM B.fn Tt rfl (λcdv A outer s H E hr=>⟨zMg,?_,λ_ _ _ _ _ e=>e⟩);have hu:=hr.units;exact(zn (z0f (tu zMc z9c hr (zf (mv 0) zh))) (zn (zN 1 (zFc (mv 0) (zf z0 zh)) (hN:=Tt.nd)) (zn (zN 2 (zCd (zf (tu zNb zWb hr (zf (zJ (mv 1) zo) zh)) (zf (zdb ztb T.tV zEc (zf (mlc ["word"] [] (zKb (zex (mv 1) (zSq zo) zjw)) (λ_ _ _ _ _=>(zH 0 (hN:=zG (by rfl)))) (λ_ _ _ _ _=>zSb) (λ_ _ _ _ _=>(tu zNb zWb hr (zf (mv 0) zh))) zsb) zh)) zh))) (hN:=Tt.nd)) (zn (zQc (zml (z5h (tu zWj zDk hr (zf (mv 2) zh)))) (zp zte) z7) (zp (zE (mv 2)))))))
abbrev zVc:yR:=ziq (top 87) 0
abbrev zJb:List yn:=["self","text"]
def zPl:tq zyh zJb (zu zVc):=by walk_at "s"
def zZk(T:Txt K mg){sj:yc}{zsh:yc}{zpg:yf}(zqd:TQ K mg "Shelf" zwc zvb sj zsh zpg)(zle:tm P w K mg base CX0 1 zsh zpg zvb (spM K 2 zpd)){zTn:yc}{zEl:yf}(zOg:FnAt K mg "read_rule" zKg zId zTn zEl)(z1h:tm P w K mg base CX0 5 zTn zEl zId (spM K 1 zZg)){C:yc}{f:yc}{fd:yf}(B:TQ K mg "Desk" zVc zJb C f fd):tm P w K mg base CX0 6 f fd zJb (spM K 2 z0d):=by
 refine fnM B.fn zPl rfl (λcdv A outer s H E hr=>⟨zRd,?_,λ_ _ _ _ _ e=>e⟩);have hu:=hr.units;exact(zp (zSw T.Tg (mv 0) (SE zqd zle hr (zf (tu zOg z1h hr (zf (mv 1) zh)) zh))))
abbrev zPp:yR:=top 18
abbrev zii:List yn:=["rule","key"]
def Sd:tq zFx zii (zu zPp):=by walk_at "s"
def z1w(T:Txt K mg){f:yc}{fd:yf}(B:FnAt K mg "homes" zPp zii f fd):tm P w K mg base CX0 1 f fd zii (spM K 2 zsq):=by
 refine fnM B.fn Sd rfl (λcdv A outer s H E hr=>⟨zCq,?_,λ_ _ _ _ _ e=>e⟩);have hu:=hr.units;exact(zn (zN 2 (zL zW T.tO z4b (zf (zJ (mv 0) zo) zh)) (hN:=Sd.nd)) (zp (zE (zdb ztb T.tV zEc (zf (mlc ["way"] [1,2] (zKb (zJ (mv 0) zo)) (λ_ _ _ _ _=>(zH 0 (hN:=zG (by rfl)))) (λ_ _ _ _ _=>zSb) (λ_ _ _ _ _=>(zib zWd (zib zWd (zib z6b (zib z3d (zJ (mv 0) zo) (mv 1)) (zJ (mv 0) zo)) (z2i T.sJ)) (mv 2))) (z0b ⟨_,rfl,rfl⟩ (z0b ⟨_,rfl,rfl⟩ zsb))) zh)))))
abbrev zyk:yR:=top 21
abbrev zJe:List yn:=["rule","keys"]
def zMx:tq zyu zJe (zu zyk):=by walk_at "s"
def zJv(T:Txt K mg){zxw:yc}{zju:yf}(zHq:FnAt K mg "homes" zPp zii zxw zju)(zmq:tm P w K mg base CX0 1 zxw zju zii (spM K 2 zsq)){f:yc}{fd:yf}(B:FnAt K mg "web_of" zyk zJe f fd):tm P w K mg base CX0 2 f fd zJe (spM K 2 zUg):=by
 refine fnM B.fn zMx rfl (λcdv A outer s H E hr=>⟨zfm,?_,λ_ _ _ _ _ e=>e⟩);have hu:=hr.units;exact(zp (zE (zCd (zf (zJ (mv 0) zo) (zf (zdb ztb T.tV zEc (zf (mlc ["key"] [0] (zKb (mv 1)) (λ_ _ _ _ _=>(zH 0 (hN:=zG (by rfl)))) (λ_ _ _ _ _=>zSb) (λ_ _ _ _ _=>(tu zHq zmq hr (zf (mv 1) (zf (mv 0) zh)))) (z0b ⟨_,rfl,rfl⟩ zsb)) zh)) zh)))))
abbrev zfd:yR:=top 30
abbrev zAb:List yn:=["numbers"]
def zkn:tq zOi zAb (zu zfd):=by walk_at "s"
def zNl(T:Txt K mg){f:yc}{fd:yf}(B:FnAt K mg "show_numbers" zfd zAb f fd):tm P w K mg base CX0 1 f fd zAb (spM K 1 z8b):=by
 refine fnM B.fn zkn rfl (λcdv A outer s H E hr=>⟨zve,?_,λ_ _ _ _ _ e=>e⟩);have hu:=hr.units;exact(zp (zE (z7f z0 (zf (mlc ["number"] [] (zKb (mv 0)) (λ_ _ _ _ _=>(zH 0 (hN:=zG (by rfl)))) (λ_ _ _ _ _=>zSb) (λ_ _ _ _ _=>(zdb zef T.sk zul (zf (mv 0) zh))) zsb) zh))))
abbrev zIg:yR:=top 31
abbrev zJd:List yn:=["rule"]
def zhr:tq zXn zJd (zu zIg):=by walk_at "s"
def zGp(T:Txt K mg){znd:yc}{zWc:yf}(zOb:FnAt K mg "show_numbers" zfd zAb znd zWc)(zYb:tm P w K mg base CX0 1 znd zWc zAb (spM K 1 z8b)){f:yc}{fd:yf}(B:FnAt K mg "show_rule" zIg zJd f fd):tm P w K mg base CX0 2 f fd zJd (spM K 1 zJg):=by
 refine fnM B.fn zhr rfl (λcdv A outer s H E hr=>⟨zWg,?_,λ_ _ _ _ _ e=>e⟩);have hu:=hr.units;exact(zp (zE (z7f z0 (zf (zib z6b (zlf (zf (tu zOb zYb hr (zf (zJ (mv 0) zo) zh)) zh)) (mlc ["way"] [] (zKb (zJ (mv 0) zo)) (λ_ _ _ _ _=>(zH 0 (hN:=zG (by rfl)))) (λ_ _ _ _ _=>zSb) (λ_ _ _ _ _=>(tu zOb zYb hr (zf (mv 0) zh))) zsb)) zh))))
abbrev zTl:yR:=top 69
abbrev zig:List yn:=["words"]
def zHx:tq znu zig (zu zTl):=by walk_at "s"
def zrv(T:Txt K mg){f:yc}{fd:yf}(B:FnAt K mg "is_row" zTl zig f fd):tm P w K mg base CX0 1 f fd zig (spM K 1 z5l):=by
 refine fnM B.fn zHx rfl (λcdv A outer s H E hr=>⟨z1l,?_,λ_ _ _ _ _ e=>e⟩);have hu:=hr.units;exact(zn (zQc (z6 (zjd hu) (zJ (mv 0) zo) z0) (zp (zE (znj zbA (zL zW T.tO z4b (zf (mv 0) zh)) zo))) z7) (zn (zQc (MW.mt (z1m (z6 (zjd hu) (zJ (mv 0) zo) z0) (zSi (z6 (zjd hu) (zJ (mv 0) zo) z0)))) (zp (zE (zyp zhp zhp zo (zL zW T.tO z4b (zf (mv 0) zh)) (zib z6b (z2i T.sm) zo)))) z7) (zp zte)))
abbrev zBe:yR:=ziq (top 66) 10
abbrev zqc:List yn:=["self"]
def ztq:tq zBl zqc (zu zBe):=by walk_at "s"
def zio(T:Txt K mg){C:yc}{f:yc}{fd:yf}(B:MethAt K "Shelf" "rule" "Shelf.rule" zBe zqc C f fd):tm P w K mg base CX0 1 f fd zqc (spM K 1 zLh):=by
 refine fnM B.fn ztq rfl (λcdv A outer s H E hr=>⟨zSf,?_,λ_ _ _ _ _ e=>e⟩);have hu:=hr.units;exact(zp (zE (zdA T.tT (mv 0))))
abbrev zhd:yR:=top 83
abbrev zBb:List yn:=["shelf","rest"]
def zVm:tq zQi zBb (zu zhd):=by walk_at "s"
def zJl(T:Txt K mg){zuj:yc}{zZh:yf}(z9g:FnAt K mg "web_of" zyk zJe zuj zZh)(zug:tm P w K mg base CX0 2 zuj zZh zJe (spM K 2 zUg)){sT:yc}{ztl:yc}{zik:yf}(zBf:MethAt K "Shelf" "rule" "Shelf.rule" zBe zqc sT ztl zik)(zQg:tm P w K mg base CX0 1 ztl zik zqc (spM K 1 zLh)){zVd:yc}{zcd:yf}(zkc:FnAt K mg "read_number" zSd zPb zVd zcd)(zDc:tm P w K mg base CX0 1 zVd zcd zPb (spM K 1 zmc)){f:yc}{fd:yf}(B:FnAt K mg "web_of_words" zhd zBb f fd):tm P w K mg base CX0 3 f fd zBb (spM K 2 zyc):=by
 refine fnM B.fn zVm rfl (λcdv A outer s H E hr=>⟨zse,?_,λ_ _ _ _ _ e=>e⟩);have hu:=hr.units;exact(zp (zE (tu z9g zug hr (zf (mmeth0 zBf zQg hr (mv 0)) (zf (mlc ["word"] [] (zKb (zFc (mv 1) (zf z0 zh))) (λ_ _ _ _ _=>(zH 0 (hN:=zG (by rfl)))) (λ_ _ _ _ _=>zSb) (λ_ _ _ _ _=>(tu zkc zDc hr (zf (mv 0) zh))) zsb) zh)))))
abbrev zXf:yR:=top 70
abbrev zad:List yn:=["numbers"]
def zjq:tq zkl zad (zu zXf):=by walk_at "s"
def zao(T:Txt K mg){f:yc}{fd:yf}(B:FnAt K mg "show_words" zXf zad f fd):tm P w K mg base CX0 1 f fd zad (spM K 1 zTf):=by
 refine fnM B.fn zjq rfl (λcdv A outer s H E hr=>⟨zQf,?_,λ_ _ _ _ _ e=>e⟩);have hu:=hr.units;exact(zp (zE (z7f z0 (zf (mlc ["number"] [] (zKb (mv 0)) (λ_ _ _ _ _=>(zH 0 (hN:=zG (by rfl)))) (λ_ _ _ _ _=>zSb) (λ_ _ _ _ _=>(zdb zef T.sk zul (zf (mv 0) zh))) zsb) zh))))
abbrev zLe:yR:=top 32
abbrev z2b:List yn:=["nests"]
def zpq:tq zel z2b (zu zLe):=by walk_at "s"
def zco(T:Txt K mg){f:yc}{fd:yf}(B:FnAt K mg "show_homes" zLe z2b f fd):tm P w K mg base CX0 1 f fd z2b (spM K 1 zNc):=by
 refine fnM B.fn zpq rfl (λcdv A outer s H E hr=>⟨zBd,?_,λ_ _ _ _ _ e=>e⟩);have hu:=hr.units;exact(zp (zE (z7f z0 (zf (mlc ["nest"] [] (zKb (mv 0)) (λ_ _ _ _ _=>(zH 0 (hN:=zG (by rfl)))) (λ_ _ _ _ _=>zSb) (λ_ _ _ _ _=>(zto (zLq T.sf) (mv 0))) zsb) zh))))
abbrev zZe:yR:=top 84
abbrev zAc:List yn:=["shelf","rest"]
def TD:tq zok zAc (zu zZe):=by walk_at "s"
def zDn(T:Txt K mg){zHf:yc}{zAe:yf}(z1d:FnAt K mg "fitted" zsi zed zHf zAe)(zmd:tm P w K mg base CX0 6 zHf zAe zed (spM K 1 zZd)){zdd:yc}{zTc:yf}(z7b:FnAt K mg "web_of_words" zhd zBb zdd zTc)(zgc:tm P w K mg base CX0 3 zdd zTc zBb (spM K 2 zyc)){zpl:yc}{z5j:yf}(zWf:FnAt K mg "show_words" zXf zad zpl z5j)(zRg:tm P w K mg base CX0 1 zpl z5j zad (spM K 1 zTf)){zHe:yc}{zPd:yf}(zSc:FnAt K mg "show_homes" zLe z2b zHe zPd)(z4c:tm P w K mg base CX0 1 zHe zPd z2b (spM K 1 zNc)){f:yc}{fd:yf}(B:FnAt K mg "answer_fits" zZe zAc f fd):tm P w K mg base CX0 7 f fd zAc (spM K 2 zoc):=by
 refine fnM B.fn TD rfl (λcdv A outer s H E hr=>⟨zWe,?_,λ_ _ _ _ _ e=>e⟩);have hu:=hr.units;exact(zn (zN 2 (tu z1d zmd hr (zf (tu z7b zgc hr (zf (mv 0) (zf (mv 1) zh))) zh)) (hN:=TD.nd)) (zn (zQc (z6 (zjd hu) (zJ (mv 2) zo) z0) (zp (zE (zib zim z0 (tu zSc z4c hr (zf (zJ (mv 2) zo) zh))))) z7) (zp (zE (zib zim z0 (tu zWf zRg hr (zf (zJ (mv 2) zo) zh)))))))
abbrev zqr:yR:=top 45
abbrev zWh:List yn:=["laying"]
def z6A:tq zsA zWh (zu zqr):=by walk_at "s"
def zTz(T:Txt K mg){f:yc}{fd:yf}(B:FnAt K mg "laid" zqr zWh f fd):tm P w K mg base CX0 1 f fd zWh (spM K 1 zLn):=by
 refine fnM B.fn z6A rfl (λcdv A outer s H E hr=>⟨zmu,?_,λ_ _ _ _ _ e=>e⟩);have hu:=hr.units;exact(zp (zE (mlc ["key","nest"] [] (z6i T.tX zIc (mv 0)) (λ_ _ _ _ _=>(zkm (zld (zH 0 (hN:=zG (by rfl))) (zld (zH 1 (hN:=zG (by rfl))) zCj)))) (λ_ _ _ _ _=>(zOo (z6 zzh (mv 1) zJi))) (λ_ _ _ _ _=>(mv 0)) zsb)))
abbrev zar:yR:=top 62
abbrev z2h:List yn:=["web"]
def Sv:tq zFA z2h (zu zar):=by walk_at "s"
def zwz(T:Txt K mg){z3b:yc}{zRb:yf}(zyb:FnAt K mg "laid_at_all" zZc znb z3b zRb)(zxb:tm P w K mg base CX0 5 z3b zRb znb (spM K 1 z1b)){zlg:yc}{ztf:yf}(zme:FnAt K mg "homes_of" zjg zRc zlg ztf)(zie:tm P w K mg base CX0 1 zlg ztf zRc (spM K 2 z9e)){f:yc}{fd:yf}(B:FnAt K mg "most" zar z2h f fd):tm P w K mg base CX0 6 f fd z2h (spM K 1 zYn):=by
 refine fnM B.fn Sv rfl (λcdv A outer s H E hr=>⟨z0t,?_,λ_ _ _ _ _ e=>e⟩);have hu:=hr.units;exact(zn (zN 1 (tu zyb zxb hr (zf (mv 0) zh)) (hN:=Sv.nd)) (zp (zE (zCd (zf (zJ (mv 1) zo) (zf (tu zme zie hr (zf (mv 0) (zf (zJ (mv 1) zo) zh))) zh))))))
abbrev zXe:yR:=top 85
abbrev zzc:List yn:=["shelf","rest"]
def zgo:tq zfk zzc (zu zXe):=by walk_at "s"
def zOm(T:Txt K mg){zZr:yc}{zzn:yf}(z4m:FnAt K mg "laid" zqr zWh zZr zzn)(zGk:tm P w K mg base CX0 1 zZr zzn zWh (spM K 1 zLn)){zWq:yc}{zpn:yf}(zcn:FnAt K mg "most" zar z2h zWq zpn)(zYk:tm P w K mg base CX0 6 zWq zpn z2h (spM K 1 zYn)){zdd:yc}{zTc:yf}(z7b:FnAt K mg "web_of_words" zhd zBb zdd zTc)(zgc:tm P w K mg base CX0 3 zdd zTc zBb (spM K 2 zyc)){f:yc}{fd:yf}(B:FnAt K mg "answer_most" zXe zzc f fd):tm P w K mg base CX0 7 f fd zzc (spM K 2 zrc):=by
 refine fnM B.fn zgo rfl (λcdv A outer s H E hr=>⟨z3e,?_,λ_ _ _ _ _ e=>e⟩);have hu:=hr.units;exact(zp (zE (zdb zef T.sk zul (zf (zL zW T.tO z4b (zf (tu z4m zGk hr (zf (zJ (tu zcn zYk hr (zf (tu z7b zgc hr (zf (mv 0) (zf (mv 1) zh))) zh)) zo) zh)) zh)) zh))))
abbrev zgg:yR:=ziq (top 87) 1
abbrev zud:List yn:=["self","row"]
def TF:tq zap zud (zu zgg):=by walk_at "s"
def z1q(T:Txt K mg){zLt:yc}{zlr:yf}(zYl:FnAt K mg "is_row" zTl zig zLt zlr)(zfn:tm P w K mg base CX0 1 zLt zlr zig (spM K 1 z5l)){zoj:yc}{zNi:yf}(z0e:FnAt K mg "answer_fits" zZe zAc zoj zNi)(z6f:tm P w K mg base CX0 7 zoj zNi zAc (spM K 2 zoc)){zjk:yc}{zMi:yf}(z6e:FnAt K mg "answer_most" zXe zzc zjk zMi)(zag:tm P w K mg base CX0 7 zjk zMi zzc (spM K 2 zrc)){C:yc}{f:yc}{fd:yf}(B:MethAt K "Desk" "say" "Desk.say" zgg zud C f fd):tm P w K mg base CX0 8 f fd zud (spM K 2 zhg):=by
 obtain⟨C_ANSWERS,n_ANSWERS,m_ANSWERS⟩:=T.an;refine fnM B.fn TF rfl (λcdv A outer s H E hr=>⟨zwi,?_,λ_ _ _ _ _ e=>e⟩);have hu:=hr.units;exact(zn (zQc (MW.mt (z1m (zml (z5h (zL (zAh .str) T.tZ z2d (zf (mv 1) (zf (zZq T.sk zul) zh))))) (zSi (zml (z5h (tu zYl zfn hr (zf (zFc (mv 1) (zf z0 zh)) zh))))))) (zp zte) z7) (zn (zN 2 (zgC (mv 1) (zf z0 zh)) (hN:=TF.nd)) (zn (zN 3 (zSD T.ans (zFD n_ANSWERS m_ANSWERS) (zJ (mv 2) zo)) (hN:=TF.nd)) (zp (zE (zTD (pv 3) (Sr z0e T.Tk z6f (Sr z6e T.Tl zag dynNil)) hr (zf (zdA T.Tg (mv 0)) (zf (zJ (mv 2) zo) zh))))))))
abbrev zXc:yR:=top 98
abbrev zGb:List yn:=["_law_pen_here","_law_script"]
def tE:tq zcg zGb (zu zXc):=by walk_at "s"
def zWi(T:Txt K mg){zUm:yc}{zcl:yf}(zHg:FnAt K mg "_law_rule" znh zyd zUm zcl)(z3h:tm P w K mg base CX0 2 zUm zcl zyd (spM K 1 zih)){ss:yc}{zQh:yc}{zuh:yf}(zYd:TQ K mg "Desk" zVc zJb ss zQh zuh)(zRe:tm P w K mg base CX0 6 zQh zuh zJb (spM K 2 z0d)){zuj:yc}{zZh:yf}(z9g:FnAt K mg "web_of" zyk zJe zuj zZh)(zug:tm P w K mg base CX0 2 zuj zZh zJe (spM K 2 zUg)){zrm:yc}{zrl:yf}(zLg:FnAt K mg "show_rule" zIg zJd zrm zrl)(zKh:tm P w K mg base CX0 2 zrm zrl zJd (spM K 1 zJg)){Sk:yc}{z1o:yc}{zHm:yf}(zfg:MethAt K "Desk" "say" "Desk.say" zgg zud Sk z1o zHm)(zVg:tm P w K mg base CX0 8 z1o zHm zud (spM K 2 zhg)){zod:yc}{zKc:yf}(zac:FnAt K mg "_law_cell_at" zkd zCb zod zKc)(zhc:tm P w K mg base CX0 2 zod zKc zCb (spM K 2 zQb)){zHf:yc}{zAe:yf}(z1d:FnAt K mg "fitted" zsi zed zHf zAe)(zmd:tm P w K mg base CX0 6 zHf zAe zed (spM K 1 zZd)){zZr:yc}{zzn:yf}(z4m:FnAt K mg "laid" zqr zWh zZr zzn)(zGk:tm P w K mg base CX0 1 zZr zzn zWh (spM K 1 zLn)){zUc:yc}{zic:yf}(zI:FnAt K mg "_law_take" zhe zTb zUc zic)(zF:tm P w K mg base CX0 1 zUc zic zTb (spM K 2 zD)){zWq:yc}{zpn:yf}(zcn:FnAt K mg "most" zar z2h zWq zpn)(zYk:tm P w K mg base CX0 6 zWq zpn z2h (spM K 1 zYn)){f:yc}{fd:yf}(B:FnAt K mg "_law_desk_alike" zXc zGb f fd):tm P w K mg base CX0 9 f fd zGb (spM K 2 zYc):=by
 refine fnM B.fn tE rfl (λcdv A outer s H E hr=>⟨z7c,?_,λ_ _ _ _ _ e=>e⟩);have hu:=hr.units;exact(zn (zN 2 (tu zHg z3h hr (zf (mv 0) zh)) (hN:=tE.nd)) (zn (zN 2 (zCd (zf (zdb ztb T.tV zEc (zf (mlc ["_law_room"] [] (zKb (zJ (mv 2) zo)) (λ_ _ _ _ _=>(zH 0 (hN:=zG (by rfl)))) (λ_ _ _ _ _=>zSb) (λ_ _ _ _ _=>(zib zWd (mv 0) zo)) zsb) zh)) (zf (zJ (mv 2) zo) zh))) (hN:=tE.nd)) (zn (zN 3 (SE zYd zRe hr (zf (tu zLg zKh hr (zf (mv 2) zh)) zh)) (hN:=tE.nd)) (zn (mslc 4 ["_law_k"] [1] (z4e T.Th (zf (zib z6b zo (tu zI zF hr (zf (mv 0) (zf zo zh)))) zh)) (λ_ _ _ _ _=>(zH 0 (hN:=zG (by rfl)))) (λ_ _ _ _ _=>zSb) (λ_ _ _ _ _=>(zib zWd (tu zac zhc hr (zf (mv 1) (zf (zib z6b zo (mv 0)) zh))) (zib zvB zo zo))) (z0b ⟨_,rfl,rfl⟩ zsb) tE.nd) (zn (zN 5 (tu z9g zug hr (zf (mv 2) (zf (mv 4) zh))) (hN:=tE.nd)) (zn (zN 6 (z7f z0 (zf (mlc ["_law_key"] [] (zKb (mv 4)) (λ_ _ _ _ _=>(zH 0 (hN:=zG (by rfl)))) (λ_ _ _ _ _=>zSb) (λ_ _ _ _ _=>(zdb zef T.sk zul (zf (mv 0) zh))) zsb) zh)) (hN:=tE.nd)) (zn (zQc (z6 (zsl hu) (zJ (zFc (mmeth zfg zVg hr (mv 3) (zf (zib zim z0 (mv 6)) zh)) (zf z0 zh)) zo) (zJ (tu z1d zmd hr (zf (mv 5) zh)) zo)) (zp (zE z6q)) z7) (zp (zE (znj (zjd hu) (mmeth zfg zVg hr (mv 3) (zf (zib zim z0 (mv 6)) zh)) (zdb zef T.sk zul (zf (zL zW T.tO z4b (zf (tu z4m zGk hr (zf (zJ (tu zcn zYk hr (zf (mv 5) zh)) zo) zh)) zh)) zh))))))))))))
abbrev zHi:yR:=top 33
abbrev zre:List yn:=["web"]
def z7s:tq zgp zre (zu zHi):=by walk_at "s"
def znr(T:Txt K mg){znd:yc}{zWc:yf}(zOb:FnAt K mg "show_numbers" zfd zAb znd zWc)(zYb:tm P w K mg base CX0 1 znd zWc zAb (spM K 1 z8b)){zHe:yc}{zPd:yf}(zSc:FnAt K mg "show_homes" zLe z2b zHe zPd)(z4c:tm P w K mg base CX0 1 zHe zPd z2b (spM K 1 zNc)){f:yc}{fd:yf}(B:FnAt K mg "show_web" zHi zre f fd):tm P w K mg base CX0 2 f fd zre (spM K 1 zgi):=by
 refine fnM B.fn z7s rfl (λcdv A outer s H E hr=>⟨zdi,?_,λ_ _ _ _ _ e=>e⟩);have hu:=hr.units;exact(zp (zE (z7f z0 (zf (zib z6b (zlf (zf (tu zOb zYb hr (zf (zJ (mv 0) zo) zh)) zh)) (mlc ["nests"] [] (zKb (zJ (mv 0) zo)) (λ_ _ _ _ _=>(zH 0 (hN:=zG (by rfl)))) (λ_ _ _ _ _=>zSb) (λ_ _ _ _ _=>(tu zSc z4c hr (zf (mv 0) zh))) zsb)) zh))))
abbrev znc:yR:=top 96
abbrev zqb:List yn:=["_law_text_here","_law_laying"]
def tJ:tq zyf zqb (zu znc):=by walk_at "s"
def zCh(T:Txt K mg){f:yc}{fd:yf}(B:FnAt K mg "_law_laid_in_text" znc zqb f fd):tm P w K mg base CX0 1 f fd zqb (spM K 2 zpc):=by
 refine fnM B.fn tJ rfl (λcdv A outer s H E hr=>⟨zsc,?_,λ_ _ _ _ _ e=>e⟩);have hu:=hr.units;exact(zn (zN 2 (zFc (mv 0) (zf z0 zh)) (hN:=tJ.nd)) (zn (zN 3 (mlc ["_law_room"] [] (zKb (zFc (zJ (mv 2) zo) (zf z0 zh))) (λ_ _ _ _ _=>(zH 0 (hN:=zG (by rfl)))) (λ_ _ _ _ _=>zSb) (λ_ _ _ _ _=>(zdb z1k T.Su zTt (zf (mv 0) zh))) zsb) (hN:=tJ.nd)) (zn (zN 4 (mlc ["_law_nest"] [] (zKb (mv 1)) (λ_ _ _ _ _=>(zH 0 (hN:=zG (by rfl)))) (λ_ _ _ _ _=>zSb) (λ_ _ _ _ _=>(zto z0 (mv 0))) zsb) (hN:=tJ.nd)) (zn (zQc (z6 (zsl hu) (zL zW T.tO z4b (zf (mv 4) zh)) (zib zOn (zL zW T.tO z4b (zf (mv 2) zh)) zo)) (zp (zE z6q)) z7) (zn (zVf (z4e T.Th (zf (zL zW T.tO z4b (zf (mv 4) zh)) zh)) (ztc 5 (hN:=tJ.nd)) (zp (zQc (z6 zLj (zJ (mv 4) (mv 5)) (zFc (zJ (mv 2) (zib z6b zo (mv 5))) (zf z0 zh))) (zp (zE z6q)) z7))) (zp (zE (znj (zjd hu) (mlc ["_law_h"] [4,3] (z4e T.Th (zf (zL zW T.tO z4b (zf (mv 3) zh)) zh)) (λ_ _ _ _ _=>(zH 0 (hN:=zG (by rfl)))) (λ_ _ _ _ _=>(zOo (z6 zis (zDt (mv 1) (zf (zto z0 (mv 0)) zh)) (zJ (mv 2) (mv 0))))) (λ_ _ _ _ _=>(mv 0)) (z0b ⟨_,rfl,rfl⟩ (z0b ⟨_,rfl,rfl⟩ zsb))) (zlf zh)))))))))
abbrev z1e:yR:=top 64
abbrev zBc:List yn:=["web"]
def Td:tq zgk zBc (zu z1e):=by walk_at "s"
def zXm(T:Txt K mg){z3b:yc}{zRb:yf}(zyb:FnAt K mg "laid_at_all" zZc znb z3b zRb)(zxb:tm P w K mg base CX0 5 z3b zRb znb (spM K 1 z1b)){f:yc}{fd:yf}(B:FnAt K mg "room_wanted" z1e zBc f fd):tm P w K mg base CX0 6 f fd zBc (spM K 1 z5e):=by
 refine fnM B.fn Td rfl (λcdv A outer s H E hr=>⟨z2e,?_,λ_ _ _ _ _ e=>e⟩);have hu:=hr.units;exact(zn (zN 1 (zib z3d (zlf (zf zo zh)) (zL zW T.tO z4b (zf (zJ (mv 0) zo) zh))) (hN:=Td.nd)) (zn (zN 2 (zJ (tu zyb zxb hr (zf (mv 0) zh)) zo) (hN:=Td.nd)) (zn (zVf (z4e T.Th (zf (zL zW T.tO z4b (zf (mv 2) zh)) zh)) (ztc 3 (hN:=Td.nd)) (zp (zQc (z6 zgD (zJ (mv 2) (mv 3)) zJi) (zn (zMm (zJ (zJ (zJ (mv 0) zo) (mv 3)) zo) (zzz (mv 2) (mv 3))) (zp (zfy zUw (mv 1) (zJ (mv 2) (mv 3)) zo))) z7))) (zp (zE (zCd (zf (mv 1) (zf (mv 2) zh))))))))
abbrev zdc:yR:=top 97
abbrev zkb:List yn:=["_law_text_here","_law_some"]
def tL:tq zVe zkb (zu zdc):=by walk_at "s"
def zwh(T:Txt K mg){f:yc}{fd:yf}(B:FnAt K mg "_law_crowd_in_text" zdc zkb f fd):tm P w K mg base CX0 1 f fd zkb (spM K 2 zec):=by
 refine fnM B.fn tL rfl (λcdv A outer s H E hr=>⟨zfc,?_,λ_ _ _ _ _ e=>e⟩);have hu:=hr.units;exact(zn (zN 2 (zFc (mv 0) (zf z0 zh)) (hN:=tL.nd)) (zn (zN 3 (mlc ["_law_room"] [] (zKb (zFc (zJ (mv 2) zo) (zf z0 zh))) (λ_ _ _ _ _=>(zH 0 (hN:=zG (by rfl)))) (λ_ _ _ _ _=>zSb) (λ_ _ _ _ _=>(zdb z1k T.Su zTt (zf (mv 0) zh))) zsb) (hN:=tL.nd)) (zn (zN 4 (z7f z0 (zf (mlc ["_law_k"] [2] (zKb (mv 1)) (λ_ _ _ _ _=>(zH 0 (hN:=zG (by rfl)))) (λ_ _ _ _ _=>zSb) (λ_ _ _ _ _=>(zJ (mv 1) (zib z6b zo (mv 0)))) (z0b ⟨_,rfl,rfl⟩ zsb)) zh)) (hN:=tL.nd)) (zp (zE (znj z8m (zL (zGr rfl) T.n_sum z4z (zf (mlc ["_law_h"] [3,4] (z4e T.Th (zf (zL zW T.tO z4b (zf (mv 3) zh)) zh)) (λ_ _ _ _ _=>(zH 0 (hN:=zG (by rfl)))) (λ_ _ _ _ _=>(zOo (z6 zeB (zto z0 (mv 0)) (mv 2)))) (λ_ _ _ _ _=>(zJ (mv 1) (mv 0))) (z0b ⟨_,rfl,rfl⟩ (z0b ⟨_,rfl,rfl⟩ zsb))) zh)) (zL zW T.tO z4b (zf (mv 1) zh))))))))
abbrev zCs:yR:=top 99
abbrev zCu:List yn:=["_law_script"]
def Tu:tq z0C zCu (zu zCs):=by walk_at "s"
def zSA(T:Txt K mg){zFo:yc}{zum:yf}(zmg:FnAt K mg "_law_pen" zzi zpe zFo zum)(z0g:tm P w K mg base CX0 3 zFo zum zpe (spM K 2 zrg)){ztp:yc}{zBn:yf}(zbi:FnAt K mg "_law_web" zBi zje ztp zBn)(zVi:tm P w K mg base CX0 2 ztp zBn zje (spM K 2 zli)){zpm:yc}{zGl:yf}(zch:FnAt K mg "_law_text" zGg zKd zpm zGl)(zTh:tm P w K mg base CX0 1 zpm zGl zKd (spM K 1 z6g)){z7o:yc}{zyn:yf}(zxg:FnAt K mg "read_web" zxi zce z7o zyn)(zBg:tm P w K mg base CX0 5 z7o zyn zce (spM K 1 zkg)){zHf:yc}{zAe:yf}(z1d:FnAt K mg "fitted" zsi zed zHf zAe)(zmd:tm P w K mg base CX0 6 zHf zAe zed (spM K 1 zZd)){zer:yc}{zuo:yf}(zpj:FnAt K mg "widened" zqj zcf zer zuo)(z2k:tm P w K mg base CX0 1 zer zuo zcf (spM K 2 zmj)){zyg:yc}{zLf:yf}(z2c:FnAt K mg "_law_desk_alike" zXc zGb zyg zLf)(zOd:tm P w K mg base CX0 9 zyg zLf zGb (spM K 2 zYc)){zqp:yc}{zin:yf}(zvi:FnAt K mg "show_web" zHi zre zqp zin)(z0i:tm P w K mg base CX0 2 zqp zin zre (spM K 1 zgi)){zmf:yc}{zTe:yf}(zlc:FnAt K mg "_law_laid_in_text" znc zqb zmf zTe)(zbd:tm P w K mg base CX0 1 zmf zTe zqb (spM K 2 zpc)){zvk:yc}{zRi:yf}(z7e:FnAt K mg "room_wanted" z1e zBc zvk zRi)(z5f:tm P w K mg base CX0 6 zvk zRi zBc (spM K 1 z5e)){zUe:yc}{zGe:yf}(zcc:FnAt K mg "_law_crowd_in_text" zdc zkb zUe zGe)(zJc:tm P w K mg base CX0 1 zUe zGe zkb (spM K 2 zec)){f:yc}{fd:yf}(B:FnAt K mg "law" zCs zCu f fd):tm P w K mg base CX0 10 f fd zCu (spM K 1 zFv):=by
 refine fnM B.fn Tu rfl (λcdv A outer s H E hr=>⟨zgz,?_,λ_ _ _ _ _ e=>e⟩);have hu:=hr.units;exact(zn (zN 1 (tu zmg z0g hr (zf (mv 0) (zf zo zh))) (hN:=Tu.nd)) (zn (zN 2 (tu zbi zVi hr (zf (mv 1) (zf zo zh))) (hN:=Tu.nd)) (zn (zN 3 (tu zch zTh hr (zf (mv 2) zh)) (hN:=Tu.nd)) (zn (zN 4 (tu zxg zBg hr (zf (mv 3) zh)) (hN:=Tu.nd)) (zn (zMm (tu z1d zmd hr (zf (mv 4) zh)) (zbu (zKf (ztc 5 (hN:=Tu.nd)) (zKf (ztc 6 (hN:=Tu.nd)) zhq)))) (zn (zQc (MW.mt (zFr (z6 (zjd hu) (mv 5) z0) (zSn (zml (z5h (tu zlc zbd hr (zf (mv 3) (zf (mv 6) zh)))))))) (zp (zE z6q)) z7) (zn (zQc (MW.mt (zFr (z6 (zsl hu) (mv 5) z0) (zSn (MW.mt (z1m (z6 (zsl hu) (mv 5) z0) (zSi (zml (z5h (tu zcc zJc hr (zf (mv 3) (zf (mv 6) zh))))))))))) (zp (zE z6q)) z7) (zn (zN 7 (tu zpj z2k hr (zf (mv 4) (zf (zJ (tu z7e z5f hr (zf (mv 4) zh)) zo) zh))) (hN:=Tu.nd)) (zn (zQc (z6 z8m (zL (zxv rfl) T.n_max zCD (zf (zJ (mv 7) zo) zh)) zo) (zn (zN 8 (tu zvi z0i hr (zf (mv 7) zh)) (hN:=Tu.nd)) (zp (zQc (MW.mt (z1m (z6 (zsl hu) (zJ (tu z1d zmd hr (zf (tu zxg zBg hr (zf (mv 8) zh)) zh)) zo) z0) (zSi (z6 (zsl hu) (zex (zFc (mv 8) (zf z0 zh)) (zSq zo) zjw) (zex (zFc (mv 3) (zf z0 zh)) (zSq zo) zjw))))) (zp (zE z6q)) z7))) z7) (zp (zE (tu z2c zOd hr (zf (tu zmg z0g hr (zf (mv 0) (zf zo zh))) (zf (mv 0) zh))))))))))))))
end
end P
namespace P
open PySem PySem.Spec PyProof.Rows L2 M
set_option maxHeartbeats 4000000
variable {R:List Nat}{K:List (List Nat)}{O:Mem}{Q:D->Mem->Prop}{i k l L m n h c:Nat}{xs ds:List D}{ns C S X y':List Nat}{B:Int}{J:M.Loc}{z y a b:yn}{nx bk ct:M.Loc->Mem->Prop}{rt:D->Mem->Prop}{lay lay0:List (Option Nat)}{row:List (Nat×Nat)}{α:Type}
def zlw{i j:Int}:gEq (.int i) (.int j) O=some (.bl (i==j),O):=by simp[gEq,toP,Ym]
def z2x:M.cutD xs none (some (i:Int))=xs.take i:=by
 unfold M.cutD;rw[HT.sX,HT.Sm,List.drop_zero,Nat.sub_zero];rcases Nat.le_total i xs.length with h|h
 ·rw[Nat.min_eq_left h]
 ·rw[Nat.min_eq_right h,take_length,Xd h]
def zRp:M.cutD xs (some (i:Int)) none=xs.drop i:=by
 unfold M.cutD;rw[HT.sX,HT.Sm];rcases Nat.le_total i xs.length with h|h
 ·rw[Nat.min_eq_left h,Xd (by simp)]
 ·rw[Nat.min_eq_right h,Nat.sub_self,List.take_zero,List.drop_eq_nil_of_le h]
local macro_rules | `(tactic| walk_at "w") => `(tactic| first
  | refine zB ?_ | refine zMb ?_ | refine zCv ?_ | refine zFb ?_ | refine zjl ?_ | refine zIi ?_ | refine zDb ?_ | refine zHk ?_
  | refine zl rfl ?_ | refine w_c ?_ | refine zz ?_ | refine zt ?_ | refine zj ?_ | refine zr ?_ | refine zYh ?_ | refine zqm ?_ | refine zdE ?_ | refine zfv ?_ | refine zyo ?_ | refine zEr ?_ | refine zLF ?_ | refine w_not ?_ | refine z6E ?_ | refine zPm ?_ | refine zfi ?_ | refine z7t ?_ | refine zAE ?_
  | refine zS ?_ | refine zop ?_ | refine z1j ?_ | refine zhk ?_ | refine zcz ?_ | refine zJh ?_ | refine zOe ?_ | refine z4u ?_ | refine zCE ?_ | refine zvm ?_ | refine zYu ?_
  | refine zho ?_ | refine z5x ?_ | refine zty (by first | decide | omega) ?_ | refine zvF (by first | decide | omega) (by first | decide | omega) ?_ | refine zEj ?_ | refine zxt ?_ | refine zHD ?_ | refine zTE ?_ | refine zFz ?_ | refine zzC (by decide) (by decide) (by decide) ?_ | refine zKD ?_ | refine z7D ?_ | refine zLD ?_ | refine zvC ?_
  | refine zvh rfl ?_ | refine zWw rfl ?_ | refine zXd rfl ?_ | with_reducible refine ⟨_,rfl,?_⟩)
local macro_rules | `(tactic| walk_at "om") => `(tactic| first | omega | (simp only [length_map, length_range, Int.toNat_natCast, length_append, length_cons, List.length_nil] at *; omega) | (simp <;> omega))
def ziC{ns:List Int}{k:Int}(h0:0<=k)(h1:k<=1000):∃v,zxd [.fz (ns.map .int),.int k] O=some (.int v,O):=by
 have hk1:-18446744073709551616<k:=by omega
 have hk2:k<18446744073709551616:=by omega
 by_cases hn:ns=[]
 ·subst hn;simp[zxd,zOf,zEf,zjn,hk1,hk2]
 ·have hl:0<ns.length:=List.length_pos_iff.mpr hn;have hl':(0:Int)<ns.length:=by omega
  have hm0:0<=k%(ns.length:Int):=Int.emod_nonneg _ (by omega);have hm1:k%(ns.length:Int)<ns.length:=Int.emod_lt_of_pos _ hl';have hi:(k%(ns.length:Int)).toNat<ns.length:=by omega
  simp[zxd,zOf,zEf,zjn,hk1,hk2,hl,hl',hm0,hm1,atI,ixN,yA hi]
def zhA{ns:List Int}{k:Int}(h0:0<=k)(h1:k<=1000):∃v,zQb [.fz (ns.map .int),.int k] O=some (.int v,O):=by
 by_cases h:k<ns.length
 ·have hi:k.toNat<ns.length:=by omega
  exact⟨ns[k.toNat],by simp[zQb,zwe,zye,h,h0,atI,ixN,yA hi]⟩
 ·obtain⟨v,e⟩:=ziC (ns:=ns) (O:=O) h0 h1;exact⟨v,by simp[zQb,zwe,zye,h,e]⟩
def Pen(O:Mem)(l:Nat)(B:Int):Prop:=∃f c n a:Int,O[l]?=some (.lst [.int f,.int c,.int n,.int a])/\0<=a/\a<=B
def Pen.mono{B':Int}(h:Pen O l B)(hb:B<=B'):Pen O l B':=by
 obtain⟨f,c,n,a,e,h0,h1⟩:=h;exact⟨f,c,n,a,e,h0,by omega⟩
def Pen.kb{O O':Mem}{L:List Nat}(h:Pen O l B)(k:KB L O O')(hl:l∉L):Pen O' l B:=by
 obtain⟨f,c,n,a,e,h0,h1⟩:=h;exact⟨f,c,n,a,k.at_ _ _ hl e,h0,h1⟩
def Pen.app{O g:Mem}(h:Pen O l B):Pen (O++g) l B:=h.kb (L:=[]) (KB.refl.app) (by simp)
def Pen.lt(h:Pen O l B):l<O.length:=by
 obtain⟨f,c,n,a,e,_⟩:=h;exact zO e
def zke{s:Int}(h:Pen O l B)(hB:B<=1000000000)(h0:0<s)(h1:s<1606938044258990275541962092341162602522202993782792835301376)
 (q:∀v O',0<=v->v<s->KB [l] O O'->O'.length=O.length->Pen O' l (B+1)->Q (.int v) O'):WF zD [.loc l,.int s] O Q:=by
 obtain⟨f,c,n,a,e,ha,hb⟩:=h;have hlt:=zO e;have kb:∀o,KB [l] O (O.set l o):=λo=>KB.refl.set (.inl (by simp))
 by_cases hf:f=0
 ·subst hf;refine⟨_,_,?_,q (c%s) (O.set l (.lst [.int 0,.int (c / s),.int n,.int a])) (Int.emod_nonneg _ (by omega)) (Int.emod_lt_of_pos _ h0) (kb _) (by simp) ⟨0,c / s,n,a,z8 e,ha,by omega⟩⟩;simp[zD,zjh,zah,e,atI,ixN,zlw,h0,h1]
 ·have hf':(f==0)=false:=by simpa using hf
  have e2:(O.set l (.lst [.int f,.int c,.int n,.int (a+1)]))[l]?=some (.lst [.int f,.int c,.int n,.int (a+1)]):=z8 e;have hm1:-18446744073709551616<a+1:=by omega
  have hm2:a+1<18446744073709551616:=by omega
  refine⟨_,_,?_,q (((c%2305843009213693951*48271+(a+1)*(a+1)*40692+7*(a+1)+11)%2147483647*1181783497276652981%2305843009213693951 / 64)%s) (O.set l (.lst [.int f,.int c,.int n,.int (a+1)])) (Int.emod_nonneg _ (by omega)) (Int.emod_lt_of_pos _ h0) (kb _) (by simp) ⟨f,c,n,a+1,e2,by omega,by omega⟩⟩;simp[zD,zjh,zah,e,e2,atI,ixN,zlw,hf',h0,h1,zjn,hm1,hm2,zjo]
def z6z{ns:List Int}{k:Int}(h0:0<=k)(h1:k<=1000)(q:∀O',KB [] O O'->Pen O' O.length 101000->O'.length=O.length+1->Q (.loc O.length) O'):WF zrg [.fz (ns.map .int),.int k] O Q:=by
 obtain⟨v,e⟩:=zhA (ns:=ns) (O:=O) h0 h1;refine zmb rfl ?_;unfold zEk
 repeat walk_at "w"
 refine⟨_,_,e,?_⟩
 repeat walk_at "w"
 refine z4C (by unfold zjo;simp) ?_
 repeat walk_at "w"
 refine q _ KB.refl.app ⟨_,_,_,_,zw,by omega,by omega⟩ (by simp)
abbrev tp(ns:List Int):D:=.tup (ns.map .int)
abbrev wb(rooms:List Int)(ks:List (List Int)):D:=.tup [tp rooms,.tup (ks.map tp)]
structure WebA(L:Int)(rooms:List Int)(ks:List (List Int)):Prop where
 rl:1<=rooms.length/\rooms.length<=10
 rn:∀r∈rooms,0<=r
 kl:ks.length<=L
 kn:∀k∈ks,(2<=k.length/\k.length<=3)/\∀i∈k,0<=i/\i<rooms.length
def z9C{i:Int}(h0:0<=i)(h1:i<ds.length):∃d,d∈ds/\ds[i.toNat]?=some d/\atI ds i=some d:=by
 have hi:i.toNat<ds.length:=by omega
 refine⟨ds[i.toNat],getElem_mem hi,by simp[hi],?_⟩;have:=zuc (xs:=ds) (j:=i.toNat) (v:=ds[i.toNat]) (by simp[hi]);rw[Int.toNat_of_nonneg h0]at this;exact this
def zOB{p:Int->Prop}:∀ds:List D,(∀d∈ds,∃i:Int,d=.int i/\p i)->∃ns:List Int,ds=ns.map .int/\∀r∈ns,p r:=λds=>by
 induction ds with
 |nil=>exact λ_=>⟨[],rfl,by simp⟩
 |cons d ds ih=>
  intro h;obtain⟨ns,rfl,q⟩:=ih λx hx=>h x (mem_cons_of_mem _ hx);obtain⟨i,rfl,hi⟩:=h d mem_cons_self;exact⟨i::ns,rfl,by simp;exact⟨hi,q⟩⟩
def zuz{k:Int}{x:D}(h:Pen O l B)(hB:B<=1000000)(hk:0<=k/\k<4)
 (q:∀i O',0<=i/\i<=9->KB [l] O O'->Pen O' l (B+3)->Q (.int i) O'):WE zDf [some x,some (.loc l),some (.int k)] O Q:=by
 unfold zDf
 repeat walk_at "w"
 refine zke h (by omega) (by omega) (by omega) λv1 O1 a1 b1 k1 _ h1=>?_
 repeat walk_at "w"
 refine zke h1 (by omega) (by omega) (by omega) λv2 O2 a2 b2 k2 _ h2=>?_
 repeat walk_at "w"
 refine zke h2 (by omega) (by omega) (by omega) λv3 O3 a3 b3 k3 _ h3=>?_
 repeat walk_at "w"
 obtain⟨d,hm,_,ha⟩:=z9C (ds:=[.int v1,.int 1,.int v2,.int v3]) hk.1 (by simpa using hk.2);refine z6c (zy zw) ha ?_
 have fin:∀i:Int,0<=i/\i<=9->d=.int i->Q d (O3++[tD.lst [.int v1,.int 1,.int v2,.int v3]]):=λi hi e=>by
  rw[e];exact q i _ hi ((k1.trans (k2.trans k3)).app) (h3.app.mono (by omega))
 simp only[mem_cons,not_mem_nil,or_false]at hm;rcases hm with e|e|e|e
 ·exact fin v1 (by omega) e
 ·exact fin 1 (by omega) e
 ·exact fin v2 (by omega) e
 ·exact fin v3 (by omega) e
def zrB{kl:Nat}{m:Int}{K9 z z2 R C:D}{y:Option D}{ks:List (List Int)}(h:Pen O l B)(hB:B<=1000000)(hm:0<m/\m<=10)(hk:O[kl]?=some (.lst (ks.map tp)))(hne:l≠kl)(hlen:ks.length<=1000)
 (hδ:J=[some (.loc l),some z,some (.int m),some K9,some R,some C,some (.loc kl),some z2,y])
 (q:∀y' O' key,KB [l,kl] O O'->Pen O' l (B+4)->O'[kl]?=some (.lst ((ks++[key]).map tp))->(2<=key.length/\key.length<=3)->(∀i∈key,0<=i/\i<m)->nx [some (.loc l),some z,some (.int m),some K9,some R,some C,some (.loc kl),some z2,y'] O') :
 WS zFf J O nx rt bk ct:=by
 subst hδ;have hkl:=zO hk;have hll:=h.lt;have kp:∀{a b:Mem},KB [l] a b->KB [l,kl] a b:=λk=>k.sub (by simp);unfold zFf
 repeat walk_at "w"
 refine zke h (by omega) (by omega) (by omega) λv1 O1 a1 b1 k1 e1 h1=>?_
 repeat walk_at "w"
 refine zke h1 (by omega) (by omega) (by omega) λv2 O2 a2 b2 k2 e2 h2=>?_
 repeat walk_at "w"
 refine zke (O:=O2++[tD.lst [.int v1,.int v2]]) h2.app (by omega) (by omega) (by omega) λv3 O3 a3 b3 k3 e3 h3=>?_;have kl2:O2.length≠l:=by omega
 have kl3:kl≠O2.length:=by omega
 have g3:O3[O2.length]?=some (.lst [.int v1,.int v2]):=k3.at_ _ _ (by simp;exact kl2) zw;have gk3:O3[kl]?=some (.lst (ks.map tp)):=k3.at_ _ _ (by simp;exact yM hne) (zzb ((k1.trans k2).at_ _ _ (by simp;exact yM hne) hk));have kk:KB [l,kl] O O3:=(kp (k1.trans k2)).app.trans ((kp k3).sub (by simp)) 
 repeat walk_at "w"
 have fin:∀(key:List Int)(ν:Mem),KB [l,kl] O ν->Pen ν l (B+4)->ν[kl]?=some (.lst (ks.map tp))->ν[O2.length]?=some (.lst (key.map .int))->(2<=key.length/\key.length<=3)->(∀i∈key,0<=i/\i<m) ->
  WS (zyj (zVh z2f (zq 6) (zk (zx zFd (zk (zq 8) zA)) zA))) [some (.loc l),some z,some (.int m),some K9,some R,some C,some (.loc kl),some z2,some (.loc O2.length)] ν nx rt bk ct:=λkey ν kv pv g1 g2 hl hb=>by
  repeat walk_at "w"
  refine⟨_,_,rfl,g1,?_⟩
  repeat walk_at "w"
  refine zXd (zy g2) ?_
  repeat walk_at "w"
  refine zlj g1 (by simp;omega) ?_;refine q _ _ key (kv.set (.inl (by simp))) ?_ (by rw[z8 g1];simp) hl hb;obtain⟨f,c,n,a,e,h1⟩:=pv;exact⟨f,c,n,a,zU e (yM hne),h1⟩
 refine⟨λhb=>?_,λhb=>?_⟩
 ·repeat walk_at "w"
  refine⟨_,_,rfl,g3,?_⟩
  repeat walk_at "w"
  refine zke h3 (by omega) (by omega) (by omega) λv4 O4 a4 b4 k4 e4 h4=>?_
  repeat walk_at "w"
  have g4:=k4.at_ _ _ (by simp;exact kl2) g3;refine zlj g4 (by simp) ?_;refine fin [v1,v2,v4] _ ((kk.trans (kp k4)).set (.inr (by omega))) ?_ (zU (k4.at_ _ _ (by simp;exact yM hne) gk3) (yM kl3)) (by rw[z8 g4];rfl) (by simp) (by simp;omega);obtain⟨f,c,n,a,e,h1⟩:=h4;exact⟨f,c,n,a,zU e kl2,h1.1,by omega⟩
 ·refine zDb ?_;exact fin [v1,v2] _ kk (h3.mono (by omega)) gk3 g3 (by simp) (by simp;omega)
def zkC{lim:Int}(h:Pen O l B)(hB:B<=200000)(hl0:0<=lim)(hl1:lim<=100)
 (q:∀rooms ks O',WebA lim rooms ks->(∀r∈rooms,r<=9)->KB [l] O O'->Pen O' l (B+1000)->Q (wb rooms ks) O'):WF zli [.loc l,.int lim] O Q:=by
 have rest:∀(m:Int)(ν:Mem),1<=m->m<=10->KB [l] O ν->Pen ν l (B+3)->WS (zgb (zxc 3 (zx zD (zk (zq 0) (zk (fC (.int 4)) zA)))) (zgb (zxc 4 (zx zFd (zk (fLC 1 [0,3] (zNf (zk (zq 2) zA)) (gN 0) zxh zDf) zA))) (zgb (zxc 5 (zx zD (zk (zq 0) (zk (zC zPk (zq 1) (fC (.int 1))) zA)))) (zgb (zxc 6 (zNq zA)) (zgb (zMq (zNf (zk (zq 5) zA)) (gN 7) zFf) (zbc (zAm (zk (zq 4) (zk (zx zFd (zk (zq 6) zA)) zA)))))))))
  [some (.loc l),some (.int lim),some (.int m),none,none,none,none,none,none] ν (λ_ O'=>Q .non O') Q (λ_ _=>False) (λ_ _=>False):=λm ν hm0 hm1 kv pv=>by
  repeat walk_at "w"
  refine zke pv (by omega) (by omega) (by omega) λkd O1 a1 b1 k1 e1 h1=>?_
  repeat walk_at "w"
  refine⟨by omega,by omega,zjb (by simp;omega),?_⟩;refine zFm (λi ys O'=>KB [l] O1 O'/\Pen O' l (B+4+3*i)/\ys.length=i/\∀d∈ys,∃j:Int,d=.int j/\(0<=j/\j<=9)) ⟨.refl,by simpa using h1.mono (by omega),rfl,by simp⟩ (λ_ _ _ _=>rfl) ?_ ?_
  ·rintro i x ys O' hx ⟨k,p,hl,hy⟩;obtain⟨hi,rfl⟩:=zCg hx
   repeat walk_at "w"
   refine⟨λ_=>?_,λhf=>by cases hf⟩;refine zuz p (by omega) ⟨a1,b1⟩ λj O'' hj k' p'=>⟨k.trans k',p'.mono (by omega),by simp[hl],λd hd=>?_⟩
   rcases List.mem_append.mp hd with hd|hd
   ·exact hy d hd
   ·exact⟨j,by simpa using hd,hj⟩
  ·rintro ys O2 ⟨k2,p2,hl2,hy⟩;obtain⟨rooms,rfl,hr⟩:=zOB ys hy;simp only[length_map,length_range]at hl2 p2
   repeat walk_at "w"
   refine zXd (zy zw) ?_
   repeat walk_at "w"
   refine zke (p2.app.mono (show _<=B+34 by omega)) (by omega) (by omega) (by omega) λct O3 a3 b3 k3 e3 h3=>?_
   repeat walk_at "w"
   refine⟨by omega,by omega,?_⟩;have hne:l≠O3.length:=yz h3.lt;have kk:KB [l] O O3:=kv.trans (k1.trans (k2.app.trans k3));have hlen3:=kk.len;refine zTd (λi J O'=>∃(ks:List (List Int)) (x y:Option D),J=[some (.loc l),some (.int lim),some (.int m),some (.int kd),some (tp rooms),some (.int ct),some (.loc O3.length),x,y]/\O'[O3.length]?=some (.lst (ks.map tp))/\ks.length=i/\(∀k∈ks,(2<=k.length/\k.length<=3)/\∀i∈k,0<=i/\i<m)/\Pen O' l (B+35+4*i)/\KB [l] O O') ?_ (λ_ _ _ _=>rfl) ?_ ?_
   ·exact⟨[],none,none,rfl,zw,rfl,by simp,h3.app.mono (by omega),kk.app⟩
   ·rintro i x J O' hx ⟨ks,y1,y2,rfl,g,hl,hk,p,kq⟩;obtain⟨hi,rfl⟩:=zCg hx;refine zOe ?_;refine zrB (ks:=ks) (m:=m) (kl:=O3.length) p (by omega) (by omega) g hne (by omega) rfl λy' O'' key k' p' g' hl' hb'=>?_;refine⟨ks++[key],_,y',rfl,g',by simp[hl],λk hk'=>?_,p'.mono (by omega),kq.step k' (by simp;exact .inr hlen3)⟩
    ·rcases List.mem_append.mp hk' with hk'|hk'
     ·exact hk k hk'
     ·rw[List.mem_singleton.mp hk'];exact⟨hl',hb'⟩
   ·rintro J O' ⟨ks,y1,y2,rfl,g,hl,hk,p,kq⟩;simp only[length_map,length_range]at hl p
    repeat walk_at "w"
    refine zXd (zy g) ?_
    repeat walk_at "w"
    refine q rooms ks O' ⟨by omega,λr hr'=>(hr r hr').1,by omega,λk hk'=>⟨(hk k hk').1,λi hi=>?_⟩⟩ (λr hr'=>(hr r hr').2) kq (p.mono (by omega));have:=(hk k hk').2 i hi;omega
 refine zmb rfl ?_;unfold zLk
 repeat walk_at "w"
 refine zke h (by omega) (by omega) (by omega) λv1 O1 a1 b1 k1 e1 h1=>?_
 repeat walk_at "w"
 refine zke h1 (by omega) (by omega) (by omega) λv2 O2 a2 b2 k2 e2 h2=>?_
 repeat walk_at "w"
 refine⟨λhb=>?_,λhb=>?_⟩
 ·repeat walk_at "w"
  refine zke h2 (by omega) (by omega) (by omega) λv3 O3 a3 b3 k3 e3 h3=>?_;refine zho ?_;exact rest (7+v3) _ (by omega) (by omega) (k1.trans (k2.trans k3)) (h3.mono (by omega))
 ·refine zDb ?_;exact rest (1+v1) _ (by omega) (by omega) (k1.trans k2) (h2.mono (by omega))
abbrev tn(ns:List Nat):D:=.tup (nat ns)
abbrev wn(R:List Nat)(K:List (List Nat)):D:=.tup [tn R,.tup (K.map tn)]
structure Wb(L:Nat)(R:List Nat)(K:List (List Nat)):Prop where
 rl:1<=R.length/\R.length<=10
 kl:K.length<=L
 kn:∀k∈K,(2<=k.length/\k.length<=3)/\∀h∈k,h<R.length
def zdw :∀{ns:List Int},(∀n∈ns,0<=n)->ns.map D.int=nat (ns.map xX):=λ{ns} h=>by
 rw[zNh];refine map_congr_left λn hn=>?_;show D.int n=D.int (n.toNat:Nat);rw[Int.toNat_of_nonneg (h n hn)]
def Wb.of{L:Int}{rooms:List Int}{ks:List (List Int)}(w:WebA L rooms ks):wb rooms ks=wn (rooms.map xX) (ks.map (·.map xX))/\Wb L.toNat (rooms.map xX) (ks.map (·.map xX)):=by
 refine⟨?_,⟨by simpa using w.rl,by have:=w.kl;simp;omega,λk hk=>?_⟩⟩
 ·show D.tup [.tup (rooms.map .int),.tup (ks.map tp)]=D.tup [.tup (nat _),.tup ((ks.map _).map tn)];rw[zdw w.rn,map_map]
  congr 3
  refine congrArg D.tup (map_congr_left λk hk=>?_);show D.tup (k.map .int)=D.tup (nat (k.map xX));rw[zdw λn hn=>((w.kn k hk).2 n hn).1]
 ·obtain⟨k',hk',rfl⟩:=List.mem_map.mp hk;obtain⟨h1,h2⟩:=w.kn k' hk';refine⟨by simpa using h1,λh hh=>?_⟩;obtain⟨i,hi,rfl⟩:=List.mem_map.mp hh;have:=h2 i hi;rw[length_map];omega
def Wb.key(w:Wb L R K){k:Nat}(h:k<K.length):(2<=(K.getD k []).length/\(K.getD k []).length<=3)/\∀x∈K.getD k [],x<R.length:=by
 have:K.getD k []=K[k]:=by simp[h]
 rw[this];exact w.kn _ (getElem_mem h)
def zfe(q:Q (tn R) O):W2 gIx (wn R K) (.int 0) O Q:=z6c rfl (show atI [tn R,.tup (K.map tn)] 0=some (tn R) from rfl) q
def zuf(q:Q (.tup (K.map tn)) O):W2 gIx (wn R K) (.int 1) O Q:=z6c rfl (show atI [tn R,.tup (K.map tn)] 1=some (.tup (K.map tn)) from rfl) q
def zbv(h:k<K.length)(q:Q (tn (K.getD k [])) O):W2 gIx (.tup (K.map tn)) (.int k) O Q :=
 z6c rfl (zuc (v:=tn (K.getD k [])) (by simp[h])) q
def zcE(h:k<R.length)(q:Q (.int (R.getD k 0:Nat)) O):W2 gIx (tn R) (.int k) O Q:=z6c rfl (zhm h) q
structure tU(R:List Nat)(K:List (List Nat))(lay:List (Option Nat)):Prop where
 len:lay.length=K.length
 home:∀k h,lay[k]?=some (some h)->h∈K.getD k []
 room:∀h,lay.count (some h)<=R.getD h 0
def zoo(K:List (List Nat))(S:List Nat):List Nat:=S.flatMap λk=>K.getD k []
def z7d(n:Nat)(K:List (List Nat))(S:List Nat):List Nat:=(yt n).filter λh=>decide (∃k∈S,h∈K.getD k [])
def zms(R:List Nat)(N:List Nat):Nat:=(N.map λh=>R.getD h 0).sum
def zCe(w:Wb L R K)(h:Nat):h∈z7d R.length K S↔∃k∈S,h∈K.getD k []:=by
 unfold z7d;rw[List.mem_filter,mem_range,decide_eq_true_iff];constructor
 ·exact λq=>q.2
 ·rintro⟨k,hk,hh⟩;refine⟨?_,k,hk,hh⟩;rw[getD_eq_getElem?_getD]at hh
  cases e:K[k]? with
  |none=>rw[e]at hh;simp at hh
  |some x=>rw[e]at hh;exact(w.kn x (mem_of_getElem? e)).2 h hh
def zMz :∀h∈z7d n K S,h<n:=λh hh=>by
 have:=(List.mem_filter.mp hh).1;simpa using this
def zJy(n:Nat)(K:List (List Nat))(S:List Nat):(z7d n K S).Pairwise (· < ·):=List.pairwise_lt_range.filter _
def zfs(n:Nat)(K:List (List Nat))(S:List Nat):(z7d n K S).length<=n:=by
 unfold z7d;refine yF (List.length_filter_le _ _) ?_;simp
def zun{L:Nat}{R:List Nat}{K:List (List Nat)}(w:Wb L R K):∀S:List Nat,(zoo K S).length<=3*S.length
 |[]=>by simp[zoo]
 |k::S=>by
  have ih:=zun w S
  have h1:(K.getD k []).length<=3:=by
   rw[getD_eq_getElem?_getD]
   cases e:K[k]? with
   |none=>simp
   |some x=>exact(w.kn x (mem_of_getElem? e)).1.2
  unfold zoo at ih ⊢;rw[List.flatMap_cons,length_append,length_cons];omega
def zSe(R:List Nat)(K:List (List Nat))(S:List Nat):Bool:=decide (zms R (z7d R.length K S)<S.length)
def zHo(w:Wb L R K)(hn:O[n]?=some (.lst (nat S)))(hS:∀k∈S,k<K.length)(hl:S.length<=1000)
 (q:∀(l:Nat)(O':Mem),tw O O'->O.length<=l->O'[l]?=some (.lst (nat (z7d R.length K S)))->Q (.loc l) O'):WF z9e [wn R K,.loc n] O Q:=by
 refine zmb rfl ?_;show WS zti [some (wn R K),some (.loc n),none,none] O _ _ _ _;unfold zti
 repeat walk_at "w"
 have hnl:=zO hn;refine z1c (zl rfl (.inr (.inr ⟨n,_,rfl,zzb hn,?_⟩)));refine zTd (λm J O'=>∃a:Option D,J=[some (wn R K),some (.loc n),some (.loc O.length),a]/\tw O O'/\O'[O.length]?=some (.lst (nat (zoo K (S.take m))))) ⟨none,rfl,.app,by simp[zoo]⟩ (λm J O' ⟨a,_,k,_⟩=>z9 hn k) ?_ ?_
 ·rintro m x J O1 hx ⟨a,rfl,k,hg⟩;rw[yr]at hx
  cases hy:S[m]? with
  |none=>rw[hy]at hx;cases hx
  |some kk=>
   rw[hy]at hx;cases hx;have hkk:=hS kk (mem_of_getElem? hy)
   walk_at "w"
   unfold zHl
   repeat walk_at "w"
   refine⟨O.length,_,rfl,hg,?_⟩
   repeat walk_at "w"
   refine zuf ?_
   repeat walk_at "w"
   refine zbv hkk ?_
   repeat walk_at "w"
   have hfl:=zun w (S.take m);have hks:=(w.key hkk).1;have htl:(S.take m).length<=1000:=yF (by simp;omega) hl;refine zaD hg (by simp only[length_map];omega) ?_;refine⟨_,rfl,λi o e=>zU (k i o e) (Yk (zO e)),?_⟩;rw[z8 hg];have ht:S.take (m+1)=S.take m++[kk]:=by rw[take_succ,hy];rfl
   have e2:zoo K (S.take (m+1))=zoo K (S.take m)++K.getD kk []:=by
    unfold zoo;rw[ht,List.flatMap_append];simp
   rw[e2,zWk]
 ·rintro J O1 ⟨a,rfl,k,hg⟩;rw[length_map,take_length]at hg
  have hmem:∀i:Int,i∈(z7d R.length K S).map (λ(k:Nat)=>(k:Int))↔i∈(zoo K S).map (λ(k:Nat)=>(k:Int)):=λi=>by
   simp only[mem_map];constructor
   ·rintro⟨h,hh,rfl⟩;obtain⟨k,hk,hh⟩:=(zCe w h).mp hh;exact⟨h,List.mem_flatMap.mpr ⟨k,hk,hh⟩,rfl⟩
   ·rintro⟨h,hh,rfl⟩;obtain⟨k,hk,hh⟩:=List.mem_flatMap.mp hh;exact⟨h,(zCe w h).mpr ⟨k,hk,hh⟩,rfl⟩
  have hpw:((z7d R.length K S).map (λ(k:Nat)=>(k:Int))).Pairwise (· < ·):=by
   rw[List.pairwise_map];exact(zJy R.length K S).imp λh=>by omega
  have hp:=zEp hmem hpw;have hsort:=zwu hmem hpw;have hfl:=zun w S;have hrl:=w.rl;have hnl2:=zfs R.length K S;refine zFb (zYz (zl rfl ⟨_,(zoo K S).map (λ(k:Nat)=>(k:Int)),rfl,by rw[hg,map_map];rfl,by rw[length_map];omega,by rw[hp.length_eq,length_map];omega,?_⟩));rw[hsort,map_map];exact q _ _ k.to k.len zw
def zxx(hn:O[n]?=some (.lst (nat S)))(hS:∀k∈S,k<R.length)(hl:S.length<=1000)
 (q:∀(O':Mem),tw O O'->Q (.int (zms R S:Nat)) O'):WF zpk [wn R K,.loc n] O Q:=by
 refine zmb rfl ?_;show WS zzk [some (wn R K),some (.loc n)] O _ _ _ _;unfold zzk
 repeat walk_at "w"
 refine z1c (zl rfl (.inr (.inr ⟨n,_,rfl,hn,zjb (by simp;omega),?_⟩)));refine zXb (λ(k:Nat)=>D.int k) S (λk =>.int (R.getD k 0:Nat)) (λO' k=>z9 hn k) (λk hk O' kp=>?_) (λO' kp=>?_)
 ·have hkk:=hS k hk
  walk_at "w"
  unfold zAn
  repeat walk_at "w"
  refine zfe ?_
  repeat walk_at "w"
  exact zcE hkk ⟨rfl,kp,kp⟩
 ·repeat walk_at "w"
  refine zfA (S:=S.map λk=>R.getD k 0) (by rw[zw,zNh]) ?_;exact q _ kp.to
def zFu(w:Wb L R K)(hn:O[n]?=some (.lst (nat S)))(hS:∀k∈S,k<K.length)(hl:S.length<=1000)
 (q:∀O',tw O O'->Q (.bl (zSe R K S)) O'):WF zqi [wn R K,.loc n] O Q:=by
 refine zmb rfl ?_;show WS zci [some (wn R K),some (.loc n)] O _ _ _ _;unfold zci
 repeat walk_at "w"
 refine zHo w hn hS hl λl O1 k1 hl1 g1=>?_
 repeat walk_at "w"
 have hnl:=zfs R.length K S;have hrl:=w.rl;refine zxx g1 zMz (by omega) λO2 k2=>?_
 repeat walk_at "w"
 refine zvh (zy (k2 _ _ (k1 _ _ hn))) ?_
 repeat walk_at "w"
 have:=q O2 (k1.trans k2);unfold zSe at this;simp only[length_map,Int.ofNat_lt];exact this
def zEs(lay:List (Option Nat))(a:Option Nat):lay.count a=((yt lay.length).filter λk=>decide (lay.getD k none=a)).length:=by
 have e:lay=(yt lay.length).map λk=>lay.getD k none:=by
  refine List.ext_getElem? λi=>?_
  by_cases h:i<lay.length
  ·simp[h]
  ·simp[h]
 conv=>lhs;rw[e]
 rw[List.count,List.countP_map,List.countP_eq_length_filter]
 congr 1
 refine filter_congr λk _=>?_;simp only[Function.comp];exact Bool.beq_eq_decide_eq _ _
def lyN(lay:List (Option Nat))(N:List Nat):List Nat:=(yt lay.length).filter λk=>decide (∃h∈N,lay.getD k none=some h)
def sU{N:List Nat}:k∈lyN lay N↔∃h∈N,lay.getD k none=some h:=by
 unfold lyN;rw[List.mem_filter,mem_range,decide_eq_true_iff];constructor
 ·exact λq=>q.2
 ·rintro⟨h,hh,e⟩;refine⟨?_,h,hh,e⟩;refine Nat.lt_of_not_le λhle=>?_;rw[getD_eq_getElem?_getD,Yu hle]at e;cases e
def zsD(lay:List (Option Nat))(N:List Nat):(lyN lay N).Nodup:=List.nodup_range.sublist filter_sublist
def zmh{α:Type}(p q:α->Bool)(h:∀x,p x=true->q x=false):∀l:List α,(l.filter λx=>p x||q x).length=(l.filter p).length+(l.filter q).length
 |[]=>rfl
 |x::l=>by
  have ih:=zmh p q h l
  cases hp:p x with
  |true=>simp[filter_cons,hp,h x hp,ih];omega
  |false=>
   cases hq:q x with
   |true=>simp[filter_cons,hp,hq,ih];omega
   |false=>simp[filter_cons,hp,hq,ih]
def z2n{lay:List (Option Nat)}:∀{N:List Nat},N.Nodup->(lyN lay N).length=(N.map λh=>lay.count (some h)).sum
 |[],_=>by simp[lyN]
 |h::N,nd=>by
  obtain⟨h1,h2⟩:=List.nodup_cons.mp nd;rw[map_cons,sum_cons,<-z2n h2,zEs]
  have:=zmh (λk=>decide (lay.getD k none=some h)) (λk=>decide (∃g∈N,lay.getD k none=some g)) (λk hk=>by
   have hk:=of_decide_eq_true hk;refine decide_eq_false ?_;rintro⟨g,hg,e⟩;rw[hk]at e;cases e;exact h1 hg) (yt lay.length)
  rw[show lyN lay N=(yt lay.length).filter λk=>decide (∃g∈N,lay.getD k none=some g) from rfl,<-this];unfold lyN
  congr 1
  refine filter_congr λk _=>?_;rw[<-Bool.decide_or];refine decide_eq_decide.mpr ?_;simp only[mem_cons];constructor
  ·rintro⟨g,rfl|hg,e⟩
   ·exact .inl e
   ·exact .inr ⟨g,hg,e⟩
  ·rintro(e|⟨g,hg,e⟩)
   ·exact⟨h,.inl rfl,e⟩
   ·exact⟨g,.inr hg,e⟩
def zRt{α:Type}{f g:α->Nat}:∀{l:List α},(∀x∈l,f x<=g x)->(l.map f).sum<=(l.map g).sum
 |[],_=>yk _
 |x::l,h=>by
  rw[map_cons,map_cons,sum_cons,sum_cons];have h1:=h x mem_cons_self;have h2:=zRt (l:=l) λy hy=>h y (mem_cons_of_mem _ hy);omega
def zdg{α:Type}[DecidableEq α]:∀{l m:List α},l.Nodup->(∀x∈l,x∈m)->l.length<=m.length
 |[],_,_,_=>Yy _
 |x::l,m,nd,h=>by
  obtain⟨h1,h2⟩:=List.nodup_cons.mp nd;have hx:=h x mem_cons_self;have ih:=zdg (l:=l) (m:=m.erase x) h2 λy hy=>(List.mem_erase_of_ne (by rintro rfl;exact h1 hy)).mpr (h y (mem_cons_of_mem _ hy));rw[List.length_erase_of_mem hx]at ih;have:=List.length_pos_of_mem hx;rw[length_cons];omega
def zlx{T:List Nat}(w:Wb L R K)(r:tU R K lay)(hd:T.Nodup)(hT:∀k∈T,k<K.length)(hall:∀k∈T,(lay.getD k none).isSome=true):zSe R K T=false:=by
 refine decide_eq_false ?_;have hN:(z7d R.length K T).Nodup:=List.nodup_range.sublist filter_sublist
 have h1:T.length<=(lyN lay (z7d R.length K T)).length:=zdg hd λk hk=>by
  rw[sU];have hs:=hall k hk
  cases e:lay.getD k none with
  |none=>rw[e]at hs;cases hs
  |some h=>
   refine⟨h,?_,rfl⟩;rw[zCe w];refine⟨k,hk,r.home k h ?_⟩;have hkl:k<lay.length:=by rw[r.len];exact hT k hk
   simp[hkl]at e;simp[hkl,e]
 rw[z2n hN]at h1;have h2:((z7d R.length K T).map λh=>lay.count (some h)).sum<=zms R (z7d R.length K T):=zRt λh _=>r.room h;omega
structure Tn(R:List Nat)(K:List (List Nat))(lay:List (Option Nat))(C:List Nat):Prop where
 keys:∀k∈C,k<K.length
 full:∀k∈C,∀h∈K.getD k [],R.getD h 0<=lay.count (some h)
 lies:∀k∈C,∀h∈K.getD k [],∀o,lay.getD o none=some h->o∈C
def Tn.nil:Tn R K lay []:=⟨by simp,by simp,by simp⟩
def Tn.app{E:List Nat}(a:Tn R K lay C)(b:Tn R K lay E):Tn R K lay (C++E):=by
 refine⟨λk hk=>?_,λk hk=>?_,λk hk h hh o e=>?_⟩
 ·rcases List.mem_append.mp hk with hk|hk
  ·exact a.keys k hk
  ·exact b.keys k hk
 ·rcases List.mem_append.mp hk with hk|hk
  ·exact a.full k hk
  ·exact b.full k hk
 ·rcases List.mem_append.mp hk with hk|hk
  ·exact mem_append_left _ (a.lies k hk h hh o e)
  ·exact mem_append_right _ (b.lies k hk h hh o e)
def Tn.congr{E:List Nat}(a:Tn R K lay C)(h:∀k,k∈E↔k∈C):Tn R K lay E :=
 ⟨λk hk=>a.keys k ((h k).mp hk),λk hk=>a.full k ((h k).mp hk),λk hk g hg o e=>(h o).mpr (a.lies k ((h k).mp hk) g hg o e)⟩
def zcv(w:Wb L R K)(s:Tn R K lay C)(hl:lay.length=K.length){k0:Nat}(hk0:k0∈C)(hn:lay.getD k0 none=none):zSe R K C=true:=by
 refine decide_eq_true ?_;have hN:(z7d R.length K C).Nodup:=List.nodup_range.sublist filter_sublist
 have h1:zms R (z7d R.length K C)<=((z7d R.length K C).map λh=>lay.count (some h)).sum:=zRt λh hh=>by
  obtain⟨k,hk,hm⟩:=(zCe w h).mp hh;exact s.full k hk h hm
 rw[<-z2n hN]at h1
 have h2:(k0::lyN lay (z7d R.length K C)).length<=C.length:=zdg (List.nodup_cons.mpr ⟨λhm=>(by
  obtain⟨h,_,e⟩:=sU.mp hm;rw[hn]at e;cases e),zsD _ _⟩) λx hx=>by
  rcases List.mem_cons.mp hx with rfl|hx
  ·exact hk0
  ·obtain⟨h,hh,e⟩:=sU.mp hx;obtain⟨k,hk,hm⟩:=(zCe w h).mp hh;exact s.lies k hk h hm x e
 rw[length_cons]at h2;omega
structure Tm(K:List (List Nat))(lay:List (Option Nat))(key:Nat)(row:List (Nat×Nat)):Prop where
 first:∃h r,row=(key,h)::r
 mem:∀p∈row,p.1<K.length/\p.2∈K.getD p.1 []/\lay.getD p.1 none≠some p.2
 link:∀i p q,row[i]?=some p->row[i+1]?=some q->lay.getD q.1 none=some p.2
 nd:(row.map (·.1)).Nodup
def z9f(lay:List (Option Nat))(row:List (Nat×Nat)):List (Option Nat):=row.foldl (λl p=>l.set p.1 (some p.2)) lay
def zJj(row:List (Nat×Nat)):∀lay:List (Option Nat),(z9f lay row).length=lay.length:=by
 induction row with
 |nil=>intro lay;rfl
 |cons p row ih=>intro lay;show(z9f (lay.set p.1 (some p.2)) row).length=_;rw[ih];simp
def zEo(lay:List (Option Nat))(row:List (Nat×Nat))(p:Nat×Nat):z9f lay (row++[p])=(z9f lay row).set p.1 (some p.2):=by
 unfold z9f;rw[List.foldl_append];rfl
def zog :∀{lay:List (Option Nat)} {k:Nat},k∉row.map (·.1)->(z9f lay row).getD k none=lay.getD k none:=by
 induction row with
 |nil=>intro lay k _;rfl
 |cons p row ih=>
  intro lay k hk;rw[map_cons,mem_cons,not_or]at hk;show(z9f (lay.set p.1 (some p.2)) row).getD k none=_;rw[ih hk.2];simp only[getD_eq_getElem?_getD];rw[Yc (yM hk.1)]
def zAp(nd:(row.map (·.1)).Nodup):∀{lay:List (Option Nat)} {p:Nat×Nat},p∈row->p.1<lay.length->(z9f lay row).getD p.1 none=some p.2:=by
 induction row with
 |nil=>intro lay p hp;cases hp
 |cons q row ih=>
  intro lay p hp hl;rw[map_cons,nodup_cons]at nd;show(z9f (lay.set q.1 (some q.2)) row).getD p.1 none=_;rcases List.mem_cons.mp hp with rfl|hp
  ·rw[zog nd.1];simp[hl]
  ·exact ih nd.2 hp (by simpa using hl)
def zUr{a b:Option Nat}(hk:k<lay.length)(ha:lay.getD k none=a)(x:Option Nat):(lay.set k b).count x+(if a=x then 1 else 0)=lay.count x+(if b=x then 1 else 0):=by
 have e1:lay=lay.take k++a::lay.drop (k+1):=by
  have:lay[k]=a:=by simpa[hk] using ha
  rw[<-this,List.getElem_cons_drop,take_append_drop]
 have e2:lay.set k b=lay.take k++b::lay.drop (k+1):=by rw[List.set_eq_take_append_cons_drop,if_pos hk]
 rw[e2]
 conv=>rhs;rw[e1]
 rw[List.count_append,List.count_append,count_cons,count_cons];simp only[beq_iff_eq]
 split<;>split<;>omega
def zIn{key:Nat}(r:Tm K lay key row)(hl:lay.length=K.length)(hkey:lay.getD key none=none):∀i,i<row.length->∀h:Nat,(z9f lay (row.take (i+1))).count (some h)=lay.count (some h)+(if(row.getD i (0,0)).2=h then 1 else 0):=by
 intro i
 induction i with
 |zero=>
  intro hi h;obtain⟨h0,r0,e⟩:=r.first
  have hm:=r.mem (key,h0) (by rw[e];simp);subst e;have:=zUr (lay:=lay) (k:=key) (b:=some h0) (by rw[hl];exact hm.1) hkey (some h);show(lay.set key (some h0)).count (some h)=_;simpa using this
 |succ i ih=>
  intro hi h;have ih:=ih (by omega) h;have hp:row[i]?=some row[i]:=by simp[show i<row.length by omega]
  have hq:row[i+1]?=some row[i+1]:=by simp[hi]
  have hlink:=r.link i _ _ hp hq;have hm:=r.mem row[i+1] (getElem_mem hi);have et:row.take (i+1+1)=row.take (i+1)++[row[i+1]]:=by simp
  have hnot:(row[i+1]).1∉(row.take (i+1)).map (·.1):=by
   intro hmem;have nd:=r.nd;rw[<-take_append_drop (i+1) row,map_append,nodup_append]at nd;refine nd.2.2 _ hmem _ ?_ rfl;refine List.mem_map.mpr ⟨row[i+1],?_,rfl⟩;rw[drop_eq_getElem_cons hi];exact mem_cons_self
  have hcur:(z9f lay (row.take (i+1))).getD (row[i+1]).1 none=some (row[i]).2:=by rw[zog hnot];exact hlink
  rw[et,zEo];have:=zUr (lay:=z9f lay (row.take (i+1))) (k:=(row[i+1]).1) (b:=some (row[i+1]).2) (by rw[zJj,hl];exact hm.1) hcur (some h);have e1:row.getD i (0,0)=row[i]:=by simp[show i<row.length by omega]
  have e2:row.getD (i+1) (0,0)=row[i+1]:=by simp[hi]
  rw[e1]at ih;rw[e2];simp only[Option.some.injEq]at this;omega
def zqn{key:Nat}(rt:tU R K lay)(r:Tm K lay key row)(hkey:lay.getD key none=none)(hroom:lay.count (some (row.getD (row.length-1) (0,0)).2)<R.getD (row.getD (row.length-1) (0,0)).2 0):tU R K (z9f lay row):=by
 have hpos:0<row.length:=by
  obtain⟨h,q,e⟩:=r.first
  rw[e];simp
 refine⟨by rw[zJj];exact rt.len,λk h e=>?_,λh=>?_⟩
 ·have e':(z9f lay row).getD k none=some h:=by rw[getD_eq_getElem?_getD,e];rfl
  by_cases hk:k∈row.map (·.1)
  ·obtain⟨p,hp,rfl⟩:=List.mem_map.mp hk;have hm:=r.mem p hp;rw[zAp r.nd hp (by rw[rt.len];exact hm.1)]at e';cases e';exact hm.2.1
  ·rw[zog hk]at e';refine rt.home k h ?_;rw[getD_eq_getElem?_getD]at e'
   cases q:lay[k]? with
   |none=>rw[q]at e';cases e'
   |some z=>rw[q]at e';exact congrArg some e'
 ·have:=zIn r rt.len hkey (row.length-1) (by omega) h;rw[show row.length-1+1=row.length by omega,take_length]at this;rw[this];have hr:=rt.room h
  split
  ·rename_i e
   rw[e]at hroom;omega
  ·omega
def zYA{key:Nat}(s:Tn R K lay C)(r:Tm K lay key row)(hroom:lay.count (some (row.getD (row.length-1) (0,0)).2)<R.getD (row.getD (row.length-1) (0,0)).2 0) :
 ∀p∈row,∀k∈C,p.2∉K.getD k []:=by
 have key1:∀(j i:Nat),i+j+1=row.length->∀k∈C,(row.getD i (0,0)).2∉K.getD k []:=by
  intro j
  induction j with
  |zero=>
   intro i hi k hk hm;have:=s.full k hk _ hm;rw[show row.length-1=i by omega]at hroom;omega
  |succ j ih=>
   intro i hi k hk hm;have hp:row[i]?=some row[i]:=by simp[show i<row.length by omega]
   have hq:row[i+1]?=some row[i+1]:=by simp[show i+1<row.length by omega]
   have e1:row.getD i (0,0)=row[i]:=by simp[show i<row.length by omega]
   have e2:row.getD (i+1) (0,0)=row[i+1]:=by simp[show i+1<row.length by omega]
   rw[e1]at hm;have hin:=s.lies k hk _ hm _ (r.link i _ _ hp hq);refine ih (i+1) (by omega) _ hin ?_;rw[e2];exact(r.mem _ (getElem_mem _)).2.1
 intro p hp k hk;obtain⟨i,hi,rfl⟩:=List.mem_iff_getElem.mp hp;have:=key1 (row.length-1-i) i (by omega) k hk
 rwa [show row.getD i (0,0)=row[i] by simp[hi]]at this
def Tn.push{key:Nat}(s:Tn R K lay C)(rt:tU R K lay)(r:Tm K lay key row)(hkey:lay.getD key none=none)
 (hroom:lay.count (some (row.getD (row.length-1) (0,0)).2)<R.getD (row.getD (row.length-1) (0,0)).2 0):Tn R K (z9f lay row) C:=by
 have hpos:0<row.length:=by
  obtain⟨h,q,e⟩:=r.first
  rw[e];simp
 have hout:=zYA s r hroom;refine⟨s.keys,λk hk h hh=>?_,λk hk h hh o e=>?_⟩
 ·have:=zIn r rt.len hkey (row.length-1) (by omega) h;rw[show row.length-1+1=row.length by omega,take_length]at this;have h1:=s.full k hk h hh;omega
 ·by_cases ho:o∈row.map (·.1)
  ·obtain⟨p,hp,rfl⟩:=List.mem_map.mp ho;rw[zAp r.nd hp (by rw[rt.len];exact(r.mem p hp).1)]at e;cases e;exact absurd hh (hout p hp k hk)
  ·rw[zog ho]at e;exact s.lies k hk h hh o e
def z2A(lay:List (Option Nat)):List Nat:=(yt lay.length).filter λk=>(lay.getD k none).isSome
def zZo(lay:List (Option Nat))(h:Nat):List Nat:=(yt lay.length).filter λk=>decide (lay.getD k none=some h)
def zWB(R:List Nat)(lay:List (Option Nat)):List Int:=(yt R.length).map λh=>(R.getD h 0:Int)-(lay.count (some h):Nat)
def z0y(a:Option Nat):(!zlz (onD a))=a.isSome:=by cases a<;>rfl
def zzy(hn:O[n]?=some (.lst (lay.map onD)))(hl:lay.length<=1000)(q:∀(l:Nat)(O':Mem),tw O O'->O.length<=l->O'[l]?=some (.lst (nat (zZo lay h)))->Q (.loc l) O'):WF zeq [.loc n,.int h] O Q:=by
 refine zmb rfl ?_;show WS zEq [some (.loc n),some (.int h)] O _ _ _ _;unfold zEq
 repeat walk_at "w"
 refine zql (zl rfl (.inr (.inr ⟨n,_,rfl,hn,zjb (by rw[z6d,length_map];omega),?_⟩)));rw[zee onD lay none];refine zbj (λ(k:Nat) =>.tup [.int k,onD (lay.getD k none)]) (yt lay.length) (λ(k:Nat)=>D.int k) (λk=>decide (lay.getD k none=some h)) (λO' k=>z9 hn k) (λk hk O' kp=>?_) (λO' kp=>?_)
 ·repeat walk_at "w"
  refine z4B (α:=Option Nat) (lay.getD k none) (some h) ?_
  repeat walk_at "w"
  refine⟨rfl,kp,λ_=>?_⟩;unfold zir;exact zl rfl ⟨rfl,kp⟩
 ·exact q _ _ kp.to kp.len zw
def z3A(w:Wb L R K)(hn:O[n]?=some (.lst (lay.map onD)))(q:∀(l:Nat)(O':Mem),tw O O'->O.length<=l->O'[l]?=some (.lst ((zWB R lay).map .int))->Q (.loc l) O'):WF zgn [wn R K,.loc n] O Q:=by
 have hrl:=w.rl;refine zmb rfl ?_;show WS z5o [some (wn R K),some (.loc n)] O _ _ _ _;unfold z5o
 repeat walk_at "w"
 refine zql ?_
 repeat walk_at "w"
 refine zfe (.inl ⟨_,rfl,zjb (by rw[z6d,length_map];omega),?_⟩);rw[zee (λ(k:Nat)=>D.int k) R 0];refine zXb (λ(k:Nat) =>.tup [.int k,.int (R.getD k 0:Nat)]) (yt R.length) (λ(k:Nat)=>D.int ((R.getD k 0:Int)-(lay.count (some k):Nat))) (λ_ _=>rfl) (λk hk O' kp=>?_) (λO' kp=>?_)
 ·repeat walk_at "w"
  refine⟨_,_,rfl,kp _ _ hn,?_⟩
  repeat walk_at "w"
  refine zJx (kp _ _ hn) ?_
  repeat walk_at "w"
  exact⟨rfl,kp,kp⟩
 ·refine q _ _ kp.to kp.len ?_;rw[zw];unfold zWB;rw[map_map];rfl
def zFp(K:List (List Nat))(ds:List D)(k:Nat):Bool:=!zlz (ds.getD k .non) && !((nat (K.getD k [])).any λy=>eqF y (ds.getD k .non))
def zow(R:List Nat)(ds:List D)(h:Nat):Bool:=decide ((R.getD h 0:Nat)<(zfC ds h:Int))
def zUo(R:List Nat)(K:List (List Nat))(ds:List D):D:=match(yt K.length).find? (zFp K ds) with
 |some k =>.tup [.str "home",.int k]
 |none=>match(yt R.length).find? (zow R ds) with
  |some h =>.tup [.str "room",.int h]
  |none =>.non
def zPz(w:Wb L R K)(hf:ds.all zge=true)(hn:O[n]?=some (.lst ds))(q:∀(l:Nat)(O':Mem),tw O O'->O.length<=l->O'[l]?=some (.lst (((yt R.length).map λh=>(R.getD h 0:Int)-(zfC ds h:Nat)).map .int))->Q (.loc l) O'):WF zgn [wn R K,.loc n] O Q:=by
 have hrl:=w.rl;refine zmb rfl ?_;show WS z5o [some (wn R K),some (.loc n)] O _ _ _ _;unfold z5o
 repeat walk_at "w"
 refine zql ?_
 repeat walk_at "w"
 refine zfe (.inl ⟨_,rfl,zjb (by rw[z6d,length_map];omega),?_⟩);rw[zee (λ(k:Nat)=>D.int k) R 0];refine zXb (λ(k:Nat) =>.tup [.int k,.int (R.getD k 0:Nat)]) (yt R.length) (λ(k:Nat)=>D.int ((R.getD k 0:Int)-(zfC ds k:Nat))) (λ_ _=>rfl) (λk hk O' kp=>?_) (λO' kp=>?_)
 ·repeat walk_at "w"
  refine⟨_,_,rfl,kp _ _ hn,?_⟩
  repeat walk_at "w"
  refine zpw (kp _ _ hn) rfl hf ?_
  repeat walk_at "w"
  exact⟨rfl,kp,kp⟩
 ·refine q _ _ kp.to kp.len ?_;rw[zw,map_map];rfl
def zPy(hf:ds.all zge=true){k:Nat}{d:D}(h:ds[k]?=some d):zge d=true:=List.all_eq_true.mp hf d (mem_of_getElem? h)
def zkz(w:Wb L R K)(hf:ds.all zge=true)(hl:ds.length=K.length)(hn:O[n]?=some (.lst ds))(q:∀(O':Mem),tw O O'->Q (zUo R K ds) O'):WF zrq [wn R K,.loc n] O Q:=by
 have hrl:=w.rl;refine zmb rfl ?_;show WS znq [some (wn R K),some (.loc n),none,none,none] O _ _ _ _;unfold znq;refine zB (zHk (zql (zl rfl (.inr (.inr ⟨n,_,rfl,hn,?_⟩)))));refine zTd (λm J O'=>∃a b:Option D,J=[some (wn R K),some (.loc n),a,b,none]/\O'=O/\∀j<m,zFp K ds j=false) ⟨_,_,rfl,rfl,by simp⟩ (λm J O' h=>by obtain⟨_,_,_,rfl,_⟩:=h;exact z9 hn .refl) ?_ ?_
 ·rintro m x J O' hx ⟨a,b,rfl,rfl,hb⟩;obtain⟨y,hy,rfl⟩:=zzp hx;have hm:m<ds.length:=(List.getElem?_eq_some_iff.mp hy).1;have hfy:=zPy hf hy;have hgy:ds.getD m .non=y:=by rw[getD_eq_getElem?_getD,hy];rfl
  have hgo:zFp K ds m=false->∀j<m+1,zFp K ds j=false:=λh j hj=>by
   by_cases e:j=m
   ·subst e;exact h
   ·exact hb j (by omega)
  repeat walk_at "w"
  refine zij hfy ?_
  repeat walk_at "w"
  refine⟨λh1=>?_,λh1=>⟨λhc=>(by cases hc),λ_=>?_⟩⟩
  ·repeat walk_at "w"
   refine zuf ?_
   repeat walk_at "w"
   refine zbv (by omega) ?_;refine zdt rfl hfy (zpu _) ?_
   repeat walk_at "w"
   refine⟨λh2=>?_,λh2=>?_⟩
   ·repeat walk_at "w"
    have hh:zFp K ds m=true:=by
     unfold zFp;rw[hgy,h1,h2];rfl
    have:=q O' .refl;unfold zUo at this;rw[zvo hh (by omega) hb]at this;exact this
   ·repeat walk_at "w"
    refine⟨_,_,rfl,rfl,hgo ?_⟩;unfold zFp;rw[hgy,h2,Bool.and_false]
  ·repeat walk_at "w"
   refine⟨_,_,rfl,rfl,hgo ?_⟩;unfold zFp;rw[hgy,h1,Bool.false_and]
 ·rintro J O' ⟨a,b,rfl,rfl,hb⟩;rw[z6d,hl]at hb;refine zB (zHk (zql (zt (zj (zl rfl (zj (zl rfl (zr ?_))))))));refine zPz w hf hn λl O1 k1 hl1 g1 =>.inr (.inr ⟨l,_,rfl,g1,?_⟩);rw[zee D.int _ 0];refine zTd (λm J O'=>∃a b c:Option D,J=[some (wn R K),some (.loc n),a,b,c]/\O'=O1/\∀j<m,zow R ds j=false) ⟨_,_,_,rfl,rfl,by simp⟩ (λm J O' h=>by obtain⟨_,_,_,_,rfl,_⟩:=h;exact z9 g1 .refl) ?_ ?_
  ·rintro m x J O2 hx ⟨a,b,c,rfl,rfl,hr⟩
   have hm:m<R.length:=by
    have:=(List.getElem?_eq_some_iff.mp hx).1;simpa using this
   have ex:x=.tup [.int m,.int ((R.getD m 0:Int)-(zfC ds m:Nat))]:=by
    rw[yr]at hx;simp[hm]at hx;rw[<-hx];simp[hm]
   subst ex
   repeat walk_at "w"
   have hdec:decide ((R.getD m 0:Int)-(zfC ds m:Nat)<0)=zow R ds m:=by
    unfold zow;exact decide_eq_decide.mpr (by omega)
   rw[hdec];refine⟨λh1=>?_,λh1=>?_⟩
   ·repeat walk_at "w"
    have:=q O2 k1;unfold zUo at this;rw[zEh hb,zvo h1 hm hr]at this;exact this
   ·repeat walk_at "w"
    refine⟨_,_,_,rfl,rfl,λj hj=>?_⟩
    by_cases e:j=m
    ·subst e;exact h1
    ·exact hr j (by omega)
  ·rintro J O2 ⟨a,b,c,rfl,rfl,hr⟩;simp only[length_map,length_range]at hr
   repeat walk_at "w"
   have:=q O2 k1;unfold zUo at this;rw[zEh hb,zEh hr]at this;exact this
abbrev PT:=List (Nat×Nat×Option Nat)
def dkP(P:PT):List (Int×D):=P.map λp=>((p.1:Int),.tup [.int (p.2.1:Nat),onD p.2.2])
def ziu(P:PT):zNm (dkP P)=nat (P.map (·.1)):=by
 unfold zNm dkP;rw[map_map,zNh];rfl
def zst(P:PT)(h:Nat):((dkP P).any λp=>decide (p.1=(h:Int)))=decide (h∈P.map (·.1)):=by
 refine zGi ?_;unfold dkP;rw[any_map,any_eq_true];simp only[Function.comp,decide_eq_true_iff,mem_map];constructor
 ·rintro⟨p,hp,e⟩;exact⟨p,hp,by omega⟩
 ·rintro⟨p,hp,e⟩;exact⟨p,hp,by omega⟩
def z6n{P:PT}:(zAf (dkP P) (h:Int)).isSome=decide (h∈P.map (·.1)):=by
 rw[<-zst,xL];unfold zAf;rw[Option.isSome_map,List.find?_isSome,any_eq_true]
def zCB{P:PT}(nd:(P.map (·.1)).Nodup){p:Nat×Nat×Option Nat}(hp:p∈P):zAf (dkP P) (p.1:Int)=some (.tup [.int (p.2.1:Nat),onD p.2.2]):=by
 induction P with
 |nil=>cases hp
 |cons q P ih=>
  rw[map_cons,nodup_cons]at nd
  have e:zAf (dkP (q::P)) (p.1:Int)=if(q.1:Int)=p.1 then some (.tup [.int (q.2.1:Nat),onD q.2.2]) else zAf (dkP P) (p.1:Int):=by
   unfold zAf dkP;rw[map_cons,List.find?_cons]
   by_cases h:(q.1:Int)=p.1
   ·simp[h]
   ·simp[h]
  rw[e];rcases List.mem_cons.mp hp with rfl|hp
  ·rw[if_pos rfl]
  ·rw[if_neg,ih nd.2 hp];intro h;refine nd.1 (List.mem_map.mpr ⟨p,hp,by omega⟩)
def ziw{P:PT}{f:Option Nat}(hn:h∉P.map (·.1)):zux (dkP P) (h:Int) (.tup [.int k,onD f])=dkP (P++[(h,k,f)]):=by
 unfold zux;rw[zst,decide_eq_false hn,if_neg yB];simp[dkP]
def zVB{P:PT}{f:Option Nat}(hn:h∈P.map (·.1))(ha:∀p∈P,p.2=(k,f)):zux (dkP P) (h:Int) (.tup [.int k,onD f])=dkP P:=by
 unfold zux;rw[zst,decide_eq_true hn,if_pos rfl];unfold dkP;rw[map_map];refine map_congr_left λp hp=>?_;simp only[Function.comp]
 split
 ·rw[ha p hp]
 ·rfl
structure Tree(R:List Nat)(K:List (List Nat))(lay:List (Option Nat))(key:Nat)(P:PT):Prop where
 nd:(P.map (·.1)).Nodup
 lt:∀p∈P,p.1<R.length
 ok:∀(i:Nat) p,P[i]?=some p->p.2.1<K.length/\p.1∈K.getD p.2.1 []/\((p.2.2=none/\p.2.1=key)\/∃(j:Nat)(q:Nat×Nat×Option Nat),j<i/\P[j]?=some q/\p.2.2=some q.1/\lay.getD p.2.1 none=some q.1)
def Tree.len{key:Nat}{P:PT}(t:Tree R K lay key P):P.length<=R.length:=by
 have:=zdg t.nd (m:=yt R.length) λx hx=>by
  obtain⟨p,hp,rfl⟩:=List.mem_map.mp hx;simpa using t.lt p hp
 simpa using this
def Tree.add{key:Nat}{P:PT}(t:Tree R K lay key P){h k:Nat}{f:Option Nat}(hn:h∉P.map (·.1))(hr:h<R.length)(hk:k<K.length)(hm:h∈K.getD k [])
 (hf:(f=none/\k=key)\/∃(j:Nat)(q:Nat×Nat×Option Nat),P[j]?=some q/\f=some q.1/\lay.getD k none=some q.1):Tree R K lay key (P++[(h,k,f)]):=by
 refine⟨?_,λp hp=>?_,λi p e=>?_⟩
 ·rw[map_append,nodup_append];refine⟨t.nd,by simp,λa ha b hb=>?_⟩;simp at hb;subst hb;exact λe=>hn (e▸ha)
 ·rcases List.mem_append.mp hp with hp|hp
  ·exact t.lt p hp
  ·rw[List.mem_singleton.mp hp];exact hr
 ·by_cases hi:i<P.length
  ·rw[yv hi]at e;obtain⟨h1,h2,h3⟩:=t.ok i p e;refine⟨h1,h2,?_⟩;rcases h3 with h3|⟨j,q,hj,eq,h4⟩
   ·exact .inl h3
   ·exact .inr ⟨j,q,hj,by rw[yv (by omega)];exact eq,h4⟩
  ·rw[Yd (by omega)]at e
   have hi0:i-P.length=0:=by
    have:=(List.getElem?_eq_some_iff.mp e).1;simp at this;omega
   rw[hi0]at e;have e:(h,k,f)=p:=by simpa using e
   subst e;refine⟨hk,hm,?_⟩;rcases hf with hf|⟨j,q,eq,h4⟩
   ·exact .inl hf
   ·have hj:=(List.getElem?_eq_some_iff.mp eq).1;exact .inr ⟨j,q,by omega,by rw[yv hj];exact eq,h4⟩
def zuw(d l:Nat)(O ν:Mem):Prop:=∀i o,i≠d->i≠l->O[i]?=some o->ν[i]?=some o
abbrev JPa(R:List Nat)(K:List (List Nat))(lay:List (Option Nat))(key n d l2 at_ o:Nat)(P0:PT)(ν:Mem):Nat->M.Loc->Mem->Prop:=λm J ν'=>∃(P:PT)(x:Option D),J=[some (wn R K),some (.loc n),some (.int key),some (.loc d),x,some (.loc l2),some (.int at_),some (.int o)]/\(∃E,P=P0++E)/\Tree R K lay key P/\(∀h∈(K.getD o []).take m,h∈P.map (·.1))/\zuw d l2 ν ν'/\ν'[d]?=some (.dct (dkP P))/\ν'[l2]?=some (.lst (nat (P.map (·.1))))
def zqz{key d l2 at_ o:Nat}{P0:PT}{q:Nat×Nat×Option Nat}{x4:Option D}{ν:Mem}(w:Wb L R K)(t:Tree R K lay key P0)(ho:o<K.length)(hq:P0[at_]?=some q)(hlo:lay.getD o none=some q.1)
 (hl2:d<l2) (gd:ν[d]?=some (.dct (dkP P0))) (gl:ν[l2]?=some (.lst (nat (P0.map (·.1)))))
 (k:∀(P:PT)(x:Option D)(ν':Mem),(∃E,P=P0++E)->Tree R K lay key P->(∀h∈K.getD o [],h∈P.map (·.1))->zuw d l2 ν ν'->ν'[d]?=some (.dct (dkP P))->ν'[l2]?=some (.lst (nat (P.map (·.1))))->nx [some (wn R K),some (.loc n),some (.int key),some (.loc d),x,some (.loc l2),some (.int at_),some (.int o)] ν') :
 WS zNg [some (wn R K),some (.loc n),some (.int key),some (.loc d),x4,some (.loc l2),some (.int at_),some (.int o)] ν nx rt bk ct:=by
 unfold zNg;refine zHk (z1c (zz (zz (zl rfl (w_c (zuf (zl rfl (zbv ho (.inl ⟨_,rfl,?_⟩)))))))));refine zTd (JPa R K lay key n d l2 at_ o P0 ν) ⟨P0,_,rfl,⟨[],by simp⟩,t,by simp,λ_ _ _ _ e=>e,gd,gl⟩ (λ_ _ _ _=>rfl) ?_ ?_
 ·rintro m x J ν1 hx ⟨P,y,rfl,⟨E,hE⟩,tP,hm,k1,g1,g2⟩;rw[yr]at hx
  cases hy:(K.getD o [])[m]? with
  |none=>rw[hy]at hx;cases hx
  |some h=>
   rw[hy]at hx;cases hx;have hmem:=mem_of_getElem? hy;have htk:(K.getD o []).take (m+1)=(K.getD o []).take m++[h]:=by rw[take_succ,hy];rfl
   have hpl:=tP.len;have hrl:=w.rl
   have hat:(P.map (·.1))[at_]?=some q.1:=by
    have hlt:=(List.getElem?_eq_some_iff.mp hq).1;rw[hE,map_append,yv (by simpa using hlt),yr,hq];rfl
   refine zOe ?_;unfold z9j;refine zIi (zS (zz (zl rfl (zl rfl (z7y (zep g1) ⟨_,rfl,λhb=>?_,λhb=>zDb ?_⟩)))))
   ·have hnew:h∉P.map (·.1):=by
     rw[z6n]at hb;simpa using hb
    refine zB (zCv (zYh (zj (zl rfl (zj (zz (zl rfl (zl rfl (z6c (zy g2) (zuc (v:=.int (q.1:Nat)) (by rw[yr,hat];rfl)) (zr ?_))))))))));refine zmA (zl rfl (zl rfl ⟨_,_,_,rfl,rfl,g1,by simp[dkP];omega,?_⟩));rw[show(D.tup [.int (o:Nat),.int (q.1:Nat)])=.tup [.int (o:Nat),onD (some q.1)] from rfl,ziw hnew];have g1':=z8 (o':=tD.dct (dkP (P++[(h,o,some q.1)]))) g1;have g2':=zU (o':=tD.dct (dkP (P++[(h,o,some q.1)]))) g2 (by omega:d≠l2);refine zjl (zPm (zl rfl ⟨_,_,rfl,g2',?_⟩));refine zj (zl rfl (zr ?_));refine zlj g2' (by rw[length_map,length_map];omega) ?_
    have hatP:P[at_]?=some q:=by
     have hlt:=(List.getElem?_eq_some_iff.mp hq).1;rw[hE,yv hlt];exact hq
    refine⟨P++[(h,o,some q.1)],_,rfl,⟨E++[(h,o,some q.1)],by rw[hE];simp⟩,tP.add hnew ((w.key ho).2 h hmem) ho hmem (.inr ⟨at_,q,hatP,rfl,hlo⟩),λg hg=>?_,λi o' hi1 hi2 e'=>zU (zU (k1 i o' hi1 hi2 e') (yM hi1)) (yM hi2),zU g1' (by omega),?_⟩
    ·rw[htk]at hg;rw[map_append,mem_append];rcases List.mem_append.mp hg with hg|hg
     ·exact .inl (hm g hg)
     ·rw[List.mem_singleton.mp hg];exact .inr (by simp)
    ·rw[z8 g2',map_append,zWk];rfl
   ·have hold:h∈P.map (·.1):=by
     rw[z6n]at hb;simpa using hb
    refine⟨P,_,rfl,⟨E,hE⟩,tP,λg hg=>?_,k1,g1,g2⟩;rw[htk]at hg;rcases List.mem_append.mp hg with hg|hg
    ·exact hm g hg
    ·rw[List.mem_singleton.mp hg];exact hold
 ·rintro J ν1 ⟨P,y,rfl,hE,tP,hm,k1,g1,g2⟩;rw[length_map,take_length]at hm;exact k P y ν1 hE tP hm k1 g1 g2
abbrev JPb(R:List Nat)(K:List (List Nat))(lay:List (Option Nat))(key n:Nat)(O:Mem):Nat->M.Loc->Mem->Prop:=λm J ν=>∃(P:PT)(x:Option D),J=[some (wn R K),some (.loc n),some (.int key),some (.loc O.length),x,none,none,none]/\Tree R K lay key P/\(∀p∈P,p.2=(key,none))/\(∀h∈(K.getD key []).take m,h∈P.map (·.1))/\tw O ν/\ν[O.length]?=some (.dct (dkP P))
abbrev JPc(R:List Nat)(K:List (List Nat))(lay:List (Option Nat))(key n:Nat)(O ν1:Mem):Nat->M.Loc->Mem->Prop:=λm J ν=>∃(P:PT)(at_:Nat)(x y:Option D),m=R.length-at_/\at_<=P.length/\J=[some (wn R K),some (.loc n),some (.int key),some (.loc O.length),x,some (.loc ν1.length),some (.int at_),y]/\Tree R K lay key P/\(∀h∈K.getD key [],h∈P.map (·.1))/\(∀(i:Nat) p,i<at_->P[i]?=some p->∀o,lay.getD o none=some p.1->∀h∈K.getD o [],h∈P.map (·.1))/\tw O ν/\ν[O.length]?=some (.dct (dkP P))/\ν[ν1.length]?=some (.lst (nat (P.map (·.1))))
abbrev JPd(R:List Nat)(K:List (List Nat))(lay:List (Option Nat))(key n:Nat)(O ν1:Mem)(at_:Nat)(P:PT)(q0:Nat×Nat×Option Nat)(l4:Nat):Nat->M.Loc->Mem->Prop:=λj J ν=>∃(P':PT)(x y:Option D),J=[some (wn R K),some (.loc n),some (.int key),some (.loc O.length),x,some (.loc ν1.length),some (.int at_),y]/\(∃E,P'=P++E)/\Tree R K lay key P'/\(∀o∈(zZo lay q0.1).take j,∀h∈K.getD o [],h∈P'.map (·.1))/\tw O ν/\ν[O.length]?=some (.dct (dkP P'))/\ν[ν1.length]?=some (.lst (nat (P'.map (·.1))))/\ν[l4]?=some (.lst (nat (zZo lay q0.1)))
def zjt{key:Nat}(w:Wb L R K)(hlen:lay.length=K.length)(hL:L<=1000)(hn:O[n]?=some (.lst (lay.map onD)))(hk:key<K.length)
 (q:∀(P:PT)(d:Nat)(O':Mem),Tree R K lay key P->(∀h∈K.getD key [],h∈P.map (·.1))->(∀p∈P,∀o,lay.getD o none=some p.1->∀h∈K.getD o [],h∈P.map (·.1))->tw O O'->O.length<=d->O'[d]?=some (.dct (dkP P))->Q (.loc d) O'):WF zdh [wn R K,.loc n,.int key] O Q:=by
 have hrl:=w.rl;have hkl:=w.kl;refine zmb rfl ?_;show WS zYg [some (wn R K),some (.loc n),some (.int key),none,none,none,none,none] O _ _ _ _;unfold zYg;refine zB (zMb (zdE (zB (zHk (z1c (zz (zz (zl rfl (w_c (zuf (zl rfl (zbv hk (.inl ⟨_,rfl,?_⟩))))))))))))) ;refine zTd (JPb R K lay key n O) ⟨[],_,rfl,⟨by simp,by simp,λi p e=>by simp at e⟩,by simp,by simp,.app,zw⟩ (λ_ _ _ _=>rfl) ?_ ?_
 ·rintro m x J ν1 hx ⟨P,y,rfl,tP,ha,hm,k1,g1⟩;rw[yr]at hx
  cases hy:(K.getD key [])[m]? with
  |none=>rw[hy]at hx;cases hx
  |some h=>
   rw[hy]at hx;cases hx;have hmem:=mem_of_getElem? hy;have htk:(K.getD key []).take (m+1)=(K.getD key []).take m++[h]:=by rw[take_succ,hy];rfl
   have hpl:=tP.len;refine zOe ?_;unfold znk;refine zCv (zYh (zj (zl rfl (zj (w_c (zr ?_))))));refine zmA (zl rfl (zl rfl ⟨_,_,_,rfl,rfl,g1,by simp[dkP];omega,?_⟩));rw[show(D.tup [.int (key:Nat),.non])=.tup [.int (key:Nat),onD none] from rfl];have kk:∀o':tD,tw O (ν1.set O.length o'):=λo' i o e=>zU (k1 i o e) (Yk (zO e))
   by_cases hin:h∈P.map (·.1)
   ·rw[zVB hin ha];refine⟨P,_,rfl,tP,ha,λg hg=>?_,kk _,z8 g1⟩;rw[htk]at hg;rcases List.mem_append.mp hg with hg|hg
    ·exact hm g hg
    ·rw[List.mem_singleton.mp hg];exact hin
   ·rw[ziw hin];refine⟨P++[(h,key,none)],_,rfl,tP.add hin ((w.key hk).2 h hmem) hk hmem (.inl ⟨rfl,rfl⟩),λp hp=>?_,λg hg=>?_,kk _,z8 g1⟩
    ·rcases List.mem_append.mp hp with hp|hp
     ·exact ha p hp
     ·rw[List.mem_singleton.mp hp]
    ·rw[htk]at hg;rw[map_append,mem_append];rcases List.mem_append.mp hg with hg|hg
     ·exact .inl (hm g hg)
     ·rw[List.mem_singleton.mp hg];exact .inr (by simp)
 ·rintro J ν1 ⟨P0,y,rfl,tP0,_,hm0,k1,g1⟩;rw[length_map,take_length]at hm0;refine zB (zMb (zt (zj (zl rfl (zr (zSB (zep g1) ?_))))));rw[ziu];have hl2:O.length<ν1.length:=zO g1;refine zB (zMb (w_c (zB ?_)));refine zIp (JPc R K lay key n O ν1) (m:=R.length) (by omega) ⟨P0,0,_,_,by simp,by simp,rfl,tP0,hm0,by simp,k1.to,zzb g1,zw⟩ ?_;rintro m J ν2 ⟨P,at_,x,y,rfl,hat,rfl,tP,hkey,hcl,k2,g2,g3⟩;have hpl:=tP.len
  repeat walk_at "w"
  refine zvh (zy g3) ?_;refine zEj ⟨_,rfl,λh1=>?_,λh1=>?_⟩
  ·have h1:at_<P.length:=by
    have:=of_decide_eq_true h1;simp only[length_map]at this;omega
   have hq:P[at_]?=some P[at_]:=by simp[h1]
   generalize P[at_]=q0 at hq;have hat':(P.map (·.1))[at_]?=some q0.1:=by rw[yr,hq];rfl
   unfold zMj;refine zB (zHk (z1c (zt (zj (zl rfl (zj (zz (zl rfl (zl rfl (z6c (zy g3) (zuc (v:=.int (q0.1:Nat)) (by rw[yr,hat'];rfl)) (zr ?_)))))))))));refine zzy (h:=q0.1) (k2 _ _ hn) (by omega) λl4 ν4 k4 hl4 g4 =>.inr (.inr ⟨l4,_,rfl,g4,?_⟩);have hν2:=zO g3;refine zTd (JPd R K lay key n O ν1 at_ P q0 l4) ⟨P,_,_,rfl,⟨[],by simp⟩,tP,by simp,k2.trans k4,k4 _ _ g2,k4 _ _ g3,g4⟩ (λj J ν ⟨_,_,_,_,_,_,_,_,_,_,h⟩=>z9 h .refl) ?_ ?_
   ·rintro j z J ν5 hz ⟨P',x',y',rfl,⟨E,hE⟩,tP',hdone,k5,g5,g6,g7⟩;rw[yr]at hz
    cases ho:(zZo lay q0.1)[j]? with
    |none=>rw[ho]at hz;cases hz
    |some o=>
     rw[ho]at hz;cases hz;have hom:=mem_of_getElem? ho;have hom':=List.mem_filter.mp hom;have hol:o<K.length:=by rw[<-hlen];simpa using hom'.1
     have hlo:=of_decide_eq_true hom'.2;have htk:(zZo lay q0.1).take (j+1)=(zZo lay q0.1).take j++[o]:=by rw[take_succ,ho];rfl
     have hq':P'[at_]?=some q0:=by rw[hE,yv h1];exact hq
     refine zOe ?_;have hl5:=zO g6;refine zqz w tP' hol hq' hlo hl2 g5 g6 λP'' x'' ν6 ⟨E',hE'⟩ tP'' hall k6 g8 g9=>⟨P'',_,_,rfl,⟨E++E',by rw[hE',hE,append_assoc]⟩,tP'',λo' ho' h hh=>?_,λi o' e'=>k6 i o' (yz (zO e')) (by have:=zO e';omega) (k5 i o' e'),g8,g9,k6 l4 _ (by omega) (by omega) g7⟩
     rw[htk]at ho';rcases List.mem_append.mp ho' with ho'|ho'
     ·rw[hE',map_append,mem_append];exact .inl (hdone o' ho' h hh)
     ·rw[List.mem_singleton.mp ho']at hh;exact hall h hh
   ·rintro J ν5 ⟨P',x',y',rfl,⟨E,hE⟩,tP',hdone,k5,g5,g6,g7⟩;rw[nat,length_map,take_length]at hdone;have hpl':=tP'.len;refine zWE rfl (w_c (z8C ?_));refine⟨R.length-(at_+1),by omega,P',at_+1,_,_,rfl,by rw[hE];simp;omega,rfl,tP',λh hh=>?_,λi p hi e o ho h hh=>?_,k5,g5,g6⟩
    ·rw[hE,map_append,mem_append];exact .inl (hkey h hh)
    ·by_cases hia:i<at_
     ·rw[hE,yv (by omega)]at e;rw[hE,map_append,mem_append];exact .inl (hcl i p hia e o ho h hh)
     ·have:i=at_:=by omega
      subst this;rw[hE,yv h1,hq]at e;cases e;refine hdone o ?_ h hh;refine List.mem_filter.mpr ⟨?_,decide_eq_true ho⟩;rw[mem_range];refine Nat.lt_of_not_le λhle=>?_;rw[getD_eq_getElem?_getD,Yu hle]at ho;cases ho
  ·refine zFb (zl rfl ?_)
   have h1:at_=P.length:=by
    have:=of_decide_eq_false h1;simp only[length_map]at this;omega
   refine q P _ ν2 tP hkey (λp hp o e h hh=>?_) k2 (yk _) g2;obtain⟨i,hi,rfl⟩:=List.mem_iff_getElem.mp hp;exact hcl i P[i] (by omega) (by simp[hi]) o e h hh
abbrev pD(p:Nat×Nat):D:=.tup [.int (p.1:Nat),.int (p.2:Nat)]
inductive Path(P:PT)(lay:List (Option Nat)):Nat->List (Nat×Nat)->Prop
 |one {i:Nat} {p:Nat×Nat×Option Nat} (e:P[i]?=some p):Path P lay i [(p.2.1,p.1)]
 |up {i j:Nat} {p q:Nat×Nat×Option Nat} {row:List (Nat×Nat)} (h:Path P lay i row) (e:P[i]?=some p) (eq:P[j]?=some q) (hj:j<i) (hf:p.2.2=some q.1) (hl:lay.getD p.2.1 none=some q.1):Path P lay j ((q.2.1,q.1)::row)
def Path.head{P:PT}(h:Path P lay i row):∃p r,P[i]?=some p/\row=(p.2.1,p.1)::r:=by
 cases h with
 |one e=>exact⟨_,_,e,rfl⟩
 |up h e eq hj hf hl=>exact⟨_,_,eq,rfl⟩
def Path.idx{P:PT}(h:Path P lay i row):∀x∈row,∃j p,i<=j/\P[j]?=some p/\x=(p.2.1,p.1):=by
 induction h with
 |one e=>intro x hx;rw[List.mem_singleton.mp hx];exact⟨_,_,yk _,e,rfl⟩
 |up h e eq hj hf hl ih=>
  intro x hx;rcases List.mem_cons.mp hx with rfl|hx
  ·exact⟨_,_,yk _,eq,rfl⟩
  ·obtain⟨m,p,hm,e',r⟩:=ih x hx;exact⟨m,p,by omega,e',r⟩
def Path.tail{P:PT}(h:Path P lay i row):∀x∈row.tail,∃j p,i<=j/\P[j]?=some p/\lay.getD x.1 none=some p.1:=by
 induction h with
 |one e=>intro x hx;cases hx
 |up h e eq hj hf hl ih=>
  intro x hx;obtain⟨p',r,e',er⟩:=h.head;rw[e]at e';cases e';rw[List.tail_cons,er]at hx;rcases List.mem_cons.mp hx with rfl|hx
  ·exact⟨_,_,yk _,eq,hl⟩
  ·obtain⟨m,p,hm,e',r⟩:=ih x (by rw[er];exact hx);exact⟨m,p,by omega,e',r⟩
def Path.link{P:PT}(h:Path P lay i row):∀n p q,row[n]?=some p->row[n+1]?=some q->lay.getD q.1 none=some p.2:=by
 induction h with
 |one e=>intro n p q _ e2;simp at e2
 |up h e eq hj hf hl ih=>
  intro n p q e1 e2
  cases n with
  |zero=>
   obtain⟨p',r,e',er⟩:=h.head;rw[e]at e';cases e';rw[er]at e2;simp at e1 e2;subst e1 e2;exact hl
  |succ n=>exact ih n p q (by simpa using e1) (by simpa using e2)
def zQC{P:PT}(nd:(P.map (·.1)).Nodup){i j:Nat}{p q:Nat×Nat×Option Nat}(e1:P[i]?=some p)(e2:P[j]?=some q)(h:p.1=q.1):i=j:=by
 have h1:(P.map (·.1))[i]?=some p.1:=by rw[yr,e1];rfl
 have h2:(P.map (·.1))[j]?=some p.1:=by rw[yr,e2,h];rfl
 obtain⟨a,h1⟩:=List.getElem?_eq_some_iff.mp h1;obtain⟨b,h2⟩:=List.getElem?_eq_some_iff.mp h2;have pw:=List.pairwise_iff_getElem.mp nd;rcases Nat.lt_trichotomy i j with h|h|h
 ·exact absurd (h1.trans h2.symm) (pw i j a b h)
 ·exact h
 ·exact absurd (h2.trans h1.symm) (pw j i b a h)
def Path.ndk{P:PT}{key:Nat}(t:Tree R K lay key P)(hkey:lay.getD key none=none)(h:Path P lay i row):(row.map (·.1)).Nodup:=by
 induction h with
 |one e=>simp
 |@up i j p q row h e eq hj hf hl ih=>
  rw[map_cons,nodup_cons];refine⟨λhm=>?_,ih⟩;obtain⟨x,hx,ex⟩:=List.mem_map.mp hm;have ht:=(Path.up h e eq hj hf hl).tail x hx;obtain⟨m,p',hm',e',el⟩:=ht;rw[ex]at el;obtain⟨_,_,h3⟩:=t.ok j q eq;rcases h3 with ⟨_,h3⟩|⟨j',q',hj',eq',_,h4⟩
  ·simp only at el;rw[h3,hkey]at el;cases el
  ·simp only at el;rw[h4]at el;have:=zQC t.nd eq' e' (by injection el);omega
def Path.ok{P:PT}{key:Nat}{p:Nat×Nat×Option Nat}(t:Tree R K lay key P)(hkey:lay.getD key none=none)(h:Path P lay i row)(e:P[i]?=some p)(hp:p.2.2=none):Tm K lay key row:=by
 refine⟨?_,λx hx=>?_,h.link,h.ndk t hkey⟩
 ·obtain⟨p',r,e',er⟩:=h.head;rw[e]at e';cases e';rcases(t.ok i p e).2.2 with ⟨_,h3⟩|⟨_,_,_,_,h3,_⟩
  ·exact⟨p.1,r,by rw[er,h3]⟩
  ·rw[hp]at h3;cases h3
 ·obtain⟨j,q,_,eq,rfl⟩:=h.idx x hx;obtain⟨h1,h2,h3⟩:=t.ok j q eq;refine⟨h1,h2,?_⟩;rcases h3 with ⟨_,h3⟩|⟨j',q',hj',eq',_,h4⟩
  ·simp only;rw[h3,hkey];exact λh=>by cases h
  ·simp only;rw[h4];intro h;have:=zQC t.nd eq' eq (by injection h);omega
abbrev JRo(P:PT)(lay:List (Option Nat))(p0:Nat×Nat×Option Nat)(d:Nat)(O:Mem):Nat->M.Loc->Mem->Prop:=λm J ν=>∃(acc:List (Nat×Nat)) (f:Option Nat),J=[some (.loc d),some (onD f),some (.loc O.length)]/\tw O ν/\ν[O.length]?=some (.lst (acc.map pD))/\acc.length+m<=P.length /\
 ((f=none∧(∃ k,acc[0]?=some (k,p0.1))∧∃ i p,Path P lay i acc.reverse∧P[i]?=some p∧p.2.2=none) ∨
  (∃i p,m=i+1/\P[i]?=some p/\f=some p.1/\((acc=[]/\p=p0)\/((∃k,acc[0]?=some (k,p0.1))/\∃i' p',i<i'/\Path P lay i' acc.reverse/\P[i']?=some p'/\p'.2.2=some p.1/\lay.getD p'.2.1 none=some p.1))))
def zSy{key d i0:Nat}{p0:Nat×Nat×Option Nat}{P:PT}(t:Tree R K lay key P)(hR:R.length<=10)(hkey:lay.getD key none=none)(hd:zNd O (.loc d)=some (dkP P))(hp0:P[i0]?=some p0)
 (q:∀(row:List (Nat×Nat)) (l:Nat) (O':Mem),Tm K lay key row->(row.getD (row.length-1) (0,0)).2=p0.1->row.length<=P.length->tw O O'->O.length<=l->O'[l]?=some (.lst (row.map pD))->Q (.loc l) O'):WF zVl [.loc d,.int p0.1] O Q:=by
 have hpl:=t.len;refine zmb rfl ?_;show WS zSl [some (.loc d),some (.int p0.1),none] O _ _ _ _;unfold zSl;refine zB (zMb (zqm (zr (zB ?_))));have hi0:=(List.getElem?_eq_some_iff.mp hp0).1
 have hdk:∀{O':Mem},tw O O'->zNd O' (.loc d)=some (dkP P):=λ{O'} kp=>by
  cases e:O[d]? with
  |none=>simp[e]at hd
  |some o=>
   have e':=kp _ _ e;simp only[zNd,e]at hd;simp only[zNd,e'];exact hd
 refine zIp (JRo P lay p0 d O) (m:=i0+1) (by omega)
  ⟨[],some p0.1,rfl,.app,zw,by simp;omega,.inr ⟨i0,p0,rfl,hp0,rfl,.inl ⟨rfl,rfl⟩⟩⟩ ?_
 rintro m J ν ⟨acc,f,rfl,kp,g,hlen,h⟩;refine zS (zz (zl rfl (w_c (zij (zbm _) ⟨_,rfl,λh1=>?_,λh1=>?_⟩))))
 ·rcases h with ⟨rfl,_⟩|⟨i,p,rfl,ep,rfl,h⟩
  ·cases h1
  ·have hlook:=zCB t.nd (mem_of_getElem? ep)
   have hnew:Path P lay i ((p.2.1,p.1)::acc.reverse):=by
    rcases h with ⟨rfl,rfl⟩|⟨_,i',p',hi',hpa,ep',hf,hl⟩
    ·exact .one ep
    ·exact .up hpa ep' ep hi' hf hl
   have hac:∃k,(acc++[(p.2.1,p.1)])[0]?=some (k,p0.1):=by
    rcases h with ⟨rfl,rfl⟩|⟨⟨k,hk⟩,_⟩
    ·exact⟨p.2.1,rfl⟩
    ·refine⟨k,?_⟩;rw[yv (List.getElem?_eq_some_iff.mp hk).1];exact hk
   unfold zXo;refine zB (zjl (zPm (zl rfl ⟨_,_,rfl,g,?_⟩)));refine zj (zYh (zj (zz (zz (zl rfl (zl rfl (zID (hdk kp) hlook (w_c (z6c rfl rfl (zj (zl rfl (zr (zr ?_)))))))))))));refine zlj g (by rw[length_map];omega) ?_;have kp2:tw O (ν.set O.length (.lst (acc.map pD++[pD (p.2.1,p.1)]))):=λa o e=>zU (kp a o e) (Yk (zO e));refine zMb (zz (zz (zl rfl (zl rfl (zID (hdk kp2) hlook (w_c (z6c rfl rfl ?_)))))));obtain⟨_,_,h3⟩:=t.ok i p ep;rcases h3 with ⟨h3,_⟩|⟨j,q',hj,eq',h3,h4⟩
   ·refine⟨0,by omega,acc++[(p.2.1,p.1)],none,?_,kp2,?_,by rw[length_append];simp;omega,.inl ⟨rfl,hac,i,p,?_,ep,h3⟩⟩
    ·rw[h3];rfl
    ·rw[z8 g,map_append];rfl
    ·rw[List.reverse_append];exact hnew
   ·refine⟨j+1,by omega,acc++[(p.2.1,p.1)],some q'.1,?_,kp2,?_,by rw[length_append];simp;omega,.inr ⟨j,q',rfl,eq',rfl,.inr ⟨hac,i,p,hj,?_,ep,h3,h4⟩⟩⟩
    ·rw[h3];rfl
    ·rw[z8 g,map_append];rfl
    ·rw[List.reverse_append];exact hnew
 ·rcases h with ⟨rfl,⟨k,hk⟩,i,p,hpa,ep,hn⟩|⟨i,p,rfl,ep,rfl,h⟩
  ·refine zFb (zRD (zl rfl ⟨_,_,rfl,g,?_⟩));refine q acc.reverse _ _ (hpa.ok t hkey ep hn) ?_ (by rw[List.length_reverse];omega) kp.to kp.len ?_
   ·have h0:=(List.getElem?_eq_some_iff.mp hk).1
    have:acc.reverse[acc.reverse.length-1]?=some (k,p0.1):=by
     rw[List.length_reverse,List.getElem?_reverse (by omega),show acc.length-1-(acc.length-1)=0 by omega];exact hk
    rw[getD_eq_getElem?_getD,this];rfl
   ·rw[zw,List.map_reverse]
  ·cases h1
def zPD(P:PT)(lay:List (Option Nat))(key:Nat):List Nat:=(yt lay.length).filter λo=>decide (o=key)||decide (∃p∈P,lay.getD o none=some p.1)
def zsz{key:Nat}(w:Wb L R K)(hlen:lay.length=K.length)(hL:L<=1000)(hn:O[n]?=some (.lst (lay.map onD)))(hk:key<K.length)(hkey:lay.getD key none=none)
 (q1:∀(row:List (Nat×Nat)) (l:Nat) (O':Mem),Tm K lay key row->lay.count (some (row.getD (row.length-1) (0,0)).2)<R.getD (row.getD (row.length-1) (0,0)).2 0->row.length<=10->tw O O'->O.length<=l->O'[l]?=some (.lst (row.map pD))->Q (.tup [.str "put",.loc l]) O')
 (q2:∀(S:List Nat)(l:Nat)(O':Mem),S.Sublist (yt K.length)->key∈S->Tn R K lay S->tw O O'->O.length<=l->O'[l]?=some (.lst (nat S))->Q (.tup [.str "full",.loc l]) O'):WF zQl [wn R K,.loc n,.int key] O Q:=by
 have hrl:=w.rl;have hkl:=w.kl;refine zmb rfl ?_;show WS zRl [some (wn R K),some (.loc n),some (.int key),none,none,none] O _ _ _ _;unfold zRl;refine zB (zMb (zt (zj (zl rfl (zj (zl rfl (zj (zl rfl (zr ?_)))))))));refine zjt w hlen hL hn hk λP d O1 t hhome hcl k1 hd g1=>?_;refine zB (zMb (zt (zj (zl rfl (zj (zl rfl (zr ?_)))))));refine z3A w (k1 _ _ hn) λl2 O2 k2 hl2 g2=>?_;have g1':=k2 _ _ g1;have hpl:=t.len;refine zB (zHk (zAB (zl rfl ⟨_,_,rfl,g1',?_⟩)));have hd1:d<O1.length:=zO g1;have kf:tw O (O2.set d (.dcf (dkP P))):=λi o e=>zU ((k1.trans k2) i o e) (by have:=zO e;omega);have gd:=z8 (o':=tD.dcf (dkP P)) g1';have gl:=zU (o':=tD.dcf (dkP P)) g2 (by omega:d≠l2);generalize O2.set d (.dcf (dkP P))=O3 at kf gd gl;rw[ziu];refine zTd (λm J ν=>∃x:Option D,J=[some (wn R K),some (.loc n),some (.int key),some (.loc d),some (.loc l2),x]/\ν=O3/\∀(i:Nat) p,i<m->P[i]?=some p->R.getD p.1 0<=lay.count (some p.1)) ⟨_,rfl,rfl,by simp⟩ (λ_ _ _ _=>rfl) ?_ ?_
 ·rintro m x J ν hx ⟨y,rfl,rfl,hb⟩;rw[yr,yr]at hx
  cases ep:P[m]? with
  |none=>rw[ep]at hx;cases hx
  |some p=>
   rw[ep]at hx;cases hx;have hlt:=t.lt p (mem_of_getElem? ep);refine zOe ?_;unfold znp;refine zIi (zS (zz (zz (zl rfl (zl rfl (z6c (zy gl) (zuc (v:=.int ((R.getD p.1 0:Int)-(lay.count (some p.1):Nat))) (by unfold zWB;simp[hlt])) (w_c (zEj ⟨_,rfl,λh1=>?_,λh1=>?_⟩))))))))
   ·have h1:=of_decide_eq_true h1;refine zFb (zYh (zj (w_c (zj (zt (zj (zl rfl (zj (zl rfl (zr ?_))))))))));refine zSy t hrl.2 hkey (zFk gd) ep λrow l O4 hrow hlast hrl4 k4 hl4 g4=>zr ?_;refine q1 row l O4 hrow ?_ (by omega) (kf.trans k4) (by have:=kf.len;omega) g4;rw[hlast];omega
   ·have h1:=of_decide_eq_false h1;refine zDb ⟨_,rfl,rfl,λi p' hi e'=>?_⟩
    by_cases hm:i=m
    ·subst hm;rw[ep]at e';cases e';omega
    ·exact hb i p' (by omega) e'
 ·rintro J ν ⟨y,rfl,rfl,hb⟩;rw[nat,length_map,length_map]at hb
  have hfull:∀p∈P,R.getD p.1 0<=lay.count (some p.1):=λp hp=>by
   obtain⟨i,hi,rfl⟩:=List.mem_iff_getElem.mp hp;exact hb i P[i] hi (by simp[hi])
  refine zFb (zYh (zj (w_c (zj (zfi ?_)))));refine zql (zl rfl (.inr (.inr ⟨n,_,rfl,kf _ _ hn,zjb (by rw[z6d,length_map];omega),?_⟩)));rw[zee onD lay none];refine zbj (λ(k:Nat) =>.tup [.int k,onD (lay.getD k none)]) (yt lay.length) (λ(k:Nat)=>D.int k) (λo=>decide (o=key)||decide (∃p∈P,lay.getD o none=some p.1)) (λO' k'=>z9 (kf _ _ hn) k') (λk hk' O' kp=>?_) (λO' kp=>?_)
  ·have gd':=kp _ _ gd;refine z4u (zvm (zOe (zvm (zOe (zYu ?_)))));unfold z8o zVo;refine z1j (zS (zz (zl rfl (zl rfl (zxt ⟨_,rfl,λh1=>?_,λh1=>?_⟩)))))
   ·have h1:k≠key:=by
     intro e;rw[e]at h1;simp at h1
    rw[decide_eq_false h1,Bool.false_or]
    cases e:lay.getD k none with
    |none=>
     refine zS (zz (zl rfl (zl rfl (zMD (zFk gd') ?_ ⟨_,rfl,?_,kp,λhb=>(by cases hb)⟩))))
     ·rw[all_eq_true];intro x hx;obtain⟨p,hp,rfl⟩:=List.mem_map.mp hx;have:=t.lt p hp;exact decide_eq_true (by simp only;omega)
     ·symm
      refine decide_eq_false ?_;rintro⟨p,_,e⟩;cases e
    |some h=>
     refine zS (zz (zl rfl (zl rfl (z3D (zFk gd') ⟨_,rfl,?_,kp,λhb=>zl rfl ⟨rfl,kp⟩⟩))));rw[z6n];refine decide_eq_decide.mpr ?_;rw[mem_map];constructor
     ·rintro⟨p,hp,rfl⟩;exact⟨p,hp,rfl⟩
     ·rintro⟨p,hp,e⟩;cases e;exact⟨p,hp,rfl⟩
   ·have h1:k=key:=by
     have:=beq_iff_eq.mp h1;omega
    rw[decide_eq_true h1,Bool.true_or];exact⟨rfl,kp,λ_=>zl rfl ⟨rfl,kp⟩⟩
  ·refine zr (q2 (zPD P lay key) _ _ ?_ ?_ ?_ (kf.trans kp.to) (kf.trans kp).len zw)
   ·rw[<-hlen];exact filter_sublist
   ·exact List.mem_filter.mpr ⟨by simpa[hlen] using hk,by simp⟩
   ·have hin:∀k∈zPD P lay key,∀h∈K.getD k [],∃p∈P,p.1=h:=λk hkm h hh=>by
     have hm:=(List.mem_filter.mp hkm).2;rw[Bool.or_eq_true,decide_eq_true_iff,decide_eq_true_iff]at hm;rcases hm with rfl|⟨p,hp,e⟩
     ·obtain⟨p,hp,e⟩:=List.mem_map.mp (hhome h hh);exact⟨p,hp,e⟩
     ·obtain⟨p',hp',e'⟩:=List.mem_map.mp (hcl p hp k e h hh);exact⟨p',hp',e'⟩
    refine⟨λk hkm=>?_,λk hkm h hh=>?_,λk hkm h hh o e=>?_⟩
    ·have:=(List.mem_filter.mp hkm).1;rw[<-hlen];simpa using this
    ·obtain⟨p,hp,rfl⟩:=hin k hkm h hh;exact hfull p hp
    ·obtain⟨p,hp,rfl⟩:=hin k hkm h hh;refine List.mem_filter.mpr ⟨?_,?_⟩
     ·rw[mem_range];refine Nat.lt_of_not_le λhle=>?_;rw[getD_eq_getElem?_getD,Yu hle]at e;cases e
     ·rw[Bool.or_eq_true];exact .inr (decide_eq_true ⟨p,hp,e⟩)
def zuC{ys:List D}(h:O[n]?=some (.lst xs))(h2:O[m]?=some (.lst ys))(hl:xs.length+ys.length<=1000000)(q:Q .non (O.set n (.lst (xs++ys)))):WM z3B (.loc n) [.loc m] O Q:=⟨_,_,by simp[h,h2,hl]<;>rfl,q⟩
def znz(h:k<lay.length):atI (lay.map onD) (k:Int)=some (onD (lay.getD k none)):=zuc (by simp[h])
def zGv{p:Nat×Nat}(e:row[i]?=some p):atI (row.map pD) (i:Int)=some (pD p):=zuc (by rw[yr,e];rfl)
def zgw{key r:Nat}{p:Nat×Nat}(w:Wb L R K)(hlen:lay.length=K.length)(hn:O[n]?=some (.lst (lay.map onD)))(hr:O[r]?=some (.lst (row.map pD)))(hrl:row.length<=1000)(ok:Tm K lay key row)(e:row[i]?=some p)
 (q:∀O',tw O O'->Q (.bl true) O'):WF zAk [wn R K,.loc n,.loc r,.int i] O Q:=by
 have hm:=ok.mem p (mem_of_getElem? e);have hi:=(List.getElem?_eq_some_iff.mp e).1;refine zmb rfl ?_;show WS zrj [some (wn R K),some (.loc n),some (.loc r),some (.int i),none] O _ _ _ _;unfold zrj;refine zB (zMb (zz (zz (zl rfl (zl rfl (z6c (zy hr) (zGv e) (w_c (z6c rfl rfl ?_))))))));refine zB (zIi (z1j (zS (zz (zl rfl (w_c (zEj ⟨_,rfl,λh1=>?_,λh1=>?_⟩)))))))
 case refine_2=>have:=of_decide_eq_true h1;omega
 refine zS (zz (zl rfl (zt (zj (zl rfl (zr (zvh (zy hn) (zEj ⟨_,rfl,λh2=>?_,λh2=>zDb ?_⟩))))))))
 ·have:=of_decide_eq_true h2;rw[length_map]at this;omega
 refine zB (zIi (z1j (zS (zz (zz (zz (zl rfl (zl rfl (z6c (zy hr) (zGv e) (w_c (z6c rfl rfl (zz (zz (zl rfl (w_c (zuf (zl rfl (zbv hm.1 (zcu rfl ⟨_,rfl,λh3=>?_,λh3=>?_⟩)))))))))))))))))))
 case refine_2=>rw[decide_eq_true hm.2.1]at h3;cases h3
 refine zS (zz (zz (zz (zl rfl (zl rfl (z6c (zy hr) (zGv e) (w_c (z6c rfl rfl (zz (zl rfl (zl rfl (z6c (zy hn) (znz (by omega)) (z4B (α:=Option Nat) (some p.2) (lay.getD p.1 none) ⟨_,rfl,λh4=>?_,λh4=>zDb ?_⟩)))))))))))))
 ·exact absurd (of_decide_eq_true h4).symm hm.2.2
 refine zFb (zz (zl rfl (zfi (z1c (zNx (zl rfl (zfv (zyo (zl rfl ⟨_,rfl,_,_,rfl,hr,.inr (.inr ⟨_,_,rfl,zw,?_,?_⟩)⟩)))))))))
 ·rw[z2x];exact zjb (by rw[length_take,length_map];omega)
 rw[z2x,<-List.map_take];refine zXb pD (row.take i) (λx =>.int (x.1:Nat)) (λO' k=>z9 zw k) (λx hx O' kp=>?_) (λO' kp=>?_)
 ·unfold zKn;exact zOe (zz (zl rfl (w_c (z6c rfl rfl ⟨rfl,kp,kp⟩))))
 ·have e2:((row.take i).map λx=>D.int (x.1:Nat))=nat ((row.take i).map (·.1)):=(zNh _ _).symm;rw[e2];refine zcu (zy zw) ?_
  have hnot:p.1∉(row.take i).map (·.1):=by
   intro hmem;have nd:=ok.nd;rw[<-take_append_drop i row,map_append,nodup_append]at nd;refine nd.2.2 _ hmem _ ?_ rfl;refine List.mem_map.mpr ⟨p,?_,rfl⟩;rw[drop_eq_getElem_cons hi,(List.getElem?_eq_some_iff.mp e).2];exact mem_cons_self
  rw[decide_eq_false hnot];exact q _ (tw.app.trans (kp.to))
def zDv{key r:Nat}{p:Nat×Nat}(hlen:lay.length=K.length)(hn:O[n]?=some (.lst (lay.map onD)))(hr:O[r]?=some (.lst (row.map pD)))(ok:Tm K lay key row)(e:row[i]?=some p)
 (q:Q (.bl true) O):WF zYj [.loc n,.int key,.loc r,.int i] O Q:=by
 refine zmb rfl ?_;show WS z3j [some (.loc n),some (.int key),some (.loc r),some (.int i)] O _ _ _ _;unfold z3j;refine zB (zIi (zS (zz (zl rfl (w_c (zxt ⟨_,rfl,λh1=>?_,λh1=>zDb ?_⟩))))))
 ·obtain⟨h,r0,e0⟩:=ok.first
  refine zFb (zz (zz (zz (zl rfl (w_c (z6c (zy hr) (zGv (i:=0) (p:=(key,h)) (by rw[e0];rfl)) (w_c (z6c rfl rfl (zl rfl (zxt ?_))))))))));rw[beq_self_eq_true];exact q
 ·cases i with
  |zero=>exact absurd h1 (by decide)
  |succ j=>
   have hj:j<row.length:=by
    have:=(List.getElem?_eq_some_iff.mp e).1;omega
   have ej:row[j]?=some row[j]:=by simp[hj]
   have hl:=ok.link j _ _ ej e;have hm:=ok.mem p (mem_of_getElem? e);refine zFb (zz (zz (zl rfl (zz (zz (zl rfl (zl rfl (z6c (zy hr) (zGv e) (w_c (z6c rfl rfl (z6c (zy hn) (znz (by omega)) (zz (zz (zl rfl (zz (zl rfl (w_c (z5x ?_))))))))))))))))));rw[show((j+1:Nat):Int)-1=(j:Int) by omega];refine z6c (zy hr) (zGv ej) (w_c (z6c rfl rfl (z4B (α:=Option Nat) (lay.getD p.1 none) (some (row[j]).2) ?_)));rw[decide_eq_true hl];exact q
def zgt(r:tU R K lay):zUo R K (lay.map onD)=.non:=by
 unfold zUo;rw[zEh λk hk=>?_,zEh λh hh=>?_]
 ·unfold zow;rw[zEw];have:=r.room h;exact decide_eq_false (by omega)
 ·unfold zFp
  have e:(lay.map onD).getD k .non=onD (lay.getD k none):=by
   have hk':k<lay.length:=by rw[r.len];exact hk
   simp[hk']
  rw[e]
  cases e2:lay.getD k none with
  |none=>rfl
  |some h=>
   have hm:h∈K.getD k []:=r.home k h (by
    have hk':k<lay.length:=by rw[r.len];exact hk
    simp[hk']at e2;simp[hk',e2])
   show(_ && !((nat (K.getD k [])).any λy=>eqF y (.int h)))=false;rw[z8v,decide_eq_true hm,Bool.not_true,Bool.and_false]
def zWD(lay:List (Option Nat))(k h:Nat):(lay.set k (some h)).map onD=(lay.map onD).set k (.int h):=List.map_set
def zcw{key r:Nat}(w:Wb L R K)(hL:L<=1000)(rt:tU R K lay)(hn:O[n]?=some (.lst (lay.map onD)))(hr:O[r]?=some (.lst (row.map pD)))(hrl:row.length<=1000)(ok:Tm K lay key row)(hkey:lay.getD key none=none)(hroom:lay.count (some (row.getD (row.length-1) (0,0)).2)<R.getD (row.getD (row.length-1) (0,0)).2 0)
 (q:∀(l:Nat)(O':Mem),tw O O'->O.length<=l->O'[l]?=some (.lst ((z9f lay row).map onD))->Q (.loc l) O'):WF z4l [wn R K,.loc n,.int key,.loc r] O Q:=by
 have hkl:=w.kl;have hlen:=rt.len;refine zmb rfl ?_;show WS zcm [some (wn R K),some (.loc n),some (.int key),some (.loc r),none,none,none] O _ _ _ _;unfold zcm;refine zB (zMb (zt (zj (zl rfl (zr (zWw (zy hn) ?_))))));refine zB (zHk (zql (zl rfl (.inr (.inr ⟨r,_,rfl,zzb hr,?_⟩)))));refine zTd (λm J ν=>∃x y:Option D,J=[some (wn R K),some (.loc n),some (.int key),some (.loc r),some (.loc O.length),x,y]/\tw O ν/\ν[O.length]?=some (.lst ((z9f lay (row.take m)).map onD))) ⟨_,_,rfl,.app,zw⟩ (λm J ν ⟨_,_,_,k,_⟩=>z9 hr k) ?_ ?_
 ·rintro m x J ν hx ⟨a,b,rfl,kp,g⟩;obtain⟨p,ep,rfl⟩:=zov hx;have hm:=ok.mem p (mem_of_getElem? ep);have htk:row.take (m+1)=row.take m++[p]:=by rw[take_succ,ep];rfl
  refine z4u (zvm (zOe (zvm (zOe (zYu ?_)))));unfold zjp;refine zB (zIi (zhk (zop (zS (zt (zj (zl rfl (zj (zl rfl (zj (zl rfl (zj (zl rfl (zr ?_))))))))))))));refine zgw w hlen (kp _ _ hn) (kp _ _ hr) hrl ok ep λO1 k1=>⟨_,rfl,λ_=>?_,λh=>(by cases h)⟩
  refine zS (zt (zj (zl rfl (zj (zl rfl (zj (zl rfl (zj (zl rfl (zr ?_))))))))));refine zDv hlen ((kp.trans k1) _ _ hn) ((kp.trans k1) _ _ hr) ok ep ⟨_,rfl,λh=>(by cases h),λ_=>zDb ?_⟩;refine zCv (zz (zl rfl (w_c (z6c rfl rfl ?_))));have g1:=k1 _ _ g;refine zJC (zl rfl (zz (zl rfl (w_c (z6c rfl rfl ⟨_,_,_,rfl,rfl,g1,?_,?_⟩)))))
  ·rw[length_map,zJj];omega
  ·refine⟨_,_,rfl,λi o e=>zU (k1 _ _ (kp i o e)) (Yk (zO e)),?_⟩;rw[z8 g1,htk,zEo,zWD];rfl
 ·rintro J ν ⟨a,b,rfl,kp,g⟩;rw[z6d,length_map,take_length]at g
  have hpos:0<row.length:=by
   obtain⟨h,q,e⟩:=ok.first
   rw[e];simp
  refine zB (zIi (z1j (zS (zz (zt (zj (zl rfl (zr (zvh (zy (kp _ _ hr)) (w_c (zxt ⟨_,rfl,λh1=>?_,λh1=>?_⟩)))))))))))
  case refine_2=>
   have:=beq_iff_eq.mp h1;rw[length_map]at this;omega
  have hr2:=zqn rt ok hkey hroom;refine zS (zz (zt (zj (zl rfl (zj (zl rfl (zr ?_)))))));refine zkz w (zQx _) (by rw[length_map,zJj];exact hlen) g λO1 k1=>?_;rw[zgt hr2];refine w_c (zij rfl ⟨_,rfl,λh=>(by cases h),λ_=>zDb (zFb (zl rfl ?_))⟩);exact q _ _ (kp.trans k1) (yk _) (k1 _ _ g)
def z1i(S:List Nat)(k:Nat):List Nat:=S.filter λo=>!decide (o=k)
def zLd(R:List Nat)(K:List (List Nat))(S:List Nat):Option Nat:=S.find? λk=>zSe R K (z1i S k)
def zNk(h:zLd R K S=some k):k∈S:=List.mem_of_find?_eq_some h
def z3r(h:zLd R K S=some k):zSe R K (z1i S k)=true:=List.find?_some (p:=λk=>zSe R K (z1i S k)) h
def zeg(S:List Nat)(k:Nat):(z1i S k).Sublist S:=filter_sublist
def z3m(h:S.Nodup)(k:Nat):S.erase k=z1i S k:=by
 rw[h.erase_eq_filter];unfold z1i;refine filter_congr λx _=>?_
 by_cases e:x=k<;>simp[e]
def z1n(h:S.Nodup){k:Nat}(hk:k∈S):(z1i S k).length+1=S.length:=by
 rw[<-z3m h,List.length_erase_of_mem hk];have:=List.length_pos_of_mem hk;omega
def zeo(R:List Nat)(K:List (List Nat)):Nat->List Nat->List Nat
 |0,S=>S
 |n+1,S=>match zLd R K S with
  |none=>S
  |some k=>zeo R K n (z1i S k)
def zls(R:List Nat)(K:List (List Nat))(S:List Nat):List Nat:=zeo R K S.length S
def zAv(h:zLd R K S=none):zls R K S=S:=by
 unfold zls
 cases S with
 |nil=>rfl
 |cons a S=>rw[length_cons,zeo,h]
def zhv(hd:S.Nodup)(h:zLd R K S=some k):zls R K S=zls R K (z1i S k):=by
 have h1:=z1n hd (zNk h);unfold zls
 conv=>lhs;rw[<-h1,zeo,h]
def zAr{R:List Nat}{K:List (List Nat)}:∀(n:Nat)(S:List Nat),(zeo R K n S).Sublist S
 |0,S=>List.Sublist.refl _
 |n+1,S=>by
  unfold zeo
  cases zLd R K S with
  |none=>exact List.Sublist.refl _
  |some k=>exact(zAr n _).trans (zeg S k)
def zTq{R:List Nat}{K:List (List Nat)}:∀(n:Nat)(S:List Nat),S.Nodup->S.length<=n->zLd R K (zeo R K n S)=none
 |0,S,_,h=>by
  have:S=[]:=List.length_eq_zero_iff.mp (by omega);subst this;rfl
 |n+1,S,hd,h=>by
  unfold zeo
  cases e:zLd R K S with
  |none=>exact e
  |some k=>
   have:=z1n hd (zNk e);exact zTq n _ (hd.sublist (zeg S k)) (by omega)
def zln{R:List Nat}{K:List (List Nat)}:∀(n:Nat)(S:List Nat),zSe R K S=true->zSe R K (zeo R K n S)=true
 |0,S,h=>h
 |n+1,S,h=>by
  unfold zeo
  cases e:zLd R K S with
  |none=>exact h
  |some k=>exact zln n _ (z3r e)
def zKu{p q:α->Bool}(h:∀x,p x=true->q x=true)(l:List α):(l.filter p).Sublist (l.filter q):=by
 have e:l.filter p=(l.filter q).filter p:=by
  rw[List.filter_filter];refine filter_congr λx _=>?_
  cases hp:p x with
  |false=>rfl
  |true=>rw[h x hp];rfl
 rw[e];exact filter_sublist
def zDm(w:Wb L R K)(hn:O[n]?=some (.lst (nat S)))(hS:∀k∈S,k<K.length)(hl:S.length<=1000)
 (q:∀O',tw O O'->Q (onD (zLd R K S)) O'):WF zqf [wn R K,.loc n] O Q:=by
 refine zmb rfl ?_;show WS z3g [some (wn R K),some (.loc n),none] O _ _ _ _;unfold z3g;refine zB (zHk (z1c (zl rfl (.inr (.inr ⟨n,_,rfl,hn,?_⟩)))));refine zTd (λm J O'=>∃a:Option D,J=[some (wn R K),some (.loc n),a]/\tw O O'/\∀k∈S.take m,zSe R K (z1i S k)=false) ⟨_,rfl,.refl,by simp⟩ (λm J O' ⟨a,_,k,_⟩=>z9 hn k) ?_ ?_
 ·rintro m x J O1 hx ⟨a,rfl,k1,hb⟩;rw[yr]at hx
  cases hy:S[m]? with
  |none=>rw[hy]at hx;cases hx
  |some kk=>
   rw[hy]at hx;cases hx;have ht:S.take (m+1)=S.take m++[kk]:=by rw[take_succ,hy];rfl
   refine zOe ?_;unfold zfj;refine zIi (zS (zt (zj (zl rfl (zj (zfi ?_))))));refine z1c (zl rfl (.inr (.inr ⟨n,_,rfl,k1 _ _ hn,zjb (by rw[length_map];omega),?_⟩)));refine zbj (λ(k:Nat)=>D.int k) S (λ(k:Nat)=>D.int k) (λo=>!decide (o=kk)) (λO' k'=>z9 (k1 _ _ hn) k') (λj hj O' kp=>?_) (λO2 k2=>?_)
   ·repeat walk_at "w"
    refine⟨?_,kp,λ_=>?_⟩
    ·congr 1
     by_cases e:j=kk
     ·subst e;simp
     ·simp[e];omega
    ·unfold zBj;exact zl rfl ⟨rfl,kp⟩
   ·refine zr ?_;have hls:(z1i S kk).length<=S.length:=(zeg S kk).length_le;refine zFu w (S:=z1i S kk) zw (λk hk=>hS k ((zeg S kk).subset hk)) (by omega) λO3 k3=>⟨_,rfl,λh1=>?_,λh1=>?_⟩
    ·refine zFb (zl rfl ?_);have:=q O3 (k1.trans (k2.to.trans k3))
     have e:zLd R K S=some kk:=by
      unfold zLd;rw[List.find?_eq_some_iff_append];refine⟨h1,S.take m,S.drop (m+1),?_,λa ha=>by rw[hb a ha];rfl⟩;have hlt:=(List.getElem?_eq_some_iff.mp hy).1
      have e1:S.drop m=kk::S.drop (m+1):=by
       rw[drop_eq_getElem_cons hlt,(List.getElem?_eq_some_iff.mp hy).2]
      rw[<-e1,take_append_drop]
     rw[e]at this;exact this
    ·refine zDb ⟨_,rfl,k1.trans (k2.to.trans k3),λk hk=>?_⟩;rw[ht]at hk;rcases List.mem_append.mp hk with hk|hk
     ·exact hb k hk
     ·rw[List.mem_singleton.mp hk];exact h1
 ·rintro J O1 ⟨a,rfl,k1,hb⟩;rw[length_map,take_length]at hb;refine zFb (w_c ?_);have:=q O1 k1
  have e:zLd R K S=none:=by
   unfold zLd;rw[List.find?_eq_none];intro k hk;rw[hb k hk];exact yB
  rw[e]at this;exact this
def zpv(w:Wb L R K)(hn:O[n]?=some (.lst (nat S)))(hS:∀k∈S,k<K.length)(hl:S.length<=1000)(hd:S.Nodup)
 (q:∀(l:Nat)(O':Mem),tw O O'->O.length<=l->O'[l]?=some (.lst (nat (zls R K S)))->Q (.loc l) O'):WF z2j [wn R K,.loc n] O Q:=by
 refine zmb rfl ?_;show WS zPj [some (wn R K),some (.loc n),none,none] O _ _ _ _;unfold zPj;refine zB (zMb (zt (zj (zl rfl (zr (zWw (zy hn) ?_))))));refine zB (zMb (zt (zj (zl rfl (zj (zl rfl (zr ?_)))))));refine zDm w zw hS hl λO1 k1=>?_;refine zB ?_;refine zIp (λm J O'=>∃T:List Nat,m=T.length/\J=[some (wn R K),some (.loc n),some (.loc O.length),some (onD (zLd R K T))]/\tw O O'/\O'[O.length]?=some (.lst (nat T))/\T.Sublist S/\zls R K S=zls R K T) (m:=S.length) (by omega) ⟨S,rfl,rfl,tw.app.trans k1,k1 _ _ zw,List.Sublist.refl _,rfl⟩ ?_;rintro m J O' ⟨T,rfl,rfl,k2,g2,hT,ht⟩;have hTd:=hd.sublist hT;have hTl:=hT.length_le
 repeat walk_at "w"
 refine zij (zbm _) ⟨_,rfl,λh1=>?_,λh1=>?_⟩
 ·cases e:zLd R K T with
  |none=>rw[e]at h1;cases h1
  |some k=>
   have hk:=zNk e;have hle:=z1n hTd hk;unfold zxm;refine zB (zjl (zPm (zl rfl ⟨_,_,rfl,g2,?_⟩)));refine zj (zl rfl (zr ?_));refine zzx g2 hk ?_;rw[z3m hTd];refine zMb (zt (zj (zl rfl (zj (zl rfl (zr ?_))))));have g3:=z8 (o':=tD.lst (nat (z1i T k))) g2;refine zDm w g3 (λx hx=>hS x (hT.subset ((zeg T k).subset hx))) (by omega) λO3 k3=>?_;exact⟨(z1i T k).length,by omega,z1i T k,rfl,rfl,λi o e'=>k3 _ _ (zU (k2 _ _ e') (Yk (zO e'))),k3 _ _ g3,(zeg T k).trans hT,by rw[ht,zhv hTd e]⟩
 ·refine zFb (zl rfl ?_)
  have e:zLd R K T=none:=by
   cases e:zLd R K T with
   |none=>rfl
   |some k=>rw[e]at h1;cases h1
  refine q _ _ k2 (yk _) ?_;rw[ht,zAv e];exact g2
def z9y{key:Nat}(ok:Tm K lay key row){k:Nat}(h:k∈row.map (·.1)):k=key\/(lay.getD k none).isSome=true:=by
 obtain⟨p,hp,rfl⟩:=List.mem_map.mp h;obtain⟨i,hi,rfl⟩:=List.mem_iff_getElem.mp hp
 cases i with
 |zero=>
  obtain⟨h,r,e⟩:=ok.first
  subst e;exact .inl rfl
 |succ j=>
  have:=ok.link j row[j] row[j+1] (by simp[show j<row.length by omega]) (by simp[hi]);exact .inr (by rw[this];rfl)
def zPn{key:Nat}(hlen:lay.length=K.length)(ok:Tm K lay key row){k:Nat}(h:k=key\/(lay.getD k none).isSome=true):((z9f lay row).getD k none).isSome=true:=by
 by_cases hm:k∈row.map (·.1)
 ·obtain⟨p,hp,rfl⟩:=List.mem_map.mp hm;rw[zAp ok.nd hp (by rw[hlen];exact(ok.mem p hp).1)];rfl
 ·rcases h with rfl|h
  ·obtain⟨h,r,e⟩:=ok.first
   subst e;exact absurd (by simp) hm
  ·rw[zog hm];exact h
def zCm{key:Nat}(ok:Tm K lay key row){k:Nat}(h:lay.getD k none=none)(hk:k≠key):(z9f lay row).getD k none=none:=by
 rw[zog λhm=>?_]
 ·exact h
 ·rcases z9y ok hm with e|e
  ·exact hk e
  ·rw[h]at e;cases e
def zGh{s:yn}(h:Yv s=true):toP O 8 (.str s)=some (.str s):=by
 show(bif Yv s then some (PyData.str s) else none)=_;rw[h];rfl
def z8f(q:Q (.bl (Ym (.str a) (.str b))) O)(ha:Yv a=true:=by decide +kernel)(hb:Yv b=true:=by decide +kernel):W2 gEq (.str a) (.str b) O Q:=zoF (zGh ha) (zGh hb) q
def zys(q:Q (.bl (!PyData.eqv (.str a) (.str b))) O)(ha:Yv a=true:=by decide +kernel)(hb:Yv b=true:=by decide +kernel):W2 gNe (.str a) (.str b) O Q:=zHE (zGh ha) (zGh hb) q
structure Done(R:List Nat)(K:List (List Nat))(lay0 lay:List (Option Nat))(ks C:List Nat):Prop where
 right:tU R K lay
 sF:Tn R K lay C
 old:∀k,(lay0.getD k none).isSome=true->(lay.getD k none).isSome=true
 non:∀k,k∉ks->lay0.getD k none=none->lay.getD k none=none
 all:∀k∈ks,(lay.getD k none).isSome=true\/(k∈C/\lay.getD k none=none)
 out:C≠[]->∃k∈C,k∈ks/\lay.getD k none=none
def Done.put{ks:List Nat}{key:Nat}(d:Done R K lay0 lay ks C)(hk:key∉ks)(hkey:lay.getD key none=none)(ok:Tm K lay key row)
 (hroom:lay.count (some (row.getD (row.length-1) (0,0)).2)<R.getD (row.getD (row.length-1) (0,0)).2 0):Done R K lay0 (z9f lay row) (ks++[key]) C:=by
 have hlen:=d.right.len;refine⟨zqn d.right ok hkey hroom,d.sF.push d.right ok hkey hroom,λk h=>zPn hlen ok (.inr (d.old k h)),λk h h0=>?_,λk h=>?_,λhC=>?_⟩
 ·rw[mem_append,not_or]at h;exact zCm ok (d.non k h.1 h0) (by simpa using h.2)
 ·rcases List.mem_append.mp h with h'|h
  ·rcases d.all k h' with h1|⟨h1,h2⟩
   ·exact .inl (zPn hlen ok (.inr h1))
   ·exact .inr ⟨h1,zCm ok h2 (by rintro rfl;exact hk h')⟩
  ·rw[List.mem_singleton.mp h];exact .inl (zPn hlen ok (.inl rfl))
 ·obtain⟨k,h1,h2,h3⟩:=d.out hC;exact⟨k,h1,mem_append_left _ h2,zCm ok h3 (by rintro rfl;exact hk h2)⟩
def Done.full{ks:List Nat}{key:Nat}(d:Done R K lay0 lay ks C)(hkey:lay.getD key none=none)(hS:key∈S)(s:Tn R K lay S):Done R K lay0 lay (ks++[key]) (C++S):=by
 refine⟨d.right,d.sF.app s,d.old,λk h h0=>?_,λk h=>?_,λhC=>⟨key,mem_append_right _ hS,by simp,hkey⟩⟩
 ·rw[mem_append,not_or]at h;exact d.non k h.1 h0
 ·rcases List.mem_append.mp h with h|h
  ·rcases d.all k h with h1|⟨h1,h2⟩
   ·exact .inl h1
   ·exact .inr ⟨mem_append_left _ h1,h2⟩
  ·rw[List.mem_singleton.mp h];exact .inr ⟨mem_append_right _ hS,hkey⟩
def zws(m:Nat)(C:List Nat):List Nat:=(yt m).filter λk=>decide (k∈C)
def zhi(h:∀k∈C,k<m)(k:Nat):k∈zws m C↔k∈C:=by
 unfold zws;rw[List.mem_filter,mem_range,decide_eq_true_iff];exact⟨λq=>q.2,λq=>⟨h k q,q⟩⟩
def z5A{G:FE}(hC:∀k∈C,k<m)(hm:m<64)(hl:C.length<=4000)(h:WE G J O λx O1=>x=.loc n/\O1[n]?=some (.lst (nat C))/\Q (.loc O1.length) (O1++[.lst (nat (zws m C))])):WE (zXv G) J O Q:=by
 have hmem:∀i:Int,i∈(zws m C).map (λ(k:Nat)=>(k:Int))↔i∈C.map (λ(k:Nat)=>(k:Int)):=λi=>by
  simp only[mem_map];constructor
  ·rintro⟨k,hk,rfl⟩;exact⟨k,(zhi hC k).mp hk,rfl⟩
  ·rintro⟨k,hk,rfl⟩;exact⟨k,(zhi hC k).mpr hk,rfl⟩
 have hpw:((zws m C).map (λ(k:Nat)=>(k:Int))).Pairwise (· < ·):=by
  rw[List.pairwise_map];exact(List.pairwise_lt_range.filter _).imp λh=>by omega
 have hp:=zEp hmem hpw;have hsort:=zwu hmem hpw;have hsl:(zws m C).length<=m:=by unfold zws;simpa using(filter_sublist (l:=yt m) (p:=λk=>decide (k∈C))).length_le
 refine zYz (h.mono ?_);rintro x O1 ⟨rfl,g,q⟩;refine⟨_,C.map (λ(k:Nat)=>(k:Int)),rfl,by rw[g,map_map];rfl,by rw[length_map];omega,by rw[hp.length_eq,length_map];omega,?_⟩;rw[hsort,map_map];exact q
def zlt{ks:List Nat}(w:Wb L R K)(hL:L<=60)(rt:tU R K lay0)(hn:O[n]?=some (.lst (lay0.map onD)))(hm:O[m]?=some (.lst (nat ks)))(hks:∀k∈ks,k<K.length)(hnd:ks.Nodup)(hnon:∀k∈ks,lay0.getD k none=none)
 (q:∀(lay:List (Option Nat)) (C:List Nat) (l l2:Nat) (O':Mem),Done R K lay0 lay ks C->(∀C0,Tn R K lay0 C0->Tn R K lay C0)->tw O O'->(l=n/\lay=lay0\/O.length<=l)->O.length<=l2->l≠l2->O'[l]?=some (.lst (lay.map onD))->O'[l2]?=some (.lst (nat (zws K.length C)))->Q (.tup [.loc l,.loc l2]) O'):WF z8g [wn R K,.loc n,.loc m] O Q:=by
 have hkl:=w.kl
 have hkn:ks.length<=K.length:=by
  have:=zdg hnd (m:=yt K.length) λx hx=>by simpa using hks x hx
  simpa using this
 refine zmb rfl ?_;show WS zfh [some (wn R K),some (.loc n),some (.loc m),none,none,none] O _ _ _ _;unfold zfh;refine zB (zMb (zqm (zr (zB (zHk (z1c (zl rfl (.inr (.inr ⟨m,_,rfl,zzb hm,?_⟩)))))))));have hnl:=zO hn
 refine zTd (λi J ν=>∃(lay:List (Option Nat)) (C:List Nat) (l:Nat) (x y:Option D),J=[some (wn R K),some (.loc l),some (.loc m),some (.loc O.length),x,y]/\Done R K lay0 lay (ks.take i) C/\(∀C0,Tn R K lay0 C0->Tn R K lay C0)/\C.length<=i*K.length/\tw O ν/\(l=n/\lay=lay0\/O.length<l)/\ν[O.length]?=some (.lst (nat C))/\ν[l]?=some (.lst (lay.map onD)))
  ⟨lay0,[],n,_,_,rfl,⟨rt,.nil,λ_ h=>h,λ_ _ h=>h,by simp,λh=>absurd rfl h⟩,λ_ h=>h,by simp,.app,.inl ⟨rfl,rfl⟩,zw,zzb hn⟩ (λi J ν ⟨_,_,_,_,_,_,_,_,_,k,_⟩=>z9 hm k) ?_ ?_
 ·rintro i z J ν hz ⟨lay,C,l,x,y,rfl,d,hsh,hCl,kp,hl,gC,gl⟩;rw[yr]at hz
  cases ek:ks[i]? with
  |none=>rw[ek]at hz;cases hz
  |some key=>
   rw[ek]at hz;cases hz;have hkm:=mem_of_getElem? ek;have hil:=(List.getElem?_eq_some_iff.mp ek).1;have htk:ks.take (i+1)=ks.take i++[key]:=by rw[take_succ,ek];rfl
   have hkt:key∉ks.take i:=by
    intro hmem;have nd:=hnd;rw[<-take_append_drop i ks,nodup_append]at nd;refine nd.2.2 _ hmem _ ?_ rfl;rw[drop_eq_getElem_cons hil,(List.getElem?_eq_some_iff.mp ek).2];exact mem_cons_self
   have hkey:=d.non key hkt (hnon key hkm);have hCb:i*K.length<=60*60:=Xr (by omega) (by omega);refine zOe ?_;unfold zjj;refine zB (zMb (zt (zj (zl rfl (zj (zl rfl (zj (zl rfl (zr ?_)))))))));refine zsz w d.right.len (by omega) gl (hks key hkm) hkey (λrow r O1 ok hroom hrl k1 hr gr=>?_) (λS r O1 hS hkS s k1 hr gr=>?_)
   ·refine zIi (zS (zz (zz (zl rfl (w_c (z6c rfl rfl (w_c (z8f ⟨_,rfl,λ_=>?_,λh=>absurd h (by decide +kernel)⟩))))))));refine zMb (zt (zj (zl rfl (zj (zl rfl (zj (zl rfl (zj (zz (zl rfl (w_c (z6c rfl rfl (zr ?_)))))))))))));refine zcw w (by omega) d.right (k1 _ _ gl) gr (by omega) ok hkey hroom λl' O2 k2 hl' g2=>?_;refine⟨z9f lay row,C,l',_,_,rfl,by rw[htk];exact d.put hkt hkey ok hroom,λC0 h0=>(hsh C0 h0).push d.right ok hkey hroom,by rw[Nat.succ_mul];omega,kp.trans (k1.trans k2),.inr ?_,(k1.trans k2) _ _ gC,g2⟩;have:=(kp.trans k1).len;have:=k1.len;have:=zO gC;omega
   ·refine zIi (zS (zz (zz (zl rfl (w_c (z6c rfl rfl (w_c (z8f ⟨_,rfl,λh=>?_,λ_=>?_⟩))))))))
    ·exact absurd h (by decide +kernel)
    have hSl:S.length<=K.length:=by simpa using hS.length_le
    refine zjl (zPm (zl rfl ⟨_,_,rfl,k1 _ _ gC,?_⟩));refine zj (zz (zl rfl (w_c (z6c rfl rfl (zr ?_)))));refine zuC (k1 _ _ gC) gr (by simp only[length_map];omega) ?_;have hlt:=zO gC;refine⟨lay,C++S,l,_,_,rfl,by rw[htk];exact d.full hkey hkS s,hsh,by rw[Nat.succ_mul,length_append];omega,λa o e=>zU (k1 _ _ (kp a o e)) (Yk (zO e)),hl,?_,zU (k1 _ _ gl) (by rcases hl with ⟨h,_⟩|h<;>omega)⟩;rw[z8 (k1 _ _ gC),zWk]
 ·rintro J ν ⟨lay,C,l,x,y,rfl,d,hsh,hCl,kp,hl,gC,gl⟩;rw[length_map,take_length]at d;rw[length_map]at hCl;have hCb:ks.length*K.length<=60*60:=Xr (by omega) (by omega);refine zFb (zYh (zj (zl rfl (zj ?_))));refine z5A (n:=O.length) (m:=K.length) d.sF.keys (by omega) (by omega) (zl rfl ⟨rfl,gC,zr ?_⟩);have:=zO gl;exact q lay C l _ _ d hsh kp.to (by rcases hl with h|h;exact .inl h;exact .inr (by omega)) kp.len (by omega) (zzb gl) zw
def zSh(w:Wb L R K)(hL:L<=60)
 (q:∀(lay:List (Option Nat)) (C:List Nat) (l l2:Nat) (O':Mem),Done R K (yy K.length none) lay (yt K.length) C->tw O O'->O.length<=l->O.length<=l2->l≠l2->O'[l]?=some (.lst (lay.map onD))->O'[l2]?=some (.lst (nat (zws K.length C)))->Q (.tup [.loc l,.loc l2]) O'):WF z1b [wn R K] O Q:=by
 have hkl:=w.kl;refine zmb rfl ?_;show WS zYe [some (wn R K)] O _ _ _ _;unfold zYe;refine zFb (zt (zj (zl rfl (zj (zz (zqm (zj (w_c (zr (zt (zj (zz (zl rfl (w_c (zuf (zr (zvh rfl ?_)))))))))))))))));refine zVz zw (by rw[length_map];omega) (by omega) (by simp) ?_;refine zj (z7t (zt (zj (zz (zl rfl (w_c (zuf (zr (zvh rfl ⟨_,rfl,?_,zr ?_⟩)))))))))
 ·rw[length_map];omega
 have e1:(yy (((K.map tn).length:Nat):Int).toNat [D.non]).flatten=(yy K.length (none:Option Nat)).map onD:=by
  rw[Yg,length_map,List.map_replicate,List.flatten_replicate_singleton]
 rw[e1,Yg,length_map]
 have hrep:∀k,(yy K.length (none:Option Nat)).getD k none=none:=λk=>by
  rw[getD_eq_getElem?_getD,YR]
  split<;>rfl
 refine zlt (ks:=yt K.length) w hL ⟨by simp,λk h e=>?_,λh=>?_⟩ (zzb zw) zw (by simp) List.nodup_range (λk _=>hrep k) λlay C l l2 O' d _ k hl hl2 hne g g2=>?_
 ·rw[YR]at e
  split at e
  ·cases e
  ·cases e
 ·rw[List.count_replicate];simp
 ·have k':=(tw.to (tw.to (tw.app (O:=O) (g:=[.lst [.non]])))).trans k;refine q lay C l l2 O' d k' ?_ ?_ hne g g2
  ·rcases hl with ⟨rfl,_⟩|hl
   ·simp
   ·simp at hl;omega
  ·simp at hl2;omega
def zWm(w:Wb L R K)(hL:L<=60)
 (q1:∀(lay:List (Option Nat)) (l:Nat) (O':Mem),tU R K lay->(∀k<K.length,(lay.getD k none).isSome=true)->tw O O'->O.length<=l->O'[l]?=some (.lst (lay.map onD))->Q (.tup [.str "fits",.loc l]) O')
 (q2:∀(T:List Nat)(l:Nat)(O':Mem),T.Sublist (yt K.length)->zSe R K T=true->zLd R K T=none->tw O O'->O.length<=l->O'[l]?=some (.lst (nat T))->Q (.tup [.str "crowd",.loc l]) O'):WF zZd [wn R K] O Q:=by
 have hkl:=w.kl;refine zmb rfl ?_;show WS zgm [some (wn R K),none] O _ _ _ _;unfold zgm;refine zB (zMb (zt (zj (zl rfl (zr ?_)))));refine zSh w hL λlay C l l2 O1 d k1 hl hl2 hne g g2=>?_;refine zB (zIi (zS (zz (zz (zl rfl (w_c (z6c rfl rfl (zqm (zr ?_)))))))));refine zdD (α:=Nat) (zws K.length C) [] (zzb g2) zw ⟨_,rfl,λh1=>?_,λh1=>zDb ?_⟩
 ·have h1:=of_decide_eq_true h1;refine zFb (zYh (zj (w_c (zj (zz (zl rfl (w_c (z6c rfl rfl (zr ?_)))))))));refine q1 lay l _ d.right (λk hk=>?_) k1.to hl (zzb g);rcases d.all k (by simpa using hk) with h|⟨h,_⟩
  ·exact h
  ·have:=(zhi d.sF.keys k).mpr h;rw[h1]at this;cases this
 ·have h1:=of_decide_eq_false h1
  have hC:C≠[]:=by
   rintro rfl;exact h1 (by unfold zws;simp)
  obtain⟨k0,hk0,_,hn0⟩:=d.out hC;have hsub:(zws K.length C).Sublist (yt K.length):=filter_sublist;have hcr:=zcv w (d.sF.congr (zhi d.sF.keys)) d.right.len ((zhi d.sF.keys k0).mpr hk0) hn0;have hsl:(zws K.length C).length<=K.length:=by simpa using hsub.length_le
  have hnd:=List.nodup_range.sublist hsub;refine zFb (zYh (zj (w_c (zj (zt (zj (zl rfl (zj (zz (zl rfl (w_c (z6c rfl rfl (zr ?_)))))))))))));refine zpv w (zzb g2) (λk hk=>by simpa using hsub.subset hk) (by omega) hnd λl3 O3 k3 hl3 g3=>zr ?_;exact q2 _ l3 O3 ((zAr _ _).trans hsub) (zln _ _ hcr) (zTq _ _ hnd (yk _)) (k1.to.trans k3) (by have:=k1.len;simp at hl3;omega) g3
def zNu(R:List Nat)(K:List (List Nat)):Prop:=∃lay,tU R K lay/\∀k<K.length,(lay.getD k none).isSome=true
def zsu{T:List Nat}(w:Wb L R K)(hT:T.Sublist (yt K.length))(hc:zSe R K T=true):¬zNu R K:=by
 rintro⟨lay,r,h⟩;have hTk:∀k∈T,k<K.length:=λk hk=>by simpa using hT.subset hk
 have:=zlx w r (List.nodup_range.sublist hT) hTk λk hk=>h k (hTk k hk);rw[hc]at this;cases this
structure sV(R:List Nat)(K:List (List Nat))(X:List Nat):Prop where
 len:X.length=K.length
 home:∀(i h:Nat)(k:List Nat),X[i]?=some h->K[i]?=some k->h∈k
 room:∀h,X.count h<=R.getD h 0
def z2o(X:List Nat)(h:Nat):(X.map some).count (some h)=X.count h:=by
 induction X with
 |nil=>rfl
 |cons x X ih=>
  rw[map_cons,count_cons,count_cons,ih]
  congr 1
def zfu:∀{lay:List (Option Nat)},(∀k<lay.length,(lay.getD k none).isSome=true)->∃X:List Nat,lay=X.map some
 |[],_=>⟨[],rfl⟩
 |x::lay,h=>by
  obtain⟨X,rfl⟩:=zfu (lay:=lay) λk hk=>by simpa using h (k+1) (by simp;omega)
  have h0:=h 0 (by simp)
  cases x with
  |none=>cases h0
  |some n=>exact⟨n::X,rfl⟩
def zcq(r:tU R K lay)(hall:∀k<K.length,(lay.getD k none).isSome=true):∃X:List Nat,lay.map onD=nat X/\sV R K X:=by
 have hl:=r.len;obtain⟨X,rfl⟩:=zfu (lay:=lay) λk h=>hall k (by omega);refine⟨X,by rw[map_map];rfl,⟨by rw[length_map]at hl;exact hl,λi h k e1 e2=>?_,λh=>?_⟩⟩
 ·have h1:=r.home i h (by rw[yr,e1];rfl);rw[getD_eq_getElem?_getD,e2]at h1;exact h1
 ·have:=r.room h;rw[z2o]at this;exact this
def sV.right(a:sV R K X):tU R K (X.map some):=by
 have hl:=a.len;refine⟨by rw[length_map];exact hl,λk h e=>?_,λh=>by rw[z2o];exact a.room h⟩;rw[yr]at e
 cases ex:X[k]? with
 |none=>rw[ex]at e;cases e
 |some h'=>
  rw[ex]at e;cases e;have hk:=(List.getElem?_eq_some_iff.mp ex).1;have ek:K[k]?=some (K.getD k []):=by rw[getD_eq_getElem?_getD,yA (by omega)];rfl
  exact a.home k h _ ex ek
def zTs(h:k<X.length):((X.map some).getD k none).isSome=true:=by
 rw[getD_eq_getElem?_getD,yr,yA h];rfl
def sV.fits(a:sV R K X):zNu R K:=⟨_,a.right,λk hk=>zTs (by have:=a.len;omega)⟩
def zSC(w:Wb L R K)(hL:L<=60)
 (q1:∀(X:List Nat)(l:Nat)(O':Mem),sV R K X->tw O O'->O'[l]?=some (.lst (nat X))->Q (.tup [.str "fits",.loc l]) O')
 (q2:∀(l:Nat)(O':Mem),¬zNu R K->tw O O'->Q (.tup [.str "crowd",.loc l]) O'):WF zZd [wn R K] O Q:=by
 refine zWm w hL (λlay l O1 r hall k1 hl g=>?_) (λT l O1 hT hc hs k1 hl g=>q2 l O1 (zsu w hT hc) k1);obtain⟨X,e,a⟩:=zcq r hall;rw[e]at g;exact q1 X l O1 a k1 g
def zsE(N k:List Nat):Bool:=k.any λh=>!decide (h∈N)
def zCn(R:List Nat)(K:List (List Nat))(N:List Nat):Nat:=zms R N+(K.filter (zsE N)).length
def zpo(lay:List (Option Nat)):Nat:=(lay.filter Option.isSome).length
def zMf(l:List α)(d:α)(p:α->Bool):(l.filter p).length=((yt l.length).filter λk=>p (l.getD k d)).length:=by
 have e:l=(yt l.length).map λk=>l.getD k d:=by
  refine List.ext_getElem? λi=>?_
  by_cases h:i<l.length
  ·simp[h]
  ·simp[h]
 conv=>lhs;rw[e,List.filter_map,length_map]
 rfl
def zTr(lay:List (Option Nat))(N:List Nat):zpo lay=(lyN lay N).length+((yt lay.length).filter λk=>(lay.getD k none).isSome && !decide (∃h∈N,lay.getD k none=some h)).length:=by
 unfold zpo lyN;rw[zMf lay none];rw[<-zmh (λk=>decide (∃h∈N,lay.getD k none=some h)) (λk=>(lay.getD k none).isSome && !decide (∃h∈N,lay.getD k none=some h)) (λk hk=>by rw[hk];simp)]
 congr 1
 refine filter_congr λk _=>?_
 cases e:lay.getD k none with
 |none=>simp
 |some h=>cases decide (∃g∈N,some h=some g)<;>rfl
def zDA{N:List Nat}(r:tU R K lay){k:Nat}(h:((lay.getD k none).isSome && !decide (∃h∈N,lay.getD k none=some h))=true):zsE N (K.getD k [])=true:=by
 rw[yK]at h
 cases e:lay.getD k none with
 |none=>rw[e]at h;cases h.1
 |some g=>
  rw[e]at h
  have hk:k<lay.length:=Nat.lt_of_not_le λhle=>by
   rw[getD_eq_getElem?_getD,Yu hle]at e;cases e
  have hh:g∈K.getD k []:=r.home k g (by
   simp[hk]at e;simp[hk,e])
  refine List.any_eq_true.mpr ⟨g,hh,?_⟩;have h2:=h.2;rw[Bool.not_eq_true',decide_eq_false_iff_not]at h2 ⊢;exact λhm=>h2 ⟨g,hm,rfl⟩
def zwA{N:List Nat}(r:tU R K lay)(nd:N.Nodup):zpo lay<=zCn R K N:=by
 rw[zTr lay N,z2n nd];unfold zCn;have h1:(N.map λh=>lay.count (some h)).sum<=zms R N:=zRt λh _=>r.room h
 have h2:((yt lay.length).filter λk=>(lay.getD k none).isSome && !decide (∃h∈N,lay.getD k none=some h)).length<=(K.filter (zsE N)).length:=by
  rw[zMf K [],<-r.len];exact(zKu (λk hk=>zDA r hk) _).length_le
 omega
def zNC{f g:α->Nat}{l:List α}(h:∀x∈l,f x=g x):(l.map f).sum=(l.map g).sum:=by
 rw[map_congr_left h]
def zPt(w:Wb L R K)(d:Done R K lay0 lay (yt K.length) C):zpo lay=zCn R K (z7d R.length K C):=by
 have r:=d.right;have nd:(z7d R.length K C).Nodup:=List.nodup_range.sublist filter_sublist;rw[zTr lay (z7d R.length K C),z2n nd];unfold zCn zms;rw[zMf K [],<-r.len]
 congr 1
 ·refine zNC λh hh=>?_;obtain⟨k,hk,hm⟩:=(zCe w h).mp hh;have:=d.sF.full k hk h hm;have:=r.room h;omega
 ·congr 1
  refine filter_congr λk hk=>?_;rw[xL];refine⟨λh=>zDA r h,λh=>?_⟩;obtain⟨g,hg,hn⟩:=List.any_eq_true.mp h;rw[Bool.not_eq_true',decide_eq_false_iff_not]at hn;have hkC:k∉C:=λhC=>hn ((zCe w g).mpr ⟨k,hC,hg⟩);rcases d.all k (by rw[<-r.len];exact hk) with hs|⟨hC,_⟩
  ·rw[yK,hs];refine⟨rfl,?_⟩;rw[Bool.not_eq_true',decide_eq_false_iff_not];rintro⟨g',hg',e⟩;obtain⟨k',hk',hm'⟩:=(zCe w g').mp hg';exact hkC (d.sF.lies k' hk' g' hm' k e)
  ·exact absurd hC hkC
def zBv{T:List Nat}(h:∀k,k∈S↔k∈T):z7d n K S=z7d n K T:=by
 unfold z7d;refine filter_congr λx _=>decide_eq_decide.mpr ?_;constructor
 ·rintro⟨k,hk,hx⟩;exact⟨k,(h k).mp hk,hx⟩
 ·rintro⟨k,hk,hx⟩;exact⟨k,(h k).mpr hk,hx⟩
def zmB(w:Wb L R K)(hL:L<=60)
 (q:∀(lay:List (Option Nat)) (N:List Nat) (l l2:Nat) (O':Mem),tU R K lay->N.Sublist (yt R.length)->zpo lay=zCn R K N->tw O O'->O.length<=l->O.length<=l2->l≠l2->O'[l]?=some (.lst (lay.map onD))->O'[l2]?=some (.lst (nat N))->Q (.tup [.loc l,.loc l2]) O'):WF zYn [wn R K] O Q:=by
 have hkl:=w.kl;refine zmb rfl ?_;show WS z0t [some (wn R K),none] O _ _ _ _;unfold z0t;refine zB (zMb (zt (zj (zl rfl (zr ?_)))));refine zSh w hL λlay C l l2 O1 d k1 hl hl2 hne g g2=>?_;have hsub:(zws K.length C).Sublist (yt K.length):=filter_sublist;have hsl:(zws K.length C).length<=K.length:=by simpa using hsub.length_le
 refine zFb (zYh (zj (zz (zl rfl (w_c (z6c rfl rfl (zj (zt (zj (zl rfl (zj (zz (zl rfl (w_c (z6c rfl rfl (zr ?_))))))))))))))));refine zHo w g2 (λk hk=>by simpa using hsub.subset hk) (by omega) λl3 O3 k3 hl3 g3=>zr ?_;refine q lay (z7d R.length K (zws K.length C)) l l3 O3 d.right filter_sublist ?_ (k1.trans k3) hl (by have:=k1.len;omega) (by have:=zO g;omega) (k3 _ _ g) g3;rw[zBv (zhi d.sF.keys)];exact zPt w d
def zTA(hn:O[n]?=some (.lst (lay.map onD)))(hl:lay.length<=1000)(q:∀(l:Nat)(O':Mem),tw O O'->O.length<=l->O'[l]?=some (.lst (nat (z2A lay)))->Q (.loc l) O'):WF zLn [.loc n] O Q:=by
 refine zmb rfl ?_;show WS zmu [some (.loc n)] O _ _ _ _;unfold zmu
 repeat walk_at "w"
 refine zql (zl rfl (.inr (.inr ⟨n,_,rfl,hn,zjb (by rw[z6d,length_map];omega),?_⟩)));rw[zee onD lay none];refine zbj (λ(k:Nat) =>.tup [.int k,onD (lay.getD k none)]) (yt lay.length) (λ(k:Nat)=>D.int k) (λk=>(lay.getD k none).isSome) (λO' k=>z9 hn k) (λk hk O' kp=>?_) (λO' kp=>?_)
 ·repeat walk_at "w"
  refine zij (zbm _) ?_
  repeat walk_at "w"
  refine⟨z0y _,kp,λ_=>?_⟩;unfold zou;exact zl rfl ⟨rfl,kp⟩
 ·exact q _ _ kp.to kp.len zw
def z5E{α:FA}{P:List D->(Mem->Bool)->Mem->Prop}(h:WA α J O λds O1=>∃x y u v o1 o2,ds=[x,y]/\zeA O1 x=some (u,o1)/\zeA O1 y=some (v,o2)/\P (zIy u v) (λm=>o1 m&&o2 m) O1):WI (zhE α) J O P:=by
 obtain⟨ds,O1,e1,x,y,u,v,o1,o2,rfl,h1,h2,q⟩:=h;exact⟨_,_,_,by simp only[zhE,e1,yp,h1,h2],q⟩
def zNz(h:O[n]?=some (.lst xs)):zeA O (.loc n)=some (xs,z9n n xs):=by
 simp only[zeA,h]
def zzt{α β:Type}(f:α->D)(g:β->D):∀(xs:List α)(ys:List β),zIy (xs.map f) (ys.map g)=(xs.zip ys).map λp=>D.tup [f p.1,g p.2]
 |[],_=>rfl
 |_::_,[]=>rfl
 |x::xs,y::ys=>by
  show D.tup [f x,g y]::zIy (xs.map f) (ys.map g)=_;rw[zzt f g xs ys];rfl
def zmv(R M:List Nat):List Nat:=List.zipWith (· + ·) R M
def zMp{R M:List Nat}(h:M.length=R.length):(zmv R M).length=R.length:=by
 unfold zmv;rw[List.length_zipWith,h,Nat.min_self]
def zyB{R M:List Nat}(w:Wb L R K)(h:M.length=R.length):Wb L (zmv R M) K :=
 ⟨by rw[zMp h];exact w.rl,w.kl,λk hk=>by rw[zMp h];exact w.kn k hk⟩
def zaz(R M:List Nat):zmv R M=(R.zip M).map λp=>p.1+p.2:=by
 unfold zmv;rw[List.zip,List.map_zipWith]
def z8B{g:φ2}{G ψ χ:FE}
 (h:WE G J O λx O1=>WE ψ J O1 λy O2=>∃(n:Nat)(i:Int)(xs:List D)(d:D),x=.loc n/\y=.int i/\O2[n]?=some (.lst xs)/\0<=i/\atI xs i=some d/\WE χ J O2 λt O3=>W2 g d t O3 λu O4=>∃zs,O4[n]?=some (.lst zs)/\i<zs.length/\nx J (O4.set n (.lst (zs.set i.toNat u)))):WS (zEu g G ψ χ) J O nx rt bk ct:=by
 obtain⟨x,O1,e1,y,O2,e2,n,i,xs,d,rfl,rfl,e3,hi,e4,t,O3,e5,u,O4,e6,zs,e7,hl,q⟩:=h;have e8:ixN zs.length i=some i.toNat:=by unfold ixN;rw[if_pos hi,if_pos hl]
 have e9:zwD (.loc n) (.int i) O2=some (d,O2):=by
  simp only[zwD,e3];rw[decide_eq_true hi,cond_true,e4,yp]
 exact⟨.next _ _,by simp only[zEu,e1,e2,e9,e5,e6,e7,e8,yp],q⟩
def z1x:∀{M:List Nat} {h:Nat},h<M.length->(M.set h (M.getD h 0+1)).sum=M.sum+1
 |m::M,0,_=>by simp;omega
 |m::M,h+1,hl=>by
  have:=z1x (M:=M) (h:=h) (by simpa using hl);simp at this ⊢;omega
def zrz{M:List Nat}{v:Nat}(hl:h<M.length):(M.set h v).getD i 0=if i=h then v else M.getD i 0:=by
 by_cases e:i=h
 ·subst e;rw[if_pos rfl,getD_eq_getElem?_getD,yZ hl];rfl
 ·rw[if_neg e,getD_eq_getElem?_getD,Yc (yM e),<-getD_eq_getElem?_getD]
def z3p{R M:List Nat}(hM:M.length=R.length)(h:Nat):(zmv R M).getD h 0=R.getD h 0+M.getD h 0:=by
 unfold zmv
 by_cases hh:h<R.length
 ·simp[getD_eq_getElem?_getD,List.getElem?_zipWith,hh,hM]
 ·rw[getD_eq_getElem?_getD,Yu (by simp;omega),getD_eq_getElem?_getD,Yu (by omega),getD_eq_getElem?_getD,Yu (by omega)];rfl
def zcB(hk:k<lay.length)(hn:lay.getD k none=none):zpo (lay.set k (some h))=zpo lay+1:=by
 unfold zpo
 induction lay generalizing k with
 |nil=>simp at hk
 |cons o lay ih=>
  cases k with
  |zero=>
   have ho:o=none:=by simpa using hn
   subst ho;simp
  |succ k=>
   have:=ih (k:=k) (by simpa using hk) (by simpa using hn);simp only[List.set_cons_succ,filter_cons]
   split
   ·simp;omega
   ·exact this
def zMu{g:Nat}(hk:k<lay.length)(hn:lay.getD k none=none):(lay.set k (some h)).count (some g)=lay.count (some g)+if g=h then 1 else 0:=by
 induction lay generalizing k with
 |nil=>simp at hk
 |cons o lay ih=>
  cases k with
  |zero=>
   have ho:o=none:=by simpa using hn
   subst ho;simp only[List.set_cons_zero,count_cons]
   by_cases e:g=h
   ·simp[e]
   ·simp[e,yM e]
  |succ k=>
   have:=ih (k:=k) (by simpa using hk) (by simpa using hn);simp only[List.set_cons_succ,count_cons,this];omega
def zqB(h:∀k,k<lay.length->(lay.getD k none).isSome=true):zpo lay=lay.length:=by
 unfold zpo;rw[List.filter_eq_self.mpr λo ho=>?_];obtain⟨i,hi,rfl⟩:=List.mem_iff_getElem.mp ho;have:=h i hi
 rwa [getD_eq_getElem?_getD,yA hi]at this
structure Want(R:List Nat)(K:List (List Nat))(lay:List (Option Nat))(M:List Nat)(c:Nat):Prop where
 len:M.length=R.length
 right:tU (zmv R M) K lay
 all:zpo lay=K.length
 sum:M.sum+c=K.length
 most:∃lay0 N,tU R K lay0/\N.Sublist (yt R.length)/\zpo lay0=c/\c=zCn R K N
def zzq(w:Wb L R K)(hL:L<=60)
 (q:∀(lay:List (Option Nat)) (M:List Nat) (c l l2:Nat) (O':Mem),Want R K lay M c->tw O O'->O.length<=l->O.length<=l2->l≠l2->O'[l]?=some (.lst (nat M))->O'[l2]?=some (.lst (lay.map onD))->Q (.tup [.loc l,.loc l2]) O'):WF z5e [wn R K] O Q:=by
 have hkl:=w.kl;have hrl:=w.rl;refine zmb rfl ?_;show WS z2e [some (wn R K),none,none,none] O _ _ _ _;unfold z2e;refine zB (zMb (zz (zqm (zj (w_c (zr (zt (zj (zz (zl rfl (w_c (zfe (zr (zvh rfl ?_))))))))))))));refine zVz zw (by rw[length_map];omega) (by omega) (by simp) ?_
 have e1:(yy (((nat R).length:Nat):Int).toNat [D.int 0]).flatten=nat (yy R.length 0):=by
  rw[Yg,length_map,List.flatten_replicate_singleton];show _=(yy R.length 0).map _;rw[List.map_replicate];rfl
 rw[e1];have ka:tw O (O++[tD.lst [D.int 0]]) :=.app;have ha:O.length<=(O++[tD.lst [D.int 0]]).length:=by simp
 generalize O++[tD.lst [D.int 0]]=μa at ka ha;have kb:tw O (μa++[tD.lst (nat (yy R.length 0))]):=ka.to;have gb:(μa++[tD.lst (nat (yy R.length 0))])[μa.length]?=some (.lst (nat (yy R.length 0))):=zw;generalize μa++[tD.lst (nat (yy R.length 0))]=μb at kb gb;generalize μa.length=l at gb ha;have hlb:=zO gb;refine zB (zMb (zz (zt (zj (zl rfl (zr ?_))))));refine zSh w hL λlay0 C l2 l3 O1 d k1 hl2 hl3 hne g1 g2=>w_c (z6c rfl rfl ?_);have r:=d.right;have hlen:=r.len;refine zB (zHk (zJh (zj (zt (zj (zl rfl (zr (zvh (zy g1) (zr ⟨_,rfl,by omega,by rw[length_map];omega,?_⟩))))))))) ;rw[Yg,length_map];have hkm:=kb.trans k1
 refine zTd (λi J ν=>∃(lay:List (Option Nat)) (M:List Nat) (x:Option D),J=[some (wn R K),some (.loc l),some (.loc l2),x]/\M.length=R.length/\tU (zmv R M) K lay/\M.sum+zpo lay0=zpo lay/\(∀k,k<i->(lay.getD k none).isSome=true)/\tw O ν/\ν[l]?=some (.lst (nat M))/\ν[l2]?=some (.lst (lay.map onD)))
  ⟨lay0,yy R.length 0,_,rfl,by simp,⟨r.len,r.home,λh=>?_⟩,by simp,λk h=>absurd h (by omega),hkm,k1 _ _ gb,g1⟩ (λ_ _ _ _=>rfl) ?_ ?_
 ·rw[z3p (by simp)];have:=r.room h;omega
 ·rintro i x J ν hx ⟨lay,M,y,rfl,hM,rt,hs,hall,kp,gl,gl2⟩;obtain⟨hi,rfl⟩:=zCg hx;have hlay:=rt.len;refine zOe ?_;unfold z4h;refine zIi (zS (zz (zz (zl rfl (zl rfl (z6c (zy gl2) (znz (lay:=lay) (k:=i) (by omega)) (w_c (zUE (zbm _) ⟨_,rfl,λh1=>?_,λh1=>zDb ?_⟩)))))))) 
  ·have hn:lay.getD i none=none:=by
    cases e:lay.getD i none with
    |none=>rfl
    |some g=>rw[e]at h1;cases h1
   have hki:i<K.length:=by omega
   have hkk:=w.key hki
   obtain⟨h,t,eh⟩:∃h t,K.getD i []=h::t:=by
    cases e:K.getD i [] with
    |nil=>rw[e]at hkk;simp at hkk
    |cons h t=>exact⟨h,t,rfl⟩
   have hh:h∈K.getD i []:=by rw[eh];simp
   have hhr:=hkk.2 h hh
   have h0:atI (nat (K.getD i [])) 0=some (.int h):=by
    rw[eh];exact zuc (j:=0) (v:=D.int h) rfl
   refine zB (zCv (zz (zz (zz (zl rfl (w_c (zuf (zl rfl (zbv hki (w_c (z6c rfl h0 ?_))))))))))) ;refine zJC (zl rfl (zl rfl ⟨_,_,_,rfl,rfl,gl2,⟨by omega,by rw[length_map];omega⟩,?_⟩));rw[Yg];have es:(lay.map onD).set i (.int h)=(lay.set i (some h)).map onD:=by rw[List.map_set]
   rw[es];have g3:(ν.set l2 (tD.lst ((lay.set i (some h)).map onD)))[l2]?=some (.lst ((lay.set i (some h)).map onD)):=z8 gl2;have hll:l≠l2:=by omega
   have g4:(ν.set l2 (tD.lst ((lay.set i (some h)).map onD)))[l]?=some (.lst (nat M)):=zU gl (yM hll);have kc:tw O (ν.set l2 (tD.lst ((lay.set i (some h)).map onD))):=λa o e=>zU (kp a o e) (by have:=zO e;have:=kb.len;omega);generalize ν.set l2 (tD.lst ((lay.set i (some h)).map onD))=ν2 at g3 g4 kc
   have hix:atI ((lay.set i (some h)).map onD) (i:Int)=some (.int h):=by
    rw[znz (by rw[length_set];omega),getD_eq_getElem?_getD,yZ (by omega)];rfl
   have hMh:h<M.length:=by omega
   refine z8B (zl rfl (zz (zl rfl (zl rfl (z6c (zy g3) hix ⟨_,_,_,_,rfl,rfl,g4,by omega,zhm hMh,w_c ?_⟩)))));refine⟨_,_,rfl,_,g4,by rw[length_map];omega,?_⟩;rw[Yg]
   have em:(nat M).set h (.int ((M.getD h 0:Nat)+1))=nat (M.set h (M.getD h 0+1)):=by
    rw[zkB];rfl
   rw[em];refine⟨lay.set i (some h),M.set h (M.getD h 0+1),_,rfl,by rw[length_set];exact hM,⟨by rw[length_set];exact hlay,λk g e=>?_,λg=>?_⟩,?_,λk hk=>?_,λa o e=>zU (kc a o e) (by have:=zO e;omega),z8 g4,zU g3 hll⟩
   ·by_cases ek:i=k
    ·subst ek;rw[yZ (by omega)]at e;cases e;exact hh
    ·rw[Yc ek]at e;exact rt.home k g e
   ·have:=rt.room g;rw[z3p hM]at this;rw[zMu (by omega) hn,z3p (by rw[length_set];exact hM),zrz hMh]
    split
    ·rename_i e
     subst e;omega
    ·omega
   ·rw[z1x hMh,zcB (by omega) hn];omega
   ·by_cases ek:i=k
    ·subst ek;rw[getD_eq_getElem?_getD,yZ (by omega)];rfl
    ·rw[getD_eq_getElem?_getD,Yc ek,<-getD_eq_getElem?_getD];exact hall k (by omega)
  ·refine⟨lay,M,_,rfl,hM,rt,hs,λk hk=>?_,kp,gl,gl2⟩
   by_cases ek:k=i
   ·subst ek
    cases e:lay.getD k none with
    |none=>rw[e]at h1;cases h1
    |some g=>rfl
   ·exact hall k (by omega)
 ·rintro J ν ⟨lay,M,y,rfl,hM,rt,hs,hall,kp,gl,gl2⟩;simp only[length_map,length_range]at hall;have hlay:=rt.len;have hal:zpo lay=K.length:=by rw[<-hlay];exact zqB λk hk=>hall k (by omega)
  refine zFb (zYh (zj (zl rfl (zj (zl rfl (zr ?_))))));exact q lay M (zpo lay0) l l2 ν ⟨hM,rt,hal,by omega,lay0,z7d R.length K C,r,filter_sublist,rfl,zPt w d⟩ kp (by omega) (by have:=kb.len;omega) (by omega) gl gl2
def zyv{R M:List Nat}(hr:R.length<=1000)(hn:O[n]?=some (.lst (nat M)))(q:∀O',tw O O'->Q (wn (zmv R M) K) O'):WF zmj [wn R K,.loc n] O Q:=by
 refine zmb rfl ?_;show WS zzj [some (wn R K),some (.loc n)] O _ _ _ _;unfold zzj;refine zFb (zYh (zj (zt (zj (zfi (z5E (zj (zz (zl rfl (w_c (zfe (zj (zl rfl (zr ⟨_,_,_,_,_,_,rfl,rfl,zNz hn,?_⟩))))))))))))));rw[zzt];refine⟨zjb (by rw[length_map,List.length_zip];omega),?_⟩;refine zXb (λp=>D.tup [.int (p.1:Nat),.int (p.2:Nat)]) (R.zip M) (λp =>.int ((p.1+p.2:Nat):Int)) (λO' k=>by rw[z9 hn k];rfl) (λp hp O' kp=>?_) (λO' kp=>?_)
 ·refine z4u (zvm (zOe (zvm (zOe (zYu ?_)))));unfold zJm;refine zz (zl rfl (zl rfl (zho ⟨?_,kp,kp⟩)));rw[Int.natCast_add]
 ·refine zr (zXd (zy zw) (zj (zz (zl rfl (w_c (zuf (zr ?_)))))));have e:(R.zip M).map (λp=>D.int ((p.1+p.2:Nat):Int))=nat (zmv R M):=by rw[zaz,zNh]
  rw[e];exact q _ kp.to
section
open PySem.Builtin PySem.Builtin.Str
def zJn(h:a.cps.toList=b.cps.toList):a=b:=Str.ext' (Array.toList_inj.mp h)
def zPe(a b:yn):(a++b).cps.toList=a.cps.toList++b.cps.toList:=by
 rw[Str.cps_append,Array.toList_append]
def zV(a:yn):a.length=a.cps.toList.length:=(YI ..).symm
def zVx{x:yn}(hy:y.cps.toList=c::y'){k:Nat}(h:StrLaws.At x y x.length k):x.cps.toList[k]?=some c:=by
 have h2:=h.2;rw[StrLaws.subAt_eq,hy,zV y,hy]at h2;have h3:=eq_of_beq h2;have h4:=congrArg (λl=>l[0]?) h3;simpa using h4
def zCA{x:yn}{r:List Nat}(hk:k<=x.length)(h:x.cps.toList.drop k=y.cps.toList++r):StrLaws.At x y x.length k:=by
 refine⟨?_,?_⟩
 ·have:=congrArg Xq h;rw[length_drop,length_append,<-zV,<-zV]at this;omega
 ·rw[StrLaws.subAt_eq,h,zV y,List.take_left];exact beq_self_eq_true _
def zKt{x:yn}{p r:List Nat}(hy:y.cps.toList=c::y'){a d:Nat}(hd:x.cps.toList.drop a=p++r)(hp:c∉p)(h:StrLaws.At x y x.length d)(h1:a<=d):a+p.length<=d:=by
 refine Xw λh2=>hp ?_;have e:=zVx hy h
 have e2:(x.cps.toList.drop a)[d-a]?=some c:=by
  rw[List.getElem?_drop,show a+(d-a)=d by omega];exact e
 rw[hd,yv (by omega)]at e2;exact mem_of_getElem? e2
def zFh(y p q:yn)(r:List yn):(xC y (p::q::r)).cps.toList=p.cps.toList++(y.cps.toList++(xC y (q::r)).cps.toList):=by
 show(p++y++xC y (q::r)).cps.toList=_;rw[zPe,zPe,append_assoc]
def z6o(x y:yn){c:Nat}{y':List Nat}(hy:y.cps.toList=c::y'):∀(parts:List yn)(a f:Nat)(cuts:List Nat),parts≠[]->(∀p∈parts,c∉p.cps.toList)->a<=x.length ->
 x.cps.toList.drop a=(xC y parts).cps.toList->StrLaws.ChainG x y x.length a cuts f->(∀k,f<=k->¬StrLaws.At x y x.length k)->Xo x y.length a cuts=parts
 |[],_,_,_,h,_,_,_,_,_=>absurd rfl h
 |[p],a,f,cuts,_,hc,ha,hd,hG,hn=>by
  have hd:x.cps.toList.drop a=p.cps.toList:=hd
  have hpl:x.length=a+p.length:=by
   have:=congrArg Xq hd;rw[length_drop,<-zV,<-zV]at this;omega
  cases cuts with
  |nil=>
   show[strSub x a x.length]=[p]
   congr 1
   apply zJn;rw[StrLaws.strSub_toList,hd,Xd];rw[<-zV];omega
  |cons d r=>
   have h1:=zKt hy (r:=[]) (by rw[hd,append_nil]) (hc p (by simp)) hG.2.1 hG.1;have h2:=hG.2.1.1;have h3:1<=y.length:=by rw[zV,hy];simp
   rw[<-zV]at h1;omega
 |p::q::r,a,f,cuts,_,hc,ha,hd,hG,hn=>by
  rw[zFh]at hd
  have e1:x.cps.toList.drop (a+p.length)=y.cps.toList++(xC y (q::r)).cps.toList:=by
   rw[zV p,<-List.drop_drop,hd,List.drop_left]
  have hal:a+p.length<=x.length:=by
   have:=congrArg Xq hd;rw[length_drop,length_append,<-zV,<-zV]at this;omega
  have hA:=zCA hal e1;have hl:=hA.1
  cases cuts with
  |nil=>
   have e:f=a:=hG;exact absurd hA (hn _ (by omega))
  |cons d r'=>
   obtain⟨g1,g2,g3,g4⟩:=hG;have h1:=zKt hy hd (hc p (by simp)) g2 g1;rw[<-zV]at h1
   have h2:d=a+p.length:=by
    refine Nat.le_antisymm (Xw λh=>g3 (a+p.length) (by omega) h hA) h1
   subst h2;show strSub x a (a+p.length)::Xo x y.length (a+p.length+y.length) r'=_
   congr 1
   ·apply zJn;rw[StrLaws.strSub_toList,Nat.add_sub_cancel_left,hd,zV p,List.take_left]
   ·refine z6o x y hy (q::r) _ f r' (by simp) (λz hz=>hc z (mem_cons_of_mem _ hz)) hl ?_ g4 hn;rw[zV y,<-List.drop_drop,e1,List.drop_left]
def zDy(h:y.cps.all (· < 256)=true):xJ y=1:=by
 unfold xJ;rw[if_pos h]
def ziy(x:yn):1<=xJ x:=by
 unfold xJ
 split
 ·exact yk _
 ·split<;>omega
def zCc(hy:y.cps.toList=c::y')(hk:y.cps.all (· < 256)=true){parts:List yn}(h0:parts≠[])(hc:∀p∈parts,c∉p.cps.toList):xh (YH y parts) y=parts:=by
 show xh (glued y parts) y=parts;rw[StrLaws.glued_eq_join];have hyl:1<=y.length:=by rw[zV,hy];simp
 obtain⟨f,hG,hn⟩:=StrLaws.occ_tight (xC y parts) y hyl;have key:=z6o (xC y parts) y hy parts 0 f _ h0 hc (Yy _) rfl hG hn
 have one:Xo (xC y parts) y.length 0 []=[xC y parts]:=by
  show[strSub _ 0 _]=_;rw[StrLaws.sub_whole]
 unfold xh
 split
 ·rename_i h
  rw[Bool.or_eq_true,decide_eq_true_eq,decide_eq_true_eq]at h
  have h1:(xC y parts).length<y.length:=by
   rcases h with h|h
   ·exact h
   ·have:=ziy (xC y parts);rw[zDy hk]at h;omega
  match parts,h0 with
  |[p],_=>rfl
  |p::q::r,_=>
   have:=zV (xC y (p::q::r));rw[zFh,length_append,length_append,<-zV,<-zV]at this;omega
 ·split
  ·rename_i h
   rw[List.isEmpty_iff]at h;rw[h,one]at key;exact key
  ·rw[StrLaws.partsBetween_eq];exact key
end
def dg(n:Nat):List Nat:=(Nat.toDigits 10 n).map Char.toNat
def z7u(h:n<10):dg n=[48+n]:=by
 unfold dg;rw[Nat.toDigits_of_lt_base h];have:∀d:Nat,d<10->(Nat.digitChar d).toNat=48+d:=by decide
 show[(Nat.digitChar n).toNat]=_;rw[this n h]
def zGy(h:10<=n):dg n=dg (n / 10)++[48+n%10]:=by
 have hm:n%10<10:=Nat.mod_lt n (by decide);have t:Nat.toDigits 10 (n / 10)++Nat.toDigits 10 (n%10)=Nat.toDigits 10 (10*(n / 10)+n%10):=Nat.toDigits_append_toDigits (by decide) (by omega) hm;rw[Nat.div_add_mod]at t;rw[<-z7u hm];unfold dg;rw[<-t,map_append]
def z7j :∀(n c:Nat),c∈dg n->48<=c/\c<=57:=λn=>by
 induction n using Nat.strongRecOn with
 |_ n ih=>
  intro c hc
  by_cases h:n<10
  ·rw[z7u h]at hc;have:=List.mem_singleton.mp hc;omega
  ·rw[zGy (by omega)]at hc;rcases List.mem_append.mp hc with hc|hc
   ·exact ih (n / 10) (by omega) c hc
   ·have:=List.mem_singleton.mp hc;omega
def z5u(n:Nat):dg n≠[]:=by
 by_cases h:n<10
 ·rw[z7u h];simp
 ·rw[zGy (by omega)];simp
def zAw :∀n:Nat,0<n->(dg n)[0]?≠some 48:=λn=>by
 induction n using Nat.strongRecOn with
 |_ n ih=>
  intro h0
  by_cases h:n<10
  ·rw[z7u h];simp;omega
  ·rw[zGy (by omega),yv (List.length_pos_iff.mpr (z5u _))];exact ih (n / 10) (by omega) (by omega)
def z7w:∀(k n:Nat),n<10^(k+1)->(dg n).length<=k+1
 |0,n,h=>by rw[z7u (by simpa using h)];simp
 |k+1,n,h=>by
  by_cases h1:n<10
  ·rw[z7u h1];simp
  ·rw[zGy (by omega),length_append];have:=z7w k (n / 10) (by rw[Nat.pow_succ]at h;omega);simp;omega
abbrev num(n:Nat):yn:=Yz (toString (n:Int))
def z5d(n:Nat):(num n).cps.toList=dg n:=W.KIN.signs_num n
def zuq(h:n<100000):1<=(num n).length/\(num n).length<=5:=by
 rw[zV,z5d];exact⟨List.length_pos_iff.mpr (z5u n),z7w 4 n h⟩
def zat(h:n<100000):(n:Int).natAbs.log2<1920:=by
 show n.log2<1920
 by_cases h0:n=0
 ·subst h0;decide
 ·exact Xc ((Nat.log2_lt h0).mpr (show n<2^17 by omega)) (by decide)
def zkw(n:Nat):(num n).cps.all (· < 128)=true:=by
 rw[<-Array.all_toList,all_eq_true];intro c hc;rw[z5d]at hc;have:=z7j n c hc;exact decide_eq_true (by omega)
def num_reads(h:n<100000):intText? (num n)=some (n:Int):=W.KIN.num_reads (n:=(n:Int)) (by omega) (by omega)
def ztA(h:48<=c/\c<=57):(YL "0123456789" ⟨#[c]⟩ 0 ("0123456789":yn).length 1).isEmpty=false:=by
 have e:=StrLaws.found_one "0123456789" c;have h2:∀d:Nat,d<10->48+d∈("0123456789":yn).cps.toList:=by decide +kernel
 rw[decide_eq_true (by have:=h2 (c-48) (by omega);rwa [show 48+(c-48)=c by omega]at this)]at e;simpa using e
def fit{B:Nat}{ys:List yn}(h:∀y∈ys,y.length<=B)(hB:B<=1000)(hl:ys.length<=100)(hz:z.length<=10):(ys.map (·.length)).sum+ys.length*z.length<=1000000:=by
 have h1:=StrLaws.sumLen_le ys h;have h2:=Xr hl hB;have h3:=Xr hl hz;omega
def z3f(z:yn)(ys:List yn):YH z ys=xC z ys:=StrLaws.glued_eq_join z ys
def zbf{B:Nat}{ys:List yn}(h:∀y∈ys,y.length<=B)(hB:B<=1000)(hl:ys.length<=100)(hz:z.length<=10):(YH z ys).length<=ys.length*B+ys.length*z.length:=by
 have h1:=StrLaws.sumLen_le ys h;have h2:=StrLaws.join_length_le z ys;rw[z3f];omega
def zCi{z:yn}{c:Nat}:∀{ys:List yn},c∈(xC z ys).cps.toList->c∈z.cps.toList\/∃y∈ys,c∈y.cps.toList
 |[],h=>by simp[xC,Str.empty]at h
 |[y],h =>.inr ⟨y,by simp,h⟩
 |y::y2::r,h=>by
  rw[zFh,mem_append,mem_append]at h;rcases h with h|h|h
  ·exact .inr ⟨y,by simp,h⟩
  ·exact .inl h
  ·rcases zCi h with h|⟨p,hp,h⟩
   ·exact .inl h
   ·exact .inr ⟨p,mem_cons_of_mem _ hp,h⟩
def zMn(h:c<48\/57<c){ns:List Nat}:∀p∈ns.map num,c∉p.cps.toList:=λp hp hc=>by
 obtain⟨n,_,rfl⟩:=List.mem_map.mp hp;rw[z5d]at hc;have:=z7j n c hc;omega
def zBk(hn:∀n∈ns,n<100000):∀y∈ns.map num,y.length<=5:=λy hy=>by
 obtain⟨n,h,rfl⟩:=List.mem_map.mp hy;exact(zuq (hn n h)).2
abbrev zwb(ns:List Nat):yn:=YH "," (ns.map num)
def zwg(hl:ns.length<=10)(hn:∀n∈ns,n<100000):(zwb ns).length<=60:=by
 have:=zbf (z:=",") (zBk hn) (by decide) (by rw[length_map];omega) (by decide);rw[length_map]at this;have h1:(",":yn).length=1:=rfl;rw[h1]at this;exact yF this (by omega)
def zQn(h:c∈(zwb ns).cps.toList):c=44\/(48<=c/\c<=57):=by
 rw[zwb,z3f]at h;rcases zCi h with h|⟨y,hy,h⟩
 ·have e:(",":yn).cps.toList=[44]:=by decide +kernel
  rw[e]at h;exact .inl (List.mem_singleton.mp h)
 ·obtain⟨n,_,rfl⟩:=List.mem_map.mp hy;rw[z5d]at h;exact .inr (z7j n c h)
def zXi(hl:ns.length<=100)(hn:∀n∈ns,n<100000)(q:∀O',tw O O'->Q (.str (zwb ns)) O'):WF z8b [tn ns] O Q:=by
 refine zmb rfl ?_;show WS zve [some (tn ns)] O _ _ _ _;unfold zve;refine zFb (zub (w_c ⟨_,rfl,zj (zfi (z1c (zl rfl (.inl ⟨_,rfl,zjb (by rw[length_map];omega),?_⟩))))⟩));refine zXb (λ(n:Nat)=>D.int n) ns (λn =>.str (num n)) (λ_ _=>rfl) (λn hn' O' kp=>?_) (λO' kp=>?_)
 ·refine zOe ?_;unfold zth;exact zt (zj (zl rfl (zr (zBr (zat (hn n hn')) ⟨rfl,kp,kp⟩))))
 ·exact zr (zHh (ys:=ns.map num) (by rw[zw,map_map];rfl) (fit (zBk hn) (by decide) (by rw[length_map];exact hl) (by decide)) (q _ kp.to))
def ziv(h:n<100000)(q:∀O',tw O O'->Q (.int n) O'):WF zmc [.str (num n)] O Q:=by
 obtain⟨h1,h2⟩:=zuq h;refine zmb rfl ?_;show WS z3c [some (.str (num n))] O _ _ _ _;unfold z3c;refine zB (zIi (z1j (zS (zz (zt (zj (zl rfl (zr (z3n (by omega) (w_c (zxt ⟨_,rfl,λ_=>?_,λhb=>?_⟩)))))))))))
 rotate_left
 ·have:=eq_of_beq hb;omega
 refine z1j (zS (zz (zt (zj (zl rfl (zr (z3n (by omega) (w_c (zEj ⟨_,rfl,λ_=>?_,λhb=>?_⟩)))))))))
 rotate_left
 ·have:=of_decide_eq_true hb;omega
 refine zS (zt (zj (zfi (zgA (zl rfl ⟨_,rfl,zkw n,zjb (by unfold zBm;rw[length_map,<-zV];omega),?_⟩)))));refine zXb (λ(c:Nat)=>D.str ⟨#[c]⟩) (num n).cps.toList (λ_ =>.bl false) (λ_ _=>rfl) (λc hc O' kp=>?_) (λO' kp=>?_)
 ·refine zOe ?_;unfold zrf;rw[z5d]at hc;exact zz (zl rfl (w_c (zxp ⟨by rw[ztA (z7j n c hc)],kp,kp⟩)))
 refine zr (z4D (bs:=(num n).cps.toList.map λ_=>false) (by rw[zw,map_map];rfl) ⟨_,rfl,λhb=>?_,λ_=>zDb ?_⟩)
 ·rw[any_map]at hb;simp at hb
 have k1:tw O (O'++[tD.lst ((num n).cps.toList.map λ_=>D.bl false)]):=kp.to;generalize O'++[tD.lst ((num n).cps.toList.map λ_=>D.bl false)]=O1 at k1
 have fin:WS (zbc (zx zFq (zk (zq 0) zA))) [some (.str (num n))] O1 (λ_ O'=>Q .non O') Q (λ_ _=>False) (λ_ _=>False) :=
  zFb (zt (zj (zl rfl (zr (zHt (num_reads h) (by omega) (q _ k1))))))
 obtain⟨c0,r0,hd⟩:∃c r,dg n=c::r:=by
  cases e:dg n with
  |nil=>exact absurd e (z5u n)
  |cons c r=>exact⟨c,r,rfl⟩
 have hat:atI (num n).cps.toList ((0:Nat):Int)=some c0:=zuc (by rw[z5d,hd];rfl);have hlow:48<=c0/\c0<=57:=z7j n c0 (by rw[hd];simp);refine zB (zIi (zop (zS (zz (zz (zl rfl (w_c (zkr (by omega) hat (w_c (z8f ⟨_,rfl,λhb=>?_,λ_=>⟨λhb=>(by cases hb),λ_=>zDb fin⟩⟩ (by show(#[c0]:Array Nat).all _=true;simp;omega) (by decide +kernel)))))))))));have e0:(⟨#[c0]⟩:yn)="0":=eq_of_beq (show((⟨#[c0]⟩:yn)==("0":yn))=true from hb);have e1:("0":yn).cps.toList=[48]:=by decide +kernel
 have e2:c0=48:=by
  have:=congrArg (λs:yn=>s.cps.toList) e0;dsimp only at this;rw[e1]at this;simpa using this
 have hn0:n=0:=by
  refine Nat.eq_zero_of_not_pos λhp=>zAw n hp ?_;rw[hd,e2];rfl
 have hl1:(num n).length=1:=by rw[zV,z5d,hn0];rfl
 exact zS (zz (zt (zj (zl rfl (zr (z3n (by omega) (w_c (zEj ⟨_,rfl,λhb=>by have:=of_decide_eq_true hb;omega,λ_=>zDb fin⟩))))))))
def zsd(hy:y.cps.toList=c::y'):1<=y.length:=by rw[zV,hy];simp
def comma:(",":yn).cps.toList=[44]:=by decide +kernel
def z3i(h0:ns≠[])(hl:ns.length<=10)(hn:∀n∈ns,n<100000)(q:∀O',tw O O'->Q (tn ns) O'):WF z9b [.str (zwb ns)] O Q:=by
 have hlen:=zwg hl hn
 have hs:(xh (zwb ns) ",").map D.str=ns.map λn=>D.str (num n):=by
  rw[zCc comma (by decide +kernel) (by simpa using h0) (zMn (by omega)),map_map];rfl
 refine zmb rfl ?_;show WS zxe [some (.str (zwb ns))] O _ _ _ _;unfold zxe;refine zFb (zt (zj (zfi (z1c (zub (zl rfl ⟨_,rfl,zj (w_c (zr (zMd hs (by omega) (zsd comma) (.inr (.inr ⟨_,_,rfl,zw,zjb (by rw[length_map];omega),?_⟩)))))⟩))))));refine zXb (λn=>D.str (num n)) ns (λn =>.int n) (λO' k=>z9 zw k) (λn hn' O' kp=>?_) (λO' kp=>?_)
 ·refine zOe ?_;unfold zrh;exact zt (zj (zl rfl (zr (ziv (hn n hn') λO'' k=>⟨rfl,kp.trans k,kp⟩))))
 ·exact zr (zXd (zy zw) (q _ (tw.app.trans kp.to)))
def zAl(q:Q .non O):WF zvd [.str z] O Q:=by
 refine zmb rfl ?_;show WS zPf [some (.str z)] O _ _ _ _;unfold zPf;exact zIi (zhk (zS (zt (zj (zl rfl (zj (w_c (zr (zWz ⟨_,rfl,λh=>(by cases h),λ_=>zDb q⟩)))))))))
def z0j{a b:Int}(ha:a<=ds.length)(hb:(ds.length:Int)<=b)(q:Q (.bl true) O):WF zVb [.tup ds,.int a,.int b] O Q :=
 ⟨_,_,by simp[zVb,z3k,zUk,ha,hb]<;>rfl,q⟩
def zgy{m:Int}(h:(n:Int)<=m)(q:Q (.bl true) O):WF zvf [.int n,.int m] O Q :=
 ⟨_,_,by simp[zvf,z8i,zYi,h]<;>rfl,q⟩
def z4p(l:List α):(l.map λ_=>true).all (λb=>b)=true:=by simp
def zaj{a b m:Int}(ha:a<=ns.length)(hb:(ns.length:Int)<=b)(hl:ns.length<=1000)(hn:∀n∈ns,(n:Int)<=m)(q:∀O',tw O O'->Q (.bl true) O'):WF zhb [tn ns,.int a,.int b,.int m] O Q:=by
 refine zmb rfl ?_;show WS z0c [some (tn ns),some (.int a),some (.int b),some (.int m)] O _ _ _ _;unfold z0c;refine zFb (zEr (zt (zj (zl rfl (zj (zl rfl (zj (zl rfl (zr (z0j (by rw[length_map];exact ha) (by rw[length_map];exact hb) ⟨_,rfl,λ_=>?_,λh=>(by cases h)⟩))))))))));refine zt (zj (zfi (z1c (zl rfl (.inl ⟨_,rfl,zjb (by rw[length_map];omega),?_⟩)))));refine zXb (λ(h:Nat)=>D.int h) ns (λ_ =>.bl true) (λ_ _=>rfl) (λn hn' O' kp=>?_) (λO' kp=>?_)
 ·refine zOe ?_;unfold zsf;exact zt (zj (zl rfl (zj (zl rfl (zr (zgy (hn n hn') ⟨rfl,kp,kp⟩))))))
 ·exact zr (z8A (bs:=ns.map λ_=>true) (by rw[zw,map_map];rfl) (by rw[z4p];exact q _ kp.to))
def zdn(h:1<=ns.length/\ns.length<=10)(hn:∀n∈ns,n<=9)(q:∀O',tw O O'->Q (.bl true) O'):WF zne [tn ns] O Q:=by
 refine zmb rfl ?_;show WS z4g [some (tn ns)] O _ _ _ _;unfold z4g;exact zFb (zt (zj (zl rfl (zj (w_c (zj (w_c (zj (w_c (zr (zaj (by omega) (by omega) (by omega) (λn hn'=>by have:=hn n hn';omega) q)))))))))))
def zoq(h:n<10^60):1<=(num n).length/\(num n).length<=60:=by
 rw[zV,z5d];exact⟨List.length_pos_iff.mpr (z5u n),z7w 59 n h⟩
def zvu(h:n<10^60):(n:Int).natAbs.log2<1920:=by
 show n.log2<1920
 by_cases h0:n=0
 ·subst h0;decide
 ·exact Xc ((Nat.log2_lt h0).mpr (show n<2^200 from yE h (by decide))) (by decide)
def zRu(h:n<10^60):intText? (num n)=some (n:Int):=by
 obtain⟨_,hl⟩:=zoq h
 have hd:PySem.NumText.AllDigits (num n).cps.toList:=by
  intro c hc;rw[z5d]at hc;have:=z7j n c hc;exact⟨this.1,this.2⟩
 have hne:(num n).cps.toList≠[]:=by
  rw[z5d];exact z5u n
 have e:=PySem.intText_digits hd hne (yF hl (by decide));rw[W.KIN.signs_num,W.KIN.val_back]at e;exact e
def zpt(h:n<10^60)(q:∀O',tw O O'->Q (.int n) O'):WF zmc [.str (num n)] O Q:=by
 obtain⟨h1,h2⟩:=zoq h;refine zmb rfl ?_;show WS z3c [some (.str (num n))] O _ _ _ _;unfold z3c;refine zB (zIi (z1j (zS (zz (zt (zj (zl rfl (zr (z3n (by omega) (w_c (zxt ⟨_,rfl,λ_=>?_,λhb=>?_⟩)))))))))))
 rotate_left
 ·have:=eq_of_beq hb;omega
 refine z1j (zS (zz (zt (zj (zl rfl (zr (z3n (by omega) (w_c (zEj ⟨_,rfl,λ_=>?_,λhb=>?_⟩)))))))))
 rotate_left
 ·have:=of_decide_eq_true hb;omega
 refine zS (zt (zj (zfi (zgA (zl rfl ⟨_,rfl,zkw n,zjb (by unfold zBm;rw[length_map,<-zV];omega),?_⟩)))));refine zXb (λ(c:Nat)=>D.str ⟨#[c]⟩) (num n).cps.toList (λ_ =>.bl false) (λ_ _=>rfl) (λc hc O' kp=>?_) (λO' kp=>?_)
 ·refine zOe ?_;unfold zrf;rw[z5d]at hc;exact zz (zl rfl (w_c (zxp ⟨by rw[ztA (z7j n c hc)],kp,kp⟩)))
 refine zr (z4D (bs:=(num n).cps.toList.map λ_=>false) (by rw[zw,map_map];rfl) ⟨_,rfl,λhb=>?_,λ_=>zDb ?_⟩)
 ·rw[any_map]at hb;simp at hb
 have k1:tw O (O'++[tD.lst ((num n).cps.toList.map λ_=>D.bl false)]):=kp.to;generalize O'++[tD.lst ((num n).cps.toList.map λ_=>D.bl false)]=O1 at k1
 have fin:WS (zbc (zx zFq (zk (zq 0) zA))) [some (.str (num n))] O1 (λ_ O'=>Q .non O') Q (λ_ _=>False) (λ_ _=>False) :=
  zFb (zt (zj (zl rfl (zr (zHt (zRu h) (by omega) (q _ k1))))))
 obtain⟨c0,r0,hd⟩:∃c r,dg n=c::r:=by
  cases e:dg n with
  |nil=>exact absurd e (z5u n)
  |cons c r=>exact⟨c,r,rfl⟩
 have hat:atI (num n).cps.toList ((0:Nat):Int)=some c0:=zuc (by rw[z5d,hd];rfl);have hlow:48<=c0/\c0<=57:=z7j n c0 (by rw[hd];simp);refine zB (zIi (zop (zS (zz (zz (zl rfl (w_c (zkr (by omega) hat (w_c (z8f ⟨_,rfl,λhb=>?_,λ_=>⟨λhb=>(by cases hb),λ_=>zDb fin⟩⟩ (by show(#[c0]:Array Nat).all _=true;simp;omega) (by decide +kernel)))))))))));have e0:(⟨#[c0]⟩:yn)="0":=eq_of_beq (show((⟨#[c0]⟩:yn)==("0":yn))=true from hb);have e1:("0":yn).cps.toList=[48]:=by decide +kernel
 have e2:c0=48:=by
  have:=congrArg (λs:yn=>s.cps.toList) e0;dsimp only at this;rw[e1]at this;simpa using this
 have hn0:n=0:=by
  refine Nat.eq_zero_of_not_pos λhp=>zAw n hp ?_;rw[hd,e2];rfl
 have hl1:(num n).length=1:=by rw[zV,z5d,hn0];rfl
 exact zS (zz (zt (zj (zl rfl (zr (z3n (by omega) (w_c (zEj ⟨_,rfl,λhb=>by have:=of_decide_eq_true hb;omega,λ_=>zDb fin⟩))))))))
abbrev lt(h:Nat):yn:=⟨#[97+h]⟩
abbrev z5(k:List Nat):yn:=YH " " (k.map lt)
abbrev zut(R:List Nat)(K:List (List Nat)):yn:=YH "; " (zwb R::K.map z5)
def blank:(" ":yn).cps.toList=[32]:=by decide +kernel
def semi:("; ":yn).cps.toList=[59,32]:=by decide +kernel
def z6h{k:List Nat}:∀y∈k.map lt,y.length<=1:=λy hy=>by
 obtain⟨n,_,rfl⟩:=List.mem_map.mp hy;exact yk 1
def z9h{k:List Nat}(hl:k.length<=3):(z5 k).length<=6:=by
 have:=zbf (z:=" ") (z6h (k:=k)) (by decide) (by rw[length_map];omega) (by decide);rw[length_map]at this;have h1:(" ":yn).length=1:=rfl;rw[h1]at this;exact yF this (by omega)
def znw(h:Nat):(lt h).cps.toList=[97+h]:=rfl
def zzv{k:List Nat}(h:c∈(z5 k).cps.toList):c=32\/97<=c:=by
 rw[z5,z3f]at h;rcases zCi h with h|⟨y,hy,h⟩
 ·rw[blank]at h;exact .inl (List.mem_singleton.mp h)
 ·obtain⟨n,_,rfl⟩:=List.mem_map.mp hy;rw[znw]at h;have:=List.mem_singleton.mp h;exact .inr (by omega)
def z5p{k:List Nat}:∀p∈k.map lt,32∉p.cps.toList:=λp hp hc=>by
 obtain⟨n,_,rfl⟩:=List.mem_map.mp hp;rw[znw]at hc;have:=List.mem_singleton.mp hc;omega
def zEm :∀p∈zwb R::K.map z5,59∉p.cps.toList:=λp hp hc=>by
 rcases List.mem_cons.mp hp with rfl|hp
 ·have:=zQn hc;omega
 ·obtain⟨k,_,rfl⟩:=List.mem_map.mp hp;have:=zzv hc;omega
structure Wr(R:List Nat)(K:List (List Nat)):Prop where
 rl:1<=R.length/\R.length<=10
 rn:∀r∈R,r<=9
 kl:K.length<=30
 kn:∀k∈K,(2<=k.length/\k.length<=3)/\∀h∈k,h<R.length
def Wr.num(w:Wr R K):∀r∈R,r<100000:=λr h=>by have:=w.rn r h;omega
def Wr.short(w:Wr R K):∀y∈zwb R::K.map z5,y.length<=60:=λy hy=>by
 rcases List.mem_cons.mp hy with rfl|hy
 ·exact zwg w.rl.2 w.num
 ·obtain⟨k,hk,rfl⟩:=List.mem_map.mp hy;exact yF (z9h (w.kn k hk).1.2) (by decide)
def Wr.fit(w:Wr R K):((zwb R::K.map z5).map (·.length)).sum+(zwb R::K.map z5).length*("; ":yn).length<=1000000 :=
 P.fit w.short (by decide) (by have:=w.kl;rw[length_cons,length_map];omega) (by decide)
def Wr.len(w:Wr R K):(zut R K).length<=1000000:=by
 have h1:=w.kl;have h2:=zbf (z:="; ") w.short (by decide) (by rw[length_cons,length_map];omega) (by decide);rw[length_cons,length_map]at h2;have h3:("; ":yn).length=2:=rfl;rw[h3]at h2;exact yF h2 (by omega)
def ztx{s:yn}(h:∀c∈s.cps.toList,c<128):Yv s=true:=by
 show s.cps.all _=true;rw[<-Array.all_toList,all_eq_true];exact λc hc=>decide_eq_true (Xc (h c hc) (by decide))
def zHy{s:yn}(h:Yv s=true)(q:Q (.bl false) O):W2 gNe (.str s) (.str s) O Q:=zBE (zGh h) (zGh h) q
def zgu :∀r:Nat,r<10->atI ("abcdefghij":yn).cps.toList ((r:Nat):Int)=some (97+r):=by decide +kernel
def zZz :∀r:Nat,r<10->atI ("abcdefghijklmnopqrstuvwxyz":yn).cps.toList ((r:Nat):Int)=some (97+r):=by decide +kernel
def zYr{k:List Nat}(hl:k.length<=3)(hk:∀h∈k,h<10)(q:∀O',tw O O'->Q (.str (z5 k)) O'):WF zNc [tn k] O Q:=by
 refine zmb rfl ?_;show WS zBd [some (tn k)] O _ _ _ _;unfold zBd;refine zFb (zub (w_c ⟨_,rfl,zj (zfi (z1c (zl rfl (.inl ⟨_,rfl,zjb (by rw[length_map];omega),?_⟩))))⟩));refine zXb (λ(n:Nat)=>D.int n) k (λn =>.str (lt n)) (λ_ _=>rfl) (λn hn' O' kp=>?_) (λO' kp=>?_)
 ·refine zOe ?_;unfold z1f;exact zz (w_c (zl rfl (zkr (by decide) (zZz n (hk n hn')) ⟨rfl,kp,kp⟩)))
 ·exact zr (zHh (ys:=k.map lt) (by rw[zw,map_map];rfl) (fit z6h (by decide) (by rw[length_map];omega) (by decide)) (q _ kp.to))
def zIv(w:Wr R K)(q:∀O',tw O O'->Q (.str (zut R K)) O'):WF zgi [wn R K] O Q:=by
 have hrl:=w.rl;have hkl:=w.kl;refine zmb rfl ?_;show WS zdi [some (wn R K)] O _ _ _ _;unfold zdi;refine zFb (zub (w_c ⟨_,rfl,zj (zz (zqm (zj (zt (zj (zz (zl rfl (w_c (zfe (zr ?_))))))))))⟩));refine zXi (by omega) w.num λO1 k1=>zr ?_;refine zfi (z1c (zz (zl rfl (w_c (zuf (.inl ⟨_,rfl,zjb (by rw[length_map];omega),?_⟩))))));refine zXb tn K (λk =>.str (z5 k)) (λ_ _=>rfl) (λk hk O' kp=>?_) (λO' kp=>?_)
 ·obtain⟨hk3,hkn⟩:=w.kn k hk;refine zOe ?_;unfold zbl;exact zt (zj (zl rfl (zr (zYr hk3.2 (λh hh=>by have:=hkn h hh;omega) λO2 k2=>⟨rfl,kp.trans k2,kp⟩))))
 have g1:(O'++[tD.lst (K.map λk=>D.str (z5 k))])[O1.length]?=some (.lst [D.str (zwb R)]):=zzb (kp _ _ zw);refine z3z g1 zw (by simp;omega) (zr (zHh (ys:=zwb R::K.map z5) ?_ w.fit (q _ ?_)))
 ·rw[zw,map_cons,map_map];rfl
 ·exact(k1.trans (tw.app.trans kp.to)).to
def zZw(hh:h<10):(YL "abcdefghijklmnopqrstuvwxyz" (lt h) 0 ("abcdefghijklmnopqrstuvwxyz":yn).length 1).isEmpty=false:=by
 have e:=StrLaws.found_one "abcdefghijklmnopqrstuvwxyz" (97+h);have h2:∀d:Nat,d<10->97+d∈("abcdefghijklmnopqrstuvwxyz":yn).cps.toList:=by decide +kernel
 rw[decide_eq_true (h2 h hh)]at e;simpa using e
def zAs :∀h:Nat,h<10->Txt.find "abcdefghijklmnopqrstuvwxyz" (lt h)=(h:Int):=by
 unfold Txt.find;simp only[StrLaws.occ_eq];decide +kernel
def zet(hh:h<10)(q:Q (.int h) O):WF z7g [.str (lt h)] O Q:=by
 refine zmb rfl ?_;show WS zEg [some (.str (lt h))] O _ _ _ _;unfold zEg;refine zB (zIi (z1j (zS (zz (zt (zj (zl rfl (zr (z3n (by show 1<=1000000;decide) (w_c (zHD ⟨_,rfl,λ_=>?_,λhb=>?_⟩)))))))))))
 rotate_left
 ·exact absurd (show(!((1:Int)==1))=true from hb) (by decide)
 refine zS (zz (zl rfl (w_c (zxp ⟨_,rfl,λhb=>?_,λ_=>zDb ?_⟩))))
 ·rw[zZw hh]at hb;cases hb
 ·refine zFb (zub (w_c ⟨_,rfl,zj (zl rfl (zr (zED ?_)))⟩));rw[zAs h hh];exact q
def z8r{k:List Nat}(h0:2<=k.length/\k.length<=3)(hk:∀h∈k,h<10)(q:∀O',tw O O'->Q (tn k) O'):WF zCf [.str (z5 k)] O Q:=by
 have hlen:=z9h h0.2
 have hs:(xh (z5 k) " ").map D.str=k.map λn=>D.str (lt n):=by
  rw[zCc blank (by decide +kernel) (λe=>by rw[List.map_eq_nil_iff.mp e]at h0;simp at h0) z5p,map_map];rfl
 refine zmb rfl ?_;show WS zZf [some (.str (z5 k))] O _ _ _ _;unfold zZf;refine zFb (zt (zj (zfi (z1c (zub (zl rfl ⟨_,rfl,zj (w_c (zr (zMd hs (by omega) (zsd blank) (.inr (.inr ⟨_,_,rfl,zw,zjb (by rw[length_map];omega),?_⟩)))))⟩))))));refine zXb (λn=>D.str (lt n)) k (λn =>.int n) (λO' k=>z9 zw k) (λn hn' O' kp=>?_) (λO' kp=>?_)
 ·refine zOe ?_;unfold zPi;exact zt (zj (zl rfl (zr (zet (hk n hn') ⟨rfl,kp,kp⟩))))
 ·exact zr (zXd (zy zw) (q _ (tw.app.trans kp.to)))
def zMv(w:Wr R K)(q:∀O',tw O O'->Q (.bl true) O'):WF zai [.tup (K.map tn),.int (R.length:Nat)] O Q:=by
 have hrl:=w.rl;have hkl:=w.kl;refine zmb rfl ?_;show WS zyi [some (.tup (K.map tn)),some (.int (R.length:Nat))] O _ _ _ _;unfold zyi;refine zFb (zEr (zt (zj (zl rfl (zj (w_c (zj (w_c (zr (z0j (by omega) (by rw[length_map];omega) ⟨_,rfl,λ_=>?_,λh=>(by cases h)⟩))))))))));refine zt (zj (zfi (z1c (zl rfl (.inl ⟨_,rfl,zjb (by rw[length_map];omega),?_⟩)))));refine zXb tn K (λ_ =>.bl true) (λ_ _=>rfl) (λk hk O' kp=>?_) (λO' kp=>?_)
 ·obtain⟨hk3,hkn⟩:=w.kn k hk;refine zOe ?_;unfold zwl;exact zt (zj (zl rfl (zj (w_c (zj (w_c (zj (zz (zl rfl (w_c (z5x (zr (zaj (by omega) (by omega) (by omega) (λn hn=>by have:=hkn n hn;omega) λO2 k2=>⟨rfl,kp.trans k2,kp⟩)))))))))))))
 ·exact zr (z8A (bs:=K.map λ_=>true) (by rw[zw,map_map];rfl) (by rw[z4p];exact q _ kp.to))
def zCy(w:Wr R K)(q:∀O',tw O O'->Q (.bl true) O'):WF zdm [wn R K] O Q:=by
 refine zmb rfl ?_;show WS z9l [some (wn R K)] O _ _ _ _;unfold z9l;refine zFb (zEr (zt (zj (zl rfl (zj (w_c (zj (w_c (zr (z0j (by simp) (by simp) ⟨_,rfl,λ_=>?_,λh=>(by cases h)⟩))))))))));refine zEr (zt (zj (zz (zl rfl (w_c (zfe (zr (zdn w.rl w.rn λO1 k1=>⟨_,rfl,λ_=>?_,λh=>(by cases h)⟩))))))));refine zt (zj (zz (zl rfl (w_c (zuf (zj (zt (zj (zz (zl rfl (w_c (zfe (zr (zvh rfl (zr ?_)))))))))))))));rw[length_map];exact zMv w λO2 k2=>q _ (k1.trans k2)
def zCo(w:Wr R K)(q:∀O',tw O O'->Q (wn R K) O'):WF zkg [.str (zut R K)] O Q:=by
 have hrl:=w.rl;have hkl:=w.kl
 have hs:(xh (zut R K) "; ").map D.str=D.str (zwb R)::K.map λk=>D.str (z5 k):=by
  rw[zCc semi (by decide +kernel) (by simp) zEm,map_cons,map_map];rfl
 refine zmb rfl ?_;show WS zui [some (.str (zut R K)),none,none] O _ _ _ _;unfold zui;refine zB (zjl (zt (zj (zl rfl (zr (zAl ?_))))));refine zB (zMb (zub (zl rfl ⟨_,rfl,zj (w_c (zr (zMd hs w.len (zsd semi) ?_)))⟩)));have k0:tw O (O++[tD.lst (D.str (zwb R)::K.map λk=>D.str (z5 k))]) :=.app;have g0:(O++[tD.lst (D.str (zwb R)::K.map λk=>D.str (z5 k))])[O.length]?=some (.lst (D.str (zwb R)::K.map λk=>D.str (z5 k))):=zw;generalize O++[tD.lst (D.str (zwb R)::K.map λk=>D.str (z5 k))]=O1 at k0 g0;refine zB (zMb (zYh (zj (zt (zj (zz (zl rfl (w_c (z6c (zy g0) (show atI _ ((0:Nat):Int)=_ from zuc rfl) (zr ?_))))))))));refine z3i (λe=>by rw[e]at hrl;simp at hrl) hrl.2 w.num λO2 k2=>zj (zt (zj (zfi (z1c (zNx (zl rfl (zyo (w_c ⟨_,rfl,zfv ⟨_,_,rfl,k2 _ _ g0,.inr (.inr ⟨_,_,rfl,zw,?_⟩)⟩⟩))))))));rw[show M.cutD (D.str (zwb R)::K.map λk=>D.str (z5 k)) (some 1) none=K.map λk=>D.str (z5 k) from zRp (i:=1)];refine⟨zjb (by rw[length_map];omega),?_⟩;refine zXb (λk=>D.str (z5 k)) K tn (λO' k=>z9 zw k) (λk hk O' kp=>?_) (λO' kp=>?_)
 ·obtain⟨hk3,hkn⟩:=w.kn k hk;refine zOe ?_;unfold zll;exact zt (zj (zl rfl (zr (z8r hk3 (λh hh=>by have:=hkn h hh;omega) λO2 k2=>⟨rfl,kp.trans k2,kp⟩))))
 refine zr (zXd (zy zw) (zr ?_));have k3:tw O (O'++[tD.lst (K.map tn)]):=k0.trans (k2.trans (tw.app.trans kp.to));generalize O'++[tD.lst (K.map tn)]=O3 at k3;refine zB (zIi (zhk (zS (zt (zj (zl rfl (zr (zCy w λO4 k4=>⟨_,rfl,λh=>(by cases h),λ_=>zDb ?_⟩))))))));exact zFb (zl rfl (q _ (k3.trans k4)))
def Wr.of{R:List Int}{K:List (List Int)}(w:WebA 20 R K)(h:∀r∈R,r<=9):wb R K=wn (R.map xX) (K.map (·.map xX))/\Wr (R.map xX) (K.map (·.map xX)):=by
 obtain⟨e,v⟩:=Wb.of w;refine⟨e,v.rl,λr hr=>?_,yF v.kl (by decide),v.kn⟩;obtain⟨i,hi,rfl⟩:=List.mem_map.mp hr;have:=h i hi;omega
structure Rl(R:List Nat)(W:List (List Nat)):Prop where
 rl:1<=R.length/\R.length<=10
 rn:∀r∈R,r<=9
 wl:2<=W.length/\W.length<=3
 wn:∀k∈W,k.length=2/\∀n∈k,n<=10006
def zqw{p:Nat->Prop}:∀ds:List D,(∀d∈ds,∃i:Nat,d=.int i/\p i)->∃ns:List Nat,ds=nat ns/\∀r∈ns,p r:=λds=>by
 induction ds with
 |nil=>exact λ_=>⟨[],rfl,by simp⟩
 |cons d ds ih=>
  intro h;obtain⟨ns,rfl,q⟩:=ih λx hx=>h x (mem_cons_of_mem _ hx);obtain⟨i,rfl,hi⟩:=h d mem_cons_self;exact⟨i::ns,rfl,by simp;exact⟨hi,q⟩⟩
def z9D{p:List Nat->Prop}:∀ds:List D,(∀d∈ds,∃i:List Nat,d=tn i/\p i)->∃ns:List (List Nat),ds=ns.map tn/\∀r∈ns,p r:=λds=>by
 induction ds with
 |nil=>exact λ_=>⟨[],rfl,by simp⟩
 |cons d ds ih=>
  intro h;obtain⟨ns,rfl,q⟩:=ih λx hx=>h x (mem_cons_of_mem _ hx);obtain⟨i,rfl,hi⟩:=h d mem_cons_self;exact⟨i::ns,rfl,by simp;exact⟨hi,q⟩⟩
def zeh{s:Nat}(h:Pen O l B)(hB:B<=1000000000)(h0:0<s)(h1:s<1000000)
 (q:∀(v:Nat) O',v<s->KB [l] O O'->Pen O' l (B+1)->Q (.int v) O'):WF zD [.loc l,.int (s:Nat)] O Q :=
 zke h hB (by omega) (by omega) λv O' a b k _ p=>by
  have:=q v.toNat O' (by omega) k p
  rwa [Int.toNat_of_nonneg a]at this
def zbB(h:Pen O l B)(hB:B<=200000)
 (q:∀(R:List Nat)(W:List (List Nat)) O',Rl R W->KB [l] O O'->Pen O' l (B+100)->Q (wn R W) O'):WF zih [.loc l] O Q:=by
 refine zmb rfl ?_;show WS zDg [some (.loc l),none,none,none,none] O _ _ _ _;unfold zDg;refine zB (zMb (zz (w_c (zt (zj (zl rfl (zj (w_c (zr (zeh (s:=10) h (by omega) (by omega) (by omega) λv O1 hv k1 p1=>zho ?_))))))))));refine zB (zMb (zt (zj (zfi (zJh (zj (zl rfl (zr ⟨_,rfl,by omega,by omega,zjb (by simp;omega),?_⟩))))))));refine zFm (λi ys O'=>KB [l] O1 O'/\Pen O' l (B+1+i)/\ys.length=i/\∀d∈ys,∃j:Nat,d=.int j/\j<=9) ⟨.refl,by simpa using p1,rfl,by simp⟩ (λ_ _ _ _=>rfl) ?_ ?_
 ·rintro i x ys O' hx ⟨k,p,hl,hy⟩;obtain⟨hi,rfl⟩:=zCg hx;refine zOe (zcz ⟨λ_=>?_,λhf=>by cases hf⟩);unfold zhj;refine zt (zj (zl rfl (zj (w_c (zr (zeh (s:=10) p (by omega) (by omega) (by omega) λv2 O2 hv2 k2 p2=>⟨k.trans k2,p2.mono (by omega),by simp[hl],λd hd=>?_⟩))))));rcases List.mem_append.mp hd with hd|hd
  ·exact hy d hd
  ·exact⟨v2,by simpa using hd,by omega⟩
 rintro ys O2 ⟨k2,p2,hl2,hy⟩;obtain⟨R,rfl,hr⟩:=zqw ys hy;simp only[length_map,length_range]at hl2 p2;refine zr (zXd (zy zw) ?_);have k3:KB [l] O (O2++[tD.lst (nat R)]):=(k1.trans k2).app;have p3:Pen (O2++[tD.lst (nat R)]) l (B+12):=p2.app.mono (by omega);generalize O2++[tD.lst (nat R)]=O3 at k3 p3;refine zB (zMb (zz (zqm (zj (w_c (zj (w_c (zr (zt (zj (zl rfl (zj (w_c (zr (zeh (s:=2) p3.app (by omega) (by omega) (by omega) λv4 O4 hv4 k4 p4=>?_)))))))))))))));have g4:O4[O3.length]?=some (.lst [.int 10007,.int 30]):=k4.at_ _ _ (by have:=p3.lt;simp;omega) zw
 obtain⟨sz,hsz,hat⟩:∃sz:Nat,(0<sz/\sz<=10007)/\atI [D.int 10007,D.int 30] (v4:Nat)=some (.int (sz:Nat)):=by
  have:v4=0\/v4=1:=by omega
  rcases this with rfl|rfl
  ·exact⟨10007,by omega,rfl⟩
  ·exact⟨30,by omega,rfl⟩
 refine z6c (zy g4) hat ?_;have k5:KB [l] O O4:=k3.app.trans k4;refine zB (zMb (zt (zj (zfi (zJh (zj (zz (w_c (zt (zj (zl rfl (zj (w_c (zr (zeh (s:=2) p4 (by omega) (by omega) (by omega) λv6 O6 hv6 k6 p6=>zho (zr ⟨_,rfl,by omega,by omega,zjb (by simp;omega),?_⟩))))))))))))))));refine zFm (λi ys O'=>KB [l] O6 O'/\Pen O' l (B+14+2*i)/\ys.length=i/\∀d∈ys,∃j:List Nat,d=tn j/\(j.length=2/\∀n∈j,n<=10006)) ⟨.refl,by simpa using p6.mono (by omega),rfl,by simp⟩ (λ_ _ _ _=>rfl) ?_ ?_
 ·rintro i x ys O' hx ⟨k,p,hl,hy⟩;obtain⟨hi,rfl⟩:=zCg hx;refine zOe (zcz ⟨λ_=>?_,λhf=>by cases hf⟩);unfold zXj;refine zYh (zj (zt (zj (zl rfl (zj (zl rfl (zr (zeh p (by omega) hsz.1 (by omega) λa O7 ha k7 p7=>?_))))))));refine zj (zt (zj (zl rfl (zj (zl rfl (zr (zeh p7 (by omega) hsz.1 (by omega) λb O8 hb k8 p8=>zr ⟨k.trans (k7.trans k8),p8.mono (by omega),by simp[hl],λd hd=>?_⟩)))))));rcases List.mem_append.mp hd with hd|hd
  ·exact hy d hd
  ·exact⟨[a,b],List.mem_singleton.mp hd,rfl,λn hn=>by simp at hn;omega⟩
 rintro ys O7 ⟨k7,p7,hl7,hy7⟩;obtain⟨W,rfl,hw⟩:=z9D ys hy7;simp only[length_map,length_range]at hl7 p7;refine zr (zXd (zy zw) ?_);refine zFb (zYh (zj (zl rfl (zj (zl rfl (zr ?_))))));exact q R W _ ⟨by omega,hr,by omega,hw⟩ (k5.trans (k6.trans k7)).app (p7.app.mono (by omega))
abbrev zxs(R:List Nat)(W:List (List Nat)):yn:=YH " " (zwb R::W.map zwb)
def Rl.num{W:List (List Nat)}(w:Rl R W):∀r∈R,r<100000:=λr h=>by have:=w.rn r h;omega
def Rl.way{W:List (List Nat)}(w:Rl R W){k:List Nat}(hk:k∈W):∀r∈k,r<100000:=λr h=>by have:=(w.wn k hk).2 r h;omega
def Rl.short{W:List (List Nat)}(w:Rl R W):∀y∈zwb R::W.map zwb,y.length<=60:=λy hy=>by
 rcases List.mem_cons.mp hy with rfl|hy
 ·exact zwg w.rl.2 w.num
 ·obtain⟨k,hk,rfl⟩:=List.mem_map.mp hy;exact zwg (by rw[(w.wn k hk).1];decide) (w.way hk)
def Rl.fit{W:List (List Nat)}(w:Rl R W):((zwb R::W.map zwb).map (·.length)).sum+(zwb R::W.map zwb).length*(" ":yn).length<=1000000 :=
 P.fit w.short (by decide) (by have:=w.wl;rw[length_cons,length_map];omega) (by decide)
def Rl.len{W:List (List Nat)}(w:Rl R W):(zxs R W).length<=1000000:=by
 have h1:=w.wl;have h2:=zbf (z:=" ") w.short (by decide) (by rw[length_cons,length_map];omega) (by decide);rw[length_cons,length_map]at h2;have h3:(" ":yn).length=1:=rfl;rw[h3]at h2;exact yF h2 (by omega)
def zEv{W:List (List Nat)}{p:yn}(hp:p∈zwb R::W.map zwb){c:Nat}(hc:c∈p.cps.toList):c=44\/(48<=c/\c<=57):=by
 rcases List.mem_cons.mp hp with rfl|hp
 ·exact zQn hc
 ·obtain⟨k,_,rfl⟩:=List.mem_map.mp hp;exact zQn hc
def zJr{W:List (List Nat)}:∀p∈zwb R::W.map zwb,32∉p.cps.toList:=λp hp hc=>by
 have:=zEv hp hc;omega
def zzA{k:List Nat}(h:k.length=2):∃a b,k=[a,b]:=by
 match k,h with
 |[a,b],_=>exact⟨a,b,rfl⟩
def z6s{W:List (List Nat)}(w:Rl R W)(q:∀O',tw O O'->Q (.str (zxs R W)) O'):WF zJg [wn R W] O Q:=by
 have hrl:=w.rl;have hwl:=w.wl;refine zmb rfl ?_;show WS zWg [some (wn R W)] O _ _ _ _;unfold zWg;refine zFb (zub (w_c ⟨_,rfl,zj (zz (zqm (zj (zt (zj (zz (zl rfl (w_c (zfe (zr ?_))))))))))⟩));refine zXi (by omega) w.num λO1 k1=>zr ?_;refine zfi (z1c (zz (zl rfl (w_c (zuf (.inl ⟨_,rfl,zjb (by rw[length_map];omega),?_⟩))))));refine zXb tn W (λk =>.str (zwb k)) (λ_ _=>rfl) (λk hk O' kp=>?_) (λO' kp=>?_)
 ·have h2:=(w.wn k hk).1;refine zOe ?_;unfold zkk;exact zt (zj (zl rfl (zr (zXi (by omega) (w.way hk) λO2 k2=>⟨rfl,kp.trans k2,kp⟩))))
 have g1:(O'++[tD.lst (W.map λk=>D.str (zwb k))])[O1.length]?=some (.lst [D.str (zwb R)]):=zzb (kp _ _ zw);refine z3z g1 zw (by simp;omega) (zr (zHh (ys:=zwb R::W.map zwb) ?_ w.fit (q _ ?_)))
 ·rw[zw,map_cons,map_map];rfl
 ·exact(k1.trans (tw.app.trans kp.to)).to
def z1u{W:List (List Nat)}(w:Rl R W)(q:∀O',tw O O'->Q (.bl true) O'):WF zAi [.tup (W.map tn)] O Q:=by
 have hwl:=w.wl;refine zmb rfl ?_;show WS zni [some (.tup (W.map tn))] O _ _ _ _;unfold zni;refine zFb (zEr (zt (zj (zl rfl (zj (w_c (zj (w_c (zr (z0j (by rw[length_map];omega) (by rw[length_map];omega) ⟨_,rfl,λ_=>?_,λh=>(by cases h)⟩))))))))));refine zt (zj (zfi (z1c (zl rfl (.inl ⟨_,rfl,zjb (by rw[length_map];omega),?_⟩)))));refine zXb tn W (λ_ =>.bl true) (λ_ _=>rfl) (λk hk O' kp=>?_) (λO' kp=>?_)
 ·obtain⟨hk2,hkn⟩:=w.wn k hk;refine zOe ?_;unfold z7k;exact zt (zj (zl rfl (zj (w_c (zj (w_c (zj (zz (w_c (w_c (z5x (zr (zaj (by omega) (by omega) (by omega) (λn hn=>by have:=hkn n hn;omega) λO2 k2=>⟨rfl,kp.trans k2,kp⟩)))))))))))))
 ·exact zr (z8A (bs:=W.map λ_=>true) (by rw[zw,map_map];rfl) (by rw[z4p];exact q _ kp.to))
def z2w{W:List (List Nat)}(w:Rl R W)(q:∀O',tw O O'->Q (.bl true) O'):WF zHj [wn R W] O Q:=by
 refine zmb rfl ?_;show WS zlk [some (wn R W)] O _ _ _ _;unfold zlk;refine zFb (zEr (zt (zj (zl rfl (zj (w_c (zj (w_c (zr (z0j (by simp) (by simp) ⟨_,rfl,λ_=>?_,λh=>(by cases h)⟩))))))))));refine zEr (zt (zj (zz (zl rfl (w_c (zfe (zr (zdn w.rl w.rn λO1 k1=>⟨_,rfl,λ_=>?_,λh=>(by cases h)⟩))))))));exact zt (zj (zz (zl rfl (w_c (zuf (zr (z1u w λO2 k2=>q _ (k1.trans k2))))))))
def zGs{W:List (List Nat)}(w:Rl R W)(q:∀O',tw O O'->Q (wn R W) O'):WF zZg [.str (zxs R W)] O Q:=by
 have hrl:=w.rl;have hwl:=w.wl
 have hs:(xh (zxs R W) " ").map D.str=D.str (zwb R)::W.map λk=>D.str (zwb k):=by
  rw[zCc blank (by decide +kernel) (by simp) zJr,map_cons,map_map];rfl
 refine zmb rfl ?_;show WS zMg [some (.str (zxs R W)),none,none] O _ _ _ _;unfold zMg;refine zB (zjl (zt (zj (zl rfl (zr (zAl ?_))))));refine zB (zMb (zub (zl rfl ⟨_,rfl,zj (w_c (zr (zMd hs w.len (zsd blank) ?_)))⟩)));have k0:tw O (O++[tD.lst (D.str (zwb R)::W.map λk=>D.str (zwb k))]) :=.app;have g0:(O++[tD.lst (D.str (zwb R)::W.map λk=>D.str (zwb k))])[O.length]?=some (.lst (D.str (zwb R)::W.map λk=>D.str (zwb k))):=zw;generalize O++[tD.lst (D.str (zwb R)::W.map λk=>D.str (zwb k))]=O1 at k0 g0;refine zB (zMb (zYh (zj (zt (zj (zz (zl rfl (w_c (z6c (zy g0) (show atI _ ((0:Nat):Int)=_ from zuc rfl) (zr ?_))))))))));refine z3i (λe=>by rw[e]at hrl;simp at hrl) hrl.2 w.num λO2 k2=>zj (zt (zj (zfi (z1c (zNx (zl rfl (zyo (w_c ⟨_,rfl,zfv ⟨_,_,rfl,k2 _ _ g0,.inr (.inr ⟨_,_,rfl,zw,?_⟩)⟩⟩))))))));rw[show M.cutD (D.str (zwb R)::W.map λk=>D.str (zwb k)) (some 1) none=W.map λk=>D.str (zwb k) from zRp (i:=1)];refine⟨zjb (by rw[length_map];omega),?_⟩;refine zXb (λk=>D.str (zwb k)) W tn (λO' k=>z9 zw k) (λk hk O' kp=>?_) (λO' kp=>?_)
 ·have h2:=(w.wn k hk).1;refine zOe ?_;unfold zsk;exact zt (zj (zl rfl (zr (z3i (λe=>by rw[e]at h2;simp at h2) (by omega) (w.way hk) λO2 k2=>⟨rfl,kp.trans k2,kp⟩))))
 refine zr (zXd (zy zw) (zr ?_));have k3:tw O (O'++[tD.lst (W.map tn)]):=k0.trans (k2.trans (tw.app.trans kp.to));generalize O'++[tD.lst (W.map tn)]=O3 at k3;refine zB (zIi (zhk (zS (zt (zj (zl rfl (zr (z2w w λO4 k4=>⟨_,rfl,λh=>(by cases h),λ_=>zDb ?_⟩))))))));exact zFb (zl rfl (q _ (k3.trans k4)))
def zWv(w:Wr R K)(q:∀O',tw O O'->Q (.str (zut R K)) O'):WF z6g [wn R K] O Q:=by
 have hrl:=w.rl;have hkl:=w.kl;refine zmb rfl ?_;show WS zTg [some (wn R K),none,none] O _ _ _ _;unfold zTg;refine zB (zMb (zqm (zj (zub (w_c ⟨_,rfl,zj (zfi (z1c (zz (zl rfl (w_c (zfe (.inl ⟨_,rfl,zjb (by rw[length_map];omega),?_⟩)))))))⟩)))));refine zXb (λ(n:Nat)=>D.int n) R (λn =>.str (num n)) (λ_ _=>rfl) (λn hn' O' kp=>?_) (λO' kp=>?_)
 ·refine zOe ?_;unfold zbk;exact zt (zj (zl rfl (zr (zBr (zat (w.num n hn')) ⟨rfl,kp,kp⟩))))
 refine zr (zHh (ys:=R.map num) (by rw[zw,map_map];rfl) (fit (zBk w.num) (by decide) (by rw[length_map];omega) (by decide)) (zr ?_));have k1:tw O (O'++[tD.lst (R.map λn=>D.str (num n))]):=kp.to;generalize O'++[tD.lst (R.map λn=>D.str (num n))]=O1 at k1;refine zB (zHk (z1c (zz (zl rfl (w_c (zuf (.inl ⟨_,rfl,?_⟩)))))));refine zTd (λi J ν=>∃x:Option D,J=[some (wn R K),some (.loc O1.length),x]/\ν[O1.length]?=some (.lst ((zwb R::(K.take i).map z5).map D.str))/\tw O1 ν) ⟨_,rfl,by rw[zw];rfl,.app⟩ (λ_ _ _ _=>rfl) ?_ ?_
 ·rintro i z J ν hz ⟨x,rfl,g,k⟩;rw[yr]at hz
  cases er:K[i]? with
  |none=>rw[er]at hz;cases hz
  |some key=>
   rw[er]at hz;cases hz;obtain⟨hk3,hkn⟩:=w.kn key (mem_of_getElem? er);refine zOe ?_;unfold zek;refine zjl (zPm (zl rfl ⟨_,_,rfl,g,zj (zub (w_c ⟨_,rfl,zj (zfi (z1c (zl rfl (.inl ⟨_,rfl,zjb (by rw[length_map];omega),?_⟩))))⟩))⟩));refine zXb (λ(n:Nat)=>D.int n) key (λn =>.str (lt n)) (λ_ _=>rfl) (λn hn' O' kp=>?_) (λO' kp=>?_)
   ·refine zOe ?_;unfold zAj;exact zz (w_c (zl rfl (zkr (by decide) (zgu n (by have:=hkn n hn';omega)) ⟨rfl,kp,kp⟩)))
   have g2:=kp.to (g:=[tD.lst (key.map λn=>D.str (lt n))]) _ _ g;refine zr (zHh (ys:=key.map lt) (by rw[zw,map_map];rfl) (fit z6h (by decide) (by rw[length_map];omega) (by decide)) (zr (zlj g2 (by simp;omega) ⟨_,rfl,?_,?_⟩)))
   ·rw[z8 g2];have e:K.take (i+1)=K.take i++[key]:=by rw[take_succ,er];rfl
    rw[e,map_append,<-List.cons_append,map_append];rfl
   ·intro n o ho;have hlt:=zO ho;exact zU (kp.to _ _ (k n o ho)) (by omega)
 ·rintro J ν ⟨x,rfl,g,k⟩;rw[length_map,take_length]at g;exact zFb (zub (w_c ⟨_,rfl,zj (zl rfl (zr (zHh g w.fit (q _ (k1.trans k)))))⟩))
def hmN(n k:Nat)(t:Nat×Nat):Nat:=(t.1*k+t.2)%10007%n
def pr2(t:Nat×Nat):D:=.tup [.int (t.1:Nat),.int (t.2:Nat)]
abbrev rlN(R:List Nat)(ts:List (Nat×Nat)):D:=.tup [tn R,.tup (ts.map pr2)]
structure Rs(R:List Nat)(ts:List (Nat×Nat)):Prop where
 rl:1<=R.length/\R.length<=10
 tl:2<=ts.length/\ts.length<=3
 tn:∀t∈ts,t.1<=10006/\t.2<=10006
def ziz{ts:List (Nat×Nat)}(h:Rs R ts)(q:∀O',tw O O'->Q (tn (ts.map (hmN R.length k))) O'):WF zsq [rlN R ts,.int k] O Q:=by
 have hrl:=h.rl;have htl:=h.tl;refine zmb rfl ?_;show WS zCq [some (rlN R ts),some (.int k),none] O _ _ _ _;unfold zCq
 repeat walk_at "w"
 refine z6c rfl (show atI [tn R,.tup (ts.map pr2)] 0=some (tn R) from rfl) ?_
 repeat walk_at "w"
 refine z1c ?_
 repeat walk_at "w"
 refine z6c rfl (show atI [tn R,.tup (ts.map pr2)] 1=some (.tup (ts.map pr2)) from rfl) (.inl ⟨_,rfl,zjb (by rw[length_map];omega),?_⟩);refine zXb pr2 ts (λt=>D.int (hmN R.length k t:Nat)) (λ_ _=>rfl) (λt ht O' kp=>?_) (λO' kp=>?_)
 ·have hb:=h.tn t ht;refine zOe ?_;unfold zSr
  repeat walk_at "w"
  refine z6c (x:=pr2 t) rfl (show atI [D.int (t.1:Nat),D.int (t.2:Nat)] 0=some (D.int (t.1:Nat)) from rfl) ?_
  repeat walk_at "w"
  refine z4C (zaC (by omega) (by omega)) ?_
  repeat walk_at "w"
  refine z6c (x:=pr2 t) rfl (show atI [D.int (t.1:Nat),D.int (t.2:Nat)] 1=some (D.int (t.2:Nat)) from rfl) ?_
  repeat walk_at "w"
  have e:((nat R).length:Int)=R.length:=by rw[length_map]
  rw[e];refine zty (by omega) ⟨?_,kp,kp⟩;unfold hmN
  push_cast
  rfl
 ·refine zr (zXd (zy zw) ?_);have e:ts.map (λt=>D.int (hmN R.length k t:Nat))=nat (ts.map (hmN R.length k)):=by rw[zNh]
  rw[e];exact q _ kp.to
abbrev z6x(R:List Nat)(ts:List (Nat×Nat))(S:List Nat):List (List Nat):=S.map λk=>ts.map (hmN R.length k)
def Rs.wb{ts:List (Nat×Nat)}(h:Rs R ts){S:List Nat}{L:Nat}(hS:S.length<=L):Wb L R (z6x R ts S) where
 rl:=h.rl
 kl:=by rw[length_map];exact hS
 kn:=λk hk=>by
  obtain⟨x, -,rfl⟩:=List.mem_map.mp hk;refine⟨by rw[length_map];exact h.tl,λy hy=>?_⟩;obtain⟨t, -,rfl⟩:=List.mem_map.mp hy;exact Nat.mod_lt _ h.rl.1
def zxu{ts:List (Nat×Nat)}(h:Rs R ts)(hl:O[l]?=some (.lst (nat S)))(hS:S.length<=1000)(q:∀O',tw O O'->Q (wn R (z6x R ts S)) O'):WF zUg [rlN R ts,.loc l] O Q:=by
 refine zmb rfl ?_;show WS zfm [some (rlN R ts),some (.loc l)] O _ _ _ _;unfold zfm
 repeat walk_at "w"
 refine z6c rfl (show atI [tn R,.tup (ts.map pr2)] 0=some (tn R) from rfl) ?_
 repeat walk_at "w"
 refine z1c ?_
 repeat walk_at "w"
 refine .inr (.inr ⟨_,_,rfl,hl,zjb (by rw[length_map];omega),?_⟩);refine zXb (λ(x:Nat)=>D.int x) S (λk=>tn (ts.map (hmN R.length k))) (λO' k=>z9 hl k) (λx hx O' kp=>?_) (λO' kp=>?_)
 ·refine zOe ?_;unfold zvp
  repeat walk_at "w"
  exact ziz h λO2 k2=>⟨rfl,kp.trans k2,kp⟩
 ·refine zr (zXd (zy zw) ?_)
  repeat walk_at "w"
  have e:S.map (λk=>tn (ts.map (hmN R.length k)))=(z6x R ts S).map tn:=by rw[map_map];rfl
  rw[e];exact q _ kp.to
abbrev fsD(r:D)(m:Nat):List (yn×D):=[("kept_rule",r),("nest_of",.loc m)]
def zNA{r:D}(h:O[n]?=some (.ins "Shelf" []))(q:Q .non (O.set n (.ins "Shelf" (fsD r O.length))++[.dct []])):WF zpd [.loc n,r] O Q:=by
 have hn:n<O.length:=(List.getElem?_eq_some_iff.mp h).1;refine zmb rfl ?_;show WS zrd [some (.loc n),some r] O _ _ _ _;unfold zrd;refine zB (znx (zl rfl (zl rfl ⟨n,_,rfl,h,by decide,?_⟩)));refine znx ?_
 repeat walk_at "w"
 have g1:∀(X σ:tD),(List.set O n X++[σ])[n]?=some X:=λX σ=>by rw[yv (by rw[length_set];exact hn),yZ hn]
 have h2:¬("kept_rule":yn)="nest_of":=by decide +kernel
 have e:∀l:Nat,zLm "nest_of" (.loc l) (zLm "kept_rule" r [])=fsD r l:=λl=>by simp only[zLm,h2,if_false]
 refine⟨n,_,rfl,g1 _ _,by simp[zLm],?_⟩;rw[e,length_set,List.set_append_left _ _ (by rw[length_set];exact hn),List.set_set];exact q
def zfp{ys:List yn}(h:ys≠[]):YH z (y::ys)=y++z++YH z ys:=by
 cases ys with
 |nil=>exact absurd rfl h
 |cons q r=>
  refine zJn ?_;rw[z3f,z3f,zFh,zPe,zPe,append_assoc]
def z0n{z:yn}{c:Nat}:∀{ys:List yn} {y:yn},y∈ys->c∈y.cps.toList->c∈(xC z ys).cps.toList
 |[y],_,h,hc=>by
  rw[List.mem_singleton]at h;rw[h]at hc;exact hc
 |y::y2::r,x,h,hc=>by
  rw[zFh,mem_append,mem_append];rcases List.mem_cons.mp h with rfl|h
  ·exact .inl hc
  ·exact .inr (.inr (z0n h hc))
def z9u(ha:32∉a.cps.toList):Yi (a ++ " " ++ b) " "=((a,(" ":yn),b):yn×yn×yn):=by
 obtain⟨x,hx⟩:∃x,x=a ++ " " ++ b:=⟨_,rfl⟩
 rw[<-hx];have hxc:x.cps.toList=a.cps.toList++(32::b.cps.toList):=by rw[hx,zPe,zPe,blank,append_assoc];rfl
 have hat:StrLaws.At x " " x.length a.length:=by
  refine zCA (r:=b.cps.toList) ?_ ?_
  ·rw[zV x,hxc,length_append,<-zV];omega
  ·rw[hxc,zV,List.drop_left,blank];rfl
 have hfree:∀k,k<a.length->¬StrLaws.At x " " x.length k:=λk hk h=>by
  have e:=zVx blank h;rw[hxc,yv (by rw[<-zV];exact hk)]at e;exact ha (mem_of_getElem? e)
 have h1:(Yi x " ").1=a:=by
  rcases partition_head x " " with ⟨_,no⟩|⟨i,e,hi,hmin⟩
  ·exact absurd hat (no _)
  ·have:i=a.length:=by
    rcases Nat.lt_trichotomy i a.length with h|h|h
    ·exact absurd hi (hfree i h)
    ·exact h
    ·exact absurd hat (hmin _ h)
   rw[e,this];refine zJn ?_;rw[StrLaws.strSub_toList,hxc,List.drop_zero,zV,Nat.sub_zero,List.take_left]
 have h2:(Yi x " ").2.1=" ":=by
  unfold Yi at h1 ⊢
  split
  ·rfl
  ·rename_i hn
   rw[hn]at h1;have:=congrArg (λs:yn=>s.cps.toList.length) h1;dsimp only at this;rw[hxc,length_append]at this;simp at this
 have h3:(Yi x " ").2.2=b:=by
  have e:=StrLaws.partition_sum x " ";rw[h1,h2]at e;refine zJn ?_;have:(a ++ " " ++ (Yi x " ").2.2).cps.toList=(a ++ " " ++ b).cps.toList:=by rw[e,<-hx]
  rw[zPe,zPe (a ++ " ") b]at this;exact List.append_cancel_left this
 exact Prod.ext h1 (Prod.ext h2 h3)
def zLs:(!(YL (YH " " (S.map λk=>z5 (K.getD k []))) (lt h) 0 (YH " " (S.map λk=>z5 (K.getD k []))).length 1).isEmpty)=decide (∃k∈S,h∈K.getD k []):=by
 have e:=StrLaws.found_one (YH " " (S.map λk=>z5 (K.getD k []))) (97+h);have e:(YL (YH " " (S.map λk=>z5 (K.getD k []))) (lt h) 0 (YH " " (S.map λk=>z5 (K.getD k []))).length 1).isEmpty = !decide (97+h∈(YH " " (S.map λk=>z5 (K.getD k []))).cps.toList):=by simpa using e
 rw[e,Bool.not_not];refine decide_eq_decide.mpr ?_;constructor
 ·intro hm;rw[z3f]at hm;rcases zCi hm with hm|⟨y,hy,hm⟩
  ·rw[blank]at hm;have:97+h=32:=by simpa using hm
   omega
  ·obtain⟨k,hk,rfl⟩:=List.mem_map.mp hy;refine⟨k,hk,?_⟩;unfold z5 at hm;rw[z3f]at hm;rcases zCi hm with hm|⟨z,hz,hm⟩
   ·rw[blank]at hm;have:97+h=32:=by simpa using hm
    omega
   ·obtain⟨g,hg,rfl⟩:=List.mem_map.mp hz;have:97+h=97+g:=by simpa using hm
    have:h=g:=by omega
    rw[this];exact hg
 ·rintro⟨k,hk,hm⟩;rw[z3f];refine z0n (List.mem_map.mpr ⟨k,hk,rfl⟩) ?_;unfold z5;rw[z3f];exact z0n (List.mem_map.mpr ⟨h,hm,rfl⟩) (by rw[znw];simp)
def zby{d:D}(h:O[n]?=some (.lst xs))(h1:zge d=true)(h2:xs.all zge=true)(q:Q (.int (xs.countP λy=>eqF y d:Nat)) O):WM zLi (.loc n) [d] O Q:=⟨_,_,by simp only[zLi,h,h1,h2,Bool.and_self,cond_true],q⟩
def z0E(q:Q (.bl (!(YL b a 0 b.length 1).isEmpty)) O):W2 zeE (.str a) (.str b) O Q:=⟨_,_,rfl,q⟩
def zpr(f:α->yn)(l:List α):(l.map λx=>D.str (f x)).all zge=true:=by
 rw[all_map];exact List.all_eq_true.mpr λ_ _=>rfl
def zxA{a b:Nat}:(lt a==lt b)=decide (a=b):=by
 rw[xL,beq_iff_eq,decide_eq_true_iff];constructor
 ·intro e;have:=congrArg (λs:yn=>s.cps.toList) e;dsimp only at this;have:97+a=97+b:=by simpa using this
  omega
 ·rintro rfl;rfl
def z5y(X:List Nat)(h:Nat):(X.map λx=>D.str (lt x)).countP (λy=>eqF y (.str (lt h)))=X.count h:=by
 rw[List.countP_map,List.count];refine List.countP_congr λx _=>?_;show(lt x==lt h)=true↔(x==h)=true;rw[zxA,decide_eq_true_iff,beq_iff_eq]
def z6C(k:List Nat)(h:Nat):(k.map λx=>D.str (lt x)).any (λy=>eqF y (.str (lt h)))=decide (h∈k):=by
 rw[any_map,xL,any_eq_true,decide_eq_true_iff];constructor
 ·rintro⟨x,hx,e⟩;have e:(lt x==lt h)=true:=e;rw[zxA,decide_eq_true_iff]at e;rw[<-e];exact hx
 ·intro hm;refine⟨h,hm,?_⟩;show(lt h==lt h)=true;simp
abbrev pcs(R:List Nat)(K:List (List Nat)):List D:=D.str (zwb R)::K.map λk=>D.str (z5 k)
def zDj(R:List Nat)(K:List (List Nat)):(xh (zut R K) "; ").map D.str=pcs R K:=by
 rw[zCc semi (by decide +kernel) (by simp) zEm,map_cons,map_map];rfl
def zDo(h:R≠[]):(xh (zwb R) ",").map D.str=R.map λn=>D.str (num n):=by
 rw[zCc comma (by decide +kernel) (λe=>h (List.map_eq_nil_iff.mp e)) (zMn (by omega)),map_map];rfl
def z0z(h:k<K.length):atI (pcs R K) (1+(k:Int))=some (.str (z5 (K.getD k []))):=by
 have e:(1:Int)+(k:Int)=((k+1:Nat):Int):=by omega
 rw[e];refine zuc ?_;rw[List.getElem?_cons_succ,yr,getD_eq_getElem?_getD,yA h];rfl
section
variable {R:List Nat}{K:List (List Nat)}{n:Nat}{O:Mem}{Q:D->Mem->Prop}
def z4w(w:Wr R K)(a:sV R K X)(hn:O[n]?=some (.lst (nat X)))(q:∀O',tw O O'->Q (.bl true) O'):WF zpc [.str (zut R K),.loc n] O Q:=by
 have hrl:=w.rl;have hkl:=w.kl;have hXl:=a.len
 have hX:∀k,k<K.length->X.getD k 0∈K.getD k []:=λk hk=>by
  have e1:X[k]?=some (X.getD k 0):=by rw[getD_eq_getElem?_getD,yA (by omega)];rfl
  have e2:K[k]?=some (K.getD k []):=by rw[getD_eq_getElem?_getD,yA hk];rfl
  exact a.home k _ _ e1 e2
 have hkey:∀k,k<K.length->(2<=(K.getD k []).length/\(K.getD k []).length<=3)/\∀h∈K.getD k [],h<R.length:=λk hk=>by
  have e:K.getD k []∈K:=by rw[getD_eq_getElem?_getD,yA hk];exact getElem_mem hk
  exact w.kn _ e
 have hXm:∀x∈X,x<10:=λx hx=>by
  obtain⟨i,hi,rfl⟩:=List.mem_iff_getElem.mp hx;have h1:=hX i (by omega);have h2:=(hkey i (by omega)).2 _ h1;rw[getD_eq_getElem?_getD,yA hi]at h2;have:X[i]<R.length:=h2;omega
 refine zmb rfl ?_;show WS zsc [some (.str (zut R K)),some (.loc n),none,none,none,none] O _ _ _ _;unfold zsc;refine zB (zMb (zub (zl rfl ⟨_,rfl,zj (w_c (zr (zMd (zDj R K) w.len (zsd semi) ?_)))⟩)));have k0:tw O (O++[tD.lst (pcs R K)]) :=.app;have g0:(O++[tD.lst (pcs R K)])[O.length]?=some (.lst (pcs R K)):=zw;generalize O++[tD.lst (pcs R K)]=O1 at k0 g0;generalize O.length=pl at g0;have hnl:=zwg (ns:=R) hrl.2 w.num;refine zB (zMb (zfi (z1c (zub (zz (zl rfl (w_c (z6c (zy g0) (show atI _ ((0:Nat):Int)=_ from zuc rfl) ⟨_,rfl,zj (w_c (zr (zMd (zDo (λe=>by rw[e]at hrl;simp at hrl)) (by omega) (zsd comma) (.inr (.inr ⟨_,_,rfl,zw,zjb (by rw[length_map];omega),?_⟩)))))⟩))))))));refine zXb (λn=>D.str (num n)) R (λn =>.int (n:Nat)) (λO' k=>z9 zw k) (λr hr O' kp=>?_) (λO2 k2=>?_)
 ·refine zOe ?_;unfold zNe;have hr':=w.num r hr;exact zt (zj (zl rfl (zr (zHt (num_reads hr') (by have:=(zuq hr').2;omega) ⟨rfl,kp,kp⟩))))
 have k12:tw O1 (O2++[tD.lst (nat R)]):=tw.app.trans k2.to;have g2:(O2++[tD.lst (nat R)])[O2.length]?=some (.lst (nat R)):=zw;generalize O2++[tD.lst (nat R)]=O3 at k12 g2;generalize O2.length=rl at g2;have k03:=k0.trans k12;refine zB (zMb (zfi (z1c (zl rfl (.inr (.inr ⟨n,_,rfl,k03 _ _ hn,zjb (by rw[length_map];omega),?_⟩))))));refine zXb (λ(x:Nat)=>D.int x) X (λx =>.str (lt x)) (λO' k=>z9 (k03 _ _ hn) k) (λx hx O' kp=>?_) (λO4 k4=>?_)
 ·refine zOe ?_;unfold zIe;exact zz (w_c (zl rfl (zkr (by decide) (zgu x (hXm x hx)) ⟨rfl,kp,kp⟩)))
 have k34:tw O3 (O4++[tD.lst (X.map λx=>D.str (lt x))]):=k4.to;have g4:(O4++[tD.lst (X.map λx=>D.str (lt x))])[O4.length]?=some (.lst (X.map λx=>D.str (lt x))):=zw;generalize O4++[tD.lst (X.map λx=>D.str (lt x))]=O5 at k34 g4;generalize O4.length=ll at g4;have g05:=k34 _ _ (k12 _ _ g0);have g25:=k34 _ _ g2;have k05:=k03.trans k34;refine zB (zIi (zS (zz (zt (zj (zl rfl (zr (zvh (zy g4) (zz (zt (zj (zl rfl (zr (zvh (zy g05) (w_c (z5x (znF (α:=Int) _ _ ⟨_,rfl,λhb=>?_,λ_=>zDb ?_⟩)))))))))))))))))
 ·rw[length_map,length_cons,length_map]at hb;have:((X.length:Nat):Int)=((K.length+1:Nat):Int)-1:=by omega
  rw[this]at hb;simp at hb
 refine zB (zHk (zJh (zj (zt (zj (zl rfl (zr (zvh (zy g4) (zr ⟨_,rfl,by omega,by rw[length_map];omega,?_⟩)))))))));rw[Yg,length_map];refine zTd (λi J ν=>tw O5 ν/\∃x:Option D,J=[some (.str (zut R K)),some (.loc n),some (.loc pl),some (.loc rl),some (.loc ll),x]) ⟨.refl,_,rfl⟩ (λ_ _ _ _=>rfl) ?_ ?_
 ·rintro i x J ν hx ⟨kν,y,rfl⟩;obtain⟨hi,rfl⟩:=zCg hx;have hiK:i<K.length:=by omega
  have hkk:=hkey i hiK;have hhl:=z9h hkk.1.2
  have hs3:(xh (z5 (K.getD i [])) " ").map D.str=(K.getD i []).map λn=>D.str (lt n):=by
   rw[zCc blank (by decide +kernel) (λe=>by have:=hkk.1.1;rw[List.map_eq_nil_iff.mp e]at this;simp at this) z5p,map_map];rfl
  refine zOe ?_;unfold zMe;have hat:atI (X.map λx=>D.str (lt x)) (i:Int)=some (.str (lt (X.getD i 0))):=zuc (by rw[yr,yA (by omega),getD_eq_getElem?_getD,yA (by omega)];rfl);refine zIi (zS (zz (zz (zl rfl (zl rfl (z6c (zy (kν _ _ g4)) hat (zub (zz (zl rfl (zz (w_c (zl rfl (zho (z6c (zy (kν _ _ g05)) (z0z hiK) ⟨_,rfl,zj (w_c (zr (zMd hs3 (by omega) (zsd blank) (zdt (zy zw) rfl (zpr lt _) ?_))))⟩))))))))))))));rw[z6C,decide_eq_true (hX i hiK)];exact⟨_,rfl,λh=>(by cases h),λ_=>zDb ⟨kν.to,_,rfl⟩⟩
 rintro J ν ⟨kν,y,rfl⟩;refine zFb (zz (zfi (zJh (zj (zt (zj (zl rfl (zr (zvh (zy (kν _ _ g25)) (zr ⟨_,rfl,by omega,by rw[length_map];omega,zjb (by simp;omega),?_⟩))))))))));rw[Yg,length_map];refine zbj (λ(k:Nat)=>D.int k) (yt R.length) (λ(k:Nat)=>D.int k) (λ_=>false) (λ_ _=>rfl) (λh hh O' kp=>?_) (λO6 k6=>?_)
 ·have hh:=List.mem_range.mp hh;refine zOe ?_;unfold zKe;have g4':=kp _ _ (kν _ _ g4);refine zS (zz (zPm (zl rfl ⟨_,_,rfl,g4',zj (zz (w_c (zl rfl (zkr (by decide) (zgu h (by omega)) (zr (zby g4' rfl (zpr lt X) ?_))))))⟩)));rw[z5y];refine zz (zl rfl (zl rfl (z6c (zy (kp _ _ (kν _ _ g25))) (zhm hh) (zEj ⟨_,rfl,?_,kp,λhb=>?_⟩))))
  ·have:=a.room h;exact decide_eq_false (by omega)
  ·have:=a.room h;have hb:=of_decide_eq_true hb;omega
 have e0:(yt R.length).filter (λ_=>false)=[]:=List.filter_eq_nil_iff.mpr λ_ _ h=>by cases h
 rw[e0];refine zqm (zr (zdD (α:=Nat) [] [] (zzb zw) zw ?_));rw[decide_eq_true rfl];exact q _ (k05.trans (kν.trans (k6.to.to)))
def zVu(w:Wr R K)(wB:Wb L R K)(hS:S.Sublist (yt K.length))(hc:zSe R K S=true)(hn:O[n]?=some (.lst (nat S)))(q:∀O',tw O O'->Q (.bl true) O'):WF zec [.str (zut R K),.loc n] O Q:=by
 have hrl:=w.rl;have hkl:=w.kl;have hSl:S.length<=K.length:=by simpa using hS.length_le
 have hSm:∀k∈S,k<K.length:=λk hk=>List.mem_range.mp (hS.subset hk);refine zmb rfl ?_;show WS zfc [some (.str (zut R K)),some (.loc n),none,none,none] O _ _ _ _;unfold zfc;refine zB (zMb (zub (zl rfl ⟨_,rfl,zj (w_c (zr (zMd (zDj R K) w.len (zsd semi) ?_)))⟩)));have k0:tw O (O++[tD.lst (pcs R K)]) :=.app;have g0:(O++[tD.lst (pcs R K)])[O.length]?=some (.lst (pcs R K)):=zw;generalize O++[tD.lst (pcs R K)]=O1 at k0 g0;generalize O.length=pl at g0;have hnl:=zwg (ns:=R) hrl.2 w.num;refine zB (zMb (zfi (z1c (zub (zz (zl rfl (w_c (z6c (zy g0) (show atI _ ((0:Nat):Int)=_ from zuc rfl) ⟨_,rfl,zj (w_c (zr (zMd (zDo (λe=>by rw[e]at hrl;simp at hrl)) (by omega) (zsd comma) (.inr (.inr ⟨_,_,rfl,zw,zjb (by rw[length_map];omega),?_⟩)))))⟩))))))));refine zXb (λn=>D.str (num n)) R (λn =>.int (n:Nat)) (λO' k=>z9 zw k) (λr hr O' kp=>?_) (λO2 k2=>?_)
 ·refine zOe ?_;unfold z9d;have hr':=w.num r hr;exact zt (zj (zl rfl (zr (zHt (num_reads hr') (by have:=(zuq hr').2;omega) ⟨rfl,kp,kp⟩))))
 have k12:tw O1 (O2++[tD.lst (nat R)]):=tw.app.trans k2.to;have g2:(O2++[tD.lst (nat R)])[O2.length]?=some (.lst (nat R)):=zw;generalize O2++[tD.lst (nat R)]=O3 at k12 g2;generalize O2.length=rl at g2;have k03:=k0.trans k12;have g03:=k12 _ _ g0;refine zB (zMb (zub (w_c ⟨_,rfl,zj (zfi (z1c (zl rfl (.inr (.inr ⟨n,_,rfl,k03 _ _ hn,zjb (by rw[length_map];omega),?_⟩)))))⟩)));refine zXb (λ(x:Nat)=>D.int x) S (λk =>.str (z5 (K.getD k []))) (λO' k=>z9 (k03 _ _ hn) k) (λk hk O' kp=>?_) (λO4 k4=>?_)
 ·refine zOe ?_;unfold zae;exact zz (zl rfl (zz (w_c (zl rfl (zho (z6c (zy (kp _ _ g03)) (z0z (hSm k hk)) ⟨rfl,kp,kp⟩))))))
 have hshort:∀y∈S.map (λk=>z5 (K.getD k [])),y.length<=6:=λy hy=>by
  obtain⟨k,hk,rfl⟩:=List.mem_map.mp hy;have e:K.getD k []∈K:=by rw[getD_eq_getElem?_getD,yA (hSm k hk)];exact getElem_mem (hSm k hk)
  exact z9h (w.kn _ e).1.2
 refine zr (zHh (ys:=S.map λk=>z5 (K.getD k [])) (by rw[zw,map_map];rfl) (fit hshort (by decide) (by rw[length_map];omega) (by decide)) ?_);have k05:tw O (O4++[tD.lst (S.map λk=>D.str (z5 (K.getD k [])))]):=k03.trans k4.to;have g25:=k4.to (g:=[tD.lst (S.map λk=>D.str (z5 (K.getD k [])))]) _ _ g2;generalize O4++[tD.lst (S.map λk=>D.str (z5 (K.getD k [])))]=O5 at k05 g25;refine zFb (zz (zt (zj (zfi (zJh (zj (zt (zj (zl rfl (zr (zvh (zy g25) (zr ⟨_,rfl,by omega,by rw[length_map];omega,zjb (by simp;omega),?_⟩))))))))))));rw[Yg,length_map];refine zbj (λ(k:Nat)=>D.int k) (yt R.length) (λh=>D.int (R.getD h 0:Nat)) (λh=>decide (∃k∈S,h∈K.getD k [])) (λ_ _=>rfl) (λh hh O' kp=>?_) (λO6 k6=>?_)
 ·have hh:=List.mem_range.mp hh;refine zOe ?_;unfold z8d zbe;refine zS (zz (zz (w_c (zl rfl (zkr (by decide) (zgu h (by omega)) (zl rfl (z0E ?_)))))));rw[zLs];exact⟨_,rfl,rfl,kp,λ_=>zz (zl rfl (zl rfl (z6c (zy (kp _ _ g25)) (zhm hh) ⟨rfl,kp⟩)))⟩
 refine zr (zfA (S:=(z7d R.length K S).map λh=>R.getD h 0) (by rw[zw,zNh];rfl) ?_);refine zt (zj (zl rfl (zr (zvh (zy (zzb (k6 _ _ (k05 _ _ hn)))) (zEj ?_)))));unfold zSe at hc;have hc:=of_decide_eq_true hc;have e:decide ((((z7d R.length K S).map λh=>R.getD h 0).sum:Nat)<(((nat S).length:Nat):Int))=true:=decide_eq_true (by rw[length_map];unfold zms at hc;omega);rw[e];exact q _ (k05.trans k6.to)
end
def zuF{c:yn}{F:FF}{tb:List (yn×FF)}{α:FA}(hc:J[i]?=some (some (.own c)))(hF:tb.lookup c=some F)(h:WA α J O λds O1=>WF F ds O1 Q):WE (zsC i tb α) J O Q:=by
 obtain⟨ds,O1,e,d,O',e2,q⟩:=h;exact⟨d,O',by simp only[zsC,hc,hF,e,yp,e2],q⟩
def z8E{n s c:yn}{tb:List (yn×yn)}(h:tb.lookup s=some c)(q:Q (.own c) O):W2 (zJA n tb) (.own n) (.str s) O Q:=⟨_,_,by simp only[zJA,beq_self_eq_true,cond_true,h,yp],q⟩
def zlD(h:z.length<=1000000)(h1:1<=y.length)(q:Q (.tup [.str (Yi z y).1,.str (Yi z y).2.1,.str (Yi z y).2.2]) O):WM zZs (.str z) [.str y] O Q :=
 ⟨_,_,by simp only[zZs];rw[decide_eq_true ⟨h,h1⟩];rfl,q⟩
def tsN(W:List (List Nat)):List (Nat×Nat):=W.map λk=>(k.getD 0 0,k.getD 1 0)
def z4E{W:List (List Nat)}(h:∀k∈W,k.length=2):(tsN W).map pr2=W.map tn:=by
 unfold tsN;rw[map_map];refine map_congr_left λk hk=>?_;obtain⟨a,b,rfl⟩:=zzA (h k hk);rfl
def Rl.rs{W:List (List Nat)}(w:Rl R W):Rs R (tsN W)/\rlN R (tsN W)=P.wn R W:=by
 refine⟨⟨w.rl,by unfold tsN;rw[length_map];exact w.wl,λt ht=>?_⟩,?_⟩
 ·obtain⟨k,hk,rfl⟩:=List.mem_map.mp ht;obtain⟨h2,hn⟩:=w.wn k hk;obtain⟨a,b,rfl⟩:=zzA h2;exact⟨hn a (by simp),hn b (by simp)⟩
 ·show D.tup [tn R,.tup ((tsN W).map pr2)]=D.tup [tn R,.tup (W.map tn)];rw[z4E λk hk=>(w.wn k hk).1]
def Dk(O:Mem)(n:Nat)(r:D):Prop:=∃m p,O[n]?=some (.ins "Desk" [("shelf",.loc m)])/\O[m]?=some (.ins "Shelf" (fsD r p))
def Dk.keep{O O':Mem}{r:D}(h:Dk O n r)(k:tw O O'):Dk O' n r:=by
 obtain⟨m,p,h1,h2⟩:=h;exact⟨m,p,k _ _ h1,k _ _ h2⟩
abbrev zhh(S:List Nat):yn:=YH " " (S.map num)
section
variable {R:List Nat}{W:List (List Nat)}{S:List Nat}{n:Nat}{O:Mem}{Q:D->Mem->Prop}
def zMB(w:Rl R W)(h:O[n]?=some (.ins "Desk" []))(q:∀O',KB [n] O O'->Dk O' n (wn R W)->Q .non O'):WF z0d [.loc n,.str (zxs R W)] O Q:=by
 have hn:n<O.length:=zO h;refine zmb rfl ?_;show WS zRd [some (.loc n),some (.str (zxs R W))] O _ _ _ _;unfold zRd;refine znx (zqA (zj (zt (zj (zl rfl (zr ?_))))));refine zGs w λO1 k1=>zr ?_;refine zNA zw ⟨rfl,?_⟩;have h1:=k1 _ _ h;have hl1:=k1.len;have hln:n<O1.length:=by omega
 have hset:∀o:tD,(O1++[tD.ins "Shelf" []]).set O1.length o=O1++[o]:=λo=>by simp
 rw[hset];have g1:∀(o o':tD),((O1++[o])++[o'])[n]?=some (.ins "Desk" []):=λo o'=>zzb (zzb h1);refine zl rfl ⟨n,_,rfl,g1 _ _,by decide,?_⟩;have kk:KB [n] O ((O1++[tD.ins "Shelf" (fsD (wn R W) (O1++[tD.ins "Shelf" []]).length)])++[tD.dct []]):=(KB.of_keep k1).app.app;refine q _ (kk.set (.inl (by simp))) ⟨O1.length,(O1++[tD.ins "Shelf" []]).length,?_,?_⟩
 ·rw[z8 (g1 _ _)];rfl
 ·refine zU ?_ (by omega);rw[yv (by simp)];exact zw
def zQm :∀p∈S.map num,32∉p.cps.toList:=zMn (by omega)
def zEi(hS:∀k∈S,k<10^60):∀y∈S.map num,y.length<=60:=λy hy=>by
 obtain⟨k,hk,rfl⟩:=List.mem_map.mp hy;exact(zoq (hS k hk)).2
def zjm(hS:∀k∈S,k<10^60)(hl:S.length<=30):(zhh S).length<=3000:=by
 have:=zbf (z:=" ") (zEi hS) (by decide) (by rw[length_map];omega) (by decide);rw[length_map]at this;have h1:(" ":yn).length=1:=rfl;rw[h1]at this;exact yF this (by omega)
def zkv(h0:S≠[]):(xh (zhh S) " ").map D.str=S.map λk=>D.str (num k):=by
 rw[zCc blank (by decide +kernel) (λe=>h0 (List.map_eq_nil_iff.mp e)) zQm,map_map];rfl
def zIC{c:yn}(h0:S≠[]):c ++ " " ++ zhh S=YH " " (c::S.map num):=(zfp λe=>h0 (List.map_eq_nil_iff.mp e)).symm
def ztj{p:Nat}(w:Rl R W)(h0:S≠[])(hS:∀k∈S,k<10^60)(hl:S.length<=30)(hm:O[m]?=some (.ins "Shelf" (fsD (wn R W) p)))(q:∀O',tw O O'->Q (wn R (z6x R (tsN W) S)) O'):WF zyc [.loc m,.str (zhh S)] O Q:=by
 obtain⟨rs,er⟩:=w.rs;have hkl:=zjm hS hl;refine zmb rfl ?_;show WS zse [some (.loc m),some (.str (zhh S))] O _ _ _ _;unfold zse
 have hlook:(fsD (wn R W) p).lookup ("rule":yn)=none:=by
  have h1:(("rule":yn) == "kept_rule")=false:=by decide +kernel
  have h2:(("rule":yn) == "nest_of")=false:=by decide +kernel
  simp only[fsD,lookup_cons,h1,h2,List.lookup_nil]
 have hlook2:(fsD (wn R W) p).lookup ("kept_rule":yn)=some (wn R W):=by
  simp only[fsD,lookup_cons,beq_self_eq_true]
 refine zFb (zt (zj (zt (zGx (zl rfl ⟨_,_,rfl,hm,hlook,zr ?_⟩)))));refine zmb rfl ?_;show WS zSf [some (.loc m)] O _ _ _ _;unfold zSf;refine zFb (ztD (zl rfl ⟨_,_,_,rfl,hm,hlook2,?_⟩));refine zj (zfi (z1c (zub (zl rfl ⟨_,rfl,zj (w_c (zr (zMd (zkv h0) (by omega) (zsd blank) (.inr (.inr ⟨_,_,rfl,zw,zjb (by rw[length_map];omega),?_⟩)))))⟩))));refine zXb (λk=>D.str (num k)) S (λk =>.int (k:Nat)) (λO' k=>z9 zw k) (λk hk O' kp=>?_) (λO2 k2=>?_)
 ·refine zOe ?_;unfold zph;exact zt (zj (zl rfl (zr (zpt (hS k hk) λO3 k3=>⟨rfl,kp.trans k3,kp⟩))))
 ·refine zr ?_;rw[<-er];exact zxu rs zw (by omega) λO3 k3=>q _ ((tw.app.trans k2.to).trans k3)
def z2z{c:yn}{F:FF}(w:Rl R W)(hc:c="fits"/\a="answer_fits"/\F=zoc\/c="most"/\a="answer_most"/\F=zrc)(h0:S≠[])(hS:∀k∈S,k<10^60)(hl:S.length<=30)(hd:Dk O n (wn R W))(q:∀(m p:Nat)(O':Mem),tw O O'->O'[m]?=some (.ins "Shelf" (fsD (wn R W) p))->WF F [.loc m,.str (zhh S)] O' Q):WF zhg [.loc n,.str (c ++ " " ++ zhh S)] O Q:=by
 obtain⟨m,p,g1,g2⟩:=hd;have hkl:=zjm hS hl;have hcl:c.length<=10:=by rcases hc with ⟨rfl,_⟩|⟨rfl,_⟩<;>decide
 have hcf:32∉c.cps.toList:=by rcases hc with ⟨rfl,_⟩|⟨rfl,_⟩<;>decide +kernel
 have hlen:(c ++ " " ++ zhh S).length<=1000000:=by
  rw[zV,zPe,zPe,length_append,length_append,<-zV,<-zV,<-zV];have:(" ":yn).length=1:=rfl;omega
 have hsp:(xh (c ++ " " ++ zhh S) " ").map D.str=D.str c::S.map λk=>D.str (num k):=by
  rw[zIC h0,zCc blank (by decide +kernel) (by simp) λx hx=>?_,map_cons,map_map]
  ·rfl
  ·rcases List.mem_cons.mp hx with rfl|hx
   ·exact hcf
   ·exact zQm x hx
 have hpos:0<S.length:=List.length_pos_iff.mpr h0;refine zmb rfl ?_;show WS zwi [some (.loc n),some (.str (c ++ " " ++ zhh S)),none,none] O _ _ _ _;unfold zwi;refine zB (zIi (z1j (zhk (zS (zt (zj (zl rfl (zj (w_c (zr (zWz ⟨_,rfl,λ_=>?_,λh=>(by cases h)⟩)))))))))));refine zhk (zS (zt (zj (zub (zl rfl ⟨_,rfl,zj (w_c (zr (zMd hsp hlen (zsd blank) (zr ?_))))⟩)))));have gs:(O++[tD.lst (D.str c::S.map λk=>D.str (num k))])[O.length]?=some (.lst (D.str c::S.map λk=>D.str (num k))):=zw;have ks:tw O (O++[tD.lst (D.str c::S.map λk=>D.str (num k))]) :=.app;generalize O++[tD.lst (D.str c::S.map λk=>D.str (num k))]=O1 at gs ks;generalize O.length=wl at gs;have hat0:atI (D.str c::S.map λk=>D.str (num k)) 0=some (.str c):=show atI _ ((0:Nat):Int)=_ from zuc rfl
 have rest:∀O2:Mem,tw O1 O2->WS (zgb (zxc 2 (zLb zZs (zq 1) (zk (fC (.str " ")) zA))) (zgb (zxc 3 (zC (zJA "ANSWERS" SH) (fC (.own "ANSWERS")) (zC gIx (zq 2) (fC (.int 0))))) (zbc (zsC 3 [("answer_fits",zoc),("answer_most",zrc)] (zk (zmC "Desk" "shelf" (zq 0)) (zk (zC gIx (zq 2) (fC (.int 2))) zA)))))) [some (.loc n),some (.str (c ++ " " ++ zhh S)),none,none] O2 (λ_ O'=>Q .non O') Q (λ_ _=>False) (λ_ _=>False):=λO2 k2=>by
  refine zB (zMb (zub (zl rfl ⟨_,rfl,zj (w_c (zr (zlD hlen (zsd blank) ?_)))⟩)));rw[z9u hcf];have hans:SH.lookup c=some a:=by rcases hc with ⟨rfl,rfl,_⟩|⟨rfl,rfl,_⟩<;>decide +kernel
  have hF:[(("answer_fits":yn),zoc),("answer_most",zrc)].lookup a=some F:=by
   rcases hc with ⟨_,rfl,rfl⟩|⟨_,rfl,rfl⟩
   ·rfl
   ·rfl
  refine zB (zMb (zz (w_c (zz (zl rfl (w_c (z6c rfl rfl (z8E hans ?_))))))));have hlk:xm ("shelf":yn) [(("shelf":yn),D.loc m)]=some (D.loc m):=by simp only[lookup_cons,beq_self_eq_true]
  refine zFb (zuF rfl hF (zj (ztD (zl rfl ⟨_,_,_,rfl,k2 _ _ (ks _ _ g1),hlk,zj (zz (zl rfl (w_c (z6c rfl rfl (zr ?_)))))⟩))));exact q m p O2 (ks.trans k2) (k2 _ _ (ks _ _ g2))
 have isrow:WF z5l [.loc wl] O1 λd O2=>d=.bl true/\O2=O1:=by
  refine zmb rfl ?_;show WS z1l [some (.loc wl)] O1 _ _ _ _;unfold z1l;have hce:Yv c=true:=by rcases hc with ⟨rfl,_⟩|⟨rfl,_⟩<;>decide +kernel
  have hcr:Ym (.str c) (.str "renew")=false:=by rcases hc with ⟨rfl,_⟩|⟨rfl,_⟩<;>decide +kernel
  refine zB (zIi (zS (zz (zz (zl rfl (w_c (z6c (zy gs) hat0 (w_c (z8f ?_ hce)))))))));rw[hcr];refine⟨_,rfl,λh=>(by cases h),λ_=>zDb ?_⟩
  have fin:∀{nx:M.Loc->Mem->Prop},WS (zbc (zQo (zFj λi j=>decide (i<=j)) (zFj λi j=>decide (i<=j)) (fC (.int 2)) (zx zej (zk (zq 0) zA)) (zC zPk (fC (.int (30))) (fC (.int 1))))) [some (.loc wl)] O1 nx (λd O2=>d=.bl true/\O2=O1) (λ_ _=>False) (λ_ _=>False):=λ{nx}=>by
   refine zFb (zPB (w_c (zt (zj (zl rfl (zr (zvh (zy gs) (zEj ⟨_,rfl,λ_=>zz (w_c (w_c (zho (zEj ⟨?_,rfl⟩)))),λhb=>?_⟩))))))))
   ·congr 1
    rw[length_cons,length_map];exact decide_eq_true (by omega)
   ·have:=of_decide_eq_false hb;rw[length_cons,length_map]at this;omega
  have e2:∀{O2:Mem} {R:D->Mem->Prop} {b:Bool},O2=O1->Ym (.str c) (.str "most")=b->R (.bl b) O2->WE (zC gEq (zC gIx (zq 0) (fC (.int 0))) (fC (.str "most"))) [some (.loc wl)] O2 R:=λh hb q=>by
   subst h;subst hb;exact zz (zz (zl rfl (w_c (z6c (zy gs) hat0 (w_c (z8f q hce))))))
  refine zB (zIi (z1j (zS (zz (zz (zl rfl (w_c (z6c (zy gs) hat0 (w_c (z8f ⟨_,rfl,λhb=>?_,λ_=>?_⟩ hce))))))))))
  ·rcases hc with ⟨rfl,_⟩|⟨rfl,_⟩
   ·exact absurd hb (by decide +kernel)
   ·exact zS (e2 rfl (b:=true) (by decide +kernel) ⟨_,rfl,λ_=>fin,λh=>(by cases h)⟩)
  ·exact⟨λ_=>fin,λh=>(by cases h)⟩
 obtain⟨d,O2,e,rfl,rfl⟩:=isrow;exact⟨_,_,e,_,rfl,λh=>(by cases h),λ_=>zDb (rest _ .refl)⟩
def Rw(ws:List yn):Prop:=ws≠[]/\ws.length<=30/\∀y∈ws,y.length<=60/\32∉y.cps.toList
def zfw{ws:List yn}(h:Rw ws):(YH " " ws).length<=3000:=by
 have h2:=h.2.1;have:=zbf (z:=" ") (B:=60) (λy hy=>(h.2.2 y hy).1) (by decide) (by omega) (by decide);have h1:(" ":yn).length=1:=rfl;rw[h1]at this;omega
def zez{c:yn}{ws:List yn}(h:Rw ws)(hc:32∉c.cps.toList):(xh (c ++ " " ++ YH " " ws) " ").map D.str=D.str c::ws.map D.str:=by
 rw[(zfp h.1).symm,zCc blank (by decide +kernel) (by simp) λx hx=>?_,map_cons];rcases List.mem_cons.mp hx with rfl|hx
 ·exact hc
 ·exact(h.2.2 x hx).2
def z5D(h0:X≠[])(hl:X.length<=30)(hX:∀k∈X,k<10^60):Rw (X.map num) :=
 ⟨λe=>h0 (List.map_eq_nil_iff.mp e),by rw[length_map];exact hl,λy hy=>⟨zEi hX y hy,zQm y hy⟩⟩
def zzE(h0:X≠[])(hl:X.length<=30):Rw (X.map lt) :=
 ⟨λe=>h0 (List.map_eq_nil_iff.mp e),by rw[length_map];exact hl,λy hy=>⟨yF (z6h y hy) (by decide),z5p y hy⟩⟩
def zly(hl:X.length<=30)(hX:∀x∈X,x<10)(hn:O[n]?=some (.lst (nat X)))(q:∀O',tw O O'->Q (.str (YH " " (X.map lt))) O'):WF zNc [.loc n] O Q:=by
 refine zmb rfl ?_;show WS zBd [some (.loc n)] O _ _ _ _;unfold zBd;refine zFb (zub (w_c ⟨_,rfl,zj (zfi (z1c (zl rfl (.inr (.inr ⟨_,_,rfl,hn,zjb (by rw[length_map];omega),?_⟩)))))⟩));refine zXb (λ(n:Nat)=>D.int n) X (λn =>.str (lt n)) (λO' k=>z9 hn k) (λx hx O' kp=>?_) (λO' kp=>?_)
 ·refine zOe ?_;unfold z1f;exact zz (w_c (zl rfl (zkr (by decide) (zZz x (hX x hx)) ⟨rfl,kp,kp⟩)))
 ·exact zr (zHh (ys:=X.map lt) (by rw[zw,map_map];rfl) (fit z6h (by decide) (by rw[length_map];omega) (by decide)) (q _ kp.to))
def zYq(hl:X.length<=30)(hX:∀x∈X,x<10^60)(hn:O[n]?=some (.lst (nat X)))(q:∀O',tw O O'->Q (.str (zhh X)) O'):WF zTf [.loc n] O Q:=by
 refine zmb rfl ?_;show WS zQf [some (.loc n)] O _ _ _ _;unfold zQf;refine zFb (zub (w_c ⟨_,rfl,zj (zfi (z1c (zl rfl (.inr (.inr ⟨_,_,rfl,hn,zjb (by rw[length_map];omega),?_⟩)))))⟩));refine zXb (λ(n:Nat)=>D.int n) X (λn =>.str (num n)) (λO' k=>z9 hn k) (λx hx O' kp=>?_) (λO' kp=>?_)
 ·refine zOe ?_;unfold zTi;exact zt (zj (zl rfl (zr (zBr (zvu (hX x hx)) ⟨rfl,kp,kp⟩))))
 ·exact zr (zHh (ys:=X.map num) (by rw[zw,map_map];rfl) (fit (zEi hX) (by decide) (by rw[length_map];omega) (by decide)) (q _ kp.to))
def zxB(w:Wb L R K)(a:sV R K X):∀x∈X,x<R.length:=λx hx=>by
 obtain⟨i,hi,rfl⟩:=List.mem_iff_getElem.mp hx;have hl:=a.len;have h1:=a.home i X[i] (K.getD i []) (by rw[yA hi]) (by rw[getD_eq_getElem?_getD,yA (by omega)];rfl);exact(w.key (by omega)).2 _ h1
def Wd(R:List Nat)(K:List (List Nat))(c:yn):Prop:=c="fits"/\zNu R K\/c="crowd"/\¬zNu R K
def Wd.one{c c':yn}(h:Wd R K c)(h':Wd R K c'):c=c':=by
 rcases h with ⟨rfl,f⟩|⟨rfl,f⟩<;>rcases h' with ⟨rfl,f'⟩|⟨rfl,f'⟩
 ·rfl
 ·exact absurd f f'
 ·exact absurd f' f
 ·rfl
def zhw(w:Wb L R K)(hL:L<=60)(q:∀(c:yn)(d:D) O',Wd R K c->tw O O'->Q (.tup [.str c,d]) O'):WF zZd [wn R K] O Q :=
 zSC w hL (λX l O' a k _=>q "fits" _ O' (.inl ⟨rfl,a.fits⟩) k) λl O' nf k=>q "crowd" _ O' (.inr ⟨rfl,nf⟩) k
def z2u{p:Nat}(w:Rl R W)(h0:S≠[])(hS:∀k∈S,k<10^60)(hl:S.length<=30)(hm:O[m]?=some (.ins "Shelf" (fsD (wn R W) p)))(q:∀(c:yn)(ws:List yn) O',Wd R (z6x R (tsN W) S) c->Rw ws->tw O O'->Q (.str (c ++ " " ++ YH " " ws)) O'):WF zoc [.loc m,.str (zhh S)] O Q:=by
 obtain⟨rs,er⟩:=w.rs;have wB:Wb 30 R (z6x R (tsN W) S):=rs.wb hl;have hrl:=w.rl;have hpos:0<S.length:=List.length_pos_iff.mpr h0;have eK:(z6x R (tsN W) S).length=S.length:=length_map _;refine zmb rfl ?_;show WS zWe [some (.loc m),some (.str (zhh S)),none] O _ _ _ _;unfold zWe;refine zB (zMb (zt (zj (zt (zj (zl rfl (zj (zl rfl (zr ?_)))))))));refine ztj w h0 hS hl hm λO1 k1=>zr ?_;refine zWm wB (by decide) (λlay l O2 r hall k2 hl2 g=>?_) (λT l O2 hT hc hs k2 hl2 g=>?_)
 ·obtain⟨X,e,a⟩:=zcq r hall;rw[e]at g;have hX:=zxB wB a;have hXl:X.length=S.length:=a.len.trans eK;refine zB (zIi (zS (zz (zz (zl rfl (w_c (z6c rfl rfl (w_c (z8f ⟨_,rfl,λ_=>?_,λh=>absurd h (by decide +kernel)⟩)))))))));refine zFb (zz (w_c (zt (zj (zz (zl rfl (w_c (z6c rfl rfl (zr ?_)))))))));have hrw:Rw (X.map lt):=zzE (List.length_pos_iff.mp (by omega)) (by omega);refine zly (by omega) (λx hx=>by have:=hX x hx;omega) g λO3 k3=>zau ?_ ?_
  ·have:=zfw hrw;have:("fits ":yn).length=5:=rfl;omega
  ·have e5:("fits ":yn)="fits" ++ " ":=by decide +kernel
   rw[e5];exact q _ _ _ (.inl ⟨rfl,a.fits⟩) hrw (k1.trans (k2.trans k3))
 ·have hTl:T.length<=S.length:=by have:=hT.length_le;rw[length_range,eK]at this;exact this
  have hT0:T≠[]:=by
   rintro rfl;unfold zSe at hc;have:=of_decide_eq_true hc;simp at this
  have hTm:∀k∈T,k<10^60:=λk hk=>by
   have h1:=List.mem_range.mp (hT.subset hk);rw[eK]at h1;exact yE (show k<100 by omega) (by decide)
  refine zB (zIi (zS (zz (zz (zl rfl (w_c (z6c rfl rfl (w_c (z8f ⟨_,rfl,λh=>absurd h (by decide +kernel),λ_=>zDb ?_⟩)))))))));refine zFb (zz (w_c (zt (zj (zz (zl rfl (w_c (z6c rfl rfl (zr ?_)))))))));have hrw:Rw (T.map num):=z5D hT0 (by omega) hTm;refine zYq (by omega) hTm g λO3 k3=>zau ?_ ?_
  ·have h1:(zhh T).length<=3000:=zfw hrw;have:("crowd ":yn).length=6:=rfl;omega
  ·have e5:("crowd ":yn)="crowd" ++ " ":=by decide +kernel
   rw[e5];exact q _ _ _ (.inr ⟨rfl,zsu wB hT hc⟩) hrw (k1.trans (k2.trans k3))
def Ms(R:List Nat)(K:List (List Nat))(c:Nat):Prop:=∃lay N,tU R K lay/\List.Sublist N (yt R.length)/\zpo lay=c/\c=zCn R K N
def Ms.one{c':Nat}(h:Ms R K c)(h':Ms R K c'):c=c':=by
 obtain⟨l,N,r,s,e,b⟩:=h;obtain⟨l',N',r',s',e',b'⟩:=h';have h1:=zwA r (List.nodup_range.sublist s');have h2:=zwA r' (List.nodup_range.sublist s);omega
def zew{G:FE}(w:Wb L R K)(hL:L<=60)(h:WE G J O λd O1=>d=wn R K/\∀(c:Nat) O',c<=L->Ms R K c->tw O1 O'->Q (.str (num c)) O'):WE (zx zFn (zk (zx zej (zk (zx zLn (zk (zC gIx (zx zYn (zk G zA)) (fC (.int 0))) zA)) zA)) zA)) J O Q:=by
 obtain⟨d,O1,e,rfl,q⟩:=h;refine zt (zj (zt (zj (zt (zj (zz (zt (zj ⟨_,_,e,zr ?_⟩)))))))) ;refine zmB w hL λlay N l l2 O2 r hN hb k2 hl hl2 hne g g2=>w_c (z6c rfl rfl (zr ?_));have hll:=r.len;have hkl:=w.kl;refine zTA g (by omega) λl3 O3 k3 hl3 g3=>zr (zvh (zy g3) (zr ?_))
 have e3:(nat (z2A lay)).length=zpo lay:=by
  rw[length_map];unfold z2A zpo;rw[zMf lay none]
 have hle:zpo lay<=lay.length:=List.length_filter_le _ _;rw[e3];exact zBr (zat (by omega)) (q (zpo lay) _ (by omega) ⟨lay,N,r,hN,rfl,hb⟩ (k2.trans k3))
def zNv{p:Nat}(w:Rl R W)(h0:S≠[])(hS:∀k∈S,k<10^60)(hl:S.length<=30)(hm:O[m]?=some (.ins "Shelf" (fsD (wn R W) p)))(q:∀(c:Nat) O',c<=30->Ms R (z6x R (tsN W) S) c->tw O O'->Q (.str (num c)) O'):WF zrc [.loc m,.str (zhh S)] O Q:=by
 obtain⟨rs,er⟩:=w.rs;refine zmb rfl ?_;show WS z3e [some (.loc m),some (.str (zhh S))] O _ _ _ _;unfold z3e;refine zFb (zew (rs.wb hl) (by decide) (zt (zj (zl rfl (zj (zl rfl (zr ?_)))))));exact ztj w h0 hS hl hm λO1 k1=>⟨rfl,λc O' hc hM k=>q c O' hc hM (k1.trans k)⟩
def Dk.kb{O':Mem}{r:D}(h:Dk O n r)(pn:Pen O l B)(k:KB [l] O O'):Dk O' n r:=by
 obtain⟨m,p,h1,h2⟩:=h;obtain⟨f,c,z,a,e,_⟩:=pn
 have hne:n≠l:=by
  rintro rfl;rw[e]at h1;cases h1
 have hme:m≠l:=by
  rintro rfl;rw[e]at h2;cases h2
 exact⟨m,p,k.at_ _ _ (by simpa using hne) h1,k.at_ _ _ (by simpa using hme) h2⟩
def Dk.at{r:D}(h:Dk O n r):∃m,O[n]?=some (.ins "Desk" [("shelf",.loc m)]):=by
 obtain⟨m,p,h1,_⟩:=h;exact⟨m,h1⟩
def z1t:[(("shelf":yn),D.loc m)].lookup ("say":yn)=none:=by
 have h1:(("say":yn) == "shelf")=false:=by decide +kernel
 simp only[lookup_cons,h1,List.lookup_nil]
def z9z(n:Nat):Yv (num n)=true:=ztx λc hc=>by
 rw[z5d]at hc;have:=z7j n c hc;omega
def Rl.four(w:Rl R W):Rl (R.map (· % 4)) W:=by
 refine⟨by rw[length_map];exact w.rl,λr hr=>?_,w.wl,w.wn⟩;obtain⟨x,_,rfl⟩:=List.mem_map.mp hr;have:=Nat.mod_lt x (show 0<4 by decide);omega
def zRz{ns:List Int}(pn:Pen O l 200000)(q:∀O',Q (.bl true) O'):WF zYc [.loc l,.fz (ns.map .int)] O Q:=by
 refine zmb rfl ?_;show WS z7c [some (.loc l),some (.fz (ns.map .int)),none,none,none,none,none] O _ _ _ _;unfold z7c;refine zB (zMb (zt (zj (zl rfl (zr ?_)))));refine zbB pn (by omega) λR0 W O1 w0 k1 p1=>?_;have hrl0:=w0.rl;refine zB (zMb (zYh (zj (zt (zj (zfi (z1c (zz (zl rfl (w_c (zfe (.inl ⟨_,rfl,zjb (by rw[length_map];omega),?_⟩))))))))))));refine zXb (λ(n:Nat)=>D.int n) R0 (λn =>.int ((n%4:Nat):Int)) (λ_ _=>rfl) (λx hx O' kp=>?_) (λO2 k2=>?_)
 ·refine zOe ?_;unfold zpf;exact zz (zl rfl (w_c (zty (by decide) ⟨by congr 1,kp,kp⟩)))
 refine zr (zXd (zy zw) (zj (zz (zl rfl (w_c (zuf (zr ?_)))))));have w:=w0.four;have eR:(R0.map λn=>D.int ((n%4:Nat):Int))=nat (R0.map (· % 4)):=(zNh (· % 4) R0).symm;rw[eR];generalize R0.map (· % 4)=R at w;have p2:Pen (O2++[tD.lst (nat R)]) l 200100:=(p1.kb (L:=[]) (KB.of_keep k2) (by simp)).app.mono (by omega);generalize O2++[tD.lst (nat R)]=O3 at p2;obtain⟨rs,er⟩:=w.rs;refine zB (zMb (zqA (zj (zt (zj (zl rfl (zr (z6s w λO4 k4=>zr ?_))))))));refine zMB w zw λO5 k5 dk=>⟨rfl,?_⟩
 have p4:Pen O4 l 200100:=p2.kb (L:=[]) (KB.of_keep k4) (by simp);have p5:Pen O5 l 200100:=p4.app.kb k5 (by have:=p4.lt;simp;omega);generalize O4.length=dl at dk;refine zB (zMb (zfi (zJh (zj (zz (w_c (zt (zj (zl rfl (zj (w_c (zr (zeh (s:=20) p5 (by omega) (by omega) (by omega) λv O6 hv k6 p6=>zho (zr ⟨_,rfl,by omega,by omega,zjb (by simp;omega),?_⟩))))))))))))));have d6:=dk.kb p5 k6;refine zFm (λi ys O'=>tw O6 O'/\ys.length=i/\∀d∈ys,∃j:Nat,d=.int j/\j<10^40) ⟨.refl,rfl,by simp⟩ (λ_ _ _ _=>rfl) ?_ ?_
 ·rintro i x ys O' hx ⟨k,hl,hy⟩;obtain⟨hi,rfl⟩:=zCg hx;refine zOe (zcz ⟨λ_=>?_,λhf=>by cases hf⟩);unfold zwf;obtain⟨c,ec⟩:=zhA (ns:=ns) (k:=2+(i:Int)) (O:=O') (by omega) (by omega);refine zz (zt (zj (zl rfl (zj (zz (w_c (zl rfl (zho (zr ⟨_,_,ec,?_⟩)))))))));refine zz (w_c (w_c (zzC (by decide) (by decide) (by decide) (zty (by decide) ⟨k,by simp[hl],λd hd=>?_⟩))));rcases List.mem_append.mp hd with hd|hd
  ·exact hy d hd
  ·have hp:(0:Int)<10^(40:Int).toNat:=by decide
   have h1:=Int.emod_nonneg c (Int.ne_of_gt hp);have h2:=Int.emod_lt_of_pos c hp;refine⟨(c%10^(40:Int).toNat).toNat,?_,?_⟩
   ·rw[Int.toNat_of_nonneg h1];exact List.mem_singleton.mp hd
   ·have h3:((10^(40:Int).toNat:Int))=((10^40:Nat):Int):=by decide
    rw[h3]at h2 ⊢;omega
 rintro ys O7 ⟨k7,hl7,hy⟩;obtain⟨S,rfl,hS⟩:=zqw ys hy;simp only[length_map,length_range]at hl7;have hS:∀k∈S,k<10^60:=λk hk=>Xc (hS k hk) (by decide);have hl:S.length<=30:=by omega
 have h0:S≠[]:=List.length_pos_iff.mp (by omega);have d8:Dk (O7++[tD.lst (nat S)]) dl (wn R W):=d6.keep k7.to;have g8:(O7++[tD.lst (nat S)])[O7.length]?=some (.lst (nat S)):=zw;generalize O7++[tD.lst (nat S)]=O8 at d8 g8;generalize O7.length=kl at g8;have wB:Wb 30 R (z6x R (tsN W) S):=rs.wb hl;refine zB (zMb (zt (zj (zl rfl (zj (zl rfl (zr ?_)))))));refine(show ∀{Q':D->Mem->Prop},(∀O',tw O8 O'->Q' (wn R (z6x R (tsN W) S)) O')->WF zUg [wn R W,.loc kl] O8 Q' from λh=>by rw[<-er];exact zxu rs g8 (by omega) h) λO9 k9=>?_;refine zB (zMb (zub (w_c ⟨_,rfl,zj (zfi (z1c (zl rfl (.inr (.inr ⟨_,_,rfl,k9 _ _ g8,zjb (by rw[length_map];omega),?_⟩)))))⟩)));refine zXb (λ(n:Nat)=>D.int n) S (λn =>.str (num n)) (λO' k=>z9 (k9 _ _ g8) k) (λx hx O' kp=>?_) (λO10 k10=>?_)
 ·refine zOe ?_;unfold znf;exact zt (zj (zl rfl (zr (zBr (zvu (hS x hx)) ⟨rfl,kp,kp⟩))))
 refine zr (zHh (ys:=S.map num) (by rw[zw,map_map];rfl) (fit (zEi hS) (by decide) (by rw[length_map];omega) (by decide)) ?_);have d11:Dk (O10++[tD.lst (S.map λn=>D.str (num n))]) dl (wn R W):=d8.keep (k9.trans k10.to);generalize O10++[tD.lst (S.map λn=>D.str (num n))]=O11 at d11;have hkl:=zjm hS hl;obtain⟨dm,g11⟩:=d11.at;refine zB (zIi (zS (zz (zz (zub (zt (zGx (zl rfl ⟨_,_,rfl,g11,z1t,zj (zz (w_c (zl rfl (zau ?_ (zr ?_)))))⟩)))))))) 
 ·have:("fits ":yn).length=5:=rfl;show _+(zhh S).length<=_;omega
 have e5:("fits ":yn)="fits" ++ " ":=by decide +kernel
 rw[e5];refine z2z w (.inl ⟨rfl,rfl,rfl⟩) h0 hS hl d11 λm p O12 k12 g12=>?_;refine z2u w h0 hS hl g12 λc ws O13 hw hr k13=>?_;have hcf:32∉c.cps.toList:=by rcases hw with ⟨rfl,_⟩|⟨rfl,_⟩<;>decide +kernel
 have hcl:c.length<=10:=by rcases hw with ⟨rfl,_⟩|⟨rfl,_⟩<;>decide
 have hce:Yv c=true:=by rcases hw with ⟨rfl,_⟩|⟨rfl,_⟩<;>decide +kernel
 have hlen:(c ++ " " ++ YH " " ws).length<=1000000:=by
  have h1:=zfw hr;rw[zV,zPe,zPe,length_append,length_append,<-zV,<-zV,<-zV];have:(" ":yn).length=1:=rfl;omega
 refine⟨_,rfl,zj (w_c (zr (zMd (zez hr hcf) hlen (zsd blank) (w_c (z6c (zy zw) (show atI _ ((0:Nat):Int)=_ from zuc rfl) ?_)))))⟩;have d14:Dk (O13++[tD.lst (D.str c::ws.map D.str)]) dl (wn R W):=d11.keep (k12.trans k13.to);generalize O13++[tD.lst (D.str c::ws.map D.str)]=O14 at d14;refine zz (zt (zj (zl rfl (zr (zhw wB (by decide) λc' d O15 hw' k15=>?_)))));rw[<-hw.one hw'];refine w_c (z6c rfl rfl (zHy hce ⟨_,rfl,λh=>(by cases h),λ_=>zDb ?_⟩));have d15:=d14.keep k15;obtain⟨dm2,g15⟩:=d15.at;refine zFb (zz (zt (zGx (zl rfl ⟨_,_,rfl,g15,z1t,zj (zz (w_c (zl rfl (zau ?_ (zr ?_)))))⟩))))
 ·have:("most ":yn).length=5:=rfl;show _+(zhh S).length<=_;omega
 have e6:("most ":yn)="most" ++ " ":=by decide +kernel
 rw[e6];refine z2z w (.inr ⟨rfl,rfl,rfl⟩) h0 hS hl d15 λm2 p2 O16 k16 g16=>?_;refine zNv w h0 hS hl g16 λc1 O17 hc1 hm1 k17=>?_;refine zew wB (by decide) (zl rfl ⟨rfl,λc2 O18 hc2 hm2 k18=>?_⟩);rw[<-hm1.one hm2];exact zRE (zGh (z9z _)) (zGh (z9z _)) (q _)
end
abbrev OkS:={s:yn // Yv s=true }
instance:Enc OkS:=⟨λs =>.str s.1,λs =>.str s.1,1,λO n s=>by
 show(bif Yv s.1 then some (PyData.str s.1) else none)=_;rw[s.2];rfl,λa b=>by simp[Ym,Subtype.ext_iff]⟩
def zYy{k:List Nat}(h:∀x∈k,x<10):Yv (z5 k)=true:=ztx λc hc=>by
 rw[z5,z3f]at hc;rcases zCi hc with hc|⟨y,hy,hc⟩
 ·rw[blank]at hc;have:=List.mem_singleton.mp hc;omega
 ·obtain⟨x,hx,rfl⟩:=List.mem_map.mp hy;have:=h x hx;have:=List.mem_singleton.mp hc;omega
def z2p{p q:FS}(I:M.Loc->Mem->Prop)(h1:WS p J O I rt bk ct)(h2:∀J' O',I J' O'->WS q J' O' nx rt bk ct):WS (zgb p q) J O nx rt bk ct:=by
 refine zB ?_;obtain⟨o,e,h⟩:=h1;refine⟨o,e,?_⟩
 cases o with
 |next J' O'=>exact h2 _ _ h
 |ret=>exact h
 |brk=>exact h
 |cont=>exact h
 |exc=>exact h
def zGD{ρ:List Nat}(h:0<ρ.length)(q:∀t:Int,(∀a∈ρ,(a:Int)<=t)->Q (.int t) O):WF zvz [tn ρ] O Q:=by
 have hl:0<(ρ.map λ(k:Nat)=>(k:Int)).length:=by rw[length_map];exact h
 have e:nat ρ=(ρ.map λ(k:Nat)=>(k:Int)).map D.int:=by rw[map_map];rfl
 refine⟨_,_,?_,q _ λa ha=>(zBs hl).2 _ (List.mem_map.mpr ⟨a,ha,rfl⟩)⟩;show(zvn (nat ρ)).bind _=_;rw[e,z6m,yp,decide_eq_true hl,cond_true]
def Want.fits{M:List Nat}(h:Want R K lay M c):zNu (zmv R M) K:=by
 refine⟨lay,h.right,λk hk=>?_⟩;have hl:=h.right.len;have h2:(lay.filter Option.isSome).length=lay.length:=by rw[hl];exact h.all
 rw[getD_eq_getElem?_getD,yA (by omega)];exact List.length_filter_eq_length_iff.mp h2 _ (getElem_mem _)
def zUy(ns:List Int):WF zFv [.fz (ns.map .int)] [] λd _=>d=.bl true:=by
 refine zmb rfl ?_;show WS zgz [some (.fz (ns.map .int)),none,none,none,none,none,none,none,none] [] _ _ _ _;unfold zgz;refine zB (zMb (zt (zj (zl rfl (zj (w_c (zr ?_)))))));refine z6z (by omega) (by omega) λO1 k1 p1 _=>?_;refine zB (zMb (zt (zj (zl rfl (zj (w_c (zr ?_)))))));refine zkC p1 (by omega) (by omega) (by omega) λR' K' O2 wA hR k2 p2=>?_;obtain⟨e,w⟩:=Wr.of wA hR;obtain⟨_,wB⟩:=Wb.of wA;rw[e];generalize R'.map xX=R at w wB;generalize K'.map (·.map xX)=K at w wB;have hrl:=w.rl;have hkl:=w.kl;refine zB (zMb (zt (zj (zl rfl (zr (zWv w λO3 k3=>?_))))));refine zB (zMb (zt (zj (zl rfl (zr (zCo w λO4 k4=>?_))))));refine z2p (λJ ν=>∃(x1 x2:Option D)(c:yn)(l:Nat),J=[some (.fz (ns.map .int)),x1,x2,some (.str (zut R K)),some (wn R K),some (.str c),some (.loc l),none,none]/\((c="fits"/\∃X,sV R K X/\ν[l]?=some (.lst (nat X)))\/(c="crowd"/\∃T:List Nat,T.Sublist (yt K.length)/\zSe R K T=true/\ν[l]?=some (.lst (nat T))))) ?_ ?_
 ·refine zCv (zt (zj (zl rfl (zr ?_))));refine zWm wB (by decide) (λlay l O2 r hall k2 hl2 g=>?_) (λT l O2 hT hc hs k2 hl2 g=>?_)
  ·obtain⟨X,e,a⟩:=zcq r hall;rw[e]at g;exact z4u (zvm (zOe (zvm (zOe (zYu ⟨_,_,_,_,rfl,.inl ⟨rfl,X,a,g⟩⟩)))))
  ·exact z4u (zvm (zOe (zvm (zOe (zYu ⟨_,_,_,_,rfl,.inr ⟨rfl,T,hT,hc,g⟩⟩)))))
 rintro J ν ⟨x1,x2,c,l,rfl,hd⟩;have hce:Yv c=true:=by rcases hd with ⟨rfl,_⟩|⟨rfl,_⟩<;>decide +kernel
 refine z2p (λJ ν'=>J=[some (.fz (ns.map .int)),x1,x2,some (.str (zut R K)),some (wn R K),some (.str c),some (.loc l),none,none]/\tw ν ν') ?_ ?_
 ·refine zIi (zop (zS (zz (zl rfl (w_c (z8f ⟨_,rfl,λhb=>?_,λ_=>⟨λh=>(by cases h),λ_=>zDb ⟨rfl,.refl⟩⟩⟩ hce))))));rcases hd with ⟨rfl,X,a,g⟩|⟨rfl,_⟩
  ·exact zhk (zS (zt (zj (zl rfl (zj (zl rfl (zr (z4w w a g λO' k=>⟨_,rfl,λh=>(by cases h),λ_=>zDb ⟨rfl,k⟩⟩))))))))
  ·exact absurd hb (by decide +kernel)
 rintro J ν1 ⟨rfl,kν1⟩;refine z2p (λJ ν'=>J=[some (.fz (ns.map .int)),x1,x2,some (.str (zut R K)),some (wn R K),some (.str c),some (.loc l),none,none]) ?_ ?_
 ·refine zIi (zop (zS (zz (zl rfl (w_c (zys ⟨_,rfl,λhb=>?_,λ_=>⟨λh=>(by cases h),λ_=>zDb rfl⟩⟩ hce))))));rcases hd with ⟨rfl,_⟩|⟨rfl,T,hT,hc,g⟩
  ·exact absurd hb (by decide +kernel)
  ·refine z1j (zS (zz (zl rfl (w_c (zys ⟨_,rfl,λ_=>?_,λh=>absurd h (by decide +kernel)⟩)))));exact zhk (zS (zt (zj (zl rfl (zj (zl rfl (zr (zVu w wB hT hc (kν1 _ _ g) λO' k=>⟨_,rfl,λh=>(by cases h),λ_=>zDb rfl⟩))))))))
 rintro J ν2 rfl;refine zB (zMb (zt (zj (zl rfl (zj (zz (zt (zj (zl rfl (zr ?_))))))))));refine zzq wB (by decide) λlay Mo m l1 l2 ν3 wt k3 hl1 hl2 hne g g2=>w_c (z6c rfl rfl (zr (zyv (by omega) g λν4 k4=>?_)));have eA:=zMp wt.len;have wZ:=zyB wB wt.len;have fZ:=wt.fits;generalize zmv R Mo=ρ at eA wZ fZ;refine z2p (λJ ν'=>∃a b c d e f g h:Option D,J=[some (.fz (ns.map .int)),a,b,c,d,e,f,g,h]) ?_ ?_
 ·refine zIi (zS (zz (zt (zj (zz (zl rfl (w_c (zfe (zr (zGD (by omega) λt ht=>w_c (zEj ⟨_,rfl,λhb=>?_,λ_=>zDb ⟨_,_,_,_,_,_,_,_,rfl⟩⟩)))))))))));have hb:=of_decide_eq_true hb;have w2:Wr ρ K:=⟨by omega,λr hr=>by have:=ht r hr;omega,hkl,λk hk=>by rw[eA];exact w.kn k hk⟩
  have hok:∀k∈K,Yv (z5 k)=true:=λk hk=>zYy λx hx=>by have:=(w.kn k hk).2 x hx;omega
  refine zB (zMb (zt (zj (zl rfl (zr (zIv w2 λν5 k5=>?_))))));refine zIi (z1j (zS (zz (zz (zt (zj (zt (zj (zl rfl (zr (zCo w2 λν6 k6=>zr ?_)))))))))));refine zhw wZ (by decide) λc' d ν7 hw k7=>w_c (z6c rfl rfl ?_);have hc':c' = "fits":=hw.one (.inl ⟨rfl,fZ⟩);subst hc';refine w_c (zys ⟨_,rfl,λ_=>?_,λh=>absurd h (by decide +kernel)⟩);refine zS (zz (zNx (zub (zl rfl ⟨_,rfl,zj (w_c (zr (zMd (zDj ρ K) w2.len (zsd semi) (zyo (w_c ⟨_,rfl,zfv ⟨_,_,rfl,zw,?_⟩⟩)))))⟩))));refine zNx (zub (zl rfl ⟨_,rfl,zj (w_c (zr (zMd (zDj R K) w.len (zsd semi) (zyo (w_c ⟨_,rfl,zfv ⟨_,_,rfl,zw,?_⟩⟩)))))⟩));have ec:∀R,M.cutD (pcs R K) (some 1) none=K.map λk=>D.str (z5 k):=λR=>zRp (i:=1);rw[ec,ec]
  have es:(K.map λk=>D.str (z5 k))=(K.attach.map λk=>(⟨z5 k.1,hok k.1 k.2⟩:OkS)).map Enc.d:=by
   rw[map_map];show _=K.attach.map λk=>D.str (z5 k.1);exact(List.attach_map_val (f:=λk=>D.str (z5 k))).symm
  rw[es];refine zlF (α:=OkS) _ _ (zzb (zzb zw)) zw ?_;rw[decide_eq_true rfl];exact⟨_,rfl,λh=>(by cases h),λ_=>zDb ⟨_,_,_,_,_,_,_,_,rfl⟩⟩
 rintro J ν5 ⟨a,b,c,d,e,f,g,h,rfl⟩;refine zFb (zt (zj (zt (zj (zl rfl (zj (w_c (zr (z6z (by omega) (by omega) λν6 k6 p6 _=>zj (zl rfl (zr ?_)))))))))));exact zRz (p6.mono (by omega)) λ_=>rfl
def zhy(ns:List Int)(_hn:ns.length<=63):∃O',zFv [.fz (ns.map .int)] []=some (.bl true,O'):=by
 obtain⟨d,O',e,rfl⟩:=zUy ns;exact⟨O',e⟩
end P
namespace P
open PySem PySem.Spec PyProof.Rows L2 M
set_option maxHeartbeats 4000000
def ln1{α:Type}:∀{us:List α},us.length=1->∃a0,us=[a0]
 |[a0],_=>⟨a0,rfl⟩
def fa1{K:yw}{mg:yn->Option yb}{h:yS}{x p0:yn}{st:yR}{f:yc}{fd:yf}(X:K.In h)(φ:h.Ns yi mg)(a:Yj K yi x=some (some (.ref f)))(u:Fun K x x st f fd)
 (b:∀(kV doc pm:yb)(an:Option yc)(cdv ct a0:yb),bindArgs (W.fnOf x x (zQe st) (zQd st) (zu st) .none kV doc pm an cdv ct) ⟨[a0],[]⟩=pure [(p0,a0)]):FnAt K mg x st [p0] f fd :=
 ⟨u,xG X φ a,u.binds λkV doc pm an cdv ct us hl=>by obtain⟨a0,rfl⟩:=ln1 hl;exact b kV doc pm an cdv ct a0⟩
def ln2{α:Type}:∀{us:List α},us.length=2->∃a0 a1,us=[a0,a1]
 |[a0,a1],_=>⟨a0,a1,rfl⟩
def fa2{K:yw}{mg:yn->Option yb}{h:yS}{x p0 p1:yn}{st:yR}{f:yc}{fd:yf}(X:K.In h)(φ:h.Ns yi mg)(a:Yj K yi x=some (some (.ref f)))(u:Fun K x x st f fd)
 (b:∀(kV doc pm:yb)(an:Option yc)(cdv ct a0 a1:yb),bindArgs (W.fnOf x x (zQe st) (zQd st) (zu st) .none kV doc pm an cdv ct) ⟨[a0,a1],[]⟩=pure [(p0,a0),(p1,a1)]):FnAt K mg x st [p0,p1] f fd :=
 ⟨u,xG X φ a,u.binds λkV doc pm an cdv ct us hl=>by obtain⟨a0,a1,rfl⟩:=ln2 hl;exact b kV doc pm an cdv ct a0 a1⟩
def ln3{α:Type}:∀{us:List α},us.length=3->∃a0 a1 a2,us=[a0,a1,a2]
 |[a0,a1,a2],_=>⟨a0,a1,a2,rfl⟩
def fa3{K:yw}{mg:yn->Option yb}{h:yS}{x p0 p1 p2:yn}{st:yR}{f:yc}{fd:yf}(X:K.In h)(φ:h.Ns yi mg)(a:Yj K yi x=some (some (.ref f)))(u:Fun K x x st f fd)
 (b:∀(kV doc pm:yb)(an:Option yc)(cdv ct a0 a1 a2:yb),bindArgs (W.fnOf x x (zQe st) (zQd st) (zu st) .none kV doc pm an cdv ct) ⟨[a0,a1,a2],[]⟩=pure [(p0,a0),(p1,a1),(p2,a2)]):FnAt K mg x st [p0,p1,p2] f fd :=
 ⟨u,xG X φ a,u.binds λkV doc pm an cdv ct us hl=>by obtain⟨a0,a1,a2,rfl⟩:=ln3 hl;exact b kV doc pm an cdv ct a0 a1 a2⟩
def ln4{α:Type}:∀{us:List α},us.length=4->∃a0 a1 a2 a3,us=[a0,a1,a2,a3]
 |[a0,a1,a2,a3],_=>⟨a0,a1,a2,a3,rfl⟩
def fa4{K:yw}{mg:yn->Option yb}{h:yS}{x p0 p1 p2 p3:yn}{st:yR}{f:yc}{fd:yf}(X:K.In h)(φ:h.Ns yi mg)(a:Yj K yi x=some (some (.ref f)))(u:Fun K x x st f fd)
 (b:∀(kV doc pm:yb)(an:Option yc)(cdv ct a0 a1 a2 a3:yb),bindArgs (W.fnOf x x (zQe st) (zQd st) (zu st) .none kV doc pm an cdv ct) ⟨[a0,a1,a2,a3],[]⟩=pure [(p0,a0),(p1,a1),(p2,a2),(p3,a3)]):FnAt K mg x st [p0,p1,p2,p3] f fd :=
 ⟨u,xG X φ a,u.binds λkV doc pm an cdv ct us hl=>by obtain⟨a0,a1,a2,a3,rfl⟩:=ln4 hl;exact b kV doc pm an cdv ct a0 a1 a2 a3⟩
def all_of{l:W.OpenLaw}{w:yI}{K:yw}{h:yS}{mg:yn->Option yb}{fa:yc}(X:K.In h)(φ:h.Ns yi mg)(hfa:mg "law"=some (.ref fa))(e:Hd.obs K=Hd.good)
 : ∃fd:yf,(∀(s:yd)(v:yb),BindsTo s fd ⟨[v],[]⟩ [("_law_script",v)])/\∀base:yS,K.In base->base.Ns yi mg->tm l.prog w K mg base CX0 10 fa fd ["_law_script"] (spM K 1 zFv):=by
 have e_fn:=congrArg (·.1) e;have e_vv:=congrArg (·.2.1) e;have e_it:=congrArg (·.2.2.1) e;have e_st:=congrArg (·.2.2.2.1) e;have e_bb:=congrArg (·.2.2.2.2.1) e;have e_dd:=congrArg (·.2.2.2.2.2) e;obtain⟨⟨_,_,a0,u0⟩,e_fn⟩:=fnc e_fn;have zUf:FnAt K mg "_law_mixed" zGf z5c _ _:=fa2 X φ a0 u0 λ_ _ _ _ _ _ _ _=>rfl;obtain⟨⟨_,_,a1,u1⟩,e_fn⟩:=fnc e_fn;have zac:FnAt K mg "_law_cell_at" zkd zCb _ _:=fa2 X φ a1 u1 λ_ _ _ _ _ _ _ _=>rfl;obtain⟨⟨_,_,a2,u2⟩,e_fn⟩:=fnc e_fn;have zmg:FnAt K mg "_law_pen" zzi zpe _ _:=fa2 X φ a2 u2 λ_ _ _ _ _ _ _ _=>rfl;obtain⟨⟨_,_,a3,u3⟩,e_fn⟩:=fnc e_fn;have zI:FnAt K mg "_law_take" zhe zTb _ _:=fa2 X φ a3 u3 λ_ _ _ _ _ _ _ _=>rfl;obtain⟨⟨_,_,a4,u4⟩,e_fn⟩:=fnc e_fn;have zbi:FnAt K mg "_law_web" zBi zje _ _:=fa2 X φ a4 u4 λ_ _ _ _ _ _ _ _=>rfl;obtain⟨⟨_,_,a5,u5⟩,e_fn⟩:=fnc e_fn;have zch:FnAt K mg "_law_text" zGg zKd _ _:=fa1 X φ a5 u5 λ_ _ _ _ _ _ _=>rfl;obtain⟨⟨_,_,a6,u6⟩,e_fn⟩:=fnc e_fn;have zMc:FnAt K mg "check_text" zEe z5b _ _:=fa1 X φ a6 u6 λ_ _ _ _ _ _ _=>rfl;obtain⟨⟨_,_,a7,u7⟩,e_fn⟩:=fnc e_fn;have zkc:FnAt K mg "read_number" zSd zPb _ _:=fa1 X φ a7 u7 λ_ _ _ _ _ _ _=>rfl;obtain⟨⟨_,_,a8,u8⟩,e_fn⟩:=fnc e_fn;have zNb:FnAt K mg "read_numbers" zid zEb _ _:=fa1 X φ a8 u8 λ_ _ _ _ _ _ _=>rfl;obtain⟨⟨_,_,a9,u9⟩,e_fn⟩:=fnc e_fn;have zrb:FnAt K mg "is_tuple" zHd zpb _ _:=fa3 X φ a9 u9 λ_ _ _ _ _ _ _ _ _=>rfl;obtain⟨⟨_,_,a10,u10⟩,e_fn⟩:=fnc e_fn;have z1g:FnAt K mg "is_number" zlh zzd _ _:=fa2 X φ a10 u10 λ_ _ _ _ _ _ _ _=>rfl;obtain⟨⟨_,_,a11,u11⟩,e_fn⟩:=fnc e_fn;have zX:FnAt K mg "is_number_tuple" zUb zT _ _:=fa4 X φ a11 u11 λ_ _ _ _ _ _ _ _ _ _=>rfl;obtain⟨⟨_,_,a12,u12⟩,e_fn⟩:=fnc e_fn;have ztd:FnAt K mg "are_rooms" zxf zjc _ _:=fa1 X φ a12 u12 λ_ _ _ _ _ _ _=>rfl;obtain⟨⟨_,_,a13,u13⟩,e_fn⟩:=fnc e_fn;have z8h:FnAt K mg "are_keys" z7h zqe _ _:=fa2 X φ a13 u13 λ_ _ _ _ _ _ _ _=>rfl;obtain⟨⟨_,_,a14,u14⟩,e_fn⟩:=fnc e_fn;have zUl:FnAt K mg "is_web" z8l zbg _ _:=fa1 X φ a14 u14 λ_ _ _ _ _ _ _=>rfl;obtain⟨⟨_,_,a15,u15⟩,e_fn⟩:=fnc e_fn;have zkh:FnAt K mg "read_nest" zPg zGd _ _:=fa1 X φ a15 u15 λ_ _ _ _ _ _ _=>rfl;obtain⟨⟨_,_,a16,u16⟩,e_fn⟩:=fnc e_fn;have zJf:FnAt K mg "read_homes" zIf z8c _ _:=fa1 X φ a16 u16 λ_ _ _ _ _ _ _=>rfl;obtain⟨⟨_,_,a17,u17⟩,e_fn⟩:=fnc e_fn;have zxg:FnAt K mg "read_web" zxi zce _ _:=fa1 X φ a17 u17 λ_ _ _ _ _ _ _=>rfl;obtain⟨⟨_,_,a18,u18⟩,e_fn⟩:=fnc e_fn;have zZp:FnAt K mg "lying" zHp zei _ _:=fa2 X φ a18 u18 λ_ _ _ _ _ _ _ _=>rfl;obtain⟨⟨_,_,a19,u19⟩,e_fn⟩:=fnc e_fn;have z5g:FnAt K mg "pushes_to" z2g zwd _ _:=fa3 X φ a19 u19 λ_ _ _ _ _ _ _ _ _=>rfl;obtain⟨⟨_,_,a20,u20⟩,e_fn⟩:=fnc e_fn;have Tr:FnAt K mg "left" zOr zMh _ _:=fa2 X φ a20 u20 λ_ _ _ _ _ _ _ _=>rfl;obtain⟨⟨_,_,a21,u21⟩,e_fn⟩:=fnc e_fn;have zam:FnAt K mg "row_to" zZl ztg _ _:=fa2 X φ a21 u21 λ_ _ _ _ _ _ _ _=>rfl;obtain⟨⟨_,_,a22,u22⟩,e_fn⟩:=fnc e_fn;have z0l:FnAt K mg "put_in" z6l zvg _ _:=fa3 X φ a22 u22 λ_ _ _ _ _ _ _ _ _=>rfl;obtain⟨⟨_,_,a23,u23⟩,e_fn⟩:=fnc e_fn;have zkq:FnAt K mg "fault" zDp zji _ _:=fa2 X φ a23 u23 λ_ _ _ _ _ _ _ _=>rfl;obtain⟨⟨_,_,a24,u24⟩,e_fn⟩:=fnc e_fn;have zTj:FnAt K mg "is_push" zxk zdf _ _:=fa4 X φ a24 u24 λ_ _ _ _ _ _ _ _ _ _=>rfl;obtain⟨⟨_,_,a25,u25⟩,e_fn⟩:=fnc e_fn;have zNj:FnAt K mg "follows" zak zhf _ _:=fa4 X φ a25 u25 λ_ _ _ _ _ _ _ _ _ _=>rfl;obtain⟨⟨_,_,a26,u26⟩,e_fn⟩:=fnc e_fn;have zXl:FnAt K mg "pushed" zWl zqg _ _:=fa4 X φ a26 u26 λ_ _ _ _ _ _ _ _ _ _=>rfl;obtain⟨⟨_,_,a27,u27⟩,e_fn⟩:=fnc e_fn;have zAg:FnAt K mg "laid_more" zSg zDd _ _:=fa3 X φ a27 u27 λ_ _ _ _ _ _ _ _ _=>rfl;obtain⟨⟨_,_,a28,u28⟩,e_fn⟩:=fnc e_fn;have zyb:FnAt K mg "laid_at_all" zZc znb _ _:=fa1 X φ a28 u28 λ_ _ _ _ _ _ _=>rfl;obtain⟨⟨_,_,a29,u29⟩,e_fn⟩:=fnc e_fn;have zGj:FnAt K mg "room_of" zrk zaf _ _:=fa2 X φ a29 u29 λ_ _ _ _ _ _ _ _=>rfl;obtain⟨⟨_,_,a30,u30⟩,e_fn⟩:=fnc e_fn;have zme:FnAt K mg "homes_of" zjg zRc _ _:=fa2 X φ a30 u30 λ_ _ _ _ _ _ _ _=>rfl;obtain⟨⟨_,_,a31,u31⟩,e_fn⟩:=fnc e_fn;have zki:FnAt K mg "is_crowd" zoi zde _ _:=fa2 X φ a31 u31 λ_ _ _ _ _ _ _ _=>rfl;obtain⟨⟨_,_,a32,u32⟩,e_fn⟩:=fnc e_fn;have zkf:FnAt K mg "spare_key" zFg zAd _ _:=fa2 X φ a32 u32 λ_ _ _ _ _ _ _ _=>rfl;obtain⟨⟨_,_,a33,u33⟩,e_fn⟩:=fnc e_fn;have zQj:FnAt K mg "trimmed" zxj zgf _ _:=fa2 X φ a33 u33 λ_ _ _ _ _ _ _ _=>rfl;obtain⟨⟨_,_,a34,u34⟩,e_fn⟩:=fnc e_fn;have z1d:FnAt K mg "fitted" zsi zed _ _:=fa1 X φ a34 u34 λ_ _ _ _ _ _ _=>rfl;obtain⟨⟨_,_,a35,u35⟩,e_fn⟩:=fnc e_fn;have zpj:FnAt K mg "widened" zqj zcf _ _:=fa2 X φ a35 u35 λ_ _ _ _ _ _ _ _=>rfl;obtain⟨⟨_,_,a36,u36⟩,e_fn⟩:=fnc e_fn;have zHg:FnAt K mg "_law_rule" znh zyd _ _:=fa1 X φ a36 u36 λ_ _ _ _ _ _ _=>rfl;obtain⟨pn_Shelf,e_vv⟩:=yh e_vv;obtain⟨pg_Shelf,e_bb⟩:=yh e_bb;obtain⟨ph_Shelf,e_bb⟩:=yh e_bb;obtain⟨po_Shelf,e_bb⟩:=yh e_bb;obtain⟨ps0_Shelf,e_vv⟩:=yh e_vv;have cl_Shelf:Cls K 442:=⟨pg_Shelf,ph_Shelf,po_Shelf,ps0_Shelf⟩
 obtain⟨na,e_vv⟩:=yh e_vv;have Te:z1r K "Shelf" "nest_of":=λC h=>by rw[pn_Shelf]at h;cases h;exact⟨cl_Shelf,na⟩
 obtain⟨na,e_vv⟩:=yh e_vv;have tT:z1r K "Shelf" "kept_rule":=λC h=>by rw[pn_Shelf]at h;cases h;exact⟨cl_Shelf,na⟩
 obtain⟨ma,e_vv⟩:=yh e_vv;obtain⟨mb,e_bb⟩:=yh e_bb;obtain⟨_,_,_,_,_,_,_,_,_,ml,mc,mk⟩:=zwj (yh e_fn).1;replace e_fn:=(yh e_fn).2;have u37:=zlp (st:=zwc) ml mc mk;obtain⟨mm,e_bb⟩:=yh e_bb;obtain⟨mq,e_bb⟩:=yh e_bb;have zqd:TQ K mg "Shelf" zwc zvb _ _ _:=⟨pn_Shelf,xG X φ pn_Shelf,⟨mm,ma,mb,mq⟩,u37,(u37.binds (ps:=zvb) λ_ _ _ _ _ _ us hl=>by obtain⟨_,_,rfl⟩:=ln2 hl;rfl)⟩
 obtain⟨⟨_,_,a38,u38⟩,e_fn⟩:=fnc e_fn;have zri:FnAt K mg "are_ways" zpi zoe _ _:=fa1 X φ a38 u38 λ_ _ _ _ _ _ _=>rfl;obtain⟨⟨_,_,a39,u39⟩,e_fn⟩:=fnc e_fn;have zWj:FnAt K mg "is_rule" z8j zff _ _:=fa1 X φ a39 u39 λ_ _ _ _ _ _ _=>rfl;obtain⟨⟨_,_,a40,u40⟩,e_fn⟩:=fnc e_fn;have zOg:FnAt K mg "read_rule" zKg zId _ _:=fa1 X φ a40 u40 λ_ _ _ _ _ _ _=>rfl;obtain⟨pn_Desk,e_vv⟩:=yh e_vv;obtain⟨pg_Desk,e_bb⟩:=yh e_bb;obtain⟨ph_Desk,e_bb⟩:=yh e_bb;obtain⟨po_Desk,e_bb⟩:=yh e_bb;obtain⟨ps0_Desk,e_vv⟩:=yh e_vv;have cl_Desk:Cls K 585:=⟨pg_Desk,ph_Desk,po_Desk,ps0_Desk⟩
 obtain⟨na,e_vv⟩:=yh e_vv;have Tg:z1r K "Desk" "shelf":=λC h=>by rw[pn_Desk]at h;cases h;exact⟨cl_Desk,na⟩
 obtain⟨ma,e_vv⟩:=yh e_vv;obtain⟨mb,e_bb⟩:=yh e_bb;obtain⟨_,_,_,_,_,_,_,_,_,ml,mc,mk⟩:=zwj (yh e_fn).1;replace e_fn:=(yh e_fn).2;have u41:=zlp (st:=zVc) ml mc mk;obtain⟨mm,e_bb⟩:=yh e_bb;obtain⟨mq,e_bb⟩:=yh e_bb;have zYd:TQ K mg "Desk" zVc zJb _ _ _:=⟨pn_Desk,xG X φ pn_Desk,⟨mm,ma,mb,mq⟩,u41,(u41.binds (ps:=zJb) λ_ _ _ _ _ _ us hl=>by obtain⟨_,_,rfl⟩:=ln2 hl;rfl)⟩
 obtain⟨⟨_,_,a42,u42⟩,e_fn⟩:=fnc e_fn;have zHq:FnAt K mg "homes" zPp zii _ _:=fa2 X φ a42 u42 λ_ _ _ _ _ _ _ _=>rfl;obtain⟨⟨_,_,a43,u43⟩,e_fn⟩:=fnc e_fn;have z9g:FnAt K mg "web_of" zyk zJe _ _:=fa2 X φ a43 u43 λ_ _ _ _ _ _ _ _=>rfl;obtain⟨⟨_,_,a44,u44⟩,e_fn⟩:=fnc e_fn;have zOb:FnAt K mg "show_numbers" zfd zAb _ _:=fa1 X φ a44 u44 λ_ _ _ _ _ _ _=>rfl;obtain⟨⟨_,_,a45,u45⟩,e_fn⟩:=fnc e_fn;have zLg:FnAt K mg "show_rule" zIg zJd _ _:=fa1 X φ a45 u45 λ_ _ _ _ _ _ _=>rfl;obtain⟨⟨_,_,a46,u46⟩,e_fn⟩:=fnc e_fn;have zYl:FnAt K mg "is_row" zTl zig _ _:=fa1 X φ a46 u46 λ_ _ _ _ _ _ _=>rfl;obtain⟨ma,e_vv⟩:=yh e_vv;obtain⟨mb,e_bb⟩:=yh e_bb;obtain⟨_,_,_,_,_,_,_,_,_,ml,mc,mk⟩:=zwj (yh e_fn).1;replace e_fn:=(yh e_fn).2;have u47:=zlp (st:=zBe) ml mc mk;have zBf:MethAt K "Shelf" "rule" "Shelf.rule" zBe zqc _ _ _:=⟨pn_Shelf,cl_Shelf,⟨ma,mb,mk⟩,u47,(u47.binds (ps:=zqc) λ_ _ _ _ _ _ us hl=>by obtain⟨_,rfl⟩:=ln1 hl;rfl)⟩
 obtain⟨⟨_,_,a48,u48⟩,e_fn⟩:=fnc e_fn;have z7b:FnAt K mg "web_of_words" zhd zBb _ _:=fa2 X φ a48 u48 λ_ _ _ _ _ _ _ _=>rfl;obtain⟨⟨_,_,a49,u49⟩,e_fn⟩:=fnc e_fn;have zWf:FnAt K mg "show_words" zXf zad _ _:=fa1 X φ a49 u49 λ_ _ _ _ _ _ _=>rfl;obtain⟨⟨_,_,a50,u50⟩,e_fn⟩:=fnc e_fn;have zSc:FnAt K mg "show_homes" zLe z2b _ _:=fa1 X φ a50 u50 λ_ _ _ _ _ _ _=>rfl;obtain⟨⟨_,_,a51,u51⟩,e_fn⟩:=fnc e_fn;have z0e:FnAt K mg "answer_fits" zZe zAc _ _:=fa2 X φ a51 u51 λ_ _ _ _ _ _ _ _=>rfl;obtain⟨⟨_,_,a52,u52⟩,e_fn⟩:=fnc e_fn;have z4m:FnAt K mg "laid" zqr zWh _ _:=fa1 X φ a52 u52 λ_ _ _ _ _ _ _=>rfl;obtain⟨⟨_,_,a53,u53⟩,e_fn⟩:=fnc e_fn;have zcn:FnAt K mg "most" zar z2h _ _:=fa1 X φ a53 u53 λ_ _ _ _ _ _ _=>rfl;obtain⟨⟨_,_,a54,u54⟩,e_fn⟩:=fnc e_fn;have z6e:FnAt K mg "answer_most" zXe zzc _ _:=fa2 X φ a54 u54 λ_ _ _ _ _ _ _ _=>rfl;obtain⟨ma,e_vv⟩:=yh e_vv;obtain⟨mb,e_bb⟩:=yh e_bb;obtain⟨_,_,_,_,_,_,_,_,_,ml,mc,mk⟩:=zwj (yh e_fn).1;replace e_fn:=(yh e_fn).2;have u55:=zlp (st:=zgg) ml mc mk;have zfg:MethAt K "Desk" "say" "Desk.say" zgg zud _ _ _:=⟨pn_Desk,cl_Desk,⟨ma,mb,mk⟩,u55,(u55.binds (ps:=zud) λ_ _ _ _ _ _ us hl=>by obtain⟨_,_,rfl⟩:=ln2 hl;rfl)⟩
 obtain⟨⟨_,_,a56,u56⟩,e_fn⟩:=fnc e_fn;have z2c:FnAt K mg "_law_desk_alike" zXc zGb _ _:=fa2 X φ a56 u56 λ_ _ _ _ _ _ _ _=>rfl;obtain⟨⟨_,_,a57,u57⟩,e_fn⟩:=fnc e_fn;have zvi:FnAt K mg "show_web" zHi zre _ _:=fa1 X φ a57 u57 λ_ _ _ _ _ _ _=>rfl;obtain⟨⟨_,_,a58,u58⟩,e_fn⟩:=fnc e_fn;have zlc:FnAt K mg "_law_laid_in_text" znc zqb _ _:=fa2 X φ a58 u58 λ_ _ _ _ _ _ _ _=>rfl;obtain⟨⟨_,_,a59,u59⟩,e_fn⟩:=fnc e_fn;have z7e:FnAt K mg "room_wanted" z1e zBc _ _:=fa1 X φ a59 u59 λ_ _ _ _ _ _ _=>rfl;obtain⟨⟨_,_,a60,u60⟩,e_fn⟩:=fnc e_fn;have zcc:FnAt K mg "_law_crowd_in_text" zdc zkb _ _:=fa2 X φ a60 u60 λ_ _ _ _ _ _ _ _=>rfl;obtain⟨⟨f61,oc61,od61,sl61,kV61,dc61,pm61,an61,cd61,ct61,a61,l61,c61,k61⟩,e_fn⟩:=fnl e_fn;have u61:=zlp (st:=zCs) l61 c61 k61;have zDE:FnAt K mg "law" zCs zCu _ _:=fa1 X φ a61 u61 λ_ _ _ _ _ _ _=>rfl;have e:=hfa.symm.trans (xG X φ a61);cases e;obtain⟨za,e_vv⟩:=yh e_vv;obtain⟨zc,e_vv⟩:=yh e_vv;have tY:mg "left_layings"=mg "left":=(xG X φ za).trans (xG X φ zc).symm;obtain⟨nn_answer_fits,e_vv⟩:=yh e_vv;have Tk:∃f,Yj K yi "answer_fits"=some (some (.ref f))/\mg "answer_fits"=some (.ref f):=⟨_,nn_answer_fits,xG X φ nn_answer_fits⟩
 obtain⟨nn_answer_most,e_vv⟩:=yh e_vv;have Tl:∃f,Yj K yi "answer_most"=some (some (.ref f))/\mg "answer_most"=some (.ref f):=⟨_,nn_answer_most,xG X φ nn_answer_most⟩
 obtain⟨ans_ok,a_an,n_an⟩:=z8w (tb:=SH) (yh e_dd).1 (Ss (by rfl) nn_answer_fits (Ss (by rfl) nn_answer_most dicNil));have an_ok:∃a,Yj K yi "ANSWERS"=some (some (.ref a))/\mg "ANSWERS"=some (.ref a):=⟨_,n_an,xG X φ n_an⟩
 obtain⟨zmF,e_vv⟩:=yh e_vv;obtain⟨zrF,e_vv⟩:=yh e_vv;obtain⟨zwC,e_vv⟩:=yh e_vv;obtain⟨zHs,e_vv⟩:=yh e_vv;obtain⟨zJE,e_vv⟩:=yh e_vv;obtain⟨zus,e_vv⟩:=yh e_vv;obtain⟨zLE,e_vv⟩:=yh e_vv;obtain⟨z7C,e_vv⟩:=yh e_vv;obtain⟨zZE,e_vv⟩:=yh e_vv;obtain⟨zKB,e_vv⟩:=yh e_vv;obtain⟨zwv,e_vv⟩:=yh e_vv;obtain⟨ziF,e_vv⟩:=yh e_vv;obtain⟨zdz,e_vv⟩:=yh e_vv;obtain⟨zFE,e_vv⟩:=yh e_vv;obtain⟨zaF,e_vv⟩:=yh e_vv;obtain⟨zDB,e_vv⟩:=yh e_vv;obtain⟨zuE,e_vv⟩:=yh e_vv;obtain⟨t_DIVISOR,v_DIVISOR⟩:=z0h (yh e_it).1;replace e_it:=(yh e_it).2;obtain⟨t_MOST_NESTS,v_MOST_NESTS⟩:=z0h (yh e_it).1;replace e_it:=(yh e_it).2;obtain⟨t_MOST_ROOM,v_MOST_ROOM⟩:=z0h (yh e_it).1;replace e_it:=(yh e_it).2;obtain⟨t_MOST_KEYS,v_MOST_KEYS⟩:=z0h (yh e_it).1;replace e_it:=(yh e_it).2;obtain⟨t_FIGURES,v_FIGURES⟩:=zns (yh e_st).1;replace e_st:=(yh e_st).2;obtain⟨t_MOST_FIGURES,v_MOST_FIGURES⟩:=z0h (yh e_it).1;replace e_it:=(yh e_it).2;obtain⟨t_LETTERS,v_LETTERS⟩:=zns (yh e_st).1;replace e_st:=(yh e_st).2;have T:Txt K mg:=⟨ans_ok,an_ok,Tk,Tl,Te,tT,Tg,tY,Yw X φ zmF,Yw X φ zrF,Yw X φ zwC,Yw X φ zHs,Yw X φ zJE,Yw X φ zus,Yw X φ zLE,Yw X φ z7C,Yw X φ zZE,Yw X φ zKB,Yw X φ zwv,Yw X φ ziF,Yw X φ zdz,Yw X φ zFE,Yw X φ zaF,Yw X φ zDB,Yw X φ zuE,⟨t_DIVISOR,xG X φ v_DIVISOR⟩,⟨t_MOST_NESTS,xG X φ v_MOST_NESTS⟩,⟨t_MOST_ROOM,xG X φ v_MOST_ROOM⟩,⟨t_MOST_KEYS,xG X φ v_MOST_KEYS⟩,⟨t_FIGURES,xG X φ v_FIGURES⟩,⟨t_MOST_FIGURES,xG X φ v_MOST_FIGURES⟩,⟨t_LETTERS,xG X φ v_LETTERS⟩⟩
 refine⟨W.fnOf "law" "law" (zQe zCs) (zQd zCs) (zu zCs) .none kV61 dc61 pm61 an61 cd61 ct61,λs v =>.of_eq rfl,λbase _ _=>?_⟩;have zoh:=zko (P:=l.prog) (w:=w) (base:=base) T zUf;have zhc:=zMl T zUf zoh zac;have z0g:=z9r T zac zhc zmg;have zF:=zfq (P:=l.prog) (w:=w) (base:=base) T zI;have zVi:=zxr T zI zF zbi;have zTh:=zTp (P:=l.prog) (w:=w) (base:=base) T zch;have z9c:=zlo (P:=l.prog) (w:=w) (base:=base) T zMc;have zDc:=zrn (P:=l.prog) (w:=w) (base:=base) T zkc;have zWb:=zIl T zkc zDc zNb;have zfb:=z7q (P:=l.prog) (w:=w) (base:=base) T zrb;have zUh:=zJq (P:=l.prog) (w:=w) (base:=base) T z1g;have zZ:=zZi T zrb zfb z1g zUh zX;have zEd:=zwq T zX zZ ztd;have z9i:=z6r T zrb zfb zX zZ z8h;have zlm:=zQv T zrb zfb ztd zEd z8h z9i zUl;have zPh:=zUp (P:=l.prog) (w:=w) (base:=base) T zkh;have zXg:=zmo T zkh zPh zJf;have zBg:=zvs T zMc z9c zNb zWb zUl zlm zJf zXg zxg;have z9p:=zQw (P:=l.prog) (w:=w) (base:=base) T zZp;have zDh:=zvq T zZp z9p z5g;have zXk:=zUz (P:=l.prog) (w:=w) (base:=base) T Tr;have zon:=znv (P:=l.prog) (w:=w) (base:=base) T zam;have z0m:=zLu T z5g zDh Tr zXk zam zon z0l;have zxq:=zcx T Tr zXk zkq;have zCk:=zqt (P:=l.prog) (w:=w) (base:=base) T zTj;have z0k:=zkt (P:=l.prog) (w:=w) (base:=base) T zNj;have zZm:=zSu T zkq zxq zTj zCk zNj z0k zXl;have zRh:=zqq T z0l z0m zXl zZm zAg;have zxb:=z4n T zAg zRh zyb;have zJk:=zYs (P:=l.prog) (w:=w) (base:=base) T zGj;have zie:=zDr (P:=l.prog) (w:=w) (base:=base) T zme;have zdj:=zgs T zGj zJk zme zie zki;have zYf:=zgq T zki zdj zkf;have zTk:=zIs T zkf zYf zQj;have zmd:=zqv T zyb zxb zQj zTk z1d;have z2k:=z2s (P:=l.prog) (w:=w) (base:=base) T zpj;have z3h:=zCp T zI zF zHg;have zle:=z4j (P:=l.prog) (w:=w) (base:=base) T zqd;have z5i:=zbs T zrb zfb zX zZ zri;have zDk:=zzs T zrb zfb ztd zEd zri z5i zWj;have z1h:=z7p T zMc z9c zNb zWb zWj zDk zOg;have zRe:=zZk T zqd zle zOg z1h zYd;have zmq:=z1w (P:=l.prog) (w:=w) (base:=base) T zHq;have zug:=zJv T zHq zmq z9g;have zYb:=zNl (P:=l.prog) (w:=w) (base:=base) T zOb;have zKh:=zGp T zOb zYb zLg;have zfn:=zrv (P:=l.prog) (w:=w) (base:=base) T zYl;have zQg:=zio (P:=l.prog) (w:=w) (base:=base) T zBf;have zgc:=zJl T z9g zug zBf zQg zkc zDc z7b;have zRg:=zao (P:=l.prog) (w:=w) (base:=base) T zWf;have z4c:=zco (P:=l.prog) (w:=w) (base:=base) T zSc;have z6f:=zDn T z1d zmd z7b zgc zWf zRg zSc z4c z0e;have zGk:=zTz (P:=l.prog) (w:=w) (base:=base) T z4m;have zYk:=zwz T zyb zxb zme zie zcn;have zag:=zOm T z4m zGk zcn zYk z7b zgc z6e;have zVg:=z1q T zYl zfn z0e z6f z6e zag zfg;have zOd:=zWi T zHg z3h zYd zRe z9g zug zLg zKh zfg zVg zac zhc z1d zmd z4m zGk zI zF zcn zYk z2c;have z0i:=znr T zOb zYb zSc z4c zvi;have zbd:=zCh (P:=l.prog) (w:=w) (base:=base) T zlc;have z5f:=zXm T zyb zxb z7e;have zJc:=zwh (P:=l.prog) (w:=w) (base:=base) T zcc;exact zSA T zmg z0g zbi zVi zch zTh zxg zBg z1d zmd zpj z2k z2c zOd zvi z0i zlc zbd z7e z5f zcc zJc zDE
def walk{l:W.OpenLaw}{q:yu}{loose:List yn}{XP:(yn->Option yb)->yS->Prop}{YP:yI->yS->Prop}{d:DefRec}{K:Params->yw}(hn:l.most=some 63)(hdf:d.params.defaults=[])
 (hY:∀(w:yI)(h:yS),YP w h->(K w.params).In h)
 (F:∀(w:yI)(mg:yn->Option yb)(fa:yc)(h:yS),(K w.params).In h->h.Ns yi mg->mg d.name=some (.ref fa) ->
  ∃fd:yf,(∀(s:yd)(u:yb),BindsTo s fd ⟨[u],[]⟩ [("_law_script",u)])/\∀base:yS,(K w.params).In base->base.Ns yi mg->tm l.prog w (K w.params) mg base CX0 10 fa fd ["_law_script"] (spM (K w.params) 1 zFv)) :
 W.WalkO q loose XP YP l.row.toRowW d [] (λf vs=>PySem.call f vs) :=
 L2.walk_of (n:=63) (k:=10) (x:="_law_script") (CX:=λ_=>CX0) (sp:=λw=>spM (K w.params) 1 zFv) hn (by decide) hdf (by first|exact⟨rfl,by decide,by decide,rfl⟩|exact⟨rfl,by decide,by decide⟩) hY F (λ_ _ a ns hl hO hS=>znD (zhy ns hl) hO hS) λ_ _ _ _ _ z=>z
end P
open PySem PySem.W PyProof.Rows
set_option maxRecDepth 100000 in
set_option maxHeartbeats 0 in
theorem PySem.Challenge.cw_keynests_k74_whole_from_text_to_places_holds : PySem.Challenge.rw_keynests_k74_whole_from_text_to_places.Holds := by
 refine M.SG (l:=xk) (q:=Hd.qv) (loose:=Hd.lse) (d:=Hd.dl) (obs:=Hd.obs) (good:=Hd.good) (N:=20000) Hd.hd1 Hd.hd2 Hd.hd3 Hd.hd4 Hd.hd5 Hd.hd6 Hd.hd7 ?hw λK e=>?_
 case hw=>w_witness2
 exact P.walk (l:=xk) (K:=λ_=>K) (by rfl) (by rfl) (λw h σ=>σ) λw mg fa h KX φ hmg=>P.all_of KX φ hmg e
