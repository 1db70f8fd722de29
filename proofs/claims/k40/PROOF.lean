import PyProof.Rows.All
import Lean
import PySem.Challenge.RW_keynests_k40_webs_that_do_not_fit
import KE.KTryDeep
import KE.IntBitsLaws
import KE.KDictList
import KE.KIsAll
import KE.KRevIter
import KE.KItem
set_option autoImplicit false
open List (all_cons all_map any_cons any_map append_assoc append_nil countP_cons count_cons drop_eq_getElem_cons filterMap_cons filter_sublist flatten_cons getD_eq_getElem?_getD getElem_mem length_append length_cons length_drop length_map length_range length_set length_take lookup_cons mapM_cons map_append map_cons map_map map_set mem_append mem_append_left mem_append_right mem_cons mem_cons_of_mem mem_cons_self mem_filter mem_map mem_of_getElem? mem_range nodup_append nodup_cons not_mem_nil replicate_succ size_toArray sum_cons take_append_drop take_length take_succ)
set_option maxRecDepth 100000
set_option linter.all false
set_option Elab.async false
namespace M
open PySem PySem.W PyProof.Rows
noncomputable def kOf (as:List Addr) (h:Heap):Frag:=as.filterMap fun a=>(h.get? a).map fun o=>(a,o)
noncomputable def zev (h:Heap):Frag:=kOf (List.range h.objs.size) h
noncomputable def zLt (s:Stmt):Arguments:=match s with
  | .FunctionDef _ a _ _ _ _ _ _ _ _=>a
  | _=>{ posonlyargs:=[],args:=[],vararg:=none,kwonlyargs:=[],kw_defaults:=[],kwarg:=none,defaults:=[] }
noncomputable def zAu (s:Stmt):List Stmt:=match s with
  | .FunctionDef _ _ b _ _ _ _ _ _ _=>b
  | _=>[]
noncomputable def zur (s:Stmt):Scope:=match s with
  | .FunctionDef _ _ _ _ _ _ sc _ _ _=>sc
  | _=>{ kind := .function,names:=[],isGenerator:=false,isCoroutine:=false }
noncomputable def zjy (s:Stmt):Pos:=match s with
  | .FunctionDef _ _ _ _ _ _ _ _ _ p=>p
  | _=>⟨0,0,0,0⟩
structure SeenD where
  name:Str
  qual:Str
  params:Arguments
  body:FuncBody
  scope:Scope
  globals:Addr
  closure:List (Str×Addr)
  defaults:Value
  builtins:Addr
  code:Bool
  keep:Bool
noncomputable def zLl (K:Frag) (a:Addr) (qual:Str):Option SeenD:=match K.lookup a with
  | some ⟨_,_, .func fd,_⟩=>some ⟨fd.name,fd.qualname,fd.params,fd.body,fd.scope,fd.globals,fd.closure,fd.defaults,fd.builtins,codeIn K fd.code qual,keepIn K (.ref a)⟩
  | _=>none
noncomputable def zT (K:Frag) (nm:Str):Option SeenD:=match nsIn K mainGlobals nm with
  | some (some (.ref a))=>zLl K a nm
  | _=>none
noncomputable def zzn (nm qual:Str) (st:Stmt):Option SeenD:=some ⟨nm,qual,zLt st, .stmts (zAu st),zur st,mainGlobals,[], .none,builtinsNs,true,true⟩
noncomputable def zU (nm:Str) (st:Stmt):Option SeenD:=zzn nm nm st
noncomputable def zqq (K:Frag) (C:Addr):Option (Value×String×List Value×Bool×Bool):=match K.lookup C with
  | some ⟨c,_, .cls cd,sl⟩=>(match sl.toList with | [_,_,_,_,some (.builtin n),_]=>some (c,n,cd.mro,cd.hasDict,cd.hasDel) | _=>none)
  | _=>none
theorem zrs {p q:Program} {loose:List Str} {α:Type} {Yf:Shared→α} {y:α} {N:Nat} (h1:LeftO p q loose (fun _=>true) (fun _=>()) (fun _=>()) N) (h2:∀ w,(openEnds treeTable p w N).map Yf=some y):LeftO p q loose (fun _=>true) Yf (fun _=>y) N:=fun w=>by
  obtain ⟨s,e,a⟩:=Option.map_eq_some_iff.mp (h1 w)
  obtain ⟨s',e',b⟩:=Option.map_eq_some_iff.mp (h2 w)
  rw [e] at e'
  cases e'
  rw [e]
  show some (_,Yf s)=some (_,y)
  rw [b]
  exact congrArg (fun z=>some (z.1,y)) a
end M
namespace Hd
open PySem PySem.Spec PyProof.Rows M
noncomputable def top (i:Nat):Stmt:=PySem.Challenge.pw_keynests_k40_webs_that_do_not_fit.main.body.getD i (.Pass ⟨0,0,0,0⟩)
noncomputable def zHt (s:Stmt):Stmt:=match s with
  | .ClassDef _ _ _ body _ _ _ _ _ _ _=>body.getD 0 (.Pass ⟨0,0,0,0⟩)
  | _ => .Pass ⟨0,0,0,0⟩
noncomputable def qv:Program:={ PySem.Challenge.pw_keynests_k40_webs_that_do_not_fit with main:={ PySem.Challenge.pw_keynests_k40_webs_that_do_not_fit.main with body:=[top 49] } }
noncomputable def lse:List Str:=(PySem.Challenge.pw_keynests_k40_webs_that_do_not_fit.main.scope.names.map (·.1)).filter fun x=>!(x == "law")
noncomputable def dl:DefRec:={ name:="law",params:=zLt (top 49),body:=zAu (top 49),scope:=zur (top 49),pos:=zjy (top 49) }
noncomputable def obs (K:W.Frag):List (Option SeenD)×List (Option (Option Value))×List (Bool)×List (Option Bool)×List (Option Value)×List (Option W.CFound)×List (Option (Value×String×List Value×Bool×Bool)):=([zT K "_law_mixed",zT K "_law_take",zT K "_law_web",zT K "_law_pen",zT K "lying",zT K "pushes_to",zT K "left",zT K "row_to",zT K "put_in",zT K "fault",zT K "is_push",zT K "follows",zT K "pushed",zT K "laid_more",zT K "laid_at_all",zT K "room_of",zT K "homes_of",zT K "is_crowd",zT K "spare_key",zT K "trimmed",zT K "fitted",zT K "held_to",zT K "can_move",zT K "places",zT K "_law_heard",zT K "_law_room",zT K "_law_laid_by",zT K "_law_fit",zT K "_law_is_some",zT K "_law_homes",zT K "_law_excess",zT K "_law_refused",zT K "law",zLl K 151 "NoFit.__init__"],[W.nsIn K mainGlobals "ValueError",W.nsIn K mainGlobals "all",W.nsIn K mainGlobals "bool",W.nsIn K mainGlobals "enumerate",W.nsIn K mainGlobals "int",W.nsIn K mainGlobals "isinstance",W.nsIn K mainGlobals "len",W.nsIn K mainGlobals "list",W.nsIn K mainGlobals "range",W.nsIn K mainGlobals "reversed",W.nsIn K mainGlobals "set",W.nsIn K mainGlobals "sorted",W.nsIn K mainGlobals "sum",W.nsIn K mainGlobals "tuple",W.nsIn K mainGlobals "NoFit",W.nsIn K mainGlobals "NestError",W.nsIn K mainGlobals "Twice",W.nsIn K mainGlobals "NoText",W.nsIn K mainGlobals "NoRule",W.nsIn K mainGlobals "NoRow",W.nsIn K mainGlobals "NoPush",W.nsIn K mainGlobals "NoPairs",W.nsIn K mainGlobals "NoKey",W.nsIn K mainGlobals "Full",W.specialIn K (.ref 24) "__getattribute__",W.findIn K (.ref 154) "__init__",W.findIn K (.ref 154) "__setattr__",W.findIn K (.ref 154) "some",W.findIn K (.ref 154) "__getattribute__",W.findIn K (.ref 154) "__getattr__",W.findIn K (.ref 154) "__class__",W.specialIn K (.builtin "object.__class__") "__get__"],[W.ktsIn K 154 "BaseException",W.ktsIn K 24 "BaseException",W.ktsIn K 61 "BaseException",W.ktsIn K 85 "BaseException",W.ktsIn K 37 "BaseException",W.ktsIn K 97 "BaseException",W.ktsIn K 135 "BaseException",W.ktsIn K 49 "BaseException",W.ktsIn K 73 "BaseException",W.ktsIn K 116 "BaseException",W.excIn K 24 [.type "ValueError", .type "Exception", .type "BaseException", .type "object"] "ValueError.__new__",W.readsIn K 24 (.type "type"),W.hasDictIn K 154,(W.clsIn K 154).isSome],[W.mroIn K 154 (.ref 24),W.mroIn K 154 (.type "BaseException"),W.mroIn K 154 (.type "object"),W.takesIn K (.builtin "object.__class__"),W.kitOne K (.ref 154) (.ref 116),W.kitOne K (.ref 154) (.ref 73),W.kitOne K (.ref 154) (.ref 49),W.kitOne K (.ref 154) (.ref 135),W.kitOne K (.ref 154) (.ref 97),W.kitOne K (.ref 154) (.ref 37),W.kitOne K (.ref 154) (.ref 85),W.kitOne K (.ref 154) (.ref 61),W.kitOne K (.ref 154) (.ref 154),W.kitOne K (.ref 154) (.type "ValueError")],[W.typeIn K (.ref 151)],[W.findCls K (.ref 24) (.type "type") "__init__"],[zqq K 154])
noncomputable def good:List (Option SeenD)×List (Option (Option Value))×List (Bool)×List (Option Bool)×List (Option Value)×List (Option W.CFound)×List (Option (Value×String×List Value×Bool×Bool)):=([zU "_law_mixed" (top 38),zU "_law_take" (top 39),zU "_law_web" (top 40),zU "_law_pen" (top 37),zU "lying" (top 14),zU "pushes_to" (top 19),zU "left" (top 12),zU "row_to" (top 20),zU "put_in" (top 21),zU "fault" (top 13),zU "is_push" (top 16),zU "follows" (top 17),zU "pushed" (top 18),zU "laid_more" (top 22),zU "laid_at_all" (top 23),zU "room_of" (top 26),zU "homes_of" (top 25),zU "is_crowd" (top 28),zU "spare_key" (top 29),zU "trimmed" (top 30),zU "fitted" (top 31),zU "held_to" (top 33),zU "can_move" (top 34),zU "places" (top 35),zU "_law_heard" (top 47),zU "_law_room" (top 41),zU "_law_laid_by" (top 42),zU "_law_fit" (top 43),zU "_law_is_some" (top 46),zU "_law_homes" (top 44),zU "_law_excess" (top 45),zU "_law_refused" (top 48),zU "law" (top 49),zzn "__init__" "NoFit.__init__" (zHt (top 10))],[some none,some none,some none,some none,some none,some none,some none,some none,some none,some none,some none,some none,some none,some none,some (some (.ref 154)),some (some (.ref 24)),some (some (.ref 61)),some (some (.ref 85)),some (some (.ref 37)),some (some (.ref 97)),some (some (.ref 135)),some (some (.ref 49)),some (some (.ref 73)),some (some (.ref 116)),some (some (.builtin "type.__getattribute__")),some (some (.ref 151)),some (some (.builtin "object.__setattr__")),some none,some (some (.builtin "BaseException.__getattribute__")),some none,some (some (.builtin "object.__class__")),some (some (.builtin "getset_descriptor.__get__"))],[true,true,true,true,true,true,true,true,true,true,true,true,true,true],[some true,some true,some true,some true,some false,some false,some false,some false,some false,some false,some false,some false,some true,some true],[some (.type "function")],[some (.val (.builtin "ValueError.__init__"))],[some (.type "type","ValueError.__new__", .ref 154 :: (.ref 24 :: [.type "ValueError", .type "Exception", .type "BaseException", .type "object"]),true,false)])
set_option maxHeartbeats 0
theorem hd21:W.LeftO PySem.Challenge.rw_keynests_k40_webs_that_do_not_fit.prog qv lse (fun _=>true) (fun _=>()) (fun _=>()) 60000:=fun w=>by kernel_rfl
theorem hd22:∀ w,(W.openEnds treeTable PySem.Challenge.rw_keynests_k40_webs_that_do_not_fit.prog w 60000).map (fun s=>obs (zev s.heap))=some good:=fun w=>by kernel_rfl
theorem hd2:W.LeftO PySem.Challenge.rw_keynests_k40_webs_that_do_not_fit.prog qv lse (fun _=>true) (fun s=>obs (zev s.heap)) (fun _=>good) 60000:=zrs hd21 hd22
theorem hd1:PySem.Challenge.rw_keynests_k40_webs_that_do_not_fit.wellSaid=true:=by kernel_rfl
theorem hd3:W.defOf qv PySem.Challenge.rw_keynests_k40_webs_that_do_not_fit.name=some (dl,[]):=by kernel_rfl
theorem hd4:PySem.Challenge.rw_keynests_k40_webs_that_do_not_fit.prog.theDef PySem.Challenge.rw_keynests_k40_webs_that_do_not_fit.name=some (dl.params,dl.body,dl.scope):=by kernel_rfl
theorem hd5:W.kwWritten? dl.params.kwonlyargs dl.params.kw_defaults=some []:=by kernel_rfl
theorem hd6:(W.chainsOk qv && W.opensWell PySem.Challenge.rw_keynests_k40_webs_that_do_not_fit.prog && (W.frees PySem.Challenge.rw_keynests_k40_webs_that_do_not_fit.row.toRowW && PySem.Challenge.rw_keynests_k40_webs_that_do_not_fit.row.within.isEmpty))=true:=by kernel_rfl
theorem hd7:PySem.Challenge.rw_keynests_k40_webs_that_do_not_fit.prog.bare:=⟨rfl,rfl,rfl,rfl,rfl,by decide +kernel⟩
end Hd
namespace L2
open PySem PySem.Spec PyProof.Rows
noncomputable abbrev Key:=Sum Int Str
noncomputable def zRm:Key→Value→Bool
  | .inl k,v=>Value.isInt k v
  | .inr x,v=>Value.isStrOf x v
noncomputable def zOx (w:World):Key→Int
  | .inl k=>hashInt k
  | .inr x=>hashStr w x
theorem zW:∀ {k:Key} {v:Value},zRm k v=true→(∃ i t,k=Sum.inl i∧v=Value.int i t)∨(∃ x t,k=Sum.inr x∧v=Value.str x t)
  | .inl i,v,h=>by
    obtain ⟨t,e⟩:=Value.isInt_shape (k:=i) (v:=v) h
    exact .inl ⟨i,t,rfl,e⟩
  | .inr x,v,h=>by
    obtain ⟨t,e⟩:=Value.isStrOf_shape (x:=x) (v:=v) h
    exact .inr ⟨x,t,rfl,e⟩
theorem zlr (i:Int) (t:Tok):zRm (.inl i) (.int i t)=true:=by simp [zRm,Value.isInt]
theorem zIp (x:Str) (t:Tok):zRm (.inr x) (.str x t)=true:=by simp [zRm,Value.isStrOf]
theorem z7u (a b:Int):decide ((Sum.inl a:Key)=Sum.inl b)=(a == b):=by
  by_cases e:a=b
  · subst e;simp
  · have h:¬ (Sum.inl a:Key)=Sum.inl b:=fun q=>e (Sum.inl.inj q)
    rw [decide_eq_false h]
    exact (beq_eq_false_iff_ne.mpr e).symm
theorem zEv (a b:Str):decide ((Sum.inr a:Key)=Sum.inr b)=decide (a=b):=by
  by_cases e:a=b
  · subst e;simp
  · have h:¬ (Sum.inr a:Key)=Sum.inr b:=fun q=>e (Sum.inr.inj q)
    rw [decide_eq_false h,decide_eq_false e]
theorem z2u (a:Int) (b:Str):decide ((Sum.inl a:Key)=Sum.inr b)=false:=decide_eq_false (fun q=>nomatch q)
theorem znv (a:Str) (b:Int):decide ((Sum.inr a:Key)=Sum.inl b)=false:=decide_eq_false (fun q=>nomatch q)
noncomputable def zwb (prog:Program) (w:World):PySem.KeyKind prog w Key where
  is:=zRm
  hash:=zOx w
  inj:=fun v a b ha hb=>by
    rcases zW ha with ⟨i,t,rfl,rfl⟩ | ⟨x,t,rfl,rfl⟩
    · rcases zW hb with ⟨j,u,rfl,e⟩ | ⟨y,u,rfl,e⟩
      · injection e with e1 _;rw [e1]
      · exact nomatch e
    · rcases zW hb with ⟨j,u,rfl,e⟩ | ⟨y,u,rfl,e⟩
      · exact nomatch e
      · injection e with e1 _;rw [e1]
  byValue:=fun k v h=>by
    rcases zW h with ⟨i,t,rfl,rfl⟩ | ⟨x,t,rfl,rfl⟩ <;> rfl
  pyHash:=fun hv h=>by
    rcases zW hv with ⟨i,t,rfl,rfl⟩ | ⟨x,t,rfl,rfl⟩
    · exact wpAny_pyHash_int h
    · exact wpAny_pyHash_str h
  eqBool:=fun hu hv h=>by
    rcases zW hu with ⟨i,t,rfl,rfl⟩ | ⟨x,t,rfl,rfl⟩
    · rcases zW hv with ⟨j,u,rfl,rfl⟩ | ⟨y,u,rfl,rfl⟩
      · rw [z7u] at h;exact wpAny_eqBool_int h
      · rw [z2u] at h;exact SeqAt.EqAt.int_str i t y u _ _ _ _ h
    · rcases zW hv with ⟨j,u,rfl,rfl⟩ | ⟨y,u,rfl,rfl⟩
      · rw [znv] at h;exact SeqAt.EqAt.str_int x t j u _ _ _ _ h
      · rw [zEv] at h;exact wpAny_eqBool_str h
  «strs»:=fun k x t v h=>by
    rcases zW h with ⟨i,u,rfl,e⟩ | ⟨y,u,rfl,e⟩
    · exact nomatch e
    · injection e with e1 _
      subst e1
      cases v <;> rfl
theorem zBg (prog:Program) (w:World) (k:Key) (v:Value):(zwb prog w).is k v=zRm k v:=rfl
theorem zmn (prog:Program) (w:World) (i:Int) (t:Tok):(zwb prog w).is (.inl i) (.int i t)=true:=zlr i t
theorem zcn (prog:Program) (w:World) (x:Str) (t:Tok):(zwb prog w).is (.inr x) (.str x t)=true:=zIp x t
inductive V where
  | non | bl (b:Bool) | int (i:Int) | str (x:Str) | byt (b:Array UInt8) | flt (b:UInt64) | ref (a:Addr) | ty (n:String)
  deriving DecidableEq
def RelV:V→Value→Prop
  | .non,u=>u=Value.none
  | .bl b,u=>u=Value.bool b
  | .int i,u=>∃ t,u=Value.int i t
  | .str x,u=>∃ t,u=Value.str x t
  | .byt b,u=>∃ t,u=Value.bytes b t
  | .flt b,u=>∃ t,u=Value.float b t
  | .ref a,u=>u=Value.ref a
  | .ty n,u=>u=Value.type n
abbrev Vals:List V→List Value→Prop:=Paired RelV
theorem Vals.length {xs:List V} {us:List Value} (r:Vals xs us):xs.length=us.length:=Paired.length r
theorem Vals.get:∀ {xs:List V} {us:List Value} {i:Nat} {x:V},Vals xs us→xs[i]?=some x→∃ u,us[i]?=some u∧RelV x u
  | _,_,_,_, .nil,e=>by simp at e
  | _,_,0,_, .cons r _,e=>by simp at e;subst e;exact ⟨_,rfl,r⟩
  | _,_,i+1,x, .cons _ t,e=>by
    obtain ⟨u,h1,h2⟩:=Vals.get (i:=i) (x:=x) t (by simpa using e)
    exact ⟨u,by simpa using h1,h2⟩
theorem Vals.set {x:V} {u:Value} (r:RelV x u):∀ {xs:List V} {us:List Value} (i:Nat),Vals xs us→Vals (xs.set i x) (us.set i u)
  | _,_,_, .nil => .nil
  | _,_,0, .cons _ t => .cons r t
  | _,_,i+1, .cons q t => .cons q (Vals.set r i t)
theorem Vals.append:∀ {xs ys:List V} {us ws:List Value},Vals xs us→Vals ys ws→Vals (xs++ys) (us++ws)
  | _,_,_,_, .nil,s=>s
  | _,_,_,_, .cons r t,s => .cons r (Vals.append t s)
theorem Vals.take:∀ {xs:List V} {us:List Value} (n:Nat),Vals xs us→Vals (xs.take n) (us.take n)
  | _,_,0,_ => .nil
  | _,_,_+1, .nil => .nil
  | _,_,n+1, .cons r t => .cons r (Vals.take n t)
theorem Vals.drop:∀ {xs:List V} {us:List Value} (n:Nat),Vals xs us→Vals (xs.drop n) (us.drop n)
  | _,_,0,r=>r
  | _,_,_+1, .nil => .nil
  | _,_,n+1, .cons _ t=>Vals.drop n t
def RelO:Option V→Option Value→Prop
  | some v,some u=>RelV v u
  | none,none=>True
  | _,_=>False
def KV {κ:Type}:List (κ × V)→List (κ × Value)→Prop:=Paired fun (p:κ × V) (q:κ × Value)=>p.1=q.1∧RelV p.2 q.2
noncomputable def kV:Key→V
  | .inl i => .int i
  | .inr x => .str x
inductive HO where
    | lst (xs:List V)
    | tup (xs:List V)
    | dK (kvs:List (Key×V)) | dT (kvs:List (List Key×V))
    | set (S:Int→Bool) (n:Nat)
    | ins (C dx:Addr) (fs:List (Str×V))
    | own (x:Addr)
    | xd (fs:List (Str×V))
    | met (f x:Addr)
    | rng (lo hi:Int)
    | frz (o:Obj) (u:HO)
    | tbl (ps:Array Value)
    | ext (φ:Heap→Prop)
noncomputable abbrev Hp:=Addr→Option HO
noncomputable def upd (H:Hp) (a:Addr) (o:HO):Hp:=fun b=>if b=a then some o else H b
theorem zo {H:Hp} {a:Addr} {o:HO}:upd H a o a=some o:=by unfold upd;rw [if_pos rfl]
theorem zw {H:Hp} {a b:Addr} {o:HO} (h:b≠a):upd H a o b=H b:=by unfold upd;rw [if_neg h]
theorem zq {H:Hp} {a b:Addr} {o:HO} (h:H a=some o) (h':H b=none):a≠b:=by
  intro e;subst e;rw [h] at h';cases h'
section
variable (P:Program) (w:World)
def ObjOk (H:Hp) (h:Heap) (a:Addr):HO→Prop
  | .lst xs=>xs.length≤sizeLine∧∃ (its:List Value) (n:Nat),Vals xs its∧h.get? a=some { cls := .type "list",data := .seq its.toArray n }
  | .tup xs=>xs.length≤sizeLine∧∃ its:List Value,Vals xs its∧IsTup h a its.toArray
  | .dK kvs=>kvs.length≤sizeLine∧(a == sysModules)=false∧∃ vs,KV kvs vs∧h.DictOf (zwb P w) a vs
  | .dT kvs=>kvs.length≤sizeLine∧(a == sysModules)=false∧∃ xs:List (List Key×Addr×Value),
      Paired (fun (p:List Key×V) (q:List Key×Addr×Value)=>p.1=q.1∧H q.2.1=some (.tup (p.1.map kV))∧RelV p.2 q.2.2) kvs xs ∧
      ∃ o es ep,h.get? a=some o∧o.ExactDict∧o.data = .dict es ep∧es.toList=xs.map (entryOfKey (tupleKind (zwb P w)))∧(xs.map (·.1)).Nodup
  | .set S n=>h.SetOf (intKind P w) a S n
  | .ins C dx fs=>H dx=some (.own a)∧fs.length≤1000∧dx≠a∧h.get? a=some (W.instObj C dx) ∧
      ∃ mA,h.Ns1 dx mA∧(∀ f,RelO (fs.lookup f) (mA f))∧PySem.Within mA (fs.map (·.1))
  | .own _=>∃ o,h.get? a=some o
  | .xd fs=>∃ mA,h.Ns1 a mA∧∀ f,RelO (fs.lookup f) (mA f)
  | .rng lo hi=>∃ t u v,h.get? a=some { cls := .type "range",data := .fields #[.int lo t, .int hi u, .int 1 v] }
  | .frz o u=>h.get? a=some o∧ObjOk H h a u
  | .tbl ps=>h.get? a=some { cls := .none,data := .fields ps }
  | .met f x=>h.get? a=some (W.methodObj (.ref f) (.ref x))
  | .ext φ=>φ h∧(∃ o,h.get? a=some o)∧∀ h1 h2:Heap,φ h1→(∀ o,h1.get? a=some o→h2.get? a=some o)→φ h2
def HOk (H:Hp) (h:Heap):Prop:=∀ a o,H a=some o→ObjOk P w H h a o
end
section
variable {P:Program} {w:World} {H H':Hp} {h h':Heap} {a:Addr} {o:HO}
theorem ObjOk.lt (x:ObjOk P w H h a o):a<h.objs.size:=by
  cases o with
  | lst xs=>obtain ⟨_,_,_,_,e⟩:=x;exact Heap.lt_size e
  | tup xs=>obtain ⟨_,_,_,p⟩:=x;exact p.lt
  | dK kvs=>obtain ⟨_,_,_,_,o,_,_,e,_⟩:=x;exact Heap.lt_size e
  | dT kvs=>obtain ⟨_,_,_,_,o,_,_,e,_⟩:=x;exact Heap.lt_size e
  | set S n=>obtain ⟨o,_,_,_,e,_⟩:=x;exact Heap.lt_size e
  | ins C dx fs=>obtain ⟨_,_,_,e,_⟩:=x;exact Heap.lt_size e
  | own y=>obtain ⟨_,e⟩:=x;exact Heap.lt_size e
  | xd fs=>obtain ⟨_,⟨_,_,_,e,_⟩,_⟩:=x;exact Heap.lt_size e
  | rng lo hi=>obtain ⟨_,_,_,e⟩:=x;exact Heap.lt_size e
  | frz ob u=>obtain ⟨e,_⟩:=x;exact Heap.lt_size e
  | tbl ps=>exact Heap.lt_size (show h.get? a=some _ from x)
  | met f y=>exact Heap.lt_size (show h.get? a=some _ from x)
  | ext φ=>obtain ⟨_,⟨_,e⟩,_⟩:=x;exact Heap.lt_size e
theorem Paired.mapP {α β:Type} {F G:α→β→Prop}:∀ {l₁:List α} {l₂:List β},Paired F l₁ l₂→(∀ a b,F a b→G a b)→Paired G l₁ l₂
  | _,_, .nil,_ => .nil
  | _,_, .cons r t,f => .cons (f _ _ r) (Paired.mapP t f)
theorem ObjOk.stay (x:ObjOk P w H h a o) (k:∀ b u,(b=a∨H b=some (.own a))→h.get? b=some u→h'.get? b=some u)
    (ho:∀ b,H b=some (.own a)→H' b=some (.own a)) (ht:∀ b xs,H b=some (.tup xs)→H' b=some (.tup xs)):ObjOk P w H' h' a o:=by
  induction o with
  | lst xs=>obtain ⟨z,its,n,r,e⟩:=x;exact ⟨z,its,n,r,k _ _ (.inl rfl) e⟩
  | tup xs=>obtain ⟨z,its,r,ob,e,c⟩:=x;exact ⟨z,its,r,ob,k _ _ (.inl rfl) e,c⟩
  | dK kvs=>obtain ⟨z,y,vs,r,ob,es,ep,e,c⟩:=x;exact ⟨z,y,vs,r,ob,es,ep,k _ _ (.inl rfl) e,c⟩
  | dT kvs =>
    obtain ⟨z,y,xs,r,ob,es,ep,e,c⟩:=x
    exact ⟨z,y,xs,Paired.mapP r fun p q z=>⟨z.1,ht _ _ z.2.1,z.2.2⟩,ob,es,ep,k _ _ (.inl rfl) e,c⟩
  | set S n=>obtain ⟨ob,es,ep,t,e,c⟩:=x;exact ⟨ob,es,ep,t,k _ _ (.inl rfl) e,c⟩
  | ins C dx fs =>
    obtain ⟨d,z,ne,e,mA,⟨od,es,ep,e2,c⟩,r⟩:=x
    exact ⟨ho _ d,z,ne,k _ _ (.inl rfl) e,mA,⟨od,es,ep,k _ _ (.inr d) e2,c⟩,r⟩
  | own y=>obtain ⟨ob,e⟩:=x;exact ⟨ob,k _ _ (.inl rfl) e⟩
  | xd fs=>obtain ⟨mA,⟨od,es,ep,e,c⟩,r⟩:=x;exact ⟨mA,⟨od,es,ep,k _ _ (.inl rfl) e,c⟩,r⟩
  | rng lo hi=>obtain ⟨t,u,v,e⟩:=x;exact ⟨t,u,v,k _ _ (.inl rfl) e⟩
  | frz ob u ih=>obtain ⟨e,q⟩:=x;exact ⟨k _ _ (.inl rfl) e,ih q⟩
  | tbl ps =>
    have e:h.get? a=some { cls := .none,data := .fields ps }:=x
    show h'.get? a=some { cls := .none,data := .fields ps }
    exact k a _ (.inl rfl) e
  | met f y =>
    have e:h.get? a=some (W.methodObj (.ref f) (.ref y)):=x
    show h'.get? a=some (W.methodObj (.ref f) (.ref y))
    exact k a _ (.inl rfl) e
  | ext φ=>obtain ⟨p,⟨o,e⟩,st⟩:=x;exact ⟨st _ _ p fun o q=>k _ _ (.inl rfl) q,⟨o,k _ _ (.inl rfl) e⟩,st⟩
theorem HOk.lt (x:HOk P w H h) (e:H a=some o):a<h.objs.size:=(x a o e).lt
theorem HOk.fresh (x:HOk P w H h) (e:h.objs.size≤a):H a=none:=by
  cases q:H a with
  | none=>rfl
  | some u=>exact absurd (Nat.lt_of_lt_of_le (x.lt q) e) (Nat.lt_irrefl _)
theorem HOk.kept (x:HOk P w H h) (k:∀ b u,h.get? b=some u→h'.get? b=some u):HOk P w H h':=fun a o e =>
  (x a o e).stay (fun b u _ q=>k b u q) (fun _ q=>q) fun _ _ q=>q
theorem HOk.laid (x:HOk P w H h) (k:∀ b u,h.get? b=some u→h'.get? b=some u) (hp:h.objs.size≤a) (new:ObjOk P w (upd H a o) h' a o):HOk P w (upd H a o) h':=fun b u e=>by
  have hn:=x.fresh hp
  by_cases hb:b=a
  · subst hb;rw [zo] at e;cases e;exact new
  · rw [zw hb] at e
    exact (x b u e).stay (fun c v _ q=>k c v q) (fun c q=>by rw [zw (zq q hn)];exact q) fun c xs q=>by rw [zw (zq q hn)];exact q
end
def Rd (H:Hp) (a:Addr) (u:HO):Prop:=H a=some u∨∃ o,H a=some (.frz o u)
theorem Rd.ok {P:Program} {w:World} {H:Hp} {h:Heap} {a:Addr} {u:HO} (r:Rd H a u) (x:HOk P w H h):ObjOk P w H h a u:=by
  rcases r with r | ⟨o,r⟩
  · exact x a u r
  · obtain ⟨_,q⟩:=x a _ r
    exact q
def Mut:Option HO→Prop
  | some (.lst _)=>True
  | some (.dK _)=>True
  | some (.dT _)=>True
  | some (.set _ _)=>True
  | some (.ins _ _ _)=>True
  | some (.ext _)=>True
  | _=>False
section
variable {P:Program} {w:World} {H:Hp} {h h':Heap} {x e:Addr} {o':HO}
theorem HOk.write (ok:HOk P w H h) (mu:Mut (H x)) (he:e=x∨H e=some (.own x)) (k:∀ b u,b≠e→h.get? b=some u→h'.get? b=some u) (heo:∃ u,h'.get? e=some u)
    (new:ObjOk P w (upd H x o') h' x o'):HOk P w (upd H x o') h':=fun b u q=>by
  have nown:∀ c y,H c=some (.own y)→c≠x:=fun c y r z=>by subst z;rw [r] at mu;exact mu
  have ntup:∀ c xs,H c=some (.tup xs)→c≠x:=fun c xs r z=>by subst z;rw [r] at mu;exact mu
  by_cases hb:b=x
  · subst hb;rw [zo] at q;cases q;exact new
  · rw [zw hb] at q
    by_cases hbe:b=e
    · have q':H b=some (.own x):=by
        rcases he with z | z
        · exact absurd (hbe.trans z) hb
        · rw [hbe];exact z
      rw [q] at q';cases q'
      obtain ⟨v,hv⟩:=heo
      exact ⟨v,by rw [hbe];exact hv⟩
    · refine (ok b u q).stay (fun c v hc r=>k c v ?_ r) (fun c r=>by rw [zw (nown c b r)];exact r) fun c xs r=>by rw [zw (ntup c xs r)];exact r
      rcases hc with rfl | hc
      · exact hbe
      · rintro rfl
        rcases he with z | z
        · exact nown c b hc z
        · rw [hc] at z;cases z;exact hb rfl
end
structure Un (fs ex:List Addr) (H H':Hp) (h h':Heap):Prop where
  keep:∀ b o,h.get? b=some o→H b=none→b∉fs→b∉ex→h'.get? b=some o
  slot:∀ b o,h.get? b=some o→H b=none→b∈fs→b∉ex→∃ sl,h'.get? b=some { o with slots:=sl }
  free:∀ b o,h.get? b=some o→H b=none→b∉ex→H' b=none
  there:∀ b o,h.get? b=some o→b∉ex→∃ o',h'.get? b=some o'
  tups:∀ b xs,H b=some (.tup xs)→H' b=some (.tup xs)
  frzs:∀ b o u,H b=some (.frz o u)→H' b=some (.frz o u)
  tbls:∀ b ps,H b=some (.tbl ps)→∃ more,H' b=some (.tbl (ps++more))
section
variable {fs fs' ex ex':List Addr} {H H1 H2:Hp} {h h1 h2 h':Heap} {a x e:Addr} {o:HO}
theorem Un.any (u:Un fs ex H H1 h h1) {b:Addr} {ob:Obj} (q:h.get? b=some ob) (n:H b=none) (hx:b∉ex):∃ sl,h1.get? b=some { ob with slots:=sl }:=by
  by_cases hb:b∈fs
  · exact u.slot b ob q n hb hx
  · exact ⟨ob.slots,u.keep b ob q n hb hx⟩
theorem Un.trans (a:Un fs ex H H1 h h1) (b:Un fs ex H1 H2 h1 h2):Un fs ex H H2 h h2 where
  keep:=fun c ob q n hc hx=>b.keep c ob (a.keep c ob q n hc hx) (a.free c ob q n hx) hc hx
  slot:=fun c ob q n hc hx=>by
    obtain ⟨sl,e1⟩:=a.slot c ob q n hc hx
    obtain ⟨sl',e2⟩:=b.slot c _ e1 (a.free c ob q n hx) hc hx
    exact ⟨sl',e2⟩
  free:=fun c ob q n hx=>by
    obtain ⟨o',e1⟩:=a.there c ob q hx
    exact b.free c o' e1 (a.free c ob q n hx) hx
  there:=fun c ob q hx=>by
    obtain ⟨o',e1⟩:=a.there c ob q hx
    exact b.there c o' e1 hx
  tups:=fun c xs q=>b.tups c xs (a.tups c xs q)
  frzs:=fun c ob xs q=>b.frzs c ob xs (a.frzs c ob xs q)
  tbls:=fun c ps q=>by
    obtain ⟨m1,e1⟩:=a.tbls c ps q
    obtain ⟨m2,e2⟩:=b.tbls c _ e1
    exact ⟨m1++m2,by rw [e2,Array.append_assoc]⟩
theorem Un.kept (k:∀ b u,h.get? b=some u→h'.get? b=some u):Un fs ex H H h h' :=
  ⟨fun b ob q _ _ _=>k b ob q,fun b ob q _ _ _=>⟨ob.slots,k b ob q⟩,fun _ _ _ n _=>n,fun b ob q _=>⟨ob,k b ob q⟩,fun _ _ q=>q,fun _ _ _ q=>q,fun _ ps q=>⟨#[],by rw [q];simp⟩⟩
theorem Un.refl:Un fs ex H H h h:=Un.kept fun _ _ q=>q
theorem Un.laid (k:∀ b u,h.get? b=some u→h'.get? b=some u) (hp:h.objs.size≤a) (hn:H a=none):Un fs ex H (upd H a o) h h' where
  keep:=fun b u q _ _ _=>k b u q
  slot:=fun b u q _ _ _=>⟨u.slots,k b u q⟩
  free:=fun b u q n _=>by rw [zw (Nat.ne_of_lt (Nat.lt_of_lt_of_le (Heap.lt_size q) hp))];exact n
  there:=fun b u q _=>⟨u,k b u q⟩
  tups:=fun b xs q=>by rw [zw (zq q hn)];exact q
  frzs:=fun b u xs q=>by rw [zw (zq q hn)];exact q
  tbls:=fun b ps q=>⟨#[],by rw [zw (zq q hn),q];simp⟩
theorem Un.write (mu:Mut (H x)) (he:e=x∨H e=some (.own x)) (k:∀ b u,b≠e→h.get? b=some u→h'.get? b=some u) (heo:∃ u,h'.get? e=some u):Un fs ex H (upd H x o) h h':=by
  have hx:∀ b,H b=none→b≠x:=fun b n z=>by subst z;rw [n] at mu;exact mu
  have hb:∀ b,H b=none→b≠e:=fun b n z=>by
    subst z
    rcases he with r | r
    · exact hx b n r
    · rw [n] at r;cases r
  have hm:∀ b u,H b=some u→¬ Mut (some u)→b≠x:=fun b u q nm z=>by subst z;rw [q] at mu;exact nm mu
  refine ⟨fun b u q n _ _=>k b u (hb b n) q,fun b u q n _ _=>⟨u.slots,k b u (hb b n) q⟩,fun b u q n _=>by rw [zw (hx b n)];exact n,fun b u q _=>?_,
    fun b xs q=>by rw [zw (hm b _ q fun z=>z)];exact q,fun b u xs q=>by rw [zw (hm b _ q fun z=>z)];exact q,fun b ps q=>⟨#[],by rw [zw (hm b _ q fun z=>z),q];simp⟩⟩
  by_cases hbe:b=e
  · subst hbe;exact heo
  · exact ⟨u,k b u hbe q⟩
end
noncomputable def trk (h:Heap) (H:Hp):List Addr:=(List.range h.objs.size).filter fun a=>(H a).isSome
noncomputable def z8r (h:Heap) (H:Hp):Heap:=W.hideAll h (trk h H)
theorem zqr (h:Heap) (H:Hp):(z8r h H).objs.size=h.objs.size:=W.hideAll_size _ _
theorem zUr {h:Heap} {H:Hp} {b:Addr} {o:Obj} (e:h.get? b=some o) (n:H b=none):(z8r h H).get? b=some o :=
  W.hideAll_get _ e fun hm=>by
    have q:(H b).isSome=true:=(List.mem_filter.mp hm).2
    rw [n] at q;simp at q
theorem zFu {h:Heap} {H:Hp} {b:Addr} {o:Obj} (e:(z8r h H).get? b=some o):h.get? b=some o∧H b=none:=by
  have e':h.get? b=some o:=W.of_hideAll (trk h H) e
  refine ⟨e',?_⟩
  cases q:H b with
  | none=>rfl
  | some x =>
    have hm:b∈trk h H:=List.mem_filter.mpr ⟨List.mem_range.mpr (Heap.lt_size e'),by simp [q]⟩
    have z:(z8r h H).get? b=none:=W.hideAll_none (trk h H) hm
    rw [z] at e;cases e
noncomputable def zut (g h:Heap) (L:Addr):List (Addr×Obj):=(List.range h.objs.size).filterMap fun a=>if a=L∨(g.get? a).isSome=true then none else (h.get? a).map fun o=>(a,o)
noncomputable def rest (g h:Heap) (L d:Addr):List (Addr×Obj):=(zut g h L).filter fun p=>decide (p.1≠d)
structure Mod (K:W.Frag) (mg:Str→Option Value) (base:Heap):Prop where
  kin:K.In base
  glob:base.Ns mainGlobals mg
  blt:∃ mb,base.Ns builtinsNs mb∧∀ x:Str,x≠"__name__"→mb x=bootBuiltins x
  nolimit:base.NoLimit
structure Cx where
  prog:Program
  w:World
  K:W.Frag
  mg:Str→Option Value
  base:Heap
  A:Around
  N:List Str
  s₀:Shared
  H₀:Hp
  env:Env
  outer:List Env
  stack:List Env
  ex:List Addr
  fn:Str→Bool
  calm:Bool
  pn:List (Addr×Obj)
  xe:Value→Shared→Prop
noncomputable def frs (l:List Env):List Addr:=l.filterMap (·.frame)
noncomputable abbrev Cx.fs (X:Cx):List Addr:=frs X.outer
def Vis (sc:Scope) (x:Str):Prop:=sc.names.lookup x=some .local∨sc.names.lookup x=some .cell∨sc.names.lookup x=some .free
def Loc (sc:Scope) (x:Str):Prop:=sc.names.lookup x=some .local∨sc.names.lookup x=some .cell
noncomputable def z3x (env:Env) (h:Heap) (m:Str→Option Value) (x:Str) (u:Value):Prop :=
  (env.kindOf x=some .local∧m x=some u)∨((env.kindOf x=some .cell∨env.kindOf x=some .free)∧∃ c,env.cells.lookup x=some c∧h.IsCell c (some u))
structure Cx.Ok (X:Cx):Prop where
  mod:Mod X.K X.mg X.base
  kind:X.env.scope.kind = .function
  glob:X.env.globals=mainGlobals
  blt:X.env.builtins=builtinsNs
  above:X.s₀.heap.objs.size≤X.env.locals
  inj:∀ x y c,X.env.cells.lookup x=some c→X.env.cells.lookup y=some c→x=y
  has:∀ x,(X.env.kindOf x=some .cell∨X.env.kindOf x=some .free)→∃ c,X.env.cells.lookup x=some c
  cab:∀ x c,X.fn x=true→X.env.cells.lookup x=some c→X.s₀.heap.objs.size≤c
  hd:X.calm=true→X.A.handled=none
  frames:X.A.frames=some X.stack
  stk:X.stack=X.outer∨(X.stack=X.env :: X.outer∧X.env.frame=some X.env.locals)
  exf:∀ b∈X.ex,b≠X.env.locals∧∀ x c,X.env.cells.lookup x=some c→c≠b
  bs:∀ b o,X.base.get? b=some o→X.s₀.heap.get? b=some o∧X.H₀ b=none
  bsz:X.base.objs.size≤X.s₀.heap.objs.size
  noex:∀ b o,X.base.get? b=some o→b∉X.ex
  exfs:∀ b∈X.ex,b∉X.fs
  funs:X.s₀.heap.FunFrames X.base X.outer
  frf:∀ b∈X.fs,X.H₀ b=none
structure Inv (X:Cx) (pins:List (Addr×Obj)) (σ:List (Option V)) (H:Hp) (s:Shared):Prop where
  ok:X.Ok
  os:s.os=X.s₀.os
  bare:AllBare s.gens
  base:Un X.fs X.ex X.H₀ H X.s₀.heap s.heap
  loc:∃ m,s.heap.Ns X.env.locals m∧∀ (i:Nat) (x:Str) (v:V),X.N[i]?=some x→σ[i]?=some (some v)→Vis X.env.scope x→∃ u,RelV v u∧z3x X.env s.heap m x u
  cell:∀ x c,X.env.cells.lookup x=some c→∃ v,s.heap.IsCell c v
  free:H X.env.locals=none
  freeC:∀ x c,X.env.cells.lookup x=some c→H c=none
  pin:∀ p∈X.pn++pins,s.heap.get? p.1=some p.2∧H p.1=none∧p.1≠X.env.locals∧p.1∉X.fs∧∀ v,p.2.data≠.cell v
  hok:HOk X.prog X.w H s.heap
  len:σ.length=X.N.length
section
variable {X:Cx} {pins:List (Addr×Obj)} {σ:List (Option V)} {H H':Hp} {s:Shared} {h':Heap}
theorem Cx.Ok.nofr (ok:X.Ok) {b:Addr} {o:Obj} (e:X.base.get? b=some o):b∉X.fs:=fun hb=>by
  have:=(ok.funs.mem hb).1
  rw [e] at this;cases this
theorem Inv.bs (I:Inv X pins σ H s):∀ b o,X.base.get? b=some o→s.heap.get? b=some o∧H b=none:=fun b o e =>
  ⟨I.base.keep b o (I.ok.bs b o e).1 (I.ok.bs b o e).2 (I.ok.nofr e) (I.ok.noex b o e),I.base.free b o (I.ok.bs b o e).1 (I.ok.bs b o e).2 (I.ok.noex b o e)⟩
theorem Inv.bk (I:Inv X pins σ H s):∀ b o,X.base.get? b=some o→s.heap.get? b=some o:=fun b o e=>(I.bs b o e).1
theorem Inv.mod (I:Inv X pins σ H s):Mod X.K X.mg X.base:=I.ok.mod
theorem Inv.kIn (I:Inv X pins σ H s):X.K.In s.heap:=I.ok.mod.kin.keeps I.bk
theorem Inv.fr (I:Inv X pins σ H s):∃ m,Fr X.base X.env.locals s.heap m :=
  let ⟨m,hn,_⟩:=I.loc
  ⟨m,hn,I.bk,Nat.le_trans I.ok.bsz I.ok.above⟩
theorem Inv.lt (I:Inv X pins σ H s):X.env.locals<s.heap.objs.size:=let ⟨_,hn,_⟩:=I.loc;hn.lt
theorem Inv.sz (I:Inv X pins σ H s):X.s₀.heap.objs.size≤s.heap.objs.size:=Nat.le_trans I.ok.above (Nat.le_of_lt I.lt)
theorem Inv.nofs (I:Inv X pins σ H s) {a:Addr} (h:s.heap.objs.size≤a):a∉X.fs:=fun hb=>by
  obtain ⟨_,o,ho,_⟩:=I.ok.funs.mem hb
  exact absurd (Nat.lt_of_lt_of_le (Heap.lt_size ho) (Nat.le_trans I.sz h)) (Nat.lt_irrefl _)
theorem Inv.cne (I:Inv X pins σ H s):∀ x c,X.env.cells.lookup x=some c→c≠X.env.locals:=fun x c e z=>by
  obtain ⟨v,o,ho,hd⟩:=I.cell x c e
  obtain ⟨m,⟨o',es,ep,ho',hd',_⟩,_⟩:=I.loc
  rw [z,ho'] at ho;cases ho;rw [hd'] at hd;cases hd
theorem Inv.funs (I:Inv X pins σ H s):s.heap.FunFrames X.base X.outer:=by
  have all:∀ (l:List Env),(∀ b∈frs l,b∈X.fs)→X.s₀.heap.FunFrames X.base l→s.heap.FunFrames X.base l:=by
    intro l
    induction l with
    | nil=>intro _ _;trivial
    | cons env r ih =>
      intro hs hl
      obtain ⟨hk,⟨L,o,hf,hn,ho,hd⟩,hr⟩:=hl
      have hL:L∈X.fs:=hs L (by unfold frs;rw [filterMap_cons,hf];exact mem_cons_self)
      obtain ⟨sl,e⟩:=I.base.slot L o ho (I.ok.frf L hL) hL fun z=>I.ok.exfs L z hL
      exact ⟨hk,⟨L,_,hf,hn,e,hd⟩,ih (fun b hb=>hs b (by unfold frs;rw [filterMap_cons,hf];exact mem_cons_of_mem _ hb)) hr⟩
  exact all X.outer (fun _ hb=>hb) I.ok.funs
theorem Inv.stack (I:Inv X pins σ H s):s.heap.FunFrames X.base X.stack:=by
  rcases I.ok.stk with e | ⟨e,hf⟩
  · rw [e];exact I.funs
  · rw [e]
    obtain ⟨m,hn,_⟩:=I.loc
    refine .cons (by rw [I.ok.kind];decide) hf hn ?_ I.funs
    exact Heap.get?_none_of_le (Nat.le_trans I.ok.bsz I.ok.above)
theorem Inv.stkSub (I:Inv X pins σ H s):∀ b∈frs X.stack,b∈X.env.locals :: X.fs:=fun b hb=>by
  rcases I.ok.stk with e | ⟨e,hf⟩
  · rw [e] at hb;exact mem_cons_of_mem _ hb
  · rw [e] at hb
    unfold frs at hb
    rw [filterMap_cons,hf] at hb
    exact hb
theorem Inv.stkFree (I:Inv X pins σ H s):∀ b∈frs X.stack,H b=none:=fun b hb=>by
  rcases List.mem_cons.mp (I.stkSub b hb) with e | hb
  · rw [e];exact I.free
  · obtain ⟨_,o,ho,_⟩:=I.ok.funs.mem hb
    exact I.base.free b o ho (I.ok.frf b hb) fun z=>I.ok.exfs b z hb
theorem Inv.step {g':Array GenState} {t':Nat} {d':Drawn} {ch:List Addr} (I:Inv X pins σ H s)
    (hch:∀ b∈ch,(b∈X.ex∨X.s₀.heap.objs.size≤b)∧b≠X.env.locals∧(∀ x c,X.env.cells.lookup x=some c→c≠b)∧∀ p∈X.pn++pins,p.1≠b)
    (keep:∀ b o,b≠X.env.locals→b∉X.fs→b∉ch→s.heap.get? b=some o→H b=none→h'.get? b=some o)
    (slot:∀ b o,b≠X.env.locals→b∈X.fs→b∉ch→s.heap.get? b=some o→H b=none→∃ sl,h'.get? b=some { o with slots:=sl }) (free:∀ b o,b∉ch→s.heap.get? b=some o→H b=none→H' b=none)
    (there:∀ b o,b∉ch→s.heap.get? b=some o→∃ o',h'.get? b=some o')
    (tups:∀ b xs,H b=some (.tup xs)→H' b=some (.tup xs)) (frzs:∀ b o u,H b=some (.frz o u)→H' b=some (.frz o u)) (tbls:∀ b ps,H b=some (.tbl ps)→∃ more,H' b=some (.tbl (ps++more)))
    (ns:∀ m,s.heap.Ns X.env.locals m→h'.Ns X.env.locals m) (hok:HOk X.prog X.w H' h') (hg:AllBare g') :
    Inv X pins σ H' { s with heap:=h',gens:=g',drawn:=d',toks:=t' }:=by
  have neL:∀ b o,X.s₀.heap.get? b=some o→b≠X.env.locals:=fun b o e=>Nat.ne_of_lt (Nat.lt_of_lt_of_le (Heap.lt_size e) I.ok.above)
  have neC:∀ b o,X.s₀.heap.get? b=some o→b∉X.ex→b∉ch:=fun b o e hx hb=>by
    rcases (hch b hb).1 with z | z
    · exact hx z
    · exact absurd (Nat.lt_of_lt_of_le (Heap.lt_size e) z) (Nat.lt_irrefl _)
  have cellK:∀ x c,X.env.cells.lookup x=some c→∀ v,s.heap.IsCell c v→h'.IsCell c v:=fun x c e v ⟨o,ho,hd⟩=>by
    have nch:c∉ch:=fun z=>(hch c z).2.2.1 x c e rfl
    by_cases hc:c∈X.fs
    · obtain ⟨sl,q⟩:=slot c o (I.cne x c e) hc nch ho (I.freeC x c e)
      exact ⟨_,q,hd⟩
    · exact ⟨o,keep c o (I.cne x c e) hc nch ho (I.freeC x c e),hd⟩
  refine ⟨I.ok,I.os,hg,⟨fun b o e n hb hx=>?_,fun b o e n hb hx=>?_,fun b o e n hx=>?_,fun b o e hx=>?_,fun b xs e=>tups b xs (I.base.tups b xs e),fun b o xs e=>frzs b o xs (I.base.frzs b o xs e),fun b ps e=>?_⟩,?_,fun x c e=>?_,?_,fun x c e=>?_,fun p hp=>?_,hok,I.len⟩
  · exact keep b o (neL b o e) hb (neC b o e hx) (I.base.keep b o e n hb hx) (I.base.free b o e n hx)
  · obtain ⟨sl,e1⟩:=I.base.slot b o e n hb hx
    obtain ⟨sl',e2⟩:=slot b _ (neL b o e) hb (neC b o e hx) e1 (I.base.free b o e n hx)
    exact ⟨sl',e2⟩
  · obtain ⟨o',e1⟩:=I.base.there b o e hx
    exact free b o' (neC b o e hx) e1 (I.base.free b o e n hx)
  · obtain ⟨o',e1⟩:=I.base.there b o e hx
    exact there b o' (neC b o e hx) e1
  · obtain ⟨m1,e1⟩:=I.base.tbls b ps e
    obtain ⟨m2,e2⟩:=tbls b _ e1
    exact ⟨m1++m2,by rw [e2,Array.append_assoc]⟩
  · obtain ⟨m,hn,hl⟩:=I.loc
    refine ⟨m,ns m hn,fun i x v e1 e2 e3=>?_⟩
    obtain ⟨u,r,l⟩:=hl i x v e1 e2 e3
    refine ⟨u,r,?_⟩
    rcases l with l | ⟨k,c,e,z⟩
    · exact .inl l
    · exact .inr ⟨k,c,e,cellK x c e _ z⟩
  · obtain ⟨v,z⟩:=I.cell x c e
    exact ⟨v,cellK x c e v z⟩
  · obtain ⟨m,⟨o,_,_,ho,_⟩,_⟩:=I.loc
    exact free _ o (fun z=>(hch _ z).2.1 rfl) ho I.free
  · obtain ⟨v,o,ho,hd⟩:=I.cell x c e
    exact free c o (fun z=>(hch c z).2.2.1 x c e rfl) ho (I.freeC x c e)
  · obtain ⟨e,n,ne,nf,d⟩:=I.pin p hp
    have nch:p.1∉ch:=fun z=>(hch p.1 z).2.2.2 p hp rfl
    exact ⟨keep p.1 p.2 ne nf nch e n,free p.1 p.2 nch e n,ne,nf,d⟩
theorem Inv.un {t':Nat} (I:Inv X pins σ H s) (u:Un X.fs [] H H' s.heap h') (hok:HOk X.prog X.w H' h'):Inv X pins σ H' { s with heap:=h',toks:=t' }:=by
  obtain ⟨m,⟨o,es,ep,ho,r⟩,_⟩:=id I.loc
  obtain ⟨sl,hL⟩:=u.any ho I.free (by simp)
  exact I.step (g':=s.gens) (d':=s.drawn) (ch:=[]) (fun _ z=>nomatch z) (fun b o _ hb _ e n=>u.keep b o e n hb (by simp)) (fun b o _ hb _ e n=>u.slot b o e n hb (by simp)) (fun b o _ e n=>u.free b o e n (by simp)) (fun b o _ e=>u.there b o e (by simp)) u.tups u.frzs u.tbls (fun m' hm=>by
    obtain ⟨o',es',ep',ho',r'⟩:=hm
    rw [ho] at ho';cases ho'
    exact ⟨_,es',ep',hL,r'⟩) hok I.bare
theorem Inv.call {g':Array GenState} {t':Nat} {d':Drawn} {ch:List Addr} (I:Inv X pins σ H s) (u:Un (frs X.stack) ch H H' s.heap h') (hok:HOk X.prog X.w H' h') (hg:AllBare g')
    (hch:∀ b∈ch,(b∈X.ex∨X.s₀.heap.objs.size≤b)∧b≠X.env.locals∧(∀ x c,X.env.cells.lookup x=some c→c≠b)∧∀ p∈X.pn++pins,p.1≠b) :
    Inv X pins σ H' { s with heap:=h',gens:=g',drawn:=d',toks:=t' }:=by
  obtain ⟨m,⟨o,es,ep,ho,r⟩,_⟩:=id I.loc
  obtain ⟨sl,hL⟩:=u.any ho I.free fun z=>(hch _ z).2.1 rfl
  exact I.step (ch:=ch) hch (fun b o hL hb hc e n=>u.keep b o e n (fun z=>(List.mem_cons.mp (I.stkSub b z)).elim hL hb) hc) (fun b o _ _ hc e n=>u.any e n hc) (fun b o hc e n=>u.free b o e n hc) (fun b o hc e=>u.there b o e hc) u.tups u.frzs u.tbls (fun m' hm=>by
    obtain ⟨o',es',ep',ho',r'⟩:=hm
    rw [ho] at ho';cases ho'
    exact ⟨_,es',ep',hL,r'⟩) hok hg
theorem Inv.turned {t':Nat} {it:Addr} (I:Inv X pins σ H s) (k:∀ b o,b≠it→s.heap.get? b=some o→h'.get? b=some o) (hn:H it=none) (hL:it≠X.env.locals)
    (h1:it∈X.ex∨X.s₀.heap.objs.size≤it) (h2:∀ x c,X.env.cells.lookup x=some c→c≠it) (h3:∀ p∈X.pn++pins,p.1≠it):Inv X pins σ H { s with heap:=h',toks:=t' }:=by
  have nit:∀ b u,H b=some u→b≠it:=fun b u e z=>by rw [z,hn] at e;cases e
  refine I.step (g':=s.gens) (d':=s.drawn) (ch:=[it]) (fun b hb=>?_) (fun b o _ _ hc e _=>k b o (fun z=>hc (by simp [z])) e) (fun b o _ _ hc e _=>⟨o.slots,k b o (fun z=>hc (by simp [z])) e⟩) (fun _ _ _ _ n=>n)
    (fun b o hc e=>⟨o,k b o (fun z=>hc (by simp [z])) e⟩) (fun _ _ e=>e) (fun _ _ _ e=>e) (fun b ps e=>⟨#[],by rw [e];simp⟩) (fun m hm=>?_) (fun b u e=>?_) I.bare
  · have e:b=it:=by simpa using hb
    subst e
    exact ⟨h1,hL,h2,h3⟩
  · obtain ⟨o,es,ep,ho,r⟩:=hm
    exact ⟨o,es,ep,k _ o (Ne.symm hL) ho,r⟩
  · refine (I.hok b u e).stay (fun c v hc q=>k c v ?_ q) (fun _ q=>q) fun _ _ q=>q
    rcases hc with z | z
    · rw [z];exact nit b u e
    · exact nit c _ z
theorem Inv.tok (I:Inv X pins σ H s) (t:Nat):Inv X pins σ H { s with toks:=t }:=I.un (h':=s.heap) (t':=t) Un.refl I.hok
theorem Inv.kept {t':Nat} (I:Inv X pins σ H s) (k:∀ b u,s.heap.get? b=some u→h'.get? b=some u):Inv X pins σ H { s with heap:=h',toks:=t' }:=I.un (Un.kept k) (I.hok.kept k)
theorem Inv.laid {a:Addr} {o:HO} {t':Nat} (I:Inv X pins σ H s) (k:∀ b u,s.heap.get? b=some u→h'.get? b=some u) (hp:s.heap.objs.size≤a) (new:ObjOk X.prog X.w (upd H a o) h' a o) :
    Inv X pins σ (upd H a o) { s with heap:=h',toks:=t' }:=I.un (Un.laid k hp (I.hok.fresh hp)) (I.hok.laid k hp new)
theorem Inv.write {x e:Addr} {o:HO} {t':Nat} (I:Inv X pins σ H s) (mu:Mut (H x)) (he:e=x∨H e=some (.own x)) (k:∀ b u,b≠e→s.heap.get? b=some u→h'.get? b=some u) (heo:∃ u,h'.get? e=some u)
    (new:ObjOk X.prog X.w (upd H x o) h' x o):Inv X pins σ (upd H x o) { s with heap:=h',toks:=t' }:=I.un (Un.write mu he k heo) (I.hok.write mu he k heo new)
theorem Inv.weak {σ':List (Option V)} (I:Inv X pins σ H s) (hl:σ'.length = σ.length) (w:∀ (i:Nat) v,σ'[i]?=some (some v)→σ[i]?=some (some v)):Inv X pins σ' H s :=
  ⟨I.ok,I.os,I.bare,I.base,let ⟨m,hn,hl'⟩:=I.loc;⟨m,hn,fun i x v e1 e2 e3=>hl' i x v e1 (w i v e2) e3⟩,I.cell,I.free,I.freeC,I.pin,I.hok,hl.trans I.len⟩
theorem Inv.pins_of {pins':List (Addr×Obj)} (I:Inv X pins σ H s) (h:∀ p∈pins',s.heap.get? p.1=some p.2∧H p.1=none∧p.1≠X.env.locals∧p.1∉X.fs∧∀ v,p.2.data≠.cell v):Inv X pins' σ H s :=
  ⟨I.ok,I.os,I.bare,I.base,I.loc,I.cell,I.free,I.freeC,fun p hp=>(List.mem_append.mp hp).elim (fun z=>I.pin p (mem_append_left _ z)) (h p),I.hok,I.len⟩
theorem z5k {N:List Str} (hN:N.Nodup) {i j:Nat} {x:Str} (a:N[i]?=some x) (b:N[j]?=some x):i=j:=by
  obtain ⟨h1,e1⟩:=List.getElem?_eq_some_iff.mp a
  obtain ⟨h2,e2⟩:=List.getElem?_eq_some_iff.mp b
  exact (List.getElem_inj hN).mp (e1.trans e2.symm)
theorem zIq {M:Model} {A:Around} {E:Value→Shared→Prop} {i:Nat} {x:Str} {v:V} {u:Value} {Q:Unit→Shared→Prop} (I:Inv X pins σ H s) (hN:X.N.Nodup) (hi:X.N[i]?=some x) (hx:Loc X.env.scope x) (r:RelV v u)
    (h:∀ s',Inv X pins (σ.set i (some v)) H s'→(∃ a,Heap.SameBut a s.heap s'.heap∧(a=X.env.locals∨X.env.cells.lookup x=some a))→Q () s') (hf:X.fn x=true∨X.env.scope.names.lookup x=some .local:=by first | exact .inl rfl | exact .inr rfl | assumption):wpAny M A (storeName X.env x u) Q E s:=by
  obtain ⟨m,hn,hl⟩:=id I.loc
  have hcls:(X.env.scope.kind == .class || (X.env.scope.kind == .module && X.env.locals != X.env.globals))=false:=by rw [I.ok.kind];rfl
  have hiσ:i < σ.length:=by rw [I.len];exact (List.getElem?_eq_some_iff.mp hi).1
  have cne:=I.cne
  have tracked:∀ {a:Addr} {h':Heap},(∃ o,s.heap.get? a=some o∧H a=none)→Heap.SameBut a s.heap h'→HOk X.prog X.w H h':=fun {a h'} ha hs b ob e=>by
    obtain ⟨_,_,hfree⟩:=ha
    refine (I.hok b ob e).stay (fun c w' hc q=>(hs.2 c ?_).trans q) (fun _ q=>q) fun _ _ q=>q
    rintro rfl
    rcases hc with rfl | hc
    · rw [hfree] at e;cases e
    · rw [hfree] at hc;cases hc
  rcases hx with hk | hk
  · refine wpAny_storeName_local hk hn (fun h' hn' hs=>?_) hcls
    obtain ⟨oL,_,_,hoL,_⟩:=id hn
    refine h _ ⟨I.ok,I.os,I.bare,⟨fun b o e n hb hx=>?_,fun b o e n hb hx=>?_,I.base.free,fun b o e hx=>?_,I.base.tups,I.base.frzs,I.base.tbls⟩,⟨_,hn',fun j y v' e1 e2 e3=>?_⟩,fun y c e=>?_,I.free,I.freeC,fun p hp=>?_,tracked ⟨oL,hoL,I.free⟩ hs,by simpa using I.len⟩ ⟨_,hs, .inl rfl⟩
    · exact (hs.2 b (Nat.ne_of_lt (Nat.lt_of_lt_of_le (Heap.lt_size e) I.ok.above))).trans (I.base.keep b o e n hb hx)
    · obtain ⟨sl,e1⟩:=I.base.slot b o e n hb hx
      exact ⟨sl,(hs.2 b (Nat.ne_of_lt (Nat.lt_of_lt_of_le (Heap.lt_size e) I.ok.above))).trans e1⟩
    · obtain ⟨o',e1⟩:=I.base.there b o e hx
      exact ⟨o',(hs.2 b (Nat.ne_of_lt (Nat.lt_of_lt_of_le (Heap.lt_size e) I.ok.above))).trans e1⟩
    · by_cases hj:j=i
      · subst hj
        rw [hi] at e1;cases e1
        rw [List.getElem?_set_self hiσ] at e2
        cases e2
        exact ⟨u,r, .inl ⟨hk,by simp⟩⟩
      · rw [List.getElem?_set_ne (Ne.symm hj)] at e2
        obtain ⟨u',r',q⟩:=hl j y v' e1 e2 e3
        refine ⟨u',r',?_⟩
        rcases q with ⟨k,e⟩ | ⟨k,c,e,z⟩
        · refine .inl ⟨k,?_⟩
          have:y≠x:=fun e=>hj (z5k hN e1 (e▸hi))
          simp [this,e]
        · exact .inr ⟨k,c,e,z.sameBut hs (cne y c e)⟩
    · obtain ⟨w',z⟩:=I.cell y c e
      exact ⟨w',z.sameBut hs (cne y c e)⟩
    · obtain ⟨e,n,ne,nf,d⟩:=I.pin p hp
      exact ⟨(hs.2 p.1 ne).trans e,n,ne,nf,d⟩
  · have hfn:X.fn x=true:=by
      rcases hf with z | z
      · exact z
      · rw [z] at hk;cases hk
    obtain ⟨c,hc⟩:=I.ok.has x (.inl hk)
    obtain ⟨w',z⟩:=I.cell x c hc
    refine wpAny_storeName_cell I.ok.kind hk hc z (fun h' hc' hs=>?_)
    obtain ⟨oc,hoc,hocd⟩:=id z
    refine h { s with heap:=h' } ⟨I.ok,I.os,I.bare,⟨fun b o e n hb hx=>?_,fun b o e n hb hx=>?_,I.base.free,fun b o e hx=>?_,I.base.tups,I.base.frzs,I.base.tbls⟩,⟨m,hn.sameBut hs (Ne.symm (cne x c hc)),fun j y v' e1 e2 e3=>?_⟩,fun y c' e=>?_,I.free,I.freeC,fun p hp=>?_,tracked ⟨oc,hoc,I.freeC x c hc⟩ hs,by simpa using I.len⟩ ⟨c,hs, .inr hc⟩
    · exact (hs.2 b (Nat.ne_of_lt (Nat.lt_of_lt_of_le (Heap.lt_size e) (I.ok.cab x c hfn hc)))).trans (I.base.keep b o e n hb hx)
    · obtain ⟨sl,e1⟩:=I.base.slot b o e n hb hx
      exact ⟨sl,(hs.2 b (Nat.ne_of_lt (Nat.lt_of_lt_of_le (Heap.lt_size e) (I.ok.cab x c hfn hc)))).trans e1⟩
    · obtain ⟨o',e1⟩:=I.base.there b o e hx
      exact ⟨o',(hs.2 b (Nat.ne_of_lt (Nat.lt_of_lt_of_le (Heap.lt_size e) (I.ok.cab x c hfn hc)))).trans e1⟩
    · by_cases hj:j=i
      · subst hj
        rw [hi] at e1;cases e1
        rw [List.getElem?_set_self hiσ] at e2
        cases e2
        exact ⟨u,r, .inr ⟨.inl hk,c,hc,hc'⟩⟩
      · rw [List.getElem?_set_ne (Ne.symm hj)] at e2
        obtain ⟨u',r',q⟩:=hl j y v' e1 e2 e3
        refine ⟨u',r',?_⟩
        rcases q with q | ⟨k,c',e,z'⟩
        · exact .inl q
        · refine .inr ⟨k,c',e,z'.sameBut hs ?_⟩
          rintro rfl
          exact hj (z5k hN e1 (I.ok.inj _ _ _ e hc▸hi))
    · by_cases hcc:c'=c
      · subst hcc;exact ⟨_,hc'⟩
      · obtain ⟨w2,z2⟩:=I.cell y c' e
        exact ⟨w2,z2.sameBut hs hcc⟩
    · obtain ⟨e,n,ne,nf,d⟩:=I.pin p hp
      refine ⟨(hs.2 p.1 ?_).trans e,n,ne,nf,d⟩
      intro q
      rw [q,hoc] at e
      have q':oc=p.2:=Option.some.inj e
      exact d w' (by rw [← q'];exact hocd)
theorem zFf {M:Model} {A:Around} {E:Value→Shared→Prop} {i:Nat} {x:Str} {v:V} {u:Value} {Q:Unit→Shared→Prop} (I:Inv X pins σ H s) (hN:X.N.Nodup) (hi:X.N[i]?=some x) (hx:Loc X.env.scope x) (r:RelV v u)
    (h:∀ s',Inv X pins (σ.set i (some v)) H s'→Q () s') (hf:X.fn x=true∨X.env.scope.names.lookup x=some .local:=by first | exact .inl rfl | exact .inr rfl | assumption):wpAny M A (storeName X.env x u) Q E s :=
  zIq I hN hi hx r (fun s' I' _=>h s' I') hf
theorem Inv.call' {s':Shared} {ch:List Addr} (I:Inv X pins σ H s) (ho:s'.os=s.os) (u:Un (frs X.stack) ch H H' s.heap s'.heap) (hok:HOk X.prog X.w H' s'.heap) (hg:AllBare s'.gens)
    (hch:∀ b∈ch,(b∈X.ex∨X.s₀.heap.objs.size≤b)∧b≠X.env.locals∧(∀ x c,X.env.cells.lookup x=some c→c≠b)∧∀ p∈X.pn++pins,p.1≠b):Inv X pins σ H' s':=by
  obtain ⟨h',g',d',t',o'⟩:=s'
  have e:o'=s.os:=ho
  subst e
  exact I.call (g':=g') (t':=t') (d':=d') u hok hg hch
end
abbrev XK:=Value→Option Addr→Hp→Prop
noncomputable abbrev St:=List (Option V)
abbrev VK:=V→Hp→Prop
abbrev TE:=St→Hp→VK→Prop
abbrev TT:=St→Hp→(Bool→Hp→Prop)→Prop
abbrev TA:=St→Hp→(List V→Hp→Prop)→Prop
structure Ends where
  nx:St→Hp→Prop
  rt:VK
  bk:St→Hp→Prop:=fun _ _=>False
  ct:St→Hp→Prop:=fun _ _=>False
abbrev TS:=Ends→St→Hp→Prop
def EP (X:Cx) (pins:List (Addr×Obj)) (σ:St) (Q:VK) (u:Value) (s':Shared):Prop:=∃ v H',Inv X pins σ H' s'∧RelV v u∧Q v H'
def TP (X:Cx) (pins:List (Addr×Obj)) (σ:St) (Q:Bool→Hp→Prop) (b:Bool) (s':Shared):Prop:=∃ H',Inv X pins σ H' s'∧Q b H'
def AP (X:Cx) (pins:List (Addr×Obj)) (σ:St) (Q:List V→Hp→Prop) (us:List Value) (s':Shared):Prop:=∃ vs H',Inv X pins σ H' s'∧Vals vs us∧Q vs H'
noncomputable def SP (X:Cx) (pins:List (Addr×Obj)) (D:Ends) (f:Flow) (s':Shared):Prop :=
  match f with
  | .next=>∃ σ' H',Inv X pins σ' H' s'∧D.nx σ' H'
  | .brk=>∃ σ' H',Inv X pins σ' H' s'∧D.bk σ' H'
  | .cont=>∃ σ' H',Inv X pins σ' H' s'∧D.ct σ' H'
  | .ret u=>∃ v σ' H',Inv X pins σ' H' s'∧RelV v u∧D.rt v H'
noncomputable def PE (X:Cx) (e:Expr) (t:TE):Prop :=
  ∀ (pins:List (Addr×Obj)) (s:Shared) (σ:St) (H:Hp) (Q:VK),Inv X pins σ H s→t σ H Q→wpAny (model X.prog X.w) X.A (eval e X.env) (EP X pins σ Q) X.xe s
noncomputable def PT (X:Cx) (e:Expr) (t:TT):Prop :=
  ∀ (pins:List (Addr×Obj)) (s:Shared) (σ:St) (H:Hp) (Q:Bool→Hp→Prop),Inv X pins σ H s→t σ H Q→wpAny (model X.prog X.w) X.A (isTrue e X.env (eval e X.env)) (TP X pins σ Q) X.xe s
noncomputable def PW (X:Cx) (e:Expr) (t:TT):Prop :=
  ∀ (whole:Sem Value) (pins:List (Addr×Obj)) (s:Shared) (σ:St) (H:Hp) (Q:Bool→Hp→Prop),Inv X pins σ H s→t σ H Q→wpAny (model X.prog X.w) X.A (isTrue e X.env whole) (TP X pins σ Q) X.xe s
noncomputable def PA (X:Cx) (es:List Expr) (t:TA):Prop :=
  ∀ (pos:Pos) (pins:List (Addr×Obj)) (s:Shared) (σ:St) (H:Hp) (Q:List V→Hp→Prop),Inv X pins σ H s→t σ H Q→wpAny (model X.prog X.w) X.A (spliced (backTo pos (starEach es X.env))) (AP X pins σ Q) X.xe s
noncomputable def PS (X:Cx) (st:Stmt) (t:TS):Prop :=
  ∀ (pins:List (Addr×Obj)) (s:Shared) (σ:St) (H:Hp) (D:Ends),Inv X pins σ H s→t D σ H→wpAny (model X.prog X.w) X.A (exec st X.env) (SP X pins D) X.xe s
noncomputable def PSs (X:Cx) (st:List Stmt) (t:TS):Prop :=
  ∀ (pins:List (Addr×Obj)) (s:Shared) (σ:St) (H:Hp) (D:Ends),Inv X pins σ H s→t D σ H→wpAny (model X.prog X.w) X.A (execs st X.env) (SP X pins D) X.xe s
theorem thn {α:Type} {t:Sem α} {Q Q':α→Shared→Prop} {M:Model} {A:Around} {E:Value→Shared→Prop} {s:Shared} (h:wpAny M A t Q E s) (hQ:∀ a s,Q a s→Q' a s):wpAny M A t Q' E s:=wpAny_mono h hQ fun _ _ x=>x
section
variable {X:Cx}
noncomputable def zlx (i:Nat):TE:=fun σ H Q=>∃ v,σ[i]?=some (some v)∧Q v H
noncomputable def tC (v:V):TE:=fun _ H Q=>Q v H
theorem zRs {i:Nat} {x:Str} {pos:Pos} (hN:X.N[i]?=some x) (hv:Vis X.env.scope x) (hd:(x == ("__debug__":Str))=false:=by decide) (hcd:(x == ("__classdict__":Str))=false:=by decide):PE X (.Name x pos) (zlx i):=by
  intro pins s σ H Q I h
  obtain ⟨v,e,h⟩:=h
  obtain ⟨m,hn,hl⟩:=I.loc
  obtain ⟨u,r,l⟩:=hl i x v hN e hv
  have fin:EP X pins σ Q u s:=⟨v,H,I,r,h⟩
  rcases l with ⟨hk,hm⟩ | ⟨hk,c,hc,hcell⟩
  · exact wpAny_Name (wpAny_loadName_local I.ok.kind hk hn hm fin) hd
  · rcases hk with hk | hk
    · exact wpAny_Name (wpAny_loadName_cell I.ok.kind hk hc hcell fin) hd
    · exact wpAny_Name (wpAny_loadName_free I.ok.kind hk hc hcell fin hcd) hd
theorem z7v {i j pos}:PE X (.Constant (.int i) j pos) (tC (.int i)):=fun _ _ _ H _ I h=>wpAny_Constant_int ⟨.int i,H,I.tok _,⟨_,rfl⟩,h⟩
theorem z2w {b j pos}:PE X (.Constant (.bool b) j pos) (tC (.bl b)):=fun _ _ _ H _ I h=>Constant_bool ⟨.bl b,H,I,rfl,h⟩
theorem zgw {j pos}:PE X (.Constant .none j pos) (tC .non):=fun _ _ _ H _ I h=>Constant_none ⟨.non,H,I,rfl,h⟩
theorem zUv {x j pos}:PE X (.Constant (.str x) j pos) (tC (.str x)):=fun _ _ _ H _ I h=>Calls.Constant_str ⟨.str x,H,I.tok _,⟨_,rfl⟩,h⟩
def Gl (X:Cx) (x:Str):Prop:=X.env.kindOf x=some .globalImplicit
theorem zJg {E:Value→Shared→Prop} {pins:List (Addr×Obj)} {s:Shared} {σ:St} {H:Hp} {x:Str} {u:Value} {pos:Pos} {Q:Value→Shared→Prop} (I:Inv X pins σ H s) (hg:Gl X x) (hm:X.mg x=some u) (h:Q u s)
    (hd:(x == ("__debug__":Str))=false:=by decide):wpAny (model X.prog X.w) X.A (eval (.Name x pos) X.env) Q E s :=
  Calls.Name_function_global I.ok.kind hg (Calls.loadGlobal_global (by rw [I.ok.glob];exact I.mod.glob.keeps I.bk) hm h) hd
theorem zJi {E:Value→Shared→Prop} {pins:List (Addr×Obj)} {s:Shared} {σ:St} {H:Hp} {x:Str} {u:Value} {pos:Pos} {Q:Value→Shared→Prop} (I:Inv X pins σ H s) (hg:Gl X x) (hm:X.mg x=none) (hv:bootBuiltins x=some u) (h:Q u s)
    (hn:x≠"__name__":=by decide) (hd:(x == ("__debug__":Str))=false:=by decide):wpAny (model X.prog X.w) X.A (eval (.Name x pos) X.env) Q E s:=by
  obtain ⟨mb,h1,h2⟩:=I.mod.blt
  exact Calls.Name_function_global I.ok.kind hg (Calls.loadGlobal_builtin (by rw [I.ok.glob];exact I.mod.glob.keeps I.bk) hm (by rw [I.ok.blt];exact h1.keeps I.bk) ((h2 x hn).trans hv) h) hd
theorem zCu {x:Str} {v:V} {u:Value} {pos:Pos} (hg:Gl X x) (hm:X.mg x=some u) (r:RelV v u) (hd:(x == ("__debug__":Str))=false:=by decide):PE X (.Name x pos) (tC v) :=
  fun _ _ _ H _ I h=>zJg I hg hm ⟨v,H,I,r,h⟩ hd
theorem zNt {x:Str} {v:V} {u:Value} {pos:Pos} (hg:Gl X x) (hm:X.mg x=none) (hv:bootBuiltins x=some u) (r:RelV v u) (hn:x≠"__name__":=by decide) (hd:(x == ("__debug__":Str))=false:=by decide):PE X (.Name x pos) (tC v) :=
  fun _ _ _ H _ I h=>zJi I hg hm hv ⟨v,H,I,r,h⟩ hn hd
variable {a b:Expr} {ta tb:TE} {pos:Pos}
theorem nobehind (b:Expr) {op:CmpOp} (h:op≠.In) (h2:op≠.NotIn):behindInMarks op b=false:=by
  have e1:(op == CmpOp.In)=false:=by cases op <;> first | rfl | exact absurd rfl h
  have e2:(op == CmpOp.NotIn)=false:=by cases op <;> first | rfl | exact absurd rfl h2
  cases b <;> simp [behindInMarks,e1,e2]
noncomputable def tB (t:TE):TT:=fun σ H Q=>t σ H fun x H1=>∃ c,x = .bl c∧Q c H1
theorem zrv {e:Expr} {t:TE} (h:PE X e t) (he:∀ whole,isTrue e X.env whole=(do let v ← whole;standAt e.pos;holding [v] (truthy v)):=by intro _;rfl):PT X e (tB t):=by
  intro pins s σ H Q I hw
  refine isTrue_plain (thn (h pins s σ H _ I hw) fun v s1 ⟨x,H1,I1,r1,q1⟩=>?_) (he _)
  obtain ⟨d,rfl,q⟩:=q1
  cases r1
  exact wpAny_truthy_bool ⟨H1,I1,q⟩
variable {tA tB':TT} {rest:List Expr}
noncomputable def zRx (t u:TT):TT:=fun σ H Q=>t σ H fun c H1=>if c=true then u σ H1 Q else Q false H1
noncomputable def tOr (t u:TT):TT:=fun σ H Q=>t σ H fun c H1=>if c=true then Q true H1 else u σ H1 Q
noncomputable def z6x (t:TT):TT:=fun σ H Q=>t σ H fun c H1=>Q (!c) H1
theorem zlu (ha:PT X a tA):PW X (.BoolOp .And [a] pos) tA:=by
  intro wh pins s σ H Q I h
  refine isTrue_and (thn (ha pins s σ H Q I h) fun c s1 e=>?_)
  cases c with
  | true=>exact isTrue_and_nil e
  | false=>exact e
theorem zVu (ha:PT X a tA):PW X (.BoolOp .Or [a] pos) tA:=by
  intro wh pins s σ H Q I h
  refine isTrue_or (thn (ha pins s σ H Q I h) fun c s1 e=>?_)
  cases c with
  | false=>exact isTrue_or_nil e
  | true=>exact e
theorem z9v (ha:PT X a tA) (hb:PW X (.BoolOp .And (b :: rest) pos) tB'):PW X (.BoolOp .And (a :: b :: rest) pos) (zRx tA tB'):=by
  intro wh pins s σ H Q I h
  refine isTrue_and (thn (ha pins s σ H _ I h) fun c s1 ⟨H1,I1,q1⟩=>?_)
  cases c with
  | true=>exact hb wh pins s1 σ H1 Q I1 q1
  | false=>exact ⟨H1,I1,q1⟩
theorem zqx (ha:PT X a tA) (hb:PW X (.BoolOp .Or (b :: rest) pos) tB'):PW X (.BoolOp .Or (a :: b :: rest) pos) (tOr tA tB'):=by
  intro wh pins s σ H Q I h
  refine isTrue_or (thn (ha pins s σ H _ I h) fun c s1 ⟨H1,I1,q1⟩=>?_)
  cases c with
  | true=>exact ⟨H1,I1,q1⟩
  | false=>exact hb wh pins s1 σ H1 Q I1 q1
theorem zTu (ha:PT X a tA):PT X (.UnaryOp .Not a pos) (z6x tA):=by
  intro pins s σ H Q I h
  exact isTrue_not (ha pins s σ H (fun c H1=>Q (!c) H1) I h)
noncomputable def zky (ta tb:TE):TE:=fun σ H Q=>ta σ H fun x H1=>∃ c,x = .bl c∧if c=true then Q (.bl true) H1 else tb σ H1 Q
theorem zbw {op} {t:TE} (h:PE X a t):PE X (.BoolOp op [a] pos) t:=fun pins s σ H Q I hw=>BoolOp_one (h pins s σ H Q I hw)
theorem z4w (ha:PE X a ta) (hb:PE X (.BoolOp .Or (b :: rest) pos) tb):PE X (.BoolOp .Or (a :: b :: rest) pos) (zky ta tb):=by
  intro pins s σ H Q I h
  refine BoolOp_or (thn (ha pins s σ H _ I h) fun v s1 ⟨x,H1,I1,r1,q1⟩=>?_)
  obtain ⟨c,rfl,q1⟩:=q1
  cases r1
  refine wpAny_truthy_bool ?_
  cases c with
  | false=>exact hb pins s1 σ H1 Q I1 q1
  | true=>exact ⟨.bl true,H1,I1,rfl,q1⟩
end
noncomputable def SqL (K:W.Frag) (H:Hp) (a:Addr) (xs:List V):Prop :=
  Rd H a (.lst xs) ∨
    ∃ (o:Obj) (its:Array Value) (n:Nat),K.lookup a=some o∧o.cls = .type "list"∧o.dict=none∧o.data = .seq its n∧its.size≤sizeLine∧Vals xs its.toList
noncomputable def SqT (K:W.Frag) (H:Hp) (a:Addr) (xs:List V):Prop :=
  Rd H a (.tup xs) ∨
    ∃ (o:Obj) (its:Array Value) (n:Nat),K.lookup a=some o∧o.cls = .type "tuple"∧o.data = .seq its n∧its.size≤sizeLine∧Vals xs its.toList
noncomputable def zYx:Value→Option V
  | .none=>some .non
  | .bool b=>some (.bl b)
  | .int i _=>some (.int i)
  | .str x _=>some (.str x)
  | .bytes b _=>some (.byt b)
  | .float b _=>some (.flt b)
  | .ref a=>some (.ref a)
  | .type n=>some (.ty n)
  | _=>none
theorem RelV.abs {x:V} {u:Value} (r:RelV x u):zYx u=some x:=by
  cases x with
  | non=>cases r;rfl
  | bl _=>cases r;rfl
  | int _=>obtain ⟨t,rfl⟩:=r;rfl
  | str _=>obtain ⟨t,rfl⟩:=r;rfl
  | byt _=>obtain ⟨t,rfl⟩:=r;rfl
  | flt _=>obtain ⟨t,rfl⟩:=r;rfl
  | ref _=>cases r;rfl
  | ty _=>cases r;rfl
theorem RelV.inj {x y:V} {u:Value} (r:RelV x u) (q:RelV y u):x=y:=Option.some.inj (r.abs.symm.trans q.abs)
theorem Vals.inj {xs ys:List V} {us:List Value} (h:Vals xs us):Vals ys us→xs=ys:=by
  induction h generalizing ys with
  | nil=>intro h;cases h;rfl
  | cons r _ ih =>
    intro h
    cases h with
    | cons r' t'=>rw [r.inj r',ih t']
section
variable {X:Cx} {pins:List (Addr×Obj)} {σ:St} {H:Hp} {s:Shared} {a:Addr} {xs ys:List V}
theorem SqL.of {K:W.Frag} (h:H a=some (.lst xs)):SqL K H a xs := .inl (.inl h)
theorem SqT.of {K:W.Frag} (h:H a=some (.tup xs)):SqT K H a xs := .inl (.inl h)
theorem Inv.list (I:Inv X pins σ H s) (h:SqL X.K H a xs):∃ its:List Value,Vals xs its∧PlainL s.heap a its.toArray∧xs.length≤sizeLine:=by
  rcases h with h | ⟨o,its,n,hk,hc,hd,hs,hz,r⟩
  · obtain ⟨z,its,n,r,e⟩:=h.ok I.hok
    exact ⟨its,r,⟨_,n,e,rfl,rfl,rfl⟩,z⟩
  · refine ⟨its.toList,r,⟨o,n,I.kIn a o hk,hc,hd,by simpa using hs⟩,?_⟩
    have e:=r.length
    simp only [Array.length_toList] at e
    omega
theorem Inv.tuple (I:Inv X pins σ H s) (h:SqT X.K H a xs):∃ its:List Value,Vals xs its∧IsTup s.heap a its.toArray∧xs.length≤sizeLine:=by
  rcases h with h | ⟨o,its,n,hk,hc,hs,hz,r⟩
  · obtain ⟨z,its,r,p⟩:=h.ok I.hok
    exact ⟨its,r,p,z⟩
  · refine ⟨its.toList,r,⟨o,I.kIn a o hk,hc,n,by simpa using hs⟩,?_⟩
    have e:=r.length
    simp only [Array.length_toList] at e
    omega
theorem Inv.list_inj (I:Inv X pins σ H s) (h:SqL X.K H a xs) (h':SqL X.K H a ys):xs=ys:=by
  obtain ⟨its,r,⟨o,n,e,_,_,d⟩,_⟩:=I.list h
  obtain ⟨its',r',⟨o',n',e',_,_,d'⟩,_⟩:=I.list h'
  rw [e] at e';cases e'
  rw [d] at d'
  injection d' with d1 _
  have:its=its':=by simpa using congrArg Array.toList d1
  subst this
  exact r.inj r'
theorem Inv.tuple_inj (I:Inv X pins σ H s) (h:SqT X.K H a xs) (h':SqT X.K H a ys):xs=ys:=by
  obtain ⟨its,r,⟨o,e,_,n,d⟩,_⟩:=I.tuple h
  obtain ⟨its',r',⟨o',e',_,n',d'⟩,_⟩:=I.tuple h'
  rw [e] at e';cases e'
  rw [d] at d'
  injection d' with d1 _
  have:its=its':=by simpa using congrArg Array.toList d1
  subst this
  exact r.inj r'
end
noncomputable abbrev Cx.wish (X:Cx) (E:Value→Shared→Prop):Cx:={ X with xe:=E }
noncomputable abbrev Cx.nox (X:Cx):Cx:=X.wish fun _ _=>False
theorem Cx.Ok.wish {X:Cx} (ok:X.Ok) (E:Value→Shared→Prop):(X.wish E).Ok :=
  ⟨ok.mod,ok.kind,ok.glob,ok.blt,ok.above,ok.inj,ok.has,ok.cab,ok.hd,ok.frames,ok.stk,ok.exf,ok.bs,ok.bsz,ok.noex,ok.exfs,ok.funs,ok.frf⟩
theorem Cx.Ok.unwish {X:Cx} {E:Value→Shared→Prop} (ok:(X.wish E).Ok):X.Ok :=
  ⟨ok.mod,ok.kind,ok.glob,ok.blt,ok.above,ok.inj,ok.has,ok.cab,ok.hd,ok.frames,ok.stk,ok.exf,ok.bs,ok.bsz,ok.noex,ok.exfs,ok.funs,ok.frf⟩
section
variable {X:Cx} {pins:List (Addr×Obj)} {σ:St} {H:Hp} {s:Shared} {E:Value→Shared→Prop}
theorem Inv.wish (I:Inv X pins σ H s) (E:Value→Shared→Prop):Inv (X.wish E) pins σ H s:=⟨I.ok.wish E,I.os,I.bare,I.base,I.loc,I.cell,I.free,I.freeC,I.pin,I.hok,I.len⟩
theorem Inv.unwish (I:Inv (X.wish E) pins σ H s):Inv X pins σ H s:=⟨I.ok.unwish,I.os,I.bare,I.base,I.loc,I.cell,I.free,I.freeC,I.pin,I.hok,I.len⟩
theorem SP.unwish {D:Ends} {f:Flow} {s':Shared} (h:SP (X.wish E) pins D f s'):SP X pins D f s':=by
  cases f with
  | next=>obtain ⟨σ',H',I,q⟩:=h;exact ⟨σ',H',I.unwish,q⟩
  | brk=>obtain ⟨σ',H',I,q⟩:=h;exact ⟨σ',H',I.unwish,q⟩
  | cont=>obtain ⟨σ',H',I,q⟩:=h;exact ⟨σ',H',I.unwish,q⟩
  | ret u=>obtain ⟨v,σ',H',I,r,q⟩:=h;exact ⟨v,σ',H',I.unwish,r,q⟩
theorem PSs.nox {st:List Stmt} {t:TS} (h:PSs X.nox st t):PSs X st t:=fun pins s σ H D I hw =>
  wpAny_mono (h pins s σ H D (I.wish _) hw) (fun _ _ q=>q.unwish) fun _ _ z=>False.elim z
end
section
variable {X:Cx} {st:Stmt} {rest:List Stmt} {t u:TS} {e:Expr} {te:TE} {pos:Pos}
noncomputable def zix:TS:=fun D σ H=>D.nx σ H
noncomputable def z1x (t u:TS):TS:=fun D σ H=>t { D with nx:=u D } σ H
theorem zVt:PSs X [] zix:=fun _ _ σ H _ I h=>wpAny_execs_nil ⟨σ,H,I,h⟩
theorem zso (h1:PS X st t) (h2:PSs X rest u):PSs X (st :: rest) (z1x t u):=by
  intro pins s σ H D I h
  refine wpAny_execs_cons (thn (h1 pins s σ H { D with nx:=u D } I h) fun f s1 q=>?_)
  cases f with
  | next =>
    obtain ⟨σ',H',I',q⟩:=q
    exact h2 pins s1 σ' H' D I' q
  | ret v=>exact q
  | brk=>exact q
  | cont=>exact q
theorem zar (h1:PS X st t):PSs X [st] t:=by
  intro pins s σ H D I h
  refine wpAny_execs_cons (thn (h1 pins s σ H D I h) fun f s1 q=>?_)
  cases f with
  | next=>exact wpAny_execs_nil q
  | ret v=>exact q
  | brk=>exact q
  | cont=>exact q
theorem Inv.quiet {pins:List (Addr×Obj)} {σ:St} {H:Hp} {s:Shared} (I:Inv X pins σ H s):interactive X.env=false:=by simp [interactive,I.ok.kind]
noncomputable def zLw (te:TE):TS:=fun D σ H=>te σ H fun _ H1=>D.nx σ H1
theorem zSq (he:PE X e te) (hs:swapsWith e none pos.line X.env=pure false:=by rfl):PS X (.Expr e pos) (zLw te):=by
  intro pins s σ H D I h
  exact wpAny_Expr_any (thn (he pins s σ H _ I h) fun v s1 ⟨x,H1,I1,r1,q1⟩=>⟨σ,H1,I1,q1⟩) I.quiet hs
noncomputable def zcy (te:TE):TS:=fun D σ H=>te σ H D.rt
theorem z3u (he:PE X e te):PS X (.Return (some e) pos) (zcy te):=by
  intro pins s σ H D I h
  exact wpAny_Return_some (thn (he pins s σ H _ I h) fun v s1 ⟨x,H1,I1,r1,q1⟩=>⟨x,σ,H1,I1,r1,q1⟩)
noncomputable def z9x (c:TT) (t u:TS):TS:=fun D σ H=>c σ H fun b H1=>if b=true then t D σ H1 else u D σ H1
theorem zcx {c:Expr} {a b:List Stmt} {tc:TT} (hc:PT X c tc) (ha:PSs X a t) (hb:PSs X b u):PS X (.If c a b pos) (z9x tc t u):=by
  intro pins s σ H D I h
  refine wpAny_If (thn (hc pins s σ H _ I h) fun d s1 ⟨H1,I1,q1⟩=>?_)
  cases d with
  | true=>exact ha pins s1 σ H1 D I1 q1
  | false=>exact hb pins s1 σ H1 D I1 q1
noncomputable def zOv:TS:=fun _ _ _=>False
theorem zks:PS X st zOv:=fun _ _ _ _ _ _ h=>h.elim
end
abbrev TG:=V→St→Hp→(St→Hp→Prop)→Prop
abbrev TGs:=List V→St→Hp→(St→Hp→Prop)→Prop
noncomputable def PG (X:Cx) (target:Expr) (t:TG):Prop :=
  ∀ (pins:List (Addr×Obj)) (s:Shared) (σ:St) (H:Hp) (v:V) (u:Value) (Q:St→Hp→Prop),Inv X pins σ H s→RelV v u→t v σ H Q →
    wpAny (model X.prog X.w) X.A (assign target X.env u) (fun _ s'=>∃ σ' H',Inv X pins σ' H' s'∧Q σ' H') X.xe s
noncomputable def PGs (X:Cx) (ts:List Expr) (t:TGs):Prop :=
  ∀ (pins:List (Addr×Obj)) (s:Shared) (σ:St) (H:Hp) (vs:List V) (us:List Value) (Q:St→Hp→Prop),Inv X pins σ H s→Vals vs us→t vs σ H Q →
    wpAny (model X.prog X.w) X.A (assignInOrder ((assignEach ts X.env).map (·.2)) us) (fun _ s'=>∃ σ' H',Inv X pins σ' H' s'∧Q σ' H') X.xe s
abbrev zZw:=V→V→V→Hp→(Hp→Prop)→Prop
noncomputable def z9w (X:Cx) (t:zZw):Prop :=
  ∀ (pins:List (Addr×Obj)) (s:Shared) (σ:St) (H:Hp) (o i v:V) (ov iv u:Value) (Q:Hp→Prop),Inv X pins σ H s→RelV o ov→RelV i iv→RelV v u→t o i v H Q →
    wpAny (model X.prog X.w) X.A (setItem ov iv u) (fun _ s'=>∃ H',Inv X pins σ H' s'∧Q H') X.xe s
abbrev TIp:=V→V→Hp→VK→Prop
noncomputable def PIp (X:Cx) (op:Operator) (t:TIp):Prop :=
  ∀ (pins:List (Addr×Obj)) (s:Shared) (σ:St) (H:Hp) (x y:V) (v u:Value) (Q:VK),Inv X pins σ H s→RelV x v→RelV y u→t x y H Q →
    wpAny (model X.prog X.w) X.A (inplaceOp op v u) (EP X pins σ Q) X.xe s
section
variable {X:Cx} {pos:Pos}
noncomputable def zdw (i:Nat):TG:=fun v σ H Q=>Q (σ.set i (some v)) H
theorem zkr {i:Nat} {x:Str} (hN:X.N.Nodup) (hi:X.N[i]?=some x) (hx:Loc X.env.scope x) (hf:X.fn x=true∨X.env.scope.names.lookup x=some .local:=by first | exact .inl rfl | exact .inr rfl | assumption):PG X (.Name x pos) (zdw i):=by
  intro pins s σ H v u Q I r h
  exact wpAny_assign_Name (zFf I hN hi hx r (fun s' I'=>⟨_,H,I',h⟩) hf)
noncomputable def zQx:TGs:=fun vs σ H Q=>vs = []∧Q σ H
noncomputable def zPw (t:TG) (u:TGs):TGs:=fun vs σ H Q=>∃ v r,vs=v :: r∧t v σ H fun σ' H'=>u r σ' H' Q
theorem zKp:PGs X [] zQx:=by
  intro pins s σ H vs us Q I r h
  obtain ⟨e,h⟩:=h
  subst e
  cases r
  exact assignInOrder_nil ⟨σ,H,I,h⟩
theorem zjo {e:Expr} {es:List Expr} {t:TG} {u:TGs} (h1:PG X e t) (h2:PGs X es u)
    (hs:(assignEach (e :: es) X.env).map (·.2)=assign e X.env :: (assignEach es X.env).map (·.2):=by rfl):PGs X (e :: es) (zPw t u):=by
  intro pins s σ H vs us Q I r h
  obtain ⟨v,vr,e1,h⟩:=h
  subst e1
  cases r with
  | cons r rr =>
    rw [hs]
    refine assignInOrder_cons (thn (h1 pins s σ H _ _ _ I r h) fun _ s1 ⟨σ1,H1,I1,q1⟩=>?_)
    exact h2 pins s1 σ1 H1 _ _ Q I1 rr q1
noncomputable def zZx (K:W.Frag) (n:Nat) (t:TGs):TG:=fun v σ H Q=>∃ a xs,v = .ref a∧SqT K H a xs∧xs.length=n∧t xs σ H Q
theorem z3s {es:List Expr} {k:Nat} {t:TGs} {n:Nat} (hc:X.calm=true) (h:PGs X es t)
    (hn:(assignEach es X.env).length=n:=by rfl) (hst:(assignEach es X.env).findIdx? (·.1)=none:=by rfl):PG X (.Tuple es k pos) (zZx X.K n t):=by
  intro pins s σ H v u Q I r hw
  obtain ⟨a,xs,e1,hq,hl,hw⟩:=hw
  subst e1
  cases r
  obtain ⟨its,rv,ht,hz⟩:=I.tuple hq
  refine assign_Tuple_tuple (I.ok.hd hc) ht (by simp [hn,← hl,rv.length]) hst fun h' hx=>?_
  have I1:Inv X pins σ H { s with heap:=h' }:=I.kept (t':=s.toks) fun b o e=>hx b o (Nat.ne_of_lt (Heap.lt_size e)) e
  exact h pins _ σ H xs _ Q I1 (by simpa using rv) hw
noncomputable def zJs (to ti:TE) (t:zZw):TG:=fun v σ H Q=>to σ H fun o H1=>ti σ H1 fun i H2=>t o i v H2 fun H3=>Q σ H3
theorem z2s {o i:Expr} {to ti:TE} {t:zZw} (ho:PE X o to) (hi:PE X i ti) (hs:z9w X t)
    (ha:∀ v,assign (.Subscript o i pos) X.env v=(do
      let ov ← holding [v] (eval o X.env)
      let iv ← holding [v,ov] (eval i X.env)
      standAt pos
      holding [v,ov,iv] (setItem ov iv v)
      release [v,ov,iv] []):=by intro _;rfl):PG X (.Subscript o i pos) (zJs to ti t):=by
  intro pins s σ H v u Q I r h
  rw [ha]
  refine wpAny_bind (wpAny_holding (thn (ho pins s σ H _ I h) fun ov s1 ⟨x,H1,I1,r1,q1⟩=>?_))
  refine wpAny_bind (wpAny_holding (thn (hi pins s1 σ H1 _ I1 q1) fun iv s2 ⟨y,H2,I2,r2,q2⟩=>?_))
  refine wpAny_bind (wpAny_standAt (wpAny_bind (wpAny_holding (thn (hs pins s2 σ H2 x y v ov iv u _ I2 r1 r2 r q2) fun _ s3 ⟨H3,I3,q3⟩=>?_))))
  exact wpAny_release ⟨σ,H3,I3,q3⟩
noncomputable def zJx (te:TE) (g:TG):TS:=fun D σ H=>te σ H fun x H1=>g x σ H1 D.nx
theorem zgv {tg e:Expr} {te:TE} {g:TG} (he:PE X e te) (hg:PG X tg g) (hs:swapsWithSole [tg] e pos.line X.env=pure false:=by rfl) (hw:swappedStores [tg] e X.env=pure none:=by rfl)
    (h1:(assignEach [tg] X.env).map (·.2) = [assign tg X.env]:=by rfl):PS X (.Assign [tg] e pos) (zJx te g):=by
  intro pins s σ H D I h
  refine wpAny_Assign_stores (thn (he pins s σ H _ I h) fun v s1 ⟨x,H1,I1,r1,q1⟩=>?_) hs hw
  rw [h1]
  exact thn (hg pins s1 σ H1 x v _ I1 r1 q1) fun _ s2 q=>q
theorem zsv {i:Nat} {x:Str} {e:Expr} {te:TE} {pos':Pos} (hN:X.N.Nodup) (hi:X.N[i]?=some x) (hx:Loc X.env.scope x) (he:PE X e te) (hs:swapsWith e (some (.Name x pos')) pos.line X.env=pure false:=by rfl) (hf:X.fn x=true∨X.env.scope.names.lookup x=some .local:=by first | exact .inl rfl | exact .inr rfl | assumption) :
    PS X (.Assign [.Name x pos'] e pos) (zJx te (zdw i)):=by
  intro pins s σ H D I h
  refine wpAny_Assign_Name (thn (he pins s σ H _ I h) fun v s1 ⟨y,H1,I1,r1,q1⟩=>?_) hs
  exact zFf I1 hN hi hx r1 (fun s2 I2=>⟨_,H1,I2,q1⟩) hf
noncomputable def ziy (i:Nat) (te:TE) (ti:TIp):TS:=fun D σ H=>∃ x,σ[i]?=some (some x)∧te σ H fun y H1=>ti x y H1 fun z H2=>D.nx (σ.set i (some z)) H2
theorem zZu {i:Nat} {x:Str} {e:Expr} {te:TE} {op:Operator} {ti:TIp} {pos':Pos} (hN:X.N.Nodup) (hi:X.N[i]?=some x) (hx:Loc X.env.scope x) (he:PE X e te) (ho:PIp X op ti) (hf:X.fn x=true∨X.env.scope.names.lookup x=some .local:=by first | exact .inl rfl | exact .inr rfl | assumption) :
    PS X (.AugAssign (.Name x pos') op e pos) (ziy i te ti):=by
  intro pins s σ H D I h
  obtain ⟨v,e1,h⟩:=h
  obtain ⟨m,hn,hl⟩:=I.loc
  have vis:Vis X.env.scope x:=by rcases hx with k | k;exact .inl k;exact .inr (.inl k)
  obtain ⟨u,r,l⟩:=hl i x v hi e1 vis
  refine wpAny_AugAssign_Name ?_
  have go:wpAny (model X.prog X.w) X.A (eval e X.env) (fun w s₂=>wpAny (model X.prog X.w) X.A (inplaceOp op u w) (fun r s₃=>wpAny (model X.prog X.w) X.A (storeName X.env x r) (fun _=>SP X pins D .next) X.xe s₃) X.xe s₂) X.xe s:=by
    refine thn (he pins s σ H _ I h) fun w s1 ⟨y,H1,I1,r1,q1⟩=>?_
    refine thn (ho pins s1 σ H1 v y u w _ I1 r r1 q1) fun z s2 ⟨zv,H2,I2,r2,q2⟩=>?_
    exact zFf I2 hN hi hx r2 (fun s3 I3=>⟨_,H2,I3,q2⟩) hf
  rcases l with ⟨hk,hm⟩ | ⟨hk,c,hc,hcell⟩
  · exact wpAny_loadName_local I.ok.kind hk hn hm go
  · rcases hk with hk | hk
    · exact wpAny_loadName_cell I.ok.kind hk hc hcell go
    · rcases hx with k | k
      · have:X.env.scope.names.lookup x=some .free:=hk
        rw [k] at this;cases this
      · have:X.env.scope.names.lookup x=some .free:=hk
        rw [k] at this;cases this
end
section
variable {X:Cx} {pos:Pos}
noncomputable def zmw (c:TT) (tb:TS):TS:=fun D σ H=>∃ W:Nat→St→Hp→Prop,(∃ m,W m σ H)∧∀ m σ H,W m σ H →
  c σ H fun b H1=>if b=true then ∃ N:St→Hp→Prop,(∀ σ' H',N σ' H'→∃ m',m'<m∧W m' σ' H')∧tb { D with nx:=N,ct:=N,bk:=D.nx } σ H1 else D.nx σ H1
theorem zjs {c:Expr} {body:List Stmt} {tc:TT} {tb:TS} (hp:PassesOwn (model X.prog X.w) X.A X.env X.xe) (hc:PT X c tc) (hb:PSs X body tb):PS X (.While c body [] pos) (zmw tc tb):=by
  intro pins s σ H D I h
  obtain ⟨W,⟨m0,w0⟩,turn⟩:=h
  refine wpAny_While (codeAny_whileLoop (fun n s'=>∃ σ' H',Inv X pins σ' H' s'∧W n σ' H') ?_ m0 ⟨σ,H,I,w0⟩)
  rintro n s1 ⟨σ1,H1,I1,w1⟩
  refine wpAny_passesOwn hp (thn (hc pins s1 σ1 H1 _ I1 (turn n σ1 H1 w1)) fun b s2 ⟨H2,I2,q2⟩=>?_)
  cases b with
  | true =>
    obtain ⟨N,hN,q2⟩:=q2
    rw [if_pos rfl]
    refine wpAny_passesOwn hp (thn (hb pins s2 σ1 H2 _ I2 q2) fun f s3 q3=>?_)
    cases f with
    | next =>
      obtain ⟨σ3,H3,I3,n3⟩:=q3
      obtain ⟨m',hm,w3⟩:=hN σ3 H3 n3
      exact ⟨m',hm,σ3,H3,I3,w3⟩
    | cont =>
      obtain ⟨σ3,H3,I3,n3⟩:=q3
      obtain ⟨m',hm,w3⟩:=hN σ3 H3 n3
      exact ⟨m',hm,σ3,H3,I3,w3⟩
    | brk=>exact q3
    | ret v=>exact q3
  | false =>
    rw [if_neg Bool.false_ne_true]
    exact wpAny_execs_nil ⟨σ1,H2,I2,q2⟩
end
structure It where
  go:Nat→Hp→Prop
  yld:Nat→Hp→V→Hp→Prop
  stop:Nat→Hp→Prop
noncomputable def zQn (X:Cx) (pins:List (Addr×Obj)) (H:Hp) (b:Addr):Prop :=
  H b=none∧b≠X.env.locals∧b∉X.fs∧(b∈X.ex∨X.s₀.heap.objs.size≤b)∧(∀ x c,X.env.cells.lookup x=some c→c≠b)∧∀ p∈X.pn++pins,p.1≠b
theorem Inv.fpOk {X:Cx} {pins:List (Addr×Obj)} {σ:St} {H H':Hp} {s:Shared} {b:Addr} (I:Inv X pins σ H s) (hb:s.heap.objs.size≤b) (hn:H' b=none):zQn X pins H' b:=by
  refine ⟨hn,Nat.ne_of_gt (Nat.lt_of_lt_of_le I.lt hb),I.nofs hb, .inr (Nat.le_trans I.sz hb),fun x c e z=>?_,fun p hp z=>?_⟩
  · obtain ⟨v,q⟩:=I.cell x c e
    exact absurd (Nat.lt_of_lt_of_le q.lt (by rw [z];exact hb)) (Nat.lt_irrefl _)
  · exact absurd (Nat.lt_of_lt_of_le (Heap.lt_size (I.pin p hp).1) (by rw [z];exact hb)) (Nat.lt_irrefl _)
structure Turn (P:Program) (w:World) (K:W.Frag) (tg:Expr) (J:It) (fp:List Addr) (it:Addr) (tn:Nat→Heap→Prop):Prop where
  mem:it∈fp
  obj:∀ i h,tn i h→∀ b∈fp,∃ o,h.get? b=some o∧∀ v,o.data≠.cell v
  keep:∀ i h h',tn i h→(∀ b∈fp,∀ o,h.get? b=some o→h'.get? b=some o)→tn i h'
  item:∀ (X:Cx),X.prog=P→X.w=w→X.K=K→X.calm=true→∀ (i:Nat) (pins:List (Addr×Obj)) (s:Shared) (σ:St) (H:Hp) (E:Value→Shared→Prop),Inv X pins σ H s→(∀ b∈fp,zQn X pins H b)→tn i s.heap→J.go i H →
    wpAny (model P w) X.A (pyNext (.ref it)) (fun r s1=>∃ u,r=some u ∧
      wpAny (model P w) X.A (letOwnedTupleGo tg (.ref it) u) (fun _ s2=>∃ x H',Inv X pins σ H' s2∧RelV x u∧J.yld i H x H'∧tn (i+1) s2.heap∧∀ b∈fp,H' b=none) E s1) E s
  done:∀ (X:Cx),X.prog=P→X.w=w→X.K=K→X.calm=true→∀ (i:Nat) (pins:List (Addr×Obj)) (s:Shared) (σ:St) (H:Hp) (E:Value→Shared→Prop),Inv X pins σ H s→(∀ b∈fp,zQn X pins H b)→tn i s.heap→J.stop i H →
    wpAny (model P w) X.A (pyNext (.ref it)) (fun r s1=>r=none∧Inv X pins σ H s1) E s
  self:∀ (A:Around) (i:Nat) (s:Shared) (Q:Value→Shared→Prop) (E:Value→Shared→Prop),tn i s.heap→Q (.ref it) s→wpAny (model P w) A (pyIter (.ref it)) Q E s
abbrev TI:=St→Hp→(It→Hp→Prop)→Prop
noncomputable def PIE (X:Cx) (pins:List (Addr×Obj)) (σ:St) (tg:Expr) (R:It→Hp→Prop) (itv:Value) (s2:Shared):Prop :=
  ∃ (it:Addr) (fp:List Addr) (tn:Nat→Heap→Prop) (J:It) (H':Hp),itv = .ref it∧Inv X pins σ H' s2∧Turn X.prog X.w X.K tg J fp it tn∧tn 0 s2.heap∧(∀ b∈fp,zQn X pins H' b)∧R J H'
noncomputable def PI (X:Cx) (tg iter:Expr) (wi:TI):Prop :=
  ∀ (pins:List (Addr×Obj)) (s:Shared) (σ:St) (H:Hp) (R:It→Hp→Prop),Inv X pins σ H s→wi σ H R →
    wpAny (model X.prog X.w) X.A (eval iter X.env) (fun v s1=>wpAny (model X.prog X.w) X.A (pyIter v) (PIE X pins σ tg R) X.xe s1) X.xe s
theorem zcs {M:Model} {A:Around} {E:Value→Shared→Prop} {s:Shared} {tg:Expr} {it:Addr} {u:Value} {o:Obj} {n:String} {vs:Array Value} {Q:Unit→Shared→Prop} (ho:s.heap.get? it=some o) (hc:o.cls = .type n) (hd:o.data = .fields vs)
    (hn:["enumerate","zip","dict_itemiterator","dict_reverseitemiterator","odict_iterator","itertools.zip_longest","itertools.pairwise"].contains n=false) (hQ:Q () s):wpAny M A (letOwnedTupleGo tg (.ref it) u) Q E s:=by
  unfold letOwnedTupleGo
  cases tg <;> first
    | exact wpAny_pure hQ
    | (cases u <;> first
        | exact wpAny_pure hQ
        | (refine wpAny_bind (wpAny_load ho ?_)
           rw [hc,hd]
           show wpAny M A (if (["enumerate","zip","dict_itemiterator","dict_reverseitemiterator","odict_iterator","itertools.zip_longest","itertools.pairwise"].contains n && vs[0]? == some (rawInt _))=true then _ else _) Q E s
           rw [if_neg (by intro h;rw [hn,Bool.false_and] at h;cases h)]
           exact wpAny_pure hQ))
noncomputable def Itl (K:W.Frag) (a:Addr):It :=
  ⟨fun i H=>∃ xs x,SqL K H a xs∧xs[i]?=some x,fun i H x H'=>H'=H∧∀ xs,SqL K H a xs→xs[i]?=some x,fun i H=>∃ xs,SqL K H a xs∧xs.length≤i⟩
noncomputable def Itt (K:W.Frag) (a:Addr):It :=
  ⟨fun i H=>∃ xs x,SqT K H a xs∧xs[i]?=some x,fun i H x H'=>H'=H∧∀ xs,SqT K H a xs→xs[i]?=some x,fun i H=>∃ xs,SqT K H a xs∧xs.length≤i⟩
noncomputable def Itr (lo:Int) (n:Nat):It:=⟨fun i _=>i<n,fun i H x H'=>H'=H∧x = .int (lo+i),fun i _=>n≤i⟩
theorem z8q {P:Program} {w:World} {K:W.Frag} {tg:Expr} (a it:Addr):Turn P w K tg (Itl K a) [it] it (fun i h=>h.IsListIter it a i) where
  mem:=by simp
  obj:=fun i h st b hb=>by
    have e:b=it:=by simpa using hb
    subst e
    obtain ⟨o,e,c,d⟩:=st
    exact ⟨o,e,fun v z=>by rw [d] at z;cases z⟩
  keep:=fun i h h' st k=>st.at fun o e=>k it (by simp) o e
  item:=by
    intro X hP hw hK hc i pins s σ H E I hf st hg
    subst hP hw hK
    obtain ⟨xs,x,hq,hx⟩:=hg
    obtain ⟨its,rv,p,hz⟩:=I.list hq
    obtain ⟨u,hu,ru⟩:=rv.get hx
    obtain ⟨f0,f1,f2,f3,f4,f5⟩:=hf it (by simp)
    refine wpAny_pyNext_list_item st p.isList (x:=u) (by simpa using hu) fun h' st' sb=>?_
    have I1:Inv X pins σ H { s with heap:=h' }:=I.turned (t':=s.toks) (fun b o hb e=>(sb.2 b hb).trans e) f0 f1 f3 f4 f5
    obtain ⟨o,e,c,d⟩:=id st'
    exact ⟨u,rfl,zcs (s:={ s with heap:=h' }) e c d (by decide) ⟨x,H,I1,ru,⟨rfl,fun ys hy=>by rw [I.list_inj hy hq];exact hx⟩,st',fun b hb=>(hf b hb).1⟩⟩
  done:=by
    intro X hP hw hK hc i pins s σ H E I hf st hg
    subst hP hw hK
    obtain ⟨xs,hq,hx⟩:=hg
    obtain ⟨its,rv,p,hz⟩:=I.list hq
    obtain ⟨f0,f1,f2,f3,f4,f5⟩:=hf it (by simp)
    have hl:=rv.length
    exact wpAny_pyNext_list_end (I.ok.hd hc) st p.isList (by simp;omega) fun h' eb=>⟨rfl,I.turned (t':=s.toks) (fun b o hb e=>eb b o hb e) f0 f1 f3 f4 f5⟩
  self:=fun _ _ _ _ _ st h=>wpAny_pyIter_listiter st h
theorem zqp {P:Program} {w:World} {K:W.Frag} {tg:Expr} (a it:Addr):Turn P w K tg (Itt K a) [it] it (fun i h=>h.IsTupleIter it a i) where
  mem:=by simp
  obj:=fun i h st b hb=>by
    have e:b=it:=by simpa using hb
    subst e
    obtain ⟨o,e,c,d⟩:=st
    exact ⟨o,e,fun v z=>by rw [d] at z;cases z⟩
  keep:=fun i h h' st k=>st.at fun o e=>k it (by simp) o e
  item:=by
    intro X hP hw hK hc i pins s σ H E I hf st hg
    subst hP hw hK
    obtain ⟨xs,x,hq,hx⟩:=hg
    obtain ⟨its,rv,p,hz⟩:=I.tuple hq
    obtain ⟨u,hu,ru⟩:=rv.get hx
    obtain ⟨f0,f1,f2,f3,f4,f5⟩:=hf it (by simp)
    refine wpAny_pyNext_tuple_item st (show s.heap.IsTuple a its.toArray from p) (x:=u) (by simpa using hu) fun h' st' sb=>?_
    have I1:Inv X pins σ H { s with heap:=h' }:=I.turned (t':=s.toks) (fun b o hb e=>(sb.2 b hb).trans e) f0 f1 f3 f4 f5
    obtain ⟨o,e,c,d⟩:=id st'
    exact ⟨u,rfl,zcs (s:={ s with heap:=h' }) e c d (by decide) ⟨x,H,I1,ru,⟨rfl,fun ys hy=>by rw [I.tuple_inj hy hq];exact hx⟩,st',fun b hb=>(hf b hb).1⟩⟩
  done:=by
    intro X hP hw hK hc i pins s σ H E I hf st hg
    subst hP hw hK
    obtain ⟨xs,hq,hx⟩:=hg
    obtain ⟨its,rv,p,hz⟩:=I.tuple hq
    obtain ⟨f0,f1,f2,f3,f4,f5⟩:=hf it (by simp)
    have hl:=rv.length
    exact wpAny_pyNext_tuple_end (I.ok.hd hc) st (show s.heap.IsTuple a its.toArray from p) (by simp;omega) fun h' eb=>⟨rfl,I.turned (t':=s.toks) (fun b o hb e=>eb b o hb e) f0 f1 f3 f4 f5⟩
  self:=fun _ _ _ _ _ st h=>wpAny_pyIter_tupleiter st h
theorem z1o {P:Program} {w:World} {K:PySem.W.Frag} {tg:Expr} (it:Addr) (lo:Int) (n:Nat):Turn P w K tg (Itr lo n) [it] it (fun i h=>IsRangeIter h it (lo+(i:Nat) * 1) ((n:Int) - (i:Nat)) 1) where
  mem:=by simp
  obj:=fun i h st b hb=>by
    have e:b=it:=by simpa using hb
    subst e
    exact ⟨_,st,fun v z=>by
      have z':Data.fields _=Data.cell v:=z
      cases z'⟩
  keep:=fun i h h' st k=>k it (by simp) _ st
  item:=by
    intro X hP hw hK hc i pins s σ H E I hf st hg
    subst hP hw hK
    obtain ⟨f0,f1,f2,f3,f4,f5⟩:=hf it (by simp)
    have W:=Walks.range (prog:=X.prog) (w:=X.w) (I.ok.hd hc) it lo 1 n
    refine W.item i s _ _ hg st fun v h' tk hv st' kk=>?_
    obtain ⟨t,rfl⟩:=hv
    have I1:Inv X pins σ H { s with heap:=h',toks:=tk }:=I.turned (fun b o hb e=>kk b o (by simpa using hb) e) f0 f1 f3 f4 f5
    refine ⟨_,rfl,zcs (s:={ s with heap:=h',toks:=tk }) (n:="range_iterator") st' rfl rfl (by decide) ⟨.int (lo+i),H,I1,⟨t,?_⟩,⟨rfl,rfl⟩,st',fun b hb=>(hf b hb).1⟩⟩
    rw [Int.mul_one]
  done:=by
    intro X hP hw hK hc i pins s σ H E I hf st hg
    subst hP hw hK
    obtain ⟨f0,f1,f2,f3,f4,f5⟩:=hf it (by simp)
    exact wpAny_pyNext_range_end (I.ok.hd hc) st (by have:n≤i:=hg;omega) fun h' eb=>⟨rfl,I.turned (t':=s.toks) (fun b o hb e=>eb b o hb e) f0 f1 f3 f4 f5⟩
  self:=fun _ _ _ _ _ st h=>wpAny_pyIter_rangeiter st h
section
variable {X:Cx} {tg:Expr}
noncomputable def zNq (K:W.Frag) (tl:TE):TI:=fun σ H R=>tl σ H fun x H1=>∃ a,x = .ref a∧(∃ xs,SqL K H1 a xs)∧R (Itl K a) H1
noncomputable def zby (K:W.Frag) (tl:TE):TI:=fun σ H R=>tl σ H fun x H1=>∃ a,x = .ref a∧(∃ xs,SqT K H1 a xs)∧R (Itt K a) H1
theorem zPt {l:Expr} {tl:TE} (hl:PE X l tl):PI X tg l (zNq X.K tl):=by
  intro pins s σ H R I h
  refine thn (hl pins s σ H _ I h) fun v s1 ⟨x,H1,I1,r1,q1⟩=>?_
  obtain ⟨a,e,⟨xs,hq⟩,q⟩:=q1
  subst e
  cases r1
  obtain ⟨its,rv,p,hz⟩:=I1.list hq
  refine wpAny_pyIter_list p.isList ?_
  refine ⟨s1.heap.objs.size,[s1.heap.objs.size],_,_,H1,rfl,I1.kept (t':=s1.toks) fun b o e=>Heap.get?_push_of_some _ e,z8q a _,⟨_,Heap.get?_push_size _ rfl,rfl,rfl⟩,fun b hb=>?_,q⟩
  have e:b=s1.heap.objs.size:=by simpa using hb
  subst e
  exact I1.fpOk (Nat.le_refl _) (I1.hok.fresh (Nat.le_refl _))
theorem z4v {l:Expr} {tl:TE} (hl:PE X l tl):PI X tg l (zby X.K tl):=by
  intro pins s σ H R I h
  refine thn (hl pins s σ H _ I h) fun v s1 ⟨x,H1,I1,r1,q1⟩=>?_
  obtain ⟨a,e,⟨xs,hq⟩,q⟩:=q1
  subst e
  cases r1
  obtain ⟨its,rv,p,hz⟩:=I1.tuple hq
  refine wpAny_pyIter_tuple (show s1.heap.IsTuple a its.toArray from p) ?_
  refine ⟨s1.heap.objs.size,[s1.heap.objs.size],_,_,H1,rfl,I1.kept (t':=s1.toks) fun b o e=>Heap.get?_push_of_some _ e,zqp a _,⟨_,Heap.get?_push_size _ rfl,rfl,rfl⟩,fun b hb=>?_,q⟩
  have e:b=s1.heap.objs.size:=by simpa using hb
  subst e
  exact I1.fpOk (Nat.le_refl _) (I1.hok.fresh (Nat.le_refl _))
theorem zzs {pins:List (Addr×Obj)} {σ:St} {H:Hp} {s:Shared} {R:It→Hp→Prop} {E:Value→Shared→Prop} {lo hi:Int} {t u v:Tok} {tk:Nat} (I:Inv X pins σ H s) (h1:-(2 ^ 62)≤lo) (h2:lo<2 ^ 62) (h3:-(2 ^ 62)≤hi) (h4:hi<2 ^ 62)
    (q:R (Itr lo (hi - lo).toNat) H):wpAny (model X.prog X.w) X.A (pyIter (.ref s.heap.objs.size)) (PIE X pins σ tg R) E { s with heap:=s.heap.push { cls := .type "range",data := .fields #[.int lo t, .int hi u, .int 1 v] },toks:=tk }:=by
  refine wpAny_pyIter_range (IsRange.new ..) (small_one h1 h2 h3 h4) ?_
  have I1:Inv X pins σ H { s with heap:=s.heap.push { cls := .type "range",data := .fields #[.int lo t, .int hi u, .int 1 v] },toks:=tk }:=I.kept fun b o e=>Heap.get?_push_of_some _ e
  refine ⟨(s.heap.push { cls := .type "range",data := .fields #[.int lo t, .int hi u, .int 1 v] }).objs.size,[(s.heap.push { cls := .type "range",data := .fields #[.int lo t, .int hi u, .int 1 v] }).objs.size],_,_,H,rfl,
    I1.kept (t':=tk) fun b o e=>Heap.get?_push_of_some _ e,z1o _ lo (hi - lo).toNat,?_,fun b hb=>?_,q⟩
  · have e1:lo+((0:Nat):Int) * 1=lo:=by simp
    have e2:(((hi - lo).toNat:Nat):Int) - ((0:Nat):Int)=Builtin.Range.rangeSize lo hi 1:=by rw [rangeSize_one];split <;> omega
    show IsRangeIter _ _ (lo+((0:Nat):Int) * 1) ((((hi - lo).toNat:Nat):Int) - ((0:Nat):Int)) 1
    rw [e1,e2]
    exact Heap.get?_push_size _ rfl
  · have e:b=(s.heap.push { cls := .type "range",data := .fields #[.int lo t, .int hi u, .int 1 v] }).objs.size:=by simpa using hb
    subst e
    exact I1.fpOk (Nat.le_refl _) (I1.hok.fresh (Nat.le_refl _))
noncomputable def zhx (ta:TA):TI:=fun σ H R=>ta σ H fun vs H1=>∃ j:Int,vs = [.int j]∧-(2 ^ 62)≤j∧j<2 ^ 62∧R (Itr 0 j.toNat) H1
theorem zMp {a:Expr} {ta:TA} {p pos:Pos} (hg:Gl X "range") (hm:X.mg "range" = none) (ha:PA X [a] ta) (hs:starEach [a] X.env = [(false,eval a X.env)]:=by rfl):PI X tg (.Call (.Name "range" p) [a] [] pos) (zhx ta):=by
  intro pins s σ H R I h
  refine Call_ (zJi I hg hm boot_range (PyProof.Rows.callWith_type1 (thn (ha pos pins s σ H _ I h) fun us s1 ⟨vs,H1,I1,r1,q1⟩=>?_) hs rfl))
  obtain ⟨j,e,q1,q2,q⟩:=q1
  subst e
  cases r1 with
  | cons r rr =>
    cases rr
    obtain ⟨t,rfl⟩:=r
    exact call_range_1 (zzs I1 (by first|decide|omega) (by first|decide|omega) q1 q2 (by simpa using q))
noncomputable def zSx (wi:TI) (g:TG) (tb:TS):TS:=fun D σ H=>wi σ H fun J H1=>∃ W:Nat→Nat→St→Hp→Prop,(∃ m,W 0 m σ H1)∧∀ i m σ H,W i m σ H →
  (J.stop i H∧D.nx σ H)∨(J.go i H∧∃ N:St→Hp→Prop,(∀ σ' H',N σ' H'→∃ m',m'<m∧W (i+1) m' σ' H')∧∀ x H',J.yld i H x H'→g x σ H' fun σ2 H2=>tb { D with nx:=N,ct:=N,bk:=D.nx } σ2 H2)
noncomputable def zCl (fp:List Addr) (h:Heap):List (Addr×Obj):=fp.filterMap fun b=>(h.get? b).map fun o=>(b,o)
theorem zNe {fp:List Addr} {h:Heap} {b:Addr} {o:Obj} (hb:b∈fp) (e:h.get? b=some o):(b,o)∈zCl fp h:=List.mem_filterMap.mpr ⟨b,hb,by rw [e];rfl⟩
theorem zAp {fp:List Addr} {h:Heap} {p:Addr×Obj} (hp:p∈zCl fp h):p.1∈fp∧h.get? p.1=some p.2:=by
  obtain ⟨b,hb,e⟩:=List.mem_filterMap.mp hp
  cases q:h.get? b with
  | none=>rw [q] at e;cases e
  | some o =>
    rw [q] at e
    have e':(b,o)=p:=Option.some.inj e
    subst e'
    exact ⟨hb,q⟩
theorem Inv.pinned {pins:List (Addr×Obj)} {σ:St} {H:Hp} {s:Shared} {fp:List Addr} (I:Inv X pins σ H s) (hf:∀ b∈fp,zQn X pins H b) (ho:∀ b∈fp,∃ o,s.heap.get? b=some o∧∀ v,o.data≠.cell v):Inv X (pins++zCl fp s.heap) σ H s :=
  I.pins_of fun p hp=>(List.mem_append.mp hp).elim (fun z=>I.pin p (mem_append_right _ z)) fun z=>by
    obtain ⟨hb,e⟩:=zAp z
    obtain ⟨f0,f1,f2,_⟩:=hf p.1 hb
    obtain ⟨o,e',d⟩:=ho p.1 hb
    rw [e] at e';cases e'
    exact ⟨e,f0,f1,f2,d⟩
theorem Inv.unpinned {pins pl:List (Addr×Obj)} {σ:St} {H:Hp} {s:Shared} (I:Inv X (pins++pl) σ H s):Inv X pins σ H s:=I.pins_of fun p hp=>I.pin p (mem_append_right _ (mem_append_left _ hp))
theorem zaw {iter:Expr} {body:List Stmt} {wi:TI} {g:TG} {tb:TS} {pos:Pos} (hp:PassesOwn (model X.prog X.w) X.A X.env X.xe) (hc:X.calm=true) (hi:PI X tg iter wi) (hg:PG X tg g) (hb:PSs X body tb)
    (hs:∀ x,foldedSetIterable iter X.env x=pure x:=by intro _;rfl):PS X (.For tg iter body [] pos) (zSx wi g tb):=by
  intro pins s σ H D I h
  refine wpAny_For (thn (hi pins s σ H _ I h) fun v s1 h1=>thn h1 fun itv s2 h2=>?_) hs
  obtain ⟨it,fp,tn,J,H2,e,I2,T,st2,f2,W,⟨m0,w0⟩,turn⟩:=h2
  subst e
  have stat:∀ {H':Hp},(∀ b∈fp,H' b=none)→∀ b∈fp,zQn X pins H' b:=fun hn b hb=>⟨hn b hb,(f2 b hb).2⟩
  refine codeAny_forLoop_any (fun n s'=>∃ i σ' H',Inv X pins σ' H' s'∧tn i s'.heap∧(∀ b∈fp,H' b=none)∧W i n σ' H') ?_ m0 ⟨0,σ,H2,I2,st2,fun b hb=>(f2 b hb).1,w0⟩
  rintro n s3 ⟨i,σ3,H3,I3,st3,fr3,w3⟩
  rcases turn i n σ3 H3 w3 with ⟨stop,qn⟩ | ⟨go,N,hN,step⟩
  · refine wpAny_passesOwn hp (thn (T.done X rfl rfl rfl hc i pins s3 σ3 H3 X.xe I3 (stat fr3) st3 stop) fun r s4 ⟨hr,I4⟩=>?_)
    subst hr
    exact wpAny_execs_nil ⟨σ3,H3,I4,qn⟩
  · refine wpAny_passesOwn hp (thn (T.item X rfl rfl rfl hc i pins s3 σ3 H3 X.xe I3 (stat fr3) st3 go) fun r s4 ⟨u,hr,h4⟩=>?_)
    subst hr
    refine wpAny_passesOwn hp (thn h4 fun _ s5 ⟨x,H5,I5,r5,y5,st5,fr5⟩=>?_)
    have I5':=I5.pinned (stat fr5) (T.obj _ _ st5)
    refine wpAny_passesOwn hp (thn (hg _ s5 σ3 H5 x u _ I5' r5 (step x H5 y5)) fun _ s6 ⟨σ6,H6,I6,q6⟩=>?_)
    refine wpAny_passesOwn hp (thn (hb _ s6 σ6 H6 _ I6 q6) fun f s7 q7=>?_)
    have again:∀ {σ7:St} {H7:Hp},Inv X (pins++zCl fp s5.heap) σ7 H7 s7→N σ7 H7→∃ m,m<n∧∃ i σ' H',Inv X pins σ' H' s7∧tn i s7.heap∧(∀ b∈fp,H' b=none)∧W i m σ' H':=fun {σ7 H7} I7 n7=>by
      obtain ⟨m',hm,w7⟩:=hN σ7 H7 n7
      refine ⟨m',hm,i+1,σ7,H7,I7.unpinned,T.keep _ _ _ st5 fun b hb o e=>(I7.pin (b,o) (mem_append_right _ (mem_append_right _ (zNe hb e)))).1,fun b hb=>?_,w7⟩
      obtain ⟨o,e,d⟩:=T.obj _ _ st5 b hb
      exact (I7.pin (b,o) (mem_append_right _ (mem_append_right _ (zNe hb e)))).2.1
    cases f with
    | next=>obtain ⟨σ7,H7,I7,n7⟩:=q7;exact again I7 n7
    | cont=>obtain ⟨σ7,H7,I7,n7⟩:=q7;exact again I7 n7
    | brk=>obtain ⟨σ7,H7,I7,q7⟩:=q7;exact ⟨σ7,H7,I7.unpinned,q7⟩
    | ret v=>obtain ⟨x7,σ7,H7,I7,r7,q7⟩:=q7;exact ⟨x7,σ7,H7,I7.unpinned,r7,q7⟩
end
abbrev R2:=V→V→Hp→VK→Prop
noncomputable def OpR (X:Cx) (f:Value→Value→Sem Value) (r:R2):Prop :=
  ∀ (pins:List (Addr×Obj)) (s:Shared) (σ:St) (H:Hp) (x y:V) (v u:Value) (Q:VK),Inv X pins σ H s→RelV x v→RelV y u→r x y H Q →
    wpAny (model X.prog X.w) X.A (f v u) (EP X pins σ Q) X.xe s
noncomputable def UnR (X:Cx) (f:Value→Sem Value) (r:V→Hp→VK→Prop):Prop :=
  ∀ (pins:List (Addr×Obj)) (s:Shared) (σ:St) (H:Hp) (x:V) (v:Value) (Q:VK),Inv X pins σ H s→RelV x v→r x H Q →
    wpAny (model X.prog X.w) X.A (f v) (EP X pins σ Q) X.xe s
noncomputable def zNi (X:Cx) (f:Value) (r:List V→Hp→VK→Prop):Prop :=
  ∀ (pins:List (Addr×Obj)) (s:Shared) (σ:St) (H:Hp) (xs:List V) (us:List Value) (Q:VK),Inv X pins σ H s→Vals xs us→r xs H Q →
    wpAny (model X.prog X.w) X.A (call f us) (EP X pins σ Q) X.xe s
noncomputable def tOp (r:R2) (ta tb:TE):TE:=fun σ H Q=>ta σ H fun x H1=>tb σ H1 fun y H2=>r x y H2 Q
noncomputable def tUn (r:V→Hp→VK→Prop) (ta:TE):TE:=fun σ H Q=>ta σ H fun x H1=>r x H1 Q
noncomputable def rI (C:Int→Int→Prop) (g:Int→Int→V):R2:=fun x y H Q=>∃ i j,x = .int i∧y = .int j∧C i j∧Q (g i j) H
noncomputable def rI0 (g:Int→Int→V):R2:=fun x y H Q=>∃ i j,x = .int i∧y = .int j∧Q (g i j) H
def rU (g:Int→V):V→Hp→VK→Prop:=fun x H Q=>∃ i,x = .int i∧Q (g i) H
section
variable {X:Cx} {a b c:Expr} {ta tb tc:TE} {pos:Pos}
theorem binT (ha:PE X a ta) (hb:PE X b tb) {pins:List (Addr×Obj)} {s:Shared} {σ:St} {H:Hp} {R:V→V→Hp→Prop} (I:Inv X pins σ H s)
    (h:ta σ H fun x H1=>tb σ H1 fun y H2=>R x y H2) {Q:Value→Shared→Prop} {f:Value→Value→Sem Value}
    (hf:∀ v u s2 x y H2,Inv X pins σ H2 s2→RelV x v→RelV y u→R x y H2→wpAny (model X.prog X.w) X.A (f v u) Q X.xe s2) :
    wpAny (model X.prog X.w) X.A (eval a X.env) (fun v s₁=>wpAny (model X.prog X.w) X.A (eval b X.env) (fun u s₂=>wpAny (model X.prog X.w) X.A (f v u) Q X.xe s₂) X.xe s₁) X.xe s:=by
  refine thn (ha pins s σ H _ I h) fun v s1 ⟨x,H1,I1,r1,q1⟩=>?_
  refine thn (hb pins s1 σ H1 _ I1 q1) fun u s2 ⟨y,H2,I2,r2,q2⟩=>?_
  exact hf v u s2 x y H2 I2 r1 r2 q2
theorem zIw {op:Operator} {r:R2} (ho:OpR X (binaryOp op) r) (ha:PE X a ta) (hb:PE X b tb):PE X (.BinOp a op b pos) (tOp r ta tb):=by
  intro pins s σ H Q I h
  exact wpAny_BinOp (binT ha hb I h fun v u s2 x y H2 I2 rx ry q=>ho pins s2 σ H2 x y v u Q I2 rx ry q)
theorem z0w {op:UnaryOp} {r:V→Hp→VK→Prop} (ho:UnR X (unaryOp op) r) (ha:PE X a ta):PE X (.UnaryOp op a pos) (tUn r ta):=by
  intro pins s σ H Q I h
  exact UnaryOp_ (thn (ha pins s σ H _ I h) fun v s1 ⟨x,H1,I1,r1,q1⟩=>ho pins s1 σ H1 x v Q I1 r1 q1)
theorem opI {f:Value→Value→Sem Value} {C:Int→Int→Prop} {g:Int→Int→Int}
    (rule:∀ (i j:Int) (t u:Tok) (s:Shared) (Q:Value→Shared→Prop) (E:Value→Shared→Prop),C i j→Q (.int (g i j) s.toks) { s with toks:=s.toks+1 }→wpAny (model X.prog X.w) X.A (f (.int i t) (.int j u)) Q E s) :
    OpR X f (rI C fun i j => .int (g i j)):=by
  intro pins s σ H x y v u Q I rx ry h
  obtain ⟨i,j,rfl,rfl,hc,q⟩:=h
  obtain ⟨t,rfl⟩:=rx
  obtain ⟨t',rfl⟩:=ry
  exact rule i j t t' s _ _ hc ⟨.int (g i j),H,I.tok _,⟨_,rfl⟩,q⟩
theorem opI0 {f:Value→Value→Sem Value} {g:Int→Int→Int}
    (rule:∀ (i j:Int) (t u:Tok) (s:Shared) (Q:Value→Shared→Prop) (E:Value→Shared→Prop),Q (.int (g i j) s.toks) { s with toks:=s.toks+1 }→wpAny (model X.prog X.w) X.A (f (.int i t) (.int j u)) Q E s) :
    OpR X f (rI0 fun i j => .int (g i j)):=by
  intro pins s σ H x y v u Q I rx ry h
  obtain ⟨i,j,rfl,rfl,q⟩:=h
  obtain ⟨t,rfl⟩:=rx
  obtain ⟨t',rfl⟩:=ry
  exact rule i j t t' s _ _ ⟨.int (g i j),H,I.tok _,⟨_,rfl⟩,q⟩
theorem opB0 {f:Value→Value→Sem Value} {g:Int→Int→Bool}
    (rule:∀ (i j:Int) (t u:Tok) (s:Shared) (Q:Value→Shared→Prop) (E:Value→Shared→Prop),Q (.bool (g i j)) s→wpAny (model X.prog X.w) X.A (f (.int i t) (.int j u)) Q E s) :
    OpR X f (rI0 fun i j => .bl (g i j)):=by
  intro pins s σ H x y v u Q I rx ry h
  obtain ⟨i,j,rfl,rfl,q⟩:=h
  obtain ⟨t,rfl⟩:=rx
  obtain ⟨t',rfl⟩:=ry
  exact rule i j t t' s _ _ ⟨.bl (g i j),H,I,rfl,q⟩
theorem zJv:OpR X (binaryOp .Mod) (rI (fun _ j=>0<j) fun i j => .int (i % j)):=opI fun i j _ _ _ _ _ hc q=>by
  have h1:(0:Int)<j:=hc
  exact mod_int' (by first|decide|omega) (by rw [Int.fmod_eq_emod_of_nonneg i (by first|decide|omega)];exact q)
theorem zKu:OpR X (inplaceOp .Add) (rI0 fun i j => .int (i+j)):=opI0 fun _ _ _ _ _ _ _ q=>iadd_int q
theorem unI {f:Value→Sem Value} {g:Int→Int}
    (rule:∀ (i:Int) (t:Tok) (s:Shared) (Q:Value→Shared→Prop) (E:Value→Shared→Prop),Q (.int (g i) s.toks) { s with toks:=s.toks+1 }→wpAny (model X.prog X.w) X.A (f (.int i t)) Q E s) :
    UnR X f (rU fun i => .int (g i)):=by
  intro pins s σ H x v Q I rx h
  obtain ⟨i,rfl,q⟩:=h
  obtain ⟨t,rfl⟩:=rx
  exact rule i t s _ _ ⟨.int (g i),H,I.tok _,⟨_,rfl⟩,q⟩
theorem zbv:UnR X (unaryOp .USub) (rU fun i => .int (-i)):=unI fun _ _ _ _ _ q=>neg_int q
end
section
variable {X:Cx} {a b c:Expr} {ta tb tc:TE} {pos:Pos}
theorem zWv {pins:List (Addr×Obj)} {σ:St} {H:Hp} {s:Shared} {Q:VK} {k k':Bool} (I:Inv X pins σ H s) (q:Q (.bl k) H) (e:k=k'):EP X pins σ Q (.bool k') s:=by
  subst e
  exact ⟨.bl k,H,I,rfl,q⟩
theorem zHw:OpR X (compareOp .Lt) (rI0 fun i j => .bl (decide (i<j))):=opB0 fun _ _ _ _ _ _ _ q=>lt_int q
theorem zXw:OpR X (compareOp .LtE) (rI0 fun i j => .bl (decide (i≤j))):=opB0 fun _ _ _ _ _ _ _ q=>le_int q
theorem zMw:OpR X (compareOp .Gt) (rI0 fun i j => .bl (decide (j<i))):=opB0 fun _ _ _ _ _ _ _ q=>gt_int q
theorem zQw:OpR X (compareOp .GtE) (rI0 fun i j => .bl (decide (j≤i))):=opB0 fun _ _ _ _ _ _ _ q=>ge_int q
theorem zVg:OpR X (compareOp .IsNot) (fun x y H Q=>y = .non∧Q (.bl (!decide (x = .non))) H):=by
  intro pins s σ H x y v u Q I rx ry h
  obtain ⟨rfl,q⟩:=h
  cases ry
  refine isnot_none_gen (zWv I q ?_)
  cases x <;> first
    | (cases rx;rfl)
    | (obtain ⟨t,rfl⟩:=rx;rfl)
theorem zKt {op:CmpOp} {r:R2} (ho:OpR X (compareOp op) r) (ha:PE X a ta) (hb:PE X b tb) (hm:behindInMarks op b=false):PE X (.Compare a [op] [b] pos) (tOp r ta tb):=by
  intro pins s σ H Q I h
  exact wpAny_Compare1 (binT ha hb I h fun v u s2 x y H2 I2 rx ry q=>ho pins s2 σ H2 x y v u Q I2 rx ry q) hm
noncomputable def zbx (t:TE):TT:=fun σ H Q=>t σ H fun x H'=>∃ k,x = .bl k∧Q k H'
theorem zqt {op:CmpOp} {r:R2} (ho:OpR X (compareOp op) r) (ha:PE X a ta) (hb:PE X b tb) (hm:behindInMarks op b=false):PT X (.Compare a [op] [b] pos) (zbx (tOp r ta tb)):=by
  intro pins s σ H Q I h
  refine wpAny_isTrue_Compare1 (thn (ha pins s σ H _ I h) fun v s1 ⟨x,H1,I1,r1,q1⟩=>thn (hb pins s1 σ H1 _ I1 q1) fun u s2 ⟨y,H2,I2,r2,q2⟩ =>
    thn (ho pins s2 σ H2 x y v u _ I2 r1 r2 q2) fun c s3 ⟨z,H3,I3,r3,k,e,q3⟩=>?_) hm
  subst e
  cases r3
  exact wpAny_truthy_bool ⟨H3,I3,q3⟩
theorem line63:(sizeLine:Nat)<2 ^ 63:=by rw [sizeLine_eq];decide
theorem vals1 {x:V} {us:List Value} (r:Vals [x] us):∃ u,us = [u]∧RelV x u:=by
  cases r with
  | cons r1 r2=>cases r2;exact ⟨_,rfl,r1⟩
theorem vals2 {x y:V} {us:List Value} (r:Vals [x,y] us):∃ u w',us = [u,w']∧RelV x u∧RelV y w':=by
  cases r with
  | cons r1 r2 =>
    cases r2 with
    | cons r3 r4=>cases r4;exact ⟨_,_,rfl,r1,r3⟩
end
structure ObjM (h:Heap) (x dx C:Addr) (mA:Str→Option Value):Prop where
  obj:h.get? x=some (W.instObj C dx)
  ns:h.Ns1 dx mA
  ne:dx≠x
theorem zol {h:Heap} {dx:Addr} {mA:Str→Option Value} (n:h.Ns1 dx mA):∃ od,h.get? dx=some od∧∀ name,W.lookIn name od=some (mA name):=by
  obtain ⟨o,es,ep,ho,hd,hk,_,hm⟩:=n
  refine ⟨o,ho,fun name=>?_⟩
  have e:=hm name
  unfold nsFind findBy at e
  rw [← Array.find?_toList] at e
  unfold W.lookIn
  rw [hd]
  dsimp only
  split
  · rename_i y q
    rw [q] at e
    exact congrArg some e
  · rename_i q
    rw [q] at e
    have a:es.toList.any (·.refKey)=false:=by
      rw [List.any_eq_false]
      intro y hy
      obtain ⟨z,t,hkey⟩:=hk y (Array.mem_toList_iff.mp hy)
      simp [DictEntry.refKey,hkey]
    have a':¬ es.toList.any (·.refKey)=true:=by rw [a];exact Bool.false_ne_true
    rw [if_neg a']
    exact congrArg some e
theorem ObjM.look {h:Heap} {x dx C:Addr} {mA:Str→Option Value} (I:ObjM h x dx C mA):∃ od,W.InstAt h x (W.instObj C dx) C (some od)∧∀ name,W.lookIn name od=some (mA name) :=
  let ⟨od,ho,hl⟩:=zol I.ns
  ⟨od,⟨I.obj,rfl,rfl,ho⟩,hl⟩
section
variable {prog:Program} {w:World} {A:Around} {E:Value→Shared→Prop} {s:Shared} {K:W.Frag} {x dx C f:Addr} {mA:Str→Option Value} {name:Str} {v:Value}
end
theorem RelO.some_of {v:V} {o:Option Value} (r:RelO (some v) o):∃ u,o=some u∧RelV v u:=by
  cases o with
  | none=>exact (show False from r).elim
  | some u=>exact ⟨u,rfl,r⟩
theorem zfr {v:V} {u:Value} (r:RelV v u):W.handedIn u=true:=by
  cases v with
  | non=>cases (show u=Value.none from r);rfl
  | bl b=>cases (show u=Value.bool b from r);rfl
  | int i=>obtain ⟨t,e⟩:=(show ∃ t,u=Value.int i t from r);cases e;rfl
  | str x=>obtain ⟨t,e⟩:=(show ∃ t,u=Value.str x t from r);cases e;rfl
  | byt b=>obtain ⟨t,e⟩:=(show ∃ t,u=Value.bytes b t from r);cases e;rfl
  | flt b=>obtain ⟨t,e⟩:=(show ∃ t,u=Value.float b t from r);cases e;rfl
  | ref a=>cases (show u=Value.ref a from r);rfl
  | ty n=>cases (show u=Value.type n from r);rfl
section
variable {P:Program} {w:World} {H H':Hp} {h h':Heap} {a C dx:Addr} {fs fs':List (Str×V)}
theorem z5t (hok:HOk P w H h) (e:H a=some (.ins C dx fs)):∃ mA,ObjM h a dx C mA∧(∀ f,RelO (fs.lookup f) (mA f))∧PySem.Within mA (fs.map (·.1))∧fs.length≤1000∧H dx=some (.own a):=by
  obtain ⟨d,z,ne,ob,mA,n,r,q⟩:=(show ObjOk P w H h a (.ins C dx fs) from hok a _ e)
  exact ⟨mA,⟨ob,n,ne⟩,r,q,z,d⟩
end
structure Cls (K:W.Frag) (C:Addr):Prop where
  pg:W.plainGet K C Str.empty=true
  hd:W.hasDictIn K C=true
  po:W.plainOver K C=true
  sa:W.findIn K (.ref C) "__setattr__" = some (some (.builtin "object.__setattr__"))
theorem Cls.get {K:W.Frag} {C:Addr} (c:Cls K C) (f:Str):W.plainGet K C f=true:=c.pg
structure Con (K:W.Frag) (C:Addr) (f:Str) (v:V) (u:Value):Prop where
  at_:W.findIn K (.ref C) f=some (some u)
  rel:RelV v u
  get:W.specialIn K u "__get__" = some none
  cp:W.copiedNames.contains f=false
structure Meth (K:W.Frag) (C:Addr) (m:Str) (f:Addr):Prop where
  at_:W.findIn K (.ref C) m=some (some (.ref f))
  fn:W.isFn K (.ref f)=true
  kp:W.keepIn K (.ref f)=true
section
variable {X:Cx} {pins:List (Addr×Obj)} {σ:St} {H:Hp} {s:Shared} {a C dx:Addr} {fs:List (Str×V)} {f:Str} {v:V} {A:Around} {E:Value→Shared→Prop}
theorem zwt {prog:Program} {w:World} {env:Env} {e:Expr} {f:Str} {pos:Pos} {s:Shared} {Q:Value→Shared→Prop} (hb:attributeBase e f env (eval e env)=eval e env)
    (h:wpAny (model prog w) A (eval e env) (fun o s₁=>wpAny (model prog w) A (getAttr o f true) Q E s₁) E s):wpAny (model prog w) A (eval (.Attribute e f pos) env) Q E s :=
  Attribute_any_ h (by rw [arm_eval_Attribute,hb])
end
section
variable {X:Cx} {o e value:Expr} {f:Str} {pos pos' tpos:Pos} {ta tv:TE}
end
section
variable {X:Cx} {pins:List (Addr×Obj)} {σ:St} {H:Hp} {s:Shared} {A:Around} {E:Value→Shared→Prop} {Q:Value→Shared→Prop} {c:Value} {b:Bool}
inductive TyOf (K:W.Frag) (H:Hp):V→Value→Prop where
  | non:TyOf K H .non (.type "NoneType")
  | bl (x:Bool):TyOf K H (.bl x) (.type "bool")
  | int (i:Int):TyOf K H (.int i) (.type "int")
  | str (x:Str):TyOf K H (.str x) (.type "str")
  | flt (x:UInt64):TyOf K H (.flt x) (.type "float")
  | lst {a:Addr} {xs:List V} (e:H a=some (.lst xs)):TyOf K H (.ref a) (.type "list")
  | frz {a:Addr} {o:Obj} {xs:List V} (e:H a=some (.frz o (.lst xs))):TyOf K H (.ref a) (.type "list")
  | tup {a:Addr} {xs:List V} (e:H a=some (.tup xs)):TyOf K H (.ref a) (.type "tuple")
  | dK {a:Addr} {kvs:List (Key×V)} (e:H a=some (.dK kvs)):TyOf K H (.ref a) (.type "dict")
  | dT {a:Addr} {kvs:List (List Key×V)} (e:H a=some (.dT kvs)):TyOf K H (.ref a) (.type "dict")
  | ins {a C dx:Addr} {fs:List (Str×V)} (e:H a=some (.ins C dx fs)) (cl:Cls K C) (ha:W.findIn K (.ref C) "__class__" = some (some (.builtin "object.__class__")))
      (hn:W.specialIn K (.builtin "object.__class__") "__get__" = some (some (.builtin "getset_descriptor.__get__"))) (htk:W.takesIn K (.builtin "object.__class__")=some true)
      (hm:W.mroIn K C (.type "object")=some true):TyOf K H (.ref a) (.ref C)
theorem zdq {x:V} {u t:Value} (I:Inv X pins σ H s) (rx:RelV x u) (ty:TyOf X.K H x t) (e:W.kitOne X.K t c=some b) (h:∀ tk,Q (.bool b) { s with toks:=tk }) :
    wpAny (model X.prog X.w) A (call (.builtin "isinstance") [u,c]) Q E s:=by
  cases ty with
  | non=>cases (show u=Value.none from rx);exact W.kia_one W.kitx_none I.kIn True.intro e (fun z=>nomatch z) h
  | bl y=>cases (show u=Value.bool y from rx);exact W.kia_one W.kitx_bool I.kIn True.intro e (fun z=>nomatch z) h
  | int i=>obtain ⟨t,q⟩:=(show ∃ t,u=Value.int i t from rx);cases q;exact W.kia_one W.kitx_int I.kIn True.intro e (fun z=>nomatch z) h
  | str y=>obtain ⟨t,q⟩:=(show ∃ t,u=Value.str y t from rx);cases q;exact W.kia_one W.kitx_str I.kIn True.intro e (fun z=>nomatch z) h
  | flt y=>obtain ⟨t,q⟩:=(show ∃ t,u=Value.float y t from rx);cases q;exact W.kia_one W.kitx_float I.kIn True.intro e (fun z=>nomatch z) h
  | @lst a xs ea =>
    cases (show u=Value.ref a from rx)
    obtain ⟨_,_,n,_,h1⟩:=(show ObjOk X.prog X.w H s.heap a (.lst xs) from I.hok a _ ea)
    exact W.kia_one W.kitx_list I.kIn ⟨_,h1,rfl⟩ e (fun z=>nomatch z) h
  | @frz a ob xs ea =>
    cases (show u=Value.ref a from rx)
    obtain ⟨_,_,_,n,_,h1⟩:=(show ObjOk X.prog X.w H s.heap a (.frz ob (.lst xs)) from I.hok a _ ea)
    exact W.kia_one W.kitx_list I.kIn ⟨_,h1,rfl⟩ e (fun z=>nomatch z) h
  | @tup a xs ea =>
    cases (show u=Value.ref a from rx)
    obtain ⟨_,_,_,p⟩:=(show ObjOk X.prog X.w H s.heap a (.tup xs) from I.hok a _ ea)
    obtain ⟨o,h1,h2,_⟩:=p
    exact W.kia_one W.kitx_tuple I.kIn ⟨o,h1,h2⟩ e (fun z=>nomatch z) h
  | @dK a kvs ea =>
    cases (show u=Value.ref a from rx)
    obtain ⟨_,_,vs,_,p⟩:=(show ObjOk X.prog X.w H s.heap a (.dK kvs) from I.hok a _ ea)
    obtain ⟨o,es,ep,h1,h2,_⟩:=p
    exact W.kia_one W.kitx_dict I.kIn ⟨o,h1,h2.1⟩ e (fun z=>nomatch z) h
  | @dT a kvs ea =>
    cases (show u=Value.ref a from rx)
    obtain ⟨_,_,xs,_,o,es,ep,h1,h2,_⟩:=(show ObjOk X.prog X.w H s.heap a (.dT kvs) from I.hok a _ ea)
    exact W.kia_one W.kitx_dict I.kIn ⟨o,h1,h2.1⟩ e (fun z=>nomatch z) h
  | @ins a C dx fs ea cl ha hn htk hm =>
    cases (show u=Value.ref a from rx)
    obtain ⟨mA,O,_⟩:=z5t I.hok ea
    obtain ⟨od,J,_⟩:=O.look
    exact W.kia_one (W.kitx_own (cl.get _) cl.hd ha hn htk hm) I.kIn J e (fun z=>nomatch z) h
end
structure Room (k:Nat) (A:Around):Prop where
  hd:A.handled=none
  dp:A.depth+3 * k+5<recursionLimit
  un:A.units+16 * k+200<cLine
  gd:A.guards=some []
theorem Room.mono {j k:Nat} {A:Around} (r:Room k A) (h:j≤k):Room j A:=⟨r.hd,by have:=r.dp;omega,by have:=r.un;omega,r.gd⟩
theorem Room.deeper {k:Nat} {A:Around} (r:Room (k+1) A) (env:Env):Room k (A.deeper env) :=
  ⟨r.hd,by have:=r.dp;show A.depth+1+3 * k+5<_;omega,by have:=r.un;show A.units+3+16 * k+200<_;omega,r.gd⟩
theorem zMo {A:Around} {C:Addr} {us:List Value} {kw:List (Str×Value)}:(A.under (.builtin "type.__call__" ⟨.ref C :: us,kw⟩)).depth=A.depth+1:=by
  first | rfl | simp [Around.under,Code.weight,Code.isCreation,Code.isGuard,Code.isCaller,Code.frames,Code.isFrame,guardIds]
theorem zhp {A:Around} {C:Addr} {us:List Value} {kw:List (Str×Value)}:(A.under (.builtin "type.__call__" ⟨.ref C :: us,kw⟩)).units=A.units+1:=by
  first | rfl | simp [Around.under,Code.cUnits,Code.frames,Code.isFrame]
theorem zin {A:Around} {C:Addr} {us:List Value} {kw:List (Str×Value)}:(A.under (.builtin "type.__call__" ⟨.ref C :: us,kw⟩)).guards=A.guards:=by
  first | rfl | (cases h:A.guards <;> simp [Around.under,Code.guards,Code.isGuard,guardIds,h])
theorem Room.make {k:Nat} {A:Around} (r:Room (k+1) A) (C:Addr) (us:List Value) (kw:List (Str×Value)):Room k (A.under (.builtin "type.__call__" ⟨.ref C :: us,kw⟩)) :=
  ⟨r.hd,by have:=r.dp;rw [zMo];omega,by have:=r.un;rw [zhp];omega,by rw [zin];exact r.gd⟩
theorem Room.depth {k:Nat} {A:Around} (r:Room k A):A.depth<recursionLimit:=by have:=r.dp;omega
theorem Room.units {k:Nat} {A:Around} (r:Room k A):A.units+64<cLine:=by have:=r.un;omega
noncomputable def zly:TA:=fun _ H Q=>Q [] H
noncomputable def zTw (ta:TE) (tr:TA):TA:=fun σ H Q=>ta σ H fun x H1=>tr σ H1 fun xs H2=>Q (x :: xs) H2
section
variable {X:Cx} {e:Expr} {es:List Expr} {te:TE} {t:TA} {pos:Pos}
theorem zhe:PA X [] zly:=fun _ _ _ _ H Q I h=>Calls.spliced_nil ⟨[],H,I, .nil,h⟩
theorem zmc (ha:PE X e te) (hr:PA X es t) (hs:starEach (e :: es) X.env=(false,eval e X.env) :: starEach es X.env:=by rfl):PA X (e :: es) (zTw te t):=by
  intro pos pins s σ H Q I h
  rw [hs]
  show wpAny _ _ (spliced ((false,eval e X.env) :: backTo pos (starEach es X.env))) _ _ s
  refine Calls.spliced_cons (thn (ha pins s σ H _ I h) fun u s1 ⟨x,H1,I1,r1,q1⟩=>?_)
  exact thn (hr pos pins s1 σ H1 _ I1 q1) fun us s2 ⟨xs,H2,I2,r2,q2⟩=>⟨x :: xs,H2,I2, .cons r1 r2,q2⟩
noncomputable def zNx (t:TA):TE:=fun σ H Q=>t σ H fun xs H1=>xs.length≤sizeLine∧∀ p,H1 p=none→Q (.ref p) (upd H1 p (.tup xs))
noncomputable def zUx (t:TA):TE:=fun σ H Q=>t σ H fun xs H1=>xs.length≤sizeLine∧∀ p,H1 p=none→Q (.ref p) (upd H1 p (.lst xs))
theorem zYu {x1} (h:PA X es t):PE X (.Tuple es x1 pos) (zNx t):=by
  intro pins s σ H Q I hq
  refine wpAny_Tuple_spliced (thn (h pos pins s σ H _ I hq) fun us s1 ⟨xs,H1,I1,r,z,q⟩=>⟨by rw [← r.length];exact z,?_⟩)
  have hf:H1 s1.heap.objs.size=none:=I1.hok.fresh (Nat.le_refl _)
  refine ⟨.ref s1.heap.objs.size,upd H1 s1.heap.objs.size (.tup xs),I1.laid (t':=s1.toks) (fun b u e=>Heap.get?_push_of_some _ e) (Nat.le_refl _) ?_,rfl,q _ hf⟩
  exact ⟨z,us,r,⟨_,Heap.get?_push_size _ rfl,rfl,_,rfl⟩⟩
theorem zfv (h:PA X es t):PE X (.List es pos) (zUx t):=by
  intro pins s σ H Q I hq
  refine wpAny_List_spliced (thn (h pos pins s σ H _ I hq) fun us s1 ⟨xs,H1,I1,r,z,q⟩=>⟨by rw [← r.length];exact z,?_⟩)
  have hf:H1 s1.heap.objs.size=none:=I1.hok.fresh (Nat.le_refl _)
  refine ⟨.ref s1.heap.objs.size,upd H1 s1.heap.objs.size (.lst xs),I1.laid (t':=s1.toks) (fun b u e=>Heap.get?_push_of_some _ e) (Nat.le_refl _) ?_,rfl,q _ hf⟩
  exact ⟨z,us,0,r,Heap.get?_push_size _ rfl⟩
end
abbrev Sp:=List V→Hp→VK→XK→Prop
abbrev CXT:=List Env→Hp→Shared→XK→Value→Shared→Prop
structure Env0 (P:Program) (w:World) (K:W.Frag) (mg:Str→Option Value) (base:Heap) (A:Around) (outer:List Env) (s:Shared) (H:Hp):Prop where
  frames:A.frames=some outer
  mod:Mod K mg base
  bs:∀ b o,base.get? b=some o→s.heap.get? b=some o∧H b=none
  bsz:base.objs.size≤s.heap.objs.size
  funs:s.heap.FunFrames base outer
  frf:∀ b∈frs outer,H b=none
  hok:HOk P w H s.heap
  bare:AllBare s.gens
noncomputable def CE (outer:List Env) (P:Program) (w:World) (H:Hp) (s:Shared) (Q:VK) (u:Value) (s':Shared):Prop :=
  ∃ v H',s'.os=s.os∧AllBare s'.gens∧Un (frs outer) [] H H' s.heap s'.heap∧HOk P w H' s'.heap∧RelV v u∧Q v H'
noncomputable def CR (CX:CXT) (outer:List Env) (P:Program) (w:World) (H:Hp) (s:Shared) (Q:VK) (E:XK) (r:Result) (s':Shared):Prop :=
  match r with
  | .ok (.ret u)=>CE outer P w H s Q u s'
  | .ok _=>False
  | .error e=>CX outer H s E e s'
structure FnOk (P:Program) (w:World) (K:W.Frag) (mg:Str→Option Value) (base:Heap) (CX:CXT) (k:Nat) (f:Addr) (fd:FuncData) (ps:List Str) (sp:Sp):Prop where
  len:∀ vs H Q E,sp vs H Q E→vs.length=ps.length
  run:∀ (A:Around) (outer:List Env) (s:Shared) (H:Hp) (args:Args) (us:List Value) (vs:List V) (Q:VK) (E:XK),Room k A→Env0 P w K mg base A outer s H→BindsTo s fd args (ps.zip us)→Vals vs us→sp vs H Q E →
    codeAny (model P w) A (.call (.ref f) args) (CR CX outer P w H s Q E) s
theorem Env0.make {P:Program} {w:World} {K:W.Frag} {mg:Str→Option Value} {base:Heap} {A:Around} {outer:List Env} {s:Shared} {H:Hp} (e:Env0 P w K mg base A outer s H) (C:Addr) (us:List Value) (kw:List (Str×Value)) :
    Env0 P w K mg base (A.under (.builtin "type.__call__" ⟨.ref C :: us,kw⟩)) outer s H:=⟨by first | exact e.frames | (simpa [Around.under,Code.envs,Code.isFrame,pushEnvs] using e.frames),e.mod,e.bs,e.bsz,e.funs,e.frf,e.hok,e.bare⟩
section
variable {X:Cx} {pins:List (Addr×Obj)} {σ:St} {H:Hp} {s s':Shared}
theorem Inv.env0 (I:Inv X pins σ H s):Env0 X.prog X.w X.K X.mg X.base X.A X.stack s H :=
  ⟨I.ok.frames,I.ok.mod,I.bs,Nat.le_trans I.ok.bsz I.sz,I.stack,I.stkFree,I.hok,I.bare⟩
theorem Inv.after {Q:VK} {u:Value} (I:Inv X pins σ H s) (h:CE X.stack X.prog X.w H s Q u s'):EP X pins σ Q u s':=by
  obtain ⟨v,H',os,bare,un,hok,r,q⟩:=h
  obtain ⟨hh,g,d,t,os'⟩:=s'
  obtain rfl:os'=s.os:=os
  exact ⟨v,H',I.call (h':=hh) (g':=g) (d':=d) (t':=t) (ch:=[]) un hok bare (fun b z=>absurd z (by simp)),r,q⟩
end
noncomputable def z6v (sp:Sp) (dvs:List V) (E:XK) (t:TA):TE:=fun σ H Q=>t σ H fun vs H1=>sp (vs++dvs) H1 Q E
noncomputable def Binds (K:W.Frag) (fd:FuncData) (ps:List Str) (ds:List Value):Prop :=
  ∀ (s:Shared) (us:List Value),K.In s.heap→(us++ds).length=ps.length→BindsTo s fd ⟨us,[]⟩ (ps.zip (us++ds))
theorem Binds.all {K:W.Frag} {fd:FuncData} {ps:List Str} (h:∀ us:List Value,us.length=ps.length→bindArgs fd ⟨us,[]⟩ = pure (ps.zip us)):Binds K fd ps []:=fun s us _ hl=>by
  rw [append_nil] at hl ⊢
  exact .of_eq (h us hl)
def zCq (CX:CXT) (X:Cx) (E:XK):Prop:=∀ (pins:List (Addr×Obj)) (σ:St) (H:Hp) (s:Shared) (e:Value) (s':Shared),Inv X pins σ H s→CX X.stack H s E e s'→X.xe e s'
section
variable {X:Cx} {CX:CXT} {k:Nat} {f C:Addr} {fd:FuncData} {ps:List Str} {sp:Sp} {dvs:List V} {ds:List Value} {E:XK} {x m:Str} {p pos apos:Pos} {e o:Expr} {es:List Expr} {ta:TE} {t:TA}
theorem ztw {pins:List (Addr×Obj)} {σ:St} {H:Hp} {s:Shared} {Q:VK} {us:List Value} {vs:List V} (F:FnOk X.prog X.w X.K X.mg X.base CX k f fd ps sp) (hr:Room k X.A) (hb:Binds X.K fd ps ds) (hd:Vals dvs ds) (hx:zCq CX X E)
    (I:Inv X pins σ H s) (r:Vals vs us) (h:sp (vs++dvs) H Q E):wpAny (model X.prog X.w) X.A (call (.ref f) us) (EP X pins σ Q) X.xe s:=by
  have r2:Vals (vs++dvs) (us++ds):=r.append hd
  have hl:(us++ds).length=ps.length:=by rw [← r2.length];exact F.len _ _ _ _ h
  refine wpAny_call (codeAny_mono (F.run X.A X.stack s H ⟨us,[]⟩ (us++ds) (vs++dvs) Q E hr I.env0 (hb s us I.kIn hl) r2 h) fun r s' hq=>?_)
  cases r with
  | error e=>exact hx pins σ H s e s' I hq
  | ok fl =>
    cases fl with
    | ret u=>exact I.after hq
    | next=>exact False.elim hq
    | brk=>exact False.elim hq
    | cont=>exact False.elim hq
theorem zpu (F:FnOk X.prog X.w X.K X.mg X.base CX k f fd ps sp) (hr:Room k X.A) (hg:Gl X x) (hm:X.mg x=some (.ref f)) (hk:W.keepIn X.K (.ref f)=true) (hb:Binds X.K fd ps ds) (hd:Vals dvs ds) (hx:zCq CX X E)
    (ha:PA X (e :: es) t) (hdb:(x == ("__debug__":Str))=false:=by decide) (he:starEach (e :: es) X.env=(false,eval e X.env) :: starEach es X.env:=by rfl) (hpl:(backTo pos (starEach es X.env)).any (·.1)=false:=by rfl) :
    PE X (.Call (.Name x p) (e :: es) [] pos) (z6v sp dvs E t):=by
  intro pins s σ H Q I h
  refine wpAny_Call_Name_kw (zJg I hg hm ?_ hdb)
  refine W.callWith_K (h₀:=X.base) I.ok.mod.kin hk (thn (ha pos pins s σ H _ I h) fun us s1 ⟨vs,H1,I1,r,q⟩=>⟨I1.kIn,?_⟩) he hpl
  exact ztw F hr hb hd hx I1 r q
structure Mk (K:W.Frag) (C f:Addr):Prop where
  makes:W.makesIn K C=true
  init:W.findIn K (.ref C) "__init__" = some (some (.ref f))
  fn:W.isFn K (.ref f)=true
  kp:W.keepIn K (.ref C)=true
end
section
variable {X:Cx} {CX:CXT} {k:Nat} {f C:Addr} {fd:FuncData} {ps ks:List Str} {sp:Sp} {E:XK} {x m:Str} {p pos apos kpos:Pos} {e o:Expr} {es:List Expr} {kws:List Keyword} {te ta:TE} {t tk:TA} {nm:Option Str}
structure KBinds (K:W.Frag) (fd:FuncData) (ps ks:List Str) (g:List Value→List Value→List Value) (gV:List V→List V→List V):Prop where
  to:∀ (s:Shared) (us ws:List Value),K.In s.heap→(g us ws).length=ps.length→BindsTo s fd ⟨us,ks.zip ws⟩ (ps.zip (g us ws))
  rel:∀ {vs:List V} {us:List Value} {zs:List V} {ws:List Value},Vals vs us→Vals zs ws→Vals (gV vs zs) (g us ws)
variable {g:List Value→List Value→List Value} {gV:List V→List V→List V}
end
structure FnScope (N P:List Str) (sc:Scope):Prop where
  kind:sc.kind = .function
  co:sc.isCoroutine=false
  gen:sc.isGenerator=false
  nd:N.Nodup
  pre:N.take P.length=P
  par:∀ x∈P,sc.names.lookup x=some .local∨sc.names.lookup x=some .cell
  nofree:∀ y∈sc.names,y.2≠.free
theorem zYl {kindOf:Str→Option NameKind} {x:Str}:∀ {binds:List (Str×Value)} {m:Str→Option Value},(∀ v,(x,v)∉binds)→bindL kindOf binds m x=m x
  | [],_,_=>rfl
  | (n,v) :: r,m,h=>by
    unfold bindL
    rw [zYl fun w hw=>h w (mem_cons_of_mem _ hw)]
    split
    · have:x≠n:=by rintro rfl;exact h v mem_cons_self
      simp [this]
    · rfl
theorem zum {kindOf:Str→Option NameKind} {x:Str}:∀ {binds:List (Str×Value)} {m:Str→Option Value},(∀ v,(x,v)∉binds)→bindC kindOf binds m x=m x
  | [],_,_=>rfl
  | (n,v) :: r,m,h=>by
    unfold bindC
    rw [zum fun w hw=>h w (mem_cons_of_mem _ hw)]
    split
    · rfl
    · have:x≠n:=by rintro rfl;exact h v mem_cons_self
      simp [this]
theorem zTl {kindOf:Str→Option NameKind} {x:Str} {v:Value}:∀ {P:List Str} {vs:List Value} {i:Nat} {m:Str→Option Value},P.Nodup→P[i]?=some x→vs[i]?=some v→kindOf x=some .local →
    bindL kindOf (P.zip vs) m x=some v
  | [],_,_,_,_,h,_,_=>by simp at h
  | _ :: _,[],_,_,_,_,h,_=>by simp at h
  | p :: P,w :: vs,0,m,nd,h1,h2,hk=>by
    simp at h1 h2;subst h1;subst h2
    show bindL kindOf ((p,w) :: P.zip vs) m p=_
    unfold bindL
    rw [zYl fun v hv=>(List.nodup_cons.mp nd).1 (List.of_mem_zip hv).1,if_pos hk]
    simp
  | p :: P,w :: vs,i+1,m,nd,h1,h2,hk=>by
    show bindL kindOf ((p,w) :: P.zip vs) m x=_
    unfold bindL
    exact zTl (i:=i) (List.nodup_cons.mp nd).2 (by simpa using h1) (by simpa using h2) hk
theorem z8l {kindOf:Str→Option NameKind} {x:Str} {v:Value}:∀ {P:List Str} {vs:List Value} {i:Nat} {m:Str→Option Value},P.Nodup→P[i]?=some x→vs[i]?=some v→kindOf x≠some .local →
    bindC kindOf (P.zip vs) m x=some v
  | [],_,_,_,_,h,_,_=>by simp at h
  | _ :: _,[],_,_,_,_,h,_=>by simp at h
  | p :: P,w :: vs,0,m,nd,h1,h2,hk=>by
    simp at h1 h2;subst h1;subst h2
    show bindC kindOf ((p,w) :: P.zip vs) m p=_
    unfold bindC
    rw [zum fun v hv=>(List.nodup_cons.mp nd).1 (List.of_mem_zip hv).1,if_neg hk]
    simp
  | p :: P,w :: vs,i+1,m,nd,h1,h2,hk=>by
    show bindC kindOf ((p,w) :: P.zip vs) m x=_
    unfold bindC
    exact z8l (i:=i) (List.nodup_cons.mp nd).2 (by simpa using h1) (by simpa using h2) hk
noncomputable def start (N:List Str) (vs:List V):St:=vs.map some++List.replicate (N.length - vs.length) none
noncomputable def zbq (CX:CXT) (P:Program) (w:World) (K:W.Frag) (mg:Str→Option Value) (base:Heap) (N:List Str) (qual:Str) (scope:Scope) (f:Addr) (cd:Value) (A:Around) (outer:List Env) (s:Shared) (H:Hp) (E:XK):Cx where
  prog:=P
  w:=w
  K:=K
  mg:=mg
  base:=base
  A:=A.deeper (envOfC qual scope s.heap.objs.size f cd)
  N:=N
  s₀:=s
  H₀:=H
  env:=envOfC qual scope s.heap.objs.size f cd
  outer:=outer
  stack:=envOfC qual scope s.heap.objs.size f cd :: outer
  ex:=[]
  calm:=true
  fn:=fun _=>true
  pn:=[]
  xe:=fun e s'=>wpAny (model P w) (A.deeper (envOfC qual scope s.heap.objs.size f cd)) (leaving (envOfC qual scope s.heap.objs.size f cd) e) (fun _ s''=>CX outer H s E e s'') (fun e' s''=>CX outer H s E e' s'') s'
theorem zwo {sc:Scope} {n:Nat} {x:Str} (h:sc.names.lookup x=some .cell):∃ c,(cellsFrom n sc.names []).lookup x=some c:=by
  have q:=W.cellsFrom_some sc.names n [] (.inl h)
  exact Option.isSome_iff_exists.mp q
theorem zgr {CX:CXT} {P:Program} {w:World} {K:W.Frag} {mg:Str→Option Value} {base:Heap} {N ps:List Str} {qual:Str} {scope:Scope} {f:Addr} {cd:Value} {A:Around} {outer:List Env} {s s1:Shared} {H:Hp} {E:XK} {us:List Value} {vs:List V}
    (S:FnScope N ps scope) (hd:A.handled=none) (e0:Env0 P w K mg base A outer s H) (hl:vs.length=ps.length) (r:Vals vs us)
    (x:InCallC s s.heap.objs.size (bindL (envOfC qual scope s.heap.objs.size f cd).kindOf (ps.zip us) fun _=>none) (cellsFrom (s.heap.objs.size+1) scope.names []) (bindC (envOfC qual scope s.heap.objs.size f cd).kindOf (ps.zip us) fun _=>none) s1) :
    Inv (zbq CX P w K mg base N qual scope f cd A outer s H E) [] (start N vs) H s1:=by
  have hpl:ps.length≤N.length:=by have:=congrArg List.length S.pre;rw [length_take] at this;omega
  obtain ⟨h1,tk,rfl,hk⟩:=x.done
  have noA:∀ b:Addr,b∉(zbq CX P w K mg base N qual scope f cd A outer s H E).ex:=fun b z=>absurd (show b∈([]:List Addr) from z) (by simp)
  refine ⟨⟨e0.mod,S.kind,rfl,rfl,Nat.le_refl _,fun y z c h1 h2=>?_,fun y hy=>?_,fun y c _ h=>?_,fun _=>hd,Around.frames_deeper e0.frames, .inr ⟨rfl,rfl⟩,fun b z=>absurd z (noA b),e0.bs,e0.bsz,fun b _ _=>noA b,fun b z=>absurd z (noA b),e0.funs,e0.frf⟩,
    rfl,e0.bare,Un.kept hk,⟨_,x.toInCall.ns,fun i y v h1 h2 h3=>?_⟩,fun y c h=>⟨_,x.cell y c h⟩,e0.hok.fresh (Nat.le_refl _),fun y c h=>?_,fun p hp=>absurd (show p∈([]:List (Addr×Obj)) from hp) (by simp),e0.hok.kept hk,?_⟩
  · exact name_of_addr x.apart (PySem.mem_of_lookup h1) (PySem.mem_of_lookup h2)
  · have hy:scope.names.lookup y=some .cell∨scope.names.lookup y=some .free:=hy
    rcases hy with hy | hy
    · exact zwo hy
    · exact absurd rfl (S.nofree _ (PySem.mem_of_lookup hy))
  · exact Nat.le_of_lt (x.above y c (PySem.mem_of_lookup h))
  · have hi:i<vs.length:=by
      unfold start at h2
      by_cases hi:i<vs.length
      · exact hi
      · rw [List.getElem?_append_right (by simpa using hi)] at h2
        rw [List.getElem?_replicate] at h2
        split at h2 <;> cases h2
    have ha:vs[i]?=some v:=by
      unfold start at h2
      rw [List.getElem?_append_left (by simpa using hi),List.getElem?_map] at h2
      cases e:vs[i]? with
      | none=>rw [e] at h2;cases h2
      | some a=>rw [e] at h2;cases h2;rfl
    obtain ⟨u,hu,rv⟩:=r.get ha
    have hp:ps[i]?=some y:=by
      rw [← S.pre,List.getElem?_take_of_lt (by first|decide|omega)];exact h1
    have ndP:ps.Nodup:=by rw [← S.pre];exact S.nd.sublist (List.take_sublist _ _)
    refine ⟨u,rv,?_⟩
    rcases S.par y (mem_of_getElem? hp) with k | k
    · exact .inl ⟨k,zTl ndP hp hu k⟩
    · obtain ⟨c,e⟩:=zwo (n:=s.heap.objs.size+1) k
      refine .inr ⟨.inl k,c,e,?_⟩
      have q:=x.cell y c e
      rw [z8l ndP hp hu (by show scope.names.lookup y≠_;rw [k];decide)] at q
      exact q
  · exact e0.hok.fresh (Nat.le_of_lt (x.above y c (PySem.mem_of_lookup h)))
  · unfold start
    show _=N.length
    rw [length_append,length_map,List.length_replicate]
    omega
theorem zav {CX:CXT} {P:Program} {w:World} {K:W.Frag} {mg:Str→Option Value} {base:Heap} {k:Nat} {f:Addr} {name qual:Str} {params:Arguments} {body:List Stmt} {scope:Scope} {dV kV doc pm cdv ct oc:Value} {an od:Option Addr}
    {osl:Array (Option Value)} {N ps:List Str} {sp:Sp} (lk:K.lookup f=some ⟨oc,od, .func (W.fnOf name qual params body scope dV kV doc pm an cdv ct),osl⟩) (hcd:W.codeIn K cdv qual=true) (S:FnScope N ps scope)
    (len:∀ vs H Q E,sp vs H Q E→vs.length=ps.length)
    (hbody:∀ (A:Around) (outer:List Env) (s:Shared) (H:Hp) (vs:List V) (Q:VK) (E:XK),Room k (A.deeper (envOfC qual scope s.heap.objs.size f cdv))→sp vs H Q E →
      ∃ t,PSs (zbq CX P w K mg base N qual scope f cdv A outer s H E) body t∧t { nx:=fun _ H'=>Q .non H',rt:=Q } (start N vs) H) :
    FnOk P w K mg base CX (k+1) f (W.fnOf name qual params body scope dV kV doc pm an cdv ct) ps sp:=by
  refine ⟨len,fun A outer s H args us vs Q E hr e0 hb r hsp=>?_⟩
  have hl:=len _ _ _ _ hsp
  have KX:K.In s.heap:=e0.mod.kin.keeps fun b o e=>(e0.bs b o e).1
  have lim:s.heap.NoLimit:=e0.mod.nolimit.keeps fun b o e=>(e0.bs b o e).1
  have hkind:∀ y∈ps.zip us,scope.names.lookup y.1=some .local∨(scope.names.lookup y.1=some .cell∧((cellsFrom (s.heap.objs.size+1) scope.names []).lookup y.1).isSome=true):=fun ⟨n,v⟩ hy=>by
    rcases S.par n (List.of_mem_zip hy).1 with q | q
    · exact .inl q
    · exact .inr ⟨q,W.cellsFrom_some _ _ _ (.inl q)⟩
  refine codeAny_call_function hr.depth (KX _ _ lk) rfl S.co S.gen rfl (W.codeRec_of KX hcd) (hb _ _ _ _ ?_)
  refine wpAny_newFunctionEnv_cells S.kind hkind fun env he s1 x=>?_
  subst he
  refine ⟨lim.keeps x.toInCall.keep,codeAny_func ?_⟩
  obtain ⟨t,ht,hq⟩:=hbody A outer s H vs Q E (hr.deeper _) hsp
  have I:Inv (zbq CX P w K mg base N qual scope f cdv A outer s H E) [] (start N vs) H s1:=zgr S hr.hd e0 hl r x
  refine wpAny_mono (ht [] s1 (start N vs) H _ I hq) (fun fl s' hs=>?_) fun e s' hs=>hs
  have fin:∀ {σ':St} {H':Hp} {v:V} {u:Value},Inv (zbq CX P w K mg base N qual scope f cdv A outer s H E) [] σ' H' s'→RelV v u→Q v H'→CE outer P w H s Q u s' :=
    fun {σ' H' v u} J rv q=>⟨v,H',J.os,J.bare,J.base,J.hok,rv,q⟩
  cases fl with
  | ret u =>
    obtain ⟨v,σ',H',J,rv,q⟩:=hs
    exact fin J rv q
  | next =>
    obtain ⟨σ',H',J,q⟩:=hs
    exact fin (v:=V.non) (u:=Value.none) J rfl q
  | brk =>
    obtain ⟨_,_,_,q⟩:=hs
    exact False.elim q
  | cont =>
    obtain ⟨_,_,_,q⟩:=hs
    exact False.elim q
section
variable {X:Cx} {x:Str} {p pos:Pos} {e:Expr} {es:List Expr} {t:TA} {id T:String} {r:List V→Hp→VK→Prop}
noncomputable def tCB (r:List V→Hp→VK→Prop) (t:TA):TE:=fun σ H Q=>t σ H fun vs H1=>r vs H1 Q
theorem zxk (hc:zNi X (.builtin id) r) (hg:Gl X x) (hm:X.mg x=none) (hv:bootBuiltins x=some (.builtin id)) (ha:PA X (e :: es) t) (hn:x≠"__name__":=by decide) (hdb:(x == ("__debug__":Str))=false:=by decide)
    (he:starEach (e :: es) X.env=(false,eval e X.env) :: starEach es X.env:=by rfl) (hpl:(backTo pos (starEach es X.env)).any (·.1)=false:=by rfl):PE X (.Call (.Name x p) (e :: es) [] pos) (tCB r t):=by
  intro pins s σ H Q I h
  refine wpAny_Call_Name_kw (zJi I hg hm hv ?_ hn hdb)
  exact PyProof.Rows.callWith_builtin1 (thn (ha pos pins s σ H _ I h) fun us s1 ⟨vs,H1,I1,r1,q1⟩=>hc pins s1 σ H1 vs us Q I1 r1 q1) he hpl
theorem zqd (hc:zNi X (.type T) r) (hg:Gl X x) (hm:X.mg x=none) (hv:bootBuiltins x=some (.type T)) (ha:PA X (e :: es) t) (hn:x≠"__name__":=by decide) (hdb:(x == ("__debug__":Str))=false:=by decide)
    (he:starEach (e :: es) X.env=(false,eval e X.env) :: starEach es X.env:=by rfl) (hpl:(backTo pos (starEach es X.env)).any (·.1)=false:=by rfl):PE X (.Call (.Name x p) (e :: es) [] pos) (tCB r t):=by
  intro pins s σ H Q I h
  refine wpAny_Call_Name_kw (zJi I hg hm hv ?_ hn hdb)
  exact PyProof.Rows.callWith_type1 (thn (ha pos pins s σ H _ I h) fun us s1 ⟨vs,H1,I1,r1,q1⟩=>hc pins s1 σ H1 vs us Q I1 r1 q1) he hpl
end
end L2
namespace HT
open PySem PyProof.Rows
section
open PySem.SeqAt
open PySem.AutoSeq1 (wpAny_loadPart')
open PySem.MeetsSeq PySem.MeetsSeq2 PySem.MeetsSeq3
end
section
variable {prog:Program} {w:World} {A:Around} {E:Value→Shared→Prop} {s:Shared}
theorem cat_tup {t b:Addr} {vs ws:List Value} {Q:Value→Shared→Prop} (ht:IsTup s.heap t vs.toArray) (hb:IsTup s.heap b ws.toArray) (hv:vs≠[])
    (h1:ws = []→Q (.ref t) s) (h2:ws≠[]→Q (.ref s.heap.objs.size) { s with heap:=s.heap.push { cls := .type "tuple",data := .seq (vs++ws).toArray } })
    (hsz:vs.length+ws.length≤sizeLine):wpAny (model prog w) A (binaryOp .Add (.ref t) (.ref b)) Q E s:=by
  obtain ⟨⟨cls,dd,data,sl⟩,ho,hc,n,hd⟩:=id ht
  obtain ⟨⟨cls2,dd2,data2,sl2⟩,ho2,hc2,n2,hd2⟩:=id hb
  simp only at hc hd hc2 hd2
  subst hc hd hc2 hd2
  have e:vs.toArray++ws.toArray=(vs++ws).toArray:=by simp
  by_cases hw:ws = []
  · exact concat_meets ⟨_,ho,rfl⟩ ⟨_,ho2,rfl⟩ noFill_tuple_add seq_tuple_add PySem.F.slot_tuple_add PySem.F.entry_tuple_add (PySem.F.args_tuple_add_2 _ _)
      (tuple_addW1 t b vs.toArray ws.toArray n n2 dd dd2 sl sl2 (by simpa using hv) (by simp [hw])) ⟨ho,ho2,h1 hw⟩
  · refine concat_meets ⟨_,ho,rfl⟩ ⟨_,ho2,rfl⟩ noFill_tuple_add seq_tuple_add PySem.F.slot_tuple_add PySem.F.entry_tuple_add (PySem.F.args_tuple_add_2 _ _)
      (tuple_addW2 t b vs.toArray ws.toArray n n2 dd dd2 sl sl2 (by simpa using hv) (by simpa using hw) (by rw [size_toArray,size_toArray];exact hsz)) ⟨ho,ho2,?_⟩
    rw [e]
    exact h2 hw
noncomputable def sIx (n d:Nat):Option Int→Nat
  | none=>d
  | some v=>if v<0 then (v+(n:Int)).toNat else min v.toNat n
theorem sIx_none (n d:Nat):sIx n d none=d:=rfl
theorem sIx_nat (n d k:Nat):sIx n d (some (k:Int))=min k n:=by
  show (if (k:Int)<0 then ((k:Int)+(n:Int)).toNat else min (k:Int).toNat n)=min k n
  rw [if_neg (by first|decide|omega),Int.toNat_natCast]
theorem zDv (n d:Nat) (hd:d≤n) (o:Option Int):sIx n d o≤n:=by
  cases o with
  | none=>exact hd
  | some v =>
    show (if v<0 then (v+(n:Int)).toNat else min v.toNat n)≤n
    by_cases hv:v<0
    · rw [if_pos hv];omega
    · rw [if_neg hv];exact Nat.min_le_right _ _
theorem zir (v:Int) (n d:Nat):(if v<0 then max (v+(n:Int)) 0 else min v (n:Int))=((sIx n d (some v):Nat):Int):=by
  show (if v<0 then max (v+(n:Int)) 0 else min v (n:Int))=(((if v<0 then (v+(n:Int)).toNat else min v.toNat n):Nat):Int)
  by_cases hv:v<0
  · simp only [if_pos hv];omega
  · simp only [if_neg hv];omega
theorem zGo (lo hi:Option Int) (n:Nat):Builtin.Slice.sliceAdjust lo hi 1 (n:Int)=(((sIx n 0 lo:Nat):Int),((sIx n n hi:Nat):Int)):=by
  have h1:¬ ((1:Int)<0):=by omega
  unfold Builtin.Slice.sliceAdjust
  simp only [h1,if_false]
  refine Prod.ext ?_ ?_
  · cases lo with
    | none=>rfl
    | some v=>exact zir v n 0
  · cases hi with
    | none=>rfl
    | some v=>exact zir v n n
theorem zdp (i j:Nat):Builtin.Slice.slicePlaces (i:Int) (j:Int) 1=j - i:=by
  unfold Builtin.Slice.slicePlaces
  have h1:(1:Int) > 0:=by omega
  simp only [h1,if_true,Int.ediv_one]
  split <;> omega
theorem zoj {v:Value} {o:Option Int} {Q:Option Int→Shared→Prop} (p:IsPart v o) (h:Q o s):wpAny (model prog w) A (Builtin.Slice.slicePartIndex v) Q E s:=by
  cases p with
  | none=>exact slicePart_none h
  | int i t=>exact slicePart_int h
theorem sliceApplied_gen {sl:Addr} {vl vu:Value} {lo hi:Option Int} {n:Nat} {Q:Int×Int×Nat→Shared→Prop} (hs:s.heap.IsSliceOf sl vl vu .none) (pl:IsPart vl lo) (pu:IsPart vu hi)
    (h:Q (((sIx n 0 lo:Nat):Int),1,sIx n n hi - sIx n 0 lo) s):wpAny (model prog w) A (Builtin.Slice.sliceApplied (.ref sl) (pure (n:Int))) Q E s:=by
  obtain ⟨os,hos,hcs,hds⟩:=id hs
  unfold Builtin.Slice.sliceApplied Builtin.Slice.sliceFields
  refine wpAny_bind (wpAny_bind (wpAny_field hos hds (x:=vl) rfl (wpAny_bind (wpAny_field hos hds (x:=vu) rfl (wpAny_bind (wpAny_field hos hds (x := .none) rfl (wpAny_pure ?_)))))))
  refine wpAny_bind (slicePart_none ?_)
  show wpAny _ _ (if ((1:Int) == 0)=true then _ else _) _ _ s
  rw [if_neg (by decide)]
  refine wpAny_bind (zoj pl (wpAny_bind (zoj pu (wpAny_bind (wpAny_pure ?_)))))
  show wpAny _ _ (match Builtin.Slice.sliceAdjust lo hi 1 (n:Int) with | (lo,hi)=>pure (lo,(1:Int),Builtin.Slice.slicePlaces lo hi 1)) _ _ s
  rw [zGo lo hi n]
  show wpAny _ _ (pure (((sIx n 0 lo:Nat):Int),(1:Int),Builtin.Slice.slicePlaces ((sIx n 0 lo:Nat):Int) ((sIx n n hi:Nat):Int) 1)) _ _ s
  rw [zdp]
  exact wpAny_pure h
theorem zMr (xs:Array Value) (i k:Nat):((List.range k).filterMap fun (m:Nat)=>xs[((i:Int)+(m:Int) * 1).toNat]?).toArray=((xs.toList.drop i).take k).toArray:=by
  have e:(fun (m:Nat)=>xs[((i:Int)+(m:Int) * 1).toNat]?)=fun m=>xs[i+m]?:=by
    funext m
    have:((i:Int)+(m:Int) * 1).toNat=i+m:=by omega
    rw [this]
  rw [e]
  have:=pick_run xs i k
  rw [List.filterMap_map] at this
  have e2:((fun x=>xs[x]?) ∘ fun x=>i+x)=fun m=>xs[i+m]?:=rfl
  rw [e2] at this
  rw [this]
theorem getItem_tuple_cut {t sl:Addr} {items:Array Value} {vl vu:Value} {lo hi:Option Int} {Q:Value→Shared→Prop} (ht:IsTup s.heap t items) (hs:s.heap.IsSliceOf sl vl vu .none) (pl:IsPart vl lo) (pu:IsPart vu hi)
    (hw:¬ (sIx items.size 0 lo=0∧sIx items.size items.size hi=items.size))
    (h:Q (.ref s.heap.objs.size) { s with heap:=s.heap.push { cls := .type "tuple",data := .seq ((items.toList.drop (sIx items.size 0 lo)).take (sIx items.size items.size hi - sIx items.size 0 lo)).toArray } })
    (hsz:items.size≤sizeLine):wpAny (model prog w) A (getItem (.ref t) (.ref sl)) Q E s:=by
  have htake:sizeOk (.seq ((items.toList.drop (sIx items.size 0 lo)).take (sIx items.size items.size hi - sIx items.size 0 lo)).toArray):=by
    show ((items.toList.drop (sIx items.size 0 lo)).take (sIx items.size items.size hi - sIx items.size 0 lo)).toArray.size≤sizeLine
    rw [size_toArray,length_take,length_drop,Array.length_toList]
    omega
  have hj:sIx items.size items.size hi≤items.size:=zDv _ _ (Nat.le_refl _) hi
  obtain ⟨os,hos,hcs,hds⟩:=id hs
  have hTs:s.TypeIs (.ref sl) "slice":=⟨os,hos,hcs⟩
  unfold getItem
  try with_reducible refine wpAny_holding ?_
  first | refine wpAny_bind (wpAny_pure ?_) | skip
  refine wpAny_bind (wpAny_sequenceKey ht.typeIs (by decide) ?_)
  refine wpAny_bind (wpAny_callSpecial?_slot (name:=Str.ofString "__getitem__") ht.typeIs PyProof.Rows.slot_tuple_getitem
    (wpAny_call_entry PyProof.Rows.slot_tuple_getitem ht.typeIs entry_tuple_getitem ?_ (args_tuple_getitem _ _)))
  show wpAny _ _ (Builtin.Tuple.tupleItemsOf (.ref t) >>= _) _ _ s
  refine wpAny_bind (tupleItemsOf_ ht ?_)
  refine wpAny_bind (wpAny_typeOf hTs ?_)
  rw [if_pos (by decide)]
  refine wpAny_bind (sliceApplied_gen hs pl pu ?_)
  have hno:¬ ((((sIx items.size 0 lo:Nat):Int) == 0 && (1:Int) == 1 && (sIx items.size items.size hi - sIx items.size 0 lo) == items.size)=true):=by
    intro q
    rw [Bool.and_eq_true,Bool.and_eq_true] at q
    have q1:((sIx items.size 0 lo:Nat):Int)=0:=eq_of_beq q.1.1
    have q2:sIx items.size items.size hi - sIx items.size 0 lo=items.size:=eq_of_beq q.2
    exact hw ⟨by first|decide|omega,by first|decide|omega⟩
  show wpAny _ _ (if (((sIx items.size 0 lo:Nat):Int) == 0 && (1:Int) == 1 && (sIx items.size items.size hi - sIx items.size 0 lo) == items.size)=true then _ else _) _ _ s
  rw [if_neg hno,zMr]
  first
    | exact wpAny_bind (m:=Builtin.Tuple.tupleExact _) (wpAny_newObj_type (wpAny_pure ⟨_,rfl,wpAny_pure h⟩) htake)
    | exact wpAny_bind (m:=Builtin.Tuple.tupleExact _) (wpAny_newObj_type (wpAny_bind (wpAny_pure (wpAny_pure ⟨_,rfl,wpAny_pure h⟩))) htake)
    | exact wpAny_bind (wpAny_bind (m:=Builtin.Tuple.tupleExact _) (wpAny_newObj_type (wpAny_pure (wpAny_pure ⟨_,rfl,wpAny_pure h⟩)) htake))
    | exact wpAny_bind (wpAny_bind (m:=Builtin.Tuple.tupleExact _) (wpAny_newObj_type (wpAny_pure ⟨_,rfl,wpAny_pure h⟩) htake))
end
end HT
namespace L2
open PySem PySem.Spec PyProof.Rows
abbrev TO:=St→Hp→(Option Int→Hp→Prop)→Prop
noncomputable def PO (X:Cx) (e:Option Expr) (t:TO):Prop :=
  ∀ (pins:List (Addr×Obj)) (s:Shared) (σ:St) (H:Hp) (Q:Option Int→Hp→Prop),Inv X pins σ H s→t σ H Q →
    wpAny (model X.prog X.w) X.A (evalPart e X.env) (fun u s'=>∃ o H',Inv X pins σ H' s'∧IsPart u o∧Q o H') X.xe s
noncomputable def zcu:TO:=fun _ H Q=>Q none H
noncomputable def zWw (t:TE):TO:=fun σ H Q=>t σ H fun x H1=>∃ i,x = .int i∧Q (some i) H1
theorem zFg {ns:List Int}:∀ {us:List Value},Vals (ns.map V.int) us→IntsAre us ns:=by
  induction ns with
  | nil=>intro us r;rw [List.map_nil] at r;cases r;exact .nil
  | cons n ns ih =>
    intro us r
    rw [map_cons] at r
    cases r with
    | cons r1 r2 =>
      obtain ⟨t,e⟩:=r1
      subst e
      exact .cons n t (ih r2)
section
variable {X:Cx} {e:Expr} {te:TE} {lo hi:Option Expr} {tl th:TO} {pos p2:Pos}
theorem zmt:PO X none zcu:=by
  intro pins s σ H Q I h
  rw [evalPart_none]
  exact wpAny_pure ⟨none,H,I, .none,h⟩
theorem ztt (h:PE X e te):PO X (some e) (zWw te):=by
  intro pins s σ H Q I hw
  rw [evalPart_some]
  refine thn (h pins s σ H _ I hw) fun u s1 ⟨x,H1,I1,r1,q1⟩=>?_
  obtain ⟨i,rfl,q⟩:=q1
  obtain ⟨t,rfl⟩:=r1
  exact ⟨some i,H1,I1, .int i t,q⟩
noncomputable def SlR (X:Cx) (r:V→Option Int→Option Int→Hp→VK→Prop):Prop :=
  ∀ (pins:List (Addr×Obj)) (s:Shared) (σ:St) (H:Hp) (x:V) (v vl vu:Value) (lo hi:Option Int) (sl:Addr) (Q:VK),Inv X pins σ H s→RelV x v→s.heap.IsSliceOf sl vl vu .none→IsPart vl lo→IsPart vu hi→r x lo hi H Q →
    ∃ T id,typeLookup (.type T) "__getitem__" = pure (some (.builtin id))∧s.TypeIs v T∧wpAny (model X.prog X.w) X.A (getItem v (.ref sl)) (EP X pins σ Q) X.xe s
theorem SlR.or {r r':V→Option Int→Option Int→Hp→VK→Prop} (h:SlR X r) (h':SlR X r'):SlR X (fun x lo hi H Q=>r x lo hi H Q∨r' x lo hi H Q):=by
  intro pins s σ H x v vl vu lo hi sl Q I rx hs pl pu q
  rcases q with q | q
  · exact h pins s σ H x v vl vu lo hi sl Q I rx hs pl pu q
  · exact h' pins s σ H x v vl vu lo hi sl Q I rx hs pl pu q
noncomputable def tSl (r:V→Option Int→Option Int→Hp→VK→Prop) (te:TE) (tl th:TO):TE:=fun σ H Q=>te σ H fun x H1=>tl σ H1 fun l H2=>th σ H2 fun u H3=>r x l u H3 Q
theorem zss {r:V→Option Int→Option Int→Hp→VK→Prop} (hr:SlR X r) (he:PE X e te) (hl:PO X lo tl) (hu:PO X hi th):PE X (.Subscript e (.Slice lo hi none p2) pos) (tSl r te tl th):=by
  intro pins s σ H Q I h
  refine Subscript_ (thn (he pins s σ H _ I h) fun v s1 ⟨x,H1,I1,r1,q1⟩=>?_)
  refine wpAny_Slice (thn (hl pins s1 σ H1 _ I1 q1) fun vl s2 ⟨l,H2,I2,pl,q2⟩=>thn (hu pins s2 σ H2 _ I2 q2) fun vu s3 ⟨u,H3,I3,pu,q3⟩=>?_)
  rw [evalPart_none]
  refine wpAny_pure ?_
  have I4:Inv X pins σ H3 { s3 with heap:=s3.heap.push { cls := .type "slice",data := .fields #[vl,vu, .none] } }:=I3.kept (t':=s3.toks) fun b ob q=>Heap.get?_push_of_some _ q
  obtain ⟨T,id,hT,ht,hg⟩:=hr pins { s3 with heap:=s3.heap.push { cls := .type "slice",data := .fields #[vl,vu, .none] } } σ H3 x v vl vu l u s3.heap.objs.size Q I4 r1 (Heap.IsSliceOf.new ..) pl pu q3
  show wpAny (model X.prog X.w) X.A (subscriptTail e (.Slice lo hi none p2) v (.ref s3.heap.objs.size)) (EP X pins σ Q) X.xe { s3 with heap:=s3.heap.push { cls := .type "slice",data := .fields #[vl,vu, .none] } }
  exact tail_any (ops:=[.ref s3.heap.objs.size,v]) ht hT hg (by with_unfolding_all rfl)
noncomputable def zyr (xs:List V) (lo hi:Option Int):List V:=(xs.drop (HT.sIx xs.length 0 lo)).take (HT.sIx xs.length xs.length hi - HT.sIx xs.length 0 lo)
theorem zmi (xs:List V) (lo hi:Option Int):(zyr xs lo hi).length≤xs.length:=by
  unfold zyr
  rw [length_take,length_drop]
  omega
def z0x (K:W.Frag):V→Option Int→Option Int→Hp→VK→Prop:=fun x lo hi H Q=>∃ a xs,x = .ref a∧SqT K H a xs ∧
  ¬ (HT.sIx xs.length 0 lo=0∧HT.sIx xs.length xs.length hi=xs.length)∧∀ p,H p=none→Q (.ref p) (upd H p (.tup (zyr xs lo hi)))
theorem zhv:SlR X (z0x X.K):=by
  intro pins s σ H x v vl vu lo hi sl Q I rx hs pl pu h
  obtain ⟨a,xs,rfl,hx,hw,q⟩:=h
  cases rx
  obtain ⟨its,r,ht,hz⟩:=I.tuple hx
  have hlen:its.toArray.size=xs.length:=by rw [size_toArray];exact r.length.symm
  refine ⟨"tuple",_,PyProof.Rows.slot_tuple_getitem.lookup,ht.typeIs,?_⟩
  refine HT.getItem_tuple_cut ht hs pl pu (by rw [hlen];exact hw) ?_ (by rw [hlen];exact hz)
  rw [hlen]
  refine ⟨.ref s.heap.objs.size,_,I.laid (t':=s.toks) (o := .tup (zyr xs lo hi)) (fun b ob q=>Heap.get?_push_of_some _ q) (Nat.le_refl _) ?_,rfl,q _ (I.hok.fresh (Nat.le_refl _))⟩
  exact ⟨Nat.le_trans (zmi xs lo hi) hz,_,(r.drop (HT.sIx xs.length 0 lo)).take (HT.sIx xs.length xs.length hi - HT.sIx xs.length 0 lo),IsTup.new _ _⟩
noncomputable def z8w (K:W.Frag):R2:=fun x y H Q=>∃ a b xs ys,x = .ref a∧y = .ref b∧SqT K H a xs∧SqT K H b ys∧xs≠[]∧xs.length+ys.length≤sizeLine ∧
  (ys = []→Q (.ref a) H)∧(ys≠[]→∀ p,H p=none→Q (.ref p) (upd H p (.tup (xs++ys))))
theorem Vals.nil_iff {xs:List V} {us:List Value} (r:Vals xs us):us = []↔xs = []:=by
  cases r with
  | nil=>simp
  | cons _ _=>simp
theorem z3t:OpR X (binaryOp .Add) (z8w X.K):=by
  intro pins s σ H x y v u Q I rx ry h
  obtain ⟨a,b,xs,ys,rfl,rfl,ha,hb,hx,hz,q1,q2⟩:=h
  cases rx
  cases ry
  obtain ⟨its,r1,p1,_⟩:=I.tuple ha
  obtain ⟨its2,r2,p2,_⟩:=I.tuple hb
  refine HT.cat_tup p1 p2 (fun z=>hx (r1.nil_iff.mp z)) (fun z=>⟨.ref a,H,I,rfl,q1 (r2.nil_iff.mp z)⟩) (fun z=>?_) (by rw [← r1.length,← r2.length];exact hz)
  refine ⟨.ref s.heap.objs.size,_,I.laid (t':=s.toks) (o := .tup (xs++ys)) (fun b ob q=>Heap.get?_push_of_some _ q) (Nat.le_refl _) ?_,rfl,q2 (fun w=>z (r2.nil_iff.mpr w)) _ (I.hok.fresh (Nat.le_refl _))⟩
  exact ⟨by rw [length_append];exact hz,_,r1.append r2,IsTup.new _ _⟩
end
noncomputable def ixN (n:Nat) (i:Int):Option Nat:=if 0≤i then (if i<n then some i.toNat else none) else if -(n:Int)≤i then some (i+n).toNat else none
noncomputable def atI {α:Type} (xs:List α) (i:Int):Option α:=(ixN xs.length i).bind fun j=>xs[j]?
theorem z5q {n:Nat} {i:Int} {j:Nat} (h:ixN n i=some j):seqIndex? i n=some j∧j<n∧-(n:Int)≤i∧i<n:=by
  unfold ixN at h
  by_cases h0:0≤i
  · rw [if_pos h0] at h
    by_cases h1:i<n
    · rw [if_pos h1] at h
      have e:i.toNat=j:=Option.some.inj h
      exact ⟨by rw [seqIndex_of h0 h1,e],by first|decide|omega,by first|decide|omega,h1⟩
    · rw [if_neg h1] at h;cases h
  · rw [if_neg h0] at h
    by_cases h1:-(n:Int)≤i
    · rw [if_pos h1] at h
      have e:(i+n).toNat=j:=Option.some.inj h
      exact ⟨by rw [seqIndex_neg (by first|decide|omega) h1,e],by first|decide|omega,h1,by first|decide|omega⟩
    · rw [if_neg h1] at h;cases h
theorem zWm {α:Type} {xs:List α} {i:Int} {v:α} (h:atI xs i=some v):∃ j,seqIndex? i xs.length=some j∧xs[j]?=some v∧j<xs.length∧-(xs.length:Int)≤i∧i<xs.length:=by
  unfold atI at h
  cases e:ixN xs.length i with
  | none=>rw [e] at h;cases h
  | some j =>
    rw [e] at h
    obtain ⟨h1,h2,h3,h4⟩:=z5q e
    exact ⟨j,h1,h,h2,h3,h4⟩
theorem zYd {α:Type} {xs:List α} {j:Nat} {v:α} (h:xs[j]?=some v):atI xs (j:Int)=some v:=by
  have hj:j<xs.length:=(List.getElem?_eq_some_iff.mp h).1
  have e:ixN xs.length (j:Int)=some j:=by
    unfold ixN
    rw [if_pos (by first|decide|omega),if_pos (by first|decide|omega)];simp
  unfold atI;rw [e];exact h
def zkn (b:Expr):Prop:=∀ o i,subscripted b false o i=operate [o,i] (getItem o i)
noncomputable def IxR (X:Cx) (r:R2):Prop :=
  ∀ (value slice:Expr) (pins:List (Addr×Obj)) (s:Shared) (σ:St) (H:Hp) (x y:V) (v u:Value) (Q:VK),Inv X pins σ H s→RelV x v→RelV y u→r x y H Q →
    subscripted slice false v u=operate [v,u] (getItem v u)→wpAny (model X.prog X.w) X.A (subscriptTail value slice v u) (EP X pins σ Q) X.xe s
noncomputable def MtR (X:Cx) (id:String) (r:V→List V→Hp→VK→Prop):Prop :=
  ∀ (pins:List (Addr×Obj)) (s:Shared) (σ:St) (H:Hp) (x:V) (xs:List V) (v:Value) (us:List Value) (Q:VK),Inv X pins σ H s→RelV x v→Vals xs us→r x xs H Q →
    wpAny (model X.prog X.w) X.A (call (.builtin id) (v :: us)) (EP X pins σ Q) X.xe s
section
variable {X:Cx} {a b:Expr} {ta tb:TE} {pos:Pos}
theorem IxR.or {r r':R2} (h:IxR X r) (h':IxR X r'):IxR X (fun x y H Q=>r x y H Q∨r' x y H Q):=by
  intro value slice pins s σ H x y v u Q I rx ry q hs
  rcases q with q | q
  · exact h value slice pins s σ H x y v u Q I rx ry q hs
  · exact h' value slice pins s σ H x y v u Q I rx ry q hs
theorem zxv {r:R2} (hr:IxR X r) (ha:PE X a ta) (hb:PE X b tb) (hs:zkn b):PE X (.Subscript a b pos) (tOp r ta tb):=by
  intro pins s σ H Q I h
  exact Subscript_ (binT ha hb I h fun v u s2 x y H2 I2 rx ry q=>hr a b pins s2 σ H2 x y v u Q I2 rx ry q (hs _ _))
noncomputable def zGx (K:W.Frag):R2:=fun x y H Q=>∃ p xs i v,x = .ref p∧y = .int i∧SqL K H p xs∧atI xs i=some v∧Q v H
noncomputable def zEx (K:W.Frag):R2:=fun x y H Q=>∃ p xs i v,x = .ref p∧y = .int i∧SqT K H p xs∧atI xs i=some v∧Q v H
noncomputable def zMx:R2:=fun x y H Q=>∃ z i c,x = .str z∧y = .int i∧z.length≤sizeLine∧atI z.cps.toList i=some c∧Q (.str ⟨#[c]⟩) H
theorem ix_list:IxR X (zGx X.K):=by
  intro value slice pins s σ H x y v u Q I rx ry h hs
  obtain ⟨p,xs,i,z,rfl,rfl,hq,he,q⟩:=h
  cases rx
  obtain ⟨t,rfl⟩:=ry
  obtain ⟨its,r,pl,hz⟩:=I.list hq
  obtain ⟨j,h1,h2,h3,h4,h5⟩:=zWm he
  obtain ⟨w,ew,rw'⟩:=r.get h2
  have hl:=r.length
  have hn:=line63
  have fin:EP X pins σ Q w s:=⟨z,H,I,rw',q⟩
  by_cases h0:0≤i
  · have hj:i.toNat=j:=by
      rw [seqIndex_of h0 h5] at h1
      exact Option.some.inj h1
    exact item_listR pl.isList h0 (by first|decide|omega) (by rw [hj];simpa using ew) fin hs
  · have hj:(i+(its.toArray.size:Int)).toNat=j:=by
      rw [seqIndex_neg (by first|decide|omega) h4] at h1
      rw [size_toArray,← hl]
      exact Option.some.inj h1
    exact subscriptTail_builtinR (x:=w) pl.isList.typeIs slot_list_getitem.lookup
      (wpAny_getItem_list_neg (Q:=fun r s'=>r=w∧EP X pins σ Q r s') pl.isList (by first|decide|omega) (by rw [size_toArray] <;> omega) (by first|decide|omega) (by rw [hj];simpa using ew) ⟨rfl,fin⟩) hs
theorem ix_tup:IxR X (zEx X.K):=by
  intro value slice pins s σ H x y v u Q I rx ry h hs
  obtain ⟨p,xs,i,z,rfl,rfl,hq,he,q⟩:=h
  cases rx
  obtain ⟨t,rfl⟩:=ry
  obtain ⟨its,r,pl,hz⟩:=I.tuple hq
  obtain ⟨j,h1,h2,h3,h4,h5⟩:=zWm he
  obtain ⟨w,ew,rw'⟩:=r.get h2
  have hl:=r.length
  have hn:=line63
  have fin:EP X pins σ Q w s:=⟨z,H,I,rw',q⟩
  exact subscriptTail_builtinR (x:=w) pl.typeIs slot_tuple_getitem.lookup
    (getItem_tuple (j:=j) (Q:=fun r s'=>r=w∧EP X pins σ Q r s') pl (by first|decide|omega) (by first|decide|omega) (by rw [size_toArray,← hl];exact h1) (by simpa using ew) ⟨rfl,fin⟩) hs
theorem znw:IxR X zMx:=by
  intro value slice pins s σ H x y v u Q I rx ry h hs
  obtain ⟨z,i,c,rfl,rfl,hz,he,q⟩:=h
  obtain ⟨t,rfl⟩:=rx
  obtain ⟨t',rfl⟩:=ry
  obtain ⟨j,h1,h2,h3,h4,h5⟩:=zWm he
  have hl:z.cps.toList.length=z.length:=by simp [Str.length]
  rw [hl] at h1 h4 h5
  have hn:=line63
  exact tail_any (typeIs_str s z t) slot_str_getitem.lookup (getItem_str (c:=c) (by
    have e1:decide (i < -(2 ^ 63:Int))=false:=decide_eq_false (by first|decide|omega)
    have e2:decide (i ≥ 2 ^ 63)=false:=decide_eq_false (by first|decide|omega)
    rw [e1,e2,Bool.or_false]) (by rw [h1];simpa using h2) ⟨.str ⟨#[c]⟩,H,I.tok _,⟨_,rfl⟩,q⟩) hs
noncomputable def rIx (K:W.Frag):R2:=fun x y H Q=>zGx K x y H Q∨zEx K x y H Q∨zMx x y H Q
theorem zdt:IxR X (rIx X.K):=ix_list.or (ix_tup.or znw)
theorem zRo (its:List Value) (n j:Nat) (u:Value):Obj.mapSeq (·.setIfInBounds j u) { cls := .type "list",data := .seq its.toArray n } = { cls := .type "list",data := .seq (its.set j u).toArray n }:=by
  simp [Obj.mapSeq]
theorem Inv.lst {pins:List (Addr×Obj)} {σ:St} {H:Hp} {s:Shared} {p:Addr} {xs:List V} (I:Inv X pins σ H s) (h:H p=some (.lst xs)) :
    ∃ (its:List Value) (n:Nat),Vals xs its∧s.heap.get? p=some { cls := .type "list",data := .seq its.toArray n }∧xs.length≤sizeLine:=by
  obtain ⟨z,its,n,r,e⟩:=I.hok p _ h
  exact ⟨its,n,r,e,z⟩
theorem Inv.lstUpd {pins:List (Addr×Obj)} {σ:St} {H:Hp} {s:Shared} {p:Addr} {xs ys:List V} {its its':List Value} {n n':Nat} {f:Obj→Obj} (I:Inv X pins σ H s) (h:H p=some (.lst xs))
    (ho:s.heap.get? p=some { cls := .type "list",data := .seq its.toArray n }) (hf:f { cls := .type "list",data := .seq its.toArray n } = { cls := .type "list",data := .seq its'.toArray n' }) (r:Vals ys its') (hz:ys.length≤sizeLine) (t:Nat) :
    Inv X pins σ (upd H p (.lst ys)) { s with heap:=s.heap.update p f,toks:=t }:=by
  have e:(s.heap.update p f).get? p=some { cls := .type "list",data := .seq its'.toArray n' }:=by
    rw [Heap.get?_update_self f ho (by rw [hf] <;> rfl),hf]
  refine I.write (x:=p) (e:=p) (by rw [h];trivial) (.inl rfl) (fun b u hb q=>(Heap.get?_update_other _ _ (Ne.symm hb)).trans q) ⟨_,e⟩ ?_
  exact ⟨hz,its',n',r,e⟩
def zyx:V→V→V→Hp→(Hp→Prop)→Prop:=fun o i v H Q=>∃ p xs k j,o = .ref p∧i = .int k∧H p=some (.lst xs)∧ixN xs.length k=some j∧Q (upd H p (.lst (xs.set j v)))
theorem zds:z9w X zyx:=by
  intro pins s σ H o i v ov iv u Q I ro ri rv h
  obtain ⟨p,xs,k,j,rfl,rfl,hp,hj,q⟩:=h
  cases ro
  obtain ⟨t,rfl⟩:=ri
  obtain ⟨its,n,r,ho,hz⟩:=I.lst hp
  obtain ⟨h1,h2,h3,h4⟩:=z5q hj
  have hl:=r.length
  have hn:=line63
  have I':Inv X pins σ (upd H p (.lst (xs.set j v))) { s with heap:=s.heap.update p (Obj.mapSeq (·.setIfInBounds j u)) } :=
    I.lstUpd hp ho (zRo its n j u) (r.set rv j) (by rw [length_set];exact hz) s.toks
  by_cases h0:0≤k
  · have hk:k.toNat=j:=by
      rw [seqIndex_of h0 h4] at h1
      exact Option.some.inj h1
    exact W.ki_setAt ho h0 (by first|decide|omega) (by rw [size_toArray,← hl];exact h4) (by rw [hk];exact ⟨_,I',q⟩)
  · have hk:(k+(its.toArray.size:Int)).toNat=j:=by
      rw [seqIndex_neg (by first|decide|omega) h3] at h1
      rw [size_toArray,← hl]
      exact Option.some.inj h1
    exact W.ki_setBack ho (by first|decide|omega) (by rw [size_toArray,← hl];exact h3) (by first|decide|omega) (by rw [hk];exact ⟨_,I',q⟩)
theorem zcm (lo hi:Option Int) (n:Nat):(sliceBounds lo hi none n).1=((HT.sIx n 0 lo:Nat):Int)∧(sliceBounds lo hi none n).2.1=((HT.sIx n n hi:Nat):Int)∧(sliceBounds lo hi none n).2.2=1:=by
  refine ⟨?_,?_,rfl⟩
  · cases lo with
    | none=>simp [sliceBounds,HT.sIx]
    | some i =>
      simp only [sliceBounds,HT.sIx,Option.getD_none,show (1:Int) > 0 by decide,if_true]
      by_cases h:i<0
      · simp only [h,if_true] <;> omega
      · simp only [h,if_false] <;> omega
  · cases hi with
    | none=>simp [sliceBounds,HT.sIx]
    | some i =>
      simp only [sliceBounds,HT.sIx,Option.getD_none,show (1:Int) > 0 by decide,if_true]
      by_cases h:i<0
      · simp only [h,if_true] <;> omega
      · simp only [h,if_false] <;> omega
theorem zTk (its:List Value) (lo hi:Option Int):slicePick its.toArray lo hi none=((its.drop (HT.sIx its.length 0 lo)).take (HT.sIx its.length its.length hi - HT.sIx its.length 0 lo)).toArray:=by
  obtain ⟨h1,h2,h3⟩:=zcm lo hi its.toArray.size
  unfold slicePick
  rw [h1,h2,h3]
  simp only [sliceRange_one,pick_run,size_toArray] <;> rfl
def z2x (K:W.Frag):V→Option Int→Option Int→Hp→VK→Prop:=fun x lo hi H Q=>∃ a xs,x = .ref a∧SqL K H a xs∧∀ p,H p=none→Q (.ref p) (upd H p (.lst (zyr xs lo hi)))
theorem zCt:SlR X (z2x X.K):=by
  intro pins s σ H x v vl vu lo hi sl Q I rx hs pl pu h
  obtain ⟨a,xs,rfl,hx,q⟩:=h
  cases rx
  obtain ⟨its,r,ht,hz⟩:=I.list hx
  have hlen:=r.length
  refine ⟨"list",_,slot_list_getitem.lookup,ht.isList.typeIs,?_⟩
  refine wpAny_getItem_list_slice ht.isList hs pl pu .none (by simp) ?_ (by rw [size_toArray] <;> omega)
  rw [zTk,← hlen]
  refine ⟨.ref s.heap.objs.size,_,I.laid (t':=s.toks) (o := .lst (zyr xs lo hi)) (fun b ob q=>Heap.get?_push_of_some _ q) (Nat.le_refl _) ?_,rfl,q _ (I.hok.fresh (Nat.le_refl _))⟩
  exact ⟨Nat.le_trans (zmi xs lo hi) hz,_,0,(r.drop (HT.sIx xs.length 0 lo)).take (HT.sIx xs.length xs.length hi - HT.sIx xs.length 0 lo),Heap.get?_push_size _ rfl⟩
noncomputable def zgi:V→Bool
  | .non=>true
  | .bl _=>true
  | .int _=>true
  | .str _=>true
  | _=>false
noncomputable def eqV:V→V→Bool
  | .non, .non=>true
  | .bl a, .bl b=>a == b
  | .bl a, .int b=>(if a then 1 else 0) == b
  | .int a, .bl b=>a == (if b then 1 else 0)
  | .int a, .int b=>a == b
  | .str a, .str b=>a == b
  | _,_=>false
theorem zGv {A:Around} {s:Shared} {y x:V} {u v:Value} (ry:RelV y u) (rx:RelV x v) (fy:zgi y=true) (fx:zgi x=true):SeqAt.EqAt A s u v (eqV y x):=by
  cases y with
  | non =>
    cases ry
    cases x with
    | non=>cases rx;exact SeqAt.EqAt.same _
    | bl b=>cases rx;exact SeqAt.EqAt.none_bool b
    | int b=>obtain ⟨t,rfl⟩:=rx;exact SeqAt.EqAt.none_int b t
    | str b=>obtain ⟨t,rfl⟩:=rx;exact SeqAt.EqAt.none_str b t
    | _=>exact absurd (show false=true from fx) Bool.false_ne_true
  | bl a =>
    cases ry
    cases x with
    | non=>cases rx;exact SeqAt.EqAt.bool_none a
    | bl b=>cases rx;exact SeqAt.EqAt.bool_bool a b
    | int b=>obtain ⟨t,rfl⟩:=rx;exact SeqAt.EqAt.bool_int a b t
    | str b=>obtain ⟨t,rfl⟩:=rx;exact SeqAt.EqAt.bool_str a b t
    | _=>exact absurd (show false=true from fx) Bool.false_ne_true
  | int a =>
    obtain ⟨t',rfl⟩:=ry
    cases x with
    | non=>cases rx;exact SeqAt.EqAt.int_none a t'
    | bl b=>cases rx;exact SeqAt.EqAt.int_bool a t' b
    | int b=>obtain ⟨t,rfl⟩:=rx;exact SeqAt.EqAt.int_int a t' b t
    | str b=>obtain ⟨t,rfl⟩:=rx;exact SeqAt.EqAt.int_str a t' b t
    | _=>exact absurd (show false=true from fx) Bool.false_ne_true
  | str a =>
    obtain ⟨t',rfl⟩:=ry
    cases x with
    | non=>cases rx;exact SeqAt.EqAt.str_none a t'
    | bl b=>cases rx;exact SeqAt.EqAt.str_bool a t' b
    | int b=>obtain ⟨t,rfl⟩:=rx;exact SeqAt.EqAt.str_int a t' b t
    | str b=>obtain ⟨t,rfl⟩:=rx;exact SeqAt.EqAt.str_str a t' b t
    | _=>exact absurd (show false=true from fx) Bool.false_ne_true
  | _=>exact absurd (show false=true from fy) Bool.false_ne_true
noncomputable def eqU (x:V) (u:Value):Bool:=match u with
  | .none=>eqV .non x
  | .bool b=>eqV (.bl b) x
  | .int i _=>eqV (.int i) x
  | .str z _=>eqV (.str z) x
  | _=>false
theorem zRp {x y:V} {u:Value} (r:RelV y u) (f:zgi y=true):eqU x u=eqV y x:=by
  cases y with
  | non=>cases r;rfl
  | bl b=>cases r;rfl
  | int i=>obtain ⟨t,rfl⟩:=r;rfl
  | str z=>obtain ⟨t,rfl⟩:=r;rfl
  | _=>exact absurd (show false=true from f) Bool.false_ne_true
theorem zNm {x:V}:∀ {xs:List V} {us:List Value},Vals xs us→xs.all zgi=true→us.any (eqU x)=xs.any fun y=>eqV y x
  | _,_, .nil,_=>rfl
  | y :: xs,u :: us, .cons r t,f=>by
    rw [all_cons,Bool.and_eq_true] at f
    rw [any_cons,any_cons,zRp r f.1,zNm t f.2]
theorem zUh {A:Around} {s:Shared} {x:V} {v:Value} (rx:RelV x v) (fx:zgi x=true):∀ {xs:List V} {us:List Value},Vals xs us→xs.all zgi=true→∀ u∈us,SeqAt.EqAt A s u v (eqU x u)
  | _,_, .nil,_=>fun u hu=>by cases hu
  | y :: xs,u :: us, .cons r t,f=>fun u' hu=>by
    rw [all_cons,Bool.and_eq_true] at f
    rcases List.mem_cons.mp hu with rfl | hu
    · rw [zRp r f.1];exact zGv r rx f.1 fx
    · exact zUh rx fx t f.2 u' hu
noncomputable def inV (x:V) (xs:List V):Bool:=xs.any fun y=>eqV y x
noncomputable def rIn (K:W.Frag) (neg:Bool):R2:=fun x y H Q=>∃ p xs,y = .ref p∧(SqL K H p xs∨SqT K H p xs)∧zgi x=true∧xs.all zgi=true∧Q (.bl (if neg then !inV x xs else inV x xs)) H
theorem zkl:OpR X (compareOp .NotIn) (rIn X.K true):=by
  intro pins s σ H x y v u Q I rx ry h
  obtain ⟨p,xs,rfl,hq,fx,fs,q⟩:=h
  cases ry
  rcases hq with hq | hq
  · obtain ⟨its,r,pl,hz⟩:=I.list hq
    refine SeqAt.notIn_listAt (eqU x) pl.isList (fun w hw=>zUh rx fx r fs w (by simpa using hw)) ⟨.bl _,H,I,rfl,?_⟩
    rw [show its.toArray.any (eqU x)=its.any (eqU x) by simp,zNm r fs]
    exact q
  · obtain ⟨its,r,pl,hz⟩:=I.tuple hq
    refine SeqAt.notIn_tupleAt (eqU x) pl (fun w hw=>zUh rx fx r fs w (by simpa using hw)) ⟨.bl _,H,I,rfl,?_⟩
    rw [show its.toArray.any (eqU x)=its.any (eqU x) by simp,zNm r fs]
    exact q
theorem zzm:zNi X (.builtin "len") (fun xs H Q=>∃ p ys,xs = [.ref p]∧(SqL X.K H p ys∨SqT X.K H p ys)∧Q (.int ys.length) H):=by
  intro pins s σ H xs us Q I r h
  obtain ⟨p,ys,rfl,hq,q⟩:=h
  obtain ⟨u,rfl,rx⟩:=vals1 r
  cases rx
  have hn:=line63
  rcases hq with hq | hq
  · obtain ⟨its,r',pl,hz⟩:=I.list hq
    have hlen:=r'.length
    exact Calls.call_len_list pl.isList (by simp only [size_toArray] <;> omega) ⟨.int ys.length,H,I.tok _,⟨s.toks+1,by rw [size_toArray,hlen]⟩,q⟩
  · obtain ⟨its,r',pl,hz⟩:=I.tuple hq
    have hlen:=r'.length
    exact len_tuple pl (by simp only [size_toArray] <;> omega) ⟨.int ys.length,H,I.tok _,⟨s.toks+1,by rw [size_toArray,hlen]⟩,q⟩
theorem zlh:zNi X (.type "list") (fun xs H Q=>∃ p ys,xs = [.ref p]∧(SqL X.K H p ys∨SqT X.K H p ys)∧∀ l,H l=none→Q (.ref l) (upd H l (.lst ys))):=by
  intro pins s σ H xs us Q I r h
  obtain ⟨p,ys,rfl,hq,q⟩:=h
  obtain ⟨u,rfl,rx⟩:=vals1 r
  cases rx
  have fin:∀ (its:List Value),Vals ys its→ys.length≤sizeLine→∀ (h':Heap) (c':Nat),(∀ b o',s.heap.get? b=some o'→h'.get? b=some o') →
      h'.get? s.heap.objs.size=some { cls := .type "list",dict:=none,data := .seq its.toArray c',slots:=#[] }→EP X pins σ Q (.ref s.heap.objs.size) { s with heap:=h' }:=fun its r' hz h' c' kp e =>
    ⟨.ref s.heap.objs.size,_,I.laid (t':=s.toks) kp (Nat.le_refl _) (show ObjOk X.prog X.w _ h' _ (.lst ys) from ⟨hz,its,c',r',e⟩),rfl,q _ (I.hok.fresh (Nat.le_refl _))⟩
  rcases hq with hq | hq
  · obtain ⟨its,r',pl,hz⟩:=I.list hq
    have hlen:=r'.length
    obtain ⟨o,ho,hc,n,hd⟩:=pl.isList
    exact call_list_seq p (.inl rfl) ho hc hd (fun h' c' kp e=>fin its r' hz h' c' kp e) (by simp only [size_toArray] <;> omega)
  · obtain ⟨its,r',pl,hz⟩:=I.tuple hq
    have hlen:=r'.length
    obtain ⟨o,ho,hc,n,hd⟩:=pl
    exact call_list_seq p (.inr rfl) ho hc hd (fun h' c' kp e=>fin its r' hz h' c' kp e) (by simp only [size_toArray] <;> omega)
theorem zFd:zNi X (.type "tuple") (fun xs H Q=>∃ p ys,xs = [.ref p]∧((SqL X.K H p ys∧∀ l,H l=none→Q (.ref l) (upd H l (.tup ys)))∨(SqT X.K H p ys∧Q (.ref p) H))):=by
  intro pins s σ H xs us Q I r h
  obtain ⟨p,ys,rfl,h⟩:=h
  obtain ⟨u,rfl,rx⟩:=vals1 r
  cases rx
  rcases h with ⟨hq,q⟩ | ⟨hq,q⟩
  · obtain ⟨its,r',pl,hz⟩:=I.list hq
    have hlen:=r'.length
    refine call_tuple_list pl.isList (fun h' kp=>?_) (by simp only [size_toArray] <;> omega)
    have I1:Inv X pins σ H { s with heap:=h' }:=I.kept (t':=s.toks) kp
    have I2:Inv X pins σ (upd H h'.objs.size (.tup ys)) { s with heap:=h'.push { cls := .type "tuple",data := .seq its.toArray } } :=
      I1.laid (t':=s.toks) (fun b o e=>Heap.get?_push_of_some _ e) (Nat.le_refl _) (show ObjOk X.prog X.w _ _ _ (.tup ys) from ⟨hz,its,r',IsTup.new _ _⟩)
    exact ⟨.ref h'.objs.size,_,I2,rfl,q _ (I1.hok.fresh (Nat.le_refl _))⟩
  · obtain ⟨its,r',pl,hz⟩:=I.tuple hq
    exact call_tuple_same pl ⟨.ref p,H,I,rfl,q⟩
def tyV (K:W.Frag) (T:String) (x:V) (H:Hp):Prop:=match x with
  | .str _=>T = "str"
  | .int _=>T = "int"
  | .ref p=>(T = "list"∧∃ xs,SqL K H p xs)∨(T = "tuple"∧∃ o,K.lookup p=some o∧o.cls = .type "tuple"∧o.dict=none) ∨
      (T = "dict"∧((∃ kvs,H p=some (.dK kvs))∨∃ kvs,H p=some (.dT kvs)))∨(T = "set"∧∃ S n,H p=some (.set S n))
  | _=>False
theorem zSs {pins:List (Addr×Obj)} {σ:St} {H:Hp} {s:Shared} {T:String} {x:V} {v:Value} (I:Inv X pins σ H s) (r:RelV x v) (ty:tyV X.K T x H) :
    s.TypeIs v T∧∀ a,v = .ref a→∃ ob,s.heap.get? a=some ob∧ob.dict=none:=by
  cases x with
  | str z =>
    obtain ⟨t,rfl⟩:=r
    cases (show T = "str" from ty)
    exact ⟨typeIs_str s z t,fun _ e=>nomatch e⟩
  | int i =>
    obtain ⟨t,rfl⟩:=r
    cases (show T = "int" from ty)
    exact ⟨typeIs_int s i t,fun _ e=>nomatch e⟩
  | ref p =>
    cases r
    rcases ty with ⟨rfl,xs,hq⟩ | ⟨rfl,o,hk,hc,hd⟩ | ⟨rfl,hk⟩ | ⟨rfl,S,n,hk⟩
    · obtain ⟨its,_,pl,_⟩:=I.list hq
      refine ⟨pl.isList.typeIs,fun a e=>?_⟩
      cases e
      obtain ⟨o,n,e,c,hd,_⟩:=pl
      exact ⟨o,e,hd⟩
    · refine ⟨⟨o,I.kIn p o hk,hc⟩,fun a e=>?_⟩
      cases e
      exact ⟨o,I.kIn _ o hk,hd⟩
    · have z:∃ o,s.heap.get? p=some o∧o.ExactDict:=by
        rcases hk with ⟨kvs,hk⟩ | ⟨kvs,hk⟩
        · obtain ⟨_,_,_,_,o,_,_,e,ex,_⟩:=I.hok p _ hk
          exact ⟨o,e,ex⟩
        · obtain ⟨_,_,_,_,o,_,_,e,ex,_⟩:=I.hok p _ hk
          exact ⟨o,e,ex⟩
      obtain ⟨o,e,ex⟩:=z
      refine ⟨⟨o,e,ex.1⟩,fun a e2=>?_⟩
      cases e2
      exact ⟨o,e,ex.2.1⟩
    · obtain ⟨o,_,_,_,e,ex,_⟩:=I.hok p _ hk
      refine ⟨⟨o,e,ex.1⟩,fun a e2=>?_⟩
      cases e2
      exact ⟨o,e,ex.2.1⟩
  | _=>exact False.elim ty
noncomputable def z8x (K:W.Frag) (T:String) (r:V→List V→Hp→VK→Prop) (to:TE):TE:=fun σ H Q=>to σ H fun x H1=>tyV K T x H1∧r x [] H1 Q
noncomputable def tBM (K:W.Frag) (T:String) (r:V→List V→Hp→VK→Prop) (to:TE) (t:TA):TE:=fun σ H Q=>to σ H fun x H1=>tyV K T x H1∧t σ H1 fun xs H2=>r x xs H2 Q
variable {o e:Expr} {es:List Expr} {to:TE} {t:TA} {name:Str} {apos cpos:Pos} {T id:String} {r:V→List V→Hp→VK→Prop}
theorem zew (pa:PlainAttrs T) (slot:Slot T name id) (hty:typeOf (.builtin id)=pure (.type "method_descriptor")) (hm:MtR X id r) (ho:PE X o to)
    (hbase:attributeBase o name X.env (eval o X.env)=eval o X.env:=by rfl) (hline:(apos.endLine == cpos.line)=true:=by rfl):PE X (.Call (.Attribute o name apos) [] [] cpos) (z8x X.K T r to):=by
  intro pins s σ H Q I h
  refine wpAny_Call_method0_late hbase hline (thn (ho pins s σ H _ I h) fun v s1 ⟨x,H1,I1,r1,ty,q1⟩=>?_)
  obtain ⟨h1,h2⟩:=zSs I1 r1 ty
  exact ⟨T,id,pa,slot,hty,h1,h2,Calls.callWith_builtin rfl (PySem.evalArgs_none (hm pins s1 σ H1 x [] v [] Q I1 r1 .nil q1))⟩
theorem z7w (pa:PlainAttrs T) (slot:Slot T name id) (hty:typeOf (.builtin id)=pure (.type "method_descriptor")) (hm:MtR X id r) (ho:PE X o to) (ha:PA X (e :: es) t)
    (hbase:attributeBase o name X.env (eval o X.env)=eval o X.env:=by rfl)
    (hfew:((backTo cpos (starEach (e :: es) X.env)).all (fun x=>!x.1) && (backToKw cpos (keywordEach [] X.env)).all (fun x=>x.1.isSome)
      && decide ((e :: es).length+([]:List Keyword).length+(if ([]:List Keyword).isEmpty then 0 else 1)<30))=true:=by rfl)
    (hline:(apos.endLine == cpos.line)=true:=by rfl) (hs:starEach (e :: es) X.env=(false,eval e X.env) :: starEach es X.env:=by rfl) (hplain:(backTo cpos (starEach es X.env)).any (·.1)=false:=by rfl) :
    PE X (.Call (.Attribute o name apos) (e :: es) [] cpos) (tBM X.K T r to t):=by
  intro pins s σ H Q I h
  refine wpAny_Call_method_late hbase hfew hline rfl (thn (ho pins s σ H _ I h) fun v s1 ⟨x,H1,I1,r1,ty,q1⟩=>?_)
  obtain ⟨h1,h2⟩:=zSs I1 r1 ty
  refine ⟨T,id,pa,slot,hty,h1,h2,?_⟩
  have hA:=ha cpos pins s1 σ H1 _ I1 q1
  rw [hs] at hA ⊢
  refine Calls.callWith_builtin (by show (false || (backTo cpos (starEach es X.env)).any (·.1))=false;rw [hplain] <;> rfl) (Calls.evalArgs_plain ?_)
  exact thn hA fun us s2 ⟨vs,H2,I2,r2,q2⟩=>hm pins s2 σ H2 x vs v us Q I2 r1 r2 q2
end
noncomputable def MtM (X:Cx) (id:String) (r:V→List V→Hp→VK→Prop):Prop :=
  ∀ (pins:List (Addr×Obj)) (s:Shared) (σ:St) (H:Hp) (x:V) (xs:List V) (v:Value) (us:List Value) (Q:VK),Inv X pins σ H s→RelV x v→Vals xs us→r x xs H Q →
    wpAny (model X.prog X.w) X.A (call (.builtin id) (v :: us)) (EP X pins σ Q) X.xe s
theorem Vals.uncons {x:V} {xs:List V} {us:List Value} (h:Vals (x :: xs) us):∃ u ws,us=u :: ws∧RelV x u∧Vals xs ws:=by
  cases h with
  | cons r t=>exact ⟨_,_,rfl,r,t⟩
theorem Vals.unnil {us:List Value} (h:Vals [] us):us = []:=by
  cases h
  rfl
theorem Vals.one {x:V} {us:List Value} (h:Vals [x] us):∃ u,us = [u]∧RelV x u:=by
  obtain ⟨u,ws,e,r,t⟩:=h.uncons
  exact ⟨u,by rw [e,t.unnil],r⟩
theorem Vals.zero:∀ {us:List Value},Vals [] us→us = []
  | _, .nil=>rfl
theorem Vals.dropLast {xs:List V} {us:List Value} (h:Vals xs us):Vals xs.dropLast us.dropLast:=by
  induction h with
  | nil=>exact .nil
  | cons r t ih =>
    cases t with
    | nil=>exact .nil
    | cons q t'=>exact .cons r ih
theorem Vals.reverse {xs:List V} {us:List Value} (h:Vals xs us):Vals xs.reverse us.reverse:=by
  induction h with
  | nil=>exact .nil
  | cons r t ih=>rw [List.reverse_cons,List.reverse_cons];exact Vals.append ih (.cons r .nil)
theorem Vals.rep {xs:List V} {us:List Value} (h:Vals xs us):∀ k:Nat,Vals (List.replicate k xs).flatten (List.replicate k us).flatten
  | 0 => .nil
  | k+1=>by
    rw [replicate_succ,replicate_succ,flatten_cons,flatten_cons]
    exact Vals.append h (Vals.rep h k)
theorem zrm (its:List Value):∀ (k:Nat) (acc:List Value),
    List.foldl (fun x1 x2=>x1++x2) acc.toArray (List.replicate k its.toArray)=(acc++(List.replicate k its).flatten).toArray
  | 0,acc=>by simp
  | k+1,acc=>by
    have e:acc.toArray++its.toArray=(acc++its).toArray:=by simp
    have e2:(acc++its)++(List.replicate k its).flatten=acc++(List.replicate (k+1) its).flatten:=by
      rw [replicate_succ,flatten_cons,append_assoc]
    rw [← e2,← zrm its k (acc++its),← e,replicate_succ,List.foldl_cons]
section
variable {X:Cx} {pins:List (Addr×Obj)} {σ:St} {H:Hp} {s:Shared} {l b:Addr} {xs ys zs:List V}
theorem Inv.lset {its its':List Value} {n:Nat} {f:Array Value→Array Value} {t':Nat} (I:Inv X pins σ H s) (hH:H l=some (.lst xs))
    (e:s.heap.get? l=some { cls := .type "list",data := .seq its.toArray n }) (hf:f its.toArray=its'.toArray) (hv:Vals ys its') (hz:ys.length≤sizeLine) :
    Inv X pins σ (upd H l (.lst ys)) { s with heap:=s.heap.update l (Obj.mapSeq f),toks:=t' }:=by
  have q:=PySem.IsL.update e f
  rw [hf] at q
  refine I.write (x:=l) (e:=l) (by rw [hH];exact trivial) (.inl rfl) (fun b' u hb hu=>(Heap.get?_update_other s.heap (Obj.mapSeq f) (Ne.symm hb)).trans hu) ⟨_,q⟩ ?_
  exact ⟨hz,its',_,hv,q⟩
theorem Inv.lnew {its:List Value} {t':Nat} (I:Inv X pins σ H s) (hv:Vals ys its) (hz:ys.length≤sizeLine) :
    Inv X pins σ (upd H s.heap.objs.size (.lst ys)) { s with heap:=s.heap.push { cls := .type "list",data := .seq its.toArray },toks:=t' } :=
  I.laid (fun _ _ q=>Heap.get?_push_of_some _ q) (Nat.le_refl _) ⟨hz,its,0,hv,Heap.get?_push_size _ rfl⟩
theorem Inv.fresh (I:Inv X pins σ H s):H s.heap.objs.size=none:=I.hok.fresh (Nat.le_refl _)
theorem Inv.lstM (I:Inv X pins σ H s) (hH:H l=some (.lst xs)):xs.length≤sizeLine∧∃ (its:List Value) (n:Nat),Vals xs its∧xs.length=its.length∧s.heap.get? l=some { cls := .type "list",data := .seq its.toArray n }:=by
  obtain ⟨z,its,n,r,e⟩:=I.hok l _ hH
  exact ⟨z,its,n,r,r.length,e⟩
theorem notLongL {n:Nat} (h:n≤sizeLine):Builtin.List.listTooLong n=false:=by
  unfold Builtin.List.listTooLong
  exact decide_eq_false (by first|decide|omega)
end
section
variable {X:Cx}
def zju:V→List V→Hp→VK→Prop:=fun x vs H Q=>∃ l xs y,x = .ref l∧vs = [y]∧H l=some (.lst xs)∧xs.length<sizeLine∧Q .non (upd H l (.lst (xs ++ [y])))
theorem zDp:MtM X "list.append" zju:=by
  intro pins s σ H x vs v us Q I rx rv h
  obtain ⟨l,xs,y,rfl,rfl,hH,hz,q⟩:=h
  cases rx
  obtain ⟨u,rfl,ru⟩:=rv.one
  obtain ⟨z,its,n,r,hl,e⟩:=I.lstM hH
  refine call_meets F.slot_list_append ⟨_,e,rfl⟩ F.entry_list_append (F.args_list_append_2 _ _) (PySem.list_append l its.toArray n u (by rw [size_toArray];omega)) ⟨e,?_⟩
  refine ⟨.non,_,I.lset (its':=its ++ [u]) hH e (by simp) (r.append (.cons ru .nil)) ?_,rfl,q⟩
  rw [length_append,List.length_singleton]
  omega
def zjt:V→List V→Hp→VK→Prop:=fun x vs H Q=>∃ l b xs zs,x = .ref l∧vs = [.ref b]∧H l=some (.lst xs)∧H b=some (.lst zs)∧xs.length+zs.length≤sizeLine∧Q .non (upd H l (.lst (xs++zs)))
theorem zXp:MtM X "list.extend" zjt:=by
  intro pins s σ H x vs v us Q I rx rv h
  obtain ⟨l,b,xs,zs,rfl,rfl,hH,hB,hz,q⟩:=h
  cases rx
  obtain ⟨u,rfl,ru⟩:=rv.one
  cases ru
  obtain ⟨z,its,n,r,hl,e⟩:=I.lstM hH
  obtain ⟨z2,its2,n2,r2,hl2,e2⟩:=I.lstM hB
  have hsz:its.toArray.size+its2.toArray.size≤sizeLine:=by rw [size_toArray,size_toArray];omega
  have hlong:¬ (!its.toArray.isEmpty && Builtin.List.listTooLong (its.toArray.size+its2.toArray.size))=true:=by
    rw [notLongL hsz,Bool.and_false]
    exact Bool.false_ne_true
  refine call_meets F.slot_list_extend ⟨_,e,rfl⟩ F.entry_list_extend (F.args_list_extend_2 _ _)
    (AutoSeq1.list_extend_list_list_0 l its.toArray n b its2.toArray n2 hlong (by rw [size_toArray];omega) (by first|decide|omega)) ⟨e,e2,?_⟩
  refine ⟨.non,_,I.lset (its':=its++its2) hH e (by simp) (r.append r2) ?_,rfl,q⟩
  rw [length_append]
  omega
def zdv:V→List V→Hp→VK→Prop:=fun x vs H Q=>∃ l xs,x = .ref l∧vs = []∧H l=some (.lst xs)∧Q .non (upd H l (.lst []))
theorem zHs:MtM X "list.clear" zdv:=by
  intro pins s σ H x vs v us Q I rx rv h
  obtain ⟨l,xs,rfl,rfl,hH,q⟩:=h
  cases rx
  have hus:=rv.zero
  subst hus
  obtain ⟨z,its,n,r,hl,e⟩:=I.lstM hH
  refine call_meets F.slot_list_clear ⟨_,e,rfl⟩ F.entry_list_clear (F.args_list_clear_1 _) (AutoSeq1.list_clear_list_0 l its.toArray n (by rw [size_toArray];omega)) ⟨e,?_⟩
  exact ⟨.non,_,I.lset (its':=[]) (ys:=[]) hH e rfl .nil (Nat.zero_le _),rfl,q⟩
noncomputable def zgy:R2:=fun x y H Q=>∃ l b xs zs,x = .ref l∧y = .ref b∧H l=some (.lst xs)∧H b=some (.lst zs)∧xs.length+zs.length≤sizeLine∧∀ p,H p=none→Q (.ref p) (upd H p (.lst (xs++zs)))
theorem zBv:OpR X (binaryOp .Add) zgy:=by
  intro pins s σ H x y v u Q I rx ry h
  obtain ⟨l,b,xs,zs,rfl,rfl,hH,hB,hz,q⟩:=h
  cases rx
  cases ry
  obtain ⟨z,its,n,r,hl,e⟩:=I.lstM hH
  obtain ⟨z2,its2,n2,r2,hl2,e2⟩:=I.lstM hB
  refine PySem.P.add_list e e2 ?_ (by rw [size_toArray,size_toArray];omega)
  have ea:its.toArray++its2.toArray=(its++its2).toArray:=by simp
  rw [ea]
  exact ⟨.ref _,_,I.lnew (t':=s.toks) (r.append r2) (by rw [length_append];omega),rfl,q _ I.fresh⟩
noncomputable def zTx:R2:=fun x y H Q=>∃ l k xs,x = .ref l∧y = .int k∧H l=some (.lst xs)∧-(2 ^ 63)≤k∧k<2 ^ 63∧xs.length * k.toNat≤sizeLine ∧
  ∀ p,H p=none→Q (.ref p) (upd H p (.lst (List.replicate k.toNat xs).flatten))
theorem zwq {α:Type} (xs:List α) (k:Nat):(List.replicate k xs).flatten.length=k * xs.length:=by
  induction k with
  | zero=>simp
  | succ k ih=>rw [replicate_succ,flatten_cons,length_append,ih,Nat.succ_mul,Nat.add_comm]
theorem z8u:OpR X (binaryOp .Mult) zTx:=by
  intro pins s σ H x y v u Q I rx ry h
  obtain ⟨l,k,xs,rfl,rfl,hH,h1,h2,hz,q⟩:=h
  cases rx
  obtain ⟨t,rfl⟩:=ry
  obtain ⟨z,its,n,r,hl,e⟩:=I.lstM hH
  have hlen:its.toArray.size * k.toNat≤sizeLine:=by rw [size_toArray,← hl];exact hz
  have hcap:¬ its.toArray.size * k.toNat > (2 ^ 63 - 1) / 8:=by
    have:(sizeLine:Nat)≤(2 ^ 63 - 1) / 8:=by decide
    omega
  have hfit:¬ (!Builtin.List.listFitsIndex k)=true:=by
    rw [fitsIndex_both h1 h2]
    exact Bool.false_ne_true
  have hlong:¬ Builtin.List.listTooLong (its.toArray.size * k.toNat)=true:=by
    rw [notLongL hlen]
    exact Bool.false_ne_true
  have hnew:List.foldl (fun x1 x2=>x1++x2) #[] (List.replicate (if its.toArray.isEmpty=true then 0 else k.toNat) its.toArray)=(List.replicate k.toNat its).flatten.toArray:=by
    have f0:∀ m:Nat,List.foldl (fun x1 x2=>x1++x2) #[] (List.replicate m its.toArray)=(List.replicate m its).flatten.toArray:=fun m=>by
      have:=zrm its m []
      rw [List.nil_append] at this
      exact this
    rw [f0]
    cases its with
    | nil=>simp
    | cons a r'=>rw [if_neg (by simp)]
  refine wpAny_binaryOp_repeat_ref (T:="list") (U:="int") (by decide) ⟨_,e,rfl⟩ (fun s'=>typeIs_int s' k t) noFill_list_mul F.fills_int_mul F.slot_int_rmul repeat_list F.slot_int_index.lookup
    (call_meets F.slot_int_rmul (typeIs_int s k t) F.entry_int_rmul (F.args_int_rmul_2 _ _) (int___rmul___int_list k t l its.toArray n)
      ⟨e,rfl,⟨_,e,rfl⟩,call_meets F.slot_list_mul ⟨_,e,rfl⟩ F.entry_list_mul (F.args_list_mul_2 _ _) (AutoListH.list___mul___list_int_3 l its.toArray n k t hfit hcap hlong) ⟨e,?_⟩⟩)
  rw [hnew]
  exact ⟨.ref _,_,I.lnew (t':=s.toks) (r.rep k.toNat) (by rw [zwq,Nat.mul_comm];exact hz),rfl,q _ I.fresh⟩
end
section
variable {prog:Program} {w:World} {A:Around} {E:Value→Shared→Prop} {s:Shared}
end
section
variable {X:Cx}
end
end L2
namespace Att
open PySem PySem.W PySem.Calls PyProof.Rows
theorem zci {P:Params} {h:Heap}:∀ (ns:List Int) (vs:List Value),WellAll P h vs (ns.map WData.int)→IntsAre vs ns:=by
  intro ns
  induction ns with
  | nil =>
    intro vs w
    rw [List.map_nil] at w
    cases w
    exact .nil
  | cons n ns ih =>
    intro vs w
    rw [map_cons] at w
    cases w with
    | cons a b =>
      cases a
      exact .cons _ _ (ih _ b)
theorem zOq {l:OpenLaw} {n:Nat} (hn:l.most=some n) {P:Params} {h:Heap} {args:List WData} {vals:List Value}
    (hpre:l.row.toRowW.claim.pre args=true) (hwl:WellAll P h vals args) :
    ∃ a vs ns,vals = [Value.ref a]∧args = [WData.list (ns.map WData.int)]∧h.get? a=some { cls := .type "list",data := .seq vs.toArray }∧IntsAre vs ns∧ns.length≤n:=by
  have hsh:WShape.hasAll [] args [.list .int]=true:=(pre_splitW hpre).1
  have hc:l.pre.holds [] { args:=args } = true:=(pre_splitW hpre).2
  obtain ⟨d,r,rfl,h1,h2⟩:=hasAllW_cons hsh
  obtain rfl:=hasAllW_nil h2
  obtain ⟨xs,rfl,h3⟩:=hasW_list h1
  obtain ⟨ns,rfl⟩:=items_int h3
  have hlen:ns.length≤n:=by
    unfold OpenLaw.pre at hc
    have h4:(WTm.not (.lt (.lit (.int (n:Int))) (.len (.arg 0)))).holds [] { args:=[.list (ns.map .int)] } = true:=by
      have h4:=(holds_andW hc).1
      rw [hn] at h4
      exact h4
    have h5:=condW_of h4 (w_not (w_lt w_lit (w_len_list (w_arg rfl))))
    rw [length_map] at h5
    refine Nat.le_of_not_lt fun q=>?_
    have q':(n:Int)<((ns.length:Nat):Int):=by omega
    first
      | (rw [decide_eq_true q'] at h5;exact absurd h5 (by decide))
      | (simp at h5;omega)
  cases hwl with
  | cons w1 w2 =>
    cases w2
    cases w1 with
    | list ho hall=>exact ⟨_,_,ns,rfl,rfl,ho,zci ns _ hall,hlen⟩
theorem zer (l:OpenLaw) (args:List WData):l.row.toRowW.claim.post args (.bool true) args=true :=
  postW_of (r:=l.row.toRowW) (X:=(true == true))
    (show WShape.has [] (.bool true) .bool=true by first | rfl | decide | simp [WShape.has,WShape.arms,WShape.armsAll])
    (show (WTm.eq .res (.lit (.bool true))).value [] { args:=args,res:=some (.bool true),after:=args } = some (.bool (true == true)) from w_eq_bool (w_res rfl) w_lit) rfl
theorem attach_call {l:OpenLaw} {n:Nat} {q:Program} {loose:List Str} {XP:(Str→Option Value)→Heap→Prop} {YP:World→Heap→Prop} {d:DefRec}
    (hn:l.most=some n) (hdf:d.params.defaults = [])
    (call:∀ (w:World) (s₀ s₁:Shared) (mg mb:Str→Option Value) (fa:Addr) (o:Obj) (pm cd doc:Value) (a:Addr) (vs:List Value) (ns:List Int),
      Ground q loose [] XP w s₀ mg mb s₁.heap→YP w s₁.heap →
      s₁.heap.get? fa=some o→o.data = .func (docDef d.name d.params d.body d.scope pm cd doc)→s₁.heap.CodeRec cd d.name→mg d.name=some (.ref fa) →
      s₁.heap.get? a=some { cls := .type "list",data := .seq vs.toArray }→IntsAre vs ns→ns.length≤n→s₁.gens = #[] →
      codeAny (model l.prog w) callerA (.call (.ref fa) ⟨[.ref a],[]⟩) (fun r s'=>r = .ok (.ret (.bool true))∧OldK s₁.heap s'.heap∧s'.os=s₁.os∧AllBare s'.gens) s₁) :
    WalkO q loose XP YP l.row.toRowW d [] (fun f vs=>PySem.call f vs):=by
  intro w s₀ s₁ mg mb G Y fa o pm cd doc dV kV ho hd hcd hD hmg hg args vals as hpre hlay hrd hwl hlo
  obtain rfl:dV = .none:=Dflts.none hD hdf
  obtain rfl:kV = .none:=Dflts.noKw hD
  obtain ⟨a,vs,ns,rfl,rfl,hobj,hints,hlen⟩:=zOq hn hpre hwl
  refine enter_call (codeAny_mono (call w s₀ s₁ mg mb fa o pm cd doc a vs ns G Y ho (fd_plain hd) hcd hmg hobj hints hlen hg) fun r s' hq=>?_)
  obtain ⟨rfl,h2,h3,h4⟩:=hq
  exact ⟨.inl ⟨.bool true, .bool true,[],rfl,fun _=>rfl, .bool true,zer l _,fun _=>⟨List.Pairwise.nil,fun _ hm=>(nomatch hm)⟩⟩,h2,h3,h4⟩
section
variable {prog:Program} {w:World} {A:Around} {E:Value→Shared→Prop} {s:Shared} {K:Frag}
end
end Att
namespace L2
open PySem PySem.Spec PyProof.Rows
theorem zKl:∀ {vs:List Value} {ns:List Int},IntsAre vs ns→Vals (ns.map V.int) vs
  | _,_, .nil => .nil
  | _,_, .cons n t h => .cons ⟨t,rfl⟩ (zKl h)
def zDw (H:Hp):Prop:=∀ b,H b=none∨∃ o xs,H b=some (.frz o (.lst xs))
theorem zPs {P:Program} {w:World} {K:W.Frag} {mg mb:Str→Option Value} {CX:CXT} {k:Nat} {fa a:Addr} {fd:FuncData} {x:Str} {sp:Sp} {s₁:Shared} {vs:List Value} {ns:List Int}
    (KX:K.In s₁.heap) (hns:s₁.heap.Ns mainGlobals mg) (hb:s₁.heap.Ns builtinsNs mb) (hbb:∀ x:Str,x≠"__name__"→mb x=bootBuiltins x) (hlim:s₁.heap.NoLimit) (hg:s₁.gens = #[])
    (ha:s₁.heap.get? a=some { cls := .type "list",data := .seq vs.toArray }) (hi:IntsAre vs ns) (hl:ns.length≤sizeLine) (hr:Room k callerA)
    (F:∀ base:Heap,K.In base→base.Ns mainGlobals mg→FnOk P w K mg base CX k fa fd [x] sp) (hbind:∀ (s:Shared) (u:Value),BindsTo s fd ⟨[u],[]⟩ [(x,u)])
    (hsp:∀ H:Hp,zDw H→SqL K H a (ns.map V.int)→sp [.ref a] H (fun v _=>v = .bl true) fun _ _ _=>False)
    (hCX:∀ H e s',CX [] H s₁ (fun _ _ _=>False) e s'→False) :
    codeAny (model P w) callerA (.call (.ref fa) ⟨[.ref a],[]⟩) (fun r s'=>r = .ok (.ret (.bool true))∧OldK s₁.heap s'.heap∧s'.os=s₁.os∧AllBare s'.gens) s₁:=by
  have rv:=zKl hi
  have lenV:=hi.length
  have core:∀ H:Hp,zDw H→SqL K H a (ns.map V.int)→HOk P w H s₁.heap→(∀ b,H b≠none→b=a)→(H a≠none→K.lookup a=none) →
      codeAny (model P w) callerA (.call (.ref fa) ⟨[.ref a],[]⟩) (fun r s'=>r = .ok (.ret (.bool true))∧OldK s₁.heap s'.heap∧s'.os=s₁.os∧AllBare s'.gens) s₁:=by
    intro H hO hS hok hA hK
    have base_of:∀ {b:Addr} {o:Obj},s₁.heap.get? b=some o→H b=none→(z8r s₁.heap H).get? b=some o:=fun e n=>zUr e n
    have noA:∀ {b:Addr} {o:Obj} {es:Array DictEntry} {ep:Nat},s₁.heap.get? b=some o→o.data = .dict es ep→H b=none:=fun {b o es ep} e d=>by
      cases q:H b with
      | none=>rfl
      | some u =>
        have e':b=a:=hA b (by rw [q];simp)
        subst e'
        rw [ha] at e;cases e
        have d':Data.seq vs.toArray _=Data.dict es ep:=d
        cases d'
    have nsK:∀ {b:Addr} {m:Str→Option Value},s₁.heap.Ns b m→(z8r s₁.heap H).Ns b m:=fun {b m} ⟨o,es,ep,e,d,r⟩=>⟨o,es,ep,base_of e (noA e d),d,r⟩
    have hKb:K.In (z8r s₁.heap H):=fun b o e=>base_of (KX b o e) (by
      cases q:H b with
      | none=>rfl
      | some u =>
        have e':b=a:=hA b (by rw [q];simp)
        subst e'
        rw [hK (by rw [q];simp)] at e;cases e)
    have hM:Mod K mg (z8r s₁.heap H):=⟨hKb,nsK hns,⟨mb,nsK hb,hbb⟩,let ⟨mc,h1,h2⟩:=hlim;⟨mc,nsK h1,h2⟩⟩
    have e0:Env0 P w K mg (z8r s₁.heap H) callerA [] s₁ H:=⟨rfl,hM,fun b o e=>zFu e,Nat.le_of_eq (zqr _ _),trivial,fun b hb=>absurd (show b∈([]:List Addr) from hb) (by simp),hok, .of_eq hg⟩
    refine codeAny_mono ((F _ hKb (nsK hns)).run callerA [] s₁ H ⟨[.ref a],[]⟩ [.ref a] [.ref a] _ _ hr e0 (hbind s₁ (.ref a)) (.cons rfl .nil) (hsp H hO hS)) fun r s' h=>?_
    cases r with
    | error e=>exact (hCX H e s' h).elim
    | ok fl =>
      cases fl with
      | next=>exact False.elim h
      | brk=>exact False.elim h
      | cont=>exact False.elim h
      | ret u =>
        obtain ⟨v,H',os,bare,un,hok',r',q⟩:=h
        have q':v = .bl true:=q
        subst q'
        obtain rfl:u=Value.bool true:=r'
        refine ⟨rfl,OldK.of_keep fun b o e=>?_,os,bare⟩
        cases q:H b with
        | none=>exact un.keep b o e q (by intro z;exact absurd (show b∈([]:List Addr) from z) (by simp)) (by simp)
        | some u =>
          rcases hO b with z | ⟨ob,xs,z⟩
          · rw [q] at z;cases z
          · have z2:=un.frzs b ob _ z
            obtain ⟨e1,_⟩:=hok b _ z
            obtain ⟨e2,_⟩:=hok' b _ z2
            rw [e] at e1;cases e1
            exact e2
  cases hk:K.lookup a with
  | some o =>
    have e:=KX a o hk
    rw [ha] at e
    cases e
    refine core (fun _=>none) (fun _ => .inl rfl) (.inr ⟨_,vs.toArray,_,hk,rfl,rfl,rfl,by rw [size_toArray,lenV];exact hl,by simpa using rv⟩) (fun b u z=>by have z':(none:Option HO)=some u:=z;cases z') (fun b z=>absurd rfl z) fun z=>absurd rfl z
  | none =>
    refine core (fun b=>if b=a then some (.frz { cls := .type "list",data := .seq vs.toArray } (.lst (ns.map V.int))) else none) (fun b=>?_) (.inl (.inr ⟨{ cls := .type "list",data := .seq vs.toArray },if_pos rfl⟩)) (fun b u z=>?_) (fun b z=>?_) fun _=>hk
    · by_cases hb:b=a
      · exact .inr ⟨_,_,if_pos hb⟩
      · exact .inl (if_neg hb)
    · by_cases hb:b=a
      · have z':=(if_pos hb).symm.trans z
        cases z'
        subst hb
        exact ⟨ha,by rw [length_map];exact hl,vs,_,rv,ha⟩
      · have z':=(if_neg hb).symm.trans z
        cases z'
    · by_cases hb:b=a
      · exact hb
      · exact absurd (if_neg hb) z
theorem walk_of {l:W.OpenLaw} {n k:Nat} {q:Program} {loose:List Str} {XP:(Str→Option Value)→Heap→Prop} {YP:World→Heap→Prop} {d:DefRec} {K:Params→W.Frag} {CX:World→CXT} {sp:World→Sp} {x:Str}
    (hn:l.most=some n) (hn2:n≤sizeLine) (hdf:d.params.defaults = []) (hr:Room k callerA)
    (hY:∀ (w:World) (h:Heap),YP w h→(K w.params).In h)
    (F:∀ (w:World) (mg:Str→Option Value) (fa:Addr) (h:Heap),(K w.params).In h→h.Ns mainGlobals mg→mg d.name=some (.ref fa) →
      ∃ fd:FuncData,(∀ (s:Shared) (u:Value),BindsTo s fd ⟨[u],[]⟩ [(x,u)]) ∧
        ∀ base:Heap,(K w.params).In base→base.Ns mainGlobals mg→FnOk l.prog w (K w.params) mg base (CX w) k fa fd [x] (sp w))
    (hsp:∀ (w:World) (H:Hp) (a:Addr) (ns:List Int),ns.length≤n→zDw H→SqL (K w.params) H a (ns.map V.int)→sp w [.ref a] H (fun v _=>v = .bl true) fun _ _ _=>False)
    (hCX:∀ (w:World) (H:Hp) (s:Shared) (e:Value) (s':Shared),CX w [] H s (fun _ _ _=>False) e s'→False) :
    W.WalkO q loose XP YP l.row.toRowW d [] (fun f vs=>PySem.call f vs):=by
  refine Att.attach_call hn hdf fun w s₀ s₁ mg mb fa o pm cd doc a vs ns G Y ho hd hcd hmg hobj hints hlen hg=>?_
  have KX:=hY w _ Y
  obtain ⟨fd,hb,hF⟩:=F w mg fa _ KX G.T.g hmg
  exact zPs KX G.T.g G.T.b G.T.builtins G.T.nolimit hg hobj hints (Nat.le_trans hlen hn2) hr hF hb (fun H hO hS=>hsp w H a ns hlen hO hS) fun H e s'=>hCX w H s₁ e s'
noncomputable def znc (s:Stmt):Arguments:=match s with
  | .FunctionDef _ a _ _ _ _ _ _ _ _=>a
  | _=>{ posonlyargs:=[],args:=[],vararg:=none,kwonlyargs:=[],kw_defaults:=[],kwarg:=none,defaults:=[] }
noncomputable def zIb (s:Stmt):List Stmt:=match s with
  | .FunctionDef _ _ b _ _ _ _ _ _ _=>b
  | _=>[]
noncomputable def zm (s:Stmt):Scope:=match s with
  | .FunctionDef _ _ _ _ _ _ sc _ _ _=>sc
  | _=>{ kind := .function,names:=[],isGenerator:=false,isCoroutine:=false }
noncomputable abbrev CX0:CXT:=fun _ _ _ _ _ _=>False
noncomputable abbrev E0:XK:=fun _ _ _=>False
theorem pass0 {X:Cx}:zCq CX0 X E0:=fun _ _ _ _ _ _ _ h=>h.elim
structure Fun (K:W.Frag) (x qual:Str) (st:Stmt) (f:Addr) (fd:FuncData):Prop where
  ex:∃ (oc:Value) (od:Option Addr) (kV doc pm:Value) (an:Option Addr) (cdv ct:Value) (osl:Array (Option Value)),
    fd=W.fnOf x qual (znc st) (zIb st) (zm st) .none kV doc pm an cdv ct∧K.lookup f=some ⟨oc,od, .func fd,osl⟩∧W.codeIn K cdv qual=true
  kp:W.keepIn K (.ref f)=true
section
variable {P:Program} {w:World} {K:W.Frag} {mg:Str→Option Value} {base:Heap}
theorem Fun.ok {x qual:Str} {st:Stmt} {f:Addr} {fd:FuncData} {N ps:List Str} {k:Nat} {sp:Sp} (F:Fun K x qual st f fd) (S:FnScope N ps (zm st)) (len:∀ vs H Q E,sp vs H Q E→vs.length=ps.length)
    (hbody:∀ (cdv:Value) (A:Around) (outer:List Env) (s:Shared) (H:Hp) (vs:List V) (Q:VK) (E:XK),Room k (A.deeper (envOfC qual (zm st) s.heap.objs.size f cdv))→sp vs H Q E →
      ∃ t,PSs (zbq CX0 P w K mg base N qual (zm st) f cdv A outer s H E).nox (zIb st) t∧t { nx:=fun _ H'=>Q .non H',rt:=Q } (start N vs) H):FnOk P w K mg base CX0 (k+1) f fd ps sp:=by
  obtain ⟨oc,od,kV,doc,pm,an,cdv,ct,osl,rfl,lk,hcd⟩:=F.ex
  refine zav lk hcd S len fun A outer s H vs Q E hr hsp=>?_
  obtain ⟨t,h,q⟩:=hbody cdv A outer s H vs Q E hr hsp
  exact ⟨t,h.nox,q⟩
theorem Fun.binds {x qual:Str} {st:Stmt} {f:Addr} {fd:FuncData} {ps:List Str} (F:Fun K x qual st f fd)
    (h:∀ (kV doc pm:Value) (an:Option Addr) (cdv ct:Value) (us:List Value),us.length=ps.length→bindArgs (W.fnOf x qual (znc st) (zIb st) (zm st) .none kV doc pm an cdv ct) ⟨us,[]⟩ = pure (ps.zip us)):Binds K fd ps []:=by
  obtain ⟨oc,od,kV,doc,pm,an,cdv,ct,osl,rfl,lk,hcd⟩:=F.ex
  exact .all (h kV doc pm an cdv ct)
theorem zbo {x qual:Str} {st:Stmt} {f:Addr} {oc:Value} {od an:Option Addr} {osl:Array (Option Value)} {kV doc pm cdv ct:Value} (l:K.lookup f=some ⟨oc,od, .func (W.fnOf x qual (znc st) (zIb st) (zm st) .none kV doc pm an cdv ct),osl⟩)
    (c:W.codeIn K cdv qual=true) (k:W.keepIn K (.ref f)=true):Fun K x qual st f (W.fnOf x qual (znc st) (zIb st) (zm st) .none kV doc pm an cdv ct):=⟨⟨oc,od,kV,doc,pm,an,cdv,ct,osl,rfl,l,c⟩,k⟩
end
theorem small1000 {n:Nat} (h:n≤1000):n<sizeLine:=Nat.lt_of_le_of_lt h (by decide)
section
variable {X:Cx}
theorem pv (i:Nat) {x:Str} {pos:Pos} (hN:X.N[i]?=some x:=by rfl) (hv:Vis X.env.scope x:=by first | exact Or.inl rfl | exact Or.inr (Or.inl rfl) | exact Or.inr (Or.inr rfl)) (hd:(x == ("__debug__":Str))=false:=by decide)
    (hcd:(x == ("__classdict__":Str))=false:=by decide):PE X (.Name x pos) (zlx i):=zRs hN hv hd hcd
end
theorem iteF {A B:Prop} (h:B):if false=true then A else B:=by
  rw [if_neg Bool.false_ne_true]
  exact h
theorem iteT {A B:Prop} (h:A):if true=true then A else B:=by
  rw [if_pos rfl]
  exact h
theorem z6i (f:Array Value→Array Value) (o:Obj):(Obj.mapFields f o).dict=o.dict:=by
  unfold Obj.mapFields
  split <;> rfl
def Trc (B h:Heap) (e:Addr) (x:Value):Prop:=x = .none∨∃ T oT ts y,x = .ref T∧B.get? T=none∧T≠e∧h.get? T=some oT∧oT.data = .fields ts∧ts[3]?=some y
structure Fly (B:Heap) (l:List Env) (e:Addr) (cls:Value) (dx:Option Addr) (h:Heap):Prop where
  st:B.StaysIn h
  new:B.get? e=none
  ff:h.FunFrames B l
  ob:∃ oe vs x,h.get? e=some oe∧oe.cls=cls∧oe.dict=dx∧oe.data = .fields vs∧vs[1]?=some x∧Trc B h e x
section
variable {M:Model} {A:Around} {E:Value→Shared→Prop} {s:Shared} {B:Heap} {l outer:List Env} {env:Env} {e L:Addr} {cls:Value} {dx:Option Addr} {Q:Unit→Shared→Prop}
theorem Fly.recW {h:Heap} {T:Addr} {oT:Obj} {ts:Array Value} (F:Fly B l e cls dx h) (hb:B.get? T=none) (hT:h.get? T=some oT) (hd:oT.data = .fields ts) (g:Array Value→Array Value)
    (hob:∃ oe vs x,(h.update T (Obj.mapFields g)).get? e=some oe∧oe.cls=cls∧oe.dict=dx∧oe.data = .fields vs∧vs[1]?=some x∧Trc B (h.update T (Obj.mapFields g)) e x) :
    Fly B l e cls dx (h.update T (Obj.mapFields g))∧h.UpToSlots (h.update T (Obj.mapFields g)):=by
  have other:∀ b,b≠T→(h.update T (Obj.mapFields g)).get? b=h.get? b:=fun b hb=>Heap.get?_update_other _ _ (Ne.symm hb)
  have noR:∀ b o,h.get? b=some o→(∀ vs,o.data≠.fields vs)→b≠T:=fun b o q hn z=>by
    rw [z,hT] at q;cases q;exact hn ts hd
  exact ⟨⟨fun b o q=>(other b fun z=>by rw [z,hb] at q;cases q).trans (F.st b o q),F.new,F.ff.of_keeps fun b o q hn=>⟨o,(other b (noR b o q hn)).trans q,rfl⟩,hob⟩,fun b o q hn=>⟨o.slots,(other b (noR b o q hn)).trans q⟩⟩
theorem zhf (F:Fly B l e cls dx s.heap) (h:∀ h',Fly B l e cls dx h'→s.heap.UpToSlots h'→Q () { s with heap:=h' }):wpAny M A (setFlight (.ref e) none) Q E s:=by
  obtain ⟨oe,vs,x,he,hc,hx,hd,h1,tr⟩:=F.ob
  unfold setFlight
  refine wpAny_bind (wpAny_field he hd h1 ?_)
  rcases tr with rfl | ⟨T,oT,ts,y,rfl,hb,hne,hT,hdT,h3⟩
  · rw [if_neg (by decide)]
    exact wpAny_pure (h _ F (.refl _))
  · rw [if_pos (show (Value.ref T != Value.none)=true from by simp)]
    have h3':=(Array.getElem?_eq_some_iff.mp h3).1
    refine wpAny_setField hT hdT h3' ?_
    obtain ⟨F',u⟩:=F.recW hb hT hdT (·.setIfInBounds 3 ((none:Option Addr).elim Value.none fun f=>rawInt f))
      ⟨oe,vs,_,(Heap.get?_update_other _ _ hne).trans he,hc,hx,hd,h1, .inr ⟨T,_,_, .none,rfl,hb,hne,Heap.get?_update_self _ hT (Obj.isFreed_of_fields (Obj.data_mapFields hdT _)),Obj.data_mapFields hdT _,by simp [h3']⟩⟩
    exact h _ F' u
theorem zyq {head:Value} {hadNext:Bool} (hfr:A.frames=some (env :: outer)) (hf:env.frame=some L) (F:Fly B (env :: outer) e cls dx s.heap) (h:∀ h',Fly B (env :: outer) e cls dx h'→s.heap.UpToSlots h'→Q () { s with heap:=h' }) :
    wpAny M A (do let a ← frameOf env;let pl ← entryPlaceOf L hadNext;let b ← EntryCells.newEntry head a .none (rawInt L) .none pl;setField (.ref e) 1 b) Q E s:=by
  obtain ⟨oe,vs,x,he,hc,hx,hd,h1,tr⟩:=F.ob
  have hl:=F.ff
  have hene:e∉(env :: outer).filterMap (·.frame):=fun hm=>by
    obtain ⟨_,o,ho,hnf⟩:=hl.mem hm
    rw [he] at ho;cases ho;exact hnf vs hd
  refine wpAny_bind (wpAny_frameOf_fun hfr hl hf fun h₁ hs=>?_)
  refine wpAny_bind (wpAny_entryPlaceOf fun pl hpl=>?_)
  unfold EntryCells.newEntry newFields
  refine wpAny_bind (wpAny_newObj_type ?_ (hpl.sizeOk5 _ _ _ _ _))
  generalize hts:([head,Value.ref L,Value.none,rawInt L,Value.none]++(if pl.isEmpty=true then List.replicate 6 Value.none else pl))=ts
  have hts3:ts.toArray[3]?=some (rawInt L):=by rw [← hts];simp
  have he₁:h₁.get? e=some oe:=(hs.2.1 e hene).trans he
  have hn:h₁.objs.size≠e:=Nat.ne_of_gt (Heap.lt_size he₁)
  have kb:B.StaysIn h₁:=fun b o q=>(hs.2.1 b fun hm=>by rw [(hl.mem hm).1] at q;cases q).trans (F.st b o q)
  have he₂:=Heap.get?_push_of_some (h:=h₁) { cls := .type "traceback",dict:=none,data := .fields ts.toArray } he₁
  refine wpAny_setField he₂ hd (Array.getElem?_eq_some_iff.mp h1).1 (h _ ?_ ?_)
  all_goals
    have keep:∀ b o,b≠e→h₁.get? b=some o→((h₁.push { cls := .type "traceback",dict:=none,data := .fields ts.toArray }).update e (Obj.mapFields (·.setIfInBounds 1 (Value.ref h₁.objs.size)))).get? b=some o:=fun b o hbe hb=>by
      rw [Heap.get?_update_other _ _ (Ne.symm hbe)]
      exact Heap.get?_push_of_some _ hb
    have noR:∀ b o,s.heap.get? b=some o→(∀ vs,o.data≠.fields vs)→b≠e:=fun b o q hn z=>by
      rw [z,he] at q;cases q;exact hn vs hd
  · refine ⟨fun b o q=>keep b o (fun z=>by rw [z,F.new] at q;cases q) (kb b o q),F.new,hl.of_keeps fun b o q hn=>?_,?_⟩
    · obtain ⟨sl,z⟩:=hs.2.2 b o q
      exact ⟨_,keep b _ (noR b o q hn) z,rfl⟩
    · have hd₃:=Obj.data_mapFields hd (·.setIfInBounds 1 (Value.ref h₁.objs.size))
      refine ⟨_,_,_,Heap.get?_update_self _ he₂ (Obj.isFreed_of_fields hd₃),(Obj.cls_mapFields _ _).trans hc,(z6i _ _).trans hx,hd₃,by simp [(Array.getElem?_eq_some_iff.mp h1).1], .inr ⟨h₁.objs.size,{ cls := .type "traceback",dict:=none,data := .fields ts.toArray },ts.toArray,rawInt L,rfl,kb.fresh,hn,?_,rfl,hts3⟩⟩
      exact (Heap.get?_update_other _ _ (Ne.symm hn)).trans (Heap.get?_push_size h₁ rfl)
  · intro b o q hn
    obtain ⟨sl,z⟩:=hs.2.2 b o q
    exact ⟨sl,keep b _ (noR b o q hn) z⟩
theorem zai (hfr:A.frames=some (env :: outer)) (hf:env.frame=some L) (F:Fly B (env :: outer) e cls dx s.heap) (h:∀ h',Fly B (env :: outer) e cls dx h'→s.heap.UpToSlots h'→Q () { s with heap:=h' }) :
    wpAny M A (noteFrame (.ref e) env) Q E s:=by
  obtain ⟨oe,vs,x,he,hc,hx,hd,h1,tr⟩:=F.ob
  unfold noteFrame
  simp only [hf]
  refine wpAny_bind (wpAny_field he hd h1 ?_)
  rcases tr with rfl | ⟨T,oT,ts,y,rfl,hb,hne,hT,hdT,h3⟩
  · rw [if_neg (by decide)]
    exact zyq hfr hf F h
  · rw [if_pos (show (Value.ref T != Value.none)=true from by simp)]
    refine wpAny_bind (wpAny_field hT hdT h3 ?_)
    by_cases hy:(y == rawInt L)=true
    · rw [if_pos hy]
      exact wpAny_pure (h _ F (.refl _))
    · rw [if_neg hy]
      have h3':=(Array.getElem?_eq_some_iff.mp h3).1
      refine wpAny_bind (wpAny_setField hT hdT h3' ?_)
      obtain ⟨F',u⟩:=F.recW hb hT hdT (·.setIfInBounds 3 Value.none)
        ⟨oe,vs,_,(Heap.get?_update_other _ _ hne).trans he,hc,hx,hd,h1, .inr ⟨T,_,_, .none,rfl,hb,hne,Heap.get?_update_self _ hT (Obj.isFreed_of_fields (Obj.data_mapFields hdT _)),Obj.data_mapFields hdT _,by simp [h3']⟩⟩
      exact zyq hfr hf F' fun h' F'' u'=>h h' F'' (u.trans u')
theorem zpr (hfr:A.frames=some (env :: outer)) (hf:env.frame=some L) (F:Fly B (env :: outer) e cls dx s.heap) (h:∀ h',Fly B outer e cls dx h'→s.heap.UpToSlots h'→Q () { s with heap:=h' }) :
    wpAny M A (leaving env (.ref e)) Q E s:=by
  unfold leaving
  refine wpAny_bind (zai hfr hf F fun h1 F1 u1=>?_)
  refine zhf (s:={ s with heap:=h1 }) F1 fun h2 F2 u2=>?_
  exact h h2 ⟨F2.st,F2.new,F2.ff.2.2,F2.ob⟩ (u1.trans u2)
end
theorem ObjOk.there {P:Program} {w:World} {H:Hp} {h:Heap} {a:Addr} {o:HO} (x:ObjOk P w H h a o):∃ u,h.get? a=some u:=by
  cases o with
  | lst xs=>obtain ⟨_,_,_,_,e⟩:=x;exact ⟨_,e⟩
  | tup xs=>obtain ⟨_,_,_,o,e,_⟩:=x;exact ⟨_,e⟩
  | dK kvs=>obtain ⟨_,_,_,_,o,_,_,e,_⟩:=x;exact ⟨_,e⟩
  | dT kvs=>obtain ⟨_,_,_,_,o,_,_,e,_⟩:=x;exact ⟨_,e⟩
  | set S n=>obtain ⟨o,_,_,_,e,_⟩:=x;exact ⟨_,e⟩
  | ins C dx fs=>obtain ⟨_,_,_,e,_⟩:=x;exact ⟨_,e⟩
  | own y=>obtain ⟨_,e⟩:=x;exact ⟨_,e⟩
  | xd fs=>obtain ⟨_,⟨_,_,_,e,_⟩,_⟩:=x;exact ⟨_,e⟩
  | rng lo hi=>obtain ⟨_,_,_,e⟩:=x;exact ⟨_,e⟩
  | frz ob u=>obtain ⟨e,_⟩:=x;exact ⟨_,e⟩
  | tbl ps=>exact ⟨_,(show h.get? a=some _ from x)⟩
  | met f y=>exact ⟨_,(show h.get? a=some _ from x)⟩
  | ext φ=>obtain ⟨_,⟨_,e⟩,_⟩:=x;exact ⟨_,e⟩
structure Cov (outer:List Env) (H':Hp) (h B:Heap):Prop where
  tr:∀ b o,H' b=some o→∃ u,B.get? b=some u
  old:∀ b o,h.get? b=some o→b∉frs outer→∃ u,B.get? b=some u
structure FlyX (P:Program) (w:World) (outer:List Env) (H:Hp) (s:Shared) (C:Value) (dx:Option Addr) (H':Hp) (e:Value) (s':Shared):Prop where
  os:s'.os=s.os
  bare:AllBare s'.gens
  un:Un (frs outer) [] H H' s.heap s'.heap
  hok:HOk P w H' s'.heap
  fly:∃ a B,e = .ref a∧Fly B outer a C dx s'.heap∧Cov outer H' s.heap B
noncomputable def CXq (P:Program) (w:World):CXT:=fun outer H s E e s'=>∃ C dx H',FlyX P w outer H s C dx H' e s'∧E C dx H'
section
variable {P:Program} {w:World} {outer:List Env} {H H':Hp} {h0 h h' B base:Heap}
theorem zqn (u:Un (frs outer) [] H H' h0 h) (c:Cov outer H' h0 B) (st:B.StaysIn h) (st':B.StaysIn h') (sm:h.UpToSlots h') (ff:h0.FunFrames base outer) (frf:∀ b∈frs outer,H b=none):Un (frs outer) [] H H' h0 h' where
  keep:=fun b o q n hb hx=>by
    obtain ⟨v,hv⟩:=c.old b o q hb
    have e1:=u.keep b o q n hb hx
    have e2:=st b v hv
    rw [e1] at e2
    cases e2
    exact st' b o hv
  slot:=fun b o q n hb hx=>by
    obtain ⟨sl,e1⟩:=u.slot b o q n hb hx
    obtain ⟨_,o',ho',hd⟩:=ff.mem hb
    rw [q] at ho'
    cases ho'
    obtain ⟨sl',e2⟩:=sm b _ e1 hd
    exact ⟨sl',e2⟩
  free:=u.free
  there:=fun b o q hx=>by
    by_cases hb:b∈frs outer
    · obtain ⟨sl,e1⟩:=u.slot b o q (frf b hb) hb hx
      obtain ⟨_,o',ho',hd⟩:=ff.mem hb
      rw [q] at ho'
      cases ho'
      obtain ⟨sl',e2⟩:=sm b _ e1 hd
      exact ⟨_,e2⟩
    · obtain ⟨v,hv⟩:=c.old b o q hb
      exact ⟨v,st' b v hv⟩
  tups:=u.tups
  frzs:=u.frzs
  tbls:=u.tbls
theorem z3k (x:HOk P w H' h) (c:Cov outer H' h0 B) (st:B.StaysIn h) (st':B.StaysIn h'):HOk P w H' h':=fun a o e=>by
  refine (x a o e).stay (fun b u hb q=>?_) (fun _ q=>q) fun _ _ q=>q
  have hb:∃ o',H' b=some o':=by
    rcases hb with rfl | hb
    · exact ⟨_,e⟩
    · exact ⟨_,hb⟩
  obtain ⟨o',hb⟩:=hb
  obtain ⟨v,hv⟩:=c.tr b o' hb
  have e2:=st b v hv
  rw [q] at e2
  cases e2
  exact st' b u hv
end
section
variable {X:Cx} {pins:List (Addr×Obj)} {σ:St} {H H':Hp} {s s':Shared} {C:Value} {a:Addr} {dx:Option Addr}
theorem Inv.fly {B h':Heap} (I:Inv X pins σ H s) (F:FlyX X.prog X.w X.stack H s C dx H' (.ref a) s') (c:Cov X.stack H' s.heap B) (st:B.StaysIn s'.heap) (st':B.StaysIn h') (sm:s'.heap.UpToSlots h') {t':Nat} {d':Drawn} :
    Inv X pins σ H' { s' with heap:=h',toks:=t',drawn:=d' } :=
  I.call' F.os (zqn F.un c st st' sm I.stack I.stkFree) (z3k F.hok c st st') F.bare fun b z=>absurd z (by simp)
end
def z7l (X:Cx) (C:Value) (dx:Option Addr) (H':Hp):Prop:=∀ pins σ H s e s',Inv X pins σ H s→FlyX X.prog X.w X.stack H s C dx H' e s'→X.xe e s'
section
variable {P:Program} {w:World} {K:W.Frag} {mg:Str→Option Value} {base:Heap} {N:List Str} {qual:Str} {scope:Scope} {f:Addr} {cd:Value} {A:Around} {outer:List Env} {s:Shared} {H H':Hp} {E:XK} {C:Value} {dx:Option Addr}
theorem z8t {X:Cx} {pins:List (Addr×Obj)} {σ:St} {H1:Hp} {s1:Shared} {B:Heap} (I:Inv X pins σ H1 s1) (hs:X.stack=X.env :: X.outer) (hf:X.env.frame=some X.env.locals) (hex:X.ex = []) (c:Cov X.stack H' s1.heap B):Cov X.outer H' X.s₀.heap B where
  tr:=c.tr
  old:=fun b o q hb=>by
    obtain ⟨o1,e1⟩:=I.base.there b o q (by rw [hex];simp)
    refine c.old b o1 e1 ?_
    rw [hs]
    unfold frs
    rw [filterMap_cons,hf]
    intro hm
    rcases List.mem_cons.mp hm with rfl | hm
    · exact absurd (Nat.lt_of_lt_of_le (Heap.lt_size q) I.ok.above) (Nat.lt_irrefl _)
    · exact hb hm
theorem z5o (hE:E C dx H'):z7l (zbq (CXq P w) P w K mg base N qual scope f cd A outer s H E) C dx H':=by
  intro pins σ H1 s1 e s' I F
  have hf:(envOfC qual scope s.heap.objs.size f cd).frame=some (envOfC qual scope s.heap.objs.size f cd).locals:=rfl
  obtain ⟨a,B,rfl,fl,c⟩:=F.fly
  refine zpr I.ok.frames hf fl fun h'' fl' sm=>?_
  have J:Inv (zbq (CXq P w) P w K mg base N qual scope f cd A outer s H E) pins σ H' { s' with heap:=h'' }:=I.fly F c fl.st fl'.st sm
  exact ⟨C,dx,H',⟨J.os,J.bare,J.base,J.hok,a,B,rfl,fl',z8t (X:=zbq (CXq P w) P w K mg base N qual scope f cd A outer s H E) I rfl rfl rfl c⟩,hE⟩
end
end L2
namespace M
open PySem PySem.Spec PyProof.Rows L2
inductive D where
  | non | bl (b:Bool) | int (i:Int) | str (x:Str) | ty (n:String)
    | tup (ds:List D)
    | fz (ds:List D)
    | loc (n:Nat)
    | own (c:Str)
inductive LObj where
  | lst (ds:List D)
    | dct (kvs:List (Int×D))
    | dcf (kvs:List (Int×D))
    | exc (c:Str) (fs:List (Str×D))
noncomputable abbrev Mem:=List LObj
def zUm (a C:Addr) (dx:Option Addr):Heap→Prop:=fun h=>∃ o vs,h.get? a=some o∧o.cls = .ref C∧o.dict=dx∧o.data = .fields vs
noncomputable abbrev Loc:=List (Option D)
section
variable (K:W.Frag)
noncomputable def FzL (H:Hp) (a:Addr) (vs:List V):Prop :=
  (∃ o,H a=some (.frz o (.lst vs)))∨∃ (o:Obj) (its:Array Value) (n:Nat),K.lookup a=some o∧o.cls = .type "list"∧o.dict=none∧o.data = .seq its n∧its.size≤sizeLine∧Vals vs its.toList
mutual
def RepV (ρ:List Addr) (H:Hp):D→V→Prop
  | .non,v=>v = .non
  | .bl b,v=>v = .bl b
  | .int i,v=>v = .int i
  | .str x,v=>v = .str x
  | .ty n,v=>v = .ty n
  | .tup ds,v=>∃ a vs,v = .ref a∧H a=some (.tup vs)∧RepVs ρ H ds vs
  | .fz ds,v=>∃ a vs,v = .ref a∧FzL K H a vs∧RepVs ρ H ds vs
  | .loc n,v=>∃ a,v = .ref a∧ρ[n]?=some a
  | .own c,v=>∃ a,v = .ref a∧W.nsIn K mainGlobals c=some (some (.ref a))
def RepVs (ρ:List Addr) (H:Hp):List D→List V→Prop
  | [],vs=>vs = []
  | d :: ds,vs=>∃ v r,vs=v :: r∧RepV ρ H d v∧RepVs ρ H ds r
end
def RepX (ρ:List Addr) (H:Hp) (fs:List (Str×D)) (dx:Option Addr):Prop:=(fs = []∧dx=none)∨∃ p vs,dx=some p∧H p=some (.xd vs)∧vs.map (·.1)=fs.map (·.1)∧RepVs K ρ H (fs.map (·.2)) (vs.map (·.2))
def RepO (ρ:List Addr) (H:Hp) (a:Addr):LObj→Prop
  | .lst ds=>∃ vs,H a=some (.lst vs)∧RepVs K ρ H ds vs
  | .dct kvs=>∃ vs,H a=some (.dK vs)∧vs.map (·.1)=kvs.map (fun p=>Sum.inl p.1)∧RepVs K ρ H (kvs.map (·.2)) (vs.map (·.2))
  | .dcf kvs=>∃ o vs,H a=some (.frz o (.dK vs))∧vs.map (·.1)=kvs.map (fun p=>Sum.inl p.1)∧RepVs K ρ H (kvs.map (·.2)) (vs.map (·.2))
  | .exc c fs=>∃ C dx,W.nsIn K mainGlobals c=some (some (.ref C))∧H a=some (.ext (zUm a C dx))∧RepX K ρ H fs dx
structure RepH (ρ:List Addr) (H:Hp) (μ:Mem):Prop where
  nd:ρ.Nodup
  len:ρ.length = μ.length
  at_:∀ (n:Nat) a o,ρ[n]?=some a→μ[n]?=some o→RepO K ρ H a o
structure Ext (ρ:List Addr) (H:Hp) (ρ':List Addr) (H':Hp):Prop where
  pre:∃ more,ρ' = ρ ++ more
  tup:∀ a vs,H a=some (.tup vs)→H' a=some (.tup vs)
  frz:∀ a o u,H a=some (.frz o u)→H' a=some (.frz o u)
  xd:∀ a fs,H a=some (.xd fs)→H' a=some (.xd fs)
def RepSt (ρ:List Addr) (H:Hp) (σ:L2.St) (δ:Loc):Prop:=∀ (i:Nat) d,δ[i]?=some (some d)→∃ v,σ[i]?=some (some v)∧RepV K ρ H d v
end
section
variable {K:W.Frag} {ρ ρ' ρ'':List Addr} {H H' H'':Hp} {μ:Mem} {σ:L2.St} {δ:Loc}
theorem Ext.refl:Ext ρ H ρ H:=⟨⟨[],by simp⟩,fun _ _ h=>h,fun _ _ _ h=>h,fun _ _ h=>h⟩
theorem Ext.trans (a:Ext ρ H ρ' H') (b:Ext ρ' H' ρ'' H''):Ext ρ H ρ'' H'':=by
  obtain ⟨m,e⟩:=a.pre
  obtain ⟨m',e'⟩:=b.pre
  exact ⟨⟨m++m',by rw [e',e,append_assoc]⟩,fun _ _ h=>b.tup _ _ (a.tup _ _ h),fun _ _ _ h=>b.frz _ _ _ (a.frz _ _ _ h),fun _ _ h=>b.xd _ _ (a.xd _ _ h)⟩
theorem Ext.get (e:Ext ρ H ρ' H') {n:Nat} {a:Addr} (h:ρ[n]?=some a):ρ'[n]?=some a:=by
  obtain ⟨m,e⟩:=e.pre
  rw [e,List.getElem?_append_left (List.getElem?_eq_some_iff.mp h).1]
  exact h
theorem Ext.fz (e:Ext ρ H ρ' H') {a:Addr} {vs:List V} (h:FzL K H a vs):FzL K H' a vs:=by
  rcases h with ⟨o,h⟩ | h
  · exact .inl ⟨o,e.frz _ _ _ h⟩
  · exact .inr h
mutual
theorem RepV.ext (e:Ext ρ H ρ' H'):∀ {d:D} {v:V},RepV K ρ H d v→RepV K ρ' H' d v
  | .non,_,h=>by unfold RepV at h ⊢;exact h
  | .bl _,_,h=>by unfold RepV at h ⊢;exact h
  | .int _,_,h=>by unfold RepV at h ⊢;exact h
  | .str _,_,h=>by unfold RepV at h ⊢;exact h
  | .ty _,_,h=>by unfold RepV at h ⊢;exact h
  | .tup ds,_,h=>by
    unfold RepV at h ⊢
    obtain ⟨a,vs,e1,e2,r⟩:=h
    exact ⟨a,vs,e1,e.tup _ _ e2,RepVs.ext e r⟩
  | .fz ds,_,h=>by
    unfold RepV at h ⊢
    obtain ⟨a,vs,e1,e2,r⟩:=h
    exact ⟨a,vs,e1,e.fz e2,RepVs.ext e r⟩
  | .loc n,_,h=>by
    unfold RepV at h ⊢
    obtain ⟨a,e1,e2⟩:=h
    exact ⟨a,e1,e.get e2⟩
  | .own c,_,h=>by unfold RepV at h ⊢;exact h
theorem RepVs.ext (e:Ext ρ H ρ' H'):∀ {ds:List D} {vs:List V},RepVs K ρ H ds vs→RepVs K ρ' H' ds vs
  | [],_,h=>by unfold RepVs at h ⊢;exact h
  | d :: ds,_,h=>by
    unfold RepVs at h ⊢
    obtain ⟨v,r,e1,h1,h2⟩:=h
    exact ⟨v,r,e1,RepV.ext e h1,RepVs.ext e h2⟩
end
theorem RepSt.ext (e:Ext ρ H ρ' H') (h:RepSt K ρ H σ δ):RepSt K ρ' H' σ δ:=fun i d q =>
  let ⟨v,e1,r⟩:=h i d q
  ⟨v,e1,r.ext e⟩
theorem RepVs.length:∀ {ds:List D} {vs:List V},RepVs K ρ H ds vs→ds.length=vs.length
  | [],_,h=>by unfold RepVs at h;subst h;rfl
  | d :: ds,_,h=>by
    unfold RepVs at h
    obtain ⟨v,r,e1,_,h2⟩:=h
    subst e1
    have:=RepVs.length h2
    simp [this]
theorem RepVs.get:∀ {ds:List D} {vs:List V} {i:Nat} {d:D},RepVs K ρ H ds vs→ds[i]?=some d→∃ v,vs[i]?=some v∧RepV K ρ H d v
  | [],_,_,_,_,q=>by simp at q
  | d :: ds,_,0,d',h,q=>by
    unfold RepVs at h
    obtain ⟨v,r,e1,h1,_⟩:=h
    subst e1
    simp at q
    subst q
    exact ⟨v,by simp,h1⟩
  | d :: ds,_,i+1,d',h,q=>by
    unfold RepVs at h
    obtain ⟨v,r,e1,_,h2⟩:=h
    subst e1
    obtain ⟨w,e2,h3⟩:=RepVs.get (i:=i) h2 (by simpa using q)
    exact ⟨w,by simpa using e2,h3⟩
theorem RepVs.cons {d:D} {v:V} {ds:List D} {vs:List V} (h1:RepV K ρ H d v) (h2:RepVs K ρ H ds vs):RepVs K ρ H (d :: ds) (v :: vs):=by
  unfold RepVs
  exact ⟨v,vs,rfl,h1,h2⟩
theorem RepVs.nil:RepVs K ρ H [] []:=by unfold RepVs;rfl
theorem RepVs.cons_inv {d:D} {ds:List D} {vs:List V} (h:RepVs K ρ H (d :: ds) vs):∃ v r,vs=v :: r∧RepV K ρ H d v∧RepVs K ρ H ds r:=by
  unfold RepVs at h
  exact h
theorem RepVs.nil_inv {vs:List V} (h:RepVs K ρ H [] vs):vs = []:=by unfold RepVs at h;exact h
theorem RepVs.append:∀ {ds es:List D} {vs us:List V},RepVs K ρ H ds vs→RepVs K ρ H es us→RepVs K ρ H (ds++es) (vs++us)
  | [],_,_,_,h,q=>by rw [h.nil_inv];exact q
  | d :: ds,_,_,_,h,q=>by
    obtain ⟨v,r,rfl,h1,h2⟩:=h.cons_inv
    exact .cons h1 (RepVs.append h2 q)
theorem RepVs.take:∀ {ds:List D} {vs:List V} (n:Nat),RepVs K ρ H ds vs→RepVs K ρ H (ds.take n) (vs.take n)
  | [],_,n,h=>by rw [h.nil_inv];simp [RepVs.nil]
  | d :: ds,_,0,h=>by simp [RepVs.nil]
  | d :: ds,_,n+1,h=>by
    obtain ⟨v,r,rfl,h1,h2⟩:=h.cons_inv
    simpa using RepVs.cons h1 (RepVs.take n h2)
theorem RepVs.drop:∀ {ds:List D} {vs:List V} (n:Nat),RepVs K ρ H ds vs→RepVs K ρ H (ds.drop n) (vs.drop n)
  | [],_,n,h=>by rw [h.nil_inv];simp [RepVs.nil]
  | d :: ds,_,0,h=>by simpa using h
  | d :: ds,_,n+1,h=>by
    obtain ⟨v,r,rfl,h1,h2⟩:=h.cons_inv
    simpa using RepVs.drop n h2
theorem RepVs.set:∀ {ds:List D} {vs:List V} {d:D} {v:V} (n:Nat),RepV K ρ H d v→RepVs K ρ H ds vs→RepVs K ρ H (ds.set n d) (vs.set n v)
  | [],_,_,_,n,_,h=>by rw [h.nil_inv];simp [RepVs.nil]
  | d :: ds,_,_,_,0,q,h=>by
    obtain ⟨v,r,rfl,h1,h2⟩:=h.cons_inv
    simpa using RepVs.cons q h2
  | d :: ds,_,_,_,n+1,q,h=>by
    obtain ⟨v,r,rfl,h1,h2⟩:=h.cons_inv
    simpa using RepVs.cons h1 (RepVs.set n q h2)
theorem RepV.int_inv {i:Int} {v:V} (h:RepV K ρ H (.int i) v):v = .int i:=by unfold RepV at h;exact h
theorem RepV.bl_inv {i:Bool} {v:V} (h:RepV K ρ H (.bl i) v):v = .bl i:=by unfold RepV at h;exact h
theorem RepV.non_inv {v:V} (h:RepV K ρ H .non v):v = .non:=by unfold RepV at h;exact h
theorem RepV.str_inv {x:Str} {v:V} (h:RepV K ρ H (.str x) v):v = .str x:=by unfold RepV at h;exact h
theorem RepV.ty_inv {x:String} {v:V} (h:RepV K ρ H (.ty x) v):v = .ty x:=by unfold RepV at h;exact h
theorem RepV.tup_inv {ds:List D} {v:V} (h:RepV K ρ H (.tup ds) v):∃ a vs,v = .ref a∧H a=some (.tup vs)∧RepVs K ρ H ds vs:=by unfold RepV at h;exact h
theorem RepV.fz_inv {ds:List D} {v:V} (h:RepV K ρ H (.fz ds) v):∃ a vs,v = .ref a∧FzL K H a vs∧RepVs K ρ H ds vs:=by unfold RepV at h;exact h
theorem RepV.loc_inv {n:Nat} {v:V} (h:RepV K ρ H (.loc n) v):∃ a,v = .ref a∧ρ[n]?=some a:=by unfold RepV at h;exact h
theorem RepV.own_inv {c:Str} {v:V} (h:RepV K ρ H (.own c) v):∃ a,v = .ref a∧W.nsIn K mainGlobals c=some (some (.ref a)):=by unfold RepV at h;exact h
theorem RepV.own {c:Str} {a:Addr} (h:W.nsIn K mainGlobals c=some (some (.ref a))):RepV K ρ H (.own c) (.ref a):=by unfold RepV;exact ⟨a,rfl,h⟩
theorem RepV.int {i:Int}:RepV K ρ H (.int i) (.int i):=by unfold RepV;rfl
theorem RepV.bl {i:Bool}:RepV K ρ H (.bl i) (.bl i):=by unfold RepV;rfl
theorem RepV.non:RepV K ρ H .non .non:=by unfold RepV;rfl
theorem RepV.str {x:Str}:RepV K ρ H (.str x) (.str x):=by unfold RepV;rfl
theorem RepV.ty {x:String}:RepV K ρ H (.ty x) (.ty x):=by unfold RepV;rfl
theorem RepV.tup {ds:List D} {a:Addr} {vs:List V} (e:H a=some (.tup vs)) (h:RepVs K ρ H ds vs):RepV K ρ H (.tup ds) (.ref a):=by unfold RepV;exact ⟨a,vs,rfl,e,h⟩
theorem RepV.fz {ds:List D} {a:Addr} {vs:List V} (e:FzL K H a vs) (h:RepVs K ρ H ds vs):RepV K ρ H (.fz ds) (.ref a):=by unfold RepV;exact ⟨a,vs,rfl,e,h⟩
theorem RepV.loc {n:Nat} {a:Addr} (e:ρ[n]?=some a):RepV K ρ H (.loc n) (.ref a):=by unfold RepV;exact ⟨a,rfl,e⟩
theorem FzL.sq {a:Addr} {vs:List V} (h:FzL K H a vs):SqL K H a vs:=by
  rcases h with h | h
  · exact .inl (.inr h)
  · exact .inr h
theorem RepO.some {a:Addr} {o:LObj} (h:RepO K ρ H a o):∃ u,H a=some u:=by
  cases o with
  | lst ds=>obtain ⟨vs,e,_⟩:=h;exact ⟨_,e⟩
  | dct kvs=>obtain ⟨vs,e,_⟩:=h;exact ⟨_,e⟩
  | dcf kvs=>obtain ⟨o,vs,e,_⟩:=h;exact ⟨_,e⟩
  | exc c fs=>obtain ⟨C,dx,_,e,_⟩:=h;exact ⟨_,e⟩
theorem RepH.mem_some (R:RepH K ρ H μ) {a:Addr} (h:a∈ρ):∃ u,H a=some u:=by
  obtain ⟨n,h1,e⟩:=List.mem_iff_getElem.mp h
  have h2:n < μ.length:=by rw [← R.len];exact h1
  exact (R.at_ n a μ[n] (by rw [List.getElem?_eq_getElem h1,e]) (by simp [h2])).some
theorem RepX.ext {fs:List (Str×D)} {dx:Option Addr} (e:Ext ρ H ρ' H') (h:RepX K ρ H fs dx):RepX K ρ' H' fs dx:=by
  rcases h with h | ⟨p,vs,e1,e2,e3,r⟩
  · exact .inl h
  · exact .inr ⟨p,vs,e1,e.xd _ _ e2,e3,r.ext e⟩
theorem RepO.ext {a:Addr} {o:LObj} (e:Ext ρ H ρ' H') (h:RepO K ρ H a o) (s:H' a=H a):RepO K ρ' H' a o:=by
  cases o with
  | lst ds=>obtain ⟨vs,q,r⟩:=h;exact ⟨vs,s.trans q,r.ext e⟩
  | dct kvs=>obtain ⟨vs,q,q2,r⟩:=h;exact ⟨vs,s.trans q,q2,r.ext e⟩
  | dcf kvs=>obtain ⟨o,vs,q,q2,r⟩:=h;exact ⟨o,vs,s.trans q,q2,r.ext e⟩
  | exc c fs=>obtain ⟨C,dx,n,q,r⟩:=h;exact ⟨C,dx,n,s.trans q,r.ext e⟩
theorem Ext.new {p:Addr} {o:HO} (hp:H p=none):Ext ρ H ρ (upd H p o) :=
  ⟨⟨[],by simp⟩,fun a vs e=>by rw [zw (zq e hp)];exact e,fun a o u e=>by rw [zw (zq e hp)];exact e,fun a fs e=>by rw [zw (zq e hp)];exact e⟩
theorem RepH.other (R:RepH K ρ H μ) (e:Ext ρ H ρ H') (s:∀ a∈ρ,H' a=H a):RepH K ρ H' μ :=
  ⟨R.nd,R.len,fun n a o h1 h2=>(R.at_ n a o h1 h2).ext e (s a (mem_of_getElem? h1))⟩
theorem RepH.newTup (R:RepH K ρ H μ) {p:Addr} {o:HO} (hp:H p=none):RepH K ρ (upd H p o) μ :=
  R.other (Ext.new hp) fun a ha=>by
    obtain ⟨u,e⟩:=R.mem_some ha
    exact zw (zq e hp)
theorem Ext.push {p:Addr} {o:HO} (hp:H p=none):Ext ρ H (ρ ++ [p]) (upd H p o) :=
  ⟨⟨[p],rfl⟩,(Ext.new (ρ:=ρ) hp).tup,(Ext.new (ρ:=ρ) hp).frz,(Ext.new (ρ:=ρ) hp).xd⟩
theorem RepH.push (R:RepH K ρ H μ) {p:Addr} {o:HO} {lo:LObj} (hp:H p=none) (h:RepO K (ρ ++ [p]) (upd H p o) p lo):RepH K (ρ ++ [p]) (upd H p o) (μ ++ [lo]):=by
  refine ⟨?_,by simp [R.len],fun n a u h1 h2=>?_⟩
  · rw [nodup_append]
    refine ⟨R.nd,by simp,fun a ha b hb=>?_⟩
    simp at hb
    subst hb
    obtain ⟨u,e⟩:=R.mem_some ha
    exact zq e hp
  · by_cases hn:n < ρ.length
    · rw [List.getElem?_append_left hn] at h1
      rw [List.getElem?_append_left (by rw [← R.len];exact hn)] at h2
      have q:=R.at_ n a u h1 h2
      obtain ⟨z,e⟩:=q.some
      exact q.ext (Ext.push hp) (zw (zq e hp))
    · have hl:n<(ρ ++ [p]).length:=(List.getElem?_eq_some_iff.mp h1).1
      have e:n = ρ.length:=by simp at hl;omega
      subst e
      rw [List.getElem?_append_right (Nat.le_refl _)] at h1
      rw [R.len,List.getElem?_append_right (Nat.le_refl _)] at h2
      simp at h1 h2
      subst h1 h2
      exact h
theorem zvb {p:Addr} (R:RepH K ρ H μ):(ρ ++ [p])[μ.length]?=some p:=by
  rw [← R.len];simp
theorem Ext.wr {p:Addr} {o:HO} (hm:Mut (H p)):Ext ρ H ρ (upd H p o) :=
  ⟨⟨[],by simp⟩,fun a vs e=>by rw [zw (by rintro rfl;rw [e] at hm;exact hm)];exact e,fun a o u e=>by rw [zw (by rintro rfl;rw [e] at hm;exact hm)];exact e,fun a fs e=>by rw [zw (by rintro rfl;rw [e] at hm;exact hm)];exact e⟩
theorem RepH.wr (R:RepH K ρ H μ) {n:Nat} {p:Addr} {o:HO} {lo:LObj} (hm:Mut (H p)) (hn:ρ[n]?=some p) (h:RepO K ρ (upd H p o) p lo):RepH K ρ (upd H p o) (μ.set n lo):=by
  have hlt:=(List.getElem?_eq_some_iff.mp hn).1
  refine ⟨R.nd,by simp [R.len],fun m a u h1 h2=>?_⟩
  by_cases hmn:m=n
  · subst hmn
    rw [hn] at h1
    cases h1
    rw [List.getElem?_set_self (by rw [← R.len];exact hlt)] at h2
    cases h2
    exact h
  · rw [List.getElem?_set_ne (Ne.symm hmn)] at h2
    have hap:a≠p:=by
      rintro rfl
      obtain ⟨x1,y1⟩:=List.getElem?_eq_some_iff.mp h1
      obtain ⟨x2,y2⟩:=List.getElem?_eq_some_iff.mp hn
      exact hmn ((List.getElem_inj R.nd).mp (y1.trans y2.symm))
    exact (R.at_ m a u h1 h2).ext (Ext.wr hm) (zw hap)
end
noncomputable abbrev FE:=Loc→Mem→Option (D×Mem)
noncomputable abbrev FT:=Loc→Mem→Option (Bool×Mem)
noncomputable abbrev FA:=Loc→Mem→Option (List D×Mem)
inductive Out where
  | next (δ:Loc) (μ:Mem) | ret (d:D) (μ:Mem) | brk (δ:Loc) (μ:Mem) | cont (δ:Loc) (μ:Mem)
    | exc (c:Str) (fs:List (Str×D)) (μ:Mem)
noncomputable abbrev FS:=Loc→Mem→Option Out
section
variable (K:W.Frag)
structure At (ρ:List Addr) (H:Hp) (σ:L2.St) (δ:Loc) (μ:Mem):Prop where
  st:RepSt K ρ H σ δ
  hp:RepH K ρ H μ
  len:σ.length = δ.length
noncomputable def tM (φ:FE):TE:=fun σ H Q=>∃ ρ δ μ d μ',At K ρ H σ δ μ∧φ δ μ = some (d,μ')∧∀ ρ' H' v,Ext ρ H ρ' H'→RepH K ρ' H' μ'→RepV K ρ' H' d v→Q v H'
noncomputable def tMT (φ:FT):TT:=fun σ H Q=>∃ ρ δ μ b μ',At K ρ H σ δ μ∧φ δ μ = some (b,μ')∧∀ ρ' H',Ext ρ H ρ' H'→RepH K ρ' H' μ'→Q b H'
noncomputable def tMA (φ:FA):TA:=fun σ H Q=>∃ ρ δ μ ds μ',At K ρ H σ δ μ∧φ δ μ = some (ds,μ')∧∀ ρ' H' vs,Ext ρ H ρ' H'→RepH K ρ' H' μ'→RepVs K ρ' H' ds vs→Q vs H'
def OutOk (W:XK) (ρ:List Addr) (H:Hp) (E:Ends):Out→Prop
  | .next δ' μ'=>∀ ρ' σ' H',Ext ρ H ρ' H'→At K ρ' H' σ' δ' μ'→E.nx σ' H'
  | .brk δ' μ'=>∀ ρ' σ' H',Ext ρ H ρ' H'→At K ρ' H' σ' δ' μ'→E.bk σ' H'
  | .cont δ' μ'=>∀ ρ' σ' H',Ext ρ H ρ' H'→At K ρ' H' σ' δ' μ'→E.ct σ' H'
  | .ret d μ'=>∀ ρ' v H',Ext ρ H ρ' H'→RepH K ρ' H' μ'→RepV K ρ' H' d v→E.rt v H'
  | .exc c fs μ'=>∀ ρ' H' C dx,PySem.W.nsIn K mainGlobals c=some (some (.ref C))→Ext ρ H ρ' H'→RepH K ρ' H' μ'→RepX K ρ' H' fs dx→W (.ref C) dx H'
noncomputable def tMS (W:XK) (ψ:FS):TS:=fun E σ H=>∃ ρ δ μ o,At K ρ H σ δ μ∧ψ δ μ = some o∧OutOk K W ρ H E o
end
def ME (X:Cx) (e:Expr) (φ:FE):Prop:=PE X e (tM X.K φ)
def MT (X:Cx) (e:Expr) (φ:FT):Prop:=PT X e (tMT X.K φ)
def MW (X:Cx) (e:Expr) (φ:FT):Prop:=PW X e (tMT X.K φ)
def MA (X:Cx) (es:List Expr) (φ:FA):Prop:=PA X es (tMA X.K φ)
def MS (X:Cx) (st:Stmt) (ψ:FS):Prop:=PS X st (tMS X.K (z7l X) ψ)
def MSs (X:Cx) (st:List Stmt) (ψ:FS):Prop:=PSs X st (tMS X.K (z7l X) ψ)
noncomputable abbrev FF:=List D→Mem→Option (D×Mem)
noncomputable def spM (K:W.Frag) (n:Nat) (F:FF):Sp:=fun vs H Q _=>vs.length=n∧∃ ρ ds μ d μ',RepVs K ρ H ds vs∧RepH K ρ H μ∧F ds μ = some (d,μ')∧∀ ρ' H' v,Ext ρ H ρ' H'→RepH K ρ' H' μ'→RepV K ρ' H' d v→Q v H'
theorem At.ext {K:W.Frag} {ρ ρ':List Addr} {H H':Hp} {σ:L2.St} {δ:Loc} {μ μ':Mem} (a:At K ρ H σ δ μ) (e:Ext ρ H ρ' H') (R:RepH K ρ' H' μ'):At K ρ' H' σ δ μ':=⟨a.st.ext e,R,a.len⟩
theorem zcd {X:Cx} {e:Expr} {t:TE} {φ:FE} (h:PE X e t) (w:∀ ρ δ μ σ H d μ' Q,At X.K ρ H σ δ μ→φ δ μ = some (d,μ')→(∀ ρ' H' v,Ext ρ H ρ' H'→RepH X.K ρ' H' μ'→RepV X.K ρ' H' d v→Q v H')→t σ H Q):ME X e φ :=
  by intro pins s σ H Q I hh;obtain ⟨ρ,δ,μ,d,μ',a,e,k⟩:=hh;exact h pins s σ H Q I (w ρ δ μ σ H d μ' Q a e k)
theorem zyt {X:Cx} {e:Expr} {t:TT} {φ:FT} (h:PT X e t) (w:∀ ρ δ μ σ H b μ' Q,At X.K ρ H σ δ μ→φ δ μ = some (b,μ')→(∀ ρ' H',Ext ρ H ρ' H'→RepH X.K ρ' H' μ'→Q b H')→t σ H Q):MT X e φ :=
  by intro pins s σ H Q I hh;obtain ⟨ρ,δ,μ,d,μ',a,e,k⟩:=hh;exact h pins s σ H Q I (w ρ δ μ σ H d μ' Q a e k)
theorem z1u {X:Cx} {e:Expr} {t:TT} {φ:FT} (h:PW X e t) (w:∀ ρ δ μ σ H b μ' Q,At X.K ρ H σ δ μ→φ δ μ = some (b,μ')→(∀ ρ' H',Ext ρ H ρ' H'→RepH X.K ρ' H' μ'→Q b H')→t σ H Q):MW X e φ :=
  fun wh pins s σ H Q I ⟨ρ,δ,μ,d,μ',a,e,k⟩=>h wh pins s σ H Q I (w ρ δ μ σ H d μ' Q a e k)
theorem zuw {X:Cx} {e:List Expr} {t:TA} {φ:FA} (h:PA X e t) (w:∀ ρ δ μ σ H ds μ' Q,At X.K ρ H σ δ μ→φ δ μ = some (ds,μ')→(∀ ρ' H' vs,Ext ρ H ρ' H'→RepH X.K ρ' H' μ'→RepVs X.K ρ' H' ds vs→Q vs H')→t σ H Q):MA X e φ :=
  fun pos pins s σ H Q I ⟨ρ,δ,μ,d,μ',a,e,k⟩=>h pos pins s σ H Q I (w ρ δ μ σ H d μ' Q a e k)
theorem zik {X:Cx} {e:Stmt} {t:TS} {ψ:FS} (h:PS X e t) (w:∀ ρ δ μ σ H o E,At X.K ρ H σ δ μ→ψ δ μ = some o→OutOk X.K (z7l X) ρ H E o→t E σ H):MS X e ψ :=
  by intro pins s σ H E I hh;obtain ⟨ρ,δ,μ,o,a,e,k⟩:=hh;exact h pins s σ H E I (w ρ δ μ σ H o E a e k)
theorem zXs {X:Cx} {e:List Stmt} {t:TS} {ψ:FS} (h:PSs X e t) (w:∀ ρ δ μ σ H o E,At X.K ρ H σ δ μ→ψ δ μ = some o→OutOk X.K (z7l X) ρ H E o→t E σ H):MSs X e ψ :=
  by intro pins s σ H E I hh;obtain ⟨ρ,δ,μ,o,a,e,k⟩:=hh;exact h pins s σ H E I (w ρ δ μ σ H o E a e k)
end M
namespace M
open PySem PySem.Spec PyProof.Rows L2
theorem zf {α β:Type} {o:Option α} {f:α→Option β} {b:β} (h:o.bind f=some b):∃ a,o=some a∧f a=some b:=by
  cases o with
  | none=>cases h
  | some a=>exact ⟨a,rfl,h⟩
section
variable {X:Cx} {a b c e:Expr} {es:List Expr} {φ ψ χ:FE} {pos:Pos}
@[simp] noncomputable def zi (i:Nat):FE:=fun δ μ=>match δ[i]? with
  | some (some d)=>some (d,μ)
  | _=>none
@[simp] noncomputable def fC (d:D):FE:=fun _ μ=>some (d,μ)
theorem zQu {i:Nat} {x:Str} (h:PE X (.Name x pos) (zlx i)):ME X (.Name x pos) (zi i) :=
  zcd h fun ρ δ μ σ H d μ' Q A e k=>by
    unfold zi at e
    split at e
    · rename_i d' hd
      cases e
      obtain ⟨v,hv,r⟩:=A.st i _ hd
      exact ⟨v,hv,k ρ H v Ext.refl A.hp r⟩
    · cases e
theorem zPu {v:V} {d:D} (h:PE X e (tC v)) (r:∀ ρ H,RepV X.K ρ H d v):ME X e (fC d) :=
  zcd h fun ρ δ μ σ H d' μ' Q A e k=>by
    cases e
    exact k ρ H v Ext.refl A.hp (r ρ H)
theorem zl {i j}:ME X (.Constant (.int i) j pos) (fC (.int i)):=zPu z7v fun _ _ => .int
theorem zDf {i j}:ME X (.Constant (.bool i) j pos) (fC (.bl i)):=zPu z2w fun _ _ => .bl
theorem zZc {j}:ME X (.Constant .none j pos) (fC .non):=zPu zgw fun _ _ => .non
theorem zAf {x j}:ME X (.Constant (.str x) j pos) (fC (.str x)):=zPu zUv fun _ _ => .str
theorem mv (i:Nat) {x:Str} (hN:X.N[i]?=some x:=by rfl) (hv:Vis X.env.scope x:=by first | exact Or.inl rfl | exact Or.inr (Or.inl rfl) | exact Or.inr (Or.inr rfl)) (hd:(x == ("__debug__":Str))=false:=by decide)
    (hcd:(x == ("__classdict__":Str))=false:=by decide):ME X (.Name x pos) (zi i):=zQu (zRs hN hv hd hcd)
theorem zom {x:Str} {T:String} (hm:X.mg x=none) (hb:bootBuiltins x=some (.type T)) (hg:Gl X x:=by rfl) (hn:x≠"__name__":=by decide) (hd:(x == ("__debug__":Str))=false:=by decide):ME X (.Name x pos) (fC (.ty T)) :=
  zPu (zNt (v:=V.ty T) hg hm hb (show L2.RelV (V.ty T) (Value.type T) from rfl) hn hd) fun _ _ => .ty
noncomputable abbrev G2:=D→D→Mem→Option (D×Mem)
noncomputable def rM (K:W.Frag) (g:G2):R2:=fun x y H Q=>∃ ρ dx dy μ d μ',RepV K ρ H dx x∧RepV K ρ H dy y∧RepH K ρ H μ∧g dx dy μ = some (d,μ')∧∀ ρ' H' v,Ext ρ H ρ' H'→RepH K ρ' H' μ'→RepV K ρ' H' d v→Q v H'
def OpM (X:Cx) (f:Value→Value→Sem Value) (g:G2):Prop:=OpR X f (rM X.K g)
theorem OpM.of {X:Cx} {f:Value→Value→Sem Value} {g:G2} (h:∀ (pins:List (Addr×Obj)) (s:Shared) (σ:L2.St) (H:Hp) (x y:V) (v u:Value) (Q:VK),Inv X pins σ H s→RelV x v→RelV y u→∀ (ρ:List Addr) (dx dy:D) (μ:Mem) (d:D) (μ':Mem),RepV X.K ρ H dx x→RepV X.K ρ H dy y→RepH X.K ρ H μ→g dx dy μ = some (d,μ')→(∀ ρ' H' v,Ext ρ H ρ' H'→RepH X.K ρ' H' μ'→RepV X.K ρ' H' d v→Q v H')→wpAny (model X.prog X.w) X.A (f v u) (EP X pins σ Q) X.xe s):OpM X f g:=by
  intro pins s σ H x y v u Q I rx ry hh
  obtain ⟨ρ,dx,dy,μ,d,μ',r1,r2,R,e,k⟩:=hh
  exact h pins s σ H x y v u Q I rx ry ρ dx dy μ d μ' r1 r2 R e k
@[simp] noncomputable def zu (g:G2) (φ ψ:FE):FE:=fun δ μ=>(φ δ μ).bind fun p=>(ψ δ p.2).bind fun q=>g p.1 q.1 q.2
theorem zfq {g:G2} {ρ:List Addr} {δ:Loc} {μ:Mem} {σ:L2.St} {H:Hp} {d:D} {μ':Mem} {Q:VK} (A:At X.K ρ H σ δ μ) (e:zu g φ ψ δ μ = some (d,μ'))
    (k:∀ ρ' H' v,Ext ρ H ρ' H'→RepH X.K ρ' H' μ'→RepV X.K ρ' H' d v→Q v H'):tOp (rM X.K g) (tM X.K φ) (tM X.K ψ) σ H Q:=by
  obtain ⟨⟨x,μ1⟩,e1,e⟩:=zf e
  obtain ⟨⟨y,μ2⟩,e2,e⟩:=zf e
  refine ⟨ρ,δ,μ,x,μ1,A,e1,fun ρ1 H1 v x1 R1 r1=>?_⟩
  refine ⟨ρ1,δ,μ1,y,μ2,A.ext x1 R1,e2,fun ρ2 H2 u x2 R2 r2=>?_⟩
  exact ⟨ρ2,x,y,μ2,d,μ',r1.ext x2,r2,R2,e,fun ρ3 H3 w x3 R3 r3=>k ρ3 H3 w (x1.trans (x2.trans x3)) R3 r3⟩
theorem z7 {op:Operator} {g:G2} (ho:OpM X (binaryOp op) g) (ha:ME X a φ) (hb:ME X b ψ):ME X (.BinOp a op b pos) (zu g φ ψ) :=
  zcd (zIw ho ha hb) fun _ _ _ _ _ _ _ _ A e k=>zfq A e k
theorem zkh {op:CmpOp} {g:G2} (ho:OpM X (compareOp op) g) (ha:ME X a φ) (hb:ME X b ψ) (hm:behindInMarks op b=false:=by first | exact nobehind _ (by decide) (by decide) | rfl | with_unfolding_all rfl):ME X (.Compare a [op] [b] pos) (zu g φ ψ) :=
  zcd (zKt ho ha hb hm) fun _ _ _ _ _ _ _ _ A e k=>zfq A e k
@[simp] noncomputable def zO (φ:FE):FT:=fun δ μ=>(φ δ μ).bind fun p=>match p.1 with
  | .bl b=>some (b,p.2)
  | _=>none
theorem zEn {δ:Loc} {μ μ':Mem} {b:Bool} (h:zO φ δ μ = some (b,μ')):φ δ μ = some (.bl b,μ'):=by
  obtain ⟨⟨x,μ1⟩,e1,e⟩:=zf h
  dsimp only at e
  split at e
  · cases e
    exact e1
  · cases e
theorem zP {op:CmpOp} {g:G2} (ho:OpM X (compareOp op) g) (ha:ME X a φ) (hb:ME X b ψ) (hm:behindInMarks op b=false:=by first | exact nobehind _ (by decide) (by decide) | rfl | with_unfolding_all rfl):MT X (.Compare a [op] [b] pos) (zO (zu g φ ψ)) :=
  zyt (zqt ho ha hb hm) fun ρ δ μ σ H b μ' Q A e k=>zfq (Q:=fun x H'=>∃ k,x = .bl k∧Q k H') A (zEn e) fun ρ' H' v x R r=>⟨b,r.bl_inv,k ρ' H' x R⟩
@[simp] noncomputable def zWd:G2:=fun x y μ=>match x,y with
  | .int i, .int j=>some (.int (i+j),μ)
  | .tup as, .tup bs=>bif decide (as.length+bs.length≤1000000) then some (.tup (as++bs),μ) else none
  | .loc l, .loc m=>match μ[l]?,μ[m]? with
    | some (.lst as),some (.lst bs)=>bif decide (as.length+bs.length≤1000000) then some (.loc μ.length,μ ++ [.lst (as++bs)]) else none
    | _,_=>none
  | _,_=>none
@[simp] noncomputable def zJs:G2:=fun x y μ=>match x,y with
  | .int i, .int j=>some (.int (i - j),μ)
  | _,_=>none
noncomputable def z2h (i j:Int):Bool:=decide (-(2 ^ 64)<i∧i<2 ^ 64) || decide (-(2 ^ 64)<j∧j<2 ^ 64) || (decide (i.natAbs<2 ^ 1000) && decide (j.natAbs<2 ^ 1000))
theorem zCs {i j:Int} (h:z2h i j=true):IntMulOk i j:=by
  unfold z2h at h
  rw [Bool.or_eq_true,Bool.or_eq_true,Bool.and_eq_true] at h
  rcases h with (h | h) | ⟨h1,h2⟩
  · have h:=of_decide_eq_true h
    exact .of_left (intBits_le_64 h.1 h.2)
  · have h:=of_decide_eq_true h
    exact .of_right (intBits_le_64 h.1 h.2)
  · exact .of_le (m:=1000) (n:=1000) (intBits_le (of_decide_eq_true h1)) (intBits_le (of_decide_eq_true h2)) (by decide)
noncomputable def zii:G2:=fun x y μ=>match x,y with
  | .int i, .int j=>bif z2h i j then some (.int (i * j),μ) else none
  | .tup ds, .int n=>bif decide (2≤n∧n≤1000∧0<ds.length∧ds.length≤1000) then some (.tup (List.replicate n.toNat ds).flatten,μ) else none
  | .loc l, .int n=>match μ[l]? with
    | some (.lst ds)=>bif decide (n≤1000∧-(2 ^ 62)≤n∧ds.length≤1000) then some (.loc μ.length,μ ++ [.lst (List.replicate n.toNat ds).flatten]) else none
    | _=>none
  | _,_=>none
@[simp] noncomputable def z9m:G2:=fun x y μ=>match x,y with
  | .int i, .int j=>bif decide (0<j) then some (.int (i % j),μ) else none
  | _,_=>none
@[simp] noncomputable def zTt:G2:=fun x y μ=>match x,y with
  | .int i, .int j=>bif decide (0<j∧j<1606938044258990275541962092341162602522202993782792835301376) then some (.int (i / j),μ) else none
  | _,_=>none
noncomputable def zMu:G2:=fun x y μ=>match x,y with
  | .int i, .int j=>bif decide (0≤j∧j≤100000∧i.natAbs<1606938044258990275541962092341162602522202993782792835301376) then some (.int (i ^ j.toNat),μ) else none
  | _,_=>none
theorem zM {α:Type} {c:Bool} {o:Option α} {x:α} (h:(bif c then o else none)=some x):c=true∧o=some x:=by
  cases c with
  | true=>exact ⟨rfl,h⟩
  | false=>cases h
theorem zEk {f:Value→Value→Sem Value} {g:G2} {C:Int→Int→Prop} {h:Int→Int→Int} (o:OpR X f (rI C fun i j => .int (h i j)))
    (w:∀ x y μ d μ',g x y μ = some (d,μ')→∃ i j,x = .int i∧y = .int j∧C i j∧d = .int (h i j)∧μ' = μ):OpM X f g:=by
  refine OpM.of fun pins s σ H x y v u Q I rx ry ρ dx dy μ d μ' r1 r2 R e k=>?_
  obtain ⟨i,j,rfl,rfl,hc,rfl,rfl⟩:=w _ _ _ _ _ e
  refine o pins s σ H x y v u Q I rx ry ⟨i,j,r1.int_inv,r2.int_inv,hc,?_⟩
  exact k ρ H _ Ext.refl R .int
theorem zgk:OpM X (binaryOp .Sub) zJs:=zEk (C:=fun _ _=>True) (h:=fun i j=>i - j) (opI fun _ _ _ _ _ _ _ _ q=>sub_int q) fun x y μ d μ' e=>by
  unfold zJs at e
  split at e
  · cases e;exact ⟨_,_,rfl,rfl,trivial,rfl,rfl⟩
  · cases e
theorem zqe:OpM X (binaryOp .Mod) z9m:=zEk (h:=fun i j=>i % j) zJv fun x y μ d μ' e=>by
  unfold z9m at e
  split at e
  · obtain ⟨h1,e⟩:=zM e
    cases e;have h2:=of_decide_eq_true h1;exact ⟨_,_,rfl,rfl,h2,rfl,rfl⟩
  · cases e
def zpw (i j:Int):Prop:=0<j∧j<1606938044258990275541962092341162602522202993782792835301376
theorem zZr:OpR X (binaryOp .FloorDiv) (rI zpw fun i j => .int (i / j)):=opI fun i j _ _ _ _ _ hc q=>by
  have h1:(0:Int)<j:=hc.1
  have h2:j<1606938044258990275541962092341162602522202993782792835301376:=hc.2
  refine floordiv_int (by first|decide|omega) (by rw [Int.fdiv_eq_ediv_of_nonneg i (by first|decide|omega)];exact q) (.inl (PyProof.noPylong_of_log2 ?_))
  have:j.natAbs.log2<200:=(Nat.log2_lt (by first|decide|omega)).mpr (by rw [show 2 ^ 200=1606938044258990275541962092341162602522202993782792835301376 from rfl];omega)
  omega
theorem znn:OpM X (binaryOp .FloorDiv) zTt:=zEk (C:=zpw) (h:=fun i j=>i / j) zZr fun x y μ d μ' e=>by
  unfold zTt at e
  split at e
  · obtain ⟨h1,e⟩:=zM e
    cases e;have h2:=of_decide_eq_true h1;exact ⟨_,_,rfl,rfl,h2,rfl,rfl⟩
  · cases e
def zuv (i j:Int):Prop:=0≤j∧j≤100000∧i.natAbs<1606938044258990275541962092341162602522202993782792835301376
theorem z9t:OpR X (binaryOp .Pow) (rI zuv fun i j => .int (i ^ j.toNat)):=opI fun i j _ _ _ _ _ hc q=>by
  refine pow_int hc.1 ?_ q
  have hb:Builtin.Int.intBits i≤200:=intBits_le (by rw [show 2 ^ 200=1606938044258990275541962092341162602522202993782792835301376 from rfl];exact hc.2.2)
  have h2:=hc.2.1
  have h1:=hc.1
  calc (Builtin.Int.intBits i:Int) * j≤200 * 100000:=Int.mul_le_mul (by first|decide|omega) h2 h1 (by first|decide|omega)
    _≤2 ^ 27:=by decide
theorem zau:OpM X (binaryOp .Pow) zMu:=zEk (C:=zuv) (h:=fun i j=>i ^ j.toNat) z9t fun x y μ d μ' e=>by
  unfold zMu at e
  split at e
  · obtain ⟨h1,e⟩:=zM e
    cases e;have h2:=of_decide_eq_true h1;exact ⟨_,_,rfl,rfl,h2,rfl,rfl⟩
  · cases e
@[simp] noncomputable def zTj (p:Int→Int→Bool):G2:=fun x y μ=>match x,y with
  | .int i, .int j=>some (.bl (p i j),μ)
  | _,_=>none
theorem zmk {f:Value→Value→Sem Value} {p:Int→Int→Bool} (o:OpR X f (rI0 fun i j => .bl (p i j))):OpM X f (zTj p):=by
  refine OpM.of fun pins s σ H x y v u Q I rx ry ρ dx dy μ d μ' r1 r2 R e k=>?_
  unfold zTj at e
  split at e
  · cases e
    exact o pins s σ H x y v u Q I rx ry ⟨_,_,r1.int_inv,r2.int_inv,k ρ H _ Ext.refl R .bl⟩
  · cases e
theorem zBi:OpM X (compareOp .Lt) (zTj fun i j=>decide (i<j)):=zmk zHw
theorem zlv:OpM X (compareOp .LtE) (zTj fun i j=>decide (i≤j)):=zmk zXw
theorem ztr:OpM X (compareOp .Gt) (zTj fun i j=>decide (j<i)):=zmk zMw
theorem zgt:OpM X (compareOp .GtE) (zTj fun i j=>decide (j≤i)):=zmk zQw
@[simp] noncomputable def z7x (φ ψ:FE):FE:=fun δ μ=>(φ δ μ).bind fun p=>match p.1 with
  | .bl true=>ψ δ p.2
  | .bl false=>some (.bl false,p.2)
  | _=>none
@[simp] noncomputable def fOr (φ ψ:FE):FE:=fun δ μ=>(φ δ μ).bind fun p=>match p.1 with
  | .bl false=>ψ δ p.2
  | .bl true=>some (.bl true,p.2)
  | _=>none
@[simp] noncomputable def zhy (φ:FE):FE:=fun δ μ=>(φ δ μ).bind fun p=>match p.1 with
  | .bl b=>some (.bl (!b),p.2)
  | _=>none
theorem zHv {op} (h:ME X a φ):ME X (.BoolOp op [a] pos) φ:=zbw h
theorem zkx {rest:List Expr} (ha:ME X a φ) (hb:ME X (.BoolOp .Or (b :: rest) pos) ψ):ME X (.BoolOp .Or (a :: b :: rest) pos) (fOr φ ψ) :=
  zcd (z4w ha hb) fun ρ δ μ σ H d μ' Q A e k=>by
    obtain ⟨⟨x,μ1⟩,e1,e⟩:=zf e
    refine ⟨ρ,δ,μ,x,μ1,A,e1,fun ρ1 H1 v x1 R1 r1=>?_⟩
    dsimp only at e
    split at e
    · exact ⟨false,r1.bl_inv,iteF ⟨ρ1,δ,μ1,d,μ',A.ext x1 R1,e,fun ρ2 H2 w x2 R2 r2=>k ρ2 H2 w (x1.trans x2) R2 r2⟩⟩
    · cases e
      exact ⟨true,r1.bl_inv,iteT (k ρ1 H1 _ x1 R1 .bl)⟩
    · cases e
@[simp] noncomputable def zNs (φ ψ:FT):FT:=fun δ μ=>(φ δ μ).bind fun p=>bif p.1 then ψ δ p.2 else some (false,p.2)
@[simp] noncomputable def zgo (φ ψ:FT):FT:=fun δ μ=>(φ δ μ).bind fun p=>bif p.1 then some (true,p.2) else ψ δ p.2
@[simp] noncomputable def z4i (φ:FT):FT:=fun δ μ=>(φ δ μ).bind fun p=>some (!p.1,p.2)
theorem zpc {φ:FE} (h:ME X a φ) (he:∀ whole,isTrue a X.env whole=(do let v ← whole;standAt a.pos;holding [v] (truthy v)):=by intro _;rfl):MT X a (zO φ) :=
  zyt (zrv h he) fun ρ δ μ σ H b μ' Q A e k=>⟨ρ,δ,μ, .bl b,μ',A,zEn e,fun ρ' H' v x R r=>⟨b,r.bl_inv,k ρ' H' x R⟩⟩
theorem MW.mt {φ:FT} (h:MW X a φ):MT X a φ:=h _
theorem zHq {φ:FT} (h:MT X a φ):MW X (.BoolOp .And [a] pos) φ:=zlu h
theorem z2f {φ:FT} (h:MT X a φ):MW X (.BoolOp .Or [a] pos) φ:=zVu h
theorem zft {φ ψ:FT} {rest:List Expr} (ha:MT X a φ) (hb:MW X (.BoolOp .And (b :: rest) pos) ψ):MW X (.BoolOp .And (a :: b :: rest) pos) (zNs φ ψ) :=
  z1u (z9v ha hb) fun ρ δ μ σ H b μ' Q A e k=>by
    obtain ⟨⟨x,μ1⟩,e1,e⟩:=zf e
    refine ⟨ρ,δ,μ,x,μ1,A,e1,fun ρ1 H1 x1 R1=>?_⟩
    cases x with
    | true=>exact iteT ⟨ρ1,δ,μ1,b,μ',A.ext x1 R1,e,fun ρ2 H2 x2 R2=>k ρ2 H2 (x1.trans x2) R2⟩
    | false =>
      cases e
      exact iteF (k ρ1 H1 x1 R1)
theorem zsh {φ ψ:FT} {rest:List Expr} (ha:MT X a φ) (hb:MW X (.BoolOp .Or (b :: rest) pos) ψ):MW X (.BoolOp .Or (a :: b :: rest) pos) (zgo φ ψ) :=
  z1u (zqx ha hb) fun ρ δ μ σ H b μ' Q A e k=>by
    obtain ⟨⟨x,μ1⟩,e1,e⟩:=zf e
    refine ⟨ρ,δ,μ,x,μ1,A,e1,fun ρ1 H1 x1 R1=>?_⟩
    cases x with
    | false=>exact iteF ⟨ρ1,δ,μ1,b,μ',A.ext x1 R1,e,fun ρ2 H2 x2 R2=>k ρ2 H2 (x1.trans x2) R2⟩
    | true =>
      cases e
      exact iteT (k ρ1 H1 x1 R1)
theorem zhh {φ:FT} (ha:MT X a φ):MT X (.UnaryOp .Not a pos) (z4i φ) :=
  zyt (zTu ha) fun ρ δ μ σ H b μ' Q A e k=>by
    obtain ⟨⟨x,μ1⟩,e1,e⟩:=zf e
    cases e
    exact ⟨ρ,δ,μ,x,μ1,A,e1,fun ρ1 H1 x1 R1=>k ρ1 H1 x1 R1⟩
structure MAn (X:Cx) (es:List Expr) (φ:FA):Prop where
  ma:MA X es φ
  len:∀ δ μ ds μ',φ δ μ = some (ds,μ')→ds.length=es.length
@[simp] noncomputable def zD:FA:=fun _ μ=>some ([],μ)
@[simp] noncomputable def ze (φ:FE) (ψ:FA):FA:=fun δ μ=>(φ δ μ).bind fun p=>(ψ δ p.2).bind fun q=>some (p.1 :: q.1,q.2)
theorem zd:MAn X [] zD:=⟨zuw zhe fun ρ δ μ σ H ds μ' Q A e k=>by
    cases e
    exact k ρ H [] Ext.refl A.hp .nil,fun _ _ _ _ e=>by cases e;rfl⟩
noncomputable def zTv:Expr→Bool
  | .Starred ..=>false
  | _=>true
theorem zvf {e:Expr} {es:List Expr} {env:Env} (h:zTv e=true):starEach (e :: es) env=(false,eval e env) :: starEach es env:=by
  cases e <;> first | rfl | cases h
theorem za {φ:FE} {ψ:FA} (ha:ME X e φ) (hr:MAn X es ψ) (hs:starEach (e :: es) X.env=(false,eval e X.env) :: starEach es X.env:=by exact zvf rfl):MAn X (e :: es) (ze φ ψ) :=
  ⟨zuw (zmc ha hr.ma hs) fun ρ δ μ σ H ds μ' Q A e k=>by
    obtain ⟨⟨x,μ1⟩,e1,e⟩:=zf e
    obtain ⟨⟨y,μ2⟩,e2,e⟩:=zf e
    cases e
    refine ⟨ρ,δ,μ,x,μ1,A,e1,fun ρ1 H1 v x1 R1 r1=>?_⟩
    refine ⟨ρ1,δ,μ1,y,μ2,A.ext x1 R1,e2,fun ρ2 H2 u x2 R2 r2=>?_⟩
    exact k ρ2 H2 _ (x1.trans x2) R2 (.cons (r1.ext x2) r2),fun δ μ ds μ' e=>by
    obtain ⟨⟨x,μ1⟩,e1,e⟩:=zf e
    obtain ⟨⟨y,μ2⟩,e2,e⟩:=zf e
    cases e
    have:=hr.len _ _ _ _ e2
    simp [this]⟩
@[simp] noncomputable def z3i (φ:FA):FE:=fun δ μ=>(φ δ μ).bind fun p=>some (.tup p.1,p.2)
@[simp] noncomputable def zcl (φ:FA):FE:=fun δ μ=>(φ δ μ).bind fun p=>some (.loc p.2.length,p.2 ++ [.lst p.1])
theorem zic {x1} {φ:FA} (h:MAn X es φ) (hn:es.length≤1000:=by decide):ME X (.Tuple es x1 pos) (z3i φ) :=
  zcd (zYu h.ma) fun ρ δ μ σ H d μ' Q A e k=>by
    obtain ⟨⟨x,μ1⟩,e1,e⟩:=zf e
    cases e
    refine ⟨ρ,δ,μ,x,μ1,A,e1,fun ρ1 H1 vs x1 R1 r1=>⟨?_,fun p hp=>?_⟩⟩
    · rw [← r1.length,h.len _ _ _ _ e1]
      exact Nat.le_of_lt (small1000 hn)
    · exact k ρ1 _ _ (x1.trans (Ext.new hp)) (R1.newTup hp) (.tup zo (r1.ext (Ext.new hp)))
theorem zsd {φ:FA} (h:MAn X es φ) (hn:es.length≤1000:=by decide):ME X (.List es pos) (zcl φ) :=
  zcd (zfv h.ma) fun ρ δ μ σ H d μ' Q A e k=>by
    obtain ⟨⟨x,μ1⟩,e1,e⟩:=zf e
    cases e
    refine ⟨ρ,δ,μ,x,μ1,A,e1,fun ρ1 H1 vs x1 R1 r1=>⟨?_,fun p hp=>?_⟩⟩
    · rw [← r1.length,h.len _ _ _ _ e1]
      exact Nat.le_of_lt (small1000 hn)
    · exact k _ _ _ (x1.trans (Ext.push hp)) (R1.push hp ⟨vs,zo,r1.ext (Ext.push hp)⟩) (.loc (zvb R1))
@[simp] noncomputable def zy (F:FF) (φ:FA):FE:=fun δ μ=>(φ δ μ).bind fun p=>F p.1 p.2
theorem zvu {k n:Nat} {f:Addr} {fd:FuncData} {ps:List Str} {F:FF} {x:Str} {p:Pos} {φ:FA} (G:FnOk X.prog X.w X.K X.mg X.base CX0 k f fd ps (spM X.K n F)) (hr:Room k X.A) (hm:X.mg x=some (.ref f)) (hk:W.keepIn X.K (.ref f)=true) (hb:Binds X.K fd ps [])
    (ha:MAn X (e :: es) φ) (hn:(e :: es).length=n:=by rfl) (hg:Gl X x:=by rfl) (hdb:(x == ("__debug__":Str))=false:=by decide) (he:starEach (e :: es) X.env=(false,eval e X.env) :: starEach es X.env:=by exact zvf rfl) (hpl:(backTo pos (starEach es X.env)).any (·.1)=false:=by rfl) :
    ME X (.Call (.Name x p) (e :: es) [] pos) (zy F φ) :=
  zcd (zpu G hr hg hm hk hb .nil pass0 ha.ma hdb he hpl) fun ρ δ μ σ H d μ' Q A e k=>by
    obtain ⟨⟨x,μ1⟩,e1,e⟩:=zf e
    refine ⟨ρ,δ,μ,x,μ1,A,e1,fun ρ1 H1 vs x1 R1 r1=>?_⟩
    show spM X.K n F (vs ++ []) H1 Q E0
    rw [append_nil]
    exact ⟨by rw [← r1.length,ha.len _ _ _ _ e1];exact hn,ρ1,x,μ1,d,μ',r1,R1,e,fun ρ2 H2 v x2 R2 r2=>k ρ2 H2 v (x1.trans x2) R2 r2⟩
noncomputable abbrev GL:=List D→Mem→Option (D×Mem)
def rCM (K:W.Frag) (g:GL):List V→Hp→VK→Prop:=fun vs H Q=>∃ ρ ds μ d μ',RepVs K ρ H ds vs∧RepH K ρ H μ∧g ds μ = some (d,μ')∧∀ ρ' H' v,Ext ρ H ρ' H'→RepH K ρ' H' μ'→RepV K ρ' H' d v→Q v H'
def CallM (X:Cx) (f:Value) (g:GL):Prop:=zNi X f (rCM X.K g)
theorem CallM.of {X:Cx} {f:Value} {g:GL} (h:∀ (pins:List (Addr×Obj)) (s:Shared) (σ:L2.St) (H:Hp) (xs:List V) (us:List Value) (Q:VK),Inv X pins σ H s→Vals xs us→∀ (ρ:List Addr) (ds:List D) (μ:Mem) (d:D) (μ':Mem),RepVs X.K ρ H ds xs→RepH X.K ρ H μ→g ds μ = some (d,μ')→(∀ ρ' H' v,Ext ρ H ρ' H'→RepH X.K ρ' H' μ'→RepV X.K ρ' H' d v→Q v H')→wpAny (model X.prog X.w) X.A (call f us) (EP X pins σ Q) X.xe s):CallM X f g:=by
  intro pins s σ H xs us Q I r hh
  obtain ⟨ρ,ds,μ,d,μ',r1,R,e,k⟩:=hh
  exact h pins s σ H xs us Q I r ρ ds μ d μ' r1 R e k
theorem zKx {g:GL} {φ:FA} {ρ:List Addr} {δ:Loc} {μ:Mem} {σ:L2.St} {H:Hp} {d:D} {μ':Mem} {Q:VK} (A:At X.K ρ H σ δ μ) (e:zy g φ δ μ = some (d,μ'))
    (k:∀ ρ' H' v,Ext ρ H ρ' H'→RepH X.K ρ' H' μ'→RepV X.K ρ' H' d v→Q v H'):tCB (rCM X.K g) (tMA X.K φ) σ H Q:=by
  obtain ⟨⟨x,μ1⟩,e1,e⟩:=zf e
  exact ⟨ρ,δ,μ,x,μ1,A,e1,fun ρ1 H1 vs x1 R1 r1=>⟨ρ1,x,μ1,d,μ',r1,R1,e,fun ρ2 H2 v x2 R2 r2=>k ρ2 H2 v (x1.trans x2) R2 r2⟩⟩
theorem zE {g:GL} {id:String} {x:Str} {p:Pos} {φ:FA} (hc:CallM X (.builtin id) g) (hm:X.mg x=none) (hv:bootBuiltins x=some (.builtin id)) (ha:MAn X (e :: es) φ) (hg:Gl X x:=by rfl) (hn:x≠"__name__":=by decide) (hdb:(x == ("__debug__":Str))=false:=by decide)
    (he:starEach (e :: es) X.env=(false,eval e X.env) :: starEach es X.env:=by exact zvf rfl) (hpl:(backTo pos (starEach es X.env)).any (·.1)=false:=by rfl):ME X (.Call (.Name x p) (e :: es) [] pos) (zy g φ) :=
  zcd (zxk hc hg hm hv ha.ma hn hdb he hpl) fun _ _ _ _ _ _ _ _ A e k=>zKx A e k
theorem zRe {g:GL} {T:String} {x:Str} {p:Pos} {φ:FA} (hc:CallM X (.type T) g) (hm:X.mg x=none) (hv:bootBuiltins x=some (.type T)) (ha:MAn X (e :: es) φ) (hg:Gl X x:=by rfl) (hn:x≠"__name__":=by decide) (hdb:(x == ("__debug__":Str))=false:=by decide)
    (he:starEach (e :: es) X.env=(false,eval e X.env) :: starEach es X.env:=by exact zvf rfl) (hpl:(backTo pos (starEach es X.env)).any (·.1)=false:=by rfl):ME X (.Call (.Name x p) (e :: es) [] pos) (zy g φ) :=
  zcd (zqd hc hg hm hv ha.ma hn hdb he hpl) fun _ _ _ _ _ _ _ _ A e k=>zKx A e k
end
section
variable {K:W.Frag} {ρ:List Addr} {H:Hp} {μ:Mem}
@[simp] noncomputable def items (μ:Mem):D→Option (List D)
  | .tup ds=>some ds
  | .fz ds=>some ds
  | .loc n=>match μ[n]? with
    | some (.lst ds)=>some ds
    | _=>none
  | _=>none
theorem zng {d:D} {v:V} {ds:List D} (R:RepH K ρ H μ) (r:RepV K ρ H d v) (e:items μ d=some ds):∃ p vs,v = .ref p∧(SqL K H p vs∨SqT K H p vs)∧RepVs K ρ H ds vs:=by
  unfold items at e
  split at e
  · cases e
    obtain ⟨a,vs,e1,e2,q⟩:=r.tup_inv
    exact ⟨a,vs,e1, .inr (SqT.of e2),q⟩
  · cases e
    obtain ⟨a,vs,e1,e2,q⟩:=r.fz_inv
    exact ⟨a,vs,e1, .inl e2.sq,q⟩
  · split at e
    · rename_i h
      cases e
      obtain ⟨a,e1,e2⟩:=r.loc_inv
      obtain ⟨vs,e3,q⟩:=R.at_ _ _ _ e2 h
      exact ⟨a,vs,e1, .inl (SqL.of e3),q⟩
    · cases e
  · cases e
end
section
variable {X:Cx} {a b c e:Expr} {es:List Expr} {φ ψ χ:FE} {pos:Pos}
@[simp] noncomputable def gIx:G2:=fun x y μ=>match y with
  | .int i=>(items μ x).bind fun ds=>(atI ds i).bind fun d=>some (d,μ)
  | _=>none
theorem zRt {K:W.Frag} {ρ:List Addr} {H:Hp} {ds:List D} {vs:List V} {i:Int} {d:D} (r:RepVs K ρ H ds vs) (e:atI ds i=some d):∃ v,atI vs i=some v∧RepV K ρ H d v:=by
  unfold atI at e ⊢
  rw [r.length] at e
  obtain ⟨j,e1,e2⟩:=zf e
  obtain ⟨v,e3,q⟩:=r.get e2
  exact ⟨v,by rw [e1];exact e3,q⟩
theorem ixM:IxR X (rM X.K gIx):=by
  intro value slice pins s σ H x y v u Q I rx ry ⟨ρ,dx,dy,μ,d,μ',r1,r2,R,e,k⟩ hs
  unfold gIx at e
  split at e
  · obtain ⟨ds,e1,e⟩:=zf e
    obtain ⟨d',e2,e⟩:=zf e
    cases e
    obtain ⟨p,vs,rfl,hq,rr⟩:=zng R r1 e1
    obtain ⟨w,e3,q⟩:=zRt rr e2
    rcases hq with hq | hq
    · exact zdt value slice pins s σ H _ y v u Q I rx ry (.inl ⟨p,vs,_,w,rfl,r2.int_inv,hq,e3,k ρ H w Ext.refl R q⟩) hs
    · exact zdt value slice pins s σ H _ y v u Q I rx ry (.inr (.inl ⟨p,vs,_,w,rfl,r2.int_inv,hq,e3,k ρ H w Ext.refl R q⟩)) hs
  · cases e
theorem zJ (ha:ME X a φ) (hb:ME X b ψ) (hs:zkn b:=by exact fun _ _=>rfl):ME X (.Subscript a b pos) (zu gIx φ ψ) :=
  zcd (zxv ixM ha hb hs) fun _ _ _ _ _ _ _ _ A e k=>zfq A e k
@[simp] noncomputable def zsj:GL:=fun ds μ=>match ds with
  | [d]=>(items μ d).bind fun xs=>some (.int xs.length,μ)
  | _=>none
theorem zV:CallM X (.builtin "len") zsj:=by
  refine CallM.of fun pins s σ H xs us Q I r ρ ds μ d μ' r1 R e k=>?_
  unfold zsj at e
  split at e
  · obtain ⟨ds,e1,e⟩:=zf e
    cases e
    obtain ⟨v,rr,rfl,q1,q2⟩:=r1.cons_inv
    have q2:=q2.nil_inv
    subst q2
    obtain ⟨p,vs,rfl,hq,rr⟩:=zng R q1 e1
    exact zzm pins s σ H _ us Q I r ⟨p,vs,rfl,hq,k ρ H _ Ext.refl R (by rw [rr.length];exact .int)⟩
  · cases e
@[simp] noncomputable def z5p:GL:=fun ds μ=>match ds with
  | [d]=>(items μ d).bind fun xs=>some (.loc μ.length,μ ++ [.lst xs])
  | _=>none
theorem zyj:CallM X (.type "list") z5p:=by
  refine CallM.of fun pins s σ H xs us Q I r ρ ds μ d μ' r1 R e k=>?_
  unfold z5p at e
  split at e
  · obtain ⟨ds,e1,e⟩:=zf e
    cases e
    obtain ⟨v,rr,rfl,q1,q2⟩:=r1.cons_inv
    have q2:=q2.nil_inv
    subst q2
    obtain ⟨p,vs,rfl,hq,rr⟩:=zng R q1 e1
    exact zlh pins s σ H _ us Q I r ⟨p,vs,rfl,hq,fun l hl=>k _ _ _ (Ext.push hl) (R.push hl ⟨vs,zo,rr.ext (Ext.push hl)⟩) (.loc (zvb R))⟩
  · cases e
@[simp] noncomputable def zcf:GL:=fun ds μ=>match ds with
  | [.tup xs]=>some (.tup xs,μ)
  | [d]=>(items μ d).bind fun xs=>some (.tup xs,μ)
  | _=>none
theorem zjf:CallM X (.type "tuple") zcf:=by
  refine CallM.of fun pins s σ H xs us Q I r ρ ds μ d μ' r1 R e k=>?_
  have key:∃ x ys,ds = [x]∧items μ x=some ys∧d = .tup ys∧μ' = μ:=by
    unfold zcf at e
    split at e
    · cases e;exact ⟨_,_,rfl,rfl,rfl,rfl⟩
    · obtain ⟨ds,e1,e⟩:=zf e
      cases e
      exact ⟨_,_,rfl,e1,rfl,rfl⟩
    · cases e
  obtain ⟨x,ys,rfl,e1,rfl,rfl⟩:=key
  obtain ⟨v,rr,rfl,q1,q2⟩:=r1.cons_inv
  have q2:=q2.nil_inv
  subst q2
  cases x with
  | tup zs =>
    cases e1
    obtain ⟨a,vs,rfl,e2,q⟩:=q1.tup_inv
    exact zFd pins s σ H _ us Q I r ⟨a,vs,rfl, .inr ⟨SqT.of e2,k ρ H _ Ext.refl R q1⟩⟩
  | fz zs =>
    cases e1
    obtain ⟨a,vs,rfl,e2,q⟩:=q1.fz_inv
    exact zFd pins s σ H _ us Q I r ⟨a,vs,rfl, .inl ⟨e2.sq,fun l hl=>k ρ _ _ (Ext.new hl) (R.newTup hl) (.tup zo (q.ext (Ext.new hl)))⟩⟩
  | loc n =>
    unfold items at e1
    dsimp only at e1
    split at e1
    · rename_i h
      cases e1
      obtain ⟨a,rfl,e2⟩:=q1.loc_inv
      obtain ⟨vs,e3,q⟩:=R.at_ _ _ _ e2 h
      exact zFd pins s σ H _ us Q I r ⟨a,vs,rfl, .inl ⟨SqL.of e3,fun l hl=>k ρ _ _ (Ext.new hl) (R.newTup hl) (.tup zo (q.ext (Ext.new hl)))⟩⟩
    · cases e1
  | _=>cases e1
end
theorem zpl {prog:Program} {w:World} {A:Around} {R:Result→Shared→Prop} {s:Shared} {elt target iter:Expr} {ifs:List Expr} {scope:Scope} {pos:Pos} {it acc:Value} {env:Env} (I:Nat→Shared→Prop)
    (turn:∀ n s,I n s→wpAny (model prog w) A (pyNext it) (fun r s₁=>match r with
      | none=>R (.ok .next) s₁
      | some v=>wpAny (model prog w) A (letOwnedTupleGo target it v) (fun _ s₁'=>wpAny (model prog w) A (assign target env v) (fun _ s₂ =>
          wpAny (model prog w) A (forIn ifs true fun c r=>if r=true then do let ok ← isTrue c env (eval c env);pure (ForInStep.yield ok) else pure (ForInStep.yield r)) (fun ok s₃ =>
            if ok=true then wpAny (model prog w) A (eval elt env) (fun x s₄ =>
              wpAny (model prog w) A (call (.builtin "list.append") [acc,x]) (fun _ s₅=>∃ m,m<n∧I m s₅) (fun _ _=>False) s₄) (fun _ _=>False) s₃
            else ∃ m,m<n∧I m s₃) (fun _ _=>False) s₂) (fun _ _=>False) s₁') (fun _ _=>False) s₁) (fun _ _=>False) s)
    (n:Nat) (h:I n s) :
    codeAny (model prog w) A (.compLoop (.ListComp elt [⟨target,iter,ifs,0⟩] scope pos) 0 it acc env) R s:=by
  refine codeAny_loop rfl I (fun n s hI=>?_) n h
  show wpAny _ A ((compTurn (.ListComp elt [⟨target,iter,ifs,0⟩] scope pos) 0 it acc env).onRaise (fun x=>do noteFrame x env;theTreesLotGoes x)) _ _ s
  refine wpAny_noted ?_
  rw [compTurn_list]
  refine wpAny_bind (wpAny_standAt (wpAny_bind (wpAny_mono (turn n s hI) (fun r s₁ h₁=>?_) fun _ _ h'=>h'.elim)))
  cases r with
  | none=>exact wpAny_pure h₁
  | some v =>
    refine wpAny_bind (wpAny_mono h₁ (fun _ s₁' h₁=>?_) fun _ _ h'=>h'.elim)
    refine wpAny_bind (wpAny_mono h₁ (fun _ s₂ h₂=>wpAny_bind (wpAny_mono h₂ (fun ok s₃ h₃=>?_) fun _ _ h'=>h'.elim)) fun _ _ h'=>h'.elim)
    cases ok with
    | false=>exact wpAny_pure ⟨rfl,h₃⟩
    | true =>
      exact wpAny_bind (wpAny_bind (wpAny_mono h₃ (fun x s₄ h₄=>wpAny_bind (wpAny_mono h₄ (fun _ s₅ h₅=>wpAny_pure (wpAny_pure ⟨rfl,h₅⟩)) fun _ _ h'=>h'.elim)) fun _ _ h'=>h'.elim))
noncomputable def zub (cells:List (Str×Addr)):List (Str×NameKind)→List (Str×Addr)→List (Str×Addr)
  | [],acc=>acc
  | (n,k) :: r,acc=>zub cells r (if k == .free then (match cells.lookup n with | some c=>(n,c) :: acc | none=>acc) else acc)
theorem zih {env:Env}:∀ (names:List (Str×NameKind)) (acc:List (Str×Addr)),(∀ x∈names,x.2 = .free→∃ c,env.cells.lookup x.1=some c) →
    (forIn names acc fun (x:Str×NameKind) (cs:List (Str×Addr))=>(match x with | (name,kind)=>if kind == .free then do let c ← cellOf env name;pure (ForInStep.yield ((name,c) :: cs)) else pure (ForInStep.yield cs):Sem (ForInStep (List (Str×Addr)))))=(pure (zub env.cells names acc):Sem (List (Str×Addr)))
  | [],acc,_=>rfl
  | (n,k) :: r,acc,h=>by
    have ih:=fun acc'=>zih r acc' fun x hx=>h x (mem_cons_of_mem _ hx)
    rw [List.forIn_cons]
    by_cases hk:k = .free
    · subst hk
      obtain ⟨c,hc⟩:=h (n, .free) mem_cons_self rfl
      have e:cellOf env n=pure c:=by unfold cellOf;rw [hc]
      have:zub env.cells ((n,NameKind.free) :: r) acc=zub env.cells r ((n,c) :: acc):=by
        show zub env.cells r (if (NameKind.free == NameKind.free)=true then (match env.cells.lookup n with | some c=>(n,c) :: acc | none=>acc) else acc)=_
        rw [hc];rfl
      rw [this,← ih]
      show ((do let c ← cellOf env n;pure (ForInStep.yield ((n,c) :: acc))) >>= _:Sem _)=_
      rw [e]
      rfl
    · have hb:(k == NameKind.free)=false:=by simpa using hk
      have:zub env.cells ((n,k) :: r) acc=zub env.cells r acc:=by
        show zub env.cells r (if (k == NameKind.free)=true then _ else acc)=_
        rw [hb];rfl
      rw [this,← ih]
      simp only [hb,Bool.false_eq_true,if_false]
      rfl
theorem zTo {scope:Scope} {env:Env} (h:∀ x∈scope.names,x.2 = .free→∃ c,env.cells.lookup x.1=some c):closureFor scope env=pure (zub env.cells scope.names []):=by
  have e:=zih (env:=env) scope.names [] h
  unfold closureFor
  show (forIn scope.names [] _ >>= fun r=>pure r:Sem _)=_
  rw [show (forIn scope.names ([]:List (Str×Addr)) fun (x:Str×NameKind) (r:List (Str×Addr))=>(match x with | (name,kind)=>if kind == .free then do let c ← cellOf env name;pure (ForInStep.yield ((name,c) :: r)) else pure (ForInStep.yield r):Sem (ForInStep (List (Str×Addr)))))=pure (zub env.cells scope.names []) from e]
  rfl
theorem zAk {cells:List (Str×Addr)} {x:Str} {c:Addr}:∀ (names:List (Str×NameKind)) (acc:List (Str×Addr)),(zub cells names acc).lookup x=some c→acc.lookup x=some c∨cells.lookup x=some c
  | [],_,h => .inl h
  | (n,k) :: r,acc,h=>by
    rcases zAk r _ h with q | q
    · by_cases hk:(k == NameKind.free)=true
      · rw [if_pos hk] at q
        cases e:cells.lookup n with
        | none=>rw [e] at q;exact .inl q
        | some a =>
          rw [e] at q
          simp only [lookup_cons] at q
          by_cases hx:(x == n)=true
          · rw [hx] at q
            have hx':x=n:=by simpa using hx
            subst hx'
            cases q
            exact .inr e
          · have hx':(x == n)=false:=by simpa using hx
            rw [hx'] at q
            exact .inl q
      · rw [if_neg hk] at q
        exact .inl q
    · exact .inr q
theorem zGp {cells:List (Str×Addr)} {x:Str}:∀ (names:List (Str×NameKind)) (acc:List (Str×Addr)),(acc.lookup x).isSome=true→((zub cells names acc).lookup x).isSome=true
  | [],_,h=>h
  | (n,k) :: r,acc,h=>by
    refine zGp r _ ?_
    by_cases hk:(k == NameKind.free)=true
    · rw [if_pos hk]
      cases e:cells.lookup n with
      | none=>exact h
      | some a =>
        simp only [lookup_cons]
        by_cases hx:(x == n)=true
        · rw [hx];rfl
        · have hx':(x == n)=false:=by simpa using hx
          rw [hx'];exact h
    · rw [if_neg hk];exact h
theorem zat {cells:List (Str×Addr)} {x:Str} {c:Addr} (hc:cells.lookup x=some c):∀ (names:List (Str×NameKind)) (acc:List (Str×Addr)),(x,NameKind.free)∈names→((zub cells names acc).lookup x).isSome=true
  | [],_,h=>by cases h
  | (n,k) :: r,acc,h=>by
    rcases List.mem_cons.mp h with h | h
    · cases h
      refine zGp r _ ?_
      rw [if_pos (by rfl),hc]
      simp [lookup_cons]
    · exact zat hc r _ h
noncomputable def cxC (X:Cx) (own:List Str) (fr:List Nat) (scope:Scope) (cl:List (Str×Addr)) (C:Addr) (s₀:Shared) (H₀:Hp) (fp:List Addr):Cx :=
  { X with N:=own++fr.map fun i=>X.N.getD i Str.empty,s₀:=s₀,H₀:=H₀,env:=compEnvC scope cl C X.env,outer:=X.stack,ex:=fp,fn:=fun x=>scope.names.lookup x == some .cell,xe:=fun _ _=>False }
noncomputable def σC (n:Nat) (fr:List Nat) (σ:L2.St):L2.St:=List.replicate n none++fr.map fun i=>(σ[i]?).getD none
def zit (σ σ':L2.St):Prop:=σ'.length = σ.length∧∀ (i:Nat) v,σ[i]?=some (some v)→σ'[i]?=some (some v)
def PF (X:Cx) (ifs:List Expr) (t:TT):Prop:=∀ (pins:List (Addr×Obj)) (s:Shared) (σ:L2.St) (H:Hp) (Q:Bool→Hp→Prop),Inv X pins σ H s→t σ H Q →
  wpAny (model X.prog X.w) X.A (forIn ifs true fun c r=>if r=true then do let ok ← isTrue c X.env (eval c X.env);pure (ForInStep.yield ok) else pure (ForInStep.yield r)) (TP X pins σ Q) X.xe s
theorem z8v {X:Cx}:PF X [] (fun σ H Q=>Q true H):=fun pins s σ H Q I h=>wpAny_tests_nil ⟨H,I,h⟩
theorem z2v {X:Cx} {c:Expr} {t:TT} (h:PT X c t):PF X [c] t:=fun pins s σ H Q I hw=>wpAny_tests_one (h pins s σ H Q I hw)
noncomputable def tLC (n:Nat) (fr:List Nat) (wi:TI) (g:TG) (tc:TT) (te:TE):TE:=fun σ H Q=>wi σ H fun J H1=>∃ W:Nat→Nat→List V→Hp→Prop,(∃ m,W 0 m [] H1)∧∀ i m ys H,W i m ys H →
  (J.stop i H∧∀ p,H p=none→Q (.ref p) (upd H p (.lst ys))) ∨
  (J.go i H∧ys.length<sizeLine∧∀ x H',J.yld i H x H'→g x (σC n fr σ) H' fun σ2 H2=>zit (σC n fr σ) σ2∧tc σ2 H2 fun b H3 =>
    if b=true then te σ2 H3 fun y H4=>∃ m',m'<m∧W (i+1) m' (ys ++ [y]) H4 else ∃ m',m'<m∧W (i+1) m' ys H3)
section
variable {X:Cx} {own:List Str} {fr:List Nat} {scope:Scope} {pins:List (Addr×Obj)} {σ:L2.St} {H:Hp} {s:Shared}
theorem zdd {env:Env} {x:Str} {k:NameKind}:∀ {names:List (Str×NameKind)},(names.map fun (n,k)=>if (k == NameKind.free && env.scope.kind == .function && env.kindOf n == some .cell) then (n,NameKind.cell) else (n,k)).lookup x=some k →
    (k = .cell∨k = .free)→(x,NameKind.free)∈names∨(x,NameKind.cell)∈names
  | [],h,_=>by simp at h
  | (n,k') :: r,h,hk=>by
    rw [map_cons] at h
    by_cases hx:x=n
    · subst hx
      by_cases hb:(k' == NameKind.free && env.scope.kind == .function && env.kindOf x == some .cell)=true
      · have:k' = .free:=by
          simp only [Bool.and_eq_true,beq_iff_eq] at hb
          exact hb.1.1
        subst this
        exact .inl mem_cons_self
      · have h2:((x,k') :: r.map fun (n,k)=>if (k == NameKind.free && env.scope.kind == .function && env.kindOf n == some .cell) then (n,NameKind.cell) else (n,k)).lookup x=some k:=by
          have e:(if (k' == NameKind.free && env.scope.kind == .function && env.kindOf x == some .cell)=true then (x,NameKind.cell) else (x,k'))=(x,k'):=if_neg hb
          rw [← e];exact h
        simp only [lookup_cons,beq_self_eq_true] at h2
        cases h2
        rcases hk with rfl | rfl
        · exact .inr mem_cons_self
        · exact .inl mem_cons_self
    · have hx':(x == n)=false:=by simpa using hx
      have h2:(r.map fun (n,k)=>if (k == NameKind.free && env.scope.kind == .function && env.kindOf n == some .cell) then (n,NameKind.cell) else (n,k)).lookup x=some k:=by
        by_cases hb:(k' == NameKind.free && env.scope.kind == .function && env.kindOf n == some .cell)=true
        · have e:(if (k' == NameKind.free && env.scope.kind == .function && env.kindOf n == some .cell)=true then (n,NameKind.cell) else (n,k'))=(n,NameKind.cell):=if_pos hb
          have h3:((n,NameKind.cell) :: r.map fun (n,k)=>if (k == NameKind.free && env.scope.kind == .function && env.kindOf n == some .cell) then (n,NameKind.cell) else (n,k)).lookup x=some k:=by rw [← e];exact h
          simpa only [lookup_cons,hx'] using h3
        · have e:(if (k' == NameKind.free && env.scope.kind == .function && env.kindOf n == some .cell)=true then (n,NameKind.cell) else (n,k'))=(n,k'):=if_neg hb
          have h3:((n,k') :: r.map fun (n,k)=>if (k == NameKind.free && env.scope.kind == .function && env.kindOf n == some .cell) then (n,NameKind.cell) else (n,k)).lookup x=some k:=by rw [← e];exact h
          simpa only [lookup_cons,hx'] using h3
      rcases zdd h2 hk with q | q
      · exact .inl (mem_cons_of_mem _ q)
      · exact .inr (mem_cons_of_mem _ q)
theorem zdh {env:Env} {x:Str}:∀ {names:List (Str×NameKind)},names.lookup x=some .free →
    (names.map fun (n,k)=>if (k == NameKind.free && env.scope.kind == .function && env.kindOf n == some .cell) then (n,NameKind.cell) else (n,k)).lookup x=some .cell ∨
    (names.map fun (n,k)=>if (k == NameKind.free && env.scope.kind == .function && env.kindOf n == some .cell) then (n,NameKind.cell) else (n,k)).lookup x=some .free
  | [],h=>by simp at h
  | (n,k') :: r,h=>by
    rw [map_cons]
    by_cases hx:x=n
    · subst hx
      simp only [lookup_cons,beq_self_eq_true] at h
      cases h
      by_cases hb:(NameKind.free == NameKind.free && env.scope.kind == .function && env.kindOf x == some .cell)=true
      · have e:(if (NameKind.free == NameKind.free && env.scope.kind == .function && env.kindOf x == some .cell)=true then (x,NameKind.cell) else (x,NameKind.free))=(x,NameKind.cell):=if_pos hb
        left
        show List.lookup x ((if (NameKind.free == NameKind.free && env.scope.kind == .function && env.kindOf x == some .cell)=true then (x,NameKind.cell) else (x,NameKind.free)) :: _)=_
        rw [e];simp [lookup_cons]
      · have e:(if (NameKind.free == NameKind.free && env.scope.kind == .function && env.kindOf x == some .cell)=true then (x,NameKind.cell) else (x,NameKind.free))=(x,NameKind.free):=if_neg hb
        right
        show List.lookup x ((if (NameKind.free == NameKind.free && env.scope.kind == .function && env.kindOf x == some .cell)=true then (x,NameKind.cell) else (x,NameKind.free)) :: _)=_
        rw [e];simp [lookup_cons]
    · have hx':(x == n)=false:=by simpa using hx
      simp only [lookup_cons,hx'] at h
      have ih:=zdh (env:=env) h
      have step:∀ k,(r.map fun (n,k)=>if (k == NameKind.free && env.scope.kind == .function && env.kindOf n == some .cell) then (n,NameKind.cell) else (n,k)).lookup x=some k →
        List.lookup x ((if (k' == NameKind.free && env.scope.kind == .function && env.kindOf n == some .cell)=true then (n,NameKind.cell) else (n,k')) :: (r.map fun (n,k)=>if (k == NameKind.free && env.scope.kind == .function && env.kindOf n == some .cell) then (n,NameKind.cell) else (n,k)))=some k:=fun k hk=>by
          by_cases hb:(k' == NameKind.free && env.scope.kind == .function && env.kindOf n == some .cell)=true
          · rw [if_pos hb];simpa only [lookup_cons,hx'] using hk
          · rw [if_neg hb];simpa only [lookup_cons,hx'] using hk
      rcases ih with ih | ih
      · exact .inl (step _ ih)
      · exact .inr (step _ ih)
theorem zSm {b:Addr} (I:Inv X pins σ H s) (h1:b≠X.env.locals) (h2:b∉X.fs):b∉frs X.stack:=fun z =>
  (List.mem_cons.mp (I.stkSub b z)).elim h1 h2
theorem σC_get {n:Nat} {i:Nat} {v:V} (h:(σC n fr σ)[i]?=some (some v)):n≤i∧∃ j,fr[i - n]?=some j∧σ[j]?=some (some v):=by
  unfold σC at h
  by_cases hi:i<n
  · rw [List.getElem?_append_left (by simpa using hi),List.getElem?_replicate] at h
    split at h <;> cases h
  · have hi:n≤i:=Nat.le_of_not_lt hi
    rw [List.getElem?_append_right (by simpa using hi),List.length_replicate,List.getElem?_map] at h
    cases e:fr[i - n]? with
    | none=>rw [e] at h;cases h
    | some j =>
      rw [e] at h
      refine ⟨hi,j,rfl,?_⟩
      have h':(σ[j]?).getD none=some v:=Option.some.inj h
      cases e2:σ[j]? with
      | none=>rw [e2] at h';cases h'
      | some o=>rw [e2] at h';exact congrArg some h'
theorem zCj:∀ (names:List (Str×NameKind)) (n:Nat) (acc:List (Str×Addr)),cellsFrom n names acc=cellsFrom n names []++acc
  | [],n,acc=>rfl
  | (x,k) :: r,n,acc=>by
    unfold cellsFrom
    split
    · rw [zCj r (n+1) ((x,n) :: acc),zCj r (n+1) [(x,n)]]
      simp
    · exact zCj r n acc
theorem zpj:∀ (names:List (Str×NameKind)) (n:Nat) (x:Str) (c:Addr),(x,c)∈cellsFrom n names []→n≤c∧(x,NameKind.cell)∈names
  | [],n,x,c,h=>by cases h
  | (y,k) :: r,n,x,c,h=>by
    unfold cellsFrom at h
    split at h
    · rename_i hk
      rw [zCj] at h
      rcases List.mem_append.mp h with h | h
      · obtain ⟨h1,h2⟩:=zpj r (n+1) x c h
        exact ⟨Nat.le_of_succ_le h1,mem_cons_of_mem _ h2⟩
      · have e:(x,c)=(y,n):=by simpa using h
        cases e
        rw [beq_iff_eq.mp hk]
        exact ⟨Nat.le_refl _,mem_cons_self⟩
    · obtain ⟨h1,h2⟩:=zpj r n x c h
      exact ⟨h1,mem_cons_of_mem _ h2⟩
theorem zdn {names:List (Str×NameKind)} {n:Nat} {acc:List (Str×Addr)} {x:Str} {c:Addr} (h:(cellsFrom n names acc).lookup x=some c):(cellsFrom n names []).lookup x=some c∨((cellsFrom n names []).lookup x=none∧acc.lookup x=some c):=by
  rw [zCj,List.lookup_append] at h
  cases e:(cellsFrom n names []).lookup x with
  | none=>rw [e] at h;exact .inr ⟨rfl,h⟩
  | some d=>rw [e] at h;exact .inl h
theorem zFt {names:List (Str×NameKind)} {n:Nat} {x:Str} (hn:∀ y∈names,names.lookup y.1=some y.2) (h:(x,NameKind.free)∈names):(cellsFrom n names []).lookup x=none:=by
  cases e:(cellsFrom n names []).lookup x with
  | none=>rfl
  | some c =>
    have h1:=hn _ (zpj _ _ _ _ (PySem.mem_of_lookup e)).2
    have h2:=hn _ h
    rw [h1] at h2
    cases h2
theorem zxs {fp:List Addr} {D C:Addr} {lo:Nat} {h1:Heap} {t:Nat} {mC:Str→Option Value} {oD:Obj} (I:Inv X pins σ H s) (hf:∀ b∈fp,zQn X pins H b) (hfl:∀ b∈fp,b<s.heap.objs.size)
    (hk:scope.kind = .function) (hnm:∀ y∈scope.names,scope.names.lookup y.1=some y.2) (hfree:∀ x∈scope.names,x.2 = .free→(X.env.kindOf x.1=some .cell∨X.env.kindOf x.1=some .free))
    (hfr:∀ i∈fr,∃ x,X.N[i]?=some x∧scope.names.lookup x=some .free) (hlo:C<lo) (hOC:CellsOk h1 lo (cellsFrom lo scope.names []))
    (old:∀ b o,s.heap.get? b=some o→h1.get? b=some o) (hD:s.heap.objs.size≤D) (hC:s.heap.objs.size≤C) (hDC:D≠C) (hDlo:D<lo) (eD:h1.get? D=some oD) (dD:∀ v,oD.data≠.cell v) (nC:h1.Ns C mC) :
    Inv (cxC X own fr scope (cellsFrom lo scope.names (zub X.env.cells scope.names [])) C s H fp) (pins ++ [(D,oD)]) (σC own.length fr σ) H { s with heap:=h1,toks:=t }:=by
  have cl1:∀ x c,(zub X.env.cells scope.names []).lookup x=some c→X.env.cells.lookup x=some c:=fun x c e=>by
    rcases zAk _ _ e with q | q
    · cases q
    · exact q
  have clH:∀ x,(x,NameKind.free)∈scope.names→∃ c,(cellsFrom lo scope.names (zub X.env.cells scope.names [])).lookup x=some c∧X.env.cells.lookup x=some c:=fun x hx=>by
    obtain ⟨c,hc⟩:=I.ok.has x (hfree _ hx rfl)
    obtain ⟨c',hc'⟩:=Option.isSome_iff_exists.mp (zat hc scope.names [] hx)
    exact ⟨c',by rw [zCj,List.lookup_append,zFt hnm hx];exact hc',cl1 _ _ hc'⟩
  have two:∀ x c,(cellsFrom lo scope.names (zub X.env.cells scope.names [])).lookup x=some c→((cellsFrom lo scope.names []).lookup x=some c∧lo≤c)∨X.env.cells.lookup x=some c:=fun x c e=>by
    rcases zdn e with q | ⟨_,q⟩
    · exact .inl ⟨q,(zpj _ _ _ _ (PySem.mem_of_lookup q)).1⟩
    · exact .inr (cl1 _ _ q)
  have oldc:∀ x c,X.env.cells.lookup x=some c→c<s.heap.objs.size:=fun x c e=>by
    obtain ⟨v,o,ho,_⟩:=I.cell x c e
    exact Heap.lt_size ho
  have hslo:s.heap.objs.size≤lo:=Nat.le_trans hC (Nat.le_of_lt hlo)
  refine ⟨⟨I.ok.mod,hk,I.ok.glob,I.ok.blt,hC,fun x y c e1 e2=>?inj,fun x hx=>?_,fun x c hx e=>?cab,I.ok.hd,I.ok.frames, .inl rfl,fun b hb=>⟨?_,fun x c e=>?exf⟩,I.bs,Nat.le_trans I.ok.bsz I.sz,fun b o e hb=>?_,fun b hb=>?_,I.stack,I.stkFree⟩,
    rfl,I.bare,Un.kept old,⟨mC,nC,fun i x v h1 h2 h3=>?_⟩,fun x c e=>?cell,I.hok.fresh hC,fun x c e=>?freeC,fun p hp=>?_,I.hok.kept old,?_⟩
  case inj =>
    rcases two x c e1 with ⟨q1,l1⟩ | q1
    · rcases two y c e2 with ⟨q2,_⟩ | q2
      · exact name_of_addr hOC.apart (PySem.mem_of_lookup q1) (PySem.mem_of_lookup q2)
      · exact absurd (Nat.lt_of_lt_of_le (oldc y c q2) (Nat.le_trans hslo l1)) (Nat.lt_irrefl _)
    · rcases two y c e2 with ⟨_,l2⟩ | q2
      · exact absurd (Nat.lt_of_lt_of_le (oldc x c q1) (Nat.le_trans hslo l2)) (Nat.lt_irrefl _)
      · exact I.ok.inj x y c q1 q2
  case cab =>
    have hx:(scope.names.lookup x == some .cell)=true:=hx
    obtain ⟨d,hd⟩:=Option.isSome_iff_exists.mp (W.cellsFrom_some scope.names lo [] (.inl (beq_iff_eq.mp hx)))
    rcases zdn (show (cellsFrom lo scope.names (zub X.env.cells scope.names [])).lookup x=some c from e) with q | ⟨q,_⟩
    · exact Nat.le_trans hslo (zpj _ _ _ _ (PySem.mem_of_lookup q)).1
    · rw [q] at hd;cases hd
  case exf =>
    rcases two x c e with ⟨_,l⟩ | q
    · exact Nat.ne_of_gt (Nat.lt_of_lt_of_le (hfl b hb) (Nat.le_trans hslo l))
    · exact (hf b hb).2.2.2.2.1 x c q
  case cell =>
    rcases two x c e with ⟨q,_⟩ | q
    · exact ⟨none,(hOC.empty x c (PySem.mem_of_lookup q)).1⟩
    · obtain ⟨v,o,ho,hd⟩:=I.cell x c q
      exact ⟨v,o,old _ _ ho,hd⟩
  case freeC =>
    rcases two x c e with ⟨_,l⟩ | q
    · exact I.hok.fresh (Nat.le_trans hslo l)
    · exact I.freeC x c q
  · have hx':(relabel scope X.env).names.lookup x=some .cell∨(relabel scope X.env).names.lookup x=some .free:=hx
    have hm:(x,NameKind.free)∈scope.names∨(x,NameKind.cell)∈scope.names:=by
      rcases hx' with h | h
      · exact zdd (env:=X.env) h (.inl rfl)
      · exact zdd (env:=X.env) h (.inr rfl)
    rcases hm with hm | hm
    · obtain ⟨c,e,_⟩:=clH x hm
      exact ⟨c,e⟩
    · exact Option.isSome_iff_exists.mp (W.cellsFrom_some scope.names lo _ (.inl (hnm _ hm)))
  · exact Nat.ne_of_lt (Nat.lt_of_lt_of_le (hfl b hb) hC)
  · rcases (hf b hb).2.2.2.1 with z | z
    · exact I.ok.noex b o e z
    · exact absurd (Nat.lt_of_lt_of_le (Heap.lt_size e) (Nat.le_trans I.ok.bsz z)) (Nat.lt_irrefl _)
  · exact zSm I (hf b hb).2.1 (hf b hb).2.2.1
  · obtain ⟨hi,j,e1,e2⟩:=σC_get h2
    have hjm:j∈fr:=mem_of_getElem? e1
    obtain ⟨y,ey,ly⟩:=hfr j hjm
    have hxy:x=y:=by
      have h1':(own++fr.map fun i=>X.N.getD i Str.empty)[i]?=some x:=h1
      rw [List.getElem?_append_right hi,List.getElem?_map,e1] at h1'
      have h1'':X.N.getD j Str.empty=x:=Option.some.inj h1'
      rw [getD_eq_getElem?_getD,ey] at h1''
      exact h1''.symm
    subst hxy
    have hm:(x,NameKind.free)∈scope.names:=PySem.mem_of_lookup ly
    have hv:Vis X.env.scope x:=by
      rcases hfree _ hm rfl with q | q
      · exact .inr (.inl q)
      · exact .inr (.inr q)
    obtain ⟨m,hn,hl⟩:=id I.loc
    obtain ⟨u,ru,q⟩:=hl j x v ey e2 hv
    obtain ⟨c,c1,c2⟩:=clH x hm
    refine ⟨u,ru, .inr ⟨zdh (env:=X.env) ly,c,c1,?_⟩⟩
    rcases q with ⟨k,_⟩ | ⟨k,c',e',z⟩
    · rcases hfree _ hm rfl with q | q
      · rw [show X.env.kindOf (x,NameKind.free).1=X.env.kindOf x from rfl,k] at q;cases q
      · rw [show X.env.kindOf (x,NameKind.free).1=X.env.kindOf x from rfl,k] at q;cases q
    · rw [c2] at e';cases e'
      obtain ⟨o,ho,hd⟩:=z
      exact ⟨o,old _ _ ho,hd⟩
  · have hp':p∈X.pn++(pins ++ [(D,oD)]):=hp
    rw [← append_assoc] at hp'
    rcases List.mem_append.mp hp' with hp' | hp'
    · obtain ⟨a1,a2,a3,a4,a5⟩:=I.pin p hp'
      exact ⟨old _ _ a1,a2,Nat.ne_of_lt (Nat.lt_of_lt_of_le (Heap.lt_size a1) hC),zSm I a3 a4,a5⟩
    · have:p=(D,oD):=by simpa using hp'
      subst this
      refine ⟨eD,I.hok.fresh hD,hDC,fun z=>?_,dD⟩
      rcases List.mem_cons.mp (I.stkSub _ z) with z | z
      · exact absurd (Nat.lt_of_lt_of_le I.lt (z▸hD)) (Nat.lt_irrefl _)
      · exact I.nofs hD z
  · show (σC own.length fr σ).length=(own++fr.map fun i=>X.N.getD i Str.empty).length
    unfold σC
    simp
end
theorem HOk.track {P:Program} {w:World} {H:Hp} {h:Heap} {a:Addr} {o:HO} (x:HOk P w H h) (hn:H a=none) (new:ObjOk P w (upd H a o) h a o):HOk P w (upd H a o) h:=fun b u e=>by
  by_cases hb:b=a
  · subst hb;rw [zo] at e;cases e;exact new
  · rw [zw hb] at e
    exact (x b u e).stay (fun c v _ q=>q) (fun c q=>by rw [zw (zq q hn)];exact q) fun c xs q=>by rw [zw (zq q hn)];exact q
theorem newEnvC {M:Model} {A:Around} {E:Value→Shared→Prop} {s:Shared} {scope:Scope} {globals:Addr} {cl:List (Str×Addr)} {qual:Str} {env:Env} {Q:Env→Shared→Prop}
    (hQ:Q (newEnv scope s.heap.objs.size globals (cellsFrom (s.heap.objs.size+1) scope.names cl) qual none .none (some env) builtinsNs) { s with heap:=pushCells (s.heap.push { cls := .type "dict",data := .dict #[] }) scope.names }) :
    wpAny M A (newFunctionEnv scope globals cl [] qual none .none (some env)) Q E s:=by
  simp only [newFunctionEnv,Option.isSome_some,if_true]
  refine wpAny_bind (wpAny_alloc ?_)
  refine wpAny_bind (wpAny_layCells _ (fun name kind cells=>by cases hkc:kind == NameKind.cell <;> simp [hkc]) _ _ _ _ ?_)
  rw [show ({ s with heap:=s.heap.push { cls := .type "dict",data := .dict #[] } }:Shared).heap.objs.size=s.heap.objs.size+1 from Heap.size_push ..]
  refine wpAny_bind ?_
  rw [List.forIn_nil]
  exact wpAny_pure (wpAny_pure hQ)
section
variable {X:Cx} {own:List Str} {fr:List Nat} {scope:Scope}
structure Walked (X:Cx) (pins:List (Addr×Obj)) (σ:L2.St) (H:Hp) (ys:List V) (D C:Addr) (s:Shared):Prop where
  inv:Inv X pins σ (upd H D (.lst ys)) s
  free:H D=none
  freeC:upd H D (.lst ys) C=none
  own:∃ m,s.heap.Ns C m
  notL:C≠X.env.locals
  young:X.s₀.heap.objs.size≤C
  notCell:∀ x c,X.env.cells.lookup x=some c→c≠C
  notPin:∀ p∈X.pn++pins,p.1≠C
theorem zku {elt tg iter:Expr} {ifs:List Expr} {pos:Pos} {g:TG} {tc:TT} {te:TE} {pins:List (Addr×Obj)} {σ:L2.St} {s2:Shared} {Qn:List V→Hp→Prop} {itv:Value} {RR:Value→Addr→Result→Shared→Prop} (own:List Str) (fr:List Nat) (hc:X.calm=true)
    (hg:∀ cl C s₀ H₀ fp,PG (cxC X own fr scope cl C s₀ H₀ fp) tg g) (hq:∀ cl C s₀ H₀ fp,PF (cxC X own fr scope cl C s₀ H₀ fp) ifs tc) (he:∀ cl C s₀ H₀ fp,PE (cxC X own fr scope cl C s₀ H₀ fp) elt te)
    (hk:scope.kind = .function) (hnm:∀ y∈scope.names,scope.names.lookup y.1=some y.2)
    (hfree:∀ x∈scope.names,x.2 = .free→(X.env.kindOf x.1=some .cell∨X.env.kindOf x.1=some .free)) (hfr:∀ i∈fr,∃ x,X.N[i]?=some x∧scope.names.lookup x=some .free)
    (h2:PIE X pins σ tg (fun J H1=>∃ W:Nat→Nat→List V→Hp→Prop,(∃ m,W 0 m [] H1)∧∀ i m ys H,W i m ys H →
      (J.stop i H∧Qn ys H)∨(J.go i H∧ys.length<sizeLine∧∀ x H',J.yld i H x H'→g x (σC own.length fr σ) H' fun σ2 H2=>zit (σC own.length fr σ) σ2∧tc σ2 H2 fun b H3 =>
        if b=true then te σ2 H3 fun y H4=>∃ m',m'<m∧W (i+1) m' (ys ++ [y]) H4 else ∃ m',m'<m∧W (i+1) m' ys H3)) itv s2)
    (fin:∀ ys H D C s4,Qn ys H→Walked X pins σ H ys D C s4→RR (.ref D) C (.ok .next) s4) :
    wpAny (model X.prog X.w) X.A (newList []) (fun acc s₃=>wpAny (model X.prog X.w) X.A (newFunctionEnv scope X.env.globals (zub X.env.cells scope.names []) [] X.env.qual none .none (some X.env)) (fun cenv s₄ =>
      codeAny (model X.prog X.w) X.A (.compStart (.ListComp elt [⟨tg,iter,ifs,0⟩] scope pos) 0 itv acc { cenv with scope:=relabel scope X.env }) (RR acc cenv.locals) s₄) X.xe s₃) X.xe s2:=by
  obtain ⟨it,fp,tn,J,H2,e,I2,T,st2,f2,W,⟨m0,w0⟩,turn⟩:=h2
  subst e
  have hfl:∀ b∈fp,b<s2.heap.objs.size:=fun b hb=>by
    obtain ⟨o,e,_⟩:=T.obj _ _ st2 b hb
    exact Heap.lt_size e
  refine wpAny_newObj_type (newEnvC ?_)
  dsimp only
  generalize hH2:s2.heap.push { cls := .type "list",dict:=none,data := .seq ([]:List Value).toArray } = G2
  have hC:G2.objs.size=s2.heap.objs.size+1:=by rw [← hH2,Heap.size_push]
  have hDC:s2.heap.objs.size≠G2.objs.size:=by rw [hC];exact Nat.ne_of_lt (Nat.lt_succ_self _)
  have hCle:s2.heap.objs.size≤G2.objs.size:=by rw [hC];exact Nat.le_succ _
  have below:∀ b,b<s2.heap.objs.size→b≠G2.objs.size∧b≠s2.heap.objs.size:=fun b hb=>⟨by rw [hC];exact Nat.ne_of_lt (Nat.lt_succ_of_lt hb),Nat.ne_of_lt hb⟩
  have hns₁:(pushCells (G2.push { cls := .type "dict",data := .dict #[] }) scope.names).Ns G2.objs.size (fun _=>none):=(Heap.Ns.new G2 (.type "dict")).keeps fun b o e=>pushCells_keeps _ _ _ _ e
  have hok₁:CellsOk (pushCells (G2.push { cls := .type "dict",data := .dict #[] }) scope.names) (G2.objs.size+1) (cellsFrom (G2.objs.size+1) scope.names []):=by
    have:=cellsFrom_ok scope.names (G2.push { cls := .type "dict",data := .dict #[] }) (G2.objs.size+1) [] ⟨fun _ _ hm=>(nomatch hm),List.Pairwise.nil⟩ (by rw [Heap.size_push];exact Nat.le_refl _)
    rw [Heap.size_push] at this
    exact this
  have hk₁:∀ b o,G2.get? b=some o→(pushCells (G2.push { cls := .type "dict",data := .dict #[] }) scope.names).get? b=some o:=fun b o e=>pushCells_keeps _ _ _ _ (Heap.get?_push_of_some _ e)
  generalize pushCells (G2.push { cls := .type "dict",data := .dict #[] }) scope.names=h₁ at hns₁ hok₁ hk₁ ⊢
  have old:∀ b o,s2.heap.get? b=some o→h₁.get? b=some o:=fun b o e=>hk₁ b o (hH2▸Heap.get?_push_of_some _ e)
  have hacc:h₁.get? s2.heap.objs.size=some { cls := .type "list",data := .seq ([]:List Value).toArray 0 }:=hk₁ _ _ (hH2▸Heap.get?_push_size _ rfl)
  generalize hXC:cxC X own fr scope (cellsFrom (G2.objs.size+1) scope.names (zub X.env.cells scope.names [])) G2.objs.size s2 H2 fp=XC
  have eenv:compEnvC scope (cellsFrom (G2.objs.size+1) scope.names (zub X.env.cells scope.names [])) G2.objs.size X.env=XC.env:=by rw [← hXC];rfl
  have eprog:XC.prog=X.prog:=by rw [← hXC];rfl
  have ew:XC.w=X.w:=by rw [← hXC];rfl
  have eA:XC.A=X.A:=by rw [← hXC];rfl
  have eK:XC.K=X.K:=by rw [← hXC];rfl
  have ecalm:XC.calm=true:=by rw [← hXC];exact hc
  have exe:XC.xe=fun _ _=>False:=by rw [← hXC];rfl
  have eloc:XC.env.locals=G2.objs.size:=by rw [← hXC];rfl
  have eex:XC.ex=fp:=by rw [← hXC];rfl
  have efs:XC.fs=frs X.stack:=by rw [← hXC];rfl
  have es0:XC.s₀ = s2:=by rw [← hXC];rfl
  have eH0:XC.H₀ = H2:=by rw [← hXC];rfl
  have epn:XC.pn=X.pn:=by rw [← hXC];rfl
  have ecells:∀ x c,XC.env.cells.lookup x=some c→X.env.cells.lookup x=some c∨G2.objs.size<c:=fun x c e=>by
    rw [← hXC] at e
    rcases zdn (show (cellsFrom (G2.objs.size+1) scope.names (zub X.env.cells scope.names [])).lookup x=some c from e) with q | ⟨_,q⟩
    · exact .inr (zpj _ _ _ _ (PySem.mem_of_lookup q)).1
    · rcases zAk _ _ q with q | q
      · cases q
      · exact .inl q
  have hg':PG XC tg g:=hXC▸hg _ _ _ _ _
  have hq':PF XC ifs tc:=hXC▸hq _ _ _ _ _
  have he':PE XC elt te:=hXC▸he _ _ _ _ _
  have fpok:∀ {H':Hp} {pl:List (Addr×Obj)},(∀ b∈fp,H' b=none)→(∀ p∈pl,p.1=s2.heap.objs.size)→∀ b∈fp,zQn XC (pins++pl) H' b:=fun {H' pl} hn hpl b hb=>by
    obtain ⟨_,f2,f3,f4,f5,f6⟩:=f2 b hb
    refine ⟨hn b hb,by rw [eloc];exact (below b (hfl b hb)).1,by rw [efs];exact zSm I2 f2 f3, .inl (by rw [eex];exact hb),fun x c e=>?c5,fun p hp=>?_⟩
    case c5 =>
      rcases ecells x c e with q | q
      · exact f5 x c q
      · exact Nat.ne_of_gt (Nat.lt_of_lt_of_le (hfl b hb) (Nat.le_trans hCle (Nat.le_of_lt q)))
    rw [epn,← append_assoc] at hp
    rcases List.mem_append.mp hp with hp | hp
    · exact f6 p hp
    · rw [hpl p hp];exact Ne.symm (below b (hfl b hb)).2
  have loop:∀ s₃:Shared,s₃ = { s2 with heap:=h₁ } →
      codeAny (model X.prog X.w) X.A (.compLoop (.ListComp elt [⟨tg,iter,ifs,0⟩] scope pos) 0 (.ref it) (.ref s2.heap.objs.size) (compEnvC scope (cellsFrom (G2.objs.size+1) scope.names (zub X.env.cells scope.names [])) G2.objs.size X.env))
        (RR (.ref s2.heap.objs.size) G2.objs.size) s₃:=by
    rintro s₃ rfl
    have I0:=zxs (own:=own) (fr:=fr) (t:=s2.toks) (lo:=G2.objs.size+1) I2 f2 hfl hk hnm hfree hfr (Nat.lt_succ_self _) hok₁ old (Nat.le_refl _) hCle hDC (Nat.lt_succ_of_le hCle) hacc (by intro v z;cases z) hns₁
    rw [hXC] at I0
    refine zpl (fun n s'=>∃ (i:Nat) (ys:List V) (its:Array Value) (k:Nat) (H':Hp),Inv XC (pins ++ [(s2.heap.objs.size,({ cls := .type "list",data := .seq its k }:Obj))]) (σC own.length fr σ) H' s'∧Vals ys its.toList∧ys.length≤sizeLine∧tn i s'.heap∧(∀ b∈fp,H' b=none)∧W i n ys H') ?_ m0
      ⟨0,[],#[],0,H2,I0, .nil,Nat.zero_le _,T.keep _ _ _ st2 (fun b hb o e=>old b o e),fun b hb=>(f2 b hb).1,w0⟩
    rintro n s3 ⟨i,ys,its,kk,H3,I3,rv,hz,st3,fr3,w3⟩
    have pl1:∀ p∈[(s2.heap.objs.size,({ cls := .type "list",data := .seq its kk }:Obj))],p.1=s2.heap.objs.size:=fun p hp=>by
      rw [List.mem_singleton.mp hp]
    rcases turn i n ys H3 w3 with ⟨stop,qn⟩ | ⟨go,hlt,step⟩
    · have td:=T.done XC eprog ew eK ecalm i _ s3 _ H3 (fun _ _=>False) I3 (fpok fr3 pl1) st3 stop
      rw [eA] at td
      refine thn td fun r s4 ⟨hr,I4⟩=>?_
      subst hr
      obtain ⟨m,hn,_⟩:=id I4.loc
      rw [eloc] at hn
      obtain ⟨p1,p2,p3,p4,p5⟩:=I4.pin (s2.heap.objs.size,_) (mem_append_right _ (mem_append_right _ mem_cons_self))
      have hnC:H3 G2.objs.size=none:=by have:=I4.free;rw [eloc] at this;exact this
      have hokf:HOk X.prog X.w (upd H3 s2.heap.objs.size (.lst ys)) s4.heap:=by
        refine HOk.track (by have:=I4.hok;rw [eprog,ew] at this;exact this) p2 ⟨hz,its.toList,kk,rv,by simpa using p1⟩
      have u0:Un (frs X.stack) fp H2 H3 s2.heap s4.heap:=by
        have:=I4.base
        rw [efs,eex,es0,eH0] at this
        exact this
      have u1:Un (frs X.stack) fp H2 (upd H3 s2.heap.objs.size (.lst ys)) s2.heap s4.heap:=by
        have bd:∀ b o,s2.heap.get? b=some o→b≠s2.heap.objs.size:=fun b o e=>(below b (Heap.lt_size e)).2
        refine ⟨u0.keep,u0.slot,fun b o e n hx=>by rw [zw (bd b o e)];exact u0.free b o e n hx,u0.there,fun b xs e=>?_,fun b o u e=>?_,fun b ps e=>?_⟩
        · have q:=u0.tups b xs e
          rw [zw (zq q p2)];exact q
        · have q:=u0.frzs b o u e
          rw [zw (zq q p2)];exact q
        · obtain ⟨more,q⟩:=u0.tbls b ps e
          exact ⟨more,by rw [zw (zq q p2)];exact q⟩
      have os4:s4.os=s2.os:=by have:=I4.os;rw [es0] at this;exact this
      have IF:Inv X pins σ (upd H3 s2.heap.objs.size (.lst ys)) { s2 with heap:=s4.heap,gens:=s4.gens,drawn:=s4.drawn,toks:=s4.toks } :=
        I2.call (h':=s4.heap) (ch:=fp) u1 hokf I4.bare fun b hb=>by
          obtain ⟨_,f2,f3,f4,f5,f6⟩:=f2 b hb
          exact ⟨f4,f2,f5,f6⟩
      have es:s4 = { s2 with heap:=s4.heap,gens:=s4.gens,drawn:=s4.drawn,toks:=s4.toks }:=by
        obtain ⟨a1,a2,a3,a4,a5⟩:=s4
        have:a5=s2.os:=os4
        subst this
        rfl
      rw [← es] at IF
      refine fin ys H3 _ _ s4 qn ⟨IF,p2,by rw [zw (Ne.symm hDC)];exact hnC,⟨m,hn⟩,Ne.symm (below _ I2.lt).1,Nat.le_trans I2.sz hCle,fun x c e=>?_,fun p hp=>?_⟩
      · obtain ⟨v,o,ho,_⟩:=I2.cell x c e
        exact (below c (Heap.lt_size ho)).1
      · exact (below p.1 (Heap.lt_size (I2.pin p hp).1)).1
    · have td:=T.item XC eprog ew eK ecalm i _ s3 _ H3 (fun _ _=>False) I3 (fpok fr3 pl1) st3 go
      rw [eA] at td
      refine thn td fun r s4 ⟨u,hr,h4⟩=>?_
      subst hr
      refine thn h4 fun _ s5 ⟨x,H5,I5,r5,y5,st5,fr5⟩=>?_
      have I5':=I5.pinned (fpok fr5 pl1) (T.obj _ _ st5)
      have hgw:=hg' _ s5 _ H5 x u _ I5' r5 (step x H5 y5)
      rw [exe,eprog,ew,eA] at hgw
      rw [eenv]
      refine thn hgw fun _ s6 ⟨σ6,H6,I6,⟨hsl,hsub⟩,q6⟩=>?_
      have hqw:=hq' _ s6 σ6 H6 _ I6 q6
      rw [exe,eprog,ew,eA] at hqw
      refine thn hqw fun ok s7 ⟨H7,I7,q7⟩=>?_
      have back:∀ {H8:Hp} {s8:Shared},Inv XC (pins ++ [(s2.heap.objs.size,({ cls := .type "list",data := .seq its kk }:Obj))]++zCl fp s5.heap) σ6 H8 s8 →
          Inv XC (pins ++ [(s2.heap.objs.size,({ cls := .type "list",data := .seq its kk }:Obj))]) (σC own.length fr σ) H8 s8∧tn (i+1) s8.heap∧∀ b∈fp,H8 b=none:=fun {H8 s8} I8=>by
        refine ⟨I8.unpinned.weak hsl.symm hsub,T.keep _ _ _ st5 fun b hb o e=>(I8.pin (b,o) (mem_append_right _ (mem_append_right _ (zNe hb e)))).1,fun b hb=>?_⟩
        obtain ⟨o,e,d⟩:=T.obj _ _ st5 b hb
        exact (I8.pin (b,o) (mem_append_right _ (mem_append_right _ (zNe hb e)))).2.1
      cases ok with
      | false =>
        have q7':∃ m',m'<n∧W (i+1) m' ys H7:=by simpa using q7
        rw [if_neg Bool.false_ne_true]
        obtain ⟨m',hm,w7⟩:=q7'
        obtain ⟨J1,J2,J3⟩:=back I7
        exact ⟨m',hm,i+1,ys,its,kk,H7,J1,rv,hz,J2,J3,w7⟩
      | true =>
        rw [if_pos rfl] at q7 ⊢
        have hew:=he' _ s7 σ6 H7 _ I7 q7
        rw [exe,eprog,ew,eA] at hew
        refine thn hew fun y s8 ⟨vy,H8,I8,r8,m',hm,w8⟩=>?_
        obtain ⟨J1,J2,J3⟩:=back I8
        obtain ⟨p1,p2,p3,p4,p5⟩:=J1.pin (s2.heap.objs.size,_) (mem_append_right _ (mem_append_right _ mem_cons_self))
        have hil:its.size=ys.length:=by rw [rv.length];simp
        refine append_at (hsz:=by rw [hil];exact hz) p1 fun h9 sb9 e9=>?_
        have Df:s2.heap.objs.size∉fp:=fun z=>absurd (hfl _ z) (Nat.lt_irrefl _)
        have J0:Inv XC pins (σC own.length fr σ) H8 s8:=J1.unpinned
        have J9:Inv XC pins (σC own.length fr σ) H8 { s8 with heap:=h9 }:=by
          refine J0.turned (t':=s8.toks) (it:=s2.heap.objs.size) (fun b o hb e=>(sb9.2 b hb).trans e) p2 p3 (.inr (by rw [es0];exact Nat.le_refl _)) (fun x c e z=>?_) (fun p hp z=>?_)
          · rcases ecells x c e with q | q
            · obtain ⟨v,o,ho,_⟩:=I2.cell x c q
              exact (below c (Heap.lt_size ho)).2 z
            · exact Nat.ne_of_gt (Nat.lt_of_le_of_lt hCle q) z
          · rw [epn] at hp
            exact (below p.1 (Heap.lt_size (I2.pin p hp).1)).2 z
        refine ⟨m',hm,i+1,ys ++ [vy],its.push y,kk+1,H8,J9.pins_of fun p hp=>?_,?_,by simp;exact hlt,T.keep _ _ _ J2 (fun b hb o e=>(sb9.2 b (fun z=>Df (z▸hb))).trans e),J3,w8⟩
        · rcases List.mem_append.mp hp with hp | hp
          · exact J9.pin p (mem_append_right _ hp)
          · have e:=List.mem_singleton.mp hp
            subst e
            exact ⟨e9,p2,p3,p4,by intro v z;cases z⟩
        · rw [Array.toList_push]
          exact rv.append (.cons r8 .nil)
  exact codeAny_compStart_list (loop _ rfl) (T.self X.A 0 _ _ _ (T.keep _ _ _ st2 fun b hb o e=>old b o e) (loop _ rfl))
theorem Walked.gone {pins:List (Addr×Obj)} {σ:L2.St} {H:Hp} {ys:List V} {D C:Addr} {s:Shared} (w:Walked X pins σ H ys D C s) {h':Heap} (sb:Heap.SameBut C s.heap h'):Inv X pins σ (upd H D (.lst ys)) { s with heap:=h' } :=
  w.inv.turned (t':=s.toks) (fun b o hb e=>(sb.2 b hb).trans e) w.freeC (Ne.symm (Ne.symm w.notL)) (.inr w.young) w.notCell w.notPin
theorem zdx {elt tg iter:Expr} {ifs:List Expr} {pos:Pos} {wi:TI} {g:TG} {tc:TT} {te:TE} (own:List Str) (fr:List Nat) (hc:X.calm=true) (hi:PI X tg iter wi)
    (hg:∀ cl C s₀ H₀ fp,PG (cxC X own fr scope cl C s₀ H₀ fp) tg g) (hq:∀ cl C s₀ H₀ fp,PF (cxC X own fr scope cl C s₀ H₀ fp) ifs tc) (he:∀ cl C s₀ H₀ fp,PE (cxC X own fr scope cl C s₀ H₀ fp) elt te)
    (hk:scope.kind = .function) (hnm:∀ y∈scope.names,scope.names.lookup y.1=some y.2)
    (hfree:∀ x∈scope.names,x.2 = .free→(X.env.kindOf x.1=some .cell∨X.env.kindOf x.1=some .free)) (hfr:∀ i∈fr,∃ x,X.N[i]?=some x∧scope.names.lookup x=some .free)
    (hs:∀ x,foldedSetIterable iter X.env x=pure x:=by intro _;rfl):PE X (.ListComp elt [⟨tg,iter,ifs,0⟩] scope pos) (tLC own.length fr wi g tc te):=by
  intro pins s σ H Q I h
  rw [eval_ListComp]
  have hclos:closureFor scope X.env=pure (zub X.env.cells scope.names []):=zTo fun x hx e=>I.ok.has x.1 (hfree x hx e)
  refine wpAny_comprehension_free (use:=none) rfl hs hclos hk (fun x hx e=>by rw [hnm x hx,e]) ?_
  show wpAny _ _ (eval iter X.env) _ _ s
  refine thn (hi pins s σ H _ I h) fun v s1 h1=>thn h1 fun itv s2 h2=>?_
  refine zku (RR:=fun acc C=>compPost (model X.prog X.w) X.A X.xe none (EP X pins σ Q) acc C) own fr hc hg hq he hk hnm hfree hfr h2 fun ys H3 D C s4 q w=>?_
  obtain ⟨m,hn⟩:=w.own
  exact ⟨m,hn,fun h' sb=>⟨.ref D,_,w.gone sb,rfl,q D w.free⟩⟩
end
section
variable {K:W.Frag} {ρ ρ1:List Addr} {H H1:Hp}
theorem OutOk.ext {W:XK} {E:Ends} {o:Out} (h:OutOk K W ρ H E o) (x:Ext ρ H ρ1 H1):OutOk K W ρ1 H1 E o:=by
  cases o with
  | next δ μ=>exact fun ρ' σ' H' x' A=>h ρ' σ' H' (x.trans x') A
  | brk δ μ=>exact fun ρ' σ' H' x' A=>h ρ' σ' H' (x.trans x') A
  | cont δ μ=>exact fun ρ' σ' H' x' A=>h ρ' σ' H' (x.trans x') A
  | ret d μ=>exact fun ρ' v H' x' R r=>h ρ' v H' (x.trans x') R r
  | exc c fs μ=>exact fun ρ' H' C dx hc x' R r=>h ρ' H' C dx hc (x.trans x') R r
theorem At.set {σ:L2.St} {δ:Loc} {μ:Mem} {d:D} {v:V} (A:At K ρ H σ δ μ) (r:RepV K ρ H d v) (i:Nat):At K ρ H (σ.set i (some v)) (δ.set i (some d)) μ:=by
  refine ⟨fun j d' e=>?_,A.hp,by simp [A.len]⟩
  by_cases hj:j=i
  · subst hj
    have hl:j < δ.length:=by
      have:=(List.getElem?_eq_some_iff.mp e).1
      simpa using this
    rw [List.getElem?_set_self hl] at e
    cases e
    exact ⟨v,by rw [List.getElem?_set_self (by rw [A.len];exact hl)],r⟩
  · rw [List.getElem?_set_ne (Ne.symm hj)] at e
    obtain ⟨u,e1,q⟩:=A.st j d' e
    exact ⟨u,by rw [List.getElem?_set_ne (Ne.symm hj)];exact e1,q⟩
end
section
variable {X:Cx} {a b c e:Expr} {es:List Expr} {φ ψ χ:FE} {pos:Pos} {st:Stmt} {rest:List Stmt}
@[simp] noncomputable def zJb:FS:=fun δ μ=>some (.next δ μ)
@[simp] noncomputable def zX (p q:FS):FS:=fun δ μ=>match p δ μ with
  | some (.next δ' μ')=>q δ' μ'
  | o=>o
theorem zS:MSs X [] zJb:=zXs zVt fun ρ δ μ σ H o E A e k=>by
  cases e
  exact k ρ σ H Ext.refl A
theorem zj {p:FS} (h:MS X st p):MSs X [st] p:=zar h
theorem zh {p q:FS} (h1:MS X st p) (h2:MSs X rest q):MSs X (st :: rest) (zX p q) :=
  zXs (zso h1 h2) fun ρ δ μ σ H o E A e k=>by
    unfold zX at e
    show tMS X.K (z7l X) p { E with nx:=tMS X.K (z7l X) q E } σ H
    cases ep:p δ μ with
    | none=>rw [ep] at e;cases e
    | some op =>
      rw [ep] at e
      refine ⟨ρ,δ,μ,op,A,ep,?_⟩
      cases op with
      | next δ' μ'=>exact fun ρ' σ' H' x' A'=>⟨ρ',δ',μ',o,A',e,k.ext x'⟩
      | brk δ' μ'=>cases e;exact k
      | cont δ' μ'=>cases e;exact k
      | ret d μ'=>cases e;exact k
      | exc C fs μ'=>cases e;exact k
@[simp] noncomputable def zUb (φ:FE):FS:=fun δ μ=>(φ δ μ).bind fun p=>some (.ret p.1 p.2)
theorem zC (h:ME X e φ):MS X (.Return (some e) pos) (zUb φ):=zik (z3u h) fun ρ δ μ σ H o E A e k=>by
  obtain ⟨⟨x,μ1⟩,e1,e⟩:=zf e
  cases e
  exact ⟨ρ,δ,μ,x,μ1,A,e1,fun ρ' H' v x' R r=>k ρ' v H' x' R r⟩
@[simp] noncomputable def zHg (φ:FE):FS:=fun δ μ=>(φ δ μ).bind fun p=>some (.next δ p.2)
theorem zid (h:ME X e φ) (hs:swapsWith e none pos.line X.env=pure false:=by rfl):MS X (.Expr e pos) (zHg φ):=zik (zSq h hs) fun ρ δ μ σ H o E A e k=>by
  obtain ⟨⟨x,μ1⟩,e1,e⟩:=zf e
  cases e
  exact ⟨ρ,δ,μ,x,μ1,A,e1,fun ρ' H' v x' R r=>k ρ' σ H' x' (A.ext x' R)⟩
@[simp] noncomputable def zbc (i:Nat) (φ:FE):FS:=fun δ μ=>(φ δ μ).bind fun p=>some (.next (δ.set i (some p.1)) p.2)
theorem zL {x:Str} {pos':Pos} (i:Nat) (he:ME X e φ) (hN:X.N.Nodup:=by first | assumption | decide) (hi:X.N[i]?=some x:=by rfl) (hx:L2.Loc X.env.scope x:=by first | exact Or.inl rfl | exact Or.inr rfl) (hs:swapsWith e (some (.Name x pos')) pos.line X.env=pure false:=by rfl)
    (hf:X.fn x=true∨X.env.scope.names.lookup x=some .local:=by first | exact .inl rfl | exact .inr rfl | assumption):MS X (.Assign [.Name x pos'] e pos) (zbc i φ):=zik (zsv hN hi hx he hs hf) fun ρ δ μ σ H o E A e k=>by
  obtain ⟨⟨x,μ1⟩,e1,e⟩:=zf e
  cases e
  exact ⟨ρ,δ,μ,x,μ1,A,e1,fun ρ' H' v x' R r=>k ρ' _ H' x' ((A.ext x' R).set r i)⟩
@[simp] noncomputable def sIf (c:FT) (p q:FS):FS:=fun δ μ=>(c δ μ).bind fun t=>bif t.1 then p δ t.2 else q δ t.2
theorem zHb {s1 s2:List Stmt} {t:FT} {p q:FS} (hc:MT X c t) (h1:MSs X s1 p) (h2:MSs X s2 q):MS X (.If c s1 s2 pos) (sIf t p q):=zik (zcx hc h1 h2) fun ρ δ μ σ H o E A e k=>by
  obtain ⟨⟨x,μ1⟩,e1,e⟩:=zf e
  refine ⟨ρ,δ,μ,x,μ1,A,e1,fun ρ' H' x' R=>?_⟩
  cases x with
  | true=>exact iteT ⟨ρ',δ,μ1,o,A.ext x' R,e,k.ext x'⟩
  | false=>exact iteF ⟨ρ',δ,μ1,o,A.ext x' R,e,k.ext x'⟩
noncomputable def zlq:FS:=fun _ _=>none
theorem zno:MS X st zlq:=zik zks fun _ _ _ _ _ _ _ _ e _=>by cases e
noncomputable abbrev FG:=D→Loc→Mem→Option (Loc×Mem)
noncomputable abbrev FGs:=List D→Loc→Mem→Option (Loc×Mem)
noncomputable def tMG (K:W.Frag) (g:FG):TG:=fun v σ H Q=>∃ ρ δ μ d δ' μ',At K ρ H σ δ μ∧RepV K ρ H d v∧g d δ μ = some (δ',μ')∧∀ ρ' σ' H',Ext ρ H ρ' H'→At K ρ' H' σ' δ' μ'→Q σ' H'
noncomputable def zay (K:W.Frag) (g:FGs):TGs:=fun vs σ H Q=>∃ ρ δ μ ds δ' μ',At K ρ H σ δ μ∧RepVs K ρ H ds vs∧g ds δ μ = some (δ',μ')∧∀ ρ' σ' H',Ext ρ H ρ' H'→At K ρ' H' σ' δ' μ'→Q σ' H'
def MG (X:Cx) (t:Expr) (g:FG):Prop:=PG X t (tMG X.K g)
def MGs (X:Cx) (t:List Expr) (g:FGs):Prop:=PGs X t (zay X.K g)
theorem mg_of {t:Expr} {tt:TG} {g:FG} (h:PG X t tt) (w:∀ ρ δ μ d δ' μ' v σ H Q,At X.K ρ H σ δ μ→RepV X.K ρ H d v→g d δ μ = some (δ',μ')→(∀ ρ' σ' H',Ext ρ H ρ' H'→At X.K ρ' H' σ' δ' μ'→Q σ' H')→tt v σ H Q):MG X t g :=
  by intro pins s σ H v u Q I r hh;obtain ⟨ρ,δ,μ,d,δ',μ',A,q,e,k⟩:=hh;exact h pins s σ H v u Q I r (w ρ δ μ d δ' μ' v σ H Q A q e k)
theorem zUs {t:List Expr} {tt:TGs} {g:FGs} (h:PGs X t tt) (w:∀ ρ δ μ d δ' μ' v σ H Q,At X.K ρ H σ δ μ→RepVs X.K ρ H d v→g d δ μ = some (δ',μ')→(∀ ρ' σ' H',Ext ρ H ρ' H'→At X.K ρ' H' σ' δ' μ'→Q σ' H')→tt v σ H Q):MGs X t g :=
  by intro pins s σ H v u Q I r hh;obtain ⟨ρ,δ,μ,d,δ',μ',A,q,e,k⟩:=hh;exact h pins s σ H v u Q I r (w ρ δ μ d δ' μ' v σ H Q A q e k)
@[simp] noncomputable def gN (i:Nat):FG:=fun d δ μ=>some (δ.set i (some d),μ)
theorem zR {x:Str} (i:Nat) (hN:X.N.Nodup:=by first | assumption | decide) (hi:X.N[i]?=some x:=by rfl) (hx:L2.Loc X.env.scope x:=by first | exact Or.inl rfl | exact Or.inr rfl) (hf:X.fn x=true∨X.env.scope.names.lookup x=some .local:=by first | exact .inl rfl | exact .inr rfl | assumption):MG X (.Name x pos) (gN i) :=
  mg_of (zkr hN hi hx hf) fun ρ δ μ d δ' μ' v σ H Q A q e k=>by
    cases e
    exact k ρ _ H Ext.refl (A.set q i)
@[simp] noncomputable def zyg:FGs:=fun ds δ μ=>match ds with
  | []=>some (δ,μ)
  | _=>none
@[simp] noncomputable def znb (g:FG) (gs:FGs):FGs:=fun ds δ μ=>match ds with
  | d :: r=>(g d δ μ).bind fun p=>gs r p.1 p.2
  | _=>none
theorem zKg:MGs X [] zyg:=zUs zKp fun ρ δ μ ds δ' μ' vs σ H Q A q e k=>by
  unfold zyg at e
  split at e
  · cases e
    exact ⟨q.nil_inv,k ρ σ H Ext.refl A⟩
  · cases e
theorem ztb {g:FG} {gs:FGs} (h1:MG X e g) (h2:MGs X es gs) (hs:(assignEach (e :: es) X.env).map (·.2)=assign e X.env :: (assignEach es X.env).map (·.2):=by rfl):MGs X (e :: es) (znb g gs) :=
  zUs (zjo h1 h2 hs) fun ρ δ μ ds δ' μ' vs σ H Q A q e k=>by
    unfold znb at e
    split at e
    · obtain ⟨⟨δ1,μ1⟩,e1,e⟩:=zf e
      obtain ⟨v,r,rfl,q1,q2⟩:=q.cons_inv
      refine ⟨v,r,rfl,ρ,δ,μ,_,δ1,μ1,A,q1,e1,fun ρ1 σ1 H1 x1 A1=>?_⟩
      exact ⟨ρ1,δ1,μ1,_,δ',μ',A1,q2.ext x1,e,fun ρ2 σ2 H2 x2 A2=>k ρ2 σ2 H2 (x1.trans x2) A2⟩
    · cases e
@[simp] noncomputable def gT (n:Nat) (gs:FGs):FG:=fun d δ μ=>match d with
  | .tup ds=>bif ds.length == n then gs ds δ μ else none
  | _=>none
theorem zIl {k n:Nat} {gs:FGs} (h:MGs X es gs) (hc:X.calm=true:=by rfl) (hn:(assignEach es X.env).length=n:=by rfl) (hst:(assignEach es X.env).findIdx? (·.1)=none:=by rfl):MG X (.Tuple es k pos) (gT n gs) :=
  mg_of (z3s hc h hn hst) fun ρ δ μ d δ' μ' v σ H Q A q e k=>by
    unfold gT at e
    split at e
    · obtain ⟨h1,e⟩:=zM e
      obtain ⟨a,vs,rfl,e2,q2⟩:=q.tup_inv
      exact ⟨a,vs,rfl,SqT.of e2,by rw [← q2.length];exact beq_iff_eq.mp h1,ρ,δ,μ,_,δ',μ',A,q2,e,k⟩
    · cases e
@[simp] noncomputable def gAt (φ ψ:FE):FG:=fun d δ μ=>(φ δ μ).bind fun p=>(ψ δ p.2).bind fun q=>match p.1,q.1 with
  | .loc n, .int i=>match q.2[n]? with
    | some (.lst ds)=>(ixN ds.length i).bind fun j=>some (δ,q.2.set n (.lst (ds.set j d)))
    | _=>none
  | _,_=>none
theorem zoq {o i:Expr} (ho:ME X o φ) (hi:ME X i ψ) (ha:∀ v,assign (.Subscript o i pos) X.env v=(do
      let ov ← holding [v] (eval o X.env)
      let iv ← holding [v,ov] (eval i X.env)
      standAt pos
      holding [v,ov,iv] (setItem ov iv v)
      release [v,ov,iv] []):=by intro _;rfl):MG X (.Subscript o i pos) (gAt φ ψ) :=
  mg_of (z2s ho hi zds ha) fun ρ δ μ d δ' μ' v σ H Q A q e k=>by
    obtain ⟨⟨x,μ1⟩,e1,e⟩:=zf e
    obtain ⟨⟨y,μ2⟩,e2,e⟩:=zf e
    refine ⟨ρ,δ,μ,x,μ1,A,e1,fun ρ1 H1 v1 x1 R1 r1=>?_⟩
    refine ⟨ρ1,δ,μ1,y,μ2,A.ext x1 R1,e2,fun ρ2 H2 v2 x2 R2 r2=>?_⟩
    dsimp only at e
    split at e
    · split at e
      · rename_i hm
        obtain ⟨j,e3,e⟩:=zf e
        cases e
        obtain ⟨ad,rfl,hr⟩:=(r1.ext x2).loc_inv
        obtain ⟨vs,hv,q3⟩:=R2.at_ _ _ _ hr hm
        have hmu:Mut (H2 ad):=by rw [hv];trivial
        refine ⟨ad,vs,_,j,rfl,r2.int_inv,hv,by rw [← q3.length];exact e3,?_⟩
        have xx:=x1.trans x2
        have R3:=R2.wr (o := .lst (vs.set j v)) (lo := .lst _) hmu hr ⟨_,zo,RepVs.ext (Ext.wr hmu) (q3.set j (q.ext xx))⟩
        exact k ρ2 σ _ (xx.trans (Ext.wr hmu)) (A.ext (xx.trans (Ext.wr hmu)) R3)
      · cases e
    · cases e
@[simp] noncomputable def z8o (φ:FE) (g:FG):FS:=fun δ μ=>(φ δ μ).bind fun p=>(g p.1 δ p.2).bind fun q=>some (.next q.1 q.2)
theorem zxf {tg:Expr} {g:FG} (he:ME X e φ) (hg:MG X tg g) (hs:swapsWithSole [tg] e pos.line X.env=pure false:=by rfl) (hw:swappedStores [tg] e X.env=pure none:=by rfl)
    (h1:(assignEach [tg] X.env).map (·.2) = [assign tg X.env]:=by rfl):MS X (.Assign [tg] e pos) (z8o φ g):=zik (zgv he hg hs hw h1) fun ρ δ μ σ H o E A e k=>by
  obtain ⟨⟨x,μ1⟩,e1,e⟩:=zf e
  obtain ⟨⟨δ1,μ2⟩,e2,e⟩:=zf e
  cases e
  refine ⟨ρ,δ,μ,x,μ1,A,e1,fun ρ1 H1 v1 x1 R1 r1=>?_⟩
  exact ⟨ρ1,δ,μ1,x,δ1,μ2,A.ext x1 R1,r1,e2,fun ρ2 σ2 H2 x2 A2=>k ρ2 σ2 H2 (x1.trans x2) A2⟩
noncomputable abbrev FI:=Loc→Mem→Option (List D×(Mem→Bool)×Mem)
structure ItIs (K:W.Frag) (J:It) (ρ:List Addr) (H:Hp) (ds:List D) (ok:Mem→Bool):Prop where
  go:∀ ρ' H' μ' (i:Nat),Ext ρ H ρ' H'→RepH K ρ' H' μ'→ok μ'=true→i<ds.length→J.go i H'
  yld:∀ ρ' H' μ' (i:Nat) x H'' d,Ext ρ H ρ' H'→RepH K ρ' H' μ'→ok μ'=true→ds[i]?=some d→J.yld i H' x H''→Ext ρ' H' ρ' H''∧RepH K ρ' H'' μ'∧RepV K ρ' H'' d x
  stop:∀ ρ' H' μ',Ext ρ H ρ' H'→RepH K ρ' H' μ'→ok μ'=true→J.stop ds.length H'
noncomputable def tMI (K:W.Frag) (φ:FI):TI:=fun σ H R=>∃ ρ δ μ ds ok μ',At K ρ H σ δ μ∧φ δ μ = some (ds,ok,μ')∧∀ ρ' H' J,Ext ρ H ρ' H'→RepH K ρ' H' μ'→ItIs K J ρ' H' ds ok→R J H'
def MI (X:Cx) (tg iter:Expr) (φ:FI):Prop:=PI X tg iter (tMI X.K φ)
theorem zAq {tg it:Expr} {t:TI} {φ:FI} (h:PI X tg it t) (w:∀ ρ δ μ σ H ds ok μ' R,At X.K ρ H σ δ μ→φ δ μ = some (ds,ok,μ')→(∀ ρ' H' J,Ext ρ H ρ' H'→RepH X.K ρ' H' μ'→ItIs X.K J ρ' H' ds ok→R J H')→t σ H R):MI X tg it φ :=
  by intro pins s σ H R I hh;obtain ⟨ρ,δ,μ,ds,ok,μ',A,e,k⟩:=hh;exact h pins s σ H R I (w ρ δ μ σ H ds ok μ' R A e k)
@[simp] noncomputable def yes:Mem→Bool:=fun _=>true
@[simp] noncomputable def z7d (φ:FA):FI:=fun δ μ=>(φ δ μ).bind fun p=>match p.1 with
  | [.int j]=>bif decide (-(2 ^ 62)≤j∧j<2 ^ 62) then some ((List.range j.toNat).map fun (k:Nat) => .int k,yes,p.2) else none
  | _=>none
theorem zUe {tg:Expr} {p:Pos} {φ:FA} (hm:X.mg "range" = none) (ha:MAn X [a] φ) (hg:Gl X "range":=by rfl) (hs:starEach [a] X.env = [(false,eval a X.env)]:=by rfl):MI X tg (.Call (.Name "range" p) [a] [] pos) (z7d φ) :=
  zAq (zMp hg hm ha.ma hs) fun ρ δ μ σ H ds ok μ' R A e k=>by
    obtain ⟨⟨x,μ1⟩,e1,e⟩:=zf e
    refine ⟨ρ,δ,μ,x,μ1,A,e1,fun ρ1 H1 v1 x1 R1 r1=>?_⟩
    dsimp only at e
    split at e
    · rename_i j
      obtain ⟨h1,e⟩:=zM e
      have h2:=of_decide_eq_true h1
      cases e
      obtain ⟨w,r,rfl,q1,q2⟩:=r1.cons_inv
      refine ⟨j,by rw [q1.int_inv,q2.nil_inv],h2.1,h2.2,k ρ1 H1 _ x1 R1 ⟨fun ρ' H' μ' i _ _ _ h=>by rw [length_map,length_range] at h;exact h,fun ρ' H' μ' i x H'' d _ RR _ e ⟨y1,y2⟩=>⟨y1▸Ext.refl,y1▸RR,?_⟩,fun ρ' H' μ' _ _ _=>by show j.toNat≤_;simp⟩⟩
      rw [List.getElem?_map] at e
      cases e3:(List.range j.toNat)[i]? with
      | none=>rw [e3] at e;cases e
      | some m =>
        rw [e3] at e
        have hmi:m=i:=by
          obtain ⟨w1,w2⟩:=List.getElem?_eq_some_iff.mp e3
          simpa using w2.symm
        subst hmi
        have e':D.int (m:Nat)=d:=Option.some.inj e
        subst e'
        rw [y2,show (0:Int)+(m:Nat)=(m:Int) by omega]
        exact .int
    · cases e
theorem zet {K:W.Frag} {ρ:List Addr} {H:Hp} {a:Addr} {vs:List V} {ds:List D} (h:H a=some (.tup vs)) (r:RepVs K ρ H ds vs):ItIs K (Itt K a) ρ H ds yes:=by
  refine ⟨fun ρ' H' μ' i x R _ hi=>?_,fun ρ' H' μ' i x H'' d x' R _ e ⟨y1,y2⟩=>⟨y1▸Ext.refl,y1▸R,y1▸?_⟩,fun ρ' H' μ' x R _=>⟨vs,SqT.of (x.tup _ _ h),by rw [r.length];exact Nat.le_refl _⟩⟩
  · have hi':i<vs.length:=by rw [← r.length];exact hi
    exact ⟨vs,vs[i],SqT.of (x.tup _ _ h),by simp [hi']⟩
  · have q:=y2 vs (SqT.of (x'.tup _ _ h))
    obtain ⟨w,e1,rr⟩:=(r.ext x').get e
    rw [q] at e1;cases e1
    exact rr
@[simp] noncomputable def z6s (φ:FE):FI:=fun δ μ=>(φ δ μ).bind fun p=>match p.1 with
  | .tup ds=>some (ds,yes,p.2)
  | _=>none
theorem z5u {tg:Expr} (h:ME X a φ):MI X tg a (z6s φ) :=
  zAq (z4v h) fun ρ δ μ σ H ds ok μ' R A e k=>by
    obtain ⟨⟨x,μ1⟩,e1,e⟩:=zf e
    refine ⟨ρ,δ,μ,x,μ1,A,e1,fun ρ1 H1 v1 x1 R1 r1=>?_⟩
    dsimp only at e
    split at e
    · cases e
      obtain ⟨a,vs,rfl,e2,q2⟩:=r1.tup_inv
      exact ⟨a,rfl,⟨vs,SqT.of e2⟩,k ρ1 H1 _ x1 R1 (zet e2 q2)⟩
    · cases e
noncomputable def z9k (n:Nat) (ds:List D):Mem→Bool:=fun μ=>@decide (μ[n]?=some (.lst ds)) (Classical.propDecidable _)
theorem stays_iff {n:Nat} {ds:List D} {μ:Mem}:z9k n ds μ = true↔μ[n]?=some (.lst ds):=by
  unfold z9k
  exact @decide_eq_true_iff _ (Classical.propDecidable _)
noncomputable def zNq (φ:FE):FI:=fun δ μ=>(φ δ μ).bind fun p=>match p.1 with
  | .fz ds=>some (ds,yes,p.2)
  | .loc n=>match p.2[n]? with
    | some (.lst ds)=>some (ds,z9k n ds,p.2)
    | _=>none
  | _=>none
theorem zOn {K:W.Frag} {ρ:List Addr} {H:Hp} {a:Addr} {ds:List D} {ok:Mem→Bool} (h:∀ ρ' H' μ',Ext ρ H ρ' H'→RepH K ρ' H' μ'→ok μ'=true→∃ vs,SqL K H' a vs∧RepVs K ρ' H' ds vs):ItIs K (Itl K a) ρ H ds ok:=by
  refine ⟨fun ρ' H' μ' i x R o hi=>?_,fun ρ' H' μ' i x H'' d x' R o e ⟨y1,y2⟩=>⟨y1▸Ext.refl,y1▸R,y1▸?_⟩,fun ρ' H' μ' x R o=>?_⟩
  · obtain ⟨vs,s,r⟩:=h ρ' H' μ' x R o
    have hi':i<vs.length:=by rw [← r.length];exact hi
    exact ⟨vs,vs[i],s,by simp [hi']⟩
  · obtain ⟨vs,s,r⟩:=h ρ' H' μ' x' R o
    have q:=y2 vs s
    obtain ⟨w,e1,rr⟩:=r.get e
    rw [q] at e1;cases e1
    exact rr
  · obtain ⟨vs,s,r⟩:=h ρ' H' μ' x R o
    exact ⟨vs,s,by rw [r.length];exact Nat.le_refl _⟩
theorem zFq {tg:Expr} (h:ME X a φ):MI X tg a (zNq φ) :=
  zAq (zPt h) fun ρ δ μ σ H ds ok μ' R A e k=>by
    obtain ⟨⟨x,μ1⟩,e1,e⟩:=zf e
    refine ⟨ρ,δ,μ,x,μ1,A,e1,fun ρ1 H1 v1 x1 R1 r1=>?_⟩
    dsimp only at e
    split at e
    · cases e
      obtain ⟨a,vs,rfl,e2,q2⟩:=r1.fz_inv
      exact ⟨a,rfl,⟨vs,e2.sq⟩,k ρ1 H1 _ x1 R1 (zOn fun ρ' H' μ' x _ _=>⟨vs,(x.fz e2).sq,q2.ext x⟩)⟩
    · split at e
      · rename_i hm
        cases e
        obtain ⟨a,rfl,e2⟩:=r1.loc_inv
        obtain ⟨vs,e3,q3⟩:=R1.at_ _ _ _ e2 hm
        refine ⟨a,rfl,⟨vs,SqL.of e3⟩,k ρ1 H1 _ x1 R1 (zOn fun ρ' H' μ'' x R' o=>?_)⟩
        obtain ⟨vs',e4,q4⟩:=R'.at_ _ _ _ (x.get e2) (stays_iff.mp o)
        exact ⟨vs',SqL.of e4,q4⟩
      · cases e
    · cases e
noncomputable def zXg (g:FG) (body:FS) (ok:Mem→Bool):List D→FS
  | [],δ,μ=>bif ok μ then some (.next δ μ) else none
  | x :: xs,δ,μ=>bif ok μ then (g x δ μ).bind fun p=>match body p.1 p.2 with
    | some (.next δ' μ')=>zXg g body ok xs δ' μ'
    | some (.cont δ' μ')=>zXg g body ok xs δ' μ'
    | some (.brk δ' μ')=>some (.next δ' μ')
    | some (.ret d μ')=>some (.ret d μ')
    | some (.exc C fs μ')=>some (.exc C fs μ')
    | none=>none
    else none
@[simp] noncomputable def zti (i:FI) (g:FG) (body:FS):FS:=fun δ μ=>(i δ μ).bind fun p=>zXg g body p.2.1 p.1 δ p.2.2
theorem zVb {tg iter:Expr} {body:List Stmt} {i:FI} {g:FG} {p:FS} (hi:MI X tg iter i) (hg:MG X tg g) (hb:MSs X body p) (hx:PassesOwn (model X.prog X.w) X.A X.env X.xe:=by first | exact PassesOwn.never | exact PassesOwn.leaving) (hc:X.calm=true:=by rfl)
    (hs:∀ x,foldedSetIterable iter X.env x=pure x:=by intro _;rfl):MS X (.For tg iter body [] pos) (zti i g p) :=
  zik (zaw hx hc hi hg hb hs) fun ρ δ μ σ H o E A e k=>by
    obtain ⟨⟨ds,ok,μ1⟩,e1,e⟩:=zf e
    refine ⟨ρ,δ,μ,ds,ok,μ1,A,e1,fun ρ1 H1 J x1 R1 II=>?_⟩
    refine ⟨fun i m σ' H'=>∃ ρ' δ' μ',Ext ρ1 H1 ρ' H'∧At X.K ρ' H' σ' δ' μ'∧i≤ds.length∧m=ds.length - i∧zXg g p ok (ds.drop i) δ' μ'=some o,⟨_,ρ1,δ,μ1,Ext.refl,A.ext x1 R1,Nat.zero_le _,rfl,e⟩,?_⟩
    rintro i m σ' H' ⟨ρ',δ',μ',x',A',hi,rfl,ef⟩
    by_cases hlt:i<ds.length
    · right
      have hd:ds.drop i=ds[i] :: ds.drop (i+1):=drop_eq_getElem_cons hlt
      rw [hd] at ef
      unfold zXg at ef
      obtain ⟨hok,ef⟩:=zM ef
      obtain ⟨⟨δ2,μ2⟩,e2,ef⟩:=zf ef
      refine ⟨II.go ρ' H' μ' i x' A'.hp hok hlt,fun σ3 H3=>∃ ρ3 δ3 μ3,Ext ρ1 H1 ρ3 H3∧At X.K ρ3 H3 σ3 δ3 μ3∧zXg g p ok (ds.drop (i+1)) δ3 μ3=some o,fun σ3 H3 ⟨ρ3,δ3,μ3,x3,A3,e3⟩=>⟨ds.length - (i+1),by first|decide|omega,ρ3,δ3,μ3,x3,A3,hlt,rfl,e3⟩,fun x H'' y=>?_⟩
      obtain ⟨xe,Re,rx⟩:=II.yld ρ' H' μ' i x H'' ds[i] x' A'.hp hok (by simp [hlt]) y
      have x':=x'.trans xe
      refine ⟨ρ',δ',μ',ds[i],δ2,μ2,A'.ext xe Re,rx,e2,fun ρ4 σ4 H4 x4 A4=>?_⟩
      cases eb:p δ2 μ2 with
      | none=>rw [eb] at ef;cases ef
      | some ob =>
        rw [eb] at ef
        refine ⟨ρ4,δ2,μ2,ob,A4,eb,?_⟩
        have x5:=x'.trans x4
        cases ob with
        | next δ6 μ6=>exact fun ρ6 σ6 H6 x6 A6=>⟨ρ6,δ6,μ6,x5.trans x6,A6,ef⟩
        | cont δ6 μ6=>exact fun ρ6 σ6 H6 x6 A6=>⟨ρ6,δ6,μ6,x5.trans x6,A6,ef⟩
        | brk δ6 μ6=>cases ef;exact (k.ext x1).ext x5
        | ret d μ6=>cases ef;exact (k.ext x1).ext x5
        | exc C fs μ6=>cases ef;exact (k.ext x1).ext x5
    · left
      have e0:i=ds.length:=by omega
      subst e0
      rw [List.drop_length] at ef
      unfold zXg at ef
      obtain ⟨hok,ef⟩:=zM ef
      cases ef
      exact ⟨II.stop ρ' H' μ' x' A'.hp hok,k ρ' σ' H' (x1.trans x') A'⟩
end
noncomputable def zCr (g:FG) (c:FT) (φ:FE) (ok:Mem→Bool) (δ:Loc):List D→List D→Mem→Option (D×Mem)
  | [],ys,μ=>bif ok μ then some (.loc μ.length,μ ++ [.lst ys]) else none
  | x :: xs,ys,μ=>bif ok μ then (g x δ μ).bind fun p=>(c p.1 p.2).bind fun t=>bif t.1 then (φ p.1 t.2).bind fun q=>zCr g c φ ok δ xs (ys ++ [q.1]) q.2 else zCr g c φ ok δ xs ys t.2 else none
@[simp] noncomputable def δC (n:Nat) (fr:List Nat) (δ:Loc):Loc:=List.replicate n none++fr.map fun i=>(δ[i]?).getD none
@[simp] noncomputable def few (ds:List D):Bool:=decide (ds.length≤1000000)
@[simp] noncomputable def fLC (n:Nat) (fr:List Nat) (i:FI) (g:FG) (c:FT) (φ:FE):FE:=fun δ μ=>(i δ μ).bind fun p=>bif few p.1 then zCr g c φ p.2.1 (δC n fr δ) p.1 [] p.2.2 else none
def MF (X:Cx) (ifs:List Expr) (c:FT):Prop:=PF X ifs (tMT X.K c)
@[simp] noncomputable def zzo:FT:=fun _ μ=>some (true,μ)
theorem ztg {X:Cx}:MF X [] zzo:=by intro pins s σ H Q I hh;obtain ⟨ρ,δ,μ,b,μ',A,e,k⟩:=hh;exact z8v pins s σ H Q I (by cases e;exact k ρ H Ext.refl A.hp)
theorem z2i {X:Cx} {e:Expr} {c:FT} (h:MT X e c):MF X [e] c:=z2v h
theorem At.δC {K:W.Frag} {ρ:List Addr} {H:Hp} {σ:L2.St} {δ:Loc} {μ:Mem} (A:At K ρ H σ δ μ) (n:Nat) (fr:List Nat):At K ρ H (σC n fr σ) (M.δC n fr δ) μ:=by
  refine ⟨fun i d e=>?_,A.hp,by unfold σC M.δC;simp⟩
  unfold M.δC at e
  unfold σC
  by_cases hi:i<n
  · rw [List.getElem?_append_left (by simpa using hi),List.getElem?_replicate] at e
    split at e <;> cases e
  · have hi:n≤i:=Nat.le_of_not_lt hi
    rw [List.getElem?_append_right (by simpa using hi),List.length_replicate,List.getElem?_map] at e
    rw [List.getElem?_append_right (by simpa using hi),List.length_replicate,List.getElem?_map]
    cases e1:fr[i - n]? with
    | none=>rw [e1] at e;cases e
    | some j =>
      rw [e1] at e
      have e2:(δ[j]?).getD none=some d:=Option.some.inj e
      have e3:δ[j]?=some (some d):=by
        cases q:δ[j]? with
        | none=>rw [q] at e2;cases e2
        | some z=>rw [q] at e2;exact congrArg some e2
      obtain ⟨v,hv,r⟩:=A.st j d e3
      exact ⟨v,by rw [Option.map_some,hv];rfl,r⟩
def Front (n:Nat) (σ σ':L2.St):Prop:=σ'.length = σ.length∧∀ (i:Nat),n≤i→σ'[i]? = σ[i]?
theorem Front.refl {n:Nat} {σ:L2.St}:Front n σ σ:=⟨rfl,fun _ _=>rfl⟩
theorem Front.trans {n:Nat} {σ σ1 σ2:L2.St} (a:Front n σ σ1) (b:Front n σ1 σ2):Front n σ σ2:=⟨b.1.trans a.1,fun i h=>(b.2 i h).trans (a.2 i h)⟩
noncomputable def tGc (K:W.Frag) (n:Nat) (g:FG):TG:=fun v σ H Q=>∃ ρ δ μ d δ' μ',At K ρ H σ δ μ∧RepV K ρ H d v∧g d δ μ = some (δ',μ')∧∀ ρ' σ' H',Ext ρ H ρ' H'→At K ρ' H' σ' δ' μ'→Front n σ σ'→Q σ' H'
noncomputable def z5x (K:W.Frag) (n:Nat) (g:FGs):TGs:=fun vs σ H Q=>∃ ρ δ μ ds δ' μ',At K ρ H σ δ μ∧RepVs K ρ H ds vs∧g ds δ μ = some (δ',μ')∧∀ ρ' σ' H',Ext ρ H ρ' H'→At K ρ' H' σ' δ' μ'→Front n σ σ'→Q σ' H'
def MGc (X:Cx) (n:Nat) (t:Expr) (g:FG):Prop:=PG X t (tGc X.K n g)
def zGw (X:Cx) (n:Nat) (t:List Expr) (g:FGs):Prop:=PGs X t (z5x X.K n g)
section
variable {X:Cx} {e:Expr} {es:List Expr} {pos:Pos} {n:Nat}
theorem zZ {x:Str} (i:Nat) (hin:i<n:=by decide) (hN:X.N.Nodup:=by first | assumption | decide) (hi:X.N[i]?=some x:=by rfl) (hx:L2.Loc X.env.scope x:=by first | exact Or.inl rfl | exact Or.inr rfl) (hf:X.fn x=true∨X.env.scope.names.lookup x=some .local:=by first | exact .inl rfl | exact .inr rfl | assumption):MGc X n (.Name x pos) (gN i) :=
  by intro pins s σ H v u Q I r hh;obtain ⟨ρ,δ,μ,d,δ',μ',A,q,e,k⟩:=hh;exact zkr hN hi hx hf pins s σ H v u Q I r (by
    cases e
    exact k ρ _ H Ext.refl (A.set q i) ⟨by simp,fun j hj=>List.getElem?_set_ne (by first|decide|omega)⟩)
theorem zMk:zGw X n [] zyg:=by intro pins s σ H v u Q I r hh;obtain ⟨ρ,δ,μ,d,δ',μ',A,q,e,k⟩:=hh;exact zKp pins s σ H v u Q I r (by
  unfold zyg at e
  split at e
  · cases e
    exact ⟨q.nil_inv,k ρ σ H Ext.refl A Front.refl⟩
  · cases e)
theorem zvd {g:FG} {gs:FGs} (h1:MGc X n e g) (h2:zGw X n es gs) (hs:(assignEach (e :: es) X.env).map (·.2)=assign e X.env :: (assignEach es X.env).map (·.2):=by rfl):zGw X n (e :: es) (znb g gs) :=
  by intro pins s σ H vs us Q I r hh;obtain ⟨ρ,δ,μ,ds,δ',μ',A,q,e,k⟩:=hh;exact zjo h1 h2 hs pins s σ H vs us Q I r (by
    unfold znb at e
    split at e
    · obtain ⟨⟨δ1,μ1⟩,e1,e⟩:=zf e
      obtain ⟨v,vr,rfl,q1,q2⟩:=q.cons_inv
      refine ⟨v,vr,rfl,ρ,δ,μ,_,δ1,μ1,A,q1,e1,fun ρ1 σ1 H1 x1 A1 f1=>?_⟩
      exact ⟨ρ1,δ1,μ1,_,δ',μ',A1,q2.ext x1,e,fun ρ2 σ2 H2 x2 A2 f2=>k ρ2 σ2 H2 (x1.trans x2) A2 (f1.trans f2)⟩
    · cases e)
theorem zhn {k m:Nat} {gs:FGs} (h:zGw X n es gs) (hc:X.calm=true:=by rfl) (hn:(assignEach es X.env).length=m:=by rfl) (hst:(assignEach es X.env).findIdx? (·.1)=none:=by rfl):MGc X n (.Tuple es k pos) (gT m gs) :=
  by intro pins s σ H v u Q I r hh;obtain ⟨ρ,δ,μ,d,δ',μ',A,q,e,k⟩:=hh;exact z3s hc h hn hst pins s σ H v u Q I r (by
    unfold gT at e
    split at e
    · obtain ⟨h1,e⟩:=zM e
      obtain ⟨a,vs,rfl,e2,q2⟩:=q.tup_inv
      exact ⟨a,vs,rfl,SqT.of e2,by rw [← q2.length];exact beq_iff_eq.mp h1,ρ,δ,μ,_,δ',μ',A,q2,e,k⟩
    · cases e)
end
theorem zsq {n:Nat} {fr:List Nat} {σ σ':L2.St} (f:Front n (σC n fr σ) σ'):zit (σC n fr σ) σ':=by
  refine ⟨f.1,fun i v e=>?_⟩
  obtain ⟨hi,_⟩:=σC_get e
  rw [f.2 i hi]
  exact e
theorem million:1000000<sizeLine:=by rw [sizeLine_eq];decide
theorem zVx {K:W.Frag} {n:Nat} {fr:List Nat} {i:FI} {g:FG} {c:FT} {φ:FE} {ρ:List Addr} {δ:Loc} {μ:Mem} {σ:L2.St} {H:Hp} {d:D} {μ':Mem} {Q:VK} (A:At K ρ H σ δ μ) (e:fLC n fr i g c φ δ μ = some (d,μ'))
    (k:∀ ρ' H' v,Ext ρ H ρ' H'→RepH K ρ' H' μ'→RepV K ρ' H' d v→Q v H'):tLC n fr (tMI K i) (tGc K n g) (tMT K c) (tM K φ) σ H Q:=by
  obtain ⟨⟨ds,ok,μ1⟩,e1,e⟩:=zf e
  obtain ⟨hfew,e⟩:=zM e
  have hfew:ds.length≤1000000:=of_decide_eq_true hfew
  refine ⟨ρ,δ,μ,ds,ok,μ1,A,e1,fun ρ1 H1 J x1 R1 II=>?_⟩
  refine ⟨fun i m ys H'=>∃ ρ' es μ2,Ext ρ1 H1 ρ' H'∧RepH K ρ' H' μ2∧RepVs K ρ' H' es ys∧es.length≤i∧i≤ds.length∧m=ds.length - i∧zCr g c φ ok (δC n fr δ) (ds.drop i) es μ2=some (d,μ'),⟨_,ρ1,[],μ1,Ext.refl,R1, .nil,Nat.zero_le _,Nat.zero_le _,rfl,e⟩,?_⟩
  rintro i m ys H' ⟨ρ',es,μ2,x',R',re,hel,hi,rfl,ef⟩
  by_cases hlt:i<ds.length
  · right
    have hd:ds.drop i=ds[i] :: ds.drop (i+1):=drop_eq_getElem_cons hlt
    rw [hd] at ef
    unfold zCr at ef
    obtain ⟨hok,ef⟩:=zM ef
    obtain ⟨⟨δ2,μ3⟩,e2,ef⟩:=zf ef
    obtain ⟨⟨b,μ4⟩,e3,ef⟩:=zf ef
    refine ⟨II.go ρ' H' μ2 i x' R' hok hlt,?_,fun x H'' y=>?_⟩
    · rw [← re.length]
      exact Nat.lt_of_le_of_lt (Nat.le_trans hel (Nat.le_trans hi hfew)) million
    · obtain ⟨xe,Re,rx⟩:=II.yld ρ' H' μ2 i x H'' ds[i] x' R' hok (by simp [hlt]) y
      have x':=x'.trans xe
      have re:=re.ext xe
      have A':At K ρ' H'' (σC n fr σ) (δC n fr δ) μ2:=((A.ext x1 R1).ext x' Re).δC n fr
      refine ⟨ρ',_,μ2,ds[i],δ2,μ3,A',rx,e2,fun ρ4 σ4 H4 x4 A4 f4=>⟨zsq f4,?_⟩⟩
      refine ⟨ρ4,δ2,μ3,b,μ4,A4,e3,fun ρ5 H5 x5 R5=>?_⟩
      cases b with
      | false=>exact iteF ⟨ds.length - (i+1),by first|decide|omega,ρ5,es,μ4,x'.trans (x4.trans x5),R5,re.ext (x4.trans x5),by first|decide|omega,hlt,rfl,ef⟩
      | true =>
        obtain ⟨⟨y,μ6⟩,e4,ef⟩:=zf ef
        refine iteT ⟨ρ5,δ2,μ4,y,μ6,A4.ext x5 R5,e4,fun ρ6 H6 v x6 R6 r6=>?_⟩
        exact ⟨ds.length - (i+1),by first|decide|omega,ρ6,es ++ [y],μ6,x'.trans (x4.trans (x5.trans x6)),R6,(re.ext (x4.trans (x5.trans x6))).append (.cons r6 .nil),by simp;exact hel,hlt,rfl,ef⟩
  · left
    have e0:i=ds.length:=by omega
    subst e0
    rw [List.drop_length] at ef
    unfold zCr at ef
    obtain ⟨hok,ef⟩:=zM ef
    cases ef
    refine ⟨II.stop ρ' H' μ2 x' R' hok,fun p hp=>?_⟩
    exact k _ _ _ (x1.trans (x'.trans (Ext.push hp))) (R'.push hp ⟨ys,zo,re.ext (Ext.push hp)⟩) (.loc (zvb R'))
theorem zxx {X:Cx} {scope:Scope} {elt tg iter:Expr} {ifs:List Expr} {pos:Pos} {i:FI} {g:FG} {c:FT} {φ:FE} (own:List Str) (fr:List Nat) (hi:MI X tg iter i)
    (hg:∀ cl C s₀ H₀ fp,MGc (cxC X own fr scope cl C s₀ H₀ fp) own.length tg g) (hq:∀ cl C s₀ H₀ fp,MF (cxC X own fr scope cl C s₀ H₀ fp) ifs c) (he:∀ cl C s₀ H₀ fp,ME (cxC X own fr scope cl C s₀ H₀ fp) elt φ)
    (hc:X.calm=true:=by rfl) (hk:scope.kind = .function:=by rfl) (hnm:∀ y∈scope.names,scope.names.lookup y.1=some y.2:=by decide)
    (hfree:∀ x∈scope.names,x.2 = .free→(X.env.kindOf x.1=some .cell∨X.env.kindOf x.1=some .free):=by decide) (hfr:∀ i∈fr,∃ x,X.N[i]?=some x∧scope.names.lookup x=some .free)
    (hs:∀ x,foldedSetIterable iter X.env x=pure x:=by intro _;rfl):ME X (.ListComp elt [⟨tg,iter,ifs,0⟩] scope pos) (fLC own.length fr i g c φ) :=
  zcd (zdx (wi:=tMI X.K i) (g:=tGc X.K own.length g) (tc:=tMT X.K c) (te:=tM X.K φ) own fr hc hi (fun cl C s₀ H₀ fp=>hg cl C s₀ H₀ fp) (fun cl C s₀ H₀ fp=>hq cl C s₀ H₀ fp) (fun cl C s₀ H₀ fp=>he cl C s₀ H₀ fp) hk hnm hfree hfr hs) fun ρ δ μ σ H d μ' Q A e k=>zVx A e k
noncomputable def toP (μ:Mem):Nat→D→Option PyData
  | 0,_=>none
  | n+1,d=>match d with
    | .non=>some .none
    | .bl b=>some (.bool b)
    | .int i=>some (.int i)
    | .str x=>bif PyData.strOk x then some (.str x) else none
    | .ty _=>none
    | .own _=>none
    | .tup ds=>(ds.mapM (toP μ n)).bind fun ps=>some (.tuple ps)
    | .fz ds=>(ds.mapM (toP μ n)).bind fun ps=>some (.list ps)
    | .loc k=>match μ[k]? with
      | some (.lst ds)=>(ds.mapM (toP μ n)).bind fun ps=>some (.list ps)
      | _=>none
theorem zjh {f:D→Option PyData} {ps:List PyData} (h:([]:List D).mapM f=some ps):ps = []:=by
  simp at h;exact h
theorem z9f {f:D→Option PyData} {d:D} {ds:List D} {ps:List PyData} (h:(d :: ds).mapM f=some ps):∃ p r,f d=some p∧ds.mapM f=some r∧ps=p :: r:=by
  rw [mapM_cons] at h
  obtain ⟨p,e1,h⟩:=zf h
  obtain ⟨r,e2,h⟩:=zf h
  cases h
  exact ⟨p,r,e1,e2,rfl⟩
theorem ztj {f:D→Option PyData} {m:Nat} (hf:∀ d p,f d=some p→p.canLay0=true∧p.depth≤m):∀ {ds:List D} {ps:List PyData},ds.mapM f=some ps→PyData.canLayAll0 ps=true∧PyData.depthAll ps≤m
  | [],ps,h=>by rw [zjh h];exact ⟨rfl,Nat.zero_le _⟩
  | d :: ds,ps,h=>by
    obtain ⟨p,r,e1,e2,rfl⟩:=z9f h
    obtain ⟨h1,h2⟩:=hf d p e1
    obtain ⟨h3,h4⟩:=ztj hf e2
    refine ⟨?_,?_⟩
    · simp only [PyData.canLayAll0,h1,h3,Bool.and_true]
    · simp only [PyData.depthAll];omega
theorem zql {μ:Mem}:∀ (n:Nat) (d:D) (p:PyData),toP μ n d=some p→p.canLay0=true∧p.depth≤n
  | 0,d,p,h=>by cases h
  | n+1,d,p,h=>by
    have seq:∀ {ds:List D} {c:List PyData→PyData},(∀ ps,(c ps).canLay0=PyData.canLayAll0 ps)→(∀ ps,(c ps).depth=PyData.depthAll ps+1)→((ds.mapM (toP μ n)).bind fun ps=>some (c ps))=some p→p.canLay0=true∧p.depth≤n+1:=fun {ds c} h1 h2 h=>by
      obtain ⟨ps,e1,e2⟩:=zf h
      cases e2
      obtain ⟨q1,q2⟩:=ztj (zql n) e1
      exact ⟨by rw [h1];exact q1,by rw [h2];omega⟩
    unfold toP at h
    cases d with
    | non=>cases h;exact ⟨rfl,Nat.zero_le _⟩
    | bl b=>cases h;exact ⟨rfl,Nat.zero_le _⟩
    | int b=>cases h;exact ⟨rfl,Nat.zero_le _⟩
    | str x =>
      obtain ⟨h1,h2⟩:=zM h
      cases h2
      exact ⟨h1,Nat.zero_le _⟩
    | ty _=>cases h
    | own _=>cases h
    | tup ds=>exact seq (fun _=>rfl) (fun _=>rfl) h
    | fz ds=>exact seq (fun _=>rfl) (fun _=>rfl) h
    | loc k =>
      dsimp only at h
      split at h
      · exact seq (fun _=>rfl) (fun _=>rfl) h
      · cases h
section
variable {X:Cx} {pins:List (Addr×Obj)} {σ:L2.St} {H:Hp} {s:Shared} {ρ:List Addr} {μ:Mem}
theorem z3f {f:D→Option PyData} (hf:∀ d p v u,f d=some p→RepV X.K ρ H d v→RelV v u→∃ as,Reads s.heap u p as):∀ {ds:List D} {ps:List PyData} {vs:List V} {us:List Value},ds.mapM f=some ps→RepVs X.K ρ H ds vs→Vals vs us→∃ as,ReadsAll s.heap us ps as
  | [],ps,vs,us,h,r,q=>by
    rw [zjh h]
    rw [r.nil_inv] at q
    cases q
    exact ⟨[], .nil⟩
  | d :: ds,ps,vs,us,h,r,q=>by
    obtain ⟨p,pr,e1,e2,rfl⟩:=z9f h
    obtain ⟨v,vr,rfl,r1,r2⟩:=r.cons_inv
    cases q with
    | cons q1 q2 =>
      obtain ⟨a1,h1⟩:=hf _ _ _ _ e1 r1 q1
      obtain ⟨a2,h2⟩:=z3f hf e2 r2 q2
      exact ⟨_, .cons h1 h2⟩
theorem zRd (I:Inv X pins σ H s) (R:RepH X.K ρ H μ):∀ (n:Nat) (d:D) (p:PyData) (v:V) (u:Value),toP μ n d=some p→RepV X.K ρ H d v→RelV v u→∃ as,Reads s.heap u p as
  | 0,d,p,v,u,h,_,_=>by cases h
  | n+1,d,p,v,u,h,r,q=>by
    unfold toP at h
    cases d with
    | non=>cases h;rw [r.non_inv] at q;cases q;exact ⟨_, .none⟩
    | bl b=>cases h;rw [r.bl_inv] at q;cases q;exact ⟨_, .bool b⟩
    | int b=>cases h;rw [r.int_inv] at q;obtain ⟨t,rfl⟩:=q;exact ⟨_, .int b t⟩
    | str x =>
      obtain ⟨h1,h2⟩:=zM h
      cases h2
      rw [r.str_inv] at q;obtain ⟨t,rfl⟩:=q;exact ⟨_, .str x t⟩
    | ty _=>cases h
    | own _=>cases h
    | tup ds =>
      obtain ⟨ps,e1,e2⟩:=zf h
      cases e2
      obtain ⟨a,vs,rfl,e3,rr⟩:=r.tup_inv
      cases q
      obtain ⟨its,rv,⟨o,ho,hc,k,hd⟩,_⟩:=I.tuple (SqT.of e3)
      obtain ⟨as,ha⟩:=z3f (zRd I R n) e1 rr rv
      exact ⟨_,reads_tuple_at ho hc hd (by simpa using ha)⟩
    | fz ds =>
      obtain ⟨ps,e1,e2⟩:=zf h
      cases e2
      obtain ⟨a,vs,rfl,e3,rr⟩:=r.fz_inv
      cases q
      obtain ⟨its,rv,⟨o,k,ho,hc,_,hd⟩,_⟩:=I.list e3.sq
      obtain ⟨as,ha⟩:=z3f (zRd I R n) e1 rr rv
      exact ⟨_,reads_list_at ho hc hd (by simpa using ha)⟩
    | loc k =>
      dsimp only at h
      split at h
      · rename_i hm
        obtain ⟨ps,e1,e2⟩:=zf h
        cases e2
        obtain ⟨a,rfl,e2⟩:=r.loc_inv
        obtain ⟨vs,e3,rr⟩:=R.at_ _ _ _ e2 hm
        cases q
        obtain ⟨its,rv,⟨o,k,ho,hc,_,hd⟩,_⟩:=I.list (SqL.of (K:=X.K) e3)
        obtain ⟨as,ha⟩:=z3f (zRd I R n) e1 rr rv
        exact ⟨_,reads_list_at ho hc hd (by simpa using ha)⟩
      · cases h
end
noncomputable def gEq:G2:=fun x y μ=>(toP μ 8 x).bind fun p=>(toP μ 8 y).bind fun q=>some (.bl (PyData.eqv p q),μ)
noncomputable def gNe:G2:=fun x y μ=>(toP μ 8 x).bind fun p=>(toP μ 8 y).bind fun q=>some (.bl (!PyData.eqv p q),μ)
theorem zgg {μ:Mem} {d:D} {p:PyData} (h:toP μ 8 d=some p):SeqAt.shaped p=true:=by
  obtain ⟨h1,h2⟩:=zql 8 d p h
  unfold SeqAt.shaped
  rw [h1,decide_eq_true (by first|decide|omega)]
  rfl
section
variable {X:Cx} {a b c e:Expr} {es:List Expr} {φ ψ χ:FE} {pos:Pos}
theorem zWb (hu:X.A.units+64<cLine):OpM X (compareOp .Eq) gEq:=by
  refine OpM.of fun pins s σ H x y v u Q I rx ry ρ dx dy μ d μ' r1 r2 R e k=>?_
  obtain ⟨p,e1,e⟩:=zf e
  obtain ⟨q,e2,e⟩:=zf e
  cases e
  obtain ⟨as,h1⟩:=zRd I R 8 dx p x v e1 r1 rx
  obtain ⟨bs,h2⟩:=zRd I R 8 dy q y u e2 r2 ry
  exact eq_dataH h1 h2 (zgg e1) (zgg e2) hu ⟨.bl _,H,I,rfl,k ρ H _ Ext.refl R .bl⟩
theorem zDq (hu:X.A.units+64<cLine):OpM X (compareOp .NotEq) gNe:=by
  refine OpM.of fun pins s σ H x y v u Q I rx ry ρ dx dy μ d μ' r1 r2 R e k=>?_
  obtain ⟨p,e1,e⟩:=zf e
  obtain ⟨q,e2,e⟩:=zf e
  cases e
  obtain ⟨as,h1⟩:=zRd I R 8 dx p x v e1 r1 rx
  obtain ⟨bs,h2⟩:=zRd I R 8 dy q y u e2 r2 ry
  exact ne_dataH h1 h2 (zgg e1) (zgg e2) hu ⟨.bl _,H,I,rfl,k ρ H _ Ext.refl R .bl⟩
@[simp] noncomputable def gIs:G2:=fun x y μ=>match x,y with
  | .bl i, .bl j=>some (.bl (i == j),μ)
  | .non, .non=>some (.bl true,μ)
  | .bl _, .non=>some (.bl false,μ)
  | .int _, .non=>some (.bl false,μ)
  | .str _, .non=>some (.bl false,μ)
  | .tup _, .non=>some (.bl false,μ)
  | .loc _, .non=>some (.bl false,μ)
  | _,_=>none
@[simp] noncomputable def zef:G2:=fun x y μ=>match x,y with
  | .bl i, .bl j=>some (.bl (i != j),μ)
  | .non, .non=>some (.bl false,μ)
  | .bl _, .non=>some (.bl true,μ)
  | .int _, .non=>some (.bl true,μ)
  | .str _, .non=>some (.bl true,μ)
  | .tup _, .non=>some (.bl true,μ)
  | .loc _, .non=>some (.bl true,μ)
  | _,_=>none
theorem zpd:OpM X (compareOp .IsNot) zef:=by
  refine OpM.of fun pins s σ H x y v u Q I rx ry ρ dx dy μ d μ' r1 r2 R e k=>?_
  unfold zef at e
  split at e <;> cases e
  · rw [r1.bl_inv] at rx;rw [r2.bl_inv] at ry;cases rx;cases ry
    exact isnot_bool ⟨.bl _,H,I,rfl,k ρ H _ Ext.refl R .bl⟩
  · exact zVg pins s σ H x y v u Q I rx ry ⟨r2.non_inv,by rw [r1.non_inv];exact k ρ H _ Ext.refl R .bl⟩
  · exact zVg pins s σ H x y v u Q I rx ry ⟨r2.non_inv,by rw [r1.bl_inv];exact k ρ H _ Ext.refl R .bl⟩
  · exact zVg pins s σ H x y v u Q I rx ry ⟨r2.non_inv,by rw [r1.int_inv];exact k ρ H _ Ext.refl R .bl⟩
  · exact zVg pins s σ H x y v u Q I rx ry ⟨r2.non_inv,by rw [r1.str_inv];exact k ρ H _ Ext.refl R .bl⟩
  · exact zVg pins s σ H x y v u Q I rx ry ⟨r2.non_inv,by obtain ⟨a,vs,rfl,_⟩:=r1.tup_inv;exact k ρ H _ Ext.refl R .bl⟩
  · exact zVg pins s σ H x y v u Q I rx ry ⟨r2.non_inv,by obtain ⟨a,rfl,_⟩:=r1.loc_inv;exact k ρ H _ Ext.refl R .bl⟩
inductive Ty where
  | non | bl | int | str | tup | lst | dict
  deriving DecidableEq
@[simp] noncomputable def zyw (μ:Mem):D→Option Ty
  | .non=>some .non
  | .bl _=>some .bl
  | .int _=>some .int
  | .str _=>some .str
  | .tup _=>some .tup
  | .loc n=>match μ[n]? with
    | some (.lst _)=>some .lst
    | some (.dct _)=>some .dict
    | _=>none
  | _=>none
@[simp] noncomputable def Ty.name:Ty→String
  | .non=>"NoneType" | .bl=>"bool" | .int=>"int" | .str=>"str" | .tup=>"tuple" | .lst=>"list" | .dict=>"dict"
@[simp] noncomputable def zRw:Ty→Ty→Bool
  | .bl, .int=>true
  | .non, .non=>true
  | .bl, .bl=>true
  | .int, .int=>true
  | .str, .str=>true
  | .tup, .tup=>true
  | .lst, .lst=>true
  | .dict, .dict=>true
  | _,_=>false
@[simp] noncomputable def zZq (c:Ty):GL:=fun ds μ=>match ds with
  | [x, .ty n]=>bif n == c.name then (zyw μ x).bind fun t=>some (.bl (zRw t c),μ) else none
  | _=>none
theorem zst {K:W.Frag} {ρ:List Addr} {H:Hp} {μ:Mem} {x:D} {v:V} {t:Ty} (R:RepH K ρ H μ) (r:RepV K ρ H x v) (e:zyw μ x=some t):TyOf K H v (.type t.name):=by
  cases x with
  | non=>cases e;rw [r.non_inv];exact .non
  | bl b=>cases e;rw [r.bl_inv];exact .bl b
  | int b=>cases e;rw [r.int_inv];exact .int b
  | str b=>cases e;rw [r.str_inv];exact .str b
  | tup ds=>cases e;obtain ⟨a,vs,rfl,e2,_⟩:=r.tup_inv;exact .tup e2
  | loc n =>
    unfold zyw at e
    dsimp only at e
    split at e
    · rename_i hm;cases e;obtain ⟨a,rfl,e2⟩:=r.loc_inv;obtain ⟨vs,e3,_⟩:=R.at_ _ _ _ e2 hm;exact .lst e3
    · rename_i hm;cases e;obtain ⟨a,rfl,e2⟩:=r.loc_inv;obtain ⟨vs,e3,_⟩:=R.at_ _ _ _ e2 hm;exact .dK e3
    · cases e
  | _=>cases e
theorem z5v (K:W.Frag) (t c:Ty):W.kitOne K (.type t.name) (.type c.name)=some (zRw t c):=by
  cases t <;> cases c <;> first | rfl | decide +kernel
theorem zjg (c:Ty):CallM X (.builtin "isinstance") (zZq c):=by
  refine CallM.of fun pins s σ H xs us Q I r ρ ds μ d μ' r1 R e k=>?_
  unfold zZq at e
  split at e
  · obtain ⟨hn,e⟩:=zM e
    obtain ⟨t,e1,e⟩:=zf e
    cases e
    obtain ⟨v,rr,rfl,q1,q2⟩:=r1.cons_inv
    obtain ⟨v2,rr2,rfl,q3,q4⟩:=q2.cons_inv
    rw [q4.nil_inv,q3.ty_inv,beq_iff_eq.mp hn] at r
    cases r with
    | cons ra rb =>
      cases rb with
      | cons rc rd =>
        cases rd
        cases rc
        exact zdq I ra (zst R q1 e1) (z5v X.K t c) fun tk=>⟨.bl _,H,I.tok tk,rfl,k ρ H _ Ext.refl R .bl⟩
  · cases e
@[simp] noncomputable def zXx:D→Bool
  | .bl _=>true
  | _=>false
@[simp] noncomputable def blB:D→Bool
  | .bl b=>b
  | _=>false
@[simp] noncomputable def zrw:GL:=fun ds μ=>match ds with
  | [.loc n]=>match μ[n]? with
    | some (.lst xs)=>bif xs.all zXx then some (.bl (xs.all blB),μ) else none
    | _=>none
  | _=>none
theorem zxm (hc:X.calm=true):CallM X (.builtin "all") zrw:=by
  refine CallM.of fun pins s σ H xs us Q I r ρ ds μ d μ' r1 R e k=>?_
  unfold zrw at e
  split at e
  · split at e
    · rename_i n _ ys hm
      obtain ⟨hb,e⟩:=zM e
      cases e
      obtain ⟨v,rr,rfl,q1,q2⟩:=r1.cons_inv
      obtain ⟨a,rfl,e2⟩:=q1.loc_inv
      obtain ⟨vs,e3,q3⟩:=R.at_ _ _ _ e2 hm
      rw [q2.nil_inv] at r
      obtain ⟨u,rfl,ru⟩:=vals1 r
      cases ru
      obtain ⟨its,rv,pl,hz⟩:=I.list (SqL.of (K:=X.K) e3)
      have hlt:a<s.heap.objs.size:=by obtain ⟨_,_,e,_⟩:=pl;exact Heap.lt_size e
      refine call_all_walk (wpAny_pyIter_list pl.isList ?_)
      refine ⟨_,_,_,_,_,_,fun i=>blB (ys.getD i .non),rfl,Walks.list (A:=X.A.in1) (I.ok.hd hc) s.heap.objs.size a (Nat.ne_of_lt hlt) its.toArray,⟨⟨_,Heap.get?_push_size _ rfl,rfl,rfl⟩,pl.isList.push _⟩,?_,fun h' tk hk=>?_⟩
      · intro i w s' Q' E' hP hQ
        have hi:its[i]?=some w:=by simpa using hP
        have hil:i<ys.length:=by
          have h1:=(List.getElem?_eq_some_iff.mp hi).1
          rw [q3.length,rv.length];exact h1
        have hyi:ys[i]?=some ys[i]:=by simp [hil]
        obtain ⟨vv,ev,rvv⟩:=q3.get hyi
        obtain ⟨ww,ew,rww⟩:=rv.get ev
        rw [hi] at ew;cases ew
        have hall:=List.all_eq_true.mp hb ys[i] (getElem_mem hil)
        have hQ':Q' (blB ys[i]) s':=by
          have e:ys.getD i .non=ys[i]:=by rw [getD_eq_getElem?_getD,hyi];rfl
          rw [← e];exact hQ
        cases hyb:ys[i] with
        | bl b =>
          rw [hyb] at rvv hQ'
          rw [rvv.bl_inv] at rww
          cases rww
          exact wpAny_truthy_bool hQ'
        | _=>rw [hyb] at hall;cases hall
      · have hsz:its.toArray.size=ys.length:=by rw [q3.length,rv.length];simp
        have eall:((List.range its.toArray.size).all fun i=>blB (ys.getD i .non))=ys.all blB:=by
          rw [hsz,Bool.eq_iff_iff,List.all_eq_true,List.all_eq_true]
          constructor
          · intro h y hy
            obtain ⟨i,hi,rfl⟩:=List.mem_iff_getElem.mp hy
            have:=h i (by simpa using hi)
            rw [getD_eq_getElem?_getD,show ys[i]?=some ys[i] by simp [hi]] at this
            exact this
          · intro h i hi
            have hi':i<ys.length:=by simpa using hi
            rw [getD_eq_getElem?_getD,show ys[i]?=some ys[i] by simp [hi']]
            exact h ys[i] (getElem_mem hi')
        rw [eall]
        have I1:Inv X pins σ H { s with heap:=s.heap.push { cls := .type "list_iterator",data := .fields #[.ref a, .int 0 0] } }:=I.kept (t':=s.toks) fun b o e=>Heap.get?_push_of_some _ e
        have hfr:=I1.hok
        refine ⟨.bl _,H,I.kept (h':=h') (t':=tk) fun b o e=>hk b o (by simpa using Nat.ne_of_lt (Heap.lt_size e)) (Heap.get?_push_of_some _ e),rfl,k ρ H _ Ext.refl R .bl⟩
    · cases e
  · cases e
end
@[simp] noncomputable def zzb:Option Out→Option (D×Mem)
  | some (.ret d μ)=>some (d,μ)
  | some (.next _ μ)=>some (.non,μ)
  | _=>none
@[simp] noncomputable def zG (N:List Str) (ds:List D):Loc:=ds.map some++List.replicate (N.length - ds.length) none
theorem zao {K:W.Frag} {ρ:List Addr} {H:Hp} {μ:Mem} {N:List Str} {ds:List D} {vs:List V} (r:RepVs K ρ H ds vs) (R:RepH K ρ H μ):At K ρ H (L2.start N vs) (zG N ds) μ:=by
  refine ⟨fun i d e=>?_,R,by unfold L2.start zG;simp [r.length]⟩
  unfold zG at e
  unfold L2.start
  by_cases hi:i<ds.length
  · rw [List.getElem?_append_left (by simpa using hi),List.getElem?_map] at e
    cases e1:ds[i]? with
    | none=>rw [e1] at e;cases e
    | some d' =>
      rw [e1] at e
      cases e
      obtain ⟨v,e2,q⟩:=r.get e1
      refine ⟨v,?_,q⟩
      rw [List.getElem?_append_left (by simpa [← r.length] using hi),List.getElem?_map,e2]
      rfl
  · rw [List.getElem?_append_right (by simpa using hi),List.getElem?_replicate] at e
    split at e <;> cases e
theorem fnM {P:Program} {w:World} {K:W.Frag} {mg:Str→Option Value} {base:Heap} {x qual:Str} {st:Stmt} {f:Addr} {fd:FuncData} {N ps:List Str} {k n:Nat} {F:FF} (G:Fun K x qual st f fd) (S:FnScope N ps (zm st)) (hn:ps.length=n)
    (hbody:∀ (cdv:Value) (A:Around) (outer:List Env) (s:Shared) (H:Hp) (E:XK),Room k (A.deeper (envOfC qual (zm st) s.heap.objs.size f cdv)) →
      ∃ p,MSs (zbq CX0 P w K mg base N qual (zm st) f cdv A outer s H E).nox (zIb st) p∧∀ ds μ d μ',ds.length=n→F ds μ = some (d,μ')→zzb (p (zG N ds) μ)=some (d,μ')) :
    FnOk P w K mg base CX0 (k+1) f fd ps (spM K n F):=by
  refine G.ok S (fun vs H Q E h=>by rw [hn];exact h.1) (fun cdv A outer s H vs Q E hr h=>?_)
  obtain ⟨p,hp,hF⟩:=hbody cdv A outer s H E hr
  refine ⟨_,hp,?_⟩
  obtain ⟨hl,ρ,ds,μ,d,μ',r,R,e,k⟩:=h
  have e':=hF ds μ d μ' (by rw [r.length];exact hl) e
  cases eo:p (zG N ds) μ with
  | none=>rw [eo] at e';cases e'
  | some o =>
    rw [eo] at e'
    refine ⟨ρ,zG N ds,μ,o,zao r R,eo,?_⟩
    cases o with
    | ret d2 μ2=>cases e';exact fun ρ' v H' x' R' r'=>k ρ' H' v x' R' r'
    | next δ2 μ2=>cases e';exact fun ρ' σ' H' x' A'=>k ρ' H' .non x' A'.hp .non
    | brk _ _=>cases e'
    | cont _ _=>cases e'
    | exc _ _ _=>cases e'
noncomputable def zfu (sc inner:Scope):Bool:=(inner.kind == .function) && inner.names.all (fun y=>inner.names.lookup y.1 == some y.2) &&
  inner.names.all fun x=>x.2 != .free || sc.names.lookup x.1 == some .cell || sc.names.lookup x.1 == some .free
theorem zxr {sc inner:Scope} (h:zfu sc inner=true):inner.kind = .function:=by
  unfold zfu at h
  simp only [Bool.and_eq_true,beq_iff_eq] at h
  exact h.1.1
theorem zeu {sc inner:Scope} (h:zfu sc inner=true):∀ y∈inner.names,inner.names.lookup y.1=some y.2:=by
  unfold zfu at h
  simp only [Bool.and_eq_true] at h
  intro y hy
  exact beq_iff_eq.mp (List.all_eq_true.mp h.1.2 y hy)
theorem zzq {sc inner:Scope} (h:zfu sc inner=true):∀ x∈inner.names,x.2 = .free→(sc.names.lookup x.1=some .cell∨sc.names.lookup x.1=some .free):=by
  unfold zfu at h
  simp only [Bool.and_eq_true] at h
  intro y hy e
  have:=List.all_eq_true.mp h.2 y hy
  simpa [e] using this
theorem zY {N:List Str} (h:decide N.Nodup=true):N.Nodup:=of_decide_eq_true h
theorem zrc {P:Nat→Prop}:∀ i∈([]:List Nat),P i:=fun i h=>nomatch h
theorem zbb {P:Nat→Prop} {i:Nat} {l:List Nat} (h:P i) (r:∀ j∈l,P j):∀ j∈i :: l,P j:=fun j hj=>by
  rcases List.mem_cons.mp hj with rfl | hj
  · exact h
  · exact r j hj
section
variable {X:Cx} {a b c e:Expr} {es:List Expr} {φ ψ χ:FE} {pos:Pos}
theorem mlc {scope:Scope} {elt tg iter:Expr} {ifs:List Expr} {i:FI} {g:FG} {ct:FT} (own:List Str) (fr:List Nat) (hi:MI X tg iter i)
    (hg:∀ cl C s₀ H₀ fp,MGc (cxC X own fr scope cl C s₀ H₀ fp) own.length tg g) (hq:∀ cl C s₀ H₀ fp,MF (cxC X own fr scope cl C s₀ H₀ fp) ifs ct) (he:∀ cl C s₀ H₀ fp,ME (cxC X own fr scope cl C s₀ H₀ fp) elt φ)
    (hfr:∀ i∈fr,∃ x,X.N[i]?=some x∧scope.names.lookup x=some .free) (hok:zfu X.env.scope scope=true:=by rfl) (hc:X.calm=true:=by rfl) (hs:∀ x,foldedSetIterable iter X.env x=pure x:=by intro _;rfl) :
    ME X (.ListComp elt [⟨tg,iter,ifs,0⟩] scope pos) (fLC own.length fr i g ct φ) :=
  zxx own fr hi hg hq he hc (zxr hok) (zeu hok) (zzq hok) hfr hs
structure FnAt (K:W.Frag) (mg:Str→Option Value) (x:Str) (st:Stmt) (ps:List Str) (f:Addr) (fd:FuncData):Prop where
  fn:Fun K x x st f fd
  at_:mg x=some (.ref f)
  bd:Binds K fd ps []
theorem mcall {k j n:Nat} {st:Stmt} {f:Addr} {fd:FuncData} {ps:List Str} {F:FF} {x:Str} {p:Pos} {φ:FA} (B:FnAt X.K X.mg x st ps f fd) (G:FnOk X.prog X.w X.K X.mg X.base CX0 j f fd ps (spM X.K n F)) (hr:Room k X.A)
    (ha:MAn X (e :: es) φ) (hj:j≤k:=by decide) (hn:(e :: es).length=n:=by rfl) (hg:Gl X x:=by rfl) (hdb:(x == ("__debug__":Str))=false:=by decide) (he:starEach (e :: es) X.env=(false,eval e X.env) :: starEach es X.env:=by exact zvf rfl) (hpl:(backTo pos (starEach es X.env)).any (·.1)=false:=by rfl) :
    ME X (.Call (.Name x p) (e :: es) [] pos) (zy F φ):=zvu G (hr.mono hj) B.at_ B.fn.kp B.bd ha hn hg hdb he hpl
end
section
variable {X:Cx} {a b c e:Expr} {es:List Expr} {φ ψ χ:FE} {pos:Pos}
theorem cat0 {prog:Program} {w:World} {A:Around} {E:Value→Shared→Prop} {s:Shared} {t b:Addr} {vs ws:List Value} {Q:Value→Shared→Prop} (ht:IsTup s.heap t vs.toArray) (hb:IsTup s.heap b ws.toArray) (hv:vs = []) (h:Q (.ref b) s) :
    wpAny (model prog w) A (binaryOp .Add (.ref t) (.ref b)) Q E s:=by
  obtain ⟨⟨cls,dd,data,sl⟩,ho,hc,n,hd⟩:=id ht
  obtain ⟨⟨cls2,dd2,data2,sl2⟩,ho2,hc2,n2,hd2⟩:=id hb
  simp only at hc hd hc2 hd2
  subst hc hd hc2 hd2
  refine concat_meets ⟨_,ho,rfl⟩ ⟨_,ho2,rfl⟩ noFill_tuple_add seq_tuple_add PySem.F.slot_tuple_add PySem.F.entry_tuple_add (PySem.F.args_tuple_add_2 _ _) (tuple_addW0 t b vs.toArray ws.toArray n n2 dd dd2 sl sl2 (by rw [hv];rfl)) ⟨ho,ho2,h⟩
theorem z8:OpM X (binaryOp .Add) zWd:=by
  refine OpM.of fun pins s σ H x y v u Q I rx ry ρ dx dy μ d μ' r1 r2 R e k=>?_
  unfold zWd at e
  split at e
  · cases e
    rw [r1.int_inv] at rx;rw [r2.int_inv] at ry
    obtain ⟨t,rfl⟩:=rx
    obtain ⟨t',rfl⟩:=ry
    exact add_int ⟨.int _,H,I.tok _,⟨_,rfl⟩,k ρ H _ Ext.refl R .int⟩
  · rename_i as bs
    obtain ⟨h1,e⟩:=zM e
    have h1:=of_decide_eq_true h1
    cases e
    obtain ⟨a1,vs,rfl,e1,q1⟩:=r1.tup_inv
    obtain ⟨a2,ws,rfl,e2,q2⟩:=r2.tup_inv
    have hm:=million
    have hl1:=q1.length
    have hl2:=q2.length
    by_cases hv:vs = []
    · cases rx;cases ry
      obtain ⟨its,rv,p1,_⟩:=I.tuple (SqT.of (K:=X.K) e1)
      obtain ⟨its2,rv2,p2,_⟩:=I.tuple (SqT.of (K:=X.K) e2)
      refine cat0 p1 p2 (rv.nil_iff.mpr hv) ⟨.ref a2,H,I,rfl,k ρ H _ Ext.refl R ?_⟩
      have ha:as = []:=by rw [hv] at hl1;exact List.length_eq_zero_iff.mp hl1
      rw [ha,List.nil_append]
      exact r2
    · refine z3t pins s σ H _ _ v u Q I rx ry ⟨a1,a2,vs,ws,rfl,rfl,SqT.of e1,SqT.of e2,hv,by first|decide|omega,fun hw=>?_,fun _ p hp=>?_⟩
      · have hb:bs = []:=by rw [hw] at hl2;exact List.length_eq_zero_iff.mp hl2
        rw [hb,append_nil] at k
        exact k ρ H _ Ext.refl R r1
      · exact k ρ _ _ (Ext.new hp) (R.newTup hp) (.tup zo ((q1.append q2).ext (Ext.new hp)))
  · split at e
    · rename_i hm1 hm2
      obtain ⟨h1,e⟩:=zM e
      have h1:=of_decide_eq_true h1
      cases e
      obtain ⟨a1,rfl,e1⟩:=r1.loc_inv
      obtain ⟨a2,rfl,e2⟩:=r2.loc_inv
      obtain ⟨vs,e3,q1⟩:=R.at_ _ _ _ e1 hm1
      obtain ⟨ws,e4,q2⟩:=R.at_ _ _ _ e2 hm2
      have hm:=million
      have hl1:=q1.length
      have hl2:=q2.length
      exact zBv pins s σ H _ _ v u Q I rx ry ⟨a1,a2,vs,ws,rfl,rfl,e3,e4,by first|decide|omega,fun p hp=>k _ _ _ (Ext.push hp) (R.push hp ⟨_,zo,(q1.append q2).ext (Ext.push hp)⟩) (.loc (zvb R))⟩
    · cases e
  · cases e
theorem z8i:fillsNumberSlot (.type "tuple") "mul" = pure false :=
  PyProof.Rows.fillsNumberSlot_seq (id:="tuple.__mul__") (r:=some (.builtin "tuple.__rmul__")) PySem.F.slot_tuple_mul.lookup (by decide +kernel) PySem.F.slot_tuple_rmul.lookup (by decide +kernel)
theorem zZo:seqRepeat? (.type "tuple")=pure (some (.builtin "tuple.__mul__")):=by
  unfold seqRepeat?
  rw [PyProof.Rows.seqSlot_of (T:="tuple") (name:="__mul__") (id:="tuple.__mul__") PySem.F.slot_tuple_mul.lookup (by decide +kernel),PyProof.Rows.seqSlot_of (T:="tuple") (name:="__rmul__") (id:="tuple.__rmul__") PySem.F.slot_tuple_rmul.lookup (by decide +kernel)]
  rfl
theorem zIg (i:Int) (t:Tok) (l:Addr) (items:Array Value) (n:Nat) (dd:Option Addr) (sl:Array (Option Value)) :
    Meets (Builtin.«int.__rmul__» ⟨[.int i t, .ref l],[]⟩) (fun _ R s=>s.heap.get? l=some { cls := .type "tuple",dict:=dd,data := .seq items n,slots:=sl }∧R (.ok (.ret Value.notImplemented)) s) :=
  .of_wp fun prog w A R s h=>by
    obtain ⟨hp,g,d,tk,os⟩:=s
    obtain ⟨hl,h⟩:=h
    wp_walk
    exact ⟨_,rfl,h⟩
theorem zIk (l:Addr) (items:Array Value) (n:Nat) (dd:Option Addr) (sl:Array (Option Value)) (i:Int) (t:Tok) (h2:2≤i) (h3:i≤1000) (h4:items.isEmpty=false) (h5:items.size≤1000)
    (hsz:((List.replicate i.toNat items).foldl (fun x1 x2=>x1++x2) #[]).size≤sizeLine) :
    Meets (Builtin.«tuple.__mul__» ⟨[.ref l, .int i t],[]⟩) (fun _ R s=>s.heap.get? l=some { cls := .type "tuple",dict:=dd,data := .seq items n,slots:=sl } ∧
      R (.ok (.ret (Value.ref s.heap.objs.size))) { s with heap:=s.heap.push { cls:=Value.type "tuple",data:=Data.seq ((List.replicate i.toNat items).foldl (fun x1 x2=>x1++x2) #[]) },toks:=s.toks }) :=
  .of_wp fun prog w A R s h=>by
    obtain ⟨hp,g,d,tk,os⟩:=s
    obtain ⟨hl,h⟩:=h
    have f1:=AutoSeq1.idx_int
    have c1:¬ ((decide (i < -(2 ^ 63)) || decide (i ≥ 2 ^ 63))=true):=by
      rw [decide_eq_false (by first|decide|omega),decide_eq_false (by first|decide|omega)]
      exact Bool.false_ne_true
    have c2:¬ ((items.isEmpty || i == 1)=true):=by
      rw [h4,show (i == 1)=false by simp;omega]
      exact Bool.false_ne_true
    have c3:¬ ((decide (i≤0) || items.isEmpty)=true):=by
      rw [h4,decide_eq_false (by first|decide|omega)]
      exact Bool.false_ne_true
    have c4:¬ ((items.size:Int) * i > (2 ^ 63 - 1) / 8):=by
      have h6:(items.size:Int) * i≤1000 * 1000:=Int.mul_le_mul (by first|decide|omega) h3 (by first|decide|omega) (by first|decide|omega)
      omega
    have c5:¬ (Builtin.Tuple.tupleTooMany ((items.size:Int) * i)=true):=by
      have h6:(items.size:Int) * i≤1000 * 1000:=Int.mul_le_mul (by first|decide|omega) h3 (by first|decide|omega) (by first|decide|omega)
      have hz:(sizeLine:Int)=16777216:=by rw [sizeLine_eq];rfl
      unfold Builtin.Tuple.tupleTooMany
      rw [decide_eq_false (by first|decide|omega)]
      exact Bool.false_ne_true
    wp_walk using wpAny_loadPart' hl
    rw [if_neg c1]
    wp_walk using wpAny_loadPart' hl
    rw [if_neg c2]
    dsimp only
    rw [if_neg c3,if_neg c4,if_neg c5]
    refine wpAny_bind (m:=Builtin.Tuple.tupleExact _) (wpAny_newObj_type (wpAny_pure ⟨_,rfl,h⟩) hsz)
theorem zxj (its:List Value):∀ (n:Nat) (acc:List Value),List.foldl (fun x1 x2=>x1++x2) acc.toArray (List.replicate n its.toArray)=(acc++(List.replicate n its).flatten).toArray
  | 0,acc=>by simp
  | n+1,acc=>by
    rw [replicate_succ,List.foldl_cons,List.append_toArray,zxj its n,replicate_succ,flatten_cons,append_assoc]
theorem zJm {K:W.Frag} {ρ:List Addr} {H:Hp} {ds:List D} {vs:List V} (r:RepVs K ρ H ds vs):∀ n:Nat,RepVs K ρ H (List.replicate n ds).flatten (List.replicate n vs).flatten
  | 0 => .nil
  | n+1=>by
    rw [replicate_succ,replicate_succ,flatten_cons,flatten_cons]
    exact r.append (zJm r n)
theorem zWk {vs:List V} {us:List Value} (r:Vals vs us):∀ n:Nat,Vals (List.replicate n vs).flatten (List.replicate n us).flatten
  | 0 => .nil
  | n+1=>by
    rw [replicate_succ,replicate_succ,flatten_cons,flatten_cons]
    exact r.append (zWk r n)
theorem zNd:OpM X (binaryOp .Mult) zii:=by
  refine OpM.of fun pins s σ H x y v u Q I rx ry ρ dx dy μ d μ' r1 r2 R e k=>?_
  unfold zii at e
  split at e
  · obtain ⟨h1,e⟩:=zM e
    cases e
    rw [r1.int_inv] at rx;rw [r2.int_inv] at ry
    obtain ⟨t,rfl⟩:=rx
    obtain ⟨t',rfl⟩:=ry
    exact mul_int ⟨.int _,H,I.tok _,⟨_,rfl⟩,k ρ H _ Ext.refl R .int⟩ (zCs h1)
  · rename_i ds i
    obtain ⟨h1,e⟩:=zM e
    have h1:=of_decide_eq_true h1
    obtain ⟨h2,h3,h4,h5⟩:=h1
    cases e
    obtain ⟨a1,vs,rfl,e1,q1⟩:=r1.tup_inv
    rw [r2.int_inv] at ry
    cases rx
    obtain ⟨t,rfl⟩:=ry
    obtain ⟨its,rv,⟨⟨cls,dd,data,sl⟩,ho,hc,n,hd⟩,hz⟩:=I.tuple (SqT.of (K:=X.K) e1)
    simp only at hc hd
    subst hc hd
    have hl:its.length=ds.length:=by rw [q1.length,rv.length]
    have hlen:((List.replicate i.toNat vs).flatten).length≤sizeLine:=by
      rw [zwq]
      have hm:=million
      have h6:i.toNat * vs.length≤1000 * 1000:=Nat.mul_le_mul (by first|decide|omega) (by rw [← q1.length];exact h5)
      omega
    have e2:=zxj its i.toNat []
    rw [List.nil_append] at e2
    have hsz:((List.replicate i.toNat its.toArray).foldl (fun x1 x2=>x1++x2) #[]).size≤sizeLine:=by
      rw [show (#[]:Array Value)=([]:List Value).toArray from rfl,e2,size_toArray,← (zWk rv i.toNat).length]
      exact hlen
    refine wpAny_binaryOp_repeat_ref (T:="tuple") (U:="int") (by decide) ⟨_,ho,rfl⟩ (fun s'=>typeIs_int s' i t) z8i PySem.F.fills_int_mul PySem.F.slot_int_rmul zZo PySem.F.slot_int_index.lookup
      (call_meets PySem.F.slot_int_rmul (typeIs_int s i t) PySem.F.entry_int_rmul (PySem.F.args_int_rmul_2 _ _) (zIg i t a1 its.toArray n dd sl)
        ⟨ho,rfl,⟨_,ho,rfl⟩,call_meets PySem.F.slot_tuple_mul ⟨_,ho,rfl⟩ PySem.F.entry_tuple_mul (PySem.F.args_tuple_mul_2 _ _) (zIk a1 its.toArray n dd sl i t h2 h3 (by rw [List.isEmpty_toArray,List.isEmpty_eq_false_iff_exists_mem];exact ⟨_,getElem_mem (by omega:0<its.length)⟩) (by rw [size_toArray,hl];exact h5) hsz) ⟨ho,?_⟩⟩)
    rw [show (#[]:Array Value)=([]:List Value).toArray from rfl,e2]
    have hf:=I.hok.fresh (Nat.le_refl s.heap.objs.size)
    refine ⟨.ref s.heap.objs.size,_,I.laid (t':=s.toks) (o := .tup (List.replicate i.toNat vs).flatten) (fun b ob q=>Heap.get?_push_of_some _ q) (Nat.le_refl _) ?_,rfl,k ρ _ _ (Ext.new hf) (R.newTup hf) (.tup zo ((zJm q1 i.toNat).ext (Ext.new hf)))⟩
    exact ⟨hlen,_,zWk rv i.toNat,IsTup.new _ _⟩
  · rename_i l n
    split at e
    · rename_i ds hm
      obtain ⟨h1,e⟩:=zM e
      have h1:=of_decide_eq_true h1
      obtain ⟨h2,h3,h4⟩:=h1
      cases e
      obtain ⟨a1,rfl,ea⟩:=r1.loc_inv
      obtain ⟨vs,e3,q3⟩:=R.at_ _ _ _ ea hm
      refine z8u pins s σ H _ _ v u Q I rx ry ⟨a1,n,vs,rfl,r2.int_inv,e3,by first|decide|omega,by first|decide|omega,?_,fun p hp=>k _ _ _ (Ext.push hp) (R.push hp ⟨_,zo,(zJm q3 n.toNat).ext (Ext.push hp)⟩) (.loc (zvb R))⟩
      have hmi:=million
      have h6:vs.length * n.toNat≤1000 * 1000:=Nat.mul_le_mul (by rw [← q3.length];exact h4) (by first|decide|omega)
      omega
    · cases e
  · cases e
noncomputable abbrev FO:=Loc→Mem→Option (Option Int×Mem)
noncomputable def tMO (K:W.Frag) (φ:FO):TO:=fun σ H Q=>∃ ρ δ μ o μ',At K ρ H σ δ μ∧φ δ μ = some (o,μ')∧∀ ρ' H',Ext ρ H ρ' H'→RepH K ρ' H' μ'→Q o H'
def MO (X:Cx) (e:Option Expr) (φ:FO):Prop:=PO X e (tMO X.K φ)
@[simp] noncomputable def pNo:FO:=fun _ μ=>some (none,μ)
@[simp] noncomputable def z7p (φ:FE):FO:=fun δ μ=>(φ δ μ).bind fun p=>match p.1 with
  | .int i=>some (some i,p.2)
  | _=>none
noncomputable def cutD (xs:List D) (lo hi:Option Int):List D:=(xs.drop (HT.sIx xs.length 0 lo)).take (HT.sIx xs.length xs.length hi - HT.sIx xs.length 0 lo)
@[simp] noncomputable def fSl (φ:FE) (lo hi:FO):FE:=fun δ μ=>(φ δ μ).bind fun p=>(lo δ p.2).bind fun l=>(hi δ l.2).bind fun h=>match p.1 with
  | .tup ds=>some (.tup (cutD ds l.1 h.1),h.2)
  | .loc n=>match h.2[n]? with
    | some (.lst ds)=>some (.loc h.2.length,h.2 ++ [.lst (cutD ds l.1 h.1)])
    | _=>none
  | _=>none
end
theorem zUq {prog:Program} {w:World} {A:Around} {E:Value→Shared→Prop} {s:Shared} {t sl:Addr} {items:Array Value} {vl vu:Value} {lo hi:Option Int} {Q:Value→Shared→Prop} (ht:IsTup s.heap t items) (hs:s.heap.IsSliceOf sl vl vu .none) (pl:IsPart vl lo) (pu:IsPart vu hi)
    (hw:HT.sIx items.size 0 lo=0∧HT.sIx items.size items.size hi=items.size) (h:Q (.ref t) s):wpAny (model prog w) A (getItem (.ref t) (.ref sl)) Q E s:=by
  obtain ⟨os,hos,hcs,hds⟩:=id hs
  have hTs:s.TypeIs (.ref sl) "slice":=⟨os,hos,hcs⟩
  unfold getItem
  try with_reducible refine wpAny_holding ?_
  first | refine wpAny_bind (wpAny_pure ?_) | skip
  refine wpAny_bind (wpAny_sequenceKey ht.typeIs (by decide) ?_)
  refine wpAny_bind (wpAny_callSpecial?_slot (name:=Str.ofString "__getitem__") ht.typeIs PyProof.Rows.slot_tuple_getitem
    (wpAny_call_entry PyProof.Rows.slot_tuple_getitem ht.typeIs entry_tuple_getitem ?_ (args_tuple_getitem _ _)))
  show wpAny _ _ (Builtin.Tuple.tupleItemsOf (.ref t) >>= _) _ _ s
  refine wpAny_bind (tupleItemsOf_ ht ?_)
  refine wpAny_bind (wpAny_typeOf hTs ?_)
  rw [if_pos (by decide)]
  refine wpAny_bind (HT.sliceApplied_gen hs pl pu ?_)
  have hyes:(((HT.sIx items.size 0 lo:Nat):Int) == 0 && (1:Int) == 1 && (HT.sIx items.size items.size hi - HT.sIx items.size 0 lo) == items.size)=true:=by
    rw [hw.1,hw.2]
    simp
  show wpAny _ _ (if (((HT.sIx items.size 0 lo:Nat):Int) == 0 && (1:Int) == 1 && (HT.sIx items.size items.size hi - HT.sIx items.size 0 lo) == items.size)=true then _ else _) _ _ s
  rw [if_pos hyes]
  refine wpAny_bind (m:=Builtin.Tuple.tupleIsExact _) ?_
  unfold Builtin.Tuple.tupleIsExact
  refine wpAny_bind (wpAny_typeOf ht.typeIs (wpAny_pure ?_))
  rw [if_pos (by decide)]
  exact wpAny_bind (wpAny_rule (wpAny_pure ⟨_,rfl,wpAny_pure h⟩))
section
variable {X:Cx} {a b c e:Expr} {es:List Expr} {φ ψ χ:FE} {pos p2:Pos} {lo hi:Option Expr}
def rSl (K:W.Frag):V→Option Int→Option Int→Hp→VK→Prop:=fun x lo hi H Q=>∃ a xs,x = .ref a∧H a=some (.tup xs) ∧
  ((HT.sIx xs.length 0 lo=0∧HT.sIx xs.length xs.length hi=xs.length)→Q (.ref a) H)∧∀ p,H p=none→Q (.ref p) (upd H p (.tup (zyr xs lo hi)))
theorem zvw:SlR X (rSl X.K):=by
  intro pins s σ H x v vl vu lo hi sl Q I rx hs pl pu h
  obtain ⟨a,xs,rfl,hx,h1,h2⟩:=h
  by_cases hw:HT.sIx xs.length 0 lo=0∧HT.sIx xs.length xs.length hi=xs.length
  · cases rx
    obtain ⟨its,r,ht,hz⟩:=I.tuple (SqT.of (K:=X.K) hx)
    have hlen:its.toArray.size=xs.length:=by rw [size_toArray];exact r.length.symm
    exact ⟨"tuple",_,PyProof.Rows.slot_tuple_getitem.lookup,ht.typeIs,zUq ht hs pl pu (by rw [hlen];exact hw) ⟨.ref a,H,I,rfl,h1 hw⟩⟩
  · exact zhv pins s σ H _ v vl vu lo hi sl Q I rx hs pl pu ⟨a,xs,rfl,SqT.of hx,hw,h2⟩
theorem zEm:MO X none pNo:=by intro pins s σ H Q I hh;obtain ⟨ρ,δ,μ,o,μ',A,e,k⟩:=hh;exact zmt pins s σ H Q I (by cases e;exact k ρ H Ext.refl A.hp)
theorem z5h (h:ME X e φ):MO X (some e) (z7p φ):=by intro pins s σ H Q I hh;obtain ⟨ρ,δ,μ,o,μ',A,e,k⟩:=hh;exact ztt h pins s σ H Q I (by
  obtain ⟨⟨x,μ1⟩,e1,e⟩:=zf e
  refine ⟨ρ,δ,μ,x,μ1,A,e1,fun ρ1 H1 v x1 R1 r1=>?_⟩
  dsimp only at e
  split at e
  · cases e
    exact ⟨_,r1.int_inv,k ρ1 H1 x1 R1⟩
  · cases e)
theorem zwn {K:W.Frag} {ρ:List Addr} {H:Hp} {ds:List D} {vs:List V} {lo hi:Option Int} (r:RepVs K ρ H ds vs):RepVs K ρ H (cutD ds lo hi) (zyr vs lo hi):=by
  unfold cutD zyr
  rw [r.length]
  exact (r.drop _).take _
theorem zOm {l h:FO} (he:ME X e φ) (hl:MO X lo l) (hu:MO X hi h):ME X (.Subscript e (.Slice lo hi none p2) pos) (fSl φ l h) :=
  zcd (zss (SlR.or zvw zCt) he hl hu) fun ρ δ μ σ H d μ' Q A e k=>by
    obtain ⟨⟨x,μ1⟩,e1,e⟩:=zf e
    obtain ⟨⟨o1,μ2⟩,e2,e⟩:=zf e
    obtain ⟨⟨o2,μ3⟩,e3,e⟩:=zf e
    refine ⟨ρ,δ,μ,x,μ1,A,e1,fun ρ1 H1 v x1 R1 r1=>?_⟩
    refine ⟨ρ1,δ,μ1,o1,μ2,A.ext x1 R1,e2,fun ρ2 H2 x2 R2=>?_⟩
    refine ⟨ρ2,δ,μ2,o2,μ3,A.ext (x1.trans x2) R2,e3,fun ρ3 H3 x3 R3=>?_⟩
    dsimp only at e
    split at e
    · cases e
      obtain ⟨a,vs,rfl,ea,q⟩:=(r1.ext (x2.trans x3)).tup_inv
      have xx:=x1.trans (x2.trans x3)
      refine .inl ⟨a,vs,rfl,ea,fun hw=>k ρ3 H3 _ xx R3 (.tup ea ?_),fun p hp=>k ρ3 _ _ (xx.trans (Ext.new hp)) (R3.newTup hp) (.tup zo ((zwn q).ext (Ext.new hp)))⟩
      have e4:zyr vs o1 o2=vs:=by
        unfold zyr
        rw [hw.1,hw.2,Nat.sub_zero,List.drop_zero,take_length]
      have:=zwn (lo:=o1) (hi:=o2) q
      rw [e4] at this
      exact this
    · split at e
      · rename_i hm
        cases e
        obtain ⟨a,rfl,ea⟩:=(r1.ext (x2.trans x3)).loc_inv
        obtain ⟨vs,ev,q⟩:=R3.at_ _ _ _ ea hm
        have xx:=x1.trans (x2.trans x3)
        exact .inr ⟨a,vs,rfl,SqL.of ev,fun p hp=>k _ _ _ (xx.trans (Ext.push hp)) (R3.push hp ⟨_,zo,(zwn q).ext (Ext.push hp)⟩) (.loc (zvb R3))⟩
      · cases e
    · cases e
@[simp] noncomputable def zYw (φ:FE):FE:=fun δ μ=>(φ δ μ).bind fun p=>match p.1 with
  | .int i=>some (.int (-i),p.2)
  | _=>none
theorem z6u (h:ME X a φ):ME X (.UnaryOp .USub a pos) (zYw φ) :=
  zcd (z0w zbv h) fun ρ δ μ σ H d μ' Q A e k=>by
    obtain ⟨⟨x,μ1⟩,e1,e⟩:=zf e
    refine ⟨ρ,δ,μ,x,μ1,A,e1,fun ρ1 H1 v x1 R1 r1=>?_⟩
    dsimp only at e
    split at e
    · cases e
      exact ⟨_,r1.int_inv,k ρ1 H1 _ x1 R1 .int⟩
    · cases e
theorem big {pins:List (Addr×Obj)} {σ:L2.St} {H:Hp} {s:Shared} (I:Inv X pins σ H s):sysModules<s.heap.objs.size:=by
  have h:mainGlobals<s.heap.objs.size:=(I.mod.glob.keeps I.bk).lt
  exact Nat.lt_trans (by decide) h
@[simp] noncomputable def zSw:FE:=fun _ μ=>some (.loc μ.length,μ ++ [.dct []])
theorem zQv:ME X (.Dict [] [] pos) zSw:=by
  intro pins s σ H Q I hh
  obtain ⟨ρ,δ,μ,d,μ',A,e,k⟩:=hh
  cases e
  have hf:=I.hok.fresh (Nat.le_refl s.heap.objs.size)
  refine wpAny_Dict_empty ⟨.ref s.heap.objs.size,_,I.laid (a:=s.heap.objs.size) (o := .dK []) (t':=s.toks) (fun _ _ q=>Heap.get?_push_of_some _ q) (Nat.le_refl _) ?_,rfl,k _ _ _ (Ext.push hf) (A.hp.push hf ⟨[],zo,rfl, .nil⟩) (.loc (zvb A.hp))⟩
  exact ⟨Nat.zero_le _,beq_eq_false_iff_ne.mpr (Ne.symm (Nat.ne_of_lt (big I))),[], .nil,Heap.DictOf.new _⟩
noncomputable def zQc:D→Bool
  | .non | .bl _ | .int _ | .str _=>true
  | _=>false
noncomputable def eqF:D→D→Bool
  | .non, .non=>true
  | .bl a, .bl b=>a == b
  | .bl a, .int b=>(if a then 1 else 0) == b
  | .int a, .bl b=>a == (if b then 1 else 0)
  | .int a, .int b=>a == b
  | .str a, .str b=>a == b
  | _,_=>false
noncomputable def zog:G2:=fun x y μ=>(items μ y).bind fun ds=>bif zQc x && ds.all zQc then some (.bl (!ds.any fun d=>eqF d x),μ) else none
theorem zuk {K:W.Frag} {ρ:List Addr} {H:Hp} {d:D} {v:V} (r:RepV K ρ H d v) (f:zQc d=true):zgi v=true:=by
  cases d with
  | non=>rw [r.non_inv];rfl
  | bl b=>rw [r.bl_inv];rfl
  | int b=>rw [r.int_inv];rfl
  | str b=>rw [r.str_inv];rfl
  | _=>cases f
theorem zTq {K:W.Frag} {ρ:List Addr} {H:Hp} {d d':D} {v v':V} (r:RepV K ρ H d v) (r':RepV K ρ H d' v') (f:zQc d=true) (f':zQc d'=true):eqV v v'=eqF d d':=by
  cases d with
  | non=>rw [r.non_inv];cases d' with
    | non=>rw [r'.non_inv];rfl
    | bl b=>rw [r'.bl_inv];rfl
    | int b=>rw [r'.int_inv];rfl
    | str b=>rw [r'.str_inv];rfl
    | _=>cases f'
  | bl b=>rw [r.bl_inv];cases d' with
    | non=>rw [r'.non_inv];rfl
    | bl b=>rw [r'.bl_inv];rfl
    | int b=>rw [r'.int_inv];rfl
    | str b=>rw [r'.str_inv];rfl
    | _=>cases f'
  | int b=>rw [r.int_inv];cases d' with
    | non=>rw [r'.non_inv];rfl
    | bl b=>rw [r'.bl_inv];rfl
    | int b=>rw [r'.int_inv];rfl
    | str b=>rw [r'.str_inv];rfl
    | _=>cases f'
  | str b=>rw [r.str_inv];cases d' with
    | non=>rw [r'.non_inv];rfl
    | bl b=>rw [r'.bl_inv];rfl
    | int b=>rw [r'.int_inv];rfl
    | str b=>rw [r'.str_inv];rfl
    | _=>cases f'
  | _=>cases f
theorem zsr {K:W.Frag} {ρ:List Addr} {H:Hp} {x:D} {v:V} (rx:RepV K ρ H x v) (fx:zQc x=true):∀ {ds:List D} {vs:List V},RepVs K ρ H ds vs→ds.all zQc=true→vs.all zgi=true∧inV v vs=ds.any fun d=>eqF d x
  | [],_,r,_=>by rw [r.nil_inv];exact ⟨rfl,rfl⟩
  | d :: ds,_,r,f=>by
    obtain ⟨w,ws,rfl,r1,r2⟩:=r.cons_inv
    rw [all_cons,Bool.and_eq_true] at f
    obtain ⟨h1,h2⟩:=zsr rx fx r2 f.2
    refine ⟨by rw [all_cons,zuk r1 f.1,h1];rfl,?_⟩
    unfold inV at h2 ⊢
    rw [any_cons,any_cons,h2,zTq r1 rx f.1 fx]
theorem zje:OpM X (compareOp .NotIn) zog:=by
  refine OpM.of fun pins s σ H x y v u Q I rx ry ρ dx dy μ d μ' r1 r2 R e k=>?_
  obtain ⟨ds,e1,e⟩:=zf e
  obtain ⟨h1,e⟩:=zM e
  rw [Bool.and_eq_true] at h1
  cases e
  obtain ⟨p,vs,rfl,hq,rr⟩:=zng R r2 e1
  obtain ⟨h3,h4⟩:=zsr r1 h1.1 rr h1.2
  exact zkl pins s σ H x _ v u Q I rx ry ⟨p,vs,rfl,hq,zuk r1 h1.1,h3,by rw [if_pos rfl,h4];exact k ρ H _ Ext.refl R .bl⟩
noncomputable abbrev GM:=D→List D→Mem→Option (D×Mem)
@[simp] noncomputable def z2e (g:GM) (φ:FE) (ψ:FA):FE:=fun δ μ=>(φ δ μ).bind fun p=>match p.1 with
  | .loc n=>match p.2[n]? with
    | some (.lst _)=>(ψ δ p.2).bind fun q=>g (.loc n) q.1 q.2
    | _=>none
  | _=>none
@[simp] noncomputable def zed:GM:=fun x ds μ=>match x,ds with
  | .loc n,[d]=>match μ[n]? with
    | some (.lst xs)=>bif decide (xs.length≤1000000) then some (.non,μ.set n (.lst (xs ++ [d]))) else none
    | _=>none
  | _,_=>none
def MtG (X:Cx) (id:String) (g:GM):Prop:=MtR X id fun x xs H Q=>∃ ρ dx ds μ d μ',RepV X.K ρ H dx x∧RepVs X.K ρ H ds xs∧RepH X.K ρ H μ∧g dx ds μ = some (d,μ')∧∀ ρ' H' v,Ext ρ H ρ' H'→RepH X.K ρ' H' μ'→RepV X.K ρ' H' d v→Q v H'
theorem MtG.of {X:Cx} {id:String} {g:GM} (h:∀ (pins:List (Addr×Obj)) (s:Shared) (σ:L2.St) (H:Hp) (x:V) (xs:List V) (v:Value) (us:List Value) (Q:VK),Inv X pins σ H s→RelV x v→Vals xs us→∀ (ρ:List Addr) (dx:D) (ds:List D) (μ:Mem) (d:D) (μ':Mem),RepV X.K ρ H dx x→RepVs X.K ρ H ds xs→RepH X.K ρ H μ→g dx ds μ = some (d,μ')→(∀ ρ' H' v,Ext ρ H ρ' H'→RepH X.K ρ' H' μ'→RepV X.K ρ' H' d v→Q v H')→wpAny (model X.prog X.w) X.A (call (.builtin id) (v :: us)) (EP X pins σ Q) X.xe s):MtG X id g:=by
  intro pins s σ H x xs v us Q I rx rs hh
  obtain ⟨ρ,dx,ds,μ,d,μ',r1,r2,R,e,k⟩:=hh
  exact h pins s σ H x xs v us Q I rx rs ρ dx ds μ d μ' r1 r2 R e k
theorem zzk {o:Expr} {ψ:FA} {name:Str} {id:String} {g:GM} {apos:Pos} (slot:Slot "list" name id) (hty:typeOf (.builtin id)=pure (.type "method_descriptor")) (hm:MtG X id g) (ho:ME X o φ) (ha:MAn X (e :: es) ψ)
    (hbase:attributeBase o name X.env (eval o X.env)=eval o X.env:=by rfl)
    (hfew:((backTo pos (starEach (e :: es) X.env)).all (fun x=>!x.1) && (backToKw pos (keywordEach [] X.env)).all (fun x=>x.1.isSome)
      && decide ((e :: es).length+([]:List Keyword).length+(if ([]:List Keyword).isEmpty then 0 else 1)<30))=true:=by rfl)
    (hline:(apos.endLine == pos.line)=true:=by rfl) (hs:starEach (e :: es) X.env=(false,eval e X.env) :: starEach es X.env:=by rfl) (hplain:(backTo pos (starEach es X.env)).any (·.1)=false:=by rfl) :
    ME X (.Call (.Attribute o name apos) (e :: es) [] pos) (z2e g φ ψ) :=
  zcd (z7w PySem.F.plainAttrs_list slot hty hm ho ha.ma hbase hfew hline hs hplain) fun ρ δ μ σ H d μ' Q A e k=>by
    obtain ⟨⟨x,μ1⟩,e1,e⟩:=zf e
    refine ⟨ρ,δ,μ,x,μ1,A,e1,fun ρ1 H1 v x1 R1 r1=>?_⟩
    dsimp only at e
    split at e
    · split at e
      · rename_i hm'
        obtain ⟨⟨ds,μ2⟩,e2,e⟩:=zf e
        obtain ⟨a,rfl,ea⟩:=r1.loc_inv
        obtain ⟨vs,e3,q3⟩:=R1.at_ _ _ _ ea hm'
        refine ⟨.inl ⟨rfl,vs,SqL.of e3⟩,ρ1,δ,μ1,ds,μ2,A.ext x1 R1,e2,fun ρ2 H2 vs2 x2 R2 r2=>?_⟩
        exact ⟨ρ2,_,ds,μ2,d,μ',r1.ext x2,r2,R2,e,fun ρ3 H3 v3 x3 R3 r3=>k ρ3 H3 v3 (x1.trans (x2.trans x3)) R3 r3⟩
      · cases e
    · cases e
theorem zCo:MtG X "list.append" zed:=by
  refine MtG.of fun pins s σ H x xs v us Q I rx rs ρ dx ds μ d μ' r1 r2 R e k=>?_
  unfold zed at e
  split at e
  · split at e
    · rename_i hm
      obtain ⟨h1,e⟩:=zM e
      have h1:=of_decide_eq_true h1
      cases e
      obtain ⟨a,rfl,ea⟩:=r1.loc_inv
      obtain ⟨vs,e3,q3⟩:=R.at_ _ _ _ ea hm
      obtain ⟨w,r,rfl,q1,q2⟩:=r2.cons_inv
      rw [q2.nil_inv] at rs
      have hl:=q3.length
      have hmi:=million
      have hmu:Mut (H a):=by rw [e3];trivial
      refine zDp pins s σ H _ _ v us Q I rx rs ⟨a,vs,w,rfl,rfl,e3,by first|decide|omega,?_⟩
      exact k ρ _ _ (Ext.wr hmu) (R.wr hmu ea ⟨_,zo,RepVs.ext (Ext.wr hmu) (q3.append (.cons q1 .nil))⟩) .non
    · cases e
  · cases e
theorem zud {o:Expr} {ψ:FA} {apos:Pos} (ho:ME X o φ) (ha:MAn X (e :: es) ψ)
    (hbase:attributeBase o "append" X.env (eval o X.env)=eval o X.env:=by rfl)
    (hfew:((backTo pos (starEach (e :: es) X.env)).all (fun x=>!x.1) && (backToKw pos (keywordEach [] X.env)).all (fun x=>x.1.isSome)
      && decide ((e :: es).length+([]:List Keyword).length+(if ([]:List Keyword).isEmpty then 0 else 1)<30))=true:=by rfl)
    (hline:(apos.endLine == pos.line)=true:=by rfl) (hs:starEach (e :: es) X.env=(false,eval e X.env) :: starEach es X.env:=by rfl) (hplain:(backTo pos (starEach es X.env)).any (·.1)=false:=by rfl) :
    ME X (.Call (.Attribute o "append" apos) (e :: es) [] pos) (z2e zed φ ψ):=zzk PySem.F.slot_list_append PySem.F.type_list_append zCo ho ha hbase hfew hline hs hplain
end
end M
namespace M
open PySem
def RS (xs:Array Nat):Prop:=xs.toList.Pairwise (· < ·)
theorem zHk (xs:Array Nat) (j:Nat) (h:RS xs):∀ (fuel lo hi:Nat),lo≤hi→hi≤xs.size→hi - lo≤fuel→(∀ i (hi':i<xs.size),i<lo→xs[i]<j)→(∀ i (hi':i<xs.size),hi≤i→j≤xs[i]) →
    SetTable.below.go xs j fuel lo hi≤xs.size∧(∀ i (hi':i<xs.size),i<SetTable.below.go xs j fuel lo hi→xs[i]<j)∧∀ i (hi':i<xs.size),SetTable.below.go xs j fuel lo hi≤i→j≤xs[i]
  | 0,lo,hi,h1,h2,h3,h4,h5=>by
    have:lo=hi:=by omega
    subst this
    unfold SetTable.below.go
    exact ⟨h2,h4,h5⟩
  | fuel+1,lo,hi,h1,h2,h3,h4,h5=>by
    have hp:∀ i k (hi:i<xs.size) (hk:k<xs.size),i<k→xs[i]<xs[k]:=fun i k hi hk hik=>by
      have:=List.pairwise_iff_getElem.mp h i k (by simpa using hi) (by simpa using hk) hik
      simpa using this
    unfold SetTable.below.go
    by_cases hlt:lo<hi
    · rw [if_pos hlt]
      dsimp only
      have hm:(lo+hi) / 2<xs.size:=by omega
      have hg:xs.getD ((lo+hi) / 2) j=xs[(lo+hi) / 2]:=by simp [Array.getD,hm]
      rw [hg]
      by_cases hc:xs[(lo+hi) / 2]<j
      · rw [if_pos hc]
        refine zHk xs j h fuel _ hi (by first|decide|omega) h2 (by first|decide|omega) (fun i hi' hil=>?_) h5
        by_cases e:i=(lo+hi) / 2
        · subst e;exact hc
        · exact Nat.lt_trans (hp i _ hi' hm (by first|decide|omega)) hc
      · rw [if_neg hc]
        refine zHk xs j h fuel lo _ (by first|decide|omega) (by first|decide|omega) (by first|decide|omega) h4 (fun i hi' hil=>?_)
        by_cases e:i=(lo+hi) / 2
        · subst e;omega
        · exact Nat.le_trans (by first|decide|omega) (Nat.le_of_lt (hp _ i hm hi' (by first|decide|omega)))
    · rw [if_neg hlt]
      have:lo=hi:=by omega
      subst this
      exact ⟨h2,h4,h5⟩
theorem zqj (xs:Array Nat) (j:Nat) (h:RS xs):SetTable.below xs j≤xs.size∧(∀ i (hi:i<xs.size),i<SetTable.below xs j→xs[i]<j)∧∀ i (hi':i<xs.size),SetTable.below xs j≤i→j≤xs[i] :=
  zHk xs j h xs.size 0 xs.size (Nat.zero_le _) (Nat.le_refl _) (by first|decide|omega) (fun i _ h=>by first|decide|omega) (fun i h1 h2=>by first|decide|omega)
theorem zyk {α:Type} (xs:Array α) (p:Nat) (x:α):(SetTable.insertAt xs p x).toList=xs.toList.take p++x :: xs.toList.drop p:=by
  unfold SetTable.insertAt
  simp
  rw [List.take_of_length_le (by simp)]
theorem zfw {xs:Array Nat} {j:Nat} (h:RS xs) (hn:xs[SetTable.below xs j]?≠some j):RS (SetTable.insertAt xs (SetTable.below xs j) j):=by
  obtain ⟨h0,h1,h2⟩:=zqj xs j h
  unfold RS at h ⊢
  rw [zyk]
  generalize SetTable.below xs j=r at *
  have hd:∀ y∈xs.toList.drop r,j<y:=fun y hy=>by
    obtain ⟨i,hi,rfl⟩:=List.mem_iff_getElem.mp hy
    simp at hi
    have hi':r+i<xs.size:=by omega
    have h3:=h2 (r+i) hi' (by first|decide|omega)
    have e:(xs.toList.drop r)[i]'(by simp;omega)=xs[r+i]:=by simp
    rw [e]
    by_cases hz:i=0
    · subst hz
      have:xs[r]?=some xs[r]:=by simp
      simp only [Nat.add_zero] at h3 ⊢
      rw [this] at hn
      have:xs[r]≠j:=fun e=>hn (by rw [e])
      omega
    · have hp:=List.pairwise_iff_getElem.mp h r (r+i) (by simp;omega) (by simpa using hi') (by first|decide|omega)
      simp at hp
      have:=h2 r (by first|decide|omega) (Nat.le_refl _)
      omega
  have ht:∀ y∈xs.toList.take r,y<j:=fun y hy=>by
    obtain ⟨i,hi,rfl⟩:=List.mem_iff_getElem.mp hy
    simp at hi
    have e:(xs.toList.take r)[i]'(by simp;omega)=xs[i]:=by simp
    rw [e]
    exact h1 i (by first|decide|omega) (by first|decide|omega)
  rw [List.pairwise_append]
  refine ⟨h.sublist (List.take_sublist _ _),List.pairwise_cons.mpr ⟨hd,h.sublist (List.drop_sublist _ _)⟩,fun a ha b hb=>?_⟩
  rcases List.mem_cons.mp hb with rfl | hb
  · exact ht a ha
  · exact Nat.lt_trans (ht a ha) (hd b hb)
structure TOk (L:Bool) (t:SetTable):Prop where
  rs:RS t.place
  nd:t.dummies = #[]
  led:t.led=L
theorem zCn {j:Nat}:SetTable.has #[] j=false:=by
  unfold SetTable.has;simp
theorem z1n {t:SetTable} (hn:t.dummies = #[]) {ha:Nat→Int} {h:Int}:∀ (fuel:Nat) (p:SetTable.Probe) (j:Nat) (d:Option Nat),p.dummy=none→SetTable.probe.go t ha h fuel p=some (.empty j d)→t.slot j = .empty∧d=none
  | 0,p,j,d,_,e=>by unfold SetTable.probe.go at e;cases e
  | fuel+1,p,j,d,hd,e=>by
    unfold SetTable.probe.go at e
    have hadv:(t.advance p).dummy=none:=by
      unfold SetTable.advance
      split
      · exact hd
      · exact hd
    split at e
    · rename_i hs
      cases e
      exact ⟨hs,hd⟩
    · rename_i hs
      unfold SetTable.slot at hs
      dsimp only at hs
      rw [hn,zCn] at hs
      split at hs <;> simp at hs
    · split at e
      · cases e
      · exact z1n hn fuel _ j d hadv e
theorem zgl {t:SetTable} (hn:t.dummies = #[]) {h:Int} {j:Nat} {b:Bool} (e:t.freeSlot h=some (j,b)):t.place[SetTable.below t.place j]?≠some j:=by
  unfold SetTable.freeSlot at e
  split at e
  · rename_i j' d hp
    obtain ⟨h1,rfl⟩:=z1n hn _ _ _ _ rfl hp
    cases e
    unfold SetTable.slot at h1
    dsimp only at h1
    intro q
    simp only [Option.getD_none] at q
    rw [q] at h1
    simp at h1
  · cases e
theorem TOk.standIn {L:Bool} {t:SetTable} (h:TOk L t) (n:Nat):TOk L (t.standIn n):=by
  refine ⟨?_,rfl,h.led⟩
  unfold RS SetTable.standIn
  rw [Array.toList_range]
  exact List.pairwise_lt_range
theorem TOk.layNew {L:Bool} {t:SetTable} (h:TOk L t) (es:Array (Int×Value)) (hs:Int) (x:Value):TOk L (layNew t es hs x).2.1:=by
  unfold PySem.layNew
  split
  · rename_i slot wd e
    have hne:=zgl h.nd e
    have h1:TOk L (t.put slot).1:=⟨zfw h.rs hne,by
      unfold SetTable.put
      dsimp only
      rw [h.nd,zCn]
      rfl,h.led⟩
    show TOk L ((t.put slot).1.orStandIn _)
    unfold SetTable.orStandIn
    split
    · exact h1
    · exact h1.standIn _
  · exact h.standIn _
theorem TOk.relay {L:Bool} {t:SetTable} (h:TOk L t) (es:Array (Int×Value)) (wanted:Nat):TOk L (relayAll t es wanted).2.1:=by
  unfold relayAll
  split
  · rename_i t' order e
    dsimp only
    split
    · unfold SetTable.relaid SetTable.laid at e
      obtain ⟨ow,_,e⟩:=Option.bind_eq_some_iff.mp e
      cases e
      refine ⟨?_,rfl,h.led⟩
      unfold RS
      dsimp only
      rw [List.pairwise_map]
      refine List.Pairwise.filterMap _ (fun a a' hlt b hb b' hb'=>?_) List.pairwise_lt_range
      simp at hb hb'
      obtain ⟨_,_,rfl⟩:=hb
      obtain ⟨_,_,rfl⟩:=hb'
      exact hlt
    · exact h.standIn _
  · exact h.standIn _
theorem TOk.fresh (L:Bool):TOk L (.fresh 0 0 L):=⟨List.Pairwise.nil,rfl,rfl⟩
noncomputable def z1h (e:Int×Value):Int:=match e.2 with
  | .int i _=>i
  | _=>0
noncomputable def SetAt (prog:Program) (w:World) (h:Heap) (a:Addr) (ks:List Int):Prop :=
  ∃ o es ep t,h.get? a=some o∧o.ExactSet∧o.data = .set es ep t∧t.fits es.size=true∧TOk (!w.params.followText "set-order") t∧ElemsOf (intKind prog w) es.toList∧(es.toList.map z1h).Perm ks
section
variable {prog:Program} {w:World} {A:Around} {E:Value→Shared→Prop} {s:Shared}
theorem zvr {es:List (Int×Value)} {e:Int×Value} {k:Int} (h:ElemsOf (intKind prog w) es) (he:e∈es):(intKind prog w).is k e.2=true↔z1h e=k:=by
  obtain ⟨⟨j,hj,_⟩,_⟩:=h e he
  obtain ⟨t,ht⟩:=Value.isInt_shape (show Value.isInt j e.2=true from hj)
  unfold z1h
  rw [ht]
  constructor
  · intro q
    obtain ⟨u,hu⟩:=Value.isInt_shape (show Value.isInt k (.int j t)=true from q)
    cases hu
    rfl
  · intro q
    have q:j=k:=q
    rw [q]
    exact intKind_is prog w k t
theorem SetAt.at' {h h':Heap} {a:Addr} {ks:List Int} (x:SetAt prog w h a ks) (k:∀ o,h.get? a=some o→h'.get? a=some o):SetAt prog w h' a ks:=by
  obtain ⟨o,es,ep,t,h1,h2⟩:=x
  exact ⟨o,es,ep,t,k o h1,h2⟩
theorem zPn (b:Bool) {Q:Unit→Shared→Prop} (h:Q () s):wpAny (model prog w) A (match b with | true=>rule "set.scan.the-table-gave-way" | false=>pure ()) Q E s:=by
  cases b
  · exact wpAny_pure h
  · exact wpAny_rule h
theorem stored {o:Obj} {h:Heap} {a:Addr} {es:Array (Int×Value)} {ep:Nat} {t:SetTable} (ho:h.get? a=some o) (hd:o.data = .set es ep t) (es1:Array (Int×Value)) (t1:SetTable) :
    (h.update a (Obj.putSet es1 t1)).get? a=some { o with data := .set es1 (ep+1) t1 }:=by
  have e:=putSet_of es1 t1 hd
  have q:=Heap.get?_update_self (Obj.putSet es1 t1) ho (by rw [e];rfl)
  rw [e] at q
  exact q
theorem zhu {a:Addr} {ks:List Int} {k:Int} {tk:Tok} {Q:Bool→Shared→Prop} (hS:SetAt prog w s.heap a ks) (hroom:ks.length+1<scanBound)
    (h:∀ b h',Heap.SameBut a s.heap h'→SetAt prog w h' a (if k∈ks then ks else ks ++ [k])→Q b { s with heap:=h' }):wpAny (model prog w) A (setAddHashed a (.int k tk) (hashInt k)) Q E s:=by
  obtain ⟨o,es,ep,t,ho,hex,hd,hf,hT,hel,hp⟩:=hS
  have hsz:es.size=ks.length:=by
    have:=hp.length_eq
    simpa using this
  have hmem:k∈ks↔∃ e∈es.toList,z1h e=k:=by
    rw [← hp.mem_iff,mem_map]
  unfold setAddHashed setAddHashedIn
  refine wpAny_holding (wpAny_bind (wpAny_setState_of ho hd hf ?_))
  dsimp only
  rw [byScan_of (knd:=intKind prog w) (x := .int k tk) rfl (by first|decide|omega) hel]
  simp only [↓reduceIte]
  unfold setAddByScan
  refine wpAny_bind (wpAny_bind (wpAny_rule (wpAny_bind (wpAny_setScan_of (knd:=intKind prog w) (k:=k) (intKind_is prog w k tk) ho hd hf hel ?_))))
  cases hr:List.findIdx? (fun e=>(intKind prog w).is k e.2) es.toList with
  | some j =>
    dsimp only
    obtain ⟨hj,hpj,_⟩:=List.findIdx?_eq_some_iff_getElem.mp hr
    have hk:k∈ks:=hmem.mpr ⟨es.toList[j],getElem_mem hj,(zvr hel (getElem_mem hj)).mp hpj⟩
    have q:=h false s.heap (Heap.SameBut.refl a s.heap) ⟨o,es,ep,t,ho,hex,hd,hf,hT,hel,by rw [if_pos hk];exact hp⟩
    exact wpAny_pure (wpAny_pure q)
  | none =>
    dsimp only
    have hk:k∉ks:=fun hk=>by
      obtain ⟨e,he,q⟩:=hmem.mp hk
      have:=List.findIdx?_eq_none_iff.mp hr e he
      rw [(zvr hel he).mpr q] at this
      cases this
    rw [if_neg hk] at h
    have p1:=layNew_perm t es (hashInt k) (.int k tk)
    have f1:=layNew_fits t es (hashInt k) (.int k tk)
    have T1:=hT.layNew es (hashInt k) (.int k tk)
    show wpAny _ _ (_ >>= _) _ _ _
    generalize layNew t es (hashInt k) (.int k tk)=L1 at p1 f1 T1 ⊢
    obtain ⟨es1,t1,wd,gv⟩:=L1
    dsimp only at p1 f1 T1 ⊢
    rw [Array.toList_push] at p1
    have el1:ElemsOf (intKind prog w) es1.toList:=(hel.push (intKind_is prog w k tk) rfl).perm p1
    have pk1:(es1.toList.map z1h).Perm (ks ++ [k]):=by
      refine (p1.map z1h).trans ?_
      rw [map_append]
      exact hp.append_right _
    have z1:es1.size=ks.length+1:=by
      have:=pk1.length_eq
      simpa using this
    refine wpAny_bind (zPn gv ?_)
    have fin:wpAny (model prog w) A (do
        storeSet a es1 t1
        if (!wd && t1.tooFull)=true then
          match relayAll t1 es1 (SetTable.grown es1.size) with
          | (es2,t2,gv2)=>do
            (match gv2 with | true=>rule "set.scan.the-table-gave-way" | false=>pure ())
            storeSet a es2 t2
            pure (some true)
        else pure (some true)) (fun r s'=>∃ h',s' = { s with heap:=h' }∧r=some true∧Heap.SameBut a s.heap h'∧SetAt prog w h' a (ks ++ [k])) E s:=by
      refine wpAny_bind (wpAny_storeSet_of ho hd ?_ (fits_of_scanBound (by first|decide|omega)))
      have s1:=stored ho hd es1 t1
      have b1:=Heap.SameBut.update s.heap a (Obj.putSet es1 t1)
      split
      · have p2:=relayAll_perm t1 es1 (SetTable.grown es1.size)
        have f2:=relayAll_fits t1 es1 (SetTable.grown es1.size)
        have T2:=T1.relay es1 (SetTable.grown es1.size)
        generalize relayAll t1 es1 (SetTable.grown es1.size)=L2 at p2 f2 T2 ⊢
        obtain ⟨es2,t2,gv2⟩:=L2
        dsimp only at p2 f2 T2 ⊢
        have z2:es2.size=es1.size:=by
          have:=p2.length_eq
          simpa using this
        refine wpAny_bind (zPn gv2 (wpAny_bind (wpAny_storeSet_of s1 rfl ?_ (fits_of_scanBound (by first|decide|omega)))))
        exact wpAny_pure ⟨_,rfl,rfl,b1.trans (Heap.SameBut.update _ a _),_,es2,_,t2,stored s1 rfl es2 t2,hex,rfl,f2,T2,el1.perm p2,(p2.map z1h).trans pk1⟩
      · exact wpAny_pure ⟨_,rfl,rfl,b1,_,es1,_,t1,s1,hex,rfl,f1,T1,el1,pk1⟩
    have goal2:wpAny (model prog w) A (do
        storeSet a es1 t1
        if (!wd && t1.tooFull)=true then
          match relayAll t1 es1 (SetTable.grown es1.size) with
          | (es2,t2,gv2)=>do
            (match gv2 with | true=>rule "set.scan.the-table-gave-way" | false=>pure ())
            storeSet a es2 t2
            pure (some true)
        else pure (some true)) (fun r s'=>wpAny (model prog w) A (match r with | some added=>pure added | none=>setAddHashedIn a (.int k tk) (hashInt k) 99999) Q E s') E s:=by
      refine wpAny_mono fin (fun r s' ⟨h',e1,e2,b,x⟩=>?_) fun _ _ z=>z
      subst e1 e2
      exact wpAny_pure (h true h' b x)
    split
    · refine wpAny_bind ?_
      rw [hashByValue_scannable 8 (x := .int k tk) rfl]
      exact wpAny_pure goal2
    · exact wpAny_bind (wpAny_pure goal2)
end
theorem zEg {α:Type}:∀ (l:List α) (i:Nat) (h:i<l.length),(l[i] :: l.eraseIdx i).Perm l
  | [],i,h=>by simp at h
  | y :: ys,0,h=>by simp
  | y :: ys,i+1,h=>by
    have h':i<ys.length:=by simpa using h
    show (ys[i] :: y :: ys.eraseIdx i).Perm (y :: ys)
    exact (List.Perm.swap y ys[i] _).trans ((zEg ys i h').cons y)
theorem zVq {α:Type} (next:Nat→Nat):∀ (fuel k:Nat) (rest:List α) (out:Array α),rest.length≤fuel→(pickOrder.go next fuel k rest out).toList.Perm (out.toList++rest)
  | 0,k,rest,out,h=>by
    have:rest = []:=List.length_eq_zero_iff.mp (Nat.le_zero.mp h)
    subst this
    unfold pickOrder.go
    simp
  | fuel+1,k,rest,out,h=>by
    unfold pickOrder.go
    cases rest with
    | nil=>simp
    | cons y ys =>
      have hlt:next k % (y :: ys).length<(y :: ys).length:=Nat.mod_lt _ (by simp)
      rw [List.getElem?_eq_getElem hlt]
      dsimp only
      refine (zVq next fuel (k+1) _ _ (by rw [List.length_eraseIdx_of_lt hlt];simp at h ⊢;omega)).trans ?_
      rw [Array.toList_push,append_assoc]
      exact List.Perm.append_left _ (zEg _ _ hlt)
theorem zLi {α:Type} (next:Nat→Nat) (xs:Array α):(pickOrder next xs).toList.Perm xs.toList:=by
  unfold pickOrder
  exact (zVq next xs.size 0 xs.toList #[] (by simp)).trans (by simp)
theorem slot_si_next:Slot "set_iterator" "__next__" "set_iterator.__next__" :=
  .of (owner:="set_iterator") (n:="__next__") (by rw [typeLookup_type,builtinLookup_eq_fast];kernel_rfl) (by decide +kernel) (by decide +kernel) (by decide +kernel) (by first | exact .inl (by decide +kernel) | exact .inr (by decide +kernel)) (by rw [isSubtype_type];kernel_rfl)
theorem zbh:Slot "set_iterator" "__iter__" "set_iterator.__iter__" :=
  .of (owner:="set_iterator") (n:="__iter__") (by rw [typeLookup_type,builtinLookup_eq_fast];kernel_rfl) (by decide +kernel) (by decide +kernel) (by decide +kernel) (by first | exact .inl (by decide +kernel) | exact .inr (by decide +kernel)) (by rw [isSubtype_type];kernel_rfl)
theorem zsc:entryFor table "set_iterator.__next__" = some Builtin.«set_iterator.__next__»:=entryFor_of_tree (by kernel_rfl)
theorem z8k:entryFor table "set_iterator.__iter__" = some Builtin.«dict_keyiterator.__iter__»:=entryFor_alias (id':="dict_keyiterator.__iter__") (by kernel_rfl) rfl (by decide +kernel) (by kernel_rfl)
theorem z7c (a:Value):argsOk "set_iterator.__next__" ⟨[a],[]⟩:=by unfold argsOk;kernel_rfl
theorem zPl (a:Value):argsOk "set_iterator.__iter__" ⟨[a],[]⟩:=by unfold argsOk;kernel_rfl
theorem zOl:entryFor table "set.__iter__" = some Builtin.«frozenset.__iter__»:=entryFor_alias (id':="frozenset.__iter__") (by kernel_rfl) rfl (by decide +kernel) (by kernel_rfl)
def SIt (h:Heap) (it a:Addr) (first:Value) (i n ep:Nat):Prop:=∃ o,h.get? it=some o∧o.cls = .type "set_iterator"∧o.data = .fields #[first, .int i 0, .ref a, .int n 0, .int ep 0]
def SOb (h:Heap) (a:Addr) (es:Array (Int×Value)) (ep:Nat) (t:SetTable):Prop:=∃ o,h.get? a=some o∧o.cls = .type "set"∧o.data = .set es ep t∧t.fits es.size=true
section
variable {prog:Program} {w:World} {A:Around} {E:Value→Shared→Prop} {s:Shared}
theorem SIt.typeIs {it a:Addr} {first:Value} {i n ep:Nat} (x:SIt s.heap it a first i n ep):s.TypeIs (.ref it) "set_iterator":=let ⟨o,ho,hc,_⟩:=x;⟨o,ho,hc⟩
theorem SIt.at' {h h':Heap} {it a:Addr} {first:Value} {i n ep:Nat} (x:SIt h it a first i n ep) (k:∀ o,h.get? it=some o→h'.get? it=some o):SIt h' it a first i n ep:=let ⟨o,ho,r⟩:=x;⟨o,k o ho,r⟩
theorem SOb.at' {h h':Heap} {a:Addr} {es:Array (Int×Value)} {ep:Nat} {t:SetTable} (x:SOb h a es ep t) (k:∀ o,h.get? a=some o→h'.get? a=some o):SOb h' a es ep t:=let ⟨o,ho,r⟩:=x;⟨o,k o ho,r⟩
theorem zLq {it:Addr} {o:Obj} {vs:Array Value} {Q:Option Value→Shared→Prop} (hh:A.handled=none) (ho:s.heap.get? it=some o) (hd:o.data = .fields vs) (h2:2<vs.size)
    (hQ:∀ h',Heap.ExtBut it s.heap h'→Q none { s with heap:=h' }) :
    wpAny (model prog w) A.in1 (do setField (.ref it) 2 .none;raiseNew (← newExc (.type "StopIteration") []):Sem Fin)
      (fun _ _=>False) (fun e s'=>wpAny (model prog w) A (do if ← isInstance e (.type "StopIteration") then pure none else throw e) Q E s') s:=by
  refine wpAny_bind (wpAny_setField ho hd h2 ?_)
  refine wpAny_bind ?_
  simp only [newExc,newTuple]
  refine wpAny_bind (wpAny_newObj_type ?_ (by size_fits))
  refine wpAny_bind (m:=firstArgMember _ _) (wpAny_of_eq (a:=Value.none) (by first | rfl | (simp only [firstArgMember];rfl)) ?_)
  refine wpAny_newObj_type ?_ (by size_fits)
  simp only [raiseNew]
  refine wpAny_bind (wpAny_handled ?_)
  have e:A.in1.handled=none:=hh
  rw [e]
  refine wpAny_bind (wpAny_pure (wpAny_throw ?_))
  refine wpAny_bind (wpAny_isInstance (T:="StopIteration") (b:=true) ⟨_,Heap.get?_push_size _ rfl,rfl⟩ isSubtype_stop ?_)
  exact wpAny_pure (hQ _ (((Heap.SameBut.update s.heap it _).extBut.push _).push _))
end
section
variable {prog:Program} {w:World} {A:Around} {E:Value→Shared→Prop} {s:Shared} {it a:Addr} {es:Array (Int×Value)} {ep i:Nat} {t:SetTable} {Q:Option Value→Shared→Prop}
theorem zsk (n:Nat):¬ (((n:Int) != (n:Int))=true):=by simp
theorem zUi {slot nx:Nat} {x:Value} (hI:SIt s.heap it a (.int slot 0) i es.size ep) (hO:SOb s.heap a es ep t)
    (hn:∀ (Q':Option (Value×Nat)→Shared→Prop) (E':Value→Shared→Prop),Q' (some (x,nx)) s→wpAny (model prog w) A.in1 (setNext a slot i ep) Q' E' s)
    (hQ:∀ h',SIt h' it a (.int nx 0) (i+1) es.size ep→Heap.SameBut it s.heap h'→Q (some x) { s with heap:=h' }):wpAny (model prog w) A (pyNext (.ref it)) Q E s:=by
  obtain ⟨o,ho,hc,hd⟩:=id hI
  obtain ⟨oa,hoa,_,hda,hfa⟩:=hO
  unfold pyNext
  refine wpAny_bind (wpAny_attempt (wpAny_callSpecial?_slot (name:=Str.ofString "__next__") hI.typeIs slot_si_next (wpAny_call_entry slot_si_next hI.typeIs zsc ?_ (z7c _))))
  unfold Builtin.«set_iterator.__next__»
  refine wpAny_bind (m:=slotArgs "__next__" 0 ⟨[Value.ref it],[]⟩) (wpAny_pure ?_)
  refine wpAny_bind (wpAny_fieldsOf ho hd ?_)
  dsimp only
  refine wpAny_bind (wpAny_setEntries_of hoa hda hfa ?_)
  rw [if_neg (zsk es.size)]
  refine wpAny_bind (hn _ _ ?_)
  dsimp only
  refine wpAny_bind (wpAny_setField ho hd (by simp) ?_)
  have ho1:=Heap.get?_update_self (Obj.mapFields (·.setIfInBounds 0 (rawInt nx))) ho (Obj.isFreed_of_fields (Obj.data_mapFields hd _))
  have hd1:=Obj.data_mapFields hd (·.setIfInBounds 0 (rawInt nx))
  refine wpAny_bind (wpAny_setField ho1 hd1 (by simp) (wpAny_pure ⟨x,rfl,wpAny_pure (hQ _ ?_ ((Heap.SameBut.update s.heap it _).trans (Heap.SameBut.update _ it _)))⟩))
  refine ⟨_,Heap.get?_update_self _ ho1 (Obj.isFreed_of_fields (Obj.data_mapFields hd1 _)),(Obj.cls_mapFields ..).trans ((Obj.cls_mapFields ..).trans hc),?_⟩
  rw [Obj.data_mapFields hd1]
  simp [rawInt]
theorem zOj {slot:Nat} (hh:A.handled=none) (hI:SIt s.heap it a (.int slot 0) i es.size ep) (hO:SOb s.heap a es ep t)
    (hn:∀ (Q':Option (Value×Nat)→Shared→Prop) (E':Value→Shared→Prop),Q' none s→wpAny (model prog w) A.in1 (setNext a slot i ep) Q' E' s)
    (hQ:∀ h',Heap.ExtBut it s.heap h'→Q none { s with heap:=h' }):wpAny (model prog w) A (pyNext (.ref it)) Q E s:=by
  obtain ⟨o,ho,hc,hd⟩:=id hI
  obtain ⟨oa,hoa,_,hda,hfa⟩:=hO
  unfold pyNext
  refine wpAny_bind (wpAny_attempt (wpAny_callSpecial?_slot (name:=Str.ofString "__next__") hI.typeIs slot_si_next (wpAny_call_entry slot_si_next hI.typeIs zsc ?_ (z7c _))))
  unfold Builtin.«set_iterator.__next__»
  refine wpAny_bind (m:=slotArgs "__next__" 0 ⟨[Value.ref it],[]⟩) (wpAny_pure ?_)
  refine wpAny_bind (wpAny_fieldsOf ho hd ?_)
  dsimp only
  refine wpAny_bind (wpAny_setEntries_of hoa hda hfa ?_)
  rw [if_neg (zsk es.size)]
  refine wpAny_bind (hn _ _ ?_)
  dsimp only
  exact wpAny_mono (zLq (Q:=Q) (E:=E) hh ho hd (by simp) hQ) (fun _ _ z=>z.elim) fun _ _ z=>z
theorem zHm {tup:Addr} {ot:Obj} {items:Array Value} {nt place:Nat} {x:Value} {hx:Int} (hI:SIt s.heap it a (.ref tup) i es.size ep) (hO:SOb s.heap a es ep t) (hot:s.heap.get? tup=some ot) (hdt:ot.data = .seq items nt)
    (hp:items[i]?=some (.int place 0)) (he:es[place]?=some (hx,x))
    (hQ:∀ h',SIt h' it a (.ref tup) (i+1) es.size ep→Heap.SameBut it s.heap h'→Q (some x) { s with heap:=h' }):wpAny (model prog w) A (pyNext (.ref it)) Q E s:=by
  obtain ⟨o,ho,hc,hd⟩:=id hI
  obtain ⟨oa,hoa,_,hda,hfa⟩:=hO
  unfold pyNext
  refine wpAny_bind (wpAny_attempt (wpAny_callSpecial?_slot (name:=Str.ofString "__next__") hI.typeIs slot_si_next (wpAny_call_entry slot_si_next hI.typeIs zsc ?_ (z7c _))))
  unfold Builtin.«set_iterator.__next__»
  refine wpAny_bind (m:=slotArgs "__next__" 0 ⟨[Value.ref it],[]⟩) (wpAny_pure ?_)
  refine wpAny_bind (wpAny_fieldsOf ho hd ?_)
  dsimp only
  refine wpAny_bind (wpAny_setEntries_of hoa hda hfa ?_)
  rw [if_neg (zsk es.size)]
  refine wpAny_bind (wpAny_seqItems hot hdt ?_)
  dsimp only
  simp only [Int.toNat_natCast,hp]
  unfold setNextDrawn
  refine wpAny_bind (wpAny_bind (wpAny_setState_of hoa hda hfa ?_))
  dsimp only
  rw [if_neg (by simp),he]
  dsimp only
  refine wpAny_pure ?_
  refine wpAny_bind (wpAny_setField ho hd (by simp) (wpAny_pure ⟨x,rfl,wpAny_pure (hQ _ ?_ (Heap.SameBut.update s.heap it _))⟩))
  refine ⟨_,Heap.get?_update_self _ ho (Obj.isFreed_of_fields (Obj.data_mapFields hd _)),(Obj.cls_mapFields ..).trans hc,?_⟩
  rw [Obj.data_mapFields hd]
  simp [rawInt]
theorem z9o {tup:Addr} {ot:Obj} {items:Array Value} {nt:Nat} (hh:A.handled=none) (hI:SIt s.heap it a (.ref tup) i es.size ep) (hO:SOb s.heap a es ep t) (hot:s.heap.get? tup=some ot) (hdt:ot.data = .seq items nt)
    (hp:items[i]?=none) (hQ:∀ h',Heap.ExtBut it s.heap h'→Q none { s with heap:=h' }):wpAny (model prog w) A (pyNext (.ref it)) Q E s:=by
  obtain ⟨o,ho,hc,hd⟩:=id hI
  obtain ⟨oa,hoa,_,hda,hfa⟩:=hO
  unfold pyNext
  refine wpAny_bind (wpAny_attempt (wpAny_callSpecial?_slot (name:=Str.ofString "__next__") hI.typeIs slot_si_next (wpAny_call_entry slot_si_next hI.typeIs zsc ?_ (z7c _))))
  unfold Builtin.«set_iterator.__next__»
  refine wpAny_bind (m:=slotArgs "__next__" 0 ⟨[Value.ref it],[]⟩) (wpAny_pure ?_)
  refine wpAny_bind (wpAny_fieldsOf ho hd ?_)
  dsimp only
  refine wpAny_bind (wpAny_setEntries_of hoa hda hfa ?_)
  rw [if_neg (zsk es.size)]
  refine wpAny_bind (wpAny_seqItems hot hdt ?_)
  dsimp only
  simp only [Int.toNat_natCast,hp]
  refine wpAny_bind (wpAny_setField ho hd (by simp) ?_)
  have ho1:=Heap.get?_update_self (Obj.mapFields (·.setIfInBounds 0 (rawInt 0))) ho (Obj.isFreed_of_fields (Obj.data_mapFields hd _))
  have hd1:=Obj.data_mapFields hd (·.setIfInBounds 0 (rawInt 0))
  exact wpAny_mono (zLq (Q:=Q) (E:=E) hh ho1 hd1 (by simp) fun h' x=>hQ h' fun b o' hb e=>x b o' hb ((Heap.SameBut.update s.heap it _).extBut b o' hb e)) (fun _ _ z=>z.elim) fun _ _ z=>z
end
section
variable {prog:Program} {w:World} {A:Around} {E:Value→Shared→Prop} {s:Shared} {it a:Addr} {es:Array (Int×Value)} {ep i:Nat} {t:SetTable}
theorem zmg {Q:Bool→Shared→Prop} (h:Q (w.params.followText "set-order") s):wpAny (model prog w) A setsByText Q E s:=by
  unfold setsByText
  exact wpAny_bind (wpAny_askSetting (wpAny_pure h))
theorem z4l {slot:Nat} (hw:w.params.followText "set-order" = true) (hO:SOb s.heap a es ep t) {Q:Option (Value×Nat)→Shared→Prop} (h:Q (((pickOrder (w.params.setOrder a ep) es)[i]?).map fun e=>(e.2,slot)) s) :
    wpAny (model prog w) A (setNext a slot i ep) Q E s:=by
  obtain ⟨oa,hoa,_,hda,hfa⟩:=hO
  unfold setNext
  refine wpAny_bind (wpAny_setState_of hoa hda hfa ?_)
  dsimp only
  refine wpAny_bind (zmg ?_)
  rw [hw,if_pos rfl,if_neg (by simp)]
  unfold setWalk
  refine wpAny_bind (wpAny_bind (wpAny_setState_of hoa hda hfa ?_))
  dsimp only
  refine wpAny_bind (zmg ?_)
  rw [hw,if_pos rfl]
  exact wpAny_bind (wpAny_askSetting (wpAny_pure (wpAny_pure h)))
noncomputable def ztd (t:SetTable) (i:Nat):Nat:=if i=0 then 0 else t.place.getD (i - 1) 0+1
theorem z2o (h:RS t.place) (hi:i≤t.place.size):SetTable.below t.place (ztd t i)=i:=by
  obtain ⟨h0,h1,h2⟩:=zqj t.place (ztd t i) h
  have hp:∀ i k (hi:i<t.place.size) (hk:k<t.place.size),i<k→t.place[i]<t.place[k]:=fun i k hi hk hik=>by
    have:=List.pairwise_iff_getElem.mp h i k (by simpa using hi) (by simpa using hk) hik
    simpa using this
  generalize hr:SetTable.below t.place (ztd t i)=r at *
  unfold ztd at h1 h2
  by_cases hz:i=0
  · subst hz
    rw [if_pos rfl] at h1
    by_cases hr0:0<r
    · have:=h1 0 (by first|decide|omega) hr0
      omega
    · omega
  · rw [if_neg hz] at h1 h2
    have hl:i - 1<t.place.size:=by omega
    have hg:t.place.getD (i - 1) 0=t.place[i - 1]:=by simp [Array.getD,hl]
    rw [hg] at h1 h2
    rcases Nat.lt_trichotomy r i with hlt | he | hgt
    · have h3:=h2 (i - 1) hl (by first|decide|omega)
      omega
    · exact he
    · have h3:=h1 i (by first|decide|omega) hgt
      have h4:=hp (i - 1) i hl (by first|decide|omega) (by first|decide|omega)
      omega
theorem zzj (hw:w.params.followText "set-order" = false) (hd:(!t.plain && decide (es.size > 1))=false) (hT:TOk true t) (hi:i≤es.size) (hO:SOb s.heap a es ep t) {Q:Option (Value×Nat)→Shared→Prop} (h:Q ((es[i]?).map fun e=>(e.2,ztd t (i+1))) s) :
    wpAny (model prog w) A (setNext a (ztd t i) i ep) Q E s:=by
  obtain ⟨oa,hoa,_,hda,hfa⟩:=hO
  have hsz:t.place.size=es.size:=by
    unfold SetTable.fits at hfa
    rw [Bool.and_eq_true] at hfa
    exact beq_iff_eq.mp hfa.1
  unfold setNext
  refine wpAny_bind (wpAny_setState_of hoa hda hfa ?_)
  dsimp only
  refine wpAny_bind (zmg ?_)
  rw [hw,if_neg Bool.false_ne_true]
  refine wpAny_ite_split (fun hab=>?_) fun _=>?_
  · have hab:(!t.plain && decide (es.size > 1))=true:=hab
    rw [hd] at hab
    cases hab
  · refine wpAny_bind ?_
    have led:wpAny (model prog w) A (if (!t.led && !es.isEmpty)=true then unsupported "set:maker-not-led" else pure ()) (fun _ s'=>wpAny (model prog w) A (pure (match es[SetTable.below t.place (ztd t i)]?,t.place[SetTable.below t.place (ztd t i)]? with
        | some (_,x),some j=>some (x,j+1)
        | _,_=>none):Sem (Option (Value×Nat))) Q E s') E s:=by
      rw [hT.led,if_neg (by simp)]
      refine wpAny_pure (wpAny_pure ?_)
      rw [z2o hT.rs (by first|decide|omega)]
      by_cases hlt:i<es.size
      · have e1:es[i]?=some es[i]:=by simp [hlt]
        have e2:t.place[i]?=some (t.place[i]'(by first|decide|omega)):=by simp [show i<t.place.size by omega]
        rw [e1] at h
        rw [e1,e2]
        have e3:ztd t (i+1)=t.place[i]'(by first|decide|omega)+1:=by
          unfold ztd
          rw [if_neg (by first|decide|omega)]
          simp [Array.getD,show i<t.place.size by omega]
        rw [e3] at h
        exact h
      · have e1:es[i]?=none:=by simp;omega
        rw [e1] at h
        rw [e1]
        exact h
    exact led
theorem zEj {α:Type}:∀ (n:Nat) (xs:List α) (s:Shared) (Q:List α→Shared→Prop),n=xs.length→(∀ ys d,ys.Perm xs→Q ys { s with drawn:=d })→wpAny (model prog w) A (drawOrder n xs) Q E s
  | 0,xs,s,Q,hn,h=>by
    have:xs = []:=List.length_eq_zero_iff.mp hn.symm
    subst this
    exact wpAny_pure (h [] s.drawn .nil)
  | n+1,[],s,Q,hn,h=>by simp at hn
  | n+1,x :: xs,s,Q,hn,h=>by
    unfold drawOrder
    refine wpAny_bind ?_
    intro Γ p hΓ
    unfold choose
    rw [Sem.wp_choose]
    refine ⟨by simp,?_⟩
    have hlt:(model prog w).w.draws .order (s.drawn.get .order) % (x :: xs).length<(x :: xs).length:=Nat.mod_lt _ (by simp)
    generalize (model prog w).w.draws .order (s.drawn.get .order) % (x :: xs).length=j at hlt ⊢
    generalize s.drawn.bump .order=d1
    have main:wpAny (model prog w) A (match (x :: xs)[j]? with
        | some y=>do return y :: (← drawOrder n ((x :: xs).eraseIdx j))
        | none=>unsupported "internal:drawOrder") Q E { s with drawn:=d1 }:=by
      rw [List.getElem?_eq_getElem hlt]
      dsimp only
      refine wpAny_bind (zEj n _ _ _ (by rw [List.length_eraseIdx_of_lt hlt];simp at hn ⊢;omega) fun ys d hp=>wpAny_pure (h _ d ?_))
      exact (hp.cons _).trans (zEg _ _ hlt)
    simp only [Sem.wp_pure]
    exact main
end
section
variable {prog:Program} {w:World} {A:Around} {E:Value→Shared→Prop} {s:Shared} {I a:Addr} {es:Array (Int×Value)} {ep i:Nat} {t:SetTable}
theorem zMm {first:Value} {n:Nat} {Q:Value→Shared→Prop} (hI:SIt s.heap I a first i n ep) (h:Q (.ref I) s):wpAny (model prog w) A (pyIter (.ref I)) Q E s:=by
  refine wpAny_pyIter_slot hI.typeIs zbh (wpAny_call_entry zbh hI.typeIs z8k ?_ (zPl _))
  unfold Builtin.«dict_keyiterator.__iter__»
  refine wpAny_bind (m:=slotArgs "__iter__" 0 ⟨[Value.ref I],[]⟩) (wpAny_pure ?_)
  exact wpAny_pure ⟨_,rfl,"set_iterator",_,hI.typeIs,slot_si_next.lookup,h⟩
abbrev zLu (ent:List (Int×Value)) (i:Nat) (v:Value):Prop:=∃ k,ent[i]?=some (k,v)
theorem zPp (hh:A.handled=none) (hne:a≠I) (hw:w.params.followText "set-order" = true) :
    Walks prog w A I [I,a] [I] es.size (zLu (pickOrder (w.params.setOrder a ep) es).toList) (fun i h=>SIt h I a (.int ((0:Nat):Int) 0) i es.size ep∧SOb h a es ep t) where
  sub:=fun b hb=>by simp at hb;simp [hb]
  frame:=fun _ _ _ st hk=>⟨st.1.at' fun o e=>hk I (by simp) o e,st.2.at' fun o e=>hk a (by simp) o e⟩
  item:=fun i s Q E hi st hQ=>by
    have hl:(pickOrder (w.params.setOrder a ep) es).size=es.size:=by
      have:=(zLi (w.params.setOrder a ep) es).length_eq
      simpa using this
    have hi':i<(pickOrder (w.params.setOrder a ep) es).size:=by omega
    have e1:(pickOrder (w.params.setOrder a ep) es)[i]?=some (pickOrder (w.params.setOrder a ep) es)[i]:=by simp [hi']
    refine zUi (nx:=0) (x:=(pickOrder (w.params.setOrder a ep) es)[i].2) st.1 st.2 (fun Q' E' hq=>z4l hw st.2 (by rw [e1];exact hq)) fun h' x sb=>?_
    refine hQ _ h' s.toks ⟨_,by rw [Array.getElem?_toList,e1]⟩ ⟨x,st.2.at' fun o e=>sb.extBut a o hne e⟩ fun b o hb e=>sb.extBut b o (fun h=>hb (by simp [h])) e
  done:=fun s Q E st hQ=>by
    have hl:(pickOrder (w.params.setOrder a ep) es).size=es.size:=by
      have:=(zLi (w.params.setOrder a ep) es).length_eq
      simpa using this
    refine zOj hh st.1 st.2 (fun Q' E' hq=>z4l hw st.2 (by rw [show (pickOrder (w.params.setOrder a ep) es)[es.size]?=none by simp;omega];exact hq)) fun h' x=>hQ h' s.toks fun b o hb e=>x b o (fun h=>hb (by simp [h])) e
  self:=fun _ _ _ _ st hQ=>zMm st.1 hQ
theorem zop (hh:A.handled=none) (hne:a≠I) (hw:w.params.followText "set-order" = false) (hd:(!t.plain && decide (es.size > 1))=false) (hT:TOk true t) :
    Walks prog w A I [I,a] [I] es.size (zLu es.toList) (fun i h=>SIt h I a (.int (ztd t i:Nat) 0) i es.size ep∧SOb h a es ep t) where
  sub:=fun b hb=>by simp at hb;simp [hb]
  frame:=fun _ _ _ st hk=>⟨st.1.at' fun o e=>hk I (by simp) o e,st.2.at' fun o e=>hk a (by simp) o e⟩
  item:=fun i s Q E hi st hQ=>by
    have e1:es[i]?=some es[i]:=by simp [hi]
    refine zUi (nx:=ztd t (i+1)) (x:=es[i].2) st.1 st.2 (fun Q' E' hq=>zzj hw hd hT (by first|decide|omega) st.2 (by rw [e1];exact hq)) fun h' x sb=>?_
    refine hQ _ h' s.toks ⟨_,by rw [Array.getElem?_toList,e1]⟩ ⟨x,st.2.at' fun o e=>sb.extBut a o hne e⟩ fun b o hb e=>sb.extBut b o (fun h=>hb (by simp [h])) e
  done:=fun s Q E st hQ=>by
    refine zOj hh st.1 st.2 (fun Q' E' hq=>zzj hw hd hT (by first|decide|omega) st.2 (by rw [show es[es.size]?=none by simp];exact hq)) fun h' x=>hQ h' s.toks fun b o hb e=>x b o (fun h=>hb (by simp [h])) e
  self:=fun _ _ _ _ st hQ=>zMm st.1 hQ
theorem zgp {tup:Addr} {ord:List Nat} {nt:Nat} (hh:A.handled=none) (hne:a≠I) (hne2:tup≠I) (hp:ord.Perm (List.range es.size)) :
    Walks prog w A I [I,a,tup] [I] es.size (zLu (ord.map fun j=>es.getD j (0, .none))) (fun i h=>SIt h I a (.ref tup) i es.size ep∧SOb h a es ep t∧∃ ot,h.get? tup=some ot∧ot.data = .seq (ord.map fun (j:Nat)=>rawInt j).toArray nt) where
  sub:=fun b hb=>by simp at hb;simp [hb]
  frame:=fun _ _ _ st hk=>⟨st.1.at' fun o e=>hk I (by simp) o e,st.2.1.at' fun o e=>hk a (by simp) o e,let ⟨ot,h1,h2⟩:=st.2.2;⟨ot,hk tup (by simp) ot h1,h2⟩⟩
  item:=fun i s Q E hi st hQ=>by
    obtain ⟨st1,st2,ot,h1,h2⟩:=st
    have hl:ord.length=es.size:=by
      have:=hp.length_eq
      simpa using this
    have hi':i<ord.length:=by omega
    have hj:ord[i]<es.size:=by
      have:=hp.mem_iff.mp (getElem_mem hi')
      simpa using this
    have e1:es[ord[i]]?=some es[ord[i]]:=by simp [hj]
    refine zHm (x:=es[ord[i]].2) (place:=ord[i]) (hx:=es[ord[i]].1) st1 st2 h1 h2 (by simp [hi',rawInt]) e1 fun h' x sb=>?_
    refine hQ _ h' s.toks ⟨es[ord[i]].1,by simp [hi',Array.getD,hj]⟩ ⟨x,st2.at' fun o e=>sb.extBut a o hne e,ot,sb.extBut tup ot hne2 h1,h2⟩ fun b o hb e=>sb.extBut b o (fun h=>hb (by simp [h])) e
  done:=fun s Q E st hQ=>by
    obtain ⟨st1,st2,ot,h1,h2⟩:=st
    have hl:ord.length=es.size:=by
      have:=hp.length_eq
      simpa using this
    refine z9o hh st1 st2 h1 h2 (by simp;omega) fun h' x=>hQ h' s.toks fun b o hb e=>x b o (fun h=>hb (by simp [h])) e
  self:=fun _ _ _ _ st hQ=>zMm st.1 hQ
theorem zEs {ord:List Nat} (hp:ord.Perm (List.range es.size)):(ord.map fun j=>es.getD j (0, .none)).Perm es.toList:=by
  refine (hp.map _).trans ?_
  have:(List.range es.size).map (fun j=>es.getD j (0,Value.none))=es.toList:=by
    apply List.ext_getElem
    · simp
    · intro n h1 h2
      simp at h1 h2
      simp [Array.getD,h1]
  rw [this]
end
section
variable {prog:Program} {w:World} {A:Around} {E:Value→Shared→Prop} {s:Shared} {a:Addr} {es:Array (Int×Value)} {ep:Nat} {t:SetTable}
noncomputable def zfx (prog:Program) (w:World) (A:Around) (s:Shared) (es:Array (Int×Value)) (a:Addr) (I:Addr) (s':Shared):Prop :=
  ∃ fp ent St,Walks prog w A I fp [I] es.size (zLu ent) St∧St 0 s'.heap∧ent.Perm es.toList∧s.heap.objs.size≤I∧(∀ b∈fp,s.heap.objs.size≤b∨b=a)∧(∀ b∈fp,b<s'.heap.objs.size)∧(∀ b o,s.heap.get? b=some o→s'.heap.get? b=some o)∧∃ d,s' = { s with heap:=s'.heap,drawn:=d }
theorem zIs {Q:Value→Shared→Prop} (hh:A.handled=none) (hT:TOk (!w.params.followText "set-order") t) (hO:SOb s.heap a es ep t) (hsz:es.size≤sizeLine)
    (h:∀ I s',zfx prog w A s es a I s'→Q (.ref I) s'):wpAny (model prog w) A (pyIter (.ref a)) Q E s:=by
  obtain ⟨oa,hoa,hca,hda,hfa⟩:=id hO
  have hTy:s.TypeIs (.ref a) "set":=⟨oa,hoa,hca⟩
  have hlt:a<s.heap.objs.size:=Heap.lt_size hoa
  refine wpAny_pyIter_slot hTy F.slot_set_iter (wpAny_call_entry F.slot_set_iter hTy zOl ?_ (F.args_set_iter_1 _))
  unfold Builtin.«frozenset.__iter__»
  refine wpAny_bind (m:=Builtin.Frozenset.slot0 "__iter__" ⟨[Value.ref a],[]⟩) (wpAny_pure ?_)
  unfold Builtin.Frozenset.sizeOf
  refine wpAny_bind (wpAny_bind (wpAny_setEntries_of hoa hda hfa (wpAny_pure ?_)))
  unfold setDrawn
  refine wpAny_bind (wpAny_bind (wpAny_setState_of hoa hda hfa ?_))
  dsimp only
  refine wpAny_bind (zmg (wpAny_pure ?_))
  refine wpAny_ite_split (fun hab=>?_) fun hab=>?_
  · have hab:(!w.params.followText "set-order" && (!t.plain && decide (es.size > 1)))=true:=hab
    refine wpAny_bind (zEj es.size _ _ _ (by simp) fun ord d hp=>?_)
    have hol:ord.length=es.size:=by
      have:=hp.length_eq
      simpa using this
    unfold newTuple
    refine wpAny_bind (wpAny_newObj_type ?_ (by show (List.map (fun (i:Nat)=>rawInt i) ord).toArray.size≤sizeLine;simp;omega))
    have hg:(s.heap.push { cls := .type "tuple",data := .seq (ord.map fun (i:Nat)=>rawInt i).toArray }).get? a=some oa:=Heap.get?_push_of_some _ hoa
    refine wpAny_bind ?_
    unfold setEpoch
    refine wpAny_bind (wpAny_setState_of (s:={ s with heap:=_,drawn:=d }) hg hda hfa (wpAny_pure ?_))
    unfold newFields
    refine wpAny_bind (wpAny_newObj_type (wpAny_pure ⟨_,rfl,"set_iterator",_,⟨_,Heap.get?_push_size _ rfl,rfl⟩,slot_si_next.lookup,?_⟩))
    have hs1:(s.heap.push { cls := .type "tuple",data := .seq (ord.map fun (i:Nat)=>rawInt i).toArray }).objs.size=s.heap.objs.size+1:=by rw [Heap.size_push]
    refine h _ _ ⟨[(s.heap.push { cls := .type "tuple",data := .seq (ord.map fun (i:Nat)=>rawInt i).toArray }).objs.size,a,s.heap.objs.size],ord.map fun j=>es.getD j (0, .none),_,
      zgp (t:=t) (ep:=ep) (nt:=0) hh (by rw [hs1];exact Nat.ne_of_lt (Nat.lt_succ_of_lt hlt)) (by rw [hs1];exact Nat.ne_of_lt (Nat.lt_succ_self _)) hp,⟨⟨_,Heap.get?_push_size _ rfl,rfl,by simp [rawInt]⟩,⟨oa,Heap.get?_push_of_some _ hg,hca,hda,hfa⟩,_,Heap.get?_push_of_some _ (Heap.get?_push_size _ rfl),rfl⟩,
      zEs hp,by rw [hs1];exact Nat.le_succ _,?_,?_,fun b o e=>Heap.get?_push_of_some _ (Heap.get?_push_of_some _ e),d,rfl⟩
    · intro b hb
      rw [hs1] at hb
      simp at hb
      rcases hb with rfl | rfl | rfl
      · exact .inl (Nat.le_succ _)
      · exact .inr rfl
      · exact .inl (Nat.le_refl _)
    · intro b hb
      show b<((s.heap.push _).push _).objs.size
      rw [Heap.size_push,hs1]
      rw [hs1] at hb
      simp at hb
      rcases hb with rfl | rfl | rfl
      · exact Nat.lt_succ_self _
      · exact Nat.lt_succ_of_lt (Nat.lt_succ_of_lt hlt)
      · exact Nat.lt_succ_of_lt (Nat.lt_succ_self _)
  · have hab:¬ (!w.params.followText "set-order" && (!t.plain && decide (es.size > 1)))=true:=hab
    refine wpAny_bind (wpAny_pure ?_)
    refine wpAny_bind ?_
    unfold setEpoch
    refine wpAny_bind (wpAny_setState_of hoa hda hfa (wpAny_pure ?_))
    unfold newFields
    refine wpAny_bind (wpAny_newObj_type (wpAny_pure ⟨_,rfl,"set_iterator",_,⟨_,Heap.get?_push_size _ rfl,rfl⟩,slot_si_next.lookup,?_⟩))
    have pre:∀ (ent:List (Int×Value)) (St:Nat→Heap→Prop),Walks prog w A s.heap.objs.size [s.heap.objs.size,a] [s.heap.objs.size] es.size (zLu ent) St→St 0 (s.heap.push { cls := .type "set_iterator",data := .fields #[rawInt 0,rawInt 0, .ref a,rawInt es.size,rawInt ep] })→ent.Perm es.toList →
        Q (.ref s.heap.objs.size) { s with heap:=s.heap.push { cls := .type "set_iterator",data := .fields #[rawInt 0,rawInt 0, .ref a,rawInt es.size,rawInt ep] } }:=fun ent St W st hp =>
      h _ _ ⟨_,ent,St,W,st,hp,Nat.le_refl _,fun b hb=>by simp at hb;rcases hb with rfl | rfl;exact .inl (Nat.le_refl _);exact .inr rfl,fun b hb=>by
        show b<(s.heap.push _).objs.size
        rw [Heap.size_push]
        simp at hb
        rcases hb with rfl | rfl
        · exact Nat.lt_succ_self _
        · exact Nat.lt_succ_of_lt hlt,fun b o e=>Heap.get?_push_of_some _ e,s.drawn,rfl⟩
    cases hw:w.params.followText "set-order" with
    | true=>exact pre _ _ (zPp (t:=t) (ep:=ep) hh (Nat.ne_of_lt hlt) hw) ⟨⟨_,Heap.get?_push_size _ rfl,rfl,by simp [rawInt]⟩,⟨oa,Heap.get?_push_of_some _ hoa,hca,hda,hfa⟩⟩ (zLi _ _)
    | false =>
      rw [hw] at hab hT
      exact pre _ _ (zop (t:=t) (ep:=ep) hh (Nat.ne_of_lt hlt) hw (by simpa using hab) hT) ⟨⟨_,Heap.get?_push_size _ rfl,rfl,by simp [rawInt,ztd]⟩,⟨oa,Heap.get?_push_of_some _ hoa,hca,hda,hfa⟩⟩ (.refl _)
end
section
variable {prog:Program} {w:World} {A:Around} {E:Value→Shared→Prop} {s:Shared} {a:Addr} {es:Array (Int×Value)} {ep:Nat} {t:SetTable}
theorem zVr {Q:Bool→Shared→Prop} (hT:s.TypeIs (.ref a) "set") (hq:Q false s):wpAny (model prog w) A (Builtin.List.listLengthHint (.ref a)) Q E s:=by
  unfold Builtin.List.listLengthHint
  refine wpAny_bind (wpAny_specialOf hT F.slot_set_len.lookup ?_)
  generalize hn:("set.__len__":String)=nm
  wp_delta
  rw [show splitId nm=some ("set","__len__") from by subst hn;decide +kernel]
  subst hn
  refine wpAny_bind (wpAny_isInstance (T:="set") (b:=true) hT (by rw [isSubtype_type];kernel_rfl) ?_)
  refine wpAny_ite_split (fun no=>absurd no (by decide)) fun _=>?_
  refine wpAny_ite_split (fun _=>?_) fun no=>absurd (by decide +kernel) no
  exact wpAny_bind (wpAny_typeOf hT (wpAny_pure hq))
noncomputable def zLx (s:Shared) (es:Array (Int×Value)) (vs:List Value) (s':Shared):Prop :=
  (∃ ent:List (Int×Value),ent.Perm es.toList∧vs=ent.map (·.2))∧(∀ b o,s.heap.get? b=some o→s'.heap.get? b=some o)∧s'.os=s.os∧s'.gens=s.gens∧s.heap.objs.size≤s'.heap.objs.size
theorem zis {ent:List (Int×Value)} {acc:Array Value} {n:Nat} (hl:ent.length=n) (h:ItemsOf (zLu ent) acc n):acc.toList=ent.map (·.2):=by
  apply List.ext_getElem
  · simp [h.1,hl]
  · intro j h1 h2
    have h1':j<acc.size:=by simpa using h1
    obtain ⟨k,e⟩:=h.2 j acc[j] (by simp [h1'])
    have h3:j<ent.length:=by simpa using h2
    rw [List.getElem?_eq_getElem h3] at e
    simp only [Option.some.injEq] at e
    simp [e]
theorem z5m {Q:List Value→Shared→Prop} (hh:A.handled=none) (hT:TOk (!w.params.followText "set-order") t) (hO:SOb s.heap a es ep t) (hsz:es.size≤sizeLine) (h:∀ vs s',zLx s es vs s'→Q vs s') :
    wpAny (model prog w) A (collect (.ref a)) Q E s:=by
  obtain ⟨oa,hoa,hca,hda,hfa⟩:=id hO
  have hlt:a<s.heap.objs.size:=Heap.lt_size hoa
  unfold collect
  refine wpAny_bind (wpAny_runValue (codeAny_builtin F.entry_proto_collect ?_))
  rw [Around.under_plainId F.plain_proto_collect _]
  show wpAny _ A.in1 (newList [] >>= fun l=>again (.builtin "list.__iadd__" ⟨[l, .ref a],[]⟩)) _ _ s
  refine wpAny_bind (wpAny_newObj_type ?_)
  refine wpAny_pure ⟨plainId_quiet F.plain_list_iadd _,codeAny_builtin F.entry_list_iadd ?_⟩
  rw [Around.under_plainId F.plain_list_iadd _]
  obtain ⟨S,hSe⟩:∃ S,S=s.heap.objs.size:=⟨_,rfl⟩
  have hL:(s.heap.push { cls := .type "list",data := .seq ([]:List Value).toArray }).get? S=some { cls := .type "list",data := .seq #[] }:=by rw [hSe];exact Heap.get?_push_size _ rfl
  have hk0:∀ b o,s.heap.get? b=some o→(s.heap.push { cls := .type "list",data := .seq ([]:List Value).toArray }).get? b=some o:=fun b o e=>Heap.get?_push_of_some _ e
  have hz0:(s.heap.push { cls := .type "list",data := .seq ([]:List Value).toArray }).objs.size=S+1:=by rw [hSe,Heap.size_push]
  show wpAny _ A.in1 (Builtin.List.listExtendWith (.ref s.heap.objs.size) (.ref a) (.ref s.heap.objs.size)) _ _ _
  rw [← hSe]
  generalize s.heap.push { cls := .type "list",data := .seq ([]:List Value).toArray } = h0 at hL hk0 hz0 ⊢
  have hO0:SOb h0 a es ep t:=hO.at' fun o e=>hk0 _ o e
  have hSa:S≠a:=by rw [hSe];exact Nat.ne_of_gt hlt
  have hTy:Shared.TypeIs { s with heap:=h0 } (.ref a) "set":=⟨oa,hk0 _ _ hoa,hca⟩
  unfold Builtin.List.listExtendWith
  refine wpAny_bind (wpAny_typeOf hTy ?_)
  have g1:Builtin.List.listSameRef (.ref S) (.ref a)=false:=by simp [Builtin.List.listSameRef,hSa]
  have g2:(Value.type "set" == Value.type "list")=false:=by decide
  have g3:(Value.type "set" == Value.type "tuple")=false:=by decide
  simp only [g1,g2,g3,Bool.or_false,Bool.false_eq_true,if_false]
  refine wpAny_bind (zIs (s:={ s with heap:=h0 }) hh hT hO0 hsz fun I s1 hI=>?_)
  obtain ⟨fp,ent,St,W,st,hp,hIs,hf1,hf2,hk1,d,hs1⟩:=hI
  have hL1:s1.heap.get? S=some { cls := .type "list",data := .seq #[] }:=hk1 _ _ hL
  have hIs:S+1≤I:=by rw [← hz0];exact hIs
  have hSf:S∉fp:=fun hm=>by
    rcases hf1 S hm with q | q
    · have q:h0.objs.size≤S:=q
      rw [hz0] at q
      exact Nat.lt_irrefl _ q
    · exact hSa q
  have hTy1:s1.TypeIs (.ref a) "set":=⟨oa,hk1 _ _ (hk0 _ _ hoa),hca⟩
  refine wpAny_bind (wpAny_holding (zVr hTy1 ?_))
  have loop:∀ (h2:Heap) (c:Nat),(∀ b o,b≠S→s1.heap.get? b=some o→h2.get? b=some o)→h2.get? S=some { cls := .type "list",data := .seq #[] c } →
      codeAny (model prog w) A (.builtin "list.extend.loop" ⟨[.ref S, .ref I, .ref S],[]⟩) (fun r s'=>∃ acc c',r = .ok (.ret (.ref S))∧s'.heap.get? S=some { cls := .type "list",dict:=none,data := .seq acc c',slots:=#[] }∧zLx s es acc.toList s') { s1 with heap:=h2 }:=by
    intro h2 c hk2 hL2
    refine codeAny_extend_loopS W.toS hsz S hSf (.ref S) es.size 0 _ #[] c rfl (Nat.zero_le _) (W.frame 0 _ _ st fun b hb o e=>hk2 b o (fun q=>hSf (q▸hb)) e) hL2 (ItemsOf.nil _) fun s' acc c' hm hS' hacc=>?_
    refine ⟨acc,c',rfl,hS',⟨ent,hp,zis (by simpa using hp.length_eq) hacc⟩,fun b o e=>?_,?_,?_,by rw [← hSe];exact Nat.le_of_lt (Heap.lt_size hS')⟩
    · have hb:b<s.heap.objs.size:=Heap.lt_size e
      rw [← hSe] at hb
      refine hm.heap b o (fun hmem=>?_) (hk2 b o (Nat.ne_of_lt hb) (hk1 _ _ (hk0 _ _ e)))
      rcases List.mem_cons.mp hmem with q | q
      · exact absurd hb (by rw [q];exact Nat.lt_irrefl _)
      · rw [List.mem_singleton.mp q] at hb
        exact Nat.lt_irrefl _ (Nat.lt_trans hb (Nat.lt_of_lt_of_le (Nat.lt_succ_self _) hIs))
    · have:=hm.os
      rw [this]
      show s1.os=s.os
      rw [hs1]
    · have:s'.gens=s1.gens:=hm.gens
      rw [this,hs1]
  have fin:∀ (h2:Heap) (c:Nat),(∀ b o,b≠S→s1.heap.get? b=some o→h2.get? b=some o)→h2.get? S=some { cls := .type "list",data := .seq #[] c } →
      codeAny (model prog w) A (.builtin "list.extend.loop" ⟨[.ref S, .ref I, .ref S],[]⟩) (fun r s'=>match r with
        | .ok (.ret v)=>wpAny (model prog w) A (match v with
          | .ref b=>do
            let o ← load b
            match o.data with
            | .seq xs _=>pure xs.toList
            | _=>unsupported "internal:collect"
          | _=>unsupported "internal:collect") Q E s'
        | _=>False) { s1 with heap:=h2 }:=fun h2 c hk2 hL2=>codeAny_mono (loop h2 c hk2 hL2) fun r s' ⟨acc,c',e,hS',hc⟩=>by
    subst e
    dsimp only
    refine wpAny_bind (wpAny_load hS' ?_)
    exact wpAny_pure (h _ _ hc)
  refine wpAny_ite_split (fun _=>?_) fun _=>?_
  · refine wpAny_bind (wpAny_rule ?_)
    refine wpAny_bind ?_
    show wpAny _ _ (updateSeq S (·.push .none) >>= fun _=>updateSeq S (·.pop)) _ _ _
    refine wpAny_bind (wpAny_updateSeq hL1 rfl ?_)
    have hL2:=Heap.get?_update_self (Obj.mapSeq (·.push Value.none)) hL1 rfl
    refine wpAny_updateSeq (hz:=by seq_fits) hL2 rfl ?_
    have hL3:=Heap.get?_update_self (Obj.mapSeq (·.pop)) hL2 rfl
    refine wpAny_pure ⟨plainId_quiet F.plain_extend_loop _,codeAny_mono (fin _ _ (fun b o hb e=>?_) hL3) fun r s' z=>?_⟩
    · exact (Heap.get?_update_other _ _ (Ne.symm hb)).trans ((Heap.get?_update_other _ _ (Ne.symm hb)).trans e)
    · cases r with
      | error e=>exact z.elim
      | ok f=>cases f <;> exact z
  · refine wpAny_pure ⟨plainId_quiet F.plain_extend_loop _,codeAny_mono (fin _ _ (fun b o hb e=>e) hL1) fun r s' z=>?_⟩
    cases r with
    | error e=>exact z.elim
    | ok f=>cases f <;> exact z
end
end M
namespace M
open PySem PyProof.Rows
section
variable {prog:Program} {w:World} {A:Around} {E:Value→Shared→Prop} {s:Shared} {a:Addr}
theorem zwg:∀ (ent:List (Int×Value)),ElemsOf (intKind prog w) ent→IntsAre (ent.map (·.2)) (ent.map z1h)
  | [],_ => .nil
  | e :: ent,h=>by
    obtain ⟨⟨k,hk,_⟩,_⟩:=h e mem_cons_self
    obtain ⟨t,ht⟩:=Value.isInt_shape (show Value.isInt k e.2=true from hk)
    have:z1h e=k:=by unfold z1h;rw [ht]
    rw [map_cons,map_cons,ht,this]
    exact .cons k t (zwg ent fun x hx=>h x (mem_cons_of_mem _ hx))
noncomputable def zqv (s:Shared) (ks:List Int) (p:Addr) (s':Shared):Prop :=
  ∃ (out:Array Value) (ns:List Int) (e:Nat),s'.heap.get? p=some { cls := .type "list",data := .seq out e }∧IntsAre out.toList ns∧ns.Perm ks∧ns.Pairwise (·≤·)∧s.heap.objs.size≤p∧(∀ b o,s.heap.get? b=some o→s'.heap.get? b=some o)∧s'.os=s.os∧s'.gens=s.gens
theorem zOo {ks:List Int} {Q:Value→Shared→Prop} (hh:A.handled=none) (hS:SetAt prog w s.heap a ks) (h64:ks.length<64) (h:∀ p s',zqv s ks p s'→Q (.ref p) s') :
    wpAny (model prog w) A (call (.builtin "sorted") [.ref a]) Q E s:=by
  obtain ⟨o,es,ep,t,ho,hex,hd,hf,hT,hel,hpk⟩:=hS
  have hlen:es.size=ks.length:=by
    have:=hpk.length_eq
    simpa using this
  have hO:SOb s.heap a es ep t:=⟨o,ho,hex.1,hd,hf⟩
  refine Calls.call_function_entry kind_sorted plain_sorted entry_sorted (args_sorted1 _) ?_
  unfold Builtin.«sorted»
  refine wpAny_bind (m:=checkCount "sorted" 1 1 _) (wpAny_pure ?_)
  refine wpAny_bind (z5m (A:=A.in1) hh hT hO (Nat.le_trans (Nat.le_of_lt (by omega:es.size<64)) (by rw [sizeLine_eq];decide)) fun vs s1 hc=>?_)
  obtain ⟨⟨ent,hp,rfl⟩,hk,hos,hgn,hsz⟩:=hc
  have hel2:ElemsOf (intKind prog w) ent:=hel.perm hp
  have hI:=zwg ent hel2
  have hl:ent.length=ks.length:=by
    rw [hp.length_eq]
    simpa using hlen
  refine wpAny_bind (wpAny_newList ?_ (by simp;rw [sizeLine_eq];omega))
  have hnew:(s1.heap.push (seqObj "list" (ent.map (·.2)).toArray 0)).get? s1.heap.objs.size=some (seqObj "list" (ent.map (·.2)).toArray 0):=Heap.get?_push_size _ rfl
  refine wpAny_bind (wpAny_holding (wpAny_call_entry slot_list_sort ⟨_,hnew,rfl⟩ entry_list_sort (list_sort_tree hnew hI (by simp;omega) fun out ns q1 q2 q3=>⟨_,rfl,?_⟩) (args_list_sort _)))
  obtain ⟨e,he⟩:=sortedHeap_at (out:=out) hnew
  refine wpAny_pure ⟨_,rfl,h _ _ ⟨out,ns,e,he,q1,q2.trans ((hp.map z1h).trans hpk),q3,hsz,fun b ob eb=>?_,hos,hgn⟩⟩
  have hb1:=hk _ _ eb
  have hlt1:b<s1.heap.objs.size:=Heap.lt_size hb1
  show (sortedHeap (s1.heap.push (seqObj "list" (ent.map (·.2)).toArray 0)) s1.heap.objs.size (ent.map (·.2)) out).get? b=some ob
  rw [sortedHeap_old (Nat.ne_of_lt hlt1) (by rw [size_push'];exact Nat.lt_succ_of_lt hlt1)]
  exact Heap.get?_push_of_some _ hb1
end
noncomputable def zEw (ks:List Int) (k:Int):List Int:=if k∈ks then ks else ks ++ [k]
noncomputable def uqN (val:Nat→Int):Nat→List Int
  | 0=>[]
  | i+1=>zEw (uqN val i) (val i)
theorem z7m (val:Nat→Int):∀ i,(uqN val i).length≤i
  | 0=>Nat.le_refl _
  | i+1=>by
    have:=z7m val i
    unfold uqN zEw
    split
    · omega
    · simp;omega
theorem z0q (val:Nat→Int) (k:Int):∀ i,k∈uqN val i↔∃ j,j<i∧val j=k
  | 0=>by simp [uqN]
  | i+1=>by
    have ih:=z0q val k i
    unfold uqN zEw
    constructor
    · intro h
      split at h
      · obtain ⟨j,h1,h2⟩:=ih.mp h
        exact ⟨j,by first|decide|omega,h2⟩
      · rcases List.mem_append.mp h with h | h
        · obtain ⟨j,h1,h2⟩:=ih.mp h
          exact ⟨j,by first|decide|omega,h2⟩
        · exact ⟨i,by first|decide|omega,by simpa using (List.mem_singleton.mp h).symm⟩
    · rintro ⟨j,h1,h2⟩
      by_cases e:j=i
      · subst e
        split
        · rename_i hm
          rw [← h2];exact hm
        · simp [h2]
      · have:=ih.mpr ⟨j,by first|decide|omega,h2⟩
        split
        · exact this
        · exact mem_append_left _ this
theorem zgm (val:Nat→Int):∀ i,(uqN val i).Nodup
  | 0=>List.nodup_nil
  | i+1=>by
    have ih:=zgm val i
    unfold uqN zEw
    split
    · exact ih
    · rename_i hm
      rw [nodup_append]
      exact ⟨ih,by simp,fun a ha b hb e=>by simp at hb;subst hb;exact hm (e▸ha)⟩
section
variable {prog:Program} {w:World} {A:Around} {R:Result→Shared→Prop} {I:Addr} {fp wr:List Addr} {n:Nat} {P:Nat→Value→Prop} {St:Nat→Heap→Prop}
theorem zWn (W:Walks prog w A.in1 I fp wr n P St) (S:Addr) (hSf:S∉fp) (val:Nat→Int) (hval:∀ i v,P i v→∃ t,v = .int (val i) t) (hb:n+1<scanBound):∀ (k i:Nat) (s:Shared),n - i=k→i≤n→St i s.heap→SetAt prog w s.heap S (uqN val i) →
    (∀ h' tk,(∀ b o,b∉S :: wr→s.heap.get? b=some o→h'.get? b=some o)→SetAt prog w h' S (uqN val n)→R (.ok (.ret .none)) { s with heap:=h',toks:=tk })→codeAny (model prog w) A (.builtin "set.update.loop" ⟨[.ref S, .ref I],[]⟩) R s:=by
  have hSw:S∉wr:=fun q=>hSf (W.sub _ q)
  intro k
  induction k with
  | zero =>
    intro i s hk hi st hS hR
    have e:i=n:=by omega
    subst e
    refine codeAny_builtin PyProof.Rows.F.entry_set_update_loop ?_
    rw [Around.under_plainId PyProof.Rows.F.plain_set_update_loop _]
    show wpAny _ A.in1 (pyNext (.ref I) >>= _) _ _ s
    refine wpAny_bind (W.done s _ _ st fun h' tk hk'=>?_)
    exact wpAny_pure (hR h' tk (fun b o hb e=>hk' b o (fun q=>hb (mem_cons_of_mem _ q)) e) (hS.at' fun o e=>hk' S o hSw e))
  | succ k ih =>
    intro i s hk hi st hS hR
    have hlt:i<n:=by omega
    refine codeAny_builtin PyProof.Rows.F.entry_set_update_loop ?_
    rw [Around.under_plainId PyProof.Rows.F.plain_set_update_loop _]
    show wpAny _ A.in1 (pyNext (.ref I) >>= _) _ _ s
    refine wpAny_bind (W.item i s _ _ hlt st fun v h1 tk hP st1 hk1=>?_)
    obtain ⟨t,rfl⟩:=hval i v hP
    show wpAny _ A.in1 (holding [Value.int (val i) t] (setAdd S (.int (val i) t)) >>= _) _ _ _
    refine wpAny_bind (wpAny_holding ?_)
    unfold setAdd
    refine wpAny_holding ?_
    refine wpAny_bind (wpAny_pyHash_int ?_)
    have hS1:SetAt prog w h1 S (uqN val i):=hS.at' fun o e=>hk1 S o hSw e
    refine zhu (s:={ s with heap:=h1,toks:=tk+1 }) hS1 (by have:=z7m val i;omega) fun b h2 sb hS2=>?_
    refine wpAny_pure ⟨plainId_quiet PyProof.Rows.F.plain_set_update_loop _,ih (i+1) _ (by first|decide|omega) hlt (W.frame _ _ _ st1 fun c hc o e=>?_) hS2 fun h3 tk3 hk3 hS3=>?_⟩
    · exact sb.extBut c o (fun q=>hSf (q▸hc)) e
    · exact hR h3 tk3 (fun c o hc e=>hk3 c o hc (sb.extBut c o (fun q=>hc (by rw [q];exact mem_cons_self)) (hk1 c o (fun q=>hc (mem_cons_of_mem _ q)) e))) hS3
end
section
variable {prog:Program} {w:World} {A:Around} {E:Value→Shared→Prop} {s:Shared}
noncomputable abbrev zeb (w:World):Obj:={ cls := .type "set",dict:=none,data := .set #[] 0 (.fresh 0 0 (!w.params.followText "set-order")) }
theorem zWq (a:Value) {Q:Value→Shared→Prop} (h:Q (.ref s.heap.objs.size) { s with heap:=s.heap.push (zeb w) }) :
    codeAny (model prog w) A (.call (.builtin "set.__new__") ⟨[.type "set",a],[]⟩) (wants Q E) s:=by
  refine codeAny_of_tree ?_
  show wpAny _ A.in1 (do checkBuiltinCall "set.__new__" ⟨[.type "set",a],[]⟩;again (.builtin "set.__new__" ⟨[.type "set",a],[]⟩)) _ _ s
  refine wpAny_bind (wpAny_of_eq (PySem.F.newCall_set_1 a) (wpAny_pure ⟨plainId_quiet PySem.F.plain_set_new _,codeAny_builtin PySem.F.entry_set_new ?_⟩))
  rw [Around.under_plainId PySem.F.plain_set_new _]
  unfold Builtin.«set.__new__» Builtin.Frozenset.newClass
  have hsub:=PySem.sub_set_self
  obtain ⟨hp,g,d,tk,os⟩:=s
  dsimp only
  wp_walk
  refine wpAny_askSetting (wpAny_pure ?_)
  dsimp only
  simp only [newObj]
  refine wpAny_bind (wpAny_alloc (wpAny_pure ?_))
  exact wpAny_pure h
end
section
variable {prog:Program} {w:World} {A:Around} {E:Value→Shared→Prop} {s:Shared}
noncomputable def zqk (prog:Program) (w:World) (s:Shared) (ks:List Int) (s':Shared):Prop :=
  SetAt prog w s'.heap s.heap.objs.size ks∧(∀ b o,s.heap.get? b=some o→s'.heap.get? b=some o)∧∃ h' tk,s' = { s with heap:=h',toks:=tk }
set_option maxHeartbeats 3200000 in
theorem zYm {l:Addr} {its:Array Value} {ns:List Int} {Q:Value→Shared→Prop} (hh:A.handled=none) (hl:s.heap.IsList l its) (hi:IntsAre its.toList ns) (hb:its.size+1<scanBound)
    (h:∀ s',zqk prog w s (uqN (fun i=>ns.getD i 0) its.size) s'→Q (.ref s.heap.objs.size) s'):wpAny (model prog w) A (call (.type "set") [.ref l]) Q E s:=by
  obtain ⟨c,tl,hmro⟩:=PySem.F.called_set.mro
  have hmade:=PySem.F.called_set.made
  have hsub:=PySem.F.called_set.sub
  refine wpAny_call (codeAny_of_tree ?_)
  show wpAny _ _ (callAny (.type "set") _) _ _ _
  refine wpAny_pure ⟨Code.quiet_builtin _ (by decide +kernel),codeAny_builtin PySem.F.entry_type_call ?_⟩
  rw [Around.under_plain (weight_type_call_type "set" [.ref l] []) rfl]
  have t1:=PySem.F.called_set.notType
  have t2:=PySem.F.called_set.canCreate
  have t3:=PySem.F.typeCall_set_1 (.ref l)
  repeat (any_goals (first | assumption | wp_step))
  refine codeAny_mono (zWq (w:=w) (.ref l) (E:=E) (Q:=fun ob s1=>ob = .ref s.heap.objs.size∧s1 = { s with heap:=s.heap.push (zeb w) }) ⟨rfl,rfl⟩) fun r s1 hr=>?_
  cases r with
  | error e=>exact hr
  | ok fl =>
    cases fl with
    | ret ob =>
      obtain ⟨rfl,rfl⟩:=hr
      have hS:(s.heap.push (zeb w)).get? s.heap.objs.size=some (zeb w):=Heap.get?_push_size _ rfl
      have hT:Shared.TypeIs { s with heap:=s.heap.push (zeb w) } (.ref s.heap.objs.size) "set":=⟨_,hS,rfl⟩
      have i1:=PySem.F.called_set.init.lookup
      have i2:=PySem.F.called_set.init.bind (.ref s.heap.objs.size)
      repeat (any_goals (first | assumption | wp_step))
      refine codeAny_mono (codeAny_call_builtin (R:=wants (fun r s2=>r = .none∧zqk prog w s (uqN (fun i=>ns.getD i 0) its.size) s2) E) PySem.F.called_set.init.plain PySem.F.entry_set_init (check_set_init_1 hT ?_)) fun r2 s2 hr2=>?_
      · obtain ⟨ol,hol,hcl,nl,hdl⟩:=hl
        obtain ⟨ocls,odict,odata,oslots⟩:=ol
        simp only at hcl hdl
        subst hcl;subst hdl
        have hlS:l<s.heap.objs.size:=Heap.lt_size hol
        have hol1:(s.heap.push (zeb w)).get? l=some { cls := .type "list",dict:=odict,data := .seq its nl,slots:=oslots }:=Heap.get?_push_of_some _ hol
        have n1:=PySem.F.sub_list_set
        have n2:=PySem.F.sub_list_frozenset
        have n3:(Value.type "list" == Value.type "dict")=false:=by decide
        have hl1:(s.heap.push (zeb w)).IsList l its:=⟨_,hol1,rfl,nl,rfl⟩
        unfold Builtin.«set.__init__» noKeywords Builtin.Frozenset.updateFrom
        generalize hPI:pyIter=PI
        wp_walk
        subst hPI
        refine wpAny_pyIter_list hl1 ?_
        refine wpAny_bind (wpAny_runValue ?_)
        have hz:(s.heap.push (zeb w)).objs.size=s.heap.objs.size+1:=by rw [Heap.size_push]
        have hne:l≠(s.heap.push (zeb w)).objs.size:=by rw [hz];exact Nat.ne_of_lt (Nat.lt_succ_of_lt hlS)
        have hSf:s.heap.objs.size∉[(s.heap.push (zeb w)).objs.size,l]:=by
          rw [hz]
          simp only [mem_cons,not_mem_nil,or_false,not_or]
          exact ⟨Nat.ne_of_lt (Nat.lt_succ_self _),Nat.ne_of_gt hlS⟩
        have hval:∀ (i:Nat) (v:Value),its[i]?=some v→∃ t,v = .int ((fun i=>ns.getD i 0) i) t:=fun i v hv=>IntsAre.int_at hi i v (by rw [Array.getElem?_toList];exact hv)
        refine zWn (Walks.list (by simp [hh]) _ l hne its) s.heap.objs.size hSf (fun i=>ns.getD i 0) hval hb (its.size - 0) 0 _ (by first|decide|omega) (Nat.zero_le _) ⟨⟨_,Heap.get?_push_size _ rfl,rfl,rfl⟩,hl1.push _⟩ ?s0 ?r0
        case s0 =>
          exact ⟨zeb w,#[],0,_,Heap.get?_push_of_some _ hS,⟨rfl,rfl,rfl⟩,rfl,rfl, .fresh _,fun e he=>by simp at he,by simp [uqN]⟩
        case r0 =>
          intro h' tk hk hS'
          refine wpAny_pure ?_
          show wpAny _ _ (ret Value.none) _ _ _
          refine wpAny_pure ⟨rfl,hS',fun b o e=>?_,h',tk,rfl⟩
          have hlt:b<s.heap.objs.size:=Heap.lt_size e
          refine hk b o ?_ (Heap.get?_push_of_some _ (Heap.get?_push_of_some _ e))
          rw [hz]
          simp only [mem_cons,not_mem_nil,or_false,not_or]
          exact ⟨Nat.ne_of_lt hlt,Nat.ne_of_lt (Nat.lt_succ_of_lt hlt)⟩
      · cases r2 with
        | error e=>exact hr2
        | ok fl2 =>
          cases fl2 with
          | ret r =>
            obtain ⟨rfl,hm⟩:=hr2
            repeat (any_goals (first | assumption | wp_step))
            exact h _ hm
          | _=>exact hr2.elim
    | _=>exact hr.elim
end
end M
namespace M
open PySem PySem.Spec PyProof.Rows L2
section
variable {X:Cx} {pins:List (Addr×Obj)} {σ:L2.St} {H:Hp} {s s':Shared}
theorem zgs (I:Inv X pins σ H s) (ho:s'.os=s.os) (hg:s'.gens=s.gens) (k:∀ b u,s.heap.get? b=some u→s'.heap.get? b=some u):Inv X pins σ H s' :=
  I.call' (ch:=[]) ho (Un.kept k) (I.hok.kept k) (by rw [hg];exact I.bare) fun b z=>nomatch z
theorem zos {p:Addr} {o:HO} (I:Inv X pins σ H s) (ho:s'.os=s.os) (hg:s'.gens=s.gens) (k:∀ b u,s.heap.get? b=some u→s'.heap.get? b=some u) (hp:s.heap.objs.size≤p) (new:ObjOk X.prog X.w (upd H p o) s'.heap p o):Inv X pins σ (upd H p o) s' :=
  I.call' (ch:=[]) ho (Un.laid k hp (I.hok.fresh hp)) (I.hok.laid k hp new) (by rw [hg];exact I.bare) fun b z=>nomatch z
theorem zqh:∀ {us:List Value} {ns:List Int},IntsAre us ns→Vals (ns.map V.int) us
  | _,_, .nil => .nil
  | _,_, .cons n t r => .cons ⟨t,rfl⟩ (zqh r)
noncomputable def zxn (X:Cx) (p:Addr) (ks:List Int):HO := .ext fun h=>SetAt X.prog X.w h p ks
theorem zBr (hc:X.calm=true):zNi X (.type "set") (fun xs H Q=>∃ (a:Addr) (ns:List Int),xs = [.ref a]∧SqL X.K H a (ns.map V.int)∧ns.length+1<scanBound∧∀ p,H p=none→Q (.ref p) (upd H p (zxn X p (uqN (fun i=>ns.getD i 0) ns.length)))):=by
  intro pins s σ H xs us Q I r ⟨a,ns,e,hq,hb,k⟩
  subst e
  obtain ⟨u,rfl,rx⟩:=vals1 r
  cases rx
  obtain ⟨its,rv,pl,hz⟩:=I.list hq
  have hl:its.length=ns.length:=by rw [← rv.length];simp
  refine zYm (I.ok.hd hc) pl.isList (its:=its.toArray) (ns:=ns) (by simpa using zFg rv) (by simp;omega) fun s' ⟨hS,hk,h',tk,e⟩=>?_
  subst e
  rw [show its.toArray.size=ns.length by simp;exact hl] at hS
  refine ⟨.ref s.heap.objs.size,_,I.laid (t':=tk) hk (Nat.le_refl _) (show ObjOk X.prog X.w _ h' _ (zxn X _ _) from ⟨hS,?_,fun h1 h2 x y=>x.at' y⟩),rfl,k _ I.fresh⟩
  obtain ⟨o,_,_,_,ho,_⟩:=hS
  exact ⟨o,ho⟩
theorem zuj (hc:X.calm=true):zNi X (.builtin "sorted") (fun xs H Q=>∃ (a:Addr) (ks:List Int),xs = [.ref a]∧H a=some (zxn X a ks)∧ks.length<64∧∀ (p:Addr) (ns:List Int),H p=none→ns.Perm ks→ns.Pairwise (·≤·)→Q (.ref p) (upd H p (.lst (ns.map V.int)))):=by
  intro pins s σ H xs us Q I r ⟨a,ks,e,hq,h64,k⟩
  subst e
  obtain ⟨u,rfl,rx⟩:=vals1 r
  cases rx
  obtain ⟨hS,_,_⟩:=I.hok a _ hq
  refine zOo (I.ok.hd hc) hS h64 fun p s' ⟨out,ns,e,h1,h2,h3,h4,h5,h6,h7,h8⟩=>?_
  have hl:ns.length=ks.length:=h3.length_eq
  refine ⟨.ref p,_,zos I h7 h8 h6 h5 (show ObjOk X.prog X.w _ s'.heap _ (.lst (ns.map V.int)) from ⟨by simp;rw [sizeLine_eq];omega,out.toList,e,zqh h2,by simpa using h1⟩),rfl,k p ns (I.hok.fresh h5) h3 h4⟩
end
noncomputable def zdy:D→Option Int
  | .int i=>some i
  | _=>none
noncomputable def z2g (ds:List D):Option (List Int):=ds.mapM zdy
@[simp] theorem z3h:∀ ns:List Int,z2g (ns.map D.int)=some ns
  | []=>rfl
  | i :: ns=>by
    have:=z3h ns
    unfold z2g at this ⊢
    rw [map_cons,mapM_cons,this]
    rfl
theorem zzd:∀ {ds:List D} {ns:List Int},z2g ds=some ns→ds=ns.map D.int
  | [],ns,h=>by
    unfold z2g at h
    simp at h
    subst h;rfl
  | d :: ds,ns,h=>by
    unfold z2g at h
    rw [mapM_cons] at h
    obtain ⟨i,e1,h⟩:=zf h
    obtain ⟨r,e2,h⟩:=zf h
    cases h
    cases d with
    | int j=>cases e1;rw [zzd (show z2g ds=some r from e2)];rfl
    | _=>cases e1
theorem zUf {K:W.Frag} {ρ:List Addr} {H:Hp}:∀ {ns:List Int} {vs:List V},RepVs K ρ H (ns.map D.int) vs→vs=ns.map V.int
  | [],vs,r=>r.nil_inv
  | i :: ns,vs,r=>by
    obtain ⟨v,q,rfl,h1,h2⟩:=r.cons_inv
    rw [h1.int_inv,zUf h2]
    rfl
theorem zDe {K:W.Frag} {ρ:List Addr} {H:Hp}:∀ {ns:List Int},RepVs K ρ H (ns.map D.int) (ns.map V.int)
  | [] => .nil
  | i :: ns => .cons .int zDe
noncomputable def uqL (ns:List Int):List Int:=uqN (fun i=>ns.getD i 0) ns.length
noncomputable def zrn (ns:List Int):List Int:=(uqL ns).mergeSort fun a b=>decide (a≤b)
theorem zof {a b:List Int} (p:a.Perm b) (ha:a.Pairwise (·≤·)) (hb:b.Pairwise (·≤·)):a=b:=p.eq_of_pairwise (fun _ _ _ _ h1 h2=>Int.le_antisymm h1 h2) ha hb
theorem z8m (ns:List Int):(ns.mergeSort fun a b=>decide (a≤b)).Pairwise (·≤·):=by
  have:=List.pairwise_mergeSort (le:=fun a b:Int=>decide (a≤b)) (fun a b c h1 h2=>by simp at h1 h2 ⊢;omega) (fun a b=>by simp;omega) ns
  exact this.imp fun h=>by simpa using h
noncomputable def zXo (φ:FE):FE:=fun δ μ=>(φ δ μ).bind fun p=>match p.1 with
  | .loc n=>match p.2[n]? with
    | some (.lst ds)=>(z2g ds).bind fun ns=>bif decide (ns.length≤4000∧(uqL ns).length<64) then some (.loc p.2.length,p.2 ++ [.lst ((zrn ns).map .int)]) else none
    | _=>none
  | _=>none
section
variable {X:Cx} {a b c e:Expr} {es:List Expr} {φ ψ χ:FE} {pos pos2 p1 p2:Pos}
theorem zYp (hm1:X.mg "sorted" = none) (hv1:bootBuiltins "sorted" = some (.builtin "sorted")) (hm2:X.mg "set" = none) (hv2:bootBuiltins "set" = some (.type "set")) (h:ME X e φ) (hc:X.calm=true:=by rfl) (hg1:Gl X "sorted":=by rfl) (hg2:Gl X "set":=by rfl)
    (he:starEach [e] X.env=(false,eval e X.env) :: starEach [] X.env:=by rfl) (he2:starEach [.Call (.Name "set" p2) [e] [] pos2] X.env=(false,eval (.Call (.Name "set" p2) [e] [] pos2) X.env) :: starEach [] X.env:=by rfl) :
    ME X (.Call (.Name "sorted" p1) [.Call (.Name "set" p2) [e] [] pos2] [] pos) (zXo φ) :=
  zcd (zxk (zuj hc) hg1 hm1 hv1 (zmc (zqd (zBr hc) hg2 hm2 hv2 (zmc h zhe he) (by decide) (by decide) he rfl) zhe he2) (by decide) (by decide) he2 rfl) fun ρ δ μ σ H d μ' Q A e k=>by
    obtain ⟨⟨x,μ1⟩,e1,e⟩:=zf e
    refine ⟨ρ,δ,μ,x,μ1,A,e1,fun ρ1 H1 v x1 R1 r1=>?_⟩
    dsimp only at e
    split at e
    · split at e
      · rename_i hm
        obtain ⟨ns,e2,e⟩:=zf e
        obtain ⟨hb,e⟩:=zM e
        have hb:=of_decide_eq_true hb
        cases e
        rw [zzd e2] at hm
        obtain ⟨p,rfl,ep⟩:=r1.loc_inv
        obtain ⟨vs,e3,q⟩:=R1.at_ _ _ _ ep hm
        rw [zUf q] at e3
        refine ⟨p,ns,rfl,SqL.of e3,by unfold scanBound;omega,fun p1 hp1=>?_⟩
        refine ⟨p1,uqL ns,rfl,zo,hb.2,fun p2 ms hp2 hpm hpw=>?_⟩
        have hms:ms=zrn ns:=zof (hpm.trans (List.mergeSort_perm _ _).symm) hpw (z8m _)
        subst hms
        have R2:=R1.newTup (o:=zxn X p1 (uqL ns)) hp1
        exact k _ _ _ (x1.trans ((Ext.new hp1).trans (Ext.push hp2))) (R2.push hp2 ⟨_,zo,zDe⟩) (.loc (zvb R2))
      · cases e
    · cases e
end
section
variable {prog:Program} {w:World} {A:Around} {E:Value→Shared→Prop} {s:Shared}
theorem z0o {l b:Addr} {its its2:List Value} {n:Nat} {Q:Value→Shared→Prop} (hl:s.heap.get? l=some { cls := .type "list",data := .seq its.toArray n }) (hb:IsTup s.heap b its2.toArray) (hz:its.length+its2.length≤sizeLine)
    (h:Q .none { s with heap:=s.heap.update l (Obj.mapSeq (· ++ its2.toArray)) }):wpAny (model prog w) A (call (.builtin "list.extend") [.ref l, .ref b]) Q E s:=by
  obtain ⟨o,ho,hc,m,hd⟩:=hb
  have hlong:¬ (!its.toArray.isEmpty && Builtin.List.listTooLong (its.toArray.size+its2.toArray.size))=true:=by
    rw [notLongL (by rw [size_toArray,size_toArray];exact hz),Bool.and_false]
    exact Bool.false_ne_true
  refine wpAny_call_entry PySem.F.slot_list_extend ⟨_,hl,rfl⟩ PySem.F.entry_list_extend ?_ (PySem.F.args_list_extend_2 _ _)
  unfold Builtin.«list.extend»
  refine wpAny_bind (m:=selfAndOne "list.extend" ⟨[.ref l, .ref b],[]⟩) (wpAny_pure ?_)
  dsimp only
  unfold Builtin.List.listExtendWith
  refine wpAny_bind (wpAny_typeOf (T:="tuple") ⟨o,ho,hc⟩ ?_)
  have ht:(Value.type "tuple" == Value.type "tuple")=true:=by rfl
  rw [if_pos (by rw [ht];simp)]
  refine wpAny_bind (listItems_at ho hd ?_)
  refine wpAny_bind (listItems_at hl rfl ?_)
  rw [if_neg hlong]
  refine wpAny_bind (listUpdate_at hl rfl ?_ (by rw [size_toArray];omega) (by rw [Array.size_append,size_toArray,size_toArray];omega))
  exact wpAny_pure ⟨_,rfl,h⟩
end
section
variable {X:Cx} {a b c e:Expr} {es:List Expr} {φ ψ χ:FE} {pos:Pos}
@[simp] noncomputable def zIu:GM:=fun x ds μ=>match x,ds with
  | .loc n,[.tup ys]=>match μ[n]? with
    | some (.lst xs)=>bif decide (xs.length+ys.length≤1000000) then some (.non,μ.set n (.lst (xs++ys))) else none
    | _=>none
  | .loc n,[.loc m]=>match μ[n]?,μ[m]? with
    | some (.lst xs),some (.lst ys)=>bif decide (xs.length+ys.length≤1000000) then some (.non,μ.set n (.lst (xs++ys))) else none
    | _,_=>none
  | _,_=>none
theorem zLo:MtG X "list.extend" zIu:=by
  refine MtG.of fun pins s σ H x xs v us Q I rx rs ρ dx ds μ d μ' r1 r2 R e k=>?_
  have hmi:=million
  unfold zIu at e
  split at e
  · split at e
    · rename_i hm
      obtain ⟨h1,e⟩:=zM e
      have h1:=of_decide_eq_true h1
      cases e
      obtain ⟨l,rfl,ea⟩:=r1.loc_inv
      obtain ⟨vs,e3,q3⟩:=R.at_ _ _ _ ea hm
      obtain ⟨w,r,rfl,q1,q2⟩:=r2.cons_inv
      rw [q2.nil_inv] at rs
      obtain ⟨b,ws,rfl,eb,qb⟩:=q1.tup_inv
      obtain ⟨u,rfl,ru⟩:=vals1 rs
      cases ru
      cases rx
      obtain ⟨z,its,n,rv,hl,el⟩:=I.lstM e3
      obtain ⟨its2,rv2,pt,_⟩:=I.tuple (SqT.of (K:=X.K) eb)
      have hl1:=q3.length
      have hl2:=qb.length
      have hl3:=rv2.length
      have hmu:Mut (H l):=by rw [e3];trivial
      refine z0o el pt (by first|decide|omega) ?_
      refine ⟨.non,_,I.lset (t':=s.toks) (ys:=vs++ws) (its':=its++its2) e3 el (by simp) (rv.append rv2) (by rw [length_append];omega),rfl,?_⟩
      exact k ρ _ _ (Ext.wr hmu) (R.wr hmu ea ⟨_,zo,RepVs.ext (Ext.wr hmu) (q3.append qb)⟩) .non
    · cases e
  · split at e
    · rename_i hm1 hm2
      obtain ⟨h1,e⟩:=zM e
      have h1:=of_decide_eq_true h1
      cases e
      obtain ⟨l,rfl,ea⟩:=r1.loc_inv
      obtain ⟨vs,e3,q3⟩:=R.at_ _ _ _ ea hm1
      obtain ⟨w,r,rfl,q1,q2⟩:=r2.cons_inv
      rw [q2.nil_inv] at rs
      obtain ⟨b,rfl,eb⟩:=q1.loc_inv
      obtain ⟨ws,e4,q4⟩:=R.at_ _ _ _ eb hm2
      have hl1:=q3.length
      have hl2:=q4.length
      have hmu:Mut (H l):=by rw [e3];trivial
      refine zXp pins s σ H _ _ v us Q I rx rs ⟨l,b,vs,ws,rfl,rfl,e3,e4,by first|decide|omega,?_⟩
      exact k ρ _ _ (Ext.wr hmu) (R.wr hmu ea ⟨_,zo,RepVs.ext (Ext.wr hmu) (q3.append q4)⟩) .non
    · cases e
  · cases e
theorem zym {o:Expr} {ψ:FA} {apos:Pos} (ho:ME X o φ) (ha:MAn X (e :: es) ψ)
    (hbase:attributeBase o "extend" X.env (eval o X.env)=eval o X.env:=by rfl)
    (hfew:((backTo pos (starEach (e :: es) X.env)).all (fun x=>!x.1) && (backToKw pos (keywordEach [] X.env)).all (fun x=>x.1.isSome)
      && decide ((e :: es).length+([]:List Keyword).length+(if ([]:List Keyword).isEmpty then 0 else 1)<30))=true:=by rfl)
    (hline:(apos.endLine == pos.line)=true:=by rfl) (hs:starEach (e :: es) X.env=(false,eval e X.env) :: starEach es X.env:=by rfl) (hplain:(backTo pos (starEach es X.env)).any (·.1)=false:=by rfl) :
    ME X (.Call (.Attribute o "extend" apos) (e :: es) [] pos) (z2e zIu φ ψ):=zzk PySem.F.slot_list_extend PySem.F.type_list_extend zLo ho ha hbase hfew hline hs hplain
@[simp] noncomputable def zOu:GL:=fun ds μ=>match ds with
  | [.loc n]=>match μ[n]? with
    | some (.lst xs)=>(z2g xs).bind fun ns=>some (.int ns.sum,μ)
    | _=>none
  | _=>none
theorem zXl (ns:List Int):∀ i,i≤ns.length→preSum (fun j=>ns.getD j 0) i=(ns.take i).sum
  | 0,_=>by simp [preSum]
  | i+1,h=>by
    have ih:=zXl ns i (by first|decide|omega)
    unfold preSum
    have hi:i<ns.length:=by omega
    have e:ns.take (i+1)=ns.take i ++ [ns[i]]:=by simp
    rw [ih,e,List.sum_append]
    simp [hi]
theorem zQl (hc:X.calm=true):CallM X (.builtin "sum") zOu:=by
  refine CallM.of fun pins s σ H xs us Q I r ρ ds μ d μ' r1 R e k=>?_
  unfold zOu at e
  split at e
  · split at e
    · rename_i hm
      obtain ⟨ns,e2,e⟩:=zf e
      cases e
      rw [zzd e2] at hm
      obtain ⟨v,rr,rfl,q1,q2⟩:=r1.cons_inv
      obtain ⟨a,rfl,ea⟩:=q1.loc_inv
      obtain ⟨vs,e3,q3⟩:=R.at_ _ _ _ ea hm
      rw [zUf q3] at e3
      rw [q2.nil_inv] at r
      obtain ⟨u,rfl,ru⟩:=vals1 r
      cases ru
      obtain ⟨its,rv,pl,hz⟩:=I.list (SqL.of (K:=X.K) e3)
      have hlt:a<s.heap.objs.size:=by obtain ⟨_,_,e,_⟩:=pl;exact Heap.lt_size e
      have hI:=zFg rv
      have hl:its.length=ns.length:=by rw [← rv.length];simp
      refine call_sum_walkAnyS (wpAny_pyIter_list pl.isList ?_)
      refine ⟨_,_,_,_,_,_,_,fun j=>ns.getD j 0,rfl,(Walks.list (A:=X.A.in1) (I.ok.hd hc) s.heap.objs.size a (Nat.ne_of_lt hlt) its.toArray).toS,⟨⟨_,Heap.get?_push_size _ rfl,rfl,rfl⟩,pl.isList.push _⟩,fun b hb=>?_,fun i v hv=>IntsAre.int_at hI i v (by simpa using hv),fun s' t' hmv=>?_⟩
      · show b<(s.heap.push _).objs.size
        rw [Heap.size_push]
        simp at hb
        rcases hb with rfl | rfl
        · exact Nat.lt_succ_self _
        · exact Nat.lt_succ_of_lt hlt
      · refine ⟨.int _,H,zgs I hmv.os hmv.gens fun b o e=>hmv.heap b o (by simpa using Nat.ne_of_lt (Heap.lt_size e)) (Heap.get?_push_of_some _ e),⟨t',rfl⟩,?_⟩
        rw [size_toArray,hl,zXl ns _ (Nat.le_refl _),take_length]
        exact k ρ H _ Ext.refl R .int
    · cases e
  · cases e
@[simp] noncomputable def zCg (φ:FE):FI:=fun δ μ=>(φ δ μ).bind fun p=>match p.1 with
  | .tup ds=>some (ds,yes,p.2)
  | .fz ds=>some (ds,yes,p.2)
  | .loc n=>match p.2[n]? with
    | some (.lst ds)=>some (ds,z9k n ds,p.2)
    | _=>none
  | _=>none
theorem zOb {tg:Expr} (h:ME X a φ):MI X tg a (zCg φ):=by
  intro pins s σ H R I hh
  obtain ⟨ρ,δ,μ,ds,ok,μ',A,e,k⟩:=hh
  cases e1:φ δ μ with
  | none=>unfold zCg at e;rw [e1] at e;cases e
  | some p =>
    obtain ⟨x,μ1⟩:=p
    cases x with
    | tup zs=>exact z5u h pins s σ H R I ⟨ρ,δ,μ,ds,ok,μ',A,by unfold zCg at e;unfold z6s;rw [e1] at e ⊢;exact e,k⟩
    | fz zs=>exact zFq h pins s σ H R I ⟨ρ,δ,μ,ds,ok,μ',A,by unfold zCg at e;unfold zNq;rw [e1] at e ⊢;exact e,k⟩
    | loc n=>exact zFq h pins s σ H R I ⟨ρ,δ,μ,ds,ok,μ',A,by unfold zCg at e;unfold zNq;rw [e1] at e ⊢;exact e,k⟩
    | _=>unfold zCg at e;rw [e1] at e;cases e
end
theorem zxq {K:W.Frag} {h:Heap} {C:Addr} {bmB:List Value} {newId:String} (X:K.In h) (q:W.excIn K C bmB newId=true) :
    ∃ bm N nm qn bs hdct sn sub ab col dd k0 k1 k2 k3 k5 mN,h.get? C=some (excClassObj nm qn C N bs bm hdct sn sub ab col dd k0 k1 k2 k3 k5 newId)∧h.Ns N mN∧mN "__init__" = none∧OwnTail h bmB bm:=by
  unfold W.excIn at q
  split at q
  · rename_i dd cd sl ho
    split at q
    · rename_i C' bm k0 k1 k2 k3 n k5 hm hs
      simp only [Bool.and_eq_true,beq_iff_eq,Bool.not_eq_true'] at q
      obtain ⟨⟨⟨⟨⟨rfl,rfl⟩,hdel⟩,ht⟩,hok⟩,hni⟩:=q
      obtain ⟨nm,bs,mro,ns,qn,hd,sn,sub,ab,col,del⟩:=cd
      dsimp only at hm hdel hok hni
      subst hm hdel
      have hsl:sl = #[k0,k1,k2,k3,some (.builtin n),k5]:=by
        obtain ⟨l⟩:=sl
        simp only at hs
        rw [hs]
      subst hsl
      exact ⟨bm,ns,nm,qn,bs,hd,sn,sub,ab,col,dd,k0,k1,k2,k3,k5,_,X _ _ ho, .of_isNs (W.isNs_of_in X hok),W.nsMap_none_of_in X hok hni,W.tail_of_in X ht⟩
    · cases q
  · cases q
section
variable {X:Cx} {e:Expr} {es:List Expr} {pos np cpos:Pos} {x:Str} {C:Addr} {B newId initId:String} {bmB:List Value}
end
inductive RO where
  | ok (d:D) (μ:Mem)
  | exc (c:Str) (fs:List (Str×D)) (μ:Mem)
noncomputable abbrev FX:=List D→Mem→Option RO
def ROk (K:W.Frag) (ρ:List Addr) (H:Hp) (Q:VK) (E:XK):RO→Prop
  | .ok d μ'=>∀ ρ' H' v,Ext ρ H ρ' H'→RepH K ρ' H' μ'→RepV K ρ' H' d v→Q v H'
  | .exc c fs μ'=>∀ ρ' H' C dx,W.nsIn K mainGlobals c=some (some (.ref C))→Ext ρ H ρ' H'→RepH K ρ' H' μ'→RepX K ρ' H' fs dx→E (.ref C) dx H'
theorem ROk.ext {K:W.Frag} {ρ ρ1:List Addr} {H H1:Hp} {Q:VK} {E:XK} {r:RO} (h:ROk K ρ H Q E r) (x:Ext ρ H ρ1 H1):ROk K ρ1 H1 Q E r:=by
  cases r with
  | ok d μ=>exact fun ρ' H' v x' R r=>h ρ' H' v (x.trans x') R r
  | exc c fs μ=>exact fun ρ' H' C dx hc x' R r=>h ρ' H' C dx hc (x.trans x') R r
noncomputable def spX (K:W.Frag) (n:Nat) (F:FX):Sp:=fun vs H Q E=>vs.length=n∧∃ ρ ds μ r,RepVs K ρ H ds vs∧RepH K ρ H μ∧F ds μ = some r∧ROk K ρ H Q E r
@[simp] noncomputable def zpx:Option Out→Option RO
  | some (.ret d μ)=>some (.ok d μ)
  | some (.next _ μ)=>some (.ok .non μ)
  | some (.exc c fs μ)=>some (.exc c fs μ)
  | _=>none
theorem fnX {P:Program} {w:World} {K:W.Frag} {mg:Str→Option Value} {base:Heap} {x qual:Str} {st:Stmt} {f:Addr} {fd:FuncData} {N ps:List Str} {k n:Nat} {F:FX} (G:Fun K x qual st f fd) (S:FnScope N ps (zm st)) (hn:ps.length=n)
    (hbody:∀ (cdv:Value) (A:Around) (outer:List Env) (s:Shared) (H:Hp) (E:XK),Room k (A.deeper (envOfC qual (zm st) s.heap.objs.size f cdv)) →
      ∃ p,MSs (zbq (CXq P w) P w K mg base N qual (zm st) f cdv A outer s H E) (zIb st) p∧∀ ds μ r,ds.length=n→F ds μ = some r→zpx (p (zG N ds) μ)=some r) :
    FnOk P w K mg base (CXq P w) (k+1) f fd ps (spX K n F):=by
  obtain ⟨oc,od,kV,doc,pm,an,cdv,ct,osl,rfl,lk,hcd⟩:=G.ex
  refine zav lk hcd S (fun vs H Q E h=>by rw [hn];exact h.1) fun A outer s H vs Q E hr h=>?_
  obtain ⟨p,hp,hF⟩:=hbody cdv A outer s H E hr
  refine ⟨_,hp,?_⟩
  obtain ⟨hl,ρ,ds,μ,r,rv,R,e,hk⟩:=h
  have e':=hF ds μ r (by rw [rv.length];exact hl) e
  cases eo:p (zG N ds) μ with
  | none=>rw [eo] at e';cases e'
  | some o =>
    rw [eo] at e'
    refine ⟨ρ,zG N ds,μ,o,zao rv R,eo,?_⟩
    cases o with
    | ret d2 μ2=>cases e';exact fun ρ' v H' x' R' r'=>hk ρ' H' v x' R' r'
    | next δ2 μ2=>cases e';exact fun ρ' σ' H' x' A'=>hk ρ' H' .non x' A'.hp .non
    | exc c fs μ2=>cases e';exact fun ρ' H' C dx hc x' R' r'=>z5o (hk ρ' H' C dx hc x' R' r')
    | brk _ _=>cases e'
    | cont _ _=>cases e'
section
variable {X:Cx} {e:Expr} {es:List Expr} {pos p spos:Pos} {x:Str} {k j n:Nat} {st:Stmt} {f:Addr} {fd:FuncData} {ps:List Str} {F:FX} {φ:FA}
noncomputable def tCX (K:PySem.W.Frag) (W:XK) (n:Nat) (F:FX) (φ:FA):TE:=z6v (spX K n F) [] W (tMA K φ)
theorem zhw {K:PySem.W.Frag} {W:XK} {ρ:List Addr} {δ:Loc} {μ:Mem} {σ:L2.St} {H:Hp} {Q:VK} {ds:List D} {μ1:Mem} {r:RO} (A:At K ρ H σ δ μ) (e1:φ δ μ = some (ds,μ1)) (hl:ds.length=n) (e2:F ds μ1=some r) (h:ROk K ρ H Q W r):tCX K W n F φ σ H Q :=
  ⟨ρ,δ,μ,ds,μ1,A,e1,fun ρ1 H1 vs x1 R1 r1=>by
    show spX K n F (vs ++ []) H1 Q W
    rw [append_nil]
    exact ⟨by rw [← r1.length];exact hl,ρ1,ds,μ1,r,r1,R1,e2,h.ext x1⟩⟩
@[simp] noncomputable def zAw (F:FX) (φ:FA) (g:D→Loc→Mem→Out):FS:=fun δ μ=>(φ δ μ).bind fun p=>match F p.1 p.2 with
  | some (.ok d μ')=>some (g d δ μ')
  | some (.exc c fs μ')=>some (.exc c fs μ')
  | none=>none
theorem zIr {g:D→Loc→Mem→Out} {δ:Loc} {μ:Mem} {o:Out} (h:zAw F φ g δ μ = some o):∃ ds μ1 r,φ δ μ = some (ds,μ1)∧F ds μ1=some r∧o=match r with
    | .ok d μ'=>g d δ μ'
    | .exc c fs μ' => .exc c fs μ':=by
  obtain ⟨⟨ds,μ1⟩,e1,h⟩:=zf h
  refine ⟨ds,μ1,?_⟩
  cases e2:F ds μ1 with
  | none=>rw [e2] at h;cases h
  | some r =>
    rw [e2] at h
    cases r with
    | ok d μ'=>cases h;exact ⟨_,e1,rfl,rfl⟩
    | exc c fs μ'=>cases h;exact ⟨_,e1,rfl,rfl⟩
@[simp] noncomputable def zFp (i:Nat) (F:FX) (φ:FA):FS:=zAw F φ fun d δ μ => .next (δ.set i (some d)) μ
end
end M
namespace L2
open PySem PySem.Spec PyProof.Rows
section
variable {X:Cx} {pins:List (Addr×Obj)} {σ:St} {H:Hp} {s:Shared}
theorem zSk {M:Model} {A:Around} {E:Value→Shared→Prop} {i:Nat} {x:Str} {pos:Pos} {Q:Unit→Shared→Prop} (I:Inv X pins σ H s) (hN:X.N.Nodup) (hi:X.N[i]?=some x) (hk:X.env.scope.names.lookup x=some .local)
    (h:∀ s',Inv X pins (σ.set i none) H s'→Q () s'):wpAny M A (do bindName X.env x .none;unbindBehindTheSuite X.env x pos) Q E s:=by
  obtain ⟨m,hn,hl⟩:=id I.loc
  have hcls:(X.env.scope.kind == .class || (X.env.scope.kind == .module && X.env.locals != X.env.globals))=false:=by rw [I.ok.kind];rfl
  have hiσ:i < σ.length:=by rw [I.len];exact (List.getElem?_eq_some_iff.mp hi).1
  refine wpAny_nameGoes_keeps hk hn hcls fun h' v hn' hs=>?_
  have old:∀ b o,X.s₀.heap.get? b=some o→b≠X.env.locals:=fun b o e=>Nat.ne_of_lt (Nat.lt_of_lt_of_le (Heap.lt_size e) I.ok.above)
  have hok:HOk X.prog X.w H h':=fun b ob e=>by
    refine (I.hok b ob e).stay (fun c w' hc q=>(hs.2 c ?_).trans q) (fun _ q=>q) fun _ _ q=>q
    rintro rfl
    rcases hc with rfl | hc
    · rw [I.free] at e;cases e
    · rw [I.free] at hc;cases hc
  refine h _ ⟨I.ok,I.os,I.bare,⟨fun b o e n hb hx=>(hs.2 b (old b o e)).trans (I.base.keep b o e n hb hx),fun b o e n hb hx=>?_,I.base.free,fun b o e hx=>?_,I.base.tups,I.base.frzs,I.base.tbls⟩,⟨_,hn',fun j y v' e1 e2 e3=>?_⟩,fun y c e=>?_,I.free,I.freeC,fun p hp=>?_,hok,by simpa using I.len⟩
  · obtain ⟨sl,e1⟩:=I.base.slot b o e n hb hx
    exact ⟨sl,(hs.2 b (old b o e)).trans e1⟩
  · obtain ⟨o',e1⟩:=I.base.there b o e hx
    exact ⟨o',(hs.2 b (old b o e)).trans e1⟩
  · by_cases hj:j=i
    · subst hj
      rw [List.getElem?_set_self hiσ] at e2
      cases e2
    · rw [List.getElem?_set_ne (Ne.symm hj)] at e2
      obtain ⟨u',r',q⟩:=hl j y v' e1 e2 e3
      refine ⟨u',r',?_⟩
      rcases q with ⟨k,e⟩ | ⟨k,c,e,z⟩
      · refine .inl ⟨k,?_⟩
        have:y≠x:=fun e=>hj (z5k hN e1 (e▸hi))
        simp [this,e]
      · exact .inr ⟨k,c,e,z.sameBut hs (I.cne y c e)⟩
  · obtain ⟨w',z⟩:=I.cell y c e
    exact ⟨w',z.sameBut hs (I.cne y c e)⟩
  · obtain ⟨p1,p2,p3,p4,p5⟩:=I.pin p hp
    exact ⟨(hs.2 p.1 p3).trans p1,p2,p3,p4,p5⟩
noncomputable abbrev Cx.suite (X:Cx) (v:Value):Cx:={ X with A:=X.A.mark (some v),calm:=false,xe:=fun _ _=>False }
theorem Inv.suite (I:Inv X pins σ H s) (v:Value):Inv (X.suite v) pins σ H s :=
  ⟨⟨I.ok.mod,I.ok.kind,I.ok.glob,I.ok.blt,I.ok.above,I.ok.inj,I.ok.has,I.ok.cab,fun z=>absurd z (by simp),I.ok.frames,I.ok.stk,I.ok.exf,I.ok.bs,I.ok.bsz,I.ok.noex,I.ok.exfs,I.ok.funs,I.ok.frf⟩,
    I.os,I.bare,I.base,I.loc,I.cell,I.free,I.freeC,I.pin,I.hok,I.len⟩
theorem Inv.unsuite {v:Value} (ok:X.Ok) (I:Inv (X.suite v) pins σ H s):Inv X pins σ H s :=
  ⟨ok,I.os,I.bare,I.base,I.loc,I.cell,I.free,I.freeC,I.pin,I.hok,I.len⟩
theorem HOk.track {P:Program} {w:World} {h:Heap} {a:Addr} {o:HO} (x:HOk P w H h) (hn:H a=none) (new:ObjOk P w (upd H a o) h a o):HOk P w (upd H a o) h:=fun b u e=>by
  by_cases hb:b=a
  · subst hb;rw [zo] at e;cases e;exact new
  · rw [zw hb] at e
    exact (x b u e).stay (fun c v _ q=>q) (fun c q=>by rw [zw (zq q hn)];exact q) fun c xs q=>by rw [zw (zq q hn)];exact q
end
section
variable {M:Model} {A:Around} {E:Value→Shared→Prop} {h:Heap} {g:Array GenState} {d:Drawn} {t:Nat} {os:OsState}
theorem zkj {nm q:Str} {C N:Addr} {bs bm:List Value} {hdct:Bool} {sn:List Str} {sub:List Value} {ab:Bool} {col:Option Bool} {dd:Option Addr} {k0 k1 k2 k3 k5:Option Value} {newId:String}
    {nm' q':Str} {C' N':Addr} {bs' bm':List Value} {hdct':Bool} {sn':List Str} {sub':List Value} {ab':Bool} {col':Option Bool} {dd':Option Addr} {k0' k1' k2' k3' k5':Option Value} {newId':String} {e:Addr} {oe:Obj} {b:Bool} {Q:Bool→Shared→Prop}
    (hC:h.get? C=some (excClassObj nm q C N bs bm hdct sn sub ab col dd k0 k1 k2 k3 k5 newId)) (hC':h.get? C'=some (excClassObj nm' q' C' N' bs' bm' hdct' sn' sub' ab' col' dd' k0' k1' k2' k3' k5' newId'))
    (he:h.get? e=some oe) (hcls:oe.cls = .ref C) (hbase:bm'.contains (.type "BaseException")=true) (hb:(Value.ref C :: bm).contains (.ref C')=b) (hq:Q b ⟨h,g,d,t,os⟩):wpAny M A (excMatches (.ref e) (.ref C')) Q E ⟨h,g,d,t,os⟩:=by
  have hcB:(Value.ref C' :: bm').contains (.type "BaseException")=true:=by rw [List.contains_cons,hbase,Bool.or_true]
  have f:=tc_notTuple
  unfold excMatches
  cases b with
  | true =>
    repeat (first | (with_reducible refine wpAny_loadPart_at he ?_;rw [hcls]) | with_reducible refine wpAny_loadPart_at hC' ?_ | (with_reducible refine wpAny_isSubtype_exc hC' ?_;rw [hcB]) | (with_reducible refine wpAny_isSubtype_exc hC ?_;rw [hb]) | wp_step)
    exact hq
  | false =>
    repeat (first | (with_reducible refine wpAny_loadPart_at he ?_;rw [hcls]) | with_reducible refine wpAny_loadPart_at hC' ?_ | (with_reducible refine wpAny_isSubtype_exc hC' ?_;rw [hcB]) | (with_reducible refine wpAny_isSubtype_exc hC ?_;rw [hb]) | wp_step)
    exact hq
end
theorem znu {K:W.Frag} {h:Heap} {C:Addr} {v:Value} {b:Bool} {nm q:Str} {N:Addr} {bs bm:List Value} {hdct:Bool} {sn:List Str} {sub:List Value} {ab:Bool} {col:Option Bool} {dd:Option Addr} {k0 k1 k2 k3 k5:Option Value} {newId:String} (X:K.In h) (e:W.mroIn K C v=some b)
    (hC:h.get? C=some (excClassObj nm q C N bs bm hdct sn sub ab col dd k0 k1 k2 k3 k5 newId)):(Value.ref C :: bm).contains v=b:=by
  obtain ⟨cd,a,z⟩:=Option.bind_eq_some_iff.mp e
  unfold W.clsIn at a
  split at a
  · rename_i ho
    cases a
    have:=X _ _ ho
    rw [hC] at this
    cases this
    split at z
    · cases z
    · cases z;rfl
  · cases a
end L2
namespace M
open PySem PySem.Spec PyProof.Rows L2
def XP (X:Cx) (pins:List (Addr×Obj)) (σ:L2.St) (W:XK) (e:Value) (s':Shared):Prop:=∃ H1 s1 C dx H',Inv X pins σ H1 s1∧FlyX X.prog X.w X.stack H1 s1 C dx H' e s'∧W C dx H'
def PX1 (X:Cx) (st:Stmt) (ψ:FS):Prop:=∀ (pins:List (Addr×Obj)) (s:Shared) (σ:L2.St) (H:Hp) (D:Ends) (W:XK),Inv X pins σ H s→tMS X.K W ψ D σ H→wpAny (model X.prog X.w) X.A (exec st X.env) (SP X pins D) (XP X pins σ W) s
def PX (X:Cx) (sts:List Stmt) (ψ:FS):Prop:=∀ (pins:List (Addr×Obj)) (s:Shared) (σ:L2.St) (H:Hp) (D:Ends) (W:XK),Inv X pins σ H s→tMS X.K W ψ D σ H→wpAny (model X.prog X.w) X.A (execs sts X.env) (SP X pins D) (XP X pins σ W) s
section
variable {X:Cx} {c e:Expr} {es:List Expr} {pos p spos:Pos} {x:Str} {k j n:Nat} {st:Stmt} {f:Addr} {fd:FuncData} {ps:List Str} {F:FX} {φ:FA}
theorem zIv {ψ:FS} (h:PX1 X st ψ):PX X [st] ψ:=by
  intro pins s σ H D W I q
  refine wpAny_execs_cons (thn (h pins s σ H D W I q) fun f s1 q=>?_)
  cases f with
  | next=>exact wpAny_execs_nil q
  | ret v=>exact q
  | brk=>exact q
  | cont=>exact q
theorem zey (B:FnAt X.K X.mg x st ps f fd) (G:FnOk X.prog X.w X.K X.mg X.base (CXq X.prog X.w) j f fd ps (spX X.K n F)) (hr:Room k X.A)
    (ha:MAn X.nox (e :: es) φ) (hj:j≤k) (hg:Gl X x) (hdb:(x == ("__debug__":Str))=false) (he:starEach (e :: es) X.env=(false,eval e X.env) :: starEach es X.env) (hpl:(backTo pos (starEach es X.env)).any (·.1)=false)
    {pins:List (Addr×Obj)} {s:Shared} {σ:L2.St} {H:Hp} {Q:VK} {W:XK} (I:Inv X pins σ H s) (h:tCX X.K W n F φ σ H Q):wpAny (model X.prog X.w) X.A (eval (.Call (.Name x p) (e :: es) [] pos) X.env) (EP X pins σ Q) (XP X pins σ W) s:=by
  refine wpAny_Call_Name_kw (zJg I hg B.at_ ?_ hdb)
  refine PySem.W.callWith_K (h₀:=X.base) I.ok.mod.kin B.fn.kp (wpAny_mono (ha.ma pos pins s σ H _ (I.wish _) h) (fun us s1 h1=>?_) fun _ _ z=>z.elim) he hpl
  obtain ⟨vs,H1,I1,r,q⟩:=h1
  have I1:=I1.unwish
  refine ⟨I1.kIn,?_⟩
  have r2:Vals (vs ++ []) (us ++ []):=r.append .nil
  have hl:(us ++ []).length=ps.length:=by rw [← r2.length];exact G.len _ _ _ _ q
  refine wpAny_call (codeAny_mono (G.run X.A X.stack s1 H1 ⟨us,[]⟩ (us ++ []) (vs ++ []) Q W (hr.mono hj) I1.env0 (B.bd s1 us I1.kIn hl) r2 q) fun rr s' hq=>?_)
  cases rr with
  | error ex =>
    obtain ⟨C,dx,H',Fl,hw⟩:=hq
    exact ⟨H1,s1,C,dx,H',I1,Fl,hw⟩
  | ok fl =>
    cases fl with
    | ret u=>exact I1.after hq
    | next=>exact False.elim hq
    | brk=>exact False.elim hq
    | cont=>exact False.elim hq
theorem zsw {y:Str} {py:Pos} (i:Nat) (B:FnAt X.K X.mg x st ps f fd) (G:FnOk X.prog X.w X.K X.mg X.base (CXq X.prog X.w) j f fd ps (spX X.K n F)) (hr:Room k X.A)
    (ha:MAn X.nox (e :: es) φ) (hj:j≤k:=by decide) (hn:(e :: es).length=n:=by rfl) (hN:X.N.Nodup:=by first | assumption | decide) (hi:X.N[i]?=some y:=by rfl) (hy:L2.Loc X.env.scope y:=by first | exact Or.inl rfl | exact Or.inr rfl) (hg:Gl X x:=by rfl) (hdb:(x == ("__debug__":Str))=false:=by decide)
    (he:starEach (e :: es) X.env=(false,eval e X.env) :: starEach es X.env:=by exact zvf rfl) (hpl:(backTo pos (starEach es X.env)).any (·.1)=false:=by rfl)
    (hs:swapsWith (.Call (.Name x p) (e :: es) [] pos) (some (.Name y py)) spos.line X.env=pure false:=by rfl) (hf:X.fn y=true∨X.env.scope.names.lookup y=some .local:=by first | exact .inl rfl | exact .inr rfl | assumption) :
    PX1 X (.Assign [.Name y py] (.Call (.Name x p) (e :: es) [] pos) spos) (zFp i F φ):=by
  intro pins s σ H D W I ⟨ρ,δ,μ,o,A,eo,kk⟩
  obtain ⟨ds,μ1,r,e1,e2,rfl⟩:=zIr eo
  refine wpAny_Assign_Name (thn (zey B G hr ha hj hg hdb he hpl I (Q:=fun v H'=>D.nx (σ.set i (some v)) H') (zhw A e1 ((ha.len _ _ _ _ e1).trans hn) e2 ?_)) fun v s1 ⟨y,H1,I1,r1,q1⟩=>?_) hs
  · cases r with
    | ok d μ'=>exact fun ρ' H' v x' R r=>kk ρ' _ H' x' ((A.ext x' R).set r i)
    | exc c fs μ'=>exact kk
  · exact zFf I1 hN hi hy r1 (fun s2 I2=>⟨_,H1,I2,q1⟩) hf
end
noncomputable abbrev FH:=Str→List (Str×D)→FS
def Cau (X:Cx) (pins:List (Addr×Obj)) (σ:L2.St) (C:Value) (dx:Option Addr) (H':Hp) (a:Addr) (s':Shared):Prop:=∃ H1 s1,Inv X pins σ H1 s1∧FlyX X.prog X.w X.stack H1 s1 C dx H' (.ref a) s'
theorem zzr {P:Program} {w:World} {outer:List Env} {H H':Hp} {s s':Shared} {C:Value} {dx:Option Addr} {a:Addr} {B base h2:Heap} (F:FlyX P w outer H s C dx H' (.ref a) s') (c:Cov outer H' s.heap B) (st:B.StaysIn s'.heap) (fl:Fly B outer a C dx h2) (sm:s'.heap.UpToSlots h2)
    (ff:s.heap.FunFrames base outer) (frf:∀ b∈frs outer,H b=none):FlyX P w outer H s C dx H' (.ref a) { s' with heap:=h2 } :=
  ⟨F.os,F.bare,zqn F.un c st fl.st sm ff frf,z3k F.hok c st fl.st,a,B,rfl,fl,c⟩
noncomputable def MH (X:Cx) (hs:List ExceptHandler) (η:FH):Prop :=
  ∀ pins σ C c fs dx H' a s' ρ δ μ o D,Cau X pins σ (.ref C) dx H' a s'→W.nsIn X.K mainGlobals c=some (some (.ref C))→RepX X.K ρ H' fs dx→At X.K ρ H' σ δ μ→η c fs δ μ = some o→OutOk X.K (z7l X) ρ H' D o →
    wpAny (model X.prog X.w) X.A (handleBy (.ref a) X.env hs) (SP X pins D) X.xe s'
@[simp] noncomputable def zWu:FH:=fun _ _ _ _=>none
theorem zbu {X:Cx} {hs:List ExceptHandler}:MH X hs zWu:=fun _ _ _ _ _ _ _ _ _ _ _ _ _ _ _ _ _ _ e _=>by cases e
@[simp] noncomputable def z4s (p:FS) (η:FH):FS:=fun δ μ=>match p δ μ with
  | some (.exc c fs μ')=>η c fs δ μ'
  | o=>o
theorem zzv {X:Cx} {body:List Stmt} {h0:ExceptHandler} {hs:List ExceptHandler} {pos:Pos} {p:FS} {η:FH} (hb:PX X body p) (hh:MH X (h0 :: hs) η) (hst:X.stack=X.env :: X.outer:=by rfl) (hfm:X.env.frame=some X.env.locals:=by rfl):MS X (.Try body (h0 :: hs) [] [] pos) (z4s p η):=by
  intro pins s σ H D I ⟨ρ,δ,μ,o,A,eo,kk⟩
  have calm:∀ o',p δ μ = some o'→(∀ c fs μ',o'≠.exc c fs μ')→wpAny (model X.prog X.w) X.A (exec (.Try body (h0 :: hs) [] [] pos) X.env) (SP X pins D) X.xe s:=fun o' ep hne=>by
    have eo':o'=o:=by
      unfold z4s at eo
      rw [ep] at eo
      cases o' with
      | exc c fs μ'=>exact absurd rfl (hne c fs μ')
      | next _ _=>cases eo;rfl
      | ret _ _=>cases eo;rfl
      | brk _ _=>cases eo;rfl
      | cont _ _=>cases eo;rfl
    subst eo'
    refine wpAny_Try_except (wpAny_mono (hb pins s σ H D E0 I ⟨ρ,δ,μ,o',A,ep,?_⟩) (fun fl s1 q=>?_) fun e s1 ⟨_,_,_,_,_,_,_,z⟩=>z.elim)
    · cases o' with
      | exc c fs μ'=>exact absurd rfl (hne c fs μ')
      | next _ _=>exact kk
      | ret _ _=>exact kk
      | brk _ _=>exact kk
      | cont _ _=>exact kk
    · cases fl with
      | next=>exact wpAny_execs_nil q
      | ret v=>exact q
      | brk=>exact q
      | cont=>exact q
  cases ep:p δ μ with
  | none=>unfold z4s at eo;rw [ep] at eo;cases eo
  | some o' =>
    cases o' with
    | next _ _=>exact calm _ ep (by intros;simp)
    | ret _ _=>exact calm _ ep (by intros;simp)
    | brk _ _=>exact calm _ ep (by intros;simp)
    | cont _ _=>exact calm _ ep (by intros;simp)
    | exc c fs μ' =>
      have eo:η c fs δ μ'=some o:=by unfold z4s at eo;rw [ep] at eo;exact eo
      refine wpAny_Try_except (wpAny_mono (hb pins s σ H { nx:=fun _ _=>False,rt:=fun _ _=>False } (fun Cv dx H'=>∃ C ρ',Cv = .ref C∧W.nsIn X.K mainGlobals c=some (some (.ref C))∧Ext ρ H ρ' H'∧RepH X.K ρ' H' μ'∧RepX X.K ρ' H' fs dx) I
        ⟨ρ,δ,μ,_,A,ep,fun ρ' H' C dx hc x' R r=>⟨C,ρ',rfl,hc,x',R,r⟩⟩) (fun fl s1 q=>?_) fun e s1 q=>?_)
      · cases fl with
        | next=>obtain ⟨_,_,_,z⟩:=q;exact z.elim
        | ret v=>obtain ⟨_,_,_,_,_,z⟩:=q;exact z.elim
        | brk=>obtain ⟨_,_,_,z⟩:=q;exact z.elim
        | cont=>obtain ⟨_,_,_,z⟩:=q;exact z.elim
      · obtain ⟨H1,s2,Cv,dx,H',I1,F,C,ρ',rfl,hc,x',R,rX⟩:=q
        obtain ⟨a,B,rfl,fl,cov⟩:=F.fly
        have fl':Fly B (X.env :: X.outer) a (.ref C) dx s1.heap:=by rw [← hst];exact fl
        have hfr:X.A.frames=some (X.env :: X.outer):=by rw [← hst];exact I.ok.frames
        refine zai hfr hfm fl' fun h2 fl2 sm2=>zhf (s:={ s1 with heap:=h2 }) fl2 fun h3 fl3 sm3=>?_
        rw [← hst] at fl3
        exact hh pins σ C c fs dx H' a { s1 with heap:=h3 } ρ' δ μ' o D ⟨H1,s2,I1,zzr (h2:=h3) F cov fl.st fl3 (sm2.trans sm3) I1.stack I1.stkFree⟩ hc rX (A.ext x' R) eo (kk.ext x')
@[simp] noncomputable def behind (i:Nat):Option Out→Option Out
  | some (.next δ μ)=>some (.next (δ.set i none) μ)
  | some (.ret d μ)=>some (.ret d μ)
  | some (.brk δ μ)=>some (.brk (δ.set i none) μ)
  | some (.cont δ μ)=>some (.cont (δ.set i none) μ)
  | _=>none
@[simp] noncomputable def hAs (i:Nat) (tb:List (Str×Bool)) (q:FS) (η:FH):FH:=fun c fs δ μ=>match tb.lookup c with
  | some true=>behind i (q (δ.set i (some (.loc μ.length))) (μ ++ [.exc c fs]))
  | some false=>η c fs δ μ
  | none=>none
def Subs (K:W.Frag) (D0:Addr) (tb:List (Str×Bool)):Prop:=∀ c b,tb.lookup c=some b→∀ C,W.nsIn K mainGlobals c=some (some (.ref C))→W.ktsIn K C "BaseException" = true∧W.mroIn K C (.ref D0)=some b
theorem At.unset {K:W.Frag} {ρ:List Addr} {H:Hp} {σ:L2.St} {δ:Loc} {μ:Mem} (A:At K ρ H σ δ μ) (i:Nat):At K ρ H (σ.set i none) (δ.set i none) μ:=by
  refine ⟨fun j d' e=>?_,A.hp,by simp [A.len]⟩
  by_cases hj:j=i
  · subst hj
    have hl:j < δ.length:=by
      have:=(List.getElem?_eq_some_iff.mp e).1
      simpa using this
    rw [List.getElem?_set_self hl] at e
    cases e
  · rw [List.getElem?_set_ne (Ne.symm hj)] at e
    obtain ⟨u,e1,q⟩:=A.st j d' e
    exact ⟨u,by rw [List.getElem?_set_ne (Ne.symm hj)];exact e1,q⟩
theorem zox {X:Cx} {d n:Str} {D0:Addr} {b0:Stmt} {suite:List Stmt} {pos np:Pos} {rest:List ExceptHandler} {q:FS} {η:FH} (i:Nat) (tb:List (Str×Bool)) (hd:W.nsIn X.K mainGlobals d=some (some (.ref D0))) (hk:W.ktsIn X.K D0 "BaseException" = true) (ht:Subs X.K D0 tb)
    (hq:∀ v,MSs (X.suite v) (b0 :: suite) q) (hr:MH X rest η) (hg:Gl X d:=by rfl) (hN:X.N.Nodup:=by first | assumption | decide) (hi:X.N[i]?=some n:=by rfl) (hl:X.env.scope.names.lookup n=some .local:=by rfl) (hdb:(d == ("__debug__":Str))=false:=by decide) :
    MH X (.ExceptHandler (some (.Name d np)) (some n) (b0 :: suite) pos :: rest) (hAs i tb q η):=by
  intro pins σ C c fs dx H' a s' ρ δ μ o D hcau hc hX A eo kk
  obtain ⟨H1,s1,I1,F⟩:=hcau
  obtain ⟨a',B,ea,fl,cov⟩:=F.fly
  cases ea
  have J:Inv X pins σ H' s':=I1.fly F cov fl.st fl.st (.refl _)
  obtain ⟨oe,vs,y,he,hcl,hdx,hfd,h1,tr⟩:=fl.ob
  cases hb:tb.lookup c with
  | none=>unfold hAs at eo;rw [hb] at eo;cases eo
  | some b =>
    obtain ⟨kC,mC⟩:=ht c b hb C hc
    obtain ⟨nm,qn,N,bs,bm,hdct,sn,sub,ab,col,dd,k0,k1,k2,k3,k5,newId,hC,_,_⟩:=W.kts_cls J.kIn kC
    obtain ⟨nm',qn',N',bs',bm',hdct',sn',sub',ab',col',dd',k0',k1',k2',k3',k5',newId',hC',hbase',_⟩:=W.kts_cls J.kIn hk
    refine wpAny_handleBy_cons (codeAny_handlers_test (zJg (X:=X.suite (.ref a)) (J.suite (.ref a)) hg (W.mg_of J.mod.kin J.mod.glob hd) ?_ hdb)) (by intro z;cases z)
    obtain ⟨hh,g,dr,tk,os⟩:=s'
    refine zkj hC hC' he hcl hbase' (znu J.kIn mC hC) ?_
    cases b with
    | false =>
      unfold hAs at eo
      rw [hb] at eo
      exact hr pins σ C c fs dx H' a _ ρ δ μ o D ⟨H1,s1,I1,F⟩ hc hX A eo kk
    | true =>
      unfold hAs at eo
      rw [hb] at eo
      refine codeAny_handlers_suite_as (zhf (s:=⟨hh,g,dr,tk,os⟩) fl fun h2 fl2 sm2=>?_)
      have hna:H' a=none:=by
        cases z:H' a with
        | none=>rfl
        | some u=>obtain ⟨w,hw⟩:=cov.tr a u z;rw [fl.new] at hw;cases hw
      have hold:∀ b o,s1.heap.get? b=some o→b≠a:=fun b o ho z=>by
        subst z
        by_cases hm:b∈frs X.stack
        · obtain ⟨_,o',ho',hnf⟩:=fl.ff.mem hm
          rw [he] at ho'
          cases ho'
          exact hnf _ hfd
        · obtain ⟨w,hw⟩:=cov.old b o ho hm
          rw [fl.new] at hw
          cases hw
      have u2:=zqn F.un cov fl.st fl2.st sm2 I1.stack I1.stkFree
      have ok2:=z3k F.hok cov fl.st fl2.st
      obtain ⟨oe2,vs2,y2,he2,hcl2,hdx2,hfd2,_,_⟩:=fl2.ob
      have J3:Inv X pins σ (upd H' a (.ext (zUm a C dx))) ⟨h2,g,dr,tk,os⟩:=by
        refine I1.call' (s':=⟨h2,g,dr,tk,os⟩) (ch:=[]) F.os ⟨u2.keep,u2.slot,fun b o e1 e2 e3=>?_,u2.there,fun b xs z=>?_,fun b ob u z=>?_,fun b ps z=>?_⟩ (ok2.track hna ⟨⟨oe2,vs2,he2,hcl2,hdx2,hfd2⟩,⟨_,he2⟩,fun x1 x2 z1 z2=>?_⟩) F.bare fun b z=>absurd z (by simp)
        · rw [zw (hold b o e1)];exact u2.free b o e1 e2 e3
        · have:=u2.tups b xs z;rw [zw (zq this hna)];exact this
        · have:=u2.frzs b ob u z;rw [zw (zq this hna)];exact this
        · obtain ⟨m,this⟩:=u2.tbls b ps z;exact ⟨m,by rw [zw (zq this hna)];exact this⟩
        · obtain ⟨o1,v1,w1,w2⟩:=z1;exact ⟨o1,v1,z2 _ w1,w2⟩
      refine zFf (X:=X.suite (.ref a)) (v := .ref a) (u := .ref a) (J3.suite (.ref a)) hN hi (.inl hl) rfl (fun s3 I3=>?_) (.inr hl)
      have A3:At X.K (ρ ++ [a]) (upd H' a (.ext (zUm a C dx))) (σ.set i (some (.ref a))) (δ.set i (some (.loc μ.length))) (μ ++ [.exc c fs]) :=
        (A.ext (Ext.push hna) (A.hp.push (o := .ext (zUm a C dx)) (lo := .exc c fs) hna ⟨C,dx,hc,zo,hX.ext (Ext.push hna)⟩)).set (.loc (zvb A.hp)) i
      cases eq:q (δ.set i (some (.loc μ.length))) (μ ++ [.exc c fs]) with
      | none=>rw [eq] at eo;cases eo
      | some o' =>
        rw [eq] at eo
        have kk':=kk.ext (Ext.push (o := .ext (zUm a C dx)) hna)
        refine wpAny_mono (hq (.ref a) pins s3 _ _ { nx:=fun σ' H2=>D.nx (σ'.set i none) H2,rt:=D.rt,bk:=fun σ' H2=>D.bk (σ'.set i none) H2,ct:=fun σ' H2=>D.ct (σ'.set i none) H2 } I3 ⟨_,_,_,o',A3,eq,?_⟩) (fun f4 s4 hs4=>?_) fun _ _ z=>z.elim
        · cases o' with
          | next δ' μ'=>cases eo;exact fun ρ' σ' H2 x2 A2=>kk' ρ' _ H2 x2 (A2.unset i)
          | brk δ' μ'=>cases eo;exact fun ρ' σ' H2 x2 A2=>kk' ρ' _ H2 x2 (A2.unset i)
          | cont δ' μ'=>cases eo;exact fun ρ' σ' H2 x2 A2=>kk' ρ' _ H2 x2 (A2.unset i)
          | ret d' μ'=>cases eo;exact kk'
          | exc _ _ _=>cases eo
        · cases f4 with
          | next=>obtain ⟨σ4,H4,I4,z⟩:=hs4;exact zSk (I4.unsuite J.ok) hN hi hl fun s5 I5=>⟨_,H4,I5,z⟩
          | brk=>obtain ⟨σ4,H4,I4,z⟩:=hs4;exact zSk (I4.unsuite J.ok) hN hi hl fun s5 I5=>⟨_,H4,I5,z⟩
          | cont=>obtain ⟨σ4,H4,I4,z⟩:=hs4;exact zSk (I4.unsuite J.ok) hN hi hl fun s5 I5=>⟨_,H4,I5,z⟩
          | ret u=>obtain ⟨v4,σ4,H4,I4,r4,z⟩:=hs4;exact zSk (I4.unsuite J.ok) hN hi hl fun s5 I5=>⟨v4,_,H4,I5,r4,z⟩
end M
namespace PySem.W
open PySem PySem.Spec PySem.Calls PyProof.Rows
structure AskC (K:Frag) (C:Addr):Prop where
  cl:(clsIn K C).isSome=true
  ga:findIn K (.ref C) "__getattribute__" = some (some (.builtin "BaseException.__getattribute__"))
  gk:findIn K (.ref C) "__getattr__" = some none
  be:mroIn K C (.type "BaseException")=some true
  ha:findIn K (.ref C) "__class__" = some (some (.builtin "object.__class__"))
  hn:specialIn K (.builtin "object.__class__") "__get__" = some (some (.builtin "getset_descriptor.__get__"))
  tk:takesIn K (.builtin "object.__class__")=some true
  hm:mroIn K C (.type "object")=some true
theorem zbn {K:Frag} {C:Addr} {odo:Option Obj} {name:Str} {a g:Value} (hc:(clsIn K C).isSome=true) (ha:findIn K (.ref C) name=some (some a)) (hg:specialIn K a "__get__" = some (some g)) (ht:takesIn K a=some true):findObj K C odo name=some (.bind g a):=by
  obtain ⟨cd,hc⟩:=Option.isSome_iff_exists.mp hc
  unfold findObj
  rw [hc,Option.bind_some,ha,Option.bind_some]
  simp [hg,ht]
section
variable {prog:Program} {w:World} {A:Around} {E:Value→Shared→Prop} {s:Shared} {K:Frag} {x D:Addr} {ox:Obj} {odo:Option Obj}
theorem z2l {M:Model} {nameV:Value} {Q:Unit→Shared→Prop} (X:K.In s.heap) (I:InstAt s.heap x ox D odo) (c:AskC K D) (hq:Q () s):wpAny M A (checkBuiltinCall "BaseException.__getattribute__" ⟨[.ref x,nameV],[]⟩) Q E s:=by
  have hk:builtinKind "BaseException.__getattribute__" = some .slot:=by decide +kernel
  have hsplit:splitId "BaseException.__getattribute__" = some ("BaseException","__getattribute__"):=by decide +kernel
  have ha:=F.args_bexc_ga (.ref x) nameV
  have L0:=I.type (M:=M)
  have L1:=looks_mroIn (M:=M) X c.be
  obtain ⟨hh,g,d,t,os⟩:=s
  simp only [checkBuiltinCall,hk,hsplit]
  refine wpAny_bind ?_
  · unfold isInstance
    repeat (first | with_reducible refine L0.at ?_ | with_reducible refine L1.at ?_ | wp_step)
    exact hq
theorem zcr {tk:Tok} {Q:Fin→Shared→Prop} (X:K.In s.heap) (I:InstAt s.heap x ox D odo) (c:AskC K D) (hq:Q (.done (.ret (.ref D))) s):wpAny (model prog w) A (Builtin.«object.__getattribute__» ⟨[.ref x, .str "__class__" tk],[]⟩) Q E s:=by
  have L0:=I.type (M:=model prog w)
  have L1:=looks_find (M:=model prog w) X I (zbn c.cl c.ha c.hn c.tk)
  obtain ⟨hh,g,d,t,os⟩:=s
  repeat (any_goals (first | assumption | with_reducible refine L0.at ?_ | with_reducible refine L1.at ?_ | wp_step))
  refine class_get (s:=⟨hh,g,d,t,os⟩) (ox:=ox) (od:=odo) X I c.hm ?_
  repeat (any_goals (first | assumption | wp_step))
theorem zkq {Q:Option Value→Shared→Prop} (X:K.In s.heap) (I:InstAt s.heap x ox D odo) (c:AskC K D) (h:Q (some (.ref D)) { s with toks:=s.toks+1 }):wpAny (model prog w) A (getAttr? (.ref x) "__class__") Q E s:=by
  have L0:=I.type (M:=model prog w)
  have L1:=looks_findIn (M:=model prog w) X c.ga
  have L2:=looks_findIn (M:=model prog w) X c.gk
  have f3:=F.excAttr_ValueError.ga.bind (.ref x)
  have hx2:(Value.builtin "BaseException.__getattribute__" == Value.builtin "object.__getattribute__")=false:=by decide +kernel
  have hx1:(onTheHeap (Value.ref D) && Value.builtin "BaseException.__getattribute__" == Value.builtin "object.__getattribute__")=false:=by rw [hx2];rfl
  obtain ⟨hh,g,d,t,os⟩:=s
  unfold getAttr? getAttrBy? getAttrBy
  repeat (any_goals (first | assumption | with_reducible refine L0.at ?_ | with_reducible refine L1.at ?_ | with_reducible refine L2.at ?_ | wp_step))
  refine codeAny_call_builtin F.excAttr_ValueError.ga.plain F.entry_bexc_ga (z2l (s:=⟨hh,g,d,t+1,os⟩) X I c (zcr (s:=⟨hh,g,d,t+1,os⟩) X I c ?_))
  repeat (any_goals (first | assumption | wp_step))
end
theorem kitx_exc {K:Frag} {x D:Addr} (c:AskC K D):KitX K (.ref x) (.ref D) (fun h=>∃ ox odo,InstAt h x ox D odo) where
  ty:=fun _ _ _ ⟨_,_,I⟩=>I.type
  it:=fun _ _ X _=>by
    obtain ⟨cdD,hcD⟩:=Option.isSome_iff_exists.mp c.cl
    unfold clsIn at hcD
    split at hcD
    · rename_i c' d' cd' sl' ho
      intro A' Q' E' s' k q
      unfold isType loadHead
      exact wpAny_bind (wpAny_loadPart (k _ _ (X _ _ ho)) (wpAny_pure q))
    · cases hcD
  ne:=fun h tp dd its n sl X htp=>by
    obtain ⟨cdD,hcD⟩:=Option.isSome_iff_exists.mp c.cl
    refine Bool.eq_false_iff.mpr fun q=>?_
    have e:D=tp:=Value.ref.inj (beq_iff_eq.mp q)
    subst e
    unfold clsIn at hcD
    split at hcD
    · rename_i c' d' cd' sl' ho
      have z:=(X _ _ ho).symm.trans htp
      cases z
    · cases hcD
  ca:=fun {prog w A E Q s} X ⟨ox,odo,I⟩ k=>zkq X I c k
end PySem.W
namespace M
open PySem PySem.Spec PyProof.Rows L2
section
variable {X:Cx}
theorem zzg {x:Str} {a:Addr} {pos:Pos} (hn:W.nsIn X.K mainGlobals x=some (some (.ref a))) (hm:X.mg x=some (.ref a)) (hg:Gl X x:=by rfl) (hd:(x == ("__debug__":Str))=false:=by decide):ME X (.Name x pos) (fC (.own x)) :=
  zPu (zCu (v:=V.ref a) hg hm rfl hd) fun _ _ => .own hn
@[simp] noncomputable def zgn (μ:Mem):D→Option (Option Str)
  | .non=>some none
  | .loc n=>match μ[n]? with
    | some (.exc c _)=>some (some c)
    | _=>none
  | _=>none
inductive CN where
  | own (c:Str)
  | ty (n:String)
  deriving DecidableEq
noncomputable abbrev Kit:=List ((Option Str×CN)×Bool)
def zct (K:W.Frag):CN→Value→Prop
  | .own d,v=>∃ a,W.nsIn K mainGlobals d=some (some (.ref a))∧v = .ref a
  | .ty n,v=>v = .type n
structure KitOk (K:W.Frag) (tb:Kit):Prop where
  non:∀ d b v,tb.lookup (none,d)=some b→zct K d v→W.kitOne K (.type "NoneType") v=some b
  ask:∀ c d b,tb.lookup (some c,d)=some b→∀ C,W.nsIn K mainGlobals c=some (some (.ref C))→W.AskC K C
  exc:∀ c d b v,tb.lookup (some c,d)=some b→zct K d v→∀ C,W.nsIn K mainGlobals c=some (some (.ref C))→W.kitOne K (.ref C) v=some b
@[simp] noncomputable def zBw:D→Option (CN)
  | .own c=>some (.own c)
  | .ty n=>some (.ty n)
  | _=>none
@[simp] noncomputable def zNu (tb:Kit) (k:Option Str) (c:D):Option Bool:=(zBw c).bind fun d=>tb.lookup (k,d)
noncomputable def zMj (tb:Kit) (k:Option Str):List D→Option Bool
  | []=>some false
  | c :: r=>match zNu tb k c with
    | some true=>some true
    | some false=>zMj tb k r
    | none=>none
@[simp] noncomputable def zjq (tb:Kit):GL:=fun ds μ=>match ds with
  | [x, .tup (c :: cs)]=>(zgn μ x).bind fun k=>(zMj tb k (c :: cs)).bind fun b=>some (.bl b,μ)
  | [x,c]=>(zgn μ x).bind fun k=>(zNu tb k c).bind fun b=>some (.bl b,μ)
  | _=>none
theorem zmr {K:W.Frag} {ρ:List Addr} {H:Hp} {c:D} {v:V} {u:Value} {d:CN} (r:RepV K ρ H c v) (q:RelV v u) (e:zBw c=some d):zct K d u:=by
  cases c with
  | own c=>cases e;obtain ⟨a,rfl,h⟩:=r.own_inv;cases q;exact ⟨a,h,rfl⟩
  | ty n=>cases e;rw [r.ty_inv] at q;cases q;rfl
  | _=>cases e
theorem z4n {pins:List (Addr×Obj)} {σ:L2.St} {H:Hp} {s:Shared} {ρ:List Addr} {μ:Mem} {x:D} {v:V} {u:Value} {k:Option Str} {tb:Kit} (I:Inv X pins σ H s) (R:RepH X.K ρ H μ) (r:RepV X.K ρ H x v) (q:RelV v u) (e:zgn μ x=some k) (T:KitOk X.K tb) (hne:∃ d b,tb.lookup (k,d)=some b) :
    ∃ (t:Value) (P:Heap→Prop),W.KitX X.K u t P∧P s.heap∧u≠.builtin "__main__.__loader__#opaque"∧∀ d b w,tb.lookup (k,d)=some b→zct X.K d w→W.kitOne X.K t w=some b:=by
  cases x with
  | non=>cases e;rw [r.non_inv] at q;cases q;exact ⟨_,_,W.kitx_none,trivial,(fun z=>nomatch z),fun d b w h1 h2=>T.non d b w h1 h2⟩
  | loc n =>
    unfold zgn at e
    dsimp only at e
    split at e
    · rename_i c fs hm
      cases e
      obtain ⟨a,rfl,e2⟩:=r.loc_inv
      cases q
      obtain ⟨C,dx,hn,hH,hX⟩:=R.at_ _ _ _ e2 hm
      obtain ⟨⟨o,vs,h1,h2,h3,h4⟩,_,_⟩:=(show ObjOk X.prog X.w H s.heap a (.ext (zUm a C dx)) from I.hok a _ hH)
      have inst:∃ ox odo,W.InstAt s.heap a ox C odo:=by
        rcases hX with ⟨_,rfl⟩ | ⟨p,ws,rfl,hp,_,_⟩
        · exact ⟨o,none,h1,h2,by unfold W.notCls;rw [h4],by rw [h3];trivial⟩
        · obtain ⟨u,hu⟩:=(I.hok p _ hp).there
          exact ⟨o,some u,h1,h2,by unfold W.notCls;rw [h4],by rw [h3];exact hu⟩
      obtain ⟨d,b,h5⟩:=hne
      exact ⟨.ref C,_,W.kitx_exc (T.ask c d b h5 C hn),inst,(fun z=>nomatch z),fun d b w h1 h2=>T.exc c d b w h1 h2 C hn⟩
    · cases e
  | _=>cases e
theorem zmm {K:W.Frag} {ρ:List Addr} {H:Hp} {tb:Kit} {k:Option Str} {t:Value} (hk:∀ d b w,tb.lookup (k,d)=some b→zct K d w→W.kitOne K t w=some b):∀ {cs:List D} {vs:List V} {us:List Value} {b:Bool},RepVs K ρ H cs vs→Vals vs us→zMj tb k cs=some b→W.kitAny K t us=some b
  | [],_,_,b,r,q,e=>by
    rw [r.nil_inv] at q
    cases q
    cases e
    rfl
  | c :: cs,_,_,b,r,q,e=>by
    obtain ⟨v,vs,rfl,r1,r2⟩:=r.cons_inv
    cases q with
    | cons q1 q2 =>
      unfold zMj at e
      cases e1:zNu tb k c with
      | none=>rw [e1] at e;cases e
      | some b1 =>
        rw [e1] at e
        obtain ⟨d,e2,e3⟩:=zf e1
        have h1:=hk d b1 _ e3 (zmr r1 q1 e2)
        unfold W.kitAny
        rw [h1]
        cases b1 with
        | true=>exact e
        | false=>exact zmm hk r2 q2 e
theorem z0i {tb:Kit} (T:KitOk X.K tb):CallM X (.builtin "isinstance") (zjq tb):=by
  refine CallM.of fun pins s σ H xs us Q I r ρ ds μ d μ' r1 R e k=>?_
  unfold zjq at e
  split at e
  · rename_i x c cs
    obtain ⟨kd,e1,e⟩:=zf e
    obtain ⟨b,e2,e⟩:=zf e
    cases e
    obtain ⟨v,rr,rfl,q1,q2⟩:=r1.cons_inv
    obtain ⟨v2,rr2,rfl,q3,q4⟩:=q2.cons_inv
    rw [q4.nil_inv] at r
    cases r with
    | cons ra rb =>
      cases rb with
      | cons rc rd =>
        cases rd
        obtain ⟨a,vs,rfl,e3,rt⟩:=q3.tup_inv
        cases rc
        have hne:∃ d b,tb.lookup (kd,d)=some b:=by
          unfold zMj at e2
          cases e4:zNu tb kd c with
          | none=>rw [e4] at e2;cases e2
          | some b1=>obtain ⟨d,_,e5⟩:=zf e4;exact ⟨d,b1,e5⟩
        obtain ⟨t,P,Z,hp,hu,hk⟩:=z4n I R q1 ra e1 T hne
        obtain ⟨its,rv,⟨o,ho,hc,n,hd⟩,_⟩:=I.tuple (SqT.of e3)
        obtain ⟨oc,od,odt,osl⟩:=o
        cases hc
        cases hd
        exact W.kia_tup Z I.kIn hp ho (zmm hk rt rv e2) hu fun tk=>⟨.bl _,H,I.tok tk,rfl,k ρ H _ Ext.refl R .bl⟩
  · rename_i x c _
    obtain ⟨kd,e1,e⟩:=zf e
    obtain ⟨b,e2,e⟩:=zf e
    cases e
    obtain ⟨v,rr,rfl,q1,q2⟩:=r1.cons_inv
    obtain ⟨v2,rr2,rfl,q3,q4⟩:=q2.cons_inv
    rw [q4.nil_inv] at r
    cases r with
    | cons ra rb =>
      cases rb with
      | cons rc rd =>
        cases rd
        obtain ⟨d,e4,e5⟩:=zf e2
        obtain ⟨t,P,Z,hp,hu,hk⟩:=z4n I R q1 ra e1 T ⟨d,b,e5⟩
        exact W.kia_one Z I.kIn hp (hk d b _ e5 (zmr q3 rc e4)) hu fun tk=>⟨.bl _,H,I.tok tk,rfl,k ρ H _ Ext.refl R .bl⟩
  · cases e
end
section
variable {K:W.Frag} {D0:Addr} {tb:List (Str×Bool)} {kt:Kit}
theorem Subs.nil:Subs K D0 []:=fun c b h=>by cases h
theorem Subs.cons {c:Str} {C:Addr} {b:Bool} (hc:W.nsIn K mainGlobals c=some (some (.ref C))) (k:W.ktsIn K C "BaseException" = true) (m:W.mroIn K C (.ref D0)=some b) (r:Subs K D0 tb):Subs K D0 ((c,b) :: tb):=fun c' b' h C' hC'=>by
  unfold List.lookup at h
  split at h
  · rename_i e
    cases h
    rw [beq_iff_eq.mp e,hc] at hC'
    cases hC'
    exact ⟨k,m⟩
  · exact r c' b' h C' hC'
theorem KitOk.nil:KitOk K []:=⟨fun _ _ _ h=>by (cases h),fun _ _ _ h=>by (cases h),fun _ _ _ _ h=>by (cases h)⟩
theorem KitOk.some {c:Str} {C:Addr} {d:CN} {b:Bool} (hc:W.nsIn K mainGlobals c=Option.some (Option.some (.ref C))) (a:W.AskC K C) (h:∀ v,zct K d v→W.kitOne K (.ref C) v=Option.some b) (r:KitOk K kt):KitOk K (((Option.some c,d),b) :: kt) where
  non:=fun d' b' v e=>by
    unfold List.lookup at e
    split at e
    · rename_i z
      have z:=beq_iff_eq.mp z
      cases z
    · exact r.non d' b' v e
  ask:=fun c' d' b' e C' hC'=>by
    unfold List.lookup at e
    split at e
    · rename_i z
      have z:=beq_iff_eq.mp z
      cases z
      rw [hc] at hC'
      cases hC'
      exact a
    · exact r.ask c' d' b' e C' hC'
  exc:=fun c' d' b' v e q C' hC'=>by
    unfold List.lookup at e
    split at e
    · rename_i z
      cases e
      have z:=beq_iff_eq.mp z
      cases z
      rw [hc] at hC'
      cases hC'
      exact h v q
    · exact r.exc c' d' b' v e q C' hC'
theorem zxc {d:Str} {a:Addr} {P:Value→Prop} (h:W.nsIn K mainGlobals d=some (some (.ref a))) (p:P (.ref a)):∀ v,zct K (.own d) v→P v:=fun v ⟨a',h',e⟩=>by
  rw [h] at h'
  cases h'
  rw [e]
  exact p
theorem zgu {n:String} {P:Value→Prop} (p:P (.type n)):∀ v,zct K (.ty n) v→P v:=fun v e=>by
  cases e
  exact p
end
structure MSsl (X:Cx) (sts:List Stmt) (ψ:FS):Prop where
  h:MSs X sts ψ
end M
namespace PySem
open Sem (wp)
section
variable {prog:Program} {w:World} {A:Around} {E:Value→Shared→Prop} {h:Heap} {g:Array GenState} {d:Drawn} {t:Nat} {os:OsState}
variable {nm q:Str} {C N fI:Addr} {bs bm bmB:List Value} {hdct:Bool} {sn:List Str} {sub:List Value} {ab:Bool} {col:Option Bool} {dd:Option Addr} {k0 k1 k2 k3 k5:Option Value} {B newId initId:String}
noncomputable abbrev zff (h:Heap) (C:Addr) (rest:List Value):Heap:=(h.push { cls := .type "tuple",data := .seq rest.toArray }).push { cls := .ref C,data := .fields #[.ref h.objs.size, .none, .none, .none, .bool false, .none] }
theorem zpg (F:ExcBaseFacts B newId initId bmB) (T:OwnTail h bmB bm) {rest:List Value} {Q:Fin→Shared→Prop}
    (hC:h.get? C=some (excClassObj nm q C N bs bm hdct sn sub ab col dd k0 k1 k2 k3 k5 newId)) (L:W.Looks (model prog w) h (typeLookup (.ref C) "__init__") (some (.ref fI))) (LB:∀ self,W.Looks (model prog w) h (bindSpecial (.ref fI) self) (.ref fI,[self]))
    (hq:wpAny (model prog w) A (call (.ref fI) (.ref (h.objs.size+1) :: rest)) (fun v s'=>v = .none∧Q (.done (.ret (.ref (h.objs.size+1)))) s') E ⟨zff h C rest,g,d,t,os⟩) (hrest:rest.length≤sizeLine:=by size_fits) :
    wpAny (model prog w) A (Builtin.«type.__call__» ⟨.ref C :: rest,[]⟩) Q E ⟨h,g,d,t,os⟩:=by
  repeat (first | with_reducible refine wpAny_loadPart_at hC ?_ | with_reducible refine wpAny_madeBy_exc hC ?_ | wp_step)
  refine codeAny_call_builtin_code (Code.quiet_builtin _ F.quiet) (wpAny_check_new_subT F T hC ?_)
  refine codeAny_exc_new_subT F T hC ?_ hrest
  show wpAny _ _ _ _ _ _
  have k:∀ b o,h.get? b=some o→(zff h C rest).get? b=some o:=fun b o e=>Heap.get?_push_of_some _ (Heap.get?_push_of_some _ e)
  have hC₁:=k _ _ hC
  have hget:(zff h C rest).get? (h.objs.size+1)=some { cls := .ref C,data := .fields #[.ref h.objs.size, .none, .none, .none, .bool false, .none] }:=by heap_get
  have hcC:(Value.ref C :: bm).contains (.ref C)=true:=by simp
  have T₁:=T.keeps k
  unfold isInstance
  repeat (first | with_reducible refine wpAny_loadPart_at hget ?_ | (with_reducible refine wpAny_isSubtype_exc hC₁ ?_;rw [hcC]) | wp_step)
  show wpAny _ _ (typeLookup (.ref C) _) _ _ _
  refine L _ _ _ _ k ?_
  refine wpAny_holding (wpAny_bind (LB _ _ _ _ _ k ?_))
  refine wpAny_bind (wpAny_mono hq (fun v s' hv=>?_) fun _ _ x=>x)
  obtain ⟨rfl,hv⟩:=hv
  repeat wp_step
  exact hv
theorem zLk (F:ExcBaseFacts B newId initId bmB) (T:OwnTail h bmB bm) {rest:List Value} {Q:Value→Shared→Prop}
    (hC:h.get? C=some (excClassObj nm q C N bs bm hdct sn sub ab col dd k0 k1 k2 k3 k5 newId)) (L:W.Looks (model prog w) h (typeLookup (.ref C) "__init__") (some (.ref fI))) (LB:∀ self,W.Looks (model prog w) h (bindSpecial (.ref fI) self) (.ref fI,[self]))
    (hq:wpAny (model prog w) (A.under (.builtin "type.__call__" ⟨.ref C :: rest,[]⟩)) (call (.ref fI) (.ref (h.objs.size+1) :: rest)) (fun v s'=>v = .none∧Q (.ref (h.objs.size+1)) s') E ⟨zff h C rest,g,d,t,os⟩) (hrest:rest.length≤sizeLine:=by size_fits) :
    wpAny (model prog w) A (call (.ref C) rest) Q E ⟨h,g,d,t,os⟩:=by
  have f1:=tc_lookup
  have f2:=tc_bind (.ref C)
  have hT:(⟨h,g,d,t,os⟩:Shared).TypeIs (.ref C) "type":=⟨_,hC,rfl⟩
  refine wpAny_call (codeAny_of_tree ?_)
  show wpAny _ _ (callAny (.ref C) _) _ _ _
  repeat (any_goals (first | assumption | with_reducible refine wpAny_loadPart_at hC ?_ | wp_step))
  refine ⟨rfl,?_⟩
  refine codeAny_call_builtin_at (Code.quiet_builtin _ (by decide +kernel)) entry_typeCall (wpAny_check_type_call_sub hC (zpg (hrest:=hrest) F T hC L LB ?_))
  exact hq
theorem zBd {M:Model} {s:Shared} {env:Env} {x:Sem Value} {Q:Flow→Shared→Prop} (hbase:bm.contains (.type "BaseException")=true) (hh:A.handled=none)
    (h:wpAny M A x (fun v s₁=>∃ e de te,v = .ref e∧s₁.heap.get? C=some (excClassObj nm q C N bs bm hdct sn sub ab col dd k0 k1 k2 k3 k5 newId)∧s₁.heap.get? e=some { cls := .ref C,dict:=de,data := .fields #[.ref te, .none, .none, .none, .bool false, .none] }∧E (.ref e) s₁) E s) :
    wpAny M A (raiseStmt env (some x) none) Q E s:=by
  have hcB:(Value.ref C :: bm).contains (.type "BaseException")=true:=by rw [List.contains_cons,hbase,Bool.or_true]
  unfold raiseStmt
  refine wpAny_bind (wpAny_mono h (fun v s₁ h₁=>?_) fun _ _ x=>x)
  obtain ⟨e,de,te,rfl,hC,he,hE⟩:=h₁
  obtain ⟨hp,g,d,tk,os⟩:=s₁
  repeat (first | with_reducible refine wpAny_loadPart_at he ?_ | with_reducible refine wpAny_loadPart_at hC ?_ | (with_reducible refine wpAny_isSubtype_exc hC ?_;rw [hcB]) | wp_step)
  exact wpAny_raiseNew_none hh hE
end
section
variable {prog:Program} {w:World} {A:Around} {E:Value→Shared→Prop} {s:Shared} {env:Env}
variable {nm q:Str} {C N fI:Addr} {bs bm bmB:List Value} {hdct:Bool} {sn:List Str} {sub:List Value} {ab:Bool} {col:Option Bool} {dd:Option Addr} {k0 k1 k2 k3 k5:Option Value} {B newId initId:String}
theorem zPi (F:ExcBaseFacts B newId initId bmB) {x:Str} {np cpos pos:Pos} {args:List Expr} {Q:Flow→Shared→Prop}
    (hbase:bm.contains (.type "BaseException")=true) (hh:A.handled=none) (hplain:(backTo cpos (starEach args env)).any (·.1)=false)
    (h:wpAny (model prog w) A (eval (.Name x np) env) (fun f s₁=>f = .ref C∧wpAny (model prog w) A (evalArgs (.ref C) true (backTo cpos (starEach args env)) [])
      (fun a s₂=>a.kw = []∧a.pos.length≤sizeLine∧s₂.heap.get? C=some (excClassObj nm q C N bs bm hdct sn sub ab col dd k0 k1 k2 k3 k5 newId)∧W.Looks (model prog w) s₂.heap (typeLookup (.ref C) "__init__") (some (.ref fI))∧OwnTail s₂.heap bmB bm∧(∀ self,W.Looks (model prog w) s₂.heap (bindSpecial (.ref fI) self) (.ref fI,[self])) ∧
        wpAny (model prog w) (A.under (.builtin "type.__call__" ⟨.ref C :: a.pos,[]⟩)) (call (.ref fI) (.ref (s₂.heap.objs.size+1) :: a.pos)) (fun v s₃=>v = .none∧s₃.heap.get? C=some (excClassObj nm q C N bs bm hdct sn sub ab col dd k0 k1 k2 k3 k5 newId) ∧
          (∃ de te,s₃.heap.get? (s₂.heap.objs.size+1)=some { cls := .ref C,dict:=de,data := .fields #[.ref te, .none, .none, .none, .bool false, .none] })∧E (.ref (s₂.heap.objs.size+1)) s₃) E { s₂ with heap:=zff s₂.heap C a.pos }) E s₁) E s) :
    wpAny (model prog w) A (exec (.Raise (some (.Call (.Name x np) args [] cpos)) none pos) env) Q E s:=by
  rw [arm_exec_Raise]
  first
    | refine wpAny_bind (wpAny_standAt (zBd (C:=C) (nm:=nm) (q:=q) (N:=N) (bs:=bs) (bm:=bm) (hdct:=hdct) (sn:=sn) (sub:=sub) (ab:=ab) (col:=col) (dd:=dd) (k0:=k0) (k1:=k1) (k2:=k2) (k3:=k3) (k5:=k5) (newId:=newId) hbase hh (wpAny_bind (wpAny_mono (wpAny_Call_ofName (wpAny_mono h (fun f s₁ h₁=>?_) fun _ _ x=>x)) (fun v s₃ h₃=>wpAny_bind (wpAny_standAt (wpAny_pure h₃))) fun _ _ x=>x))))
    | (simp only [evalOpt,Option.map];refine wpAny_bind (wpAny_standAt (zBd (C:=C) (nm:=nm) (q:=q) (N:=N) (bs:=bs) (bm:=bm) (hdct:=hdct) (sn:=sn) (sub:=sub) (ab:=ab) (col:=col) (dd:=dd) (k0:=k0) (k1:=k1) (k2:=k2) (k3:=k3) (k5:=k5) (newId:=newId) hbase hh (wpAny_bind (wpAny_mono (wpAny_Call_ofName (wpAny_mono h (fun f s₁ h₁=>?_) fun _ _ x=>x)) (fun v s₃ h₃=>wpAny_bind (wpAny_standAt (wpAny_pure h₃))) fun _ _ x=>x)))))
    | (refine wpAny_bind (wpAny_standAt (zBd (C:=C) (nm:=nm) (q:=q) (N:=N) (bs:=bs) (bm:=bm) (hdct:=hdct) (sn:=sn) (sub:=sub) (ab:=ab) (col:=col) (dd:=dd) (k0:=k0) (k1:=k1) (k2:=k2) (k3:=k3) (k5:=k5) (newId:=newId) hbase hh ?_));refine wpAny_bind (wpAny_mono (wpAny_Call_ofName (wpAny_mono h (fun f s₁ h₁=>?_) fun _ _ x=>x)) (fun v s₃ h₃=>wpAny_bind (wpAny_standAt (wpAny_pure h₃))) fun _ _ x=>x))
  obtain ⟨rfl,h₁⟩:=h₁
  unfold callWith
  refine wpAny_bind (wpAny_holding (wpAny_mono h₁ (fun a s₂ h₂=>wpAny_bind (wpAny_standAt ?_)) fun _ _ x=>x))
  obtain ⟨apos,akw⟩:=a
  obtain ⟨hkw,hlen,hC,L,T,LB,h₂⟩:=h₂
  obtain rfl:akw = []:=hkw
  obtain ⟨hp,g,d,tk,os⟩:=s₂
  simp only [hplain]
  refine wpAny_bind (wpAny_keeperOf_exc hC ?_)
  refine wpAny_bind (zLk (hrest:=hlen) F T hC L LB ?_)
  refine wpAny_mono h₂ (fun v s₃ h₃=>?_) fun _ _ x=>x
  obtain ⟨rfl,hC3,⟨de,te,he⟩,hE⟩:=h₃
  exact ⟨rfl,wpAny_bind (wpAny_holding (wpAny_point (wpAny_pure ⟨_,de,te,rfl,hC3,he,hE⟩)))⟩
end
end PySem
namespace PySem
open Sem (wp)
section
variable {prog:Program} {w:World} {A:Around} {E:Value→Shared→Prop} {h:Heap} {g:Array GenState} {d:Drawn} {t:Nat} {os:OsState}
variable {nm q:Str} {C N:Addr} {bs bm bmB:List Value} {hdct:Bool} {sn:List Str} {sub:List Value} {ab:Bool} {col:Option Bool} {dd:Option Addr} {k0 k1 k2 k3 k5:Option Value} {B newId initId:String}
theorem zvp (F:ExcBaseFacts B newId initId bmB) (T:OwnTail h bmB bm) {e te:Addr} {de:Option Addr} {rest:List Value} {Q:Value→Shared→Prop}
    (hC:h.get? C=some (excClassObj nm q C N bs bm hdct sn sub ab col dd k0 k1 k2 k3 k5 newId)) (he:h.get? e=some { cls := .ref C,dict:=de,data := .fields #[.ref te, .none, .none, .none, .bool false, .none] })
    (hq:∀ h',(∀ b o,b≠e→h.get? b=some o→h'.get? b=some o)→h'.get? e=some { cls := .ref C,dict:=de,data := .fields #[.ref h.objs.size, .none, .none, .none, .bool false, .none] }→h.objs.size≤h'.objs.size→Q .none ⟨h',g,d,t,os⟩) (hrest:rest.length≤sizeLine:=by size_fits) :
    wpAny (model prog w) A (call (.builtin initId) (.ref e :: rest)) Q E ⟨h,g,d,t,os⟩:=by
  refine wpAny_call (codeAny_call_builtin F.init.plain F.initEntry (wpAny_check_init_subT F T hC he rfl ?_))
  wp_walk
  refine hq _ (fun b o hb eb=>?_) ?_ ?_
  · rw [Heap.get?_update_other _ _ (Ne.symm hb)]
    exact Heap.get?_push_of_some _ eb
  · rw [Heap.get?_update_self _ (Heap.get?_push_of_some _ he) rfl]
    rfl
  · simp
end
end PySem
namespace PySem.W
open PySem PySem.Spec PySem.Calls PyProof.Rows
open Builtin Builtin.ObjectAttr
noncomputable abbrev bmV:List Value:=[.type "ValueError", .type "Exception", .type "BaseException", .type "object"]
noncomputable def dropRefs:List Value→List Value
  | .ref _ :: r=>dropRefs r
  | l=>l
theorem zbr {v:Value} {r:List Value} (q:¬ ∃ c,v = .ref c):dropRefs (v :: r)=v :: r:=by
  unfold dropRefs
  split
  · rename_i z;cases z;exact absurd ⟨_,rfl⟩ q
  · rfl
theorem zLj (self:Value):∀ {l:List Value},dropRefs l=bmV→refuseLoop self "__setattr__" l=pure ()
  | [],h=>by cases h
  | v :: r,h=>by
    by_cases q:∃ c,v = .ref c
    · obtain ⟨c,rfl⟩:=q
      rw [refuseLoop_ref]
      exact zLj self (l:=r) h
    · rw [zbr q] at h
      rw [h]
      exact PySem.F.store_ValueError.passes self
theorem zAo:∀ {l:List Value},dropRefs l=bmV→l.contains (.type "object")=true∧l.isEmpty=false
  | [],h=>by cases h
  | v :: r,h=>by
    refine ⟨?_,rfl⟩
    by_cases q:∃ c,v = .ref c
    · obtain ⟨c,rfl⟩:=q
      rw [List.contains_cons,(zAo (l:=r) h).1,Bool.or_true]
    · rw [zbr q] at h
      rw [h]
      decide
section
variable {prog:Program} {w:World} {A:Around} {E:Value→Shared→Prop} {s:Shared} {K:Frag} {x C:Addr} {ox:Obj} {name:Str} {v:Value} {cd:ClassData}
theorem zWt {R:Result→Shared→Prop} {od:Option Obj} {tk:Tok} (X:K.In s.heap) (I:InstAt s.heap x ox C od) (hc:clsIn K C=some cd) (ho:dropRefs cd.mro=bmV) (ha:findIn K (.ref C) name=some none)
    (h:wpAny (model prog w) A.in1 (storeInOwnDict (.ref x) (.ref C) (.str name tk) name v false)
      (fun fin s'=>match fin with | .done f=>R (.ok f) s' | .again c'=>c'.quiet=true∧codeAny (model prog w) A c' R s') (fun e s'=>R (.error e) s') s) :
    codeAny (model prog w) A (.call (.builtin "object.__setattr__") ⟨[.ref x, .str name tk,v],[]⟩) R s:=by
  have SF:=PySem.F.store_object
  obtain ⟨h1,h2⟩:=zAo ho
  have sub:Looks (model prog w) s.heap (isInstance (.ref x) (.type "object")) true:=I.type.andThen (looks_mroIn X (by unfold mroIn;rw [hc,Option.bind_some,if_neg (by rw [h2];decide),h1]))
  refine codeAny_call_builtin SF.slot.plain SF.entry (@check_slot (model prog w) _ _ s "object.__setattr__" "object" "__setattr__" (.ref x) [.str name tk,v] [] _ SF.kind SF.split sub (SF.args (.ref x) (.str name tk) v) ?_)
  have hm:Looks (model prog w) s.heap (mroOf (.ref C)) cd.mro:=(looks_clsIn X hc).andThen .now
  rw [osa_eq,refuse_eq]
  refine wpAny_bind (wpAny_bind (I.type.here (wpAny_bind (hm.here ?_))))
  rw [zLj _ ho]
  refine wpAny_pure (wpAny_bind (I.type.here (wpAny_bind ((looks_findIn X ha).here (wpAny_bind (wpAny_pure (a:=none) ?_))))))
  exact h
theorem set_exc {Q:Unit→Shared→Prop} {vs:Array Value} (X:K.In s.heap) (I:InstAt s.heap x ox C none) (hdt:ox.data = .fields vs)
    (hs:findIn K (.ref C) "__setattr__" = some (some (.builtin "object.__setattr__"))) (hc:clsIn K C=some cd) (ho:dropRefs cd.mro=bmV) (hd:cd.hasDict=true) (ha:findIn K (.ref C) name=some none)
    (h:∀ (h':Heap) (p:Addr) (tk:Nat),h'.get? x=some { ox with dict:=some p }→h'.Ns1 p (fun y=>if y=name then some v else none)→s.heap.objs.size≤p→(∀ b o,b≠x→s.heap.get? b=some o→h'.get? b=some o)→Q () { s with heap:=h',toks:=tk }) :
    wpAny (model prog w) A (setAttr (.ref x) name v) Q E s:=by
  obtain ⟨hx,hcl,hno,hdd⟩:=id I
  obtain ⟨oc,odi,oda,osl⟩:=ox
  dsimp only at hcl hdt
  subst hcl hdt
  cases odi with
  | some dx=>exact hdd.elim
  | none =>
    refine set_plain X I hs (zWt (s:={ s with toks:=s.toks+1 }) X I hc ho ha ?_)
    refine wpAny_bind (wpAny_pure (wpAny_bind (wpAny_bind (wpAny_loadPart hx (wpAny_bind (Looks.here (s:={ s with toks:=s.toks+1 }) (looks_clsIn X hc) ?_))))))
    rw [hd]
    have hx₁:(s.heap.push { cls := .type "dict",data := .dict #[] }).get? x=some ⟨.ref C,none, .fields vs,osl⟩:=Heap.get?_push_of_some _ hx
    have hxs:x≠s.heap.objs.size:=Nat.ne_of_lt (Heap.lt_size hx)
    refine wpAny_bind (wpAny_alloc' ?_)
    refine wpAny_bind (wpAny_update' hx₁ ?_)
    refine wpAny_pure (a:=some s.heap.objs.size) ?_
    have hgd:((s.heap.push { cls := .type "dict",data := .dict #[] }).update x fun o=>{ cls:=o.cls,dict:=some s.heap.objs.size,data:=o.data,slots:=o.slots }).get? s.heap.objs.size
        = some { cls := .type "dict",data := .dict #[] } :=
      (Heap.get?_update_ne _ _ _ _ hxs.symm).trans (Heap.get?_push_at rfl rfl)
    have hnd:((s.heap.push { cls := .type "dict",data := .dict #[] }).update x fun o=>{ cls:=o.cls,dict:=some s.heap.objs.size,data:=o.data,slots:=o.slots }).Ns s.heap.objs.size (fun _=>none) :=
      ⟨_,#[],_,hgd,rfl,fun e he=>absurd he (by simp),fun _=>rfl⟩
    show wpAny _ _ (storeInDict s.heap.objs.size (.str name _) name v) _ _ _
    unfold storeInDict newKeyGuard
    refine wpAny_bind (wpAny_pure (wpAny_bind (wpAny_nsSet1 (Heap.Ns1.of_empty hnd) fun h' hn' hs'=>?_)))
    obtain ⟨oD,esD,epD,hoD,hdD,hcD⟩:=hn'.count (Within.cons name v Within.nil)
    refine wpAny_bind (wpAny_lookBehind hoD (by rw [hdD];exact pastItsLine_dict (Nat.le_trans hcD (by rw [length_cons,List.length_nil,sizeLine_eq];omega))) ?_)
    refine wpAny_pure ?_
    refine h h' s.heap.objs.size _ ?_ hn' (Nat.le_refl _) (fun b o hb q=>?_)
    · exact (hs'.2 x hxs).trans (Heap.get?_update_self _ hx₁ rfl)
    · exact (hs'.2 b (Nat.ne_of_lt (Heap.lt_size q))).trans ((Heap.get?_update_ne _ _ _ _ hb).trans (Heap.get?_push_of_some _ q))
variable {D:Addr} {odo:Option Obj}
theorem zQo {tk:Tok} {Q:Fin→Shared→Prop} (X:K.In s.heap) (I:InstAt s.heap x ox D odo) (e:findObj K D odo name=some (.value v)) (hq:Q (.done (.ret v)) s):wpAny (model prog w) A (Builtin.«object.__getattribute__» ⟨[.ref x, .str name tk],[]⟩) Q E s:=by
  have L0:=I.type (M:=model prog w)
  have L1:=looks_find (M:=model prog w) X I e
  obtain ⟨hh,g,d,t,os⟩:=s
  repeat (any_goals (first | assumption | with_reducible refine L0.at ?_ | with_reducible refine L1.at ?_ | wp_step))
theorem exc_load {expr:Bool} {Q:Value→Shared→Prop} (X:K.In s.heap) (I:InstAt s.heap x ox D odo) (c:AskC K D) (e:findObj K D odo name=some (.value v)) (hv:handedIn v=true) (h:Q v { s with toks:=s.toks+1 }):wpAny (model prog w) A (getAttr (.ref x) name expr) Q E s:=by
  have L0:=I.type (M:=model prog w)
  have L1:=looks_findIn (M:=model prog w) X c.ga
  have L2:=looks_findIn (M:=model prog w) X c.gk
  have f3:=F.excAttr_ValueError.ga.bind (.ref x)
  have hx2:(Value.builtin "BaseException.__getattribute__" == Value.builtin "object.__getattribute__")=false:=by decide +kernel
  have hx1:(onTheHeap (Value.ref D) && Value.builtin "BaseException.__getattribute__" == Value.builtin "object.__getattribute__")=false:=by rw [hx2];rfl
  obtain ⟨hh,g,d,t,os⟩:=s
  unfold getAttr getAttrBy
  repeat (any_goals (first | assumption | with_reducible refine L0.at ?_ | with_reducible refine L1.at ?_ | with_reducible refine L2.at ?_ | wp_step))
  rw [show (expr && onTheHeap (Value.builtin "BaseException.__getattribute__"))=false from Bool.and_false _,if_neg (by decide)]
  unfold boundAndCalled
  repeat (any_goals (first | assumption | with_reducible refine L0.at ?_ | with_reducible refine L1.at ?_ | with_reducible refine L2.at ?_ | wp_step))
  refine codeAny_call_builtin F.excAttr_ValueError.ga.plain F.entry_bexc_ga (z2l (s:=⟨hh,g,d,t+1,os⟩) X I c (zQo (s:=⟨hh,g,d,t+1,os⟩) X I e ?_))
  repeat (any_goals (first | assumption | wp_step))
  show wpAny _ _ (handedOut v) _ _ _
  rw [handedOut_of hv]
  exact wpAny_pure h
end
end PySem.W
namespace L2
open PySem PySem.Spec PyProof.Rows
theorem zMv {H:Hp} {a:Addr} {o:HO} (h:H a=some o):upd H a o=H:=by
  funext b
  unfold upd
  split
  · rename_i e
    rw [e,h]
  · rfl
noncomputable def era (H:Hp) (e:Addr):Hp:=fun b=>if b=e then none else H b
theorem zAg {H:Hp} {e b:Addr} (h:b≠e):era H e b=H b:=by unfold era;rw [if_neg h]
theorem zOh {H:Hp} {e:Addr}:era H e e=none:=by unfold era;rw [if_pos rfl]
section
variable {P:Program} {w:World} {fs ex:List Addr} {H H':Hp} {h h':Heap} {e:Addr} {φ:Heap→Prop}
theorem Un.era (u:Un fs ex H H' h h') (he:H e=none):Un fs ex H (era H' e) h h' where
  keep:=u.keep
  slot:=u.slot
  free:=fun b o q n hx=>by
    by_cases z:b=e
    · rw [z];exact zOh
    · rw [zAg z];exact u.free b o q n hx
  there:=u.there
  tups:=fun b xs q=>by rw [zAg (zq q he)];exact u.tups b xs q
  frzs:=fun b o v q=>by rw [zAg (zq q he)];exact u.frzs b o v q
  tbls:=fun b ps q=>by rw [zAg (zq q he)];exact u.tbls b ps q
theorem HOk.era (k:HOk P w H h) (he:H e=some (.ext φ)):HOk P w (era H e) h:=fun b o q=>by
  by_cases z:b=e
  · rw [z,zOh] at q;cases q
  · rw [zAg z] at q
    refine (k b o q).stay (fun _ _ _ r=>r) (fun c r=>?_) fun c xs r=>?_
    · rw [zAg fun y=>by rw [y,he] at r;cases r];exact r
    · rw [zAg fun y=>by rw [y,he] at r;cases r];exact r
end
end L2
namespace M
open PySem PySem.Spec PyProof.Rows L2
def zsl (a C:Addr) (dx:Option Addr):Heap→Prop:=fun h=>∃ te,h.get? a=some { cls := .ref C,dict:=dx,data := .fields #[.ref te, .none, .none, .none, .bool false, .none] }
theorem z2m {P:Program} {w:World} {H:Hp} {h:Heap} {a C:Addr} {dx:Option Addr} (x:zsl a C dx h):ObjOk P w H h a (.ext (zsl a C dx)):=by
  obtain ⟨te,e⟩:=x
  exact ⟨⟨te,e⟩,⟨_,e⟩,fun h1 h2 ⟨t,q⟩ k=>⟨t,k _ q⟩⟩
structure ExcI (K:W.Frag) (C NE fI:Addr) (f:Str):Prop where
  ob:∃ nm q N bs sn sub ab col dd k0 k1 k2 k3 k5,K.lookup C=some (excClassObj nm q C N bs (.ref NE :: W.bmV) true sn sub ab col dd k0 k1 k2 k3 k5 "ValueError.__new__")
  ini:W.findIn K (.ref C) "__init__" = some (some (.ref fI))
  fn:W.typeIn K (.ref fI)=some (.type "function")
  ne:W.excIn K NE W.bmV "ValueError.__new__" = true
  sa:W.findIn K (.ref C) "__setattr__" = some (some (.builtin "object.__setattr__"))
  at_:W.findIn K (.ref C) f=some none
  gt:W.specialIn K (.ref NE) "__getattribute__" = some (some (.builtin "type.__getattribute__"))
  rd:W.readsIn K NE (.type "type")=true
  fc:W.findCls K (.ref NE) (.type "type") "__init__" = some (.val (.builtin "ValueError.__init__"))
theorem ExcI.tail {K:W.Frag} {C NE fI:Addr} {f:Str} (Z:ExcI K C NE fI f) {h:Heap} (X:K.In h):OwnTail h W.bmV (.ref NE :: W.bmV):=by
  obtain ⟨bm,N,nm,qn,bs,hdct,sn,sub,ab,col,dd,k0,k1,k2,k3,k5,mN,hC,hN,hni,T⟩:=zxq X Z.ne
  exact .own hC hN hni .base
section
variable {X:Cx} {v o value:Expr} {e:Expr} {es:List Expr} {tv ta:TE} {t:TA} {C NE fI:Addr} {f:Str} {np apos pos pos' p1 p2 p3 p4:Pos} {x1 x2:Str} {j1 j2:Nat}
theorem zSt (Z:ExcI X.K C NE fI f) (hm:X.mg "NestError" = some (.ref NE)) (ha:PA X (e :: es) t) {pl:Sem Bool} (hg:Gl X "NestError":=by rfl)
    (hst:starEach (e :: es) X.env=(false,eval e X.env) :: starEach es X.env:=by rfl) (hpl:(backTo pos (starEach es X.env)).any (·.1)=false:=by rfl)
    (ht:eval (.Call (.Attribute (.Name "NestError" np) "__init__" apos) (e :: es) [] pos) X.env=(do
      let ov ← eval (.Name "NestError" np) X.env
      standAt apos.atName
      let (f,first) ← holding [ov] (getMethod ov "__init__" pl)
      callWith pos f first (backTo pos (starEach (e :: es) X.env)) (backToKw pos (keywordEach [] X.env))):=by rfl) :
    PE X (.Call (.Attribute (.Name "NestError" np) "__init__" apos) (e :: es) [] pos) (fun σ H Q=>t σ H fun vs H1=>∃ a x,vs = [.ref a,x]∧H1 a=some (.ext (zsl a C none))∧Q .non H1):=by
  intro pins s σ H Q I h
  refine W.methodCall_KW (pl:=pl) (zJg I hg hm ?_ (by decide)) ht
  refine W.method_cls I.kIn Z.gt (W.cls_value I.kIn Z.rd Z.fc (by decide +kernel) ?_)
  refine PyProof.Rows.callWith_builtin1 (thn (ha pos pins _ σ H _ (I.tok _) h) fun us s1 ⟨vs,H1,I1,r1,a,x,ev,ea,q⟩=>?_) hst hpl
  subst ev
  obtain ⟨u1,u2,rfl,ra,rx⟩:=vals2 r1
  obtain rfl:u1=Value.ref a:=ra
  obtain ⟨⟨te,ho⟩,_,_⟩:=(show ObjOk X.prog X.w H1 s1.heap a (.ext (zsl a C none)) from I1.hok a _ ea)
  obtain ⟨nm,qn,N,bs,sn,sub,ab,col,dd,k0,k1,k2,k3,k5,lk⟩:=Z.ob
  have T:=Z.tail I1.kIn
  have hC:=I1.kIn _ _ lk
  obtain ⟨hp,g,d,tk,os⟩:=s1
  refine zvp PySem.F.excBase_ValueError T hC ho (fun h' keep he hsz=>?_) (show 1≤sizeLine by rw [sizeLine_eq];decide)
  refine ⟨.non,H1,?_,rfl,q⟩
  have J:=I1.write (x:=a) (e:=a) (o := .ext (zsl a C none)) (h':=h') (t':=tk) (by rw [ea];trivial) (.inl rfl) keep ⟨_,he⟩ (z2m ⟨_,he⟩)
  rwa [zMv ea] at J
theorem zXq (Z:ExcI X.K C NE fI f) (ho:PE X o ta) (hv:PE X value tv) (hs:swapsWith value (some (.Attribute o f pos')) pos.line X.env=pure false:=by rfl) :
    PS X (.Assign [.Attribute o f pos'] value pos) (fun D σ H=>tv σ H fun y H1=>ta σ H1 fun x H2=>∃ a,x = .ref a∧H2 a=some (.ext (zsl a C none))∧∀ p,H2 p=none→p≠a→D.nx σ (upd (upd H2 p (.xd [(f,y)])) a (.ext (zsl a C (some p))))):=by
  intro pins s σ H D I h
  refine plainObj_wpAny_Assign_Attribute (thn (hv pins s σ H _ I h) fun u s1 ⟨y,H1,I1,ry,q⟩=>thn (ho pins s1 σ H1 _ I1 q) fun ov s2 ⟨x,H2,I2,rx,a,ex,ea,q2⟩=>?_) hs
  subst ex
  obtain rfl:ov=Value.ref a:=rx
  obtain ⟨⟨te,hob⟩,_,_⟩:=(show ObjOk X.prog X.w H2 s2.heap a (.ext (zsl a C none)) from I2.hok a _ ea)
  obtain ⟨nm,qn,N,bs,sn,sub,ab,col,dd,k0,k1,k2,k3,k5,lk⟩:=Z.ob
  obtain ⟨cd,hc,hmro,hhd⟩:∃ cd,W.clsIn X.K C=some cd∧W.dropRefs cd.mro=W.bmV∧cd.hasDict=true:=by
    unfold W.clsIn
    rw [lk]
    exact ⟨_,rfl,rfl,rfl⟩
  refine W.set_exc I2.kIn ⟨hob,rfl,rfl,trivial⟩ rfl Z.sa hc hmro hhd Z.at_ fun h' p tk he hn hp keep=>⟨σ,_,?_,q2 p (I2.hok.fresh hp) ?_⟩
  · have hpn:H2 p=none:=I2.hok.fresh hp
    have hpa:p≠a:=fun z=>absurd (Nat.lt_of_lt_of_le (Heap.lt_size hob) (z▸hp)) (Nat.lt_irrefl _)
    have hpg:∀ b ob,s2.heap.get? b=some ob→b≠p:=fun b ob r z=>absurd (Nat.lt_of_lt_of_le (Heap.lt_size r) (z▸hp)) (Nat.lt_irrefl _)
    have hup:∀ b,b≠a→b≠p→upd (upd H2 p (.xd [(f,y)])) a (.ext (zsl a C (some p))) b=H2 b:=fun b n1 n2=>by rw [zw n1,zw n2]
    have ne_a:∀ b ob,H2 b=some ob→(∀ φ,ob≠.ext φ)→b≠a:=fun b ob r n z=>by rw [z,ea] at r;cases r;exact n _ rfl
    have ne_p:∀ b ob,H2 b=some ob→b≠p:=fun b ob r=>zq r hpn
    refine I2.un (t':=tk) ⟨?_,?_,?_,?_,?_,?_,?_⟩ ?_
    · exact fun b ob r n _ _=>keep b ob (fun z=>by rw [z,ea] at n;cases n) r
    · exact fun b ob r n _ _=>⟨ob.slots,keep b ob (fun z=>by rw [z,ea] at n;cases n) r⟩
    · exact fun b ob r n _=>by rw [hup b (fun z=>by rw [z,ea] at n;cases n) (hpg b ob r)];exact n
    · exact fun b ob r _=>by
        by_cases z:b=a
        · exact ⟨_,by rw [z];exact he⟩
        · exact ⟨_,keep b ob z r⟩
    · exact fun b xs r=>by rw [hup b (ne_a b _ r fun _ z=>by cases z) (ne_p b _ r)];exact r
    · exact fun b ob w r=>by rw [hup b (ne_a b _ r fun _ z=>by cases z) (ne_p b _ r)];exact r
    · exact fun b ps r=>⟨#[],by rw [hup b (ne_a b _ r fun _ z=>by cases z) (ne_p b _ r),Array.append_empty];exact r⟩
    · intro b ob r
      by_cases z:b=a
      · subst z
        rw [zo] at r
        cases r
        exact z2m ⟨te,he⟩
      · by_cases z2:b=p
        · subst z2
          rw [zw z,zo] at r
          cases r
          refine ⟨_,hn,fun g=>?_⟩
          by_cases zg:g=f
          · have hb:(g == f)=true:=beq_iff_eq.mpr zg
            simp only [List.lookup,hb,if_pos zg]
            exact ry
          · have hb:(g == f)=false:=beq_eq_false_iff_ne.mpr zg
            simp only [List.lookup,hb,if_neg zg]
            trivial
        · rw [hup b z z2] at r
          refine (I2.hok b ob r).stay (fun c w hc r'=>keep c w (fun z3=>?_) r') (fun c r'=>?_) fun c xs r'=>?_
          · subst z3
            rcases hc with hc | hc
            · exact z hc.symm
            · rw [ea] at hc;cases hc
          · rw [hup c (ne_a c _ r' fun _ z=>by cases z) (ne_p c _ r')];exact r'
          · rw [hup c (ne_a c _ r' fun _ z=>by cases z) (ne_p c _ r')];exact r'
  · exact fun z=>absurd (Nat.lt_of_lt_of_le (Heap.lt_size hob) (z▸hp)) (Nat.lt_irrefl _)
end
theorem zpq {n:Int} (h:n.natAbs<1000000):n.natAbs.log2<1920:=by
  by_cases z:n.natAbs=0
  · rw [z];decide
  · exact (Nat.log2_lt z).mpr (Nat.lt_of_lt_of_le h (Nat.le_trans (by decide:1000000≤2 ^ 20) (Nat.pow_le_pow_right (by decide) (by decide))))
section
variable {X:Cx} {x:Str} {e:Expr} {np cpos pos:Pos} {C NE fI:Addr} {f:Str} {k:Nat} {fd:FuncData} {ps:List Str} {φ:FA}
theorem flyI {pins:List (Addr×Obj)} {σ:L2.St} {H H2:Hp} {s s':Shared} {a p te:Addr} (I:Inv X pins σ H s) (I3:Inv X pins σ H2 s') (hos:s'.os=s.os) (un:Un (frs X.stack) [] H H2 s.heap s'.heap) (ha:s.heap.objs.size≤a) (h2:∃ φ,H2 a=some (.ext φ))
    (he:s'.heap.get? a=some { cls := .ref C,dict:=some p,data := .fields #[.ref te, .none, .none, .none, .bool false, .none] }):FlyX X.prog X.w X.stack H s (.ref C) (some p) (era H2 a) (.ref a) s':=by
  have hn:H a=none:=I.hok.fresh ha
  obtain ⟨φ,h2⟩:=h2
  have hin:∀ env∈X.stack,∀ b,env.frame=some b→b∈a :: frs X.stack:=fun env he b hb=>mem_cons_of_mem _ (List.mem_filterMap.mpr ⟨env,he,hb⟩)
  refine ⟨hos,I3.bare,un.era hn,I3.hok.era h2,a,W.hideAll s'.heap (a :: frs X.stack),rfl,⟨fun b o q=>W.of_hideAll _ q,W.hideAll_none _ mem_cons_self,W.funFrames_hide I3.stack hin,⟨_,_,_,he,rfl,rfl,rfl,rfl, .inl rfl⟩⟩,?_⟩
  refine ⟨fun b o q=>?_,fun b o q hb=>?_⟩
  · by_cases z:b=a
    · rw [z,zOh] at q;cases q
    · rw [zAg z] at q
      obtain ⟨u,hu⟩:=(I3.hok b o q).there
      refine ⟨u,W.hideAll_get _ hu fun hm=>?_⟩
      rcases List.mem_cons.mp hm with hm | hm
      · exact z hm
      · rw [I3.stkFree b hm] at q;cases q
  · obtain ⟨u,hu⟩:=un.there b o q (by simp)
    refine ⟨u,W.hideAll_get _ hu fun hm=>?_⟩
    rcases List.mem_cons.mp hm with hm | hm
    · exact absurd (Nat.lt_of_lt_of_le (Heap.lt_size q) (hm▸ha)) (Nat.lt_irrefl _)
    · exact hb hm
end
structure AtC (K:W.Frag) (c f:Str):Prop where
  ok:∀ C,W.nsIn K mainGlobals c=some (some (.ref C))→W.AskC K C∧W.findIn K (.ref C) f=some none∧W.hasDictIn K C=true
@[simp] noncomputable def fAt (c f:Str) (φ:FE):FE:=fun δ μ=>(φ δ μ).bind fun p=>match p.1 with
  | .loc n=>match p.2[n]? with
    | some (.exc c' fs)=>if c'=c then (fs.lookup f).bind fun d=>some (d,p.2) else none
    | _=>none
  | _=>none
theorem znj {K:W.Frag} {ρ:List Addr} {H:Hp} {f:Str} {d:D}:∀ {fs:List (Str×D)} {vs:List (Str×V)},vs.map (·.1)=fs.map (·.1)→RepVs K ρ H (fs.map (·.2)) (vs.map (·.2))→fs.lookup f=some d→∃ v,vs.lookup f=some v∧RepV K ρ H d v
  | [],_,_,_,h=>by cases h
  | (g,d0) :: fs,[],e,_,_=>by cases e
  | (g,d0) :: fs,(g',v0) :: vs,e,r,h=>by
    simp only [map_cons,List.cons.injEq] at e
    obtain ⟨rfl,e⟩:=e
    obtain ⟨v,rr,e2,q1,q2⟩:=r.cons_inv
    simp only [map_cons,List.cons.injEq] at e2
    obtain ⟨rfl,rfl⟩:=e2
    unfold List.lookup at h ⊢
    split at h
    · cases h;exact ⟨_,rfl,q1⟩
    · exact znj e q2 h
theorem zYt {c f:Str} {φ:FE} {δ:Loc} {μ μ':Mem} {d:D} (h:fAt c f φ δ μ = some (d,μ')):∃ n fs,φ δ μ = some (.loc n,μ')∧μ'[n]?=some (.exc c fs)∧fs.lookup f=some d:=by
  obtain ⟨⟨d1,μ1⟩,e1,h2⟩:=zf h
  clear h
  cases d1 with
  | loc n =>
    replace h2:(match μ1[n]? with
      | some (.exc c' fs)=>if c'=c then (fs.lookup f).bind fun d=>some (d,μ1) else none
      | _=>none)=some (d,μ'):=h2
    cases hm:μ1[n]? with
    | none=>rw [hm] at h2;cases h2
    | some o =>
      rw [hm] at h2
      cases o with
      | exc c' fs =>
        by_cases hc:c'=c
        · subst hc
          simp only [if_true] at h2
          obtain ⟨d2,e2,h3⟩:=zf h2
          cases h3
          exact ⟨n,fs,e1,hm,e2⟩
        · simp only [if_neg hc] at h2
          cases h2
      | lst _=>cases h2
      | dct _=>cases h2
      | dcf _=>cases h2
  | _=>cases h2
theorem zRu {X:Cx} {o:Expr} {pos:Pos} {c f:Str} {φ:FE} (Z:AtC X.K c f) (ho:ME X o φ) (hb:attributeBase o f X.env (eval o X.env)=eval o X.env:=by rfl):ME X (.Attribute o f pos) (fAt c f φ):=by
  intro pins s σ H Q I ⟨ρ,δ,μ,d,μ1,A,eo,kk⟩
  obtain ⟨n,fs,e1,hm,e2⟩:=zYt eo
  refine zwt hb (thn (ho pins s σ H (fun v H1=>∃ a ρ1,v = .ref a∧ρ1[n]?=some a∧Ext ρ H ρ1 H1∧RepH X.K ρ1 H1 μ1) I ⟨ρ,δ,μ, .loc n,μ1,A,e1,fun ρ1 H1 v x1 R1 r1=>by
    obtain ⟨a,rfl,e3⟩:=r1.loc_inv
    exact ⟨a,ρ1,rfl,e3,x1,R1⟩⟩) fun u s1 ⟨v,H1,I1,r1,a,ρ1,ev,e3,x1,R1⟩=>?_)
  subst ev
  obtain rfl:u=Value.ref a:=r1
  obtain ⟨C,dx,hn,hH,hX⟩:=R1.at_ _ _ _ e3 hm
  obtain ⟨⟨ob,vs,h1,h2,h3,h4⟩,_,_⟩:=(show ObjOk X.prog X.w H1 s1.heap a (.ext (zUm a C dx)) from I1.hok a _ hH)
  obtain ⟨Zc,Zf,Zd⟩:=Z.ok C hn
  rcases hX with ⟨hfs,_⟩ | ⟨p,ws,rfl,hp,hk,hr⟩
  · rw [hfs] at e2;cases e2
  · obtain ⟨w1,l1,rw1⟩:=znj hk hr e2
    obtain ⟨mA,hns,hro⟩:=(show ObjOk X.prog X.w H1 s1.heap p (.xd ws) from I1.hok p _ hp)
    obtain ⟨u1,hu1,ru1⟩:=RelO.some_of (v:=w1) (o:=mA f) (by rw [← l1];exact hro f)
    obtain ⟨od,hod,hl⟩:=zol hns
    have J:W.InstAt s1.heap a ob C (some od):=⟨h1,h2,by unfold W.notCls;rw [h4],by rw [h3];exact hod⟩
    exact W.exc_load I1.kIn J Zc (W.findObj_own Zd Zf rfl (by rw [hl,hu1])) (zfr ru1) ⟨w1,H1,I1.tok _,ru1,kk ρ1 H1 w1 x1 R1 rw1⟩
noncomputable def zHt (s:Stmt):Stmt:=match s with
  | .ClassDef _ _ _ b _ _ _ _ _ _ _=>b.getD 0 (.Pass ⟨0,0,0,0⟩)
  | _ => .Pass ⟨0,0,0,0⟩
structure IniAt (K:W.Frag) (mg:Str→Option Value) (c f qual:Str) (st:Stmt) (ps:List Str) (C NE fI:Addr) (fd:FuncData):Prop where
  nm:W.nsIn K mainGlobals c=some (some (.ref C))
  ne:mg "NestError" = some (.ref NE)
  ex:ExcI K C NE fI f
  fn:Fun K "__init__" qual st fI fd
  bd:Binds K fd ps []
def z9e (ns:List Int):Prop:=ns.length≤1000∧∀ n∈ns,n.natAbs<1000000
theorem zYj:∀ ns:List Int,(∀ n∈ns,n.natAbs<1000000)→PyData.showableAll (ns.map PyData.int)=true∧PyData.hasDictAll (ns.map PyData.int)=false∧PyData.depthAll (ns.map PyData.int)=0∧PyData.leavesShortAll 30 (ns.map PyData.int)=true∧PyData.bulkAll (ns.map PyData.int)=ns.length
  | [],_=>⟨rfl,rfl,rfl,rfl,rfl⟩
  | n :: ns,h=>by
    obtain ⟨h1,h2,h3,h4,h5⟩:=zYj ns fun m hm=>h m (mem_cons_of_mem _ hm)
    have hl:=zpq (h n mem_cons_self)
    have hl2:n.natAbs.log2<20:=by
      by_cases z:n.natAbs=0
      · rw [z];decide
      · exact (Nat.log2_lt z).mpr (Nat.lt_of_lt_of_le (h n mem_cons_self) (by decide))
    have ht:=int_text_length_le (k:=20) (by decide) hl2
    have hs:(PyData.shown (.int n)).length≤30:=by
      simp only [PyData.shown]
      rw [PySem.ofString_length]
      omega
    refine ⟨?_,?_,?_,?_,?_⟩
    · simp only [map_cons,PyData.showableAll,PyData.showable,decide_eq_true hl,h1,Bool.and_self]
    · simp only [map_cons,PyData.hasDictAll,PyData.hasDict,h2,Bool.or_self]
    · simp only [map_cons,PyData.depthAll,PyData.depth,h3,Nat.max_self]
    · simp only [map_cons,PyData.leavesShortAll,PyData.leavesShort,decide_eq_true hs,h4,Bool.and_self]
    · simp only [map_cons,PyData.bulkAll,PyData.bulk,h5,length_cons]
      omega
theorem zvj {h:Heap}:∀ {ns:List Int} {its:List Value},Vals (ns.map V.int) its→ReadsAll h its (ns.map PyData.int) []
  | [],_,r=>by cases r;exact .nil
  | n :: ns,_,r=>by
    cases r with
    | cons r1 r2 =>
      obtain ⟨t,rfl⟩:=(show ∃ t,_=Value.int n t from r1)
      exact .cons (as:=[]) (bs:=[]) (.int n t) (zvj r2)
section
variable {X:Cx} {v:Expr} {tv:TE} {p1 p2 p4:Pos} {x1:Str} {j1:Nat}
theorem zOs (hv:PE X v tv) (hg:X.A.guards=some []) (hu:X.A.units+64<cLine) (h1:x1.length≤1000:=by decide) :
    PE X (.JoinedStr [.Constant (.str x1) j1 p1, .FormattedValue v 114 none p2] p4) (fun σ H Q=>tv σ H fun x H1=>∃ a ns,x = .ref a∧H1 a=some (.lst (ns.map V.int))∧z9e ns∧∀ y,Q (.str y) H1):=by
  intro pins s σ H Q I h
  have z0:(Str.empty:Str).length=0:=rfl
  refine wpAny_JoinedStr ?_
  show Joins _ _ _ [eval (.Constant (.str x1) j1 p1) X.env,eval (.FormattedValue v 114 none p2) X.env] _ _ _
  refine Calls.Constant_str ⟨x1,_,rfl,by rw [strLen_append,z0,sizeLine_eq];omega,?_⟩
  refine wpAny_FormattedValue_repr (thn (hv pins _ σ H _ (I.tok _) h) fun u s1 ⟨x,H1,I1,r1,a,ns,ex,ea,hs,q⟩=>?_)
  subst ex
  obtain rfl:u=Value.ref a:=r1
  obtain ⟨_,its,n,rv,ho⟩:=(show ObjOk X.prog X.w H1 s1.heap a (.lst (ns.map V.int)) from I1.hok a _ ea)
  obtain ⟨s1',s2',s3',s4',s5'⟩:=zYj ns hs.2
  have rd:Reads s1.heap (.ref a) (.list (ns.map PyData.int)) [a] := .list (as:=[]) ho rfl rfl (by rw [List.toList_toArray];exact zvj rv)
  have hz:(PyData.shown (.list (ns.map PyData.int))).length≤33000:=by
    have:=PyData.shown_le_bulk 30 (by decide) (.list (ns.map PyData.int)) (by simp only [PyData.leavesShort];exact s4')
    simp only [PyData.bulk,s5'] at this
    have:=hs.1
    omega
  refine pyReprObj_of_reads rd (by simp only [PyData.showable];exact s1') (PyData.noDict_hsm (by simp only [PyData.hasDict];exact s2')) hg (by simp only [PyData.depth,s3'];omega) (fun _ _ e=>e) (fun h' u tk keep=>?_) (by rw [sizeLine_eq];omega)
  have I2:Inv X pins σ H1 { s1 with heap:=h',toks:=tk }:=I1.kept keep
  have last:∀ t s2,Inv X pins σ H1 s2→∃ y t',Value.str (PyData.shown (.list (ns.map PyData.int))) t = .str y t'∧((Str.empty++x1)++y).length≤sizeLine ∧
      Joins (model X.prog X.w) X.A X.xe [] ((Str.empty++x1)++y) (fun out s₁=>out.length≤sizeLine∧EP X pins σ Q (.str out s₁.toks) { s₁ with toks:=s₁.toks+1 }) s2:=fun t s2 J=>by
    have hl:((Str.empty++x1)++PyData.shown (.list (ns.map PyData.int))).length≤sizeLine:=by rw [strLen_append,strLen_append,z0,sizeLine_eq];omega
    exact ⟨_,t,rfl,hl,hl,⟨.str _,H1,J.tok _,⟨_,rfl⟩,q _⟩⟩
  exact wpAny_formatField_str (last _ _ I2) (last _ _ (I2.tok _)) (by rw [sizeLine_eq];omega)
end
noncomputable def spL (C:Addr) (f:Str):Sp:=fun vs H Q _=>∃ e a ns,vs = [.ref e, .ref a]∧z9e ns∧H a=some (.lst (ns.map V.int))∧H e=some (.ext (zsl e C none)) ∧
  ∀ l p,H l=none→l≠e→H p=none→p≠e→p≠l→Q .non (upd (upd (upd H l (.lst (ns.map V.int))) p (.xd [(f, .ref l)])) e (.ext (zsl e C (some p))))
noncomputable instance smallDec (ns:List Int):Decidable (z9e ns):=by unfold z9e;exact inferInstance
@[simp] noncomputable def zFi (c f:Str) (φ:FA):FS:=fun δ μ=>(φ δ μ).bind fun p=>match p.1 with
  | [.loc n]=>match p.2[n]? with
    | some (.lst ds)=>(z2g ds).bind fun ns=>bif decide (z9e ns) then some (.exc c [(f, .loc p.2.length)] (p.2 ++ [.lst ds])) else none
    | _=>none
  | _=>none
theorem zVm {c f:Str} {φ:FA} {δ:Loc} {μ:Mem} {o:Out} (h:zFi c f φ δ μ = some o):∃ n ns μ1,φ δ μ = some ([.loc n],μ1)∧μ1[n]?=some (.lst (ns.map D.int))∧z9e ns∧o = .exc c [(f, .loc μ1.length)] (μ1 ++ [.lst (ns.map D.int)]):=by
  obtain ⟨⟨ds,μ1⟩,e1,h2⟩:=zf h
  clear h
  rcases ds with _ | ⟨d,ds⟩
  · cases h2
  · rcases ds with _ | ⟨d2,ds⟩
    · cases d with
      | loc n =>
        replace h2:(match μ1[n]? with
          | some (.lst ds)=>(z2g ds).bind fun ns=>bif decide (z9e ns) then some (.exc c [(f, .loc μ1.length)] (μ1 ++ [.lst ds])) else none
          | _=>none)=some o:=h2
        cases hm:μ1[n]? with
        | none=>rw [hm] at h2;cases h2
        | some ob =>
          rw [hm] at h2
          cases ob with
          | lst ds =>
            replace h2:((z2g ds).bind fun ns=>bif decide (z9e ns) then some (.exc c [(f, .loc μ1.length)] (μ1 ++ [.lst ds])) else none)=some o:=h2
            obtain ⟨ns,e2,h3⟩:=zf h2
            have e3:=zzd e2
            subst e3
            by_cases hs:z9e ns
            · rw [decide_eq_true hs] at h3
              cases h3
              exact ⟨n,ns,μ1,e1,hm,hs,rfl⟩
            · rw [decide_eq_false hs] at h3
              cases h3
          | dct _=>cases h2
          | dcf _=>cases h2
          | exc _ _=>cases h2
      | _=>cases h2
    · cases d <;> cases h2
theorem znl {K:W.Frag} {ρ:List Addr} {H:Hp}:∀ {ns:List Int} {vs:List V},RepVs K ρ H (ns.map D.int) vs→vs=ns.map V.int
  | [],_,r=>r.nil_inv
  | n :: ns,_,r=>by
    obtain ⟨v,rr,rfl,q1,q2⟩:=r.cons_inv
    rw [q1.int_inv,znl q2]
    rfl
theorem zCp {H:Hp} {a l p:Addr} {o o' u1 u2:HO} (ha:H a=none) (hl:l≠a) (hp:p≠a):era (upd (upd (upd (upd H a o) l u1) p u2) a o') a=upd (upd H l u1) p u2:=by
  funext b
  by_cases z:b=a
  · rw [z,zOh,zw (Ne.symm hp),zw (Ne.symm hl),ha]
  · rw [zAg z,zw z]
    by_cases z2:b=p
    · rw [z2,zo,zo]
    · rw [zw z2,zw z2]
      by_cases z3:b=l
      · rw [z3,zo,zo]
      · rw [zw z3,zw z,zw z3]
section
variable {X:Cx} {x:Str} {e:Expr} {np cpos pos:Pos} {C NE fI:Addr} {f:Str} {k:Nat} {fd:FuncData} {ps:List Str} {φ:FA}
set_option maxHeartbeats 800000 in
theorem zUp (hn:W.nsIn X.K mainGlobals x=some (some (.ref C))) (Z:ExcI X.K C NE fI f) (G:FnOk X.prog X.w X.K X.mg X.base CX0 1 fI fd ps (spL C f)) (hb:Binds X.K fd ps []) (hr:Room k X.A) (ha:MAn X [e] φ) (hk:2≤k:=by decide) (hh:X.calm=true:=by rfl) (hg:Gl X x:=by rfl)
    (he:starEach [e] X.env=(false,eval e X.env) :: starEach [] X.env:=by exact zvf rfl) (hdb:(x == ("__debug__":Str))=false:=by decide) :
    MS X (.Raise (some (.Call (.Name x np) [e] [] cpos)) none pos) (zFi x f φ):=by
  intro pins s σ H Dn I ⟨ρ,δ,μ,o,A,eo,kk⟩
  obtain ⟨n,ns,μ1,e1,hm,hsm,rfl⟩:=zVm eo
  clear eo
  obtain ⟨nm,qn,N,bs,sn,sub,ab,col,dd,k0,k1,k2,k3,k5,lk⟩:=Z.ob
  have hpl':(backTo cpos (starEach [e] X.env)).any (·.1)=false:=by
    rw [he]
    rfl
  refine zPi (C:=C) (fI:=fI) (nm:=nm) (q:=qn) (N:=N) (bs:=bs) (bm := .ref NE :: W.bmV) (hdct:=true) (sn:=sn) (sub:=sub) (ab:=ab) (col:=col) (dd:=dd) (k0:=k0) (k1:=k1) (k2:=k2) (k3:=k3) (k5:=k5) (newId:="ValueError.__new__")
    PySem.F.excBase_ValueError ((Z.tail I.kIn).hasType PySem.F.excBase_ValueError.hasBase) (I.ok.hd hh) hpl' (zJg I hg (W.mg_of I.mod.kin I.mod.glob hn) ⟨rfl,?_⟩ hdb)
  have h:=ha.ma cpos pins s σ H (fun vs H'=>∃ a ρ',vs = [.ref a]∧ρ'[n]?=some a∧Ext ρ H ρ' H'∧RepH X.K ρ' H' μ1) I ⟨ρ,δ,μ,[.loc n],μ1,A,e1,fun ρ' H' vs x' R r=>by
    obtain ⟨v,rr,rfl,q1,q2⟩:=r.cons_inv
    obtain ⟨a,rfl,e3⟩:=q1.loc_inv
    exact ⟨a,ρ',by rw [q2.nil_inv],e3,x',R⟩⟩
  rw [he] at h ⊢
  refine Calls.evalArgs_plain (wpAny_mono h (fun us s2 h2=>?_) fun _ _ y=>y)
  obtain ⟨vs,H',I',r,a,ρ',rfl,e3,x',R⟩:=h2
  obtain ⟨u,rfl,ru⟩:=vals1 r
  obtain rfl:u=Value.ref a:=ru
  obtain ⟨ws,hHa,rws⟩:=R.at_ _ _ _ e3 hm
  obtain rfl:=znl rws
  have hz:(zff s2.heap C [.ref a]).get? (s2.heap.objs.size+1)=some { cls := .ref C,dict:=none,data := .fields #[.ref s2.heap.objs.size, .none, .none, .none, .bool false, .none] }:=by heap_get
  have kp:∀ b o,s2.heap.get? b=some o→(zff s2.heap C [.ref a]).get? b=some o:=fun b o q=>Heap.get?_push_of_some _ (Heap.get?_push_of_some _ q)
  have hsz:s2.heap.objs.size≤s2.heap.objs.size+1:=Nat.le_succ _
  have hfr:H' (s2.heap.objs.size+1)=none:=I'.hok.fresh hsz
  have I2:Inv X pins σ (upd H' (s2.heap.objs.size+1) (.ext (zsl (s2.heap.objs.size+1) C none))) { s2 with heap:=zff s2.heap C [.ref a] } :=
    I'.laid (a:=s2.heap.objs.size+1) (t':=s2.toks) kp hsz (z2m ⟨_,hz⟩)
  have sp:spL C f [.ref (s2.heap.objs.size+1), .ref a] (upd H' (s2.heap.objs.size+1) (.ext (zsl (s2.heap.objs.size+1) C none))) (fun v H2=>v = .non∧∃ l p,H' l=none∧l≠s2.heap.objs.size+1∧H' p=none∧p≠s2.heap.objs.size+1∧p≠l ∧
      H2=upd (upd (upd (upd H' (s2.heap.objs.size+1) (.ext (zsl (s2.heap.objs.size+1) C none))) l (.lst (ns.map V.int))) p (.xd [(f, .ref l)])) (s2.heap.objs.size+1) (.ext (zsl (s2.heap.objs.size+1) C (some p)))) E0 :=
    ⟨_,a,ns,rfl,hsm,by rw [zw (zq hHa hfr)];exact hHa,zo,fun l p hl hle hp hpe hpl=>⟨rfl,l,p,by rwa [zw hle] at hl,hle,by rwa [zw hpe] at hp,hpe,hpl,rfl⟩⟩
  have hl:([Value.ref (s2.heap.objs.size+1), .ref a] ++ []).length=ps.length:=G.len _ _ _ _ sp
  refine ⟨rfl,(show 1≤sizeLine by rw [sizeLine_eq];decide),I'.kIn _ _ lk,W.looks_findIn I'.kIn Z.ini,Z.tail I'.kIn,fun self=>W.bind_fn I'.kIn self Z.fn,?_⟩
  have hroom:Room 1 (X.A.under (.builtin "type.__call__" ⟨.ref C :: [.ref a],[]⟩)):=Room.make (k:=1) (hr.mono hk) C [.ref a] []
  have henv:=I2.env0.make C [.ref a] []
  have hbind:=hb { s2 with heap:=zff s2.heap C [.ref a] } [.ref (s2.heap.objs.size+1), .ref a] I2.kIn hl
  have hvals:Vals [V.ref (s2.heap.objs.size+1), .ref a] ([Value.ref (s2.heap.objs.size+1), .ref a] ++ []) := .cons rfl (.cons rfl .nil)
  have run:=G.run _ X.stack _ _ _ _ _ _ E0 hroom henv hbind hvals sp
  show wpAny (model X.prog X.w) (X.A.under (.builtin "type.__call__" ⟨.ref C :: [.ref a],[]⟩)) (call (.ref fI) [.ref (s2.heap.objs.size+1), .ref a]) _ _ { s2 with heap:=zff s2.heap C [.ref a] }
  refine wpAny_call (codeAny_mono run fun rr s' hq=>?_)
  cases rr with
  | error ex=>exact False.elim hq
  | ok fl =>
    cases fl with
    | next=>exact False.elim hq
    | brk=>exact False.elim hq
    | cont=>exact False.elim hq
    | ret uu =>
      obtain ⟨v,H2,hos,hbare,un,hok,rv,ev,l,p,hl0,hle,hp0,hpe,hpl,e2⟩:=hq
      subst ev
      obtain rfl:uu=Value.none:=rv
      obtain ⟨_,H3,I3,_,_,e4⟩:=I2.after (Q:=fun v' H''=>v'=V.non∧H''=H2) ⟨V.non,H2,hos,hbare,un,hok,rfl,rfl,rfl⟩
      rw [e4] at I3
      have h3:H2 (s2.heap.objs.size+1)=some (.ext (zsl (s2.heap.objs.size+1) C (some p))):=by rw [e2];exact zo
      obtain ⟨⟨te,he3⟩,_,_⟩:=(show ObjOk X.prog X.w H2 s'.heap (s2.heap.objs.size+1) (.ext (zsl (s2.heap.objs.size+1) C (some p))) from I3.hok _ _ h3)
      refine ⟨rfl,I3.kIn _ _ lk,⟨_,te,he3⟩,?_⟩
      have F:=flyI (C:=C) (te:=te) I' I3 hos ((Un.laid kp hsz hfr).trans un) hsz ⟨_,h3⟩ he3
      rw [e2,zCp hfr hle hpe] at F
      have R1:RepH X.K (ρ' ++ [l]) (upd H' l (.lst (ns.map V.int))) (μ1 ++ [.lst (ns.map D.int)]):=R.push hl0 ⟨_,zo,rws.ext (Ext.push hl0)⟩
      have hp1:upd H' l (.lst (ns.map V.int)) p=none:=by rw [zw hpl];exact hp0
      refine kk (ρ' ++ [l]) (upd (upd H' l (.lst (ns.map V.int))) p (.xd [(f, .ref l)])) C (some p) hn ((x'.trans (Ext.push hl0)).trans (Ext.new hp1)) (R1.newTup hp1) (.inr ⟨p,[(f, .ref l)],rfl,zo,rfl,?_⟩) pins σ H' s2 (.ref (s2.heap.objs.size+1)) s' I' F
      have hpg:=zvb (p:=l) R
      simp [RepVs,RepV,hpg]
end
section
variable {X:Cx} {a b c e:Expr} {es:List Expr} {φ ψ χ:FE} {pos pos2 p1 p2:Pos}
noncomputable def zQr (p:Addr) (j:Int):HO := .ext fun h=>∃ t u v,IsRange h p 0 j 1 t u v
theorem zpn:zNi X (.type "range") (fun xs H Q=>∃ j:Int,xs = [.int j]∧∀ p,H p=none→Q (.ref p) (upd H p (zQr p j))):=by
  intro pins s σ H xs us Q I r ⟨j,e,k⟩
  subst e
  obtain ⟨u,rfl,ru⟩:=vals1 r
  obtain ⟨t,rfl⟩:=ru
  refine call_range_1 ?_
  refine ⟨.ref s.heap.objs.size,_,I.laid (t':=s.toks+1+1) (fun b o e=>Heap.get?_push_of_some _ e) (Nat.le_refl _) (show ObjOk X.prog X.w _ _ _ (zQr _ j) from ⟨⟨_,_,_,IsRange.new _ _ _ _ _ _ _⟩,⟨_,Heap.get?_push_size _ rfl⟩,fun h1 h2 ⟨t,u,v,x⟩ y=>⟨t,u,v,y _ x⟩⟩),rfl,k _ I.fresh⟩
theorem zWo {its:Array Value} {n:Nat} (h:ItemsOf (fun i v=>∃ t,v = .int (0+i * 1) t) its n):Vals ((List.range n).map fun (k:Nat)=>V.int k) its.toList:=by
  obtain ⟨h1,h2⟩:=h
  have key:∀ (l:List Value) (m:Nat),(∀ i (hi:i<l.length),∃ t,l[i] = .int ((m+i:Nat):Int) t)→Vals ((List.range' m l.length).map fun (k:Nat)=>V.int k) l:=by
    intro l
    induction l with
    | nil=>intro m _;exact .nil
    | cons x xs ih =>
      intro m h
      obtain ⟨t,e⟩:=h 0 (by simp)
      refine .cons ⟨t,by simpa using e⟩ (ih (m+1) fun i hi=>?_)
      obtain ⟨t,e⟩:=h (i+1) (by simpa using hi)
      exact ⟨t,by rw [show m+1+i=m+(i+1) by omega];simpa using e⟩
  have:=key its.toList 0 fun i hi=>?_
  · rw [List.range_eq_range',← h1]
    simpa using this
  · have hi':i<its.size:=by simpa using hi
    obtain ⟨t,e⟩:=h2 i its[i] (by simp [hi'])
    exact ⟨t,by simpa using e⟩
noncomputable def z1k (φ:FE):FE:=fun δ μ=>(φ δ μ).bind fun p=>match p.1 with
  | .int j=>bif decide (-(2 ^ 62)≤j∧j≤1000000) then some (.loc p.2.length,p.2 ++ [.lst ((List.range j.toNat).map fun (k:Nat) => .int k)]) else none
  | _=>none
theorem z3o (hc:X.calm=true):zNi X (.type "list") (fun xs H Q=>∃ p j,xs = [.ref p]∧H p=some (zQr p j)∧-(2 ^ 62)≤j∧j≤1000000∧∀ l,H l=none→Q (.ref l) (upd H l (.lst ((List.range j.toNat).map fun (k:Nat)=>V.int k)))):=by
  intro pins s σ H xs us Q I r ⟨p,j,e,hq,h1,h2,k⟩
  subst e
  obtain ⟨u,rfl,ru⟩:=vals1 r
  cases ru
  obtain ⟨⟨t,u,v,hr⟩,_,_⟩:=I.hok p _ hq
  have hn:Builtin.Range.rangeSize 0 j 1=(j.toNat:Nat):=by rw [rangeSize_one];split <;> omega
  refine call_list_range (n:=j.toNat) (I.ok.hd hc) hr (small_one (by decide) (by decide) h1 (by first|decide|omega)) hn (by first|decide|omega) fun h' tk acc' c' kp e hi=>?_
  have hm:=million
  have hv:=zWo hi
  refine ⟨.ref s.heap.objs.size,_,I.laid (t':=tk) kp (Nat.le_refl _) (show ObjOk X.prog X.w _ h' _ (.lst _) from ⟨by simp;omega,acc'.toList,c',hv,by simpa using e⟩),rfl,k _ I.fresh⟩
theorem zgq (hm1:X.mg "list" = none) (hv1:bootBuiltins "list" = some (.type "list")) (hm2:X.mg "range" = none) (h:ME X e φ) (hc:X.calm=true:=by rfl) (hg1:Gl X "list":=by rfl) (hg2:Gl X "range":=by rfl)
    (he:starEach [e] X.env=(false,eval e X.env) :: starEach [] X.env:=by rfl) (he2:starEach [.Call (.Name "range" p2) [e] [] pos2] X.env=(false,eval (.Call (.Name "range" p2) [e] [] pos2) X.env) :: starEach [] X.env:=by rfl) :
    ME X (.Call (.Name "list" p1) [.Call (.Name "range" p2) [e] [] pos2] [] pos) (z1k φ) :=
  zcd (zqd (z3o hc) hg1 hm1 hv1 (zmc (zqd zpn hg2 hm2 boot_range (zmc h zhe he) (by decide) (by decide) he rfl) zhe he2) (by decide) (by decide) he2 rfl) fun ρ δ μ σ H d μ' Q A e k=>by
    obtain ⟨⟨x,μ1⟩,e1,e⟩:=zf e
    refine ⟨ρ,δ,μ,x,μ1,A,e1,fun ρ1 H1 v x1 R1 r1=>?_⟩
    dsimp only at e
    split at e
    · rename_i j
      obtain ⟨hb,e⟩:=zM e
      have hb:=of_decide_eq_true hb
      cases e
      refine ⟨j,by rw [r1.int_inv],fun p1 hp1=>⟨p1,j,rfl,zo,hb.1,hb.2,fun l hl=>?_⟩⟩
      have R2:=R1.newTup (o:=zQr p1 j) hp1
      refine k _ _ _ (x1.trans ((Ext.new hp1).trans (Ext.push hl))) (R2.push hl ⟨_,zo,?_⟩) (.loc (zvb R2))
      have hr:=fun ρ H=>@zDe X.K ρ H ((List.range j.toNat).map fun (k:Nat)=>(k:Int))
      simp only [map_map] at hr
      exact hr _ _
    · cases e
@[simp] noncomputable def zDx:GL:=fun ds μ=>match ds with
  | [.int i]=>some (.int i,μ)
  | [.bl b]=>some (.int (if b then 1 else 0),μ)
  | _=>none
@[simp] noncomputable def zvx:GL:=fun ds μ=>match ds with
  | [.int i, .int j]=>some (.int (if j<i then j else i),μ)
  | _=>none
@[simp] noncomputable def zax:GL:=fun ds μ=>match ds with
  | [.int i, .int j]=>some (.int (if j > i then j else i),μ)
  | _=>none
@[simp] noncomputable def fIf (c:FT) (φ ψ:FE):FE:=fun δ μ=>(c δ μ).bind fun p=>bif p.1 then φ δ p.2 else ψ δ p.2
end
section
variable {prog:Program} {w:World} {A:Around} {E:Value→Shared→Prop} {s:Shared}
theorem nextT {it t:Addr} {i:Nat} {items:Array Value} {x:Value} {Q:Value→Shared→Prop} (hit:s.heap.IsTupleIter it t i) (ht:s.heap.IsTuple t items) (hx:items[i]?=some x)
    (hQ:∀ h',h'.IsTupleIter it t (i+1)→Heap.SameBut it s.heap h'→Q x { s with heap:=h' }):wpAny (model prog w) A (Builtin.SmallTypes.nextOf (.ref it)) Q E s:=by
  obtain ⟨ob,hob,hcl,hfs⟩:=id hit
  obtain ⟨ot,hot,_,m,hits⟩:=ht
  unfold Builtin.SmallTypes.nextOf
  refine wpAny_bind (wpAny_callSpecial?_slot (name:=Str.ofString "__next__") hit.typeIs F.slot_tuple_iterator_next (wpAny_call_entry F.slot_tuple_iterator_next hit.typeIs F.entry_tuple_iterator_next ?_ (F.args_tuple_iterator_next_1 _)))
  show wpAny _ _ (field (.ref it) 0 >>= _) _ _ s
  refine wpAny_bind (wpAny_field hob hfs (x := .ref t) rfl ?_)
  show wpAny _ _ (if (Value.ref t == Value.none)=true then _ else field (.ref it) 1 >>= _) _ _ s
  rw [if_neg (show ¬ (Value.ref t == Value.none)=true from Bool.false_ne_true)]
  refine wpAny_bind (wpAny_field hob hfs (x := .int i 0) rfl ?_)
  show wpAny _ _ (seqItems? (.ref t) >>= _) _ _ s
  refine wpAny_bind (wpAny_seqItems hot hits ?_)
  simp only [Int.toNat_natCast,hx]
  refine wpAny_bind (wpAny_setField hob hfs (by simp) (wpAny_pure ⟨x,rfl,wpAny_pure (hQ _ ?_ (Heap.SameBut.update ..))⟩))
  refine ⟨_,Heap.get?_update_self _ hob (Obj.isFreed_of_fields (Obj.data_mapFields hfs _)),(Obj.cls_mapFields ..).trans hcl,?_⟩
  rw [Obj.data_mapFields hfs]
  simp [rawInt]
theorem zaq {it t:Addr} {i:Nat} {items:Array Value} {Q:Value→Shared→Prop} (hh:A.handled=none) (hit:s.heap.IsTupleIter it t i) (ht:s.heap.IsTuple t items) (hx:items[i]?=none)
    (hE:∀ h' e,Heap.ExtBut it s.heap h'→(∃ o,h'.get? e=some o∧o.cls = .type "StopIteration")→E (.ref e) { s with heap:=h' }):wpAny (model prog w) A (Builtin.SmallTypes.nextOf (.ref it)) Q E s:=by
  obtain ⟨ob,hob,hcl,hfs⟩:=id hit
  obtain ⟨ot,hot,_,m,hits⟩:=ht
  unfold Builtin.SmallTypes.nextOf
  refine wpAny_bind (wpAny_callSpecial?_slot (name:=Str.ofString "__next__") hit.typeIs F.slot_tuple_iterator_next (wpAny_call_entry F.slot_tuple_iterator_next hit.typeIs F.entry_tuple_iterator_next ?_ (F.args_tuple_iterator_next_1 _)))
  show wpAny _ _ (field (.ref it) 0 >>= _) _ _ s
  refine wpAny_bind (wpAny_field hob hfs (x := .ref t) rfl ?_)
  show wpAny _ _ (if (Value.ref t == Value.none)=true then _ else field (.ref it) 1 >>= _) _ _ s
  rw [if_neg (show ¬ (Value.ref t == Value.none)=true from Bool.false_ne_true)]
  refine wpAny_bind (wpAny_field hob hfs (x := .int i 0) rfl ?_)
  show wpAny _ _ (seqItems? (.ref t) >>= _) _ _ s
  refine wpAny_bind (wpAny_seqItems hot hits ?_)
  simp only [Int.toNat_natCast,hx]
  refine wpAny_bind (wpAny_rule (wpAny_bind (wpAny_setField hob hfs (by simp) ?_)))
  show wpAny _ _ (newExc (.type "StopIteration") [] >>= _) _ _ _
  refine wpAny_bind ?_
  simp only [newExc,newTuple]
  refine wpAny_bind (wpAny_newObj_type ?_ (by size_fits))
  refine wpAny_bind (m:=firstArgMember _ _) (wpAny_of_eq (a:=Value.none) (by first | rfl | (simp only [firstArgMember];rfl)) ?_)
  refine wpAny_newObj_type ?_ (by size_fits)
  simp only [raiseNew]
  refine wpAny_bind (wpAny_handled ?_)
  first | rw [show A.in1.handled=none from hh] | rw [hh]
  exact wpAny_bind (wpAny_pure (wpAny_throw (hE _ _ (((Heap.SameBut.update ..).extBut.push _).push _) ⟨_,Heap.get?_push_size _ rfl,rfl⟩)))
theorem zvm {e it:Addr} {i:Int} {x old:Value} {N:Heap→Prop} {Q:Option Value→Shared→Prop} (he:IsEnum s.heap e it i old) (hne:e≠it)
    (nx:∀ (A':Around) (Q':Value→Shared→Prop) (E':Value→Shared→Prop),(∀ h1,N h1→Heap.SameBut it s.heap h1→Q' x { s with heap:=h1 })→wpAny (model prog w) A' (Builtin.SmallTypes.nextOf (.ref it)) Q' E' s)
    (hN:∀ h h',N h→(∀ o,h.get? it=some o→h'.get? it=some o)→N h')
    (hQ:∀ h',IsEnumOut h' e it (i+1) x s.heap.objs.size→N h'→h'.get? s.heap.objs.size=some { cls := .type "tuple",data := .seq #[.int i s.toks,x] }→h'.objs.size=s.heap.objs.size+1 →
      (∀ b o,b≠e→b≠it→s.heap.get? b=some o→h'.get? b=some o)→Q (some (.ref s.heap.objs.size)) { s with heap:=h',toks:=s.toks+1 }):wpAny (model prog w) A (pyNext (.ref e)) Q E s:=by
  obtain ⟨hp,g,d,tk,os⟩:=s
  have hT:Shared.TypeIs ⟨hp,g,d,tk,os⟩ (.ref e) "enumerate":=⟨_,he,rfl⟩
  unfold pyNext
  refine wpAny_bind (wpAny_attempt (wpAny_callSpecial?_slot (name:=Str.ofString "__next__") hT F.slot_enumerate_next (wpAny_call_entry F.slot_enumerate_next hT F.entry_enumerate_next ?_ (F.args_enumerate_next_1 _))))
  show wpAny _ _ (field (.ref e) 2 >>= _) _ _ _
  refine wpAny_bind (wpAny_field he rfl (x := .ref it) rfl (wpAny_bind (nx _ _ _ fun h1 n1 sb1=>?_)))
  replace sb1:Heap.SameBut it hp h1:=sb1
  have e1:IsEnum h1 e it i old:=(sb1.2 e hne).trans he
  show wpAny _ _ (field (.ref e) 3 >>= _) _ _ ⟨h1,g,d,tk,os⟩
  refine wpAny_bind (wpAny_field e1 rfl (x:=rawInt i) rfl ?_)
  show wpAny _ _ (field (.ref e) 4 >>= _) _ _ ⟨h1,g,d,tk,os⟩
  refine wpAny_bind (wpAny_field e1 rfl (x := .none) rfl ?_)
  show wpAny _ _ (mkInt i >>= _) _ _ ⟨h1,g,d,tk,os⟩
  refine wpAny_bind (wpAny_mkInt ?_)
  show wpAny _ _ (setField (.ref e) 3 (rawInt (i+1)) >>= _) _ _ ⟨h1,g,d,tk+1,os⟩
  refine wpAny_bind (wpAny_setField_rec e1 (by simp) fun h2 e2 sb2=>?_)
  replace sb2:Heap.SameBut e h1 h2:=sb2
  replace e2:IsEnum h2 e it (i+1) old:=e2
  show wpAny _ _ (setField (.ref e) 4 .none >>= _) _ _ ⟨h2,g,d,tk+1,os⟩
  refine wpAny_bind (wpAny_setField_rec e2 (by simp) fun h3 e3 sb3=>?_)
  replace sb3:Heap.SameBut e h2 h3:=sb3
  replace e3:IsEnum h3 e it (i+1) old:=e3
  show wpAny _ _ (newTuple [.int i tk,x] >>= _) _ _ ⟨h3,g,d,tk+1,os⟩
  refine wpAny_bind (wpAny_newTuple ?_)
  have z3:h3.objs.size=hp.objs.size:=by rw [sb3.1,sb2.1,sb1.1]
  have el:e<hp.objs.size:=Heap.lt_size he
  have ne4:hp.objs.size≠e:=Nat.ne_of_gt el
  obtain ⟨h4,hh4⟩:∃ h4,h4=h3.push { cls := .type "tuple",data := .seq #[.int i tk,x] }:=⟨_,rfl⟩
  have e4:IsEnum h4 e it (i+1) old:=by rw [hh4];exact Heap.get?_push_of_some _ e3
  have t4:h4.get? hp.objs.size=some { cls := .type "tuple",data := .seq #[.int i tk,x] }:=by rw [hh4,← z3];exact Heap.get?_push_size _ rfl
  have z4:h4.objs.size=hp.objs.size+1:=by rw [hh4,Heap.size_push,z3]
  have up:∀ b o,b≠e→h1.get? b=some o→h4.get? b=some o:=fun b o hb q=>by
    rw [hh4]
    exact Heap.get?_push_of_some _ ((sb3.2 b hb).trans ((sb2.2 b hb).trans q))
  show wpAny _ _ (Builtin.SmallTypes.ownedTupleIsFree (.ref e) >>= _) _ _ ⟨h3.push { cls := .type "tuple",data := .seq #[.int i tk,x] },g,d,tk+1,os⟩
  rw [← hh4,z3]
  refine wpAny_bind ?_
  unfold Builtin.SmallTypes.ownedTupleIsFree
  refine wpAny_bind (wpAny_field e4 rfl (x := .none) rfl (wpAny_pure ?_))
  simp only [if_true]
  refine wpAny_bind (wpAny_rule (wpAny_bind (wpAny_field e4 rfl (x:=old) rfl (wpAny_bind (wpAny_setField_rec e4 (by simp) fun h5 e5 sb5=>?_)))))
  replace sb5:Heap.SameBut e h4 h5:=sb5
  replace e5:IsEnum h5 e it (i+1) x:=e5
  show wpAny _ _ (Builtin.SmallTypes.ownedTupleHandOut (.ref e) (.ref hp.objs.size) >>= _) _ _ ⟨h5,g,d,tk+1,os⟩
  refine wpAny_bind ?_
  unfold Builtin.SmallTypes.ownedTupleHandOut
  refine wpAny_bind (wpAny_setField_rec e5 (by simp) fun h6 e6 sb6=>?_)
  replace sb6:Heap.SameBut e h5 h6:=sb6
  replace e6:IsEnumOut h6 e it (i+1) x hp.objs.size:=e6
  refine wpAny_setField_rec e6 (by simp) fun h7 e7 sb7=>?_
  replace sb7:Heap.SameBut e h6 h7:=sb7
  replace e7:IsEnumOut h7 e it (i+1) x hp.objs.size:=e7
  have up7:∀ b o,b≠e→h4.get? b=some o→h7.get? b=some o:=fun b o hb q=>(sb7.2 b hb).trans ((sb6.2 b hb).trans ((sb5.2 b hb).trans q))
  refine wpAny_bind (wpAny_letGo (wpAny_pure ⟨_,rfl,wpAny_pure (hQ h7 e7 (hN _ _ n1 fun o q=>up7 _ _ (Ne.symm hne) (up _ _ (Ne.symm hne) q)) (up7 _ _ ne4 t4) ?_ fun b o h1 h2 q=>up7 _ _ h1 (up _ _ h1 ((sb1.2 b h2).trans q)))⟩))
  show h7.objs.size=hp.objs.size+1
  rw [sb7.1,sb6.1,sb5.1,z4]
theorem z5n {e it:Addr} {i:Int} {old:Value} {Q:Option Value→Shared→Prop} (he:IsEnum s.heap e it i old)
    (nx:∀ (A':Around) (Q':Value→Shared→Prop) (E':Value→Shared→Prop),A'.handled=A.handled→(∀ h' x,Heap.ExtBut it s.heap h'→(∃ o,h'.get? x=some o∧o.cls = .type "StopIteration")→E' (.ref x) { s with heap:=h' })→wpAny (model prog w) A' (Builtin.SmallTypes.nextOf (.ref it)) Q' E' s)
    (hQ:∀ h',Heap.ExtBut it s.heap h'→Q none { s with heap:=h' }):wpAny (model prog w) A (pyNext (.ref e)) Q E s:=by
  have hT:s.TypeIs (.ref e) "enumerate":=⟨_,he,rfl⟩
  unfold pyNext
  refine wpAny_bind (wpAny_attempt (wpAny_callSpecial?_slot (name:=Str.ofString "__next__") hT F.slot_enumerate_next (wpAny_call_entry F.slot_enumerate_next hT F.entry_enumerate_next ?_ (F.args_enumerate_next_1 _))))
  show wpAny _ _ (field (.ref e) 2 >>= _) _ _ _
  refine wpAny_bind (wpAny_field he rfl (x := .ref it) rfl (wpAny_bind (nx _ _ _ rfl fun h' x eb ⟨o,ho,hc⟩=>?_)))
  exact wpAny_bind (wpAny_isInstance (T:="StopIteration") (b:=true) ⟨o,ho,hc⟩ isSubtype_stop (wpAny_pure (hQ _ eb)))
end
section
variable {X:Cx} {pins:List (Addr×Obj)} {σ:L2.St} {H:Hp} {s:Shared}
theorem zPk {fp:List Addr} (hf:∀ b∈fp,zQn X pins H b) {b:Addr} {u:HO} (e:H b=some u):b∉fp:=fun z=>by rw [(hf b z).1] at e;cases e
theorem z1v {fp:List Addr} (hf:∀ b∈fp,zQn X pins H b):∀ b∈fp,(b∈X.ex∨X.s₀.heap.objs.size≤b)∧b≠X.env.locals∧(∀ x c,X.env.cells.lookup x=some c→c≠b)∧∀ p∈X.pn++pins,p.1≠b:=fun b hb=>by
  obtain ⟨_,f1,_,f3,f4,f5⟩:=hf b hb
  exact ⟨f3,f1,f4,f5⟩
theorem zQj {fp:List Addr} {h':Heap} {t':Nat} (I:Inv X pins σ H s) (hf:∀ b∈fp,zQn X pins H b) (k:∀ b o,b∉fp→s.heap.get? b=some o→h'.get? b=some o):Inv X pins σ H { s with heap:=h',toks:=t' }:=by
  refine I.call (g':=s.gens) (t':=t') (d':=s.drawn) (ch:=fp) ⟨fun b o e _ _ hx=>k b o hx e,fun b o e _ _ hx=>⟨o.slots,k b o hx e⟩,fun _ _ _ n _=>n,fun b o e hx=>⟨o,k b o hx e⟩,fun _ _ e=>e,fun _ _ _ e=>e,fun _ ps e=>⟨#[],by rw [e];simp⟩⟩ (fun a o e=>?_) I.bare (z1v hf)
  refine (I.hok a o e).stay (fun b u hb q=>k b u ?_ q) (fun _ q=>q) fun _ _ q=>q
  rcases hb with rfl | hb
  · exact zPk hf e
  · exact zPk hf hb
theorem zjd {fp:List Addr} {h':Heap} {t':Nat} {p:Addr} {o:HO} (I:Inv X pins σ H s) (hf:∀ b∈fp,zQn X pins H b) (k:∀ b o,b∉fp→s.heap.get? b=some o→h'.get? b=some o) (hp:s.heap.objs.size≤p)
    (new:ObjOk X.prog X.w (upd H p o) h' p o):Inv X pins σ (upd H p o) { s with heap:=h',toks:=t' }:=by
  have hn:=I.hok.fresh hp
  have hlt:∀ b ob,s.heap.get? b=some ob→b≠p:=fun b ob e=>Nat.ne_of_lt (Nat.lt_of_lt_of_le (Heap.lt_size e) hp)
  refine I.call (g':=s.gens) (t':=t') (d':=s.drawn) (ch:=fp) ⟨fun b o e _ _ hx=>k b o hx e,fun b o e _ _ hx=>⟨o.slots,k b o hx e⟩,fun b ob e n _=>by rw [zw (hlt b ob e)];exact n,fun b o e hx=>⟨o,k b o hx e⟩,
    fun _ _ e=>by rw [zw (zq e hn)];exact e,fun _ _ _ e=>by rw [zw (zq e hn)];exact e,fun _ ps e=>⟨#[],by rw [zw (zq e hn),e];simp⟩⟩ (fun a u e=>?_) I.bare (z1v hf)
  by_cases ha:a=p
  · subst ha;rw [zo] at e;cases e;exact new
  · rw [zw ha] at e
    refine (I.hok a u e).stay (fun b u hb q=>k b u ?_ q) (fun b q=>by rw [zw (zq q hn)];exact q) fun b xs q=>by rw [zw (zq q hn)];exact q
    rcases hb with rfl | hb
    · exact zPk hf e
    · exact zPk hf hb
noncomputable def Ien (J:It):It:=⟨J.go,fun i H x H'=>∃ p y,x = .ref p∧H p=none∧H'=upd H p (.tup [.int i,y])∧J.yld i H y H,J.stop⟩
theorem zvq {P:Program} {w:World} {H:Hp} {h:Heap} {p:Addr} {x y:V} {u v:Value} (e:h.get? p=some { cls := .type "tuple",data := .seq #[u,v] }) (rx:RelV x u) (ry:RelV y v):ObjOk P w H h p (.tup [x,y]) :=
  ⟨by rw [sizeLine_eq];simp,[u,v], .cons rx (.cons ry .nil),⟨_,e,rfl,_,rfl⟩⟩
theorem zkp {P:Program} {w:World} {K:W.Frag} {elts:List Expr} {x1} {pos:Pos} (a e it:Addr) (hne:e≠it):Turn P w K (.Tuple elts x1 pos) (Ien (Itl K a)) [e,it] e (fun i h=>(∃ old,IsEnum h e it i old)∧h.IsListIter it a i) where
  mem:=by simp
  obj:=fun i h ⟨⟨old,he⟩,st⟩ b hb=>by
    have hb:b=e∨b=it:=by simpa using hb
    rcases hb with rfl | rfl
    · exact ⟨_,he,fun v z=>by have z':Data.fields _=Data.cell v:=z;cases z'⟩
    · obtain ⟨o,q,c,d⟩:=st
      exact ⟨o,q,fun v z=>by rw [d] at z;cases z⟩
  keep:=fun i h h' ⟨⟨old,he⟩,st⟩ k=>⟨⟨old,k e (by simp) _ he⟩,st.at fun o q=>k it (by simp) o q⟩
  item:=by
    intro X hP hw hK hc i pins s σ H E I hf ⟨⟨old,he⟩,st⟩ hg
    subst hP hw hK
    obtain ⟨xs,x,hq,hx⟩:=hg
    obtain ⟨its,rv,p,hz⟩:=I.list hq
    obtain ⟨u,hu,ru⟩:=rv.get hx
    refine zvm (N:=fun h=>h.IsListIter it a (i+1)) he hne (fun A' Q' E' hQ=>wpAny_nextOf_list_item st p.isList (x:=u) (by simpa using hu) fun h' st' sb=>hQ h' st' sb) (fun h h' n k=>n.at fun o q=>k o q) fun h' eo n' t' z' kk=>?_
    refine ⟨_,rfl,wpAny_letOwnedTupleGo_enum eo fun h2 e2 sb2=>?_⟩
    replace sb2:Heap.SameBut e h' h2:=sb2
    have hlt:e<s.heap.objs.size:=Heap.lt_size he
    have t2:=(sb2.2 s.heap.objs.size (Nat.ne_of_gt hlt)).trans t'
    have hfr:=I.hok.fresh (Nat.le_refl s.heap.objs.size)
    have I2:Inv X pins σ (upd H s.heap.objs.size (.tup [.int i,x])) { s with heap:=h2,toks:=s.toks+1 }:=by
      refine zjd I hf (fun b o hb q=>?_) (Nat.le_refl _) (zvq t2 ⟨_,rfl⟩ ru)
      simp only [mem_cons,not_mem_nil,or_false,not_or] at hb
      exact (sb2.2 b hb.1).trans (kk b o hb.1 hb.2 q)
    refine ⟨.ref s.heap.objs.size,_,I2,rfl,⟨_,x,rfl,hfr,rfl,rfl,fun ys hy=>by rw [I.list_inj hy hq];exact hx⟩,⟨⟨u,by simpa using e2⟩,n'.at fun o q=>(sb2.2 it (Ne.symm hne)).trans q⟩,fun b hb=>?_⟩
    · rw [zw]
      · exact (hf b hb).1
      · rintro rfl
        have hb:s.heap.objs.size=e∨s.heap.objs.size=it:=by simpa using hb
        rcases hb with q | q
        · exact absurd hlt (by rw [q];exact Nat.lt_irrefl _)
        · obtain ⟨o,qo,_⟩:=st;exact absurd (Heap.lt_size qo) (by rw [q];exact Nat.lt_irrefl _)
  done:=by
    intro X hP hw hK hc i pins s σ H E I hf ⟨⟨old,he⟩,st⟩ hg
    subst hP hw hK
    obtain ⟨xs,hq,hx⟩:=hg
    obtain ⟨its,rv,p,hz⟩:=I.list hq
    have hl:=rv.length
    refine z5n he (fun A' Q' E' hA hE=>wpAny_nextOf_list_end (hA.trans (I.ok.hd hc)) st p.isList (by simp;omega) hE) fun h' eb=>⟨rfl,zQj (t':=s.toks) I hf fun b o hb q=>eb b o (fun z=>hb (by simp [z])) q⟩
  self:=fun _ _ _ _ _ ⟨⟨old,he⟩,_⟩ h=>wpAny_pyIter_enum he h
theorem zjp {P:Program} {w:World} {K:W.Frag} {elts:List Expr} {x1} {pos:Pos} (a e it:Addr) (hne:e≠it):Turn P w K (.Tuple elts x1 pos) (Ien (Itt K a)) [e,it] e (fun i h=>(∃ old,IsEnum h e it i old)∧h.IsTupleIter it a i) where
  mem:=by simp
  obj:=fun i h ⟨⟨old,he⟩,st⟩ b hb=>by
    have hb:b=e∨b=it:=by simpa using hb
    rcases hb with rfl | rfl
    · exact ⟨_,he,fun v z=>by have z':Data.fields _=Data.cell v:=z;cases z'⟩
    · obtain ⟨o,q,c,d⟩:=st
      exact ⟨o,q,fun v z=>by rw [d] at z;cases z⟩
  keep:=fun i h h' ⟨⟨old,he⟩,st⟩ k=>⟨⟨old,k e (by simp) _ he⟩,st.at fun o q=>k it (by simp) o q⟩
  item:=by
    intro X hP hw hK hc i pins s σ H E I hf ⟨⟨old,he⟩,st⟩ hg
    subst hP hw hK
    obtain ⟨xs,x,hq,hx⟩:=hg
    obtain ⟨its,rv,p,hz⟩:=I.tuple hq
    obtain ⟨u,hu,ru⟩:=rv.get hx
    refine zvm (N:=fun h=>h.IsTupleIter it a (i+1)) he hne (fun A' Q' E' hQ=>nextT st (show s.heap.IsTuple a its.toArray from p) (x:=u) (by simpa using hu) fun h' st' sb=>hQ h' st' sb) (fun h h' n k=>n.at fun o q=>k o q) fun h' eo n' t' z' kk=>?_
    refine ⟨_,rfl,wpAny_letOwnedTupleGo_enum eo fun h2 e2 sb2=>?_⟩
    replace sb2:Heap.SameBut e h' h2:=sb2
    have hlt:e<s.heap.objs.size:=Heap.lt_size he
    have t2:=(sb2.2 s.heap.objs.size (Nat.ne_of_gt hlt)).trans t'
    have hfr:=I.hok.fresh (Nat.le_refl s.heap.objs.size)
    have I2:Inv X pins σ (upd H s.heap.objs.size (.tup [.int i,x])) { s with heap:=h2,toks:=s.toks+1 }:=by
      refine zjd I hf (fun b o hb q=>?_) (Nat.le_refl _) (zvq t2 ⟨_,rfl⟩ ru)
      simp only [mem_cons,not_mem_nil,or_false,not_or] at hb
      exact (sb2.2 b hb.1).trans (kk b o hb.1 hb.2 q)
    refine ⟨.ref s.heap.objs.size,_,I2,rfl,⟨_,x,rfl,hfr,rfl,rfl,fun ys hy=>by rw [I.tuple_inj hy hq];exact hx⟩,⟨⟨u,by simpa using e2⟩,n'.at fun o q=>(sb2.2 it (Ne.symm hne)).trans q⟩,fun b hb=>?_⟩
    · rw [zw]
      · exact (hf b hb).1
      · rintro rfl
        have hb:s.heap.objs.size=e∨s.heap.objs.size=it:=by simpa using hb
        rcases hb with q | q
        · exact absurd hlt (by rw [q];exact Nat.lt_irrefl _)
        · obtain ⟨o,qo,_⟩:=st;exact absurd (Heap.lt_size qo) (by rw [q];exact Nat.lt_irrefl _)
  done:=by
    intro X hP hw hK hc i pins s σ H E I hf ⟨⟨old,he⟩,st⟩ hg
    subst hP hw hK
    obtain ⟨xs,hq,hx⟩:=hg
    obtain ⟨its,rv,p,hz⟩:=I.tuple hq
    have hl:=rv.length
    refine z5n he (fun A' Q' E' hA hE=>zaq (hA.trans (I.ok.hd hc)) st (show s.heap.IsTuple a its.toArray from p) (by simp;omega) hE) fun h' eb=>⟨rfl,zQj (t':=s.toks) I hf fun b o hb q=>eb b o (fun z=>hb (by simp [z])) q⟩
  self:=fun _ _ _ _ _ ⟨⟨old,he⟩,_⟩ h=>wpAny_pyIter_enum he h
theorem z9p (l:Addr) (items:Array Value) (n:Nat) (dct:Option Addr) (sl:Array (Option Value)) :
    Meets (Builtin.«enumerate.__new__» ⟨[.type "enumerate", .ref l],[]⟩) (fun _ R s=>s.heap.get? l=some { cls := .type "tuple",dict:=dct,data := .seq items n,slots:=sl } ∧
      R (.ok (.ret (.ref (s.heap.push { cls := .type "tuple_iterator",data := .fields #[.ref l, .int 0 0] }).objs.size)))
        { s with heap:=(s.heap.push { cls := .type "tuple_iterator",data := .fields #[.ref l, .int 0 0] }).push { cls := .type "enumerate",data := .fields #[.none, .bool false, .ref s.heap.objs.size,rawInt 0, .none, .none] } }) :=
  .of_wp fun prog w A R s h=>by
    obtain ⟨hp,g,d,tk,os⟩:=s
    obtain ⟨hl,h⟩:=h
    have hsub:=sub_enumerate
    have hL:Heap.IsTuple (Shared.heap ⟨hp,g,d,tk,os⟩) l items:=⟨_,hl,rfl,n,rfl⟩
    wp_walk using AutoSeq1.wpAny_loadPart' hl
    refine wpAny_stack_any fun st=>wpAny_pure ?_
    split
    · rename_i c _ _ _ _ _
      cases (c == Value.type "enumerate")
      · wp_walk using AutoSeq1.wpAny_loadPart' hl,wpAny_pyIter_tuple hL
        exact ⟨_,rfl,h⟩
      · wp_walk using AutoSeq1.wpAny_loadPart' hl,wpAny_pyIter_tuple hL
        exact ⟨_,rfl,h⟩
    · wp_walk using AutoSeq1.wpAny_loadPart' hl,wpAny_pyIter_tuple hL
      exact ⟨_,rfl,h⟩
theorem zsp {prog:Program} {w:World} {A:Around} {E:Value→Shared→Prop} {l:Addr} {items:Array Value} {Q:Value→Shared→Prop} (hL:s.heap.IsTuple l items)
    (h:∀ h',IsEnum h' (s.heap.objs.size+1) s.heap.objs.size 0 .none→h'.IsTupleIter s.heap.objs.size l 0→h'.objs.size=s.heap.objs.size+2 →
      (∀ b o,s.heap.get? b=some o→h'.get? b=some o)→Q (.ref (s.heap.objs.size+1)) { s with heap:=h' }):wpAny (model prog w) A (call (.type "enumerate") [.ref l]) Q E s:=by
  obtain ⟨⟨c,dct,dt,sl⟩,hl,hc,n,hd⟩:=hL
  replace hc:c = .type "tuple":=hc
  replace hd:dt = .seq items n:=hd
  subst hc hd
  refine callType_new F.called_enumerate (by decide) (F.typeCall_enumerate_1 _) (F.newCall_enumerate_1 _) (fun obj=>F.args_object_init_2 obj _) F.entry_enumerate_new (z9p l items n dct sl) ⟨hl,?_⟩
  have hz:(s.heap.push { cls := .type "tuple_iterator",data := .fields #[.ref l, .int 0 0] }).objs.size=s.heap.objs.size+1:=Heap.size_push ..
  have he:IsEnum ((s.heap.push { cls := .type "tuple_iterator",data := .fields #[.ref l, .int 0 0] }).push { cls := .type "enumerate",data := .fields #[.none, .bool false, .ref s.heap.objs.size,rawInt 0, .none, .none] }) (s.heap.objs.size+1) s.heap.objs.size 0 .none:=by
    have:=Heap.get?_push_size (s.heap.push { cls := .type "tuple_iterator",data := .fields #[.ref l, .int 0 0] }) (o:={ cls := .type "enumerate",data := .fields #[.none, .bool false, .ref s.heap.objs.size,rawInt 0, .none, .none] }) rfl
    rw [hz] at this;exact this
  show _∧_
  rw [hz]
  exact ⟨⟨_,he,rfl⟩,h _ he ⟨_,Heap.get?_push_of_some _ (Heap.get?_push_size _ rfl),rfl,rfl⟩ (by rw [Heap.size_push,hz]) fun b o x=>Heap.get?_push_of_some _ (Heap.get?_push_of_some _ x)⟩
noncomputable def z4x (K:W.Frag) (tl:TE):TI:=fun σ H R=>tl σ H fun x H1=>∃ a,x = .ref a∧((∃ xs,SqL K H1 a xs)∧R (Ien (Itl K a)) H1∨(∃ xs,SqT K H1 a xs)∧R (Ien (Itt K a)) H1)
theorem zyu {l:Expr} {tl:TE} {elts:List Expr} {x1} {tp p pos:Pos} (hg:Gl X "enumerate") (hm:X.mg "enumerate" = none) (hv:bootBuiltins "enumerate" = some (.type "enumerate")) (hl:PE X l tl) (hs:starEach [l] X.env = [(false,eval l X.env)]:=by rfl) :
    PI X (.Tuple elts x1 tp) (.Call (.Name "enumerate" p) [l] [] pos) (z4x X.K tl):=by
  intro pins s σ H R I h
  refine Call_ (zJi I hg hm hv (PyProof.Rows.callWith_type1 (thn (zmc hl zhe hs pos pins s σ H (fun vs H1=>match vs with
    | [x]=>∃ a,x = .ref a∧((∃ xs,SqL X.K H1 a xs)∧R (Ien (Itl X.K a)) H1∨(∃ xs,SqT X.K H1 a xs)∧R (Ien (Itt X.K a)) H1)
    | _=>False) I h) fun us s1 ⟨vs,H1,I1,r1,q1⟩=>?_) hs rfl))
  dsimp only at q1
  split at q1
  case h_2=>exact q1.elim
  obtain ⟨a,e,q⟩:=q1
  subst e
  cases r1 with
  | cons r rr =>
    cases rr
    cases r
    have fin:∀ h':Heap,(∀ b o,s1.heap.get? b=some o→h'.get? b=some o)→∀ b∈[s1.heap.objs.size+1,s1.heap.objs.size],zQn X pins H1 b:=fun h' kp b hb=>by
      have hb:b=s1.heap.objs.size+1∨b=s1.heap.objs.size:=by simpa using hb
      rcases hb with rfl | rfl
      · exact I1.fpOk (Nat.le_succ _) (I1.hok.fresh (Nat.le_succ _))
      · exact I1.fpOk (Nat.le_refl _) (I1.hok.fresh (Nat.le_refl _))
    have hne:s1.heap.objs.size+1≠s1.heap.objs.size:=Nat.succ_ne_self _
    rcases q with ⟨⟨xs,hq⟩,q⟩ | ⟨⟨xs,hq⟩,q⟩
    · obtain ⟨its,rv,pl,hz⟩:=I1.list hq
      refine call_enumerate_list pl.isList fun h' e1 i1 z1 kp=>?_
      refine wpAny_pyIter_enum (s:={ s1 with heap:=h' }) e1 ?_
      exact ⟨_,[s1.heap.objs.size+1,s1.heap.objs.size],_,_,H1,rfl,I1.kept (t':=s1.toks) kp,zkp a _ _ hne,⟨⟨_,e1⟩,i1⟩,fin h' kp,q⟩
    · obtain ⟨its,rv,pl,hz⟩:=I1.tuple hq
      refine zsp (show s1.heap.IsTuple a its.toArray from pl) fun h' e1 i1 z1 kp=>?_
      refine wpAny_pyIter_enum (s:={ s1 with heap:=h' }) e1 ?_
      exact ⟨_,[s1.heap.objs.size+1,s1.heap.objs.size],_,_,H1,rfl,I1.kept (t':=s1.toks) kp,zjp a _ _ hne,⟨⟨_,e1⟩,i1⟩,fin h' kp,q⟩
noncomputable def zwf (ds:List D):List D:=ds.zipIdx.map fun p => .tup [.int (p.2:Nat),p.1]
theorem zQb (ds:List D):(zwf ds).length=ds.length:=by simp [zwf]
theorem ztk {ds:List D} {i:Nat} {d:D} (h:(zwf ds)[i]?=some d):∃ y,ds[i]?=some y∧d = .tup [.int i,y]:=by
  unfold zwf at h
  rw [List.getElem?_map,List.getElem?_zipIdx] at h
  cases e:ds[i]? with
  | none=>rw [e] at h;cases h
  | some y =>
    rw [e] at h
    refine ⟨y,rfl,?_⟩
    have:=Option.some.inj h
    rw [← this]
    simp
@[simp] noncomputable def zrk (φ:FE):FI:=fun δ μ=>(φ δ μ).bind fun p=>match p.1 with
  | .tup ds=>some (zwf ds,yes,p.2)
  | .fz ds=>some (zwf ds,yes,p.2)
  | .loc n=>match p.2[n]? with
    | some (.lst ds)=>some (zwf ds,z9k n ds,p.2)
    | _=>none
  | _=>none
theorem zln {K:W.Frag} {J:It} {ρ:List Addr} {H:Hp} {ds:List D} {ok:Mem→Bool} (h:ItIs K J ρ H ds ok):ItIs K (Ien J) ρ H (zwf ds) ok:=by
  refine ⟨fun ρ' H' μ' i x R o hi=>h.go ρ' H' μ' i x R o (by rw [zQb] at hi;exact hi),fun ρ' H' μ' i x H'' d x' R o e ⟨p,y,e1,hp,e2,yl⟩=>?_,fun ρ' H' μ' x R o=>by rw [zQb];exact h.stop ρ' H' μ' x R o⟩
  obtain ⟨z,ez,rfl⟩:=ztk e
  obtain ⟨_,_,rz⟩:=h.yld ρ' H' μ' i y H' z x' R o ez yl
  subst e1 e2
  exact ⟨Ext.new hp,R.newTup hp, .tup zo (.cons .int (.cons (rz.ext (Ext.new hp)) .nil))⟩
theorem znf {a:Expr} {φ:FE} {elts:List Expr} {x1} {tp p pos:Pos} (hm:X.mg "enumerate" = none) (hv:bootBuiltins "enumerate" = some (.type "enumerate")) (h:ME X a φ) (hg:Gl X "enumerate":=by rfl) (hs:starEach [a] X.env = [(false,eval a X.env)]:=by rfl) :
    MI X (.Tuple elts x1 tp) (.Call (.Name "enumerate" p) [a] [] pos) (zrk φ) :=
  zAq (zyu hg hm hv h hs) fun ρ δ μ σ H ds ok μ' R A e k=>by
    obtain ⟨⟨x,μ1⟩,e1,e⟩:=zf e
    refine ⟨ρ,δ,μ,x,μ1,A,e1,fun ρ1 H1 v1 x1 R1 r1=>?_⟩
    dsimp only at e
    split at e
    · cases e
      obtain ⟨a,vs,rfl,e2,q2⟩:=r1.tup_inv
      exact ⟨a,rfl, .inr ⟨⟨vs,SqT.of e2⟩,k ρ1 H1 _ x1 R1 (zln (zet e2 q2))⟩⟩
    · cases e
      obtain ⟨a,vs,rfl,e2,q2⟩:=r1.fz_inv
      exact ⟨a,rfl, .inl ⟨⟨vs,e2.sq⟩,k ρ1 H1 _ x1 R1 (zln (zOn fun ρ' H' μ' x _ _=>⟨vs,(x.fz e2).sq,q2.ext x⟩))⟩⟩
    · split at e
      · rename_i hm
        cases e
        obtain ⟨a,rfl,e2⟩:=r1.loc_inv
        obtain ⟨vs,e3,q3⟩:=R1.at_ _ _ _ e2 hm
        refine ⟨a,rfl, .inl ⟨⟨vs,SqL.of e3⟩,k ρ1 H1 _ x1 R1 (zln (zOn fun ρ' H' μ'' x R' o=>?_))⟩⟩
        obtain ⟨vs',e4,q4⟩:=R'.at_ _ _ _ (x.get e2) (stays_iff.mp o)
        exact ⟨vs',SqL.of e4,q4⟩
      · cases e
    · cases e
end
section
variable {X:Cx} {a b c e:Expr} {es:List Expr} {φ ψ χ:FE} {pos:Pos}
@[simp] noncomputable def zyo (g:GM) (φ:FE):FE:=fun δ μ=>(φ δ μ).bind fun p=>match p.1 with
  | .loc n=>match p.2[n]? with
    | some (.lst _)=>g (.loc n) [] p.2
    | _=>none
  | _=>none
theorem zms {o:Expr} {name:Str} {id:String} {g:GM} {apos:Pos} (slot:Slot "list" name id) (hty:typeOf (.builtin id)=pure (.type "method_descriptor")) (hm:MtG X id g) (ho:ME X o φ)
    (hbase:attributeBase o name X.env (eval o X.env)=eval o X.env:=by rfl) (hline:(apos.endLine == pos.line)=true:=by rfl):ME X (.Call (.Attribute o name apos) [] [] pos) (zyo g φ) :=
  zcd (zew PySem.F.plainAttrs_list slot hty hm ho hbase hline) fun ρ δ μ σ H d μ' Q A e k=>by
    obtain ⟨⟨x,μ1⟩,e1,e⟩:=zf e
    refine ⟨ρ,δ,μ,x,μ1,A,e1,fun ρ1 H1 v x1 R1 r1=>?_⟩
    dsimp only at e
    split at e
    · split at e
      · rename_i hm'
        obtain ⟨a,rfl,ea⟩:=r1.loc_inv
        obtain ⟨vs,e3,q3⟩:=R1.at_ _ _ _ ea hm'
        exact ⟨.inl ⟨rfl,vs,SqL.of e3⟩,ρ1,_,[],μ1,d,μ',r1, .nil,R1,e,fun ρ3 H3 v3 x3 R3 r3=>k ρ3 H3 v3 (x1.trans x3) R3 r3⟩
      · cases e
    · cases e
@[simp] noncomputable def zkm:GM:=fun x ds μ=>match x,ds with
  | .loc n,[]=>match μ[n]? with
    | some (.lst _)=>some (.non,μ.set n (.lst []))
    | _=>none
  | _,_=>none
theorem zPq:MtG X "list.clear" zkm:=by
  refine MtG.of fun pins s σ H x xs v us Q I rx rs ρ dx ds μ d μ' r1 r2 R e k=>?_
  unfold zkm at e
  split at e
  · split at e
    · rename_i hm
      cases e
      obtain ⟨a,rfl,ea⟩:=r1.loc_inv
      obtain ⟨vs,e3,q3⟩:=R.at_ _ _ _ ea hm
      have hmu:Mut (H a):=by rw [e3];trivial
      exact zHs pins s σ H _ _ v us Q I rx rs ⟨a,vs,rfl,r2.nil_inv,e3,k ρ _ _ (Ext.wr hmu) (R.wr hmu ea ⟨_,zo, .nil⟩) .non⟩
    · cases e
  · cases e
theorem zus {o:Expr} {apos:Pos} (ho:ME X o φ) (hbase:attributeBase o "clear" X.env (eval o X.env)=eval o X.env:=by rfl) (hline:(apos.endLine == pos.line)=true:=by rfl):ME X (.Call (.Attribute o "clear" apos) [] [] pos) (zyo zkm φ) :=
  zms PySem.F.slot_list_clear PySem.F.type_list_clear zPq ho hbase hline
@[simp] noncomputable def zZh:GM:=fun x ds μ=>match x,ds with
  | .loc n,[d]=>match μ[n]? with
    | some (.lst xs)=>bif zQc d && xs.all zQc then some (.int (xs.countP fun y=>eqF y d:Nat),μ) else none
    | _=>none
  | _,_=>none
theorem zJl {x:V}:∀ {xs:List V} {us:List Value},Vals xs us→xs.all zgi=true→us.countP (eqU x)=xs.countP fun y=>eqV y x
  | _,_, .nil,_=>rfl
  | y :: xs,u :: us, .cons r t,f=>by
    rw [all_cons,Bool.and_eq_true] at f
    rw [countP_cons,countP_cons,zRp r f.1,zJl t f.2]
theorem zBl {K:W.Frag} {ρ:List Addr} {H:Hp} {x:D} {v:V} (rx:RepV K ρ H x v) (fx:zQc x=true):∀ {ds:List D} {vs:List V},RepVs K ρ H ds vs→ds.all zQc=true→(vs.countP fun y=>eqV y v)=ds.countP fun d=>eqF d x
  | [],_,r,_=>by rw [r.nil_inv];rfl
  | d :: ds,_,r,f=>by
    obtain ⟨w,ws,rfl,r1,r2⟩:=r.cons_inv
    rw [all_cons,Bool.and_eq_true] at f
    rw [countP_cons,countP_cons,zBl rx fx r2 f.2,zTq r1 rx f.1 fx]
theorem ziq:MtG X "list.count" zZh:=by
  refine MtG.of fun pins s σ H x xs v us Q I rx rs ρ dx ds μ d μ' r1 r2 R e k=>?_
  unfold zZh at e
  split at e
  · split at e
    · rename_i hm
      obtain ⟨h1,e⟩:=zM e
      rw [Bool.and_eq_true] at h1
      cases e
      obtain ⟨a,rfl,ea⟩:=r1.loc_inv
      obtain ⟨vs,e3,q3⟩:=R.at_ _ _ _ ea hm
      obtain ⟨w,r,rfl,q1,q2⟩:=r2.cons_inv
      rw [q2.nil_inv] at rs
      obtain ⟨u,rfl,ru⟩:=vals1 rs
      cases rx
      obtain ⟨z,its,n,rv,hl,el⟩:=I.lstM e3
      obtain ⟨fv,_⟩:=zsr q1 h1.1 q3 h1.2
      refine call_meets PySem.F.slot_list_count ⟨_,el,rfl⟩ PySem.F.entry_list_count (PySem.F.args_list_count_2 _ _) (SeqAt.list_countAt a its.toArray n _ _ u (eqU w)) ⟨el,fun y hy=>zUh ru (zuk q1 h1.1) rv fv y (by simpa using hy),?_⟩
      refine ⟨.int _,H,I.tok _,⟨_,rfl⟩,?_⟩
      rw [show its.toArray.toList=its by simp,zJl rv fv,zBl q1 h1.1 q3 h1.2]
      exact k ρ H _ Ext.refl R .int
    · cases e
  · cases e
theorem zls {o:Expr} {ψ:FA} {apos:Pos} (ho:ME X o φ) (ha:MAn X (e :: es) ψ)
    (hbase:attributeBase o "count" X.env (eval o X.env)=eval o X.env:=by rfl)
    (hfew:((backTo pos (starEach (e :: es) X.env)).all (fun x=>!x.1) && (backToKw pos (keywordEach [] X.env)).all (fun x=>x.1.isSome)
      && decide ((e :: es).length+([]:List Keyword).length+(if ([]:List Keyword).isEmpty then 0 else 1)<30))=true:=by rfl)
    (hline:(apos.endLine == pos.line)=true:=by rfl) (hs:starEach (e :: es) X.env=(false,eval e X.env) :: starEach es X.env:=by rfl) (hplain:(backTo pos (starEach es X.env)).any (·.1)=false:=by rfl) :
    ME X (.Call (.Attribute o "count" apos) (e :: es) [] pos) (z2e zZh φ ψ):=zzk PySem.F.slot_list_count PySem.F.type_list_count ziq ho ha hbase hfew hline hs hplain
@[simp] noncomputable def zWg:GM:=fun x ds μ=>match x,ds with
  | .loc n,[.int i]=>match μ[n]? with
    | some (.lst xs)=>(z2g xs).bind fun ns=>bif ns.contains i then some (.non,μ.set n (.lst ((ns.erase i).map .int))) else none
    | _=>none
  | _,_=>none
theorem z7n {i:Int}:∀ {ns:List Int},i∈ns→∃ j,∃ hj:j<ns.length,ns[j]=i∧(∀ m (hm:m<ns.length),m<j→ns[m]≠i)∧ns.erase i=ns.eraseIdx j
  | [],h=>by cases h
  | n :: ns,h=>by
    by_cases hn:n=i
    · exact ⟨0,by simp,hn,fun m _ hm=>absurd hm (Nat.not_lt_zero _),by simp [hn]⟩
    · have h':i∈ns:=by
        rcases List.mem_cons.mp h with h | h
        · exact absurd h.symm hn
        · exact h
      obtain ⟨j,hj,e1,e2,e3⟩:=z7n h'
      refine ⟨j+1,by simpa using hj,by simpa using e1,fun m hm hmj=>?_,?_⟩
      · cases m with
        | zero=>simpa using hn
        | succ m=>simpa using e2 m (by simpa using hm) (by first|decide|omega)
      · rw [List.erase_cons_tail (by simpa using hn),e3,List.eraseIdx_cons_succ]
theorem znm {α β:Type} (f:α→β):∀ (l:List α) (j:Nat),(l.eraseIdx j).map f=(l.map f).eraseIdx j
  | [],j=>by simp
  | x :: l,0=>by simp
  | x :: l,j+1=>by simp [znm f l j]
theorem zak:∀ {vs:List V} {us:List Value} (j:Nat),Vals vs us→Vals (vs.eraseIdx j) (us.eraseIdx j)
  | _,_,_, .nil=>by simp;exact .nil
  | _,_,0, .cons r t=>by simpa using t
  | _,_,j+1, .cons r t=>by rw [List.eraseIdx_cons_succ,List.eraseIdx_cons_succ];exact .cons r (zak j t)
theorem zcp:MtG X "list.remove" zWg:=by
  refine MtG.of fun pins s σ H x xs v us Q I rx rs ρ dx ds μ d μ' r1 r2 R e k=>?_
  unfold zWg at e
  split at e
  · rename_i l i
    split at e
    · rename_i hm
      obtain ⟨ns,e2,e⟩:=zf e
      obtain ⟨h1,e⟩:=zM e
      cases e
      rw [zzd e2] at hm
      obtain ⟨a,rfl,ea⟩:=r1.loc_inv
      obtain ⟨vs,e3,q3⟩:=R.at_ _ _ _ ea hm
      rw [zUf q3] at e3
      obtain ⟨w,r,rfl,q1,q2⟩:=r2.cons_inv
      rw [q2.nil_inv,q1.int_inv] at rs
      obtain ⟨u,rfl,ru⟩:=vals1 rs
      obtain ⟨t,rfl⟩:=ru
      cases rx
      obtain ⟨z,its,n,rv,hl,el⟩:=I.lstM e3
      obtain ⟨j,hj,hit,hno,her⟩:=z7n (show i∈ns by simpa using h1)
      have hlen:its.length=ns.length:=by rw [← rv.length];simp
      have at_:∀ m (hm:m<its.length),∃ t,its[m] = .int (ns[m]'(by first|decide|omega)) t:=fun m hm=>by
        have hg:(ns.map V.int)[m]?=some (.int (ns[m]'(by first|decide|omega))):=by simp [show m<ns.length by omega]
        obtain ⟨u,hu,t,ru⟩:=rv.get hg
        exact ⟨t,by rw [← ru];exact (List.getElem?_eq_some_iff.mp hu).2⟩
      let f:Value→Bool:=fun y=>match y with | .int z _=>z == i | _=>false
      have hz':its.length≤sizeLine:=by rw [← rv.length];exact z
      refine call_meets PySem.F.slot_list_remove ⟨_,el,rfl⟩ PySem.F.entry_list_remove (PySem.F.args_list_remove_2 _ _)
        (MeetsSeq.list_remove a its.toArray n (.int i t) f (fun y hy=>?_) j (by simp;omega) ?_ (fun m hm hmj=>?_) (by simpa using hz')) ⟨el,?_⟩
      · obtain ⟨m,hm,rfl⟩:=List.mem_iff_getElem.mp (show y∈its by simpa using hy)
        obtain ⟨t',e'⟩:=at_ m hm
        rw [e']
        exact MeetsSeq.EqGives.int _ _ _ _
      · obtain ⟨t',e'⟩:=at_ j (by first|decide|omega)
        show f its[j]=true
        rw [e']
        simp [f,hit]
      · have hm':m<its.length:=by simpa using hm
        obtain ⟨t',e'⟩:=at_ m hm'
        show f its[m]=false
        rw [e']
        simpa [f] using hno m (by first|decide|omega) hmj
      · have hmu:Mut (H a):=by rw [e3];trivial
        refine ⟨.non,_,I.lset (t':=s.toks) (ys:=(ns.erase i).map V.int) (its':=its.eraseIdx j) e3 el ?_ ?_ ?_,rfl,k ρ _ _ (Ext.wr hmu) (R.wr hmu ea ⟨_,zo,zDe⟩) .non⟩
        · simp [Array.eraseIdxIfInBounds,show j<its.length by omega]
        · rw [her,znm]
          exact zak j rv
        · have:(ns.erase i).length≤ns.length:=by rw [her];exact List.length_eraseIdx_le _ _
          rw [length_map] at z ⊢
          omega
    · cases e
  · cases e
theorem zdr {o:Expr} {ψ:FA} {apos:Pos} (ho:ME X o φ) (ha:MAn X (e :: es) ψ)
    (hbase:attributeBase o "remove" X.env (eval o X.env)=eval o X.env:=by rfl)
    (hfew:((backTo pos (starEach (e :: es) X.env)).all (fun x=>!x.1) && (backToKw pos (keywordEach [] X.env)).all (fun x=>x.1.isSome)
      && decide ((e :: es).length+([]:List Keyword).length+(if ([]:List Keyword).isEmpty then 0 else 1)<30))=true:=by rfl)
    (hline:(apos.endLine == pos.line)=true:=by rfl) (hs:starEach (e :: es) X.env=(false,eval e X.env) :: starEach es X.env:=by rfl) (hplain:(backTo pos (starEach es X.env)).any (·.1)=false:=by rfl) :
    ME X (.Call (.Attribute o "remove" apos) (e :: es) [] pos) (z2e zWg φ ψ):=zzk PySem.F.slot_list_remove PySem.F.type_list_remove zcp ho ha hbase hfew hline hs hplain
@[simp] noncomputable def ziw (i:Nat) (g:G2) (φ:FE):FS:=fun δ μ=>match δ[i]? with
  | some (some x)=>(φ δ μ).bind fun p=>(g x p.1 p.2).bind fun q=>some (.next (δ.set i (some q.1)) q.2)
  | _=>none
noncomputable def zEr:G2:=fun x y μ=>match x,y with
  | .int i, .int j=>some (.int (i+j),μ)
  | _,_=>none
theorem ztu:OpM X (inplaceOp .Add) zEr:=by
  refine OpM.of fun pins s σ H x y v u Q I rx ry ρ dx dy μ d μ' r1 r2 R e k=>?_
  unfold zEr at e
  split at e
  · cases e
    exact zKu pins s σ H x y v u Q I rx ry ⟨_,_,r1.int_inv,r2.int_inv,k ρ H _ Ext.refl R .int⟩
  · cases e
theorem zcw {x:Str} {op:Operator} {g:G2} {pos':Pos} (i:Nat) (ho:OpM X (inplaceOp op) g) (he:ME X e φ) (hN:X.N.Nodup:=by assumption) (hi:X.N[i]?=some x:=by rfl) (hx:L2.Loc X.env.scope x:=by first | exact Or.inl rfl | exact Or.inr rfl)
    (hf:X.fn x=true∨X.env.scope.names.lookup x=some .local:=by first | exact .inl rfl | exact .inr rfl | assumption):MS X (.AugAssign (.Name x pos') op e pos) (ziw i g φ) :=
  zik (zZu (ti:=rM X.K g) hN hi hx he (fun pins s σ H x y v u Q I rx ry q=>ho pins s σ H x y v u Q I rx ry q) hf) fun ρ δ μ σ H o E A e k=>by
    unfold ziw at e
    split at e
    · rename_i d hd
      obtain ⟨v,hv,rv⟩:=A.st i _ hd
      obtain ⟨⟨y,μ1⟩,e1,e⟩:=zf e
      obtain ⟨⟨z,μ2⟩,e2,e⟩:=zf e
      cases e
      refine ⟨v,hv,ρ,δ,μ,y,μ1,A,e1,fun ρ1 H1 w x1 R1 r1=>?_⟩
      refine ⟨ρ1,d,y,μ1,z,μ2,rv.ext x1,r1,R1,e2,fun ρ2 H2 w2 x2 R2 r2=>?_⟩
      exact k ρ2 _ H2 (x1.trans x2) ((A.ext (x1.trans x2) R2).set r2 i)
    · cases e
noncomputable def zyb (c:FT) (body:FS):Nat→FS
  | 0,_,_=>none
  | n+1,δ,μ=>(c δ μ).bind fun p=>bif p.1 then (match body δ p.2 with
    | some (.next δ' μ')=>zyb c body n δ' μ'
    | some (.cont δ' μ')=>zyb c body n δ' μ'
    | some (.brk δ' μ')=>some (.next δ' μ')
    | some (.ret d μ')=>some (.ret d μ')
    | some (.exc C fs μ')=>some (.exc C fs μ')
    | none=>none) else some (.next δ p.2)
noncomputable def zhm (n:Nat) (c:FT) (body:FS):FS:=zyb c body n
theorem z4k {body:List Stmt} {t:FT} {p:FS} (n:Nat) (hc:MT X c t) (hb:MSs X body p) (hx:PassesOwn (model X.prog X.w) X.A X.env X.xe:=by first | exact PassesOwn.never | exact PassesOwn.leaving):MS X (.While c body [] pos) (zhm n t p) :=
  zik (zjs hx hc hb) fun ρ δ μ σ H o E A e k=>by
    refine ⟨fun m σ' H'=>∃ ρ' δ' μ',Ext ρ H ρ' H'∧At X.K ρ' H' σ' δ' μ'∧zyb t p m δ' μ'=some o,⟨n,ρ,δ,μ,Ext.refl,A,e⟩,?_⟩
    rintro m σ' H' ⟨ρ',δ',μ',x',A',ew⟩
    cases m with
    | zero=>cases ew
    | succ m =>
      unfold zyb at ew
      obtain ⟨⟨b,μ1⟩,e1,ew⟩:=zf ew
      refine ⟨ρ',δ',μ',b,μ1,A',e1,fun ρ1 H1 x1 R1=>?_⟩
      have xx:=x'.trans x1
      cases b with
      | false =>
        cases ew
        exact iteF (k ρ1 σ' H1 xx (A'.ext x1 R1))
      | true =>
        refine iteT ⟨fun σ3 H3=>∃ ρ3 δ3 μ3,Ext ρ H ρ3 H3∧At X.K ρ3 H3 σ3 δ3 μ3∧zyb t p m δ3 μ3=some o,fun σ3 H3 q=>⟨m,Nat.lt_succ_self _,q⟩,?_⟩
        dsimp only [cond_true] at ew
        cases eb:p δ' μ1 with
        | none=>rw [eb] at ew;cases ew
        | some ob =>
          rw [eb] at ew
          refine ⟨ρ1,δ',μ1,ob,A'.ext x1 R1,eb,?_⟩
          cases ob with
          | next δ6 μ6=>exact fun ρ6 σ6 H6 x6 A6=>⟨ρ6,δ6,μ6,xx.trans x6,A6,ew⟩
          | cont δ6 μ6=>exact fun ρ6 σ6 H6 x6 A6=>⟨ρ6,δ6,μ6,xx.trans x6,A6,ew⟩
          | brk δ6 μ6=>cases ew;exact k.ext xx
          | ret d μ6=>cases ew;exact k.ext xx
          | exc C fs μ6=>cases ew;exact k.ext xx
end
section
variable {X:Cx} {a b c e:Expr} {es:List Expr} {φ ψ χ:FE} {pos:Pos}
end
end M
namespace L2
open PySem PySem.Spec PyProof.Rows
section
variable {κ:Type} [DecidableEq κ]
noncomputable def zco (kvs:List (κ × V)) (k:κ):Option V:=(kvs.find? fun kv=>decide (kv.1=k)).map (·.2)
noncomputable def ztp (kvs:List (κ × V)) (k:κ) (v:V):List (κ × V) :=
  if (kvs.any fun kv=>decide (kv.1=k))=true then kvs.map (fun kv=>if kv.1=k then (kv.1,v) else kv) else kvs ++ [(k,v)]
theorem zSn {p:κ × V} {r:List (κ × V)} {k:κ} (e:p.1=k):zco (p :: r) k=some p.2:=by simp [zco,List.find?_cons,e]
theorem zvo {p:κ × V} {r:List (κ × V)} {k:κ} (e:¬ p.1=k):zco (p :: r) k=zco r k:=by simp [zco,List.find?_cons,e]
theorem zun (kvs:List (κ × V)) (k:κ) (v:V):(ztp kvs k v).length≤kvs.length+1:=by
  unfold ztp
  split
  · rw [length_map];omega
  · rw [length_append,length_cons,List.length_nil];omega
theorem RelO.isSome_eq {o:Option V} {u:Option Value} (r:RelO o u):o.isSome=u.isSome:=by
  cases o with
  | none=>cases u with
    | none=>rfl
    | some _=>exact (show False from r).elim
  | some _=>cases u with
    | none=>exact (show False from r).elim
    | some _=>rfl
theorem KV.val {kvs:List (κ × V)} {vs:List (κ × Value)} (r:KV kvs vs) (k:κ):RelO (zco kvs k) (valueAt vs k):=by
  unfold KV at r
  induction r with
  | nil=>exact True.intro
  | @cons p q ps qs h t ih =>
    obtain ⟨h1,h2⟩:=h
    by_cases e:p.1=k
    · have e':q.1=k:=h1.symm.trans e
      have b:valueAt (q :: qs) k=some q.2:=by simp [valueAt,List.find?_cons,e']
      rw [zSn e,b];exact h2
    · have e':¬ q.1=k:=fun z=>e (h1.trans z)
      have b:valueAt (q :: qs) k=valueAt qs k:=by simp [valueAt,List.find?_cons,e']
      rw [zvo e,b];exact ih
theorem KV.any {kvs:List (κ × V)} {vs:List (κ × Value)} (r:KV kvs vs) (k:κ):(kvs.any fun kv=>decide (kv.1=k))=vs.any fun kv=>decide (kv.1=k):=by
  unfold KV at r
  induction r with
  | nil=>rfl
  | cons h t ih=>rw [any_cons,any_cons,ih,h.1]
theorem KV.repl {kvs:List (κ × V)} {vs:List (κ × Value)} (r:KV kvs vs) (k:κ) {y:V} {u:Value} (ry:RelV y u) :
    KV (kvs.map fun kv=>if kv.1=k then (kv.1,y) else kv) (vs.map fun kv=>if kv.1=k then (kv.1,u) else kv):=by
  unfold KV at r ⊢
  induction r with
  | nil=>exact .nil
  | @cons p q ps qs h t ih =>
    rw [map_cons,map_cons]
    refine .cons ?_ ih
    obtain ⟨h1,h2⟩:=h
    by_cases e:p.1=k
    · rw [if_pos e,if_pos (h1.symm.trans e)];exact ⟨h1,ry⟩
    · rw [if_neg e,if_neg (fun z=>e (h1.trans z))];exact ⟨h1,h2⟩
theorem KV.put {kvs:List (κ × V)} {vs:List (κ × Value)} (r:KV kvs vs) (k:κ) {y:V} {u:Value} (ry:RelV y u):KV (ztp kvs k y) (stored vs k u):=by
  unfold ztp stored
  rw [r.any k]
  by_cases e:(vs.any fun kv=>decide (kv.1=k))=true
  · rw [if_pos e,if_pos e];exact r.repl k ry
  · rw [if_neg e,if_neg e];exact Paired.snoc r ⟨rfl,ry⟩
theorem KV.keys {kvs:List (κ × V)} {vs:List (κ × Value)} (r:KV kvs vs):kvs.map (·.1)=vs.map (·.1):=by
  unfold KV at r
  induction r with
  | nil=>rfl
  | cons h t ih=>rw [map_cons,map_cons,ih,h.1]
theorem KV.length {kvs:List (κ × V)} {vs:List (κ × Value)} (r:KV kvs vs):kvs.length=vs.length:=Paired.length r
end
theorem zGr {P:Program} {w:World} {k:Key} {u:Value} (r:RelV (kV k) u):(zwb P w).is k u=true:=by
  cases k with
  | inl i=>obtain ⟨t,e⟩:=(show ∃ t,u=Value.int i t from r);subst e;exact zmn P w i t
  | inr x=>obtain ⟨t,e⟩:=(show ∃ t,u=Value.str x t from r);subst e;exact zcn P w x t
theorem z4u {P:Program} {w:World} {H:Hp} {h:Heap} {a:Addr} {kvs:List (Key×V)} (ok:HOk P w H h) (e:H a=some (.dK kvs)):kvs.length≤sizeLine∧(a == sysModules)=false∧∃ vs,KV kvs vs∧h.DictOf (zwb P w) a vs :=
  show ObjOk P w H h a (.dK kvs) from ok a _ e
end L2
namespace M
open PySem PySem.Spec PyProof.Rows L2
noncomputable def zSc (kvs:List (Int×D)) (i:Int):Option D:=(kvs.find? fun p=>decide (p.1=i)).map (·.2)
noncomputable def zSp (kvs:List (Int×D)) (i:Int) (d:D):List (Int×D):=if (kvs.any fun p=>decide (p.1=i))=true then kvs.map (fun p=>if p.1=i then (p.1,d) else p) else kvs ++ [(i,d)]
@[simp] noncomputable def zSb (μ:Mem):D→Option (List (Int×D))
  | .loc n=>match μ[n]? with
    | some (.dct kvs)=>some kvs
    | some (.dcf kvs)=>some kvs
    | _=>none
  | _=>none
def RdK (H:Hp) (a:Addr) (vs:List (Key×V)):Prop:=H a=some (.dK vs)∨∃ o,H a=some (.frz o (.dK vs))
theorem zni {P:Program} {w:World} {H:Hp} {h:Heap} {a:Addr} {kvs:List (Key×V)} (ok:HOk P w H h) (e:RdK H a kvs):kvs.length≤sizeLine∧(a == sysModules)=false∧∃ vs,KV kvs vs∧h.DictOf (zwb P w) a vs:=by
  rcases e with e | ⟨o,e⟩
  · exact z4u ok e
  · exact (show ObjOk P w H h a (.frz o (.dK kvs)) from ok a _ e).2
section
variable {K:W.Frag} {ρ:List Addr} {H:Hp} {μ:Mem}
theorem zCf {d:D} {v:V} {kvs:List (Int×D)} (R:RepH K ρ H μ) (r:RepV K ρ H d v) (e:zSb μ d=some kvs):∃ p vs,v = .ref p∧RdK H p vs∧vs.map (·.1)=kvs.map (fun p=>Sum.inl p.1)∧RepVs K ρ H (kvs.map (·.2)) (vs.map (·.2)):=by
  unfold zSb at e
  split at e
  · split at e
    · rename_i hm
      cases e
      obtain ⟨a,e1,e2⟩:=r.loc_inv
      obtain ⟨vs,e3,q1,q2⟩:=R.at_ _ _ _ e2 hm
      exact ⟨a,vs,e1, .inl e3,q1,q2⟩
    · rename_i hm
      cases e
      obtain ⟨a,e1,e2⟩:=r.loc_inv
      obtain ⟨o,vs,e3,q1,q2⟩:=R.at_ _ _ _ e2 hm
      exact ⟨a,vs,e1, .inr ⟨o,e3⟩,q1,q2⟩
    · cases e
  · cases e
theorem zlk:∀ {kvs:List (Int×D)} {vs:List (Key×V)} (i:Int),vs.map (·.1)=kvs.map (fun p=>Sum.inl p.1)→RepVs K ρ H (kvs.map (·.2)) (vs.map (·.2)) →
    (∀ d,zSc kvs i=some d→∃ v,zco vs (Sum.inl i)=some v∧RepV K ρ H d v)∧(zSc kvs i=none→zco vs (Sum.inl i)=none)
  | [],vs,i,h1,h2=>by
    have:vs = []:=by simpa using h1
    subst this
    exact ⟨fun d h=>(by cases h),fun _=>rfl⟩
  | (j,d) :: kvs,vs,i,h1,h2=>by
    cases vs with
    | nil=>simp at h1
    | cons q vs =>
      obtain ⟨k,v⟩:=q
      rw [map_cons,map_cons,List.cons.injEq] at h1
      obtain ⟨hk,h1⟩:=h1
      have hk:k=Sum.inl j:=hk
      subst hk
      obtain ⟨v',r,e,q1,q2⟩:=h2.cons_inv
      rw [map_cons,List.cons.injEq] at e
      obtain ⟨e1,e2⟩:=e
      subst e2
      have e1:v=v':=e1
      subst e1
      obtain ⟨ih1,ih2⟩:=zlk i h1 q2
      by_cases hj:j=i
      · subst hj
        have a1:zSc ((j,d) :: kvs) j=some d:=by simp [zSc]
        have a2:zco ((Sum.inl j,v) :: vs) (Sum.inl j)=some v:=zSn rfl
        rw [a1,a2]
        exact ⟨fun d' h=>(by cases h;exact ⟨v,rfl,q1⟩),fun h=>(by cases h)⟩
      · have a1:zSc ((j,d) :: kvs) i=zSc kvs i:=by simp [zSc,hj]
        have a2:zco ((Sum.inl j,v) :: vs) (Sum.inl i)=zco vs (Sum.inl i):=zvo (fun z=>hj (by simpa using z))
        rw [a1,a2]
        exact ⟨ih1,ih2⟩
theorem zqs (kvs:List (Int×D)) (vs:List (Key×V)) (i:Int) (d:D) (v:V) (h:vs.map (·.1)=kvs.map (fun p=>Sum.inl p.1)):(ztp vs (Sum.inl i) v).map (·.1)=(zSp kvs i d).map (fun p=>Sum.inl p.1):=by
  have hany:(vs.any fun kv=>decide (kv.1=Sum.inl i))=kvs.any fun p=>decide (p.1=i):=by
    have e1:(vs.any fun kv=>decide (kv.1=Sum.inl i))=(vs.map (·.1)).any fun k=>decide (k=Sum.inl i):=by rw [any_map];rfl
    rw [e1,h,any_map]
    congr 1
    funext p
    simp
  unfold ztp zSp
  rw [hany]
  split
  · rw [map_map,map_map]
    have e1:(fun x:Key×V=>x.1) ∘ (fun kv=>if kv.1=Sum.inl i then (kv.1,v) else kv)=fun x=>x.1:=by
      funext x;simp only [Function.comp];split <;> rfl
    have e2:(fun p:Int×D=>(Sum.inl p.1:Key)) ∘ (fun p=>if p.1=i then (p.1,d) else p)=fun p=>Sum.inl p.1:=by
      funext x;simp only [Function.comp];split <;> rfl
    rw [e1,e2];exact h
  · simp [h]
theorem zko:∀ (kvs:List (Int×D)) (vs:List (Key×V)) (i:Int) {d:D} {v:V},RepV K ρ H d v→vs.map (·.1)=kvs.map (fun p=>Sum.inl p.1)→RepVs K ρ H (kvs.map (·.2)) (vs.map (·.2)) →
    RepVs K ρ H ((kvs.map fun p=>if p.1=i then (p.1,d) else p).map (·.2)) ((vs.map fun kv=>if kv.1=Sum.inl i then (kv.1,v) else kv).map (·.2))
  | [],vs,i,d,v,r,h1,h2=>by
    have:vs = []:=by simpa using h1
    subst this
    exact .nil
  | (j,e) :: kvs,vs,i,d,v,r,h1,h2=>by
    cases vs with
    | nil=>simp at h1
    | cons q vs =>
      obtain ⟨k,u⟩:=q
      rw [map_cons,map_cons,List.cons.injEq] at h1
      obtain ⟨hk,h1⟩:=h1
      have hk:k=Sum.inl j:=hk
      subst hk
      obtain ⟨v',r',e',q1,q2⟩:=h2.cons_inv
      rw [map_cons,List.cons.injEq] at e'
      obtain ⟨e1,e2⟩:=e'
      subst e2
      have e1:u=v':=e1
      subst e1
      have ih:=zko kvs vs i r h1 q2
      simp only [map_cons]
      by_cases hj:j=i
      · subst hj
        rw [if_pos rfl,if_pos rfl]
        exact .cons r ih
      · rw [if_neg hj,if_neg (fun z=>hj (by simpa using z))]
        exact .cons q1 ih
theorem zMt {kvs:List (Int×D)} {vs:List (Key×V)} {i:Int} {d:D} {v:V} (r:RepV K ρ H d v) (h1:vs.map (·.1)=kvs.map (fun p=>Sum.inl p.1)) (h2:RepVs K ρ H (kvs.map (·.2)) (vs.map (·.2))) :
    RepVs K ρ H ((zSp kvs i d).map (·.2)) ((ztp vs (Sum.inl i) v).map (·.2)):=by
  have hany:(vs.any fun kv=>decide (kv.1=Sum.inl i))=kvs.any fun p=>decide (p.1=i):=by
    have e1:(vs.any fun kv=>decide (kv.1=Sum.inl i))=(vs.map (·.1)).any fun k=>decide (k=Sum.inl i):=by rw [any_map];rfl
    rw [e1,h1,any_map]
    congr 1
    funext p
    simp
  unfold ztp zSp
  rw [hany]
  split
  · exact zko kvs vs i r h1 h2
  · simp only [map_append,map_cons,List.map_nil]
    exact h2.append (.cons r .nil)
end
section
variable {X:Cx} {a b c e:Expr} {es:List Expr} {φ ψ χ:FE} {pos:Pos}
@[simp] noncomputable def zJu:G2:=fun x y μ=>match y with
  | .int i=>(zSb μ x).bind fun kvs=>(zSc kvs i).bind fun d=>some (d,μ)
  | _=>none
theorem zzt {pins:List (Addr×Obj)} {s:Shared} {σ:L2.St} {H:Hp} {p:Addr} {vs:List (Key×V)} {k:Key} {v:V} {u:Value} {A:Around} {E:Value→Shared→Prop} {Q:Value→Shared→Prop} (I:Inv X pins σ H s) (e:RdK H p vs) (l:zco vs k=some v) (ry:RelV (kV k) u)
    (h:∀ w' s',Inv X pins σ H s'→RelV v w'→Q w' s'):wpAny (model X.prog X.w) A (getItem (.ref p) u) Q E s:=by
  obtain ⟨z,hd,us,rel,dd⟩:=zni I.hok e
  obtain ⟨w',hw,rw'⟩:=RelO.some_of (v:=v) (o:=valueAt us k) (by rw [← l];exact rel.val k)
  exact wpAny_getItem_of (zGr ry) dd.mapOf hw (h w' _ (I.tok _) rw')
theorem ixD:IxR X (rM X.K zJu):=by
  intro value slice pins s σ H x y v u Q I rx ry ⟨ρ,dx,dy,μ,d,μ',r1,r2,R,e,k⟩ hs
  unfold zJu at e
  split at e
  · rename_i i
    obtain ⟨kvs,e1,e⟩:=zf e
    obtain ⟨d',e2,e⟩:=zf e
    cases e
    obtain ⟨p,vs,rfl,hq,q1,q2⟩:=zCf R r1 e1
    obtain ⟨w',e3,rw'⟩:=(zlk i q1 q2).1 _ e2
    cases rx
    rw [r2.int_inv] at ry
    have hT:s.TypeIs (.ref p) "dict":=by
      obtain ⟨_,_,us,_,dd⟩:=zni I.hok hq
      exact dd.typeIs
    unfold subscriptTail
    refine wpAny_bind ?_
    rw [getitemInPython_of_ne hT.not_modules]
    refine wpAny_bind (wpAny_specialOf hT PySem.F.slot_dict_getitem.lookup ?_)
    have fin:wpAny (model X.prog X.w) X.A (subscripted slice false (.ref p) u) (fun r s₃=>wpAny (model X.prog X.w) X.A (letTemporaryGo value (.ref p) r >>= fun _=>pure r) (EP X pins σ Q) X.xe s₃) X.xe s:=by
      rw [hs]
      exact wpAny_operating (zzt I hq e3 ry fun w2 s2 I2 r2=>wpAny_bind (wpAny_letTemporaryGo (wpAny_pure ⟨_,H,I2,r2,k ρ H _ Ext.refl R rw'⟩)))
    first
      | exact wpAny_pure (wpAny_bind fin)
      | exact wpAny_bind (wpAny_pure (wpAny_bind fin))
      | exact wpAny_bind fin
  · cases e
theorem z8s (ha:ME X a φ) (hb:ME X b ψ) (hs:zkn b:=by intro _ _;rfl):ME X (.Subscript a b pos) (zu zJu φ ψ) :=
  zcd (zxv ixD ha hb hs) fun _ _ _ _ _ _ _ _ A e k=>zfq A e k
@[simp] noncomputable def zHx:G2:=fun x y μ=>match x with
  | .int i=>(zSb μ y).bind fun kvs=>some (.bl (zSc kvs i).isSome,μ)
  | _=>none
@[simp] noncomputable def zki:G2:=fun x y μ=>match x with
  | .int i=>(zSb μ y).bind fun kvs=>some (.bl (!(zSc kvs i).isSome),μ)
  | _=>none
theorem zwv {pins:List (Addr×Obj)} {s:Shared} {σ:L2.St} {H:Hp} {p:Addr} {vs:List (Key×V)} {k:Key} {u:Value} {A:Around} {E:Value→Shared→Prop} {Q:Value→Shared→Prop} (I:Inv X pins σ H s) (e:RdK H p vs) (ry:RelV (kV k) u)
    (h:∀ s',Inv X pins σ H s'→Q (.bool (zco vs k).isSome) s'):wpAny (model X.prog X.w) A (compareOp .In u (.ref p)) Q E s:=by
  obtain ⟨z,hd,us,rel,dd⟩:=zni I.hok e
  refine wpAny_in_of (zGr ry) hd dd.mapOf ?_
  rw [← (rel.val k).isSome_eq]
  exact h _ (I.tok _)
theorem zNn {K:W.Frag} {ρ:List Addr} {H:Hp} {kvs:List (Int×D)} {vs:List (Key×V)} (i:Int) (q1:vs.map (·.1)=kvs.map (fun p=>Sum.inl p.1)) (q2:RepVs K ρ H (kvs.map (·.2)) (vs.map (·.2))):(zco vs (Sum.inl i)).isSome=(zSc kvs i).isSome:=by
  obtain ⟨h1,h2⟩:=zlk i q1 q2
  cases e:zSc kvs i with
  | none=>rw [h2 e];rfl
  | some d =>
    obtain ⟨v,ev,_⟩:=h1 d e
    rw [ev];rfl
theorem zGt:OpM X (compareOp .In) zHx:=by
  refine OpM.of fun pins s σ H x y v u Q I rx ry ρ dx dy μ d μ' r1 r2 R e k=>?_
  unfold zHx at e
  split at e
  · rename_i i
    obtain ⟨kvs,e1,e⟩:=zf e
    cases e
    obtain ⟨p,vs,rfl,hq,q1,q2⟩:=zCf R r2 e1
    cases ry
    rw [r1.int_inv] at rx
    refine zwv (k:=Sum.inl i) I hq rx fun s' I'=>⟨.bl _,H,I',rfl,?_⟩
    rw [zNn i q1 q2]
    exact k ρ H _ Ext.refl R .bl
  · cases e
theorem zJo:OpM X (compareOp .NotIn) zki:=by
  refine OpM.of fun pins s σ H x y v u Q I rx ry ρ dx dy μ d μ' r1 r2 R e k=>?_
  unfold zki at e
  split at e
  · rename_i i
    obtain ⟨kvs,e1,e⟩:=zf e
    cases e
    obtain ⟨p,vs,rfl,hq,q1,q2⟩:=zCf R r2 e1
    cases ry
    rw [r1.int_inv] at rx
    obtain ⟨z,hd,us,rel,dd⟩:=zni I.hok hq
    refine wpAny_notIn_of (zGr (k:=Sum.inl i) rx) hd dd.mapOf ⟨.bl _,H,I.tok _,rfl,?_⟩
    rw [← (rel.val (Sum.inl i)).isSome_eq,zNn i q1 q2]
    exact k ρ H _ Ext.refl R .bl
  · cases e
end
section
variable {X:Cx} {a b c e:Expr} {es:List Expr} {φ ψ χ:FE} {pos:Pos}
@[simp] noncomputable def zxw (φ ψ:FE):FG:=fun d δ μ=>(φ δ μ).bind fun p=>(ψ δ p.2).bind fun q=>match p.1,q.1 with
  | .loc n, .int i=>match q.2[n]? with
    | some (.dct kvs)=>bif decide (kvs.length≤1000000) then some (δ,q.2.set n (.dct (zSp kvs i d))) else none
    | _=>none
  | _,_=>none
theorem zas:z9w X (fun o i v H Q=>∃ p vs k,o = .ref p∧i=kV k∧H p=some (.dK vs)∧vs.length<sizeLine∧Q (upd H p (.dK (ztp vs k v)))):=by
  intro pins s σ H o i v ov iv u Q I ro ri rv ⟨p,vs,k,e1,e2,e3,hl,q⟩
  subst e1 e2
  cases ro
  obtain ⟨z,hd,us,rel,dd⟩:=z4u I.hok e3
  have hz:us.length≤sizeLine:=by rw [← rel.length];exact z
  have hl':(ztp vs k v).length≤sizeLine:=by have:=zun vs k v;omega
  refine wpAny_setItem_pairs (hsz:=hz) (zGr ri) dd fun h' dd' hs=>⟨_,I.write (x:=p) (e:=p) (by rw [e3];exact True.intro) (.inl rfl) (fun b q hb z=>(hs.2 b hb).trans z) ?_ (show ObjOk X.prog X.w _ h' p (.dK (ztp vs k v)) from ⟨hl',hd,_,rel.put k rv,dd'⟩),q⟩
  obtain ⟨q,_,_,hq,_⟩:=dd'
  exact ⟨q,hq⟩
theorem zht {o i:Expr} (ho:ME X o φ) (hi:ME X i ψ) (ha:∀ v,assign (.Subscript o i pos) X.env v=(do
      let ov ← holding [v] (eval o X.env)
      let iv ← holding [v,ov] (eval i X.env)
      standAt pos
      holding [v,ov,iv] (setItem ov iv v)
      release [v,ov,iv] []):=by intro _;rfl):MG X (.Subscript o i pos) (zxw φ ψ) :=
  mg_of (z2s ho hi zas ha) fun ρ δ μ d δ' μ' v σ H Q A q e k=>by
    obtain ⟨⟨x,μ1⟩,e1,e⟩:=zf e
    obtain ⟨⟨y,μ2⟩,e2,e⟩:=zf e
    refine ⟨ρ,δ,μ,x,μ1,A,e1,fun ρ1 H1 v1 x1 R1 r1=>?_⟩
    refine ⟨ρ1,δ,μ1,y,μ2,A.ext x1 R1,e2,fun ρ2 H2 v2 x2 R2 r2=>?_⟩
    dsimp only at e
    split at e
    · rename_i n j _
      split at e
      · rename_i kvs hm
        obtain ⟨h1,e⟩:=zM e
        have h1:=of_decide_eq_true h1
        cases e
        obtain ⟨ad,rfl,hr⟩:=(r1.ext x2).loc_inv
        obtain ⟨vs,hv,q1,q2⟩:=R2.at_ _ _ _ hr hm
        have hmu:Mut (H2 ad):=by rw [hv];trivial
        have hlen:vs.length=kvs.length:=by
          have:=congrArg List.length q1
          simpa using this
        have hmi:=million
        refine ⟨ad,vs,Sum.inl j,rfl,r2.int_inv,hv,by first|decide|omega,?_⟩
        have xx:=x1.trans x2
        have R3:=R2.wr (o := .dK (ztp vs (Sum.inl j) v)) (lo := .dct (zSp kvs j d)) hmu hr ⟨_,zo,zqs kvs vs j d v q1,RepVs.ext (Ext.wr hmu) (zMt (q.ext xx) q1 q2)⟩
        exact k ρ2 σ _ (xx.trans (Ext.wr hmu)) (A.ext (xx.trans (Ext.wr hmu)) R3)
      · cases e
    · cases e
noncomputable def zqi (kvs:List (Int×D)):List D:=kvs.map fun p => .int p.1
@[simp] noncomputable def zem:GL:=fun ds μ=>match ds with
  | [x]=>(zSb μ x).bind fun kvs=>some (.loc μ.length,μ ++ [.lst (zqi kvs)])
  | _=>none
theorem zHu {P:Program} {w:World} {H:Hp} {h:Heap} {p:Addr} {vs:List (Key×V)} (ok:HOk P w H h) (e:RdK H p vs):∃ us ep,KV vs us∧h.DictAt (zwb P w) p us ep:=by
  obtain ⟨_,_,us,rel,o,es,ep,h1,h2,h3,h4⟩:=zni ok e
  exact ⟨us,ep,rel,o,es,h1,h2,h3,h4⟩
theorem z9l {P:Program} {w:World}:∀ {vs:List (Key×V)} {us:List (Key×Value)} {its:List Value},KV vs us→its.length=us.length→(∀ (j:Nat) (v:Value),its[j]?=some v→∃ (k:Key) (x:Value),us[j]?=some (k,x)∧(zwb P w).is k v=true)→Vals (vs.map fun p=>kV p.1) its
  | [],us,its,r,hl,h=>by
    cases r
    have:its = []:=List.length_eq_zero_iff.mp (by simpa using hl)
    subst this
    exact .nil
  | p :: vs,us,its,r,hl,h=>by
    cases r with
    | @cons _ q _ qs hq t =>
      cases its with
      | nil=>simp at hl
      | cons i its =>
        refine .cons ?_ (z9l t (by simpa using hl) fun j v e=>by
          obtain ⟨k,x,h1,h2⟩:=h (j+1) v (by simpa using e)
          exact ⟨k,x,by simpa using h1,h2⟩)
        obtain ⟨k,x,h1,h2⟩:=h 0 i rfl
        have e:q=(k,x):=by simpa using h1
        have ek:p.1=k:=by rw [hq.1,e]
        show RelV (kV p.1) i
        rw [ek]
        cases k with
        | inl n =>
          rcases zW ((zBg P w _ _).symm.trans h2) with ⟨j,t,e1,e2⟩ | ⟨j,t,e1,e2⟩
          · cases e1;exact ⟨t,e2⟩
          · cases e1
        | inr n =>
          rcases zW ((zBg P w _ _).symm.trans h2) with ⟨j,t,e1,e2⟩ | ⟨j,t,e1,e2⟩
          · cases e1
          · cases e1;exact ⟨t,e2⟩
theorem zXm (hc:X.calm=true):CallM X (.type "list") zem:=by
  refine CallM.of fun pins s σ H xs us Q I r ρ ds μ d μ' r1 R e k=>?_
  unfold zem at e
  split at e
  · obtain ⟨kvs,e1,e⟩:=zf e
    cases e
    obtain ⟨v,rr,rfl,q1,q2⟩:=r1.cons_inv
    rw [q2.nil_inv] at r
    obtain ⟨p,vs,rfl,hq,w1,w2⟩:=zCf R q1 e1
    obtain ⟨u,rfl,ru⟩:=vals1 r
    cases ru
    obtain ⟨hz,hd,_⟩:=zni I.hok hq
    obtain ⟨us',ep,rel,da⟩:=zHu I.hok hq
    have hl:=rel.length
    refine W.kdl_call (W.kdl_dict hd) (I.ok.hd hc) da (by first|decide|omega) fun h' tk acc' c' kp e2 hi=>?_
    obtain ⟨hi1,hi2⟩:=hi
    have hv:=z9l (P:=X.prog) (w:=X.w) (its:=acc'.toList) rel (by simpa using hi1) fun j v e=>hi2 j v (by simpa using e)
    have hkv:(vs.map fun p=>kV p.1)=(kvs.map fun p=>V.int p.1):=by
      have:(vs.map (·.1)).map kV=(kvs.map fun p=>(Sum.inl p.1:Key)).map kV:=by rw [w1]
      rw [map_map,map_map] at this
      exact this
    rw [hkv] at hv
    have hlk:kvs.length=vs.length:=by
      have:=congrArg List.length w1
      simpa using this.symm
    have hf:=I.fresh
    refine ⟨.ref s.heap.objs.size,_,I.laid (t':=tk) kp (Nat.le_refl _) (show ObjOk X.prog X.w _ h' _ (.lst _) from ⟨by simp;omega,acc'.toList,c',hv,by simpa using e2⟩),rfl,k _ _ _ (Ext.push hf) (R.push hf ⟨_,zo,?_⟩) (.loc (zvb R))⟩
    have hr:=fun ρ H=>@zDe X.K ρ H (kvs.map (·.1))
    simp only [map_map] at hr
    exact hr _ _
  · cases e
end
noncomputable def Itd (a:Addr) (o:Obj) (vs:List (Key×V)):It:=⟨fun i H=>H a=some (.frz o (.dK vs))∧i<vs.length,fun i H x H'=>H'=H∧∃ p,vs[i]?=some p∧x=kV p.1,fun i H=>H a=some (.frz o (.dK vs))∧vs.length≤i⟩
theorem zFn {P:Program} {w:World} {H:Hp} {h:Heap} {a:Addr} {o:Obj} {vs:List (Key×V)} {es:Array DictEntry} {ep:Nat} (ok:HOk P w H h) (e:H a=some (.frz o (.dK vs))) (hd:o.data = .dict es ep):∃ us,KV vs us∧h.DictAt (zwb P w) a us ep:=by
  obtain ⟨h0,_,_,us,rel,o',es',ep',h1,h2,h3,h4⟩:=(show ObjOk P w H h a (.frz o (.dK vs)) from ok a _ e)
  rw [h0] at h1
  cases h1
  rw [hd] at h3
  cases h3
  exact ⟨us,rel,o,es,h0,h2,hd,h4⟩
theorem zhr {P:Program} {w:World} {K:W.Frag} {tg:Expr} (a it:Addr) (o:Obj) (vs:List (Key×V)) (es:Array DictEntry) (ep:Nat) (hd:o.data = .dict es ep):Turn P w K tg (Itd a o vs) [it] it (fun i h=>h.IsKeyIter it a i vs.length ep) where
  mem:=by simp
  obj:=fun i h st b hb=>by
    have e:b=it:=by simpa using hb
    subst e
    obtain ⟨o,e,c,d⟩:=st
    exact ⟨o,e,fun v z=>by rw [d] at z;cases z⟩
  keep:=fun i h h' st k=>st.at fun o e=>k it (by simp) o e
  item:=by
    intro X hP hw hK hc i pins s σ H E I hf st hg
    subst hP hw hK
    obtain ⟨hq,hi⟩:=hg
    obtain ⟨us,rel,da⟩:=zFn I.hok hq hd
    have hl:=rel.length
    obtain ⟨f0,f1,f2,f3,f4,f5⟩:=hf it (by simp)
    have hx:us[i]?=some ((us[i]'(by first|decide|omega)).1,(us[i]'(by first|decide|omega)).2):=by simp [show i<us.length by omega]
    rw [hl] at st ⊢
    refine wpAny_pyNext_dict_item st da hx fun key h' hkey st' sb=>?_
    have I1:Inv X pins σ H { s with heap:=h' }:=I.turned (t':=s.toks) (fun b o hb e=>(sb.2 b hb).trans e) f0 f1 f3 f4 f5
    obtain ⟨o',e',c',d'⟩:=id st'
    have hk:vs[i]?=some vs[i]:=by simp [hi]
    have hkk:(vs[i]).1=(us[i]'(by first|decide|omega)).1:=by
      have h1:(vs.map (·.1))[i]?=(us.map (·.1))[i]?:=by rw [rel.keys]
      simp only [List.getElem?_map,hk,List.getElem?_eq_getElem (show i<us.length by first|decide|omega),Option.map_some,Option.some.injEq] at h1
      exact h1
    have rk:RelV (kV (vs[i]).1) key:=by
      rw [hkk]
      rcases zW ((zBg X.prog X.w _ _).symm.trans hkey) with ⟨j,t,e1,e2⟩ | ⟨j,t,e1,e2⟩
      · rw [e1];exact ⟨t,e2⟩
      · rw [e1];exact ⟨t,e2⟩
    exact ⟨key,rfl,zcs (s:={ s with heap:=h' }) e' c' d' (by decide) ⟨kV (vs[i]).1,H,I1,rk,⟨rfl,_,hk,rfl⟩,st',fun b hb=>(hf b hb).1⟩⟩
  done:=by
    intro X hP hw hK hc i pins s σ H E I hf st hg
    subst hP hw hK
    obtain ⟨hq,hi⟩:=hg
    obtain ⟨us,rel,da⟩:=zFn I.hok hq hd
    have hl:=rel.length
    obtain ⟨f0,f1,f2,f3,f4,f5⟩:=hf it (by simp)
    rw [hl] at st
    exact wpAny_pyNext_dict_end (I.ok.hd hc) st da (by simp;omega) fun h' eb=>⟨rfl,I.turned (t':=s.toks) (fun b o hb e=>eb b o hb e) f0 f1 f3 f4 f5⟩
  self:=fun _ _ _ _ _ st h=>wpAny_pyIter_keyiter st h
section
variable {X:Cx} {a b c e:Expr} {es:List Expr} {φ ψ χ:FE} {pos:Pos} {tg:Expr}
noncomputable def zfy (tl:TE):TI:=fun σ H R=>tl σ H fun x H1=>∃ p vs,x = .ref p∧((H1 p=some (.dK vs)∧∀ o,R (Itd p o vs) (upd H1 p (.frz o (.dK vs))))∨∃ o,H1 p=some (.frz o (.dK vs))∧R (Itd p o vs) H1)
theorem zGu {l:Expr} {tl:TE} (hl:PE X l tl):PI X tg l (zfy tl):=by
  intro pins s σ H R I h
  refine thn (hl pins s σ H _ I h) fun v s1 ⟨x,H1,I1,r1,q1⟩=>?_
  obtain ⟨p,vs,e,q⟩:=q1
  subst e
  cases r1
  have fin:∀ (H2:Hp) (o:Obj),Inv X pins σ H2 s1→H2 p=some (.frz o (.dK vs))→R (Itd p o vs) H2→wpAny (model X.prog X.w) X.A (pyIter (.ref p)) (PIE X pins σ tg R) X.xe s1:=fun H2 o I2 e2 q2=>by
    obtain ⟨h0,hz,hd,us,rel,o',es,ep,h1,h2,h3,h4⟩:=(show ObjOk X.prog X.w H2 s1.heap p (.frz o (.dK vs)) from I2.hok p _ e2)
    rw [h0] at h1
    cases h1
    have da:s1.heap.DictAt (zwb X.prog X.w) p us ep:=⟨o,es,h0,h2,h3,h4⟩
    refine wpAny_pyIter_dict hd da ?_
    refine ⟨s1.heap.objs.size,[s1.heap.objs.size],_,_,H2,rfl,I2.kept (t':=s1.toks) fun b o e=>Heap.get?_push_of_some _ e,zhr p _ o vs es ep h3,⟨_,Heap.get?_push_size _ rfl,rfl,by rw [rel.length];rfl⟩,fun b hb=>?_,q2⟩
    have e:b=s1.heap.objs.size:=by simpa using hb
    subst e
    exact I2.fpOk (Nat.le_refl _) (I2.hok.fresh (Nat.le_refl _))
  rcases q with ⟨e1,q⟩ | ⟨o,e1,q⟩
  · have hok:=I1.hok p _ e1
    obtain ⟨hz,hd,us,rel,o,es,ep,h1,h2⟩:=(show ObjOk X.prog X.w H1 s1.heap p (.dK vs) from hok)
    have I2:Inv X pins σ (upd H1 p (.frz o (.dK vs))) { s1 with heap:=s1.heap,toks:=s1.toks }:=by
      refine I1.write (x:=p) (e:=p) (by rw [e1];exact True.intro) (.inl rfl) (fun b u _ e=>e) ⟨o,h1⟩ ?_
      exact ⟨h1,hz,hd,us,rel,o,es,ep,h1,h2⟩
    exact fin _ o I2 zo (q o)
  · exact fin H1 o I1 e1 q
@[simp] noncomputable def zmu (φ:FE):FI:=fun δ μ=>(φ δ μ).bind fun p=>match p.1 with
  | .loc n=>match p.2[n]? with
    | some (.dct kvs)=>some (zqi kvs,yes,p.2.set n (.dcf kvs))
    | some (.dcf kvs)=>some (zqi kvs,yes,p.2)
    | _=>none
  | _=>none
theorem z1s {K:W.Frag} {ρ:List Addr} {H:Hp} {p:Addr} {o:Obj} {vs:List (Key×V)} {kvs:List (Int×D)} (h:H p=some (.frz o (.dK vs))) (q1:vs.map (·.1)=kvs.map (fun p=>Sum.inl p.1)):ItIs K (Itd p o vs) ρ H (zqi kvs) yes:=by
  have hlen:vs.length=kvs.length:=by
    have:=congrArg List.length q1
    simpa using this
  have hkl:(zqi kvs).length=kvs.length:=by simp [zqi]
  refine ⟨fun ρ' H' μ' i x R _ hi=>⟨x.frz _ _ _ h,by rw [hkl] at hi;omega⟩,fun ρ' H' μ' i x H'' d x' R _ e ⟨y1,q,y2,y3⟩=>⟨y1▸Ext.refl,y1▸R,y1▸?_⟩,fun ρ' H' μ' x R _=>⟨x.frz _ _ _ h,by rw [hkl];omega⟩⟩
  have h1:(vs.map (·.1))[i]?=(kvs.map (fun p=>(Sum.inl p.1:Key)))[i]?:=by rw [q1]
  rw [List.getElem?_map,List.getElem?_map,y2] at h1
  unfold zqi at e
  rw [List.getElem?_map] at e
  cases hk:kvs[i]? with
  | none=>rw [hk] at e;cases e
  | some z =>
    rw [hk] at e h1
    cases e
    have h1:q.1=Sum.inl z.1:=by simpa using h1
    rw [y3,h1]
    exact .int
theorem zxt (h:ME X a φ):MI X tg a (zmu φ) :=
  zAq (zGu h) fun ρ δ μ σ H ds ok μ' R A e k=>by
    obtain ⟨⟨x,μ1⟩,e1,e⟩:=zf e
    refine ⟨ρ,δ,μ,x,μ1,A,e1,fun ρ1 H1 v1 x1 R1 r1=>?_⟩
    dsimp only at e
    split at e
    · split at e
      · rename_i hm
        cases e
        obtain ⟨p,rfl,ep⟩:=r1.loc_inv
        obtain ⟨vs,e3,q1,q2⟩:=R1.at_ _ _ _ ep hm
        have hmu:Mut (H1 p):=by rw [e3];trivial
        refine ⟨p,vs,rfl, .inl ⟨e3,fun o=>?_⟩⟩
        exact k ρ1 _ _ (x1.trans (Ext.wr hmu)) (R1.wr hmu ep ⟨o,vs,zo,q1,RepVs.ext (Ext.wr hmu) q2⟩) (z1s zo q1)
      · rename_i hm
        cases e
        obtain ⟨p,rfl,ep⟩:=r1.loc_inv
        obtain ⟨o,vs,e3,q1,q2⟩:=R1.at_ _ _ _ ep hm
        exact ⟨p,vs,rfl, .inr ⟨o,e3,k ρ1 _ _ x1 R1 (z1s e3 q1)⟩⟩
      · cases e
    · cases e
theorem z9q {prog:Program} {w:World} {A:Around} {E:Value→Shared→Prop} {s:Shared} {Q:Int→Shared→Prop} (h:Q 0xFCA86420 { s with toks:=s.toks+1 }):wpAny (model prog w) A (pyHash .none) Q E s:=by
  unfold pyHash
  have hv:[Value.none].any Value.onHeap=false:=rfl
  refine wpAny_bind ?_
  rw [cRoomFor,if_neg (by rw [hv];exact Bool.false_ne_true)]
  refine wpAny_pure ?_
  refine wpAny_bind (wpAny_specialOf (typeIs_none s) PySem.F.slot_NoneType_hash.lookup ?_)
  show wpAny _ _ (if (some (Value.builtin "NoneType.__hash__") == some Value.none)=true then _ else _) Q E s
  rw [if_neg (by rw [beq_builtin_none];exact Bool.false_ne_true)]
  refine wpAny_bind (wpAny_specialOf (typeIs_none s) PySem.F.slot_NoneType_hash.lookup ?_)
  show wpAny _ _ (callSpecialIfBoundUnlessNone? .none "__hash__" _ >>= _) Q E s
  refine wpAny_bind (wpAny_callSpecialIfBoundUnlessNone?_slot (typeIs_none s) PySem.F.slot_NoneType_hash (wpAny_call_entry PySem.F.slot_NoneType_hash (typeIs_none s) PySem.F.entry_NoneType_hash ?_ (PySem.F.args_NoneType_hash_1 _)))
  show wpAny _ _ (do ret (← mkInt 0xFCA86420)) _ _ s
  refine wpAny_ret_mkInt ?_
  show wpAny _ _ (if (decide (-(2:Int) ^ 63≤0xFCA86420) && decide ((0xFCA86420:Int)<2 ^ 63))=true then _ else _) Q E _
  rw [if_pos (by decide)]
  exact wpAny_pure h
theorem z6o {i:Int} (h0:0≤i) (h1:i<1000):hashInt i=i:=by
  have e:(i.natAbs % (2 ^ 61 - 1):Nat)=i.natAbs:=Nat.mod_eq_of_lt (by first|decide|omega)
  have hr:rawHash i=i:=by
    unfold rawHash
    dsimp only
    rw [if_neg (by omega:¬ i<0)]
    have:((i.natAbs % (2 ^ 61 - 1:Nat):Nat):Int)=i:=by rw [e];omega
    rw [show ((i.natAbs:Int) % ((2 ^ 61 - 1:Nat):Int))=i by rw [← Int.natCast_emod];exact this]
    rw [if_neg (by simp;omega)]
  unfold hashInt
  rw [hr,if_neg (by simp;omega)]
noncomputable def zul:Key→Bool
  | .inl i=>decide (0≤i∧i<1000)
  | .inr _=>false
theorem zvi {P:Program} {w:World}:∀ {es:List DictEntry} {us:List (Key×Value)},Pairs (zwb P w) es us→(∀ e∈es,∃ k,(zwb P w).is k e.key=true∧e.hash=(zwb P w).hash k)→(us.all fun q=>zul q.1)=true→∀ e∈es,(e.hash == 0xFCA86420)=false
  | _,_, .nil,_,_=>fun e he=>by cases he
  | _,_, .cons (kv:=kv) hk hv t,hh,hs=>fun e he=>by
    rw [all_cons,Bool.and_eq_true] at hs
    rcases List.mem_cons.mp he with rfl | he
    · obtain ⟨k',h1,h2⟩:=hh e mem_cons_self
      have ek:=(zwb P w).inj _ _ _ hk h1
      rw [h2,← ek]
      have hsm:zul kv.1=true:=hs.1
      cases hkv:kv.1 with
      | inl i =>
        rw [hkv] at hsm
        have hi:=of_decide_eq_true (show decide (0≤i∧i<1000)=true from hsm)
        show (hashInt i == 0xFCA86420)=false
        rw [z6o hi.1 hi.2]
        simp;omega
      | inr x=>rw [hkv] at hsm;cases hsm
    · exact zvi t (fun e he=>hh e (mem_cons_of_mem _ he)) hs.2 e he
theorem zqu {prog:Program} {w:World} {A:Around} {E:Value→Shared→Prop} {s:Shared} {p:Addr} {us:List (Key×Value)} {Q:Value→Shared→Prop} (hd:(p == sysModules)=false) (dd:s.heap.DictOf (zwb prog w) p us) (hs:(us.all fun q=>zul q.1)=true)
    (h:Q (.bool false) { s with toks:=s.toks+1 }):wpAny (model prog w) A (compareOp .In .none (.ref p)) Q E s:=by
  obtain ⟨o,es,ep,ho,hx,hdat,hk,hp,hn⟩:=id dd
  have hno:=zvi hp (fun e he=>hk e (by simpa using he)) hs
  have hpl:placesWithHash es.size (fun i=>es[i]?.map (·.hash)) 0xFCA86420 = []:=by
    unfold placesWithHash
    rw [List.filter_eq_nil_iff]
    intro i hi
    have hi:i<es.size:=by simpa using hi
    dsimp only
    rw [Array.getElem?_eq_getElem hi]
    have:=hno es[i] (by simp)
    simpa using this
  show wpAny _ _ (do return .bool (← contains (.ref p) .none)) Q E s
  refine wpAny_bind ?_
  unfold contains
  try with_reducible refine wpAny_holding ?_
  refine wpAny_bind (wpAny_specialOf dd.typeIs slot_dict_contains.lookup ?_)
  show wpAny _ _ (if (some (Value.builtin "dict.__contains__") == some Value.none)=true then _ else _) _ E s
  rw [if_neg (by rw [beq_builtin_none];exact Bool.false_ne_true)]
  refine wpAny_bind (wpAny_callSpecialUnlessNone?_slot (name:=Str.ofString "__contains__") dd.typeIs slot_dict_contains (wpAny_call_entry slot_dict_contains dd.typeIs entry_dict_contains ?_ (args_dict_contains _ _)))
  show wpAny _ _ (dictGet p .none >>= _) _ _ s
  refine wpAny_bind ?_
  unfold dictGet
  try with_reducible refine wpAny_holding ?_
  refine wpAny_bind (z9q (wpAny_bind ?_))
  unfold dictFind
  try with_reducible refine wpAny_holding ?_
  refine wpAny_bind (wpAny_dictEntries (s:={ s with toks:=s.toks+1 }) ho hdat ?_)
  dsimp only
  rw [hpl]
  rw [if_pos (by rfl)]
  unfold dictWalkPlain
  refine wpAny_bind ?_
  rw [List.forIn_nil]
  refine wpAny_pure ?_
  refine wpAny_pure (wpAny_pure ?_)
  show wpAny _ _ (Builtin.Dict.pendingKey? p .none >>= _) _ _ _
  exact wpAny_bind (wpAny_pendingKey_other hd (wpAny_pure ⟨_,rfl,wpAny_truthy_bool (wpAny_pure h)⟩))
@[simp] noncomputable def zDm:G2:=fun x y μ=>match x with
  | .int i=>(zSb μ y).bind fun kvs=>some (.bl (zSc kvs i).isSome,μ)
  | .non=>(zSb μ y).bind fun kvs=>bif kvs.all (fun p=>decide (0≤p.1∧p.1<1000)) then some (.bl false,μ) else none
  | _=>none
theorem z4r:OpM X (compareOp .In) zDm:=by
  refine OpM.of fun pins s σ H x y v u Q I rx ry ρ dx dy μ d μ' r1 r2 R e k=>?_
  unfold zDm at e
  split at e
  · rename_i i
    exact zGt pins s σ H x y v u Q I rx ry ⟨ρ, .int i,dy,μ,d,μ',r1,r2,R,e,k⟩
  · obtain ⟨kvs,e1,e⟩:=zf e
    obtain ⟨hsm,e⟩:=zM e
    cases e
    obtain ⟨p,vs,rfl,hq,q1,q2⟩:=zCf R r2 e1
    cases ry
    rw [r1.non_inv] at rx
    cases rx
    obtain ⟨z,hd,us,rel,dd⟩:=zni I.hok hq
    refine zqu hd dd ?_ ⟨.bl false,H,I.tok _,rfl,k ρ H _ Ext.refl R .bl⟩
    have e1:(us.all fun q=>zul q.1)=(us.map (·.1)).all zul:=by rw [all_map];rfl
    rw [e1,← rel.keys,q1,all_map]
    exact hsm
  · cases e
end
section
variable {prog:Program} {w:World} {A:Around} {E:Value→Shared→Prop} {s:Shared}
theorem zHo:typeLookup (.type "list_reverseiterator") "__len__" = pure none:=by rw [typeLookup_type,builtinLookup_eq_fast];kernel_rfl
theorem z9r:typeLookup (.type "list_reverseiterator") "__length_hint__" = pure (some (.builtin "list_reverseiterator.__length_hint__")):=by rw [typeLookup_type,builtinLookup_eq_fast];kernel_rfl
theorem zfs {r:Addr} {Q:Bool→Shared→Prop} (hT:s.TypeIs (.ref r) "list_reverseiterator") (h:Q false s):wpAny (model prog w) A (Builtin.List.listLengthHint (.ref r)) Q E s:=by
  unfold Builtin.List.listLengthHint
  refine wpAny_bind (wpAny_specialOf hT zHo ?_)
  show wpAny _ _ (specialOf (Value.ref r) (Str.ofString "__length_hint__") >>= _) _ _ _
  refine wpAny_bind (wpAny_specialOf hT z9r ?_)
  generalize hid:("list_reverseiterator.__length_hint__":String)=id0
  wp_delta
  rw [show splitId id0=some ("list_reverseiterator","__length_hint__") from by subst hid;decide +kernel]
  subst hid
  refine wpAny_bind (wpAny_isInstance (T:="list_reverseiterator") (b:=true) hT (by rw [isSubtype_type];kernel_rfl) ?_)
  refine wpAny_ite_split (fun hab=>absurd hab (by decide)) (fun _=>?_)
  refine wpAny_ite_split (fun _=>?_) (fun hab=>absurd (by decide +kernel) hab)
  refine wpAny_ite_split (fun hab=>absurd hab (by decide +kernel)) (fun _=>?_)
  exact wpAny_pure h
theorem zNr {I l:Addr} {items:Array Value} {Q:Value→Shared→Prop} (hh:A.handled=none) (hne:l≠I) (hI:s.heap.IsRevIter I l ((items.size:Int) - 1)) (hl:s.heap.IsList l items) (hn:items.size≤sizeLine)
    (hQ:∀ h' tk acc' c',(∀ b o,b≠I→s.heap.get? b=some o→h'.get? b=some o)→h'.get? s.heap.objs.size=some { cls := .type "list",dict:=none,data := .seq acc' c',slots:=#[] }→ItemsOf (fun i v=>items[items.size - 1 - i]?=some v) acc' items.size→Q (.ref s.heap.objs.size) { s with heap:=h',toks:=tk }) :
    wpAny (model prog w) A (call (.type "list") [.ref I]) Q E s:=by
  have hIlt:I<s.heap.objs.size:=by obtain ⟨o,ho,_⟩:=hI;exact Heap.lt_size ho
  have hllt:l<s.heap.objs.size:=by obtain ⟨o,ho,_⟩:=hl;exact Heap.lt_size ho
  refine callType_codes (Q₁:=fun obj s₁=>obj = .ref s.heap.objs.size∧s₁ = { s with heap:=s.heap.push { cls := .type "list",data := .seq #[] } }) PySem.F.called_list (PySem.F.typeCall_list_1 _) PySem.F.entry_list_init (code_list_new _ ⟨rfl,rfl⟩) fun obj s₁ h₁=>?_
  obtain ⟨rfl,rfl⟩:=h₁
  generalize hS0:s.heap.objs.size=S
  have hSI:S≠I:=by rw [← hS0];exact Nat.ne_of_gt hIlt
  have hSl:S≠l:=by rw [← hS0];exact Nat.ne_of_gt hllt
  have hS:(s.heap.push { cls := .type "list",data := .seq #[] }).get? S=some { cls := .type "list",data := .seq #[] }:=by rw [← hS0];exact Heap.get?_push_size _ rfl
  refine ⟨⟨_,hS,rfl⟩,PySem.F.args_list_init_2 _ _,?_⟩
  have oldS:∀ b o,s.heap.get? b=some o→b≠S:=fun b o e=>by rw [← hS0];exact Nat.ne_of_lt (Heap.lt_size e)
  have W:=(Walks.listRev (prog:=prog) (w:=w) (A:=A.in1.in1) hh I l hne items).toS
  show wpAny _ _ (do let old ← Builtin.List.listItems (.ref S);Builtin.List.listUpdate (.ref S) (fun _=>#[]);letGo old.toList.reverse;Builtin.List.listExtendWith (.ref S) (.ref I) .none) _ _ _
  refine wpAny_bind ?_
  unfold Builtin.List.listItems
  refine wpAny_bind (wpAny_seqItems hS rfl (wpAny_pure ?_))
  show wpAny _ _ (updateSeq S (fun _=>#[]) >>= fun _=>letGo (#[]:Array Value).toList.reverse >>= fun _=>Builtin.List.listExtendWith (.ref S) (.ref I) .none) _ _ _
  refine wpAny_bind (wpAny_updateSeq hS rfl ?_)
  have hS2:=Heap.get?_update_self (Obj.mapSeq (fun _=>(#[]:Array Value))) hS rfl
  generalize hh2:(s.heap.push { cls := .type "list",data := .seq #[] }).update S (Obj.mapSeq (fun _=>(#[]:Array Value)))=h2 at hS2 ⊢
  have k2:∀ b o,s.heap.get? b=some o→h2.get? b=some o:=fun b o e=>by
    rw [← hh2]
    exact (Heap.get?_update_other _ _ (Ne.symm (oldS b o e))).trans (Heap.get?_push_of_some _ e)
  refine wpAny_bind (wpAny_letGo ?_)
  have hI2:h2.IsRevIter I l ((items.size:Int) - 1):=hI.at fun o e=>k2 _ _ e
  have hl2:h2.IsList l items:=hl.at fun o e=>k2 _ _ e
  unfold Builtin.List.listExtendWith
  refine wpAny_bind (wpAny_typeOf (T:="list_reverseiterator") (Heap.IsRevIter.typeIs (s:={ s with heap:=h2 }) hI2) ?_)
  have h1:Builtin.List.listSameRef (.ref S) (.ref I)=false:=by simp [Builtin.List.listSameRef,hSI]
  have h2':(Value.type "list_reverseiterator" == Value.type "list")=false:=by decide
  have h3':(Value.type "list_reverseiterator" == Value.type "tuple")=false:=by decide
  simp only [h1,h2',h3',Bool.or_false,Bool.false_eq_true,if_false]
  refine wpAny_bind (wpAny_pyIter_revIter (s:={ s with heap:=h2 }) hI2 ?_)
  refine wpAny_bind (wpAny_holding (zfs (Heap.IsRevIter.typeIs (s:={ s with heap:=h2 }) hI2) ?_))
  refine wpAny_ite_split (fun hab=>absurd hab (by decide)) (fun _=>?_)
  have hSf:S∉[I,l]:=by
    simp only [mem_cons,not_mem_nil,or_false,not_or]
    exact ⟨hSI,hSl⟩
  refine wpAny_pure ⟨plainId_quiet PySem.F.plain_extend_loop _,codeAny_extend_loopS W hn S hSf _ items.size 0 _ #[] _ rfl (Nat.zero_le _) ⟨Nat.zero_le _,by simpa using hI2,hl2⟩ hS2 (ItemsOf.nil _) fun s' acc' c' hm hS' hacc=>?_⟩
  rw [Moved.eq_with hm]
  refine ⟨rfl,?_⟩
  rw [← hS0] at hS' ⊢
  refine hQ s'.heap s'.toks acc' c' (fun b o hb e=>hm.heap b o (fun hmem=>?_) (k2 b o e)) hS' hacc
  rcases List.mem_cons.mp hmem with e' | hmem
  · exact oldS b o e e'
  · exact hb (List.mem_singleton.mp hmem)
end
section
variable {X:Cx} {a b c e:Expr} {es:List Expr} {φ ψ χ:FE} {pos pos2 p1 p2:Pos}
noncomputable def zFr (φ:FE):FE:=fun δ μ=>(φ δ μ).bind fun p=>match p.1 with
  | .loc n=>match p.2[n]? with
    | some (.lst ds)=>some (.loc p.2.length,p.2 ++ [.lst ds.reverse])
    | _=>none
  | _=>none
theorem zSr {items:List Value} {vs:List V} {its:List Value} (rv:Vals vs items) (hl:its.length=items.length) (h:∀ (j:Nat) (v:Value),its[j]?=some v→items[items.length - 1 - j]?=some v):Vals vs.reverse its:=by
  have e:its=items.reverse:=by
    refine List.ext_getElem? fun j=>?_
    by_cases hj:j<its.length
    · have h1:its[j]?=some its[j]:=by simp [hj]
      rw [List.getElem?_reverse (by first|decide|omega),h j _ h1,h1]
    · rw [List.getElem?_eq_none (by first|decide|omega),List.getElem?_eq_none (by simp;omega)]
  rw [e]
  exact rv.reverse
theorem zVp {K:W.Frag} {ρ:List Addr} {H:Hp}:∀ {ds:List D} {vs:List V},RepVs K ρ H ds vs→RepVs K ρ H ds.reverse vs.reverse
  | [],vs,r=>by rw [r.nil_inv];exact .nil
  | d :: ds,vs,r=>by
    obtain ⟨v,q,rfl,h1,h2⟩:=r.cons_inv
    rw [List.reverse_cons,List.reverse_cons]
    exact (zVp h2).append (.cons h1 .nil)
noncomputable def zKw (X:Cx) (tl:TE):TE:=fun σ H Q=>tl σ H fun x H1=>∃ a ys,x = .ref a∧SqL X.K H1 a ys∧∀ q,H1 q=none→Q (.ref q) (upd H1 q (.lst ys.reverse))
theorem zQt {l:Expr} {tl:TE} (hm1:X.mg "list" = none) (hv1:bootBuiltins "list" = some (.type "list")) (hm2:X.mg "reversed" = none) (hv2:bootBuiltins "reversed" = some (.type "reversed")) (hl:PE X l tl) (hc:X.calm=true) (hg1:Gl X "list") (hg2:Gl X "reversed")
    (he:starEach [l] X.env=(false,eval l X.env) :: starEach [] X.env) (he2:starEach [.Call (.Name "reversed" p2) [l] [] pos2] X.env=(false,eval (.Call (.Name "reversed" p2) [l] [] pos2) X.env) :: starEach [] X.env) :
    PE X (.Call (.Name "list" p1) [.Call (.Name "reversed" p2) [l] [] pos2] [] pos) (zKw X tl):=by
  intro pins s σ H Q I h
  refine wpAny_Call_Name_kw (zJi I hg1 hm1 hv1 ?_ (by decide) (by decide))
  refine PyProof.Rows.callWith_type1 ?_ he2 rfl
  rw [he2]
  show wpAny _ _ (spliced ((false,eval (.Call (.Name "reversed" p2) [l] [] pos2) X.env) :: backTo pos (starEach [] X.env))) _ _ s
  refine Calls.spliced_cons ?_
  refine wpAny_Call_Name_kw (zJi I hg2 hm2 hv2 ?_ (by decide) (by decide))
  refine PyProof.Rows.callWith_type1 (thn (zmc hl zhe he pos2 pins s σ H (fun vs H1=>match vs with
    | [x]=>∃ a ys,x = .ref a∧SqL X.K H1 a ys∧∀ q,H1 q=none→Q (.ref q) (upd H1 q (.lst ys.reverse))
    | _=>False) I h) fun us s1 ⟨vs,H1,I1,r1,q1⟩=>?_) he rfl
  dsimp only at q1
  split at q1
  case h_2=>exact q1.elim
  obtain ⟨a,ys,e,hq,q⟩:=q1
  subst e
  cases r1 with
  | cons r rr =>
    cases rr
    cases r
    obtain ⟨its,rv,pl,hz⟩:=I1.list hq
    have hlen:=rv.length
    refine call_reversed_list pl.isList ?_
    refine Calls.spliced_nil ?_
    have I2:Inv X pins σ H1 { s1 with heap:=s1.heap.push (revObj a ((its.toArray.size:Int) - 1)) }:=I1.kept (t':=s1.toks) fun b o e=>Heap.get?_push_of_some _ e
    have halt:a<s1.heap.objs.size:=by obtain ⟨_,_,e,_⟩:=pl;exact Heap.lt_size e
    have hf:∀ b∈[s1.heap.objs.size],zQn X pins H1 b:=fun b hb=>by
      have e:b=s1.heap.objs.size:=by simpa using hb
      subst e
      exact I1.fpOk (Nat.le_refl _) (I1.hok.fresh (Nat.le_refl _))
    refine zNr (s:={ s1 with heap:=s1.heap.push (revObj a ((its.toArray.size:Int) - 1)) }) (I.ok.hd hc) (Nat.ne_of_lt halt) ⟨_,Heap.get?_push_size _ rfl,rfl,rfl⟩ (pl.isList.push _) (by simp;omega) fun h' tk acc' c' kp e hi=>?_
    obtain ⟨hi1,hi2⟩:=hi
    have hv:=zSr (its:=acc'.toList) rv (by simpa using hi1) fun j v e=>by simpa using hi2 j v (by simpa using e)
    refine ⟨.ref _,_,zjd (t':=tk) I2 hf (fun b o hb e=>kp b o (by simpa using hb) e) (Nat.le_refl _) (show ObjOk X.prog X.w _ h' _ (.lst ys.reverse) from ⟨by simp;omega,acc'.toList,c',hv,by simpa using e⟩),rfl,q _ (I2.hok.fresh (Nat.le_refl _))⟩
theorem zxu (hm1:X.mg "list" = none) (hv1:bootBuiltins "list" = some (.type "list")) (hm2:X.mg "reversed" = none) (hv2:bootBuiltins "reversed" = some (.type "reversed")) (h:ME X e φ) (hc:X.calm=true:=by rfl) (hg1:Gl X "list":=by rfl) (hg2:Gl X "reversed":=by rfl)
    (he:starEach [e] X.env=(false,eval e X.env) :: starEach [] X.env:=by rfl) (he2:starEach [.Call (.Name "reversed" p2) [e] [] pos2] X.env=(false,eval (.Call (.Name "reversed" p2) [e] [] pos2) X.env) :: starEach [] X.env:=by rfl) :
    ME X (.Call (.Name "list" p1) [.Call (.Name "reversed" p2) [e] [] pos2] [] pos) (zFr φ) :=
  zcd (zQt hm1 hv1 hm2 hv2 h hc hg1 hg2 he he2) fun ρ δ μ σ H d μ' Q A e k=>by
    obtain ⟨⟨x,μ1⟩,e1,e⟩:=zf e
    refine ⟨ρ,δ,μ,x,μ1,A,e1,fun ρ1 H1 v x1 R1 r1=>?_⟩
    dsimp only at e
    split at e
    · split at e
      · rename_i hm
        cases e
        obtain ⟨p,rfl,ep⟩:=r1.loc_inv
        obtain ⟨vs,e3,q⟩:=R1.at_ _ _ _ ep hm
        exact ⟨p,vs,rfl,SqL.of e3,fun q' hq'=>k _ _ _ (x1.trans (Ext.push hq')) (R1.push hq' ⟨_,zo,(zVp q).ext (Ext.push hq')⟩) (.loc (zvb R1))⟩
      · cases e
    · cases e
end
section
variable {X:Cx}
end
section
variable {prog:Program} {w:World} {A:Around} {E:Value→Shared→Prop} {s:Shared}
end
section
variable {X:Cx} {e:Expr} {te:TE} {φ:FE} {stp:Expr} {ts:TO} {pos p2:Pos}
end
section
variable {prog:Program} {w:World} {A:Around} {E:Value→Shared→Prop} {s:Shared}
end
section
variable {X:Cx}
end
section
variable {X:Cx}
end
section
variable {X:Cx} {a b c e:Expr} {es:List Expr} {φ ψ χ:FE} {pos p2:Pos}
end
section
variable {prog:Program} {w:World} {A:Around} {E:Value→Shared→Prop} {s:Shared}
theorem z6j {it t:Addr} {items:Array Value} (hne:t≠it):∀ (n i:Nat) (s:Shared) (Q:List Value→Shared→Prop),s.heap.IsListIter it t i→s.heap.IsList t items→i+n≤items.size →
    (∀ h',h'.IsListIter it t (i+n)→Heap.SameBut it s.heap h'→Q ((items.toList.drop i).take n) { s with heap:=h' })→wpAny (model prog w) A (draw (.ref it) n) Q E s
  | 0,i,s,Q,hit,_,_,hQ=>by
    show wpAny _ _ (pure []) Q E s
    exact wpAny_pure (by simpa using hQ s.heap hit (Heap.SameBut.refl ..))
  | n+1,i,s,Q,hit,ht,hle,hQ=>by
    have hlt:i<items.size:=by omega
    show wpAny _ _ (pyNext (.ref it) >>= _) Q E s
    refine wpAny_bind (wpAny_pyNext_list_item hit ht (x:=items[i]) (by simp [hlt]) fun h₁ hit₁ hs₁=>?_)
    refine wpAny_bind (wpAny_holding (z6j hne n (i+1) _ _ hit₁ (ht.extBut hs₁.extBut hne) (by first|decide|omega) fun h₂ hit₂ hs₂=>wpAny_pure ?_))
    have hd:items.toList.drop i=items[i] :: items.toList.drop (i+1):=by simp [drop_eq_getElem_cons,hlt]
    have:=hQ h₂ (by rw [show i+(n+1)=i+1+n by omega];exact hit₂) (hs₁.trans hs₂)
    rw [hd,List.take_succ_cons] at this
    exact this
theorem zRg {t:Addr} {items:Array Value} {Q:List Value→Shared→Prop} (hh:A.handled=none) (ht:s.heap.IsList t items)
    (hQ:∀ h',Heap.ExtBut s.heap.objs.size s.heap h'→Q items.toList { s with heap:=h' }):wpAny (model prog w) A (unpackItems (.ref t) items.size none) Q E s:=by
  have hlt:t≠s.heap.objs.size:=by obtain ⟨o,ho,_⟩:=ht;exact Nat.ne_of_lt (Heap.lt_size ho)
  unfold unpackItems
  refine wpAny_bind ?_
  · unfold notIterableAtAll
    refine wpAny_bind (wpAny_specialOf ht.typeIs PySem.slot_list_iter.lookup ?_)
    refine wpAny_pure ?_
    simp only [Bool.false_eq_true,if_false]
    refine wpAny_bind (wpAny_holding (wpAny_pyIter_list ht ?_))
    refine wpAny_bind (wpAny_holding (z6j hlt items.size 0 _ _ ⟨_,Heap.get?_push_size _ rfl,rfl,rfl⟩ (ht.push _) (by first|decide|omega) fun h₁ hit₁ hs₁=>?_))
    have hall:List.take items.size (List.drop 0 items.toList)=items.toList:=by
      rw [List.drop_zero];exact List.take_of_length_le (by simp)
    rw [hall]
    rw [if_neg (by simp)]
    have ht₁:h₁.IsList t items:=(ht.push _).extBut hs₁.extBut hlt
    refine wpAny_bind (wpAny_holding (wpAny_pyNext_list_end hh hit₁ ht₁ (by simp) fun h₂ he₂=>?_))
    simp only [Option.isSome_none,Bool.false_eq_true,if_false]
    refine wpAny_pure (hQ h₂ fun b o hb e=>he₂ b o hb (hs₁.extBut b o hb (Heap.get?_push_of_some _ e)))
theorem zMg {env:Env} {elts:List Expr} {x1} {pos:Pos} {t:Addr} {items:Array Value} {Q:Unit→Shared→Prop} (hh:A.handled=none) (ht:s.heap.IsList t items)
    (hn:(assignEach elts env).length=items.size) (hstar:(assignEach elts env).findIdx? (·.1)=none)
    (h:∀ h',Heap.ExtBut s.heap.objs.size s.heap h'→wpAny (model prog w) A (assignInOrder ((assignEach elts env).map (·.2)) items.toList) Q E { s with heap:=h' }) :
    wpAny (model prog w) A (assign (.Tuple elts x1 pos) env (.ref t)) Q E s:=by
  rw [assign_Tuple]
  refine wpAny_bind (wpAny_standAt ?_)
  unfold unpack
  rw [hn,hstar]
  exact wpAny_bind (wpAny_holding (zRg hh ht h))
end
section
variable {X:Cx} {pos:Pos}
noncomputable def zgx (K:W.Frag) (n:Nat) (t:TGs):TG:=fun v σ H Q=>∃ a xs,v = .ref a∧SqL K H a xs∧xs.length=n∧t xs σ H Q
theorem z6t {es:List Expr} {k:Nat} {t:TGs} {n:Nat} (hc:X.calm=true) (h:PGs X es t)
    (hn:(assignEach es X.env).length=n:=by rfl) (hst:(assignEach es X.env).findIdx? (·.1)=none:=by rfl):PG X (.Tuple es k pos) (zgx X.K n t):=by
  intro pins s σ H v u Q I r hw
  obtain ⟨a,xs,e1,hq,hl,hw⟩:=hw
  subst e1
  cases r
  obtain ⟨its,rv,pl,hz⟩:=I.list hq
  refine zMg (I.ok.hd hc) pl.isList (by simp [hn,← hl,rv.length]) hst fun h' hx=>?_
  have I1:Inv X pins σ H { s with heap:=h' }:=I.kept (t':=s.toks) fun b o e=>hx b o (Nat.ne_of_lt (Heap.lt_size e)) e
  exact h pins _ σ H xs _ Q I1 (by simpa using rv) hw
noncomputable def gTL (n:Nat) (gs:FGs):FG:=fun d δ μ=>match d with
  | .loc l=>match μ[l]? with
    | some (.lst ds)=>bif ds.length == n then gs ds δ μ else none
    | _=>none
  | _=>none
theorem zpt {es:List Expr} {k n:Nat} {gs:FGs} (h:MGs X es gs) (hc:X.calm=true:=by rfl) (hn:(assignEach es X.env).length=n:=by rfl) (hst:(assignEach es X.env).findIdx? (·.1)=none:=by rfl):MG X (.Tuple es k pos) (gTL n gs) :=
  mg_of (z6t hc h hn hst) fun ρ δ μ d δ' μ' v σ H Q A q e k=>by
    unfold gTL at e
    split at e
    · split at e
      · rename_i hm
        obtain ⟨h1,e⟩:=zM e
        obtain ⟨a,rfl,ea⟩:=q.loc_inv
        obtain ⟨vs,e3,q2⟩:=A.hp.at_ _ _ _ ea hm
        exact ⟨a,vs,rfl,SqL.of e3,by rw [← q2.length];exact beq_iff_eq.mp h1,ρ,δ,μ,_,δ',μ',A,q2,e,k⟩
      · cases e
    · cases e
end
end M
namespace M
open PySem PyProof.Rows
section
variable {prog:Program} {w:World} {A:Around} {E:Value→Shared→Prop} {s:Shared}
set_option maxHeartbeats 3200000 in
theorem zUl {l:Addr} {its:Array Value} {ns:List Int} {Q:Value→Shared→Prop} (hh:A.handled=none) (hl:s.heap.IsTuple l its) (hi:IntsAre its.toList ns) (hb:its.size+1<scanBound)
    (h:∀ s',zqk prog w s (uqN (fun i=>ns.getD i 0) its.size) s'→Q (.ref s.heap.objs.size) s'):wpAny (model prog w) A (call (.type "set") [.ref l]) Q E s:=by
  obtain ⟨c,tl,hmro⟩:=PySem.F.called_set.mro
  have hmade:=PySem.F.called_set.made
  have hsub:=PySem.F.called_set.sub
  refine wpAny_call (codeAny_of_tree ?_)
  show wpAny _ _ (callAny (.type "set") _) _ _ _
  refine wpAny_pure ⟨Code.quiet_builtin _ (by decide +kernel),codeAny_builtin PySem.F.entry_type_call ?_⟩
  rw [Around.under_plain (weight_type_call_type "set" [.ref l] []) rfl]
  have t1:=PySem.F.called_set.notType
  have t2:=PySem.F.called_set.canCreate
  have t3:=PySem.F.typeCall_set_1 (.ref l)
  repeat (any_goals (first | assumption | wp_step))
  refine codeAny_mono (zWq (w:=w) (.ref l) (E:=E) (Q:=fun ob s1=>ob = .ref s.heap.objs.size∧s1 = { s with heap:=s.heap.push (zeb w) }) ⟨rfl,rfl⟩) fun r s1 hr=>?_
  cases r with
  | error e=>exact hr
  | ok fl =>
    cases fl with
    | ret ob =>
      obtain ⟨rfl,rfl⟩:=hr
      have hS:(s.heap.push (zeb w)).get? s.heap.objs.size=some (zeb w):=Heap.get?_push_size _ rfl
      have hT:Shared.TypeIs { s with heap:=s.heap.push (zeb w) } (.ref s.heap.objs.size) "set":=⟨_,hS,rfl⟩
      have i1:=PySem.F.called_set.init.lookup
      have i2:=PySem.F.called_set.init.bind (.ref s.heap.objs.size)
      repeat (any_goals (first | assumption | wp_step))
      refine codeAny_mono (codeAny_call_builtin (R:=wants (fun r s2=>r = .none∧zqk prog w s (uqN (fun i=>ns.getD i 0) its.size) s2) E) PySem.F.called_set.init.plain PySem.F.entry_set_init (check_set_init_1 hT ?_)) fun r2 s2 hr2=>?_
      · obtain ⟨ol,hol,hcl,nl,hdl⟩:=hl
        obtain ⟨ocls,odict,odata,oslots⟩:=ol
        simp only at hcl hdl
        subst hcl;subst hdl
        have hlS:l<s.heap.objs.size:=Heap.lt_size hol
        have hol1:(s.heap.push (zeb w)).get? l=some { cls := .type "tuple",dict:=odict,data := .seq its nl,slots:=oslots }:=Heap.get?_push_of_some _ hol
        have n1:=PySem.F.sub_tuple_set
        have n2:=PySem.F.sub_tuple_frozenset
        have n3:(Value.type "tuple" == Value.type "dict")=false:=by decide
        have hl1:(s.heap.push (zeb w)).IsTuple l its:=⟨_,hol1,rfl,nl,rfl⟩
        unfold Builtin.«set.__init__» noKeywords Builtin.Frozenset.updateFrom
        generalize hPI:pyIter=PI
        wp_walk
        subst hPI
        refine wpAny_pyIter_tuple hl1 ?_
        refine wpAny_bind (wpAny_runValue ?_)
        have hz:(s.heap.push (zeb w)).objs.size=s.heap.objs.size+1:=by rw [Heap.size_push]
        have hne:l≠(s.heap.push (zeb w)).objs.size:=by rw [hz];exact Nat.ne_of_lt (Nat.lt_succ_of_lt hlS)
        have hSf:s.heap.objs.size∉[(s.heap.push (zeb w)).objs.size,l]:=by
          rw [hz]
          simp only [mem_cons,not_mem_nil,or_false,not_or]
          exact ⟨Nat.ne_of_lt (Nat.lt_succ_self _),Nat.ne_of_gt hlS⟩
        have hval:∀ (i:Nat) (v:Value),its[i]?=some v→∃ t,v = .int ((fun i=>ns.getD i 0) i) t:=fun i v hv=>IntsAre.int_at hi i v (by rw [Array.getElem?_toList];exact hv)
        refine zWn (Walks.tuple (by simp [hh]) _ l hne its) s.heap.objs.size hSf (fun i=>ns.getD i 0) hval hb (its.size - 0) 0 _ (by first|decide|omega) (Nat.zero_le _) ⟨⟨_,Heap.get?_push_size _ rfl,rfl,rfl⟩,hl1.push _⟩ ?s0 ?r0
        case s0 =>
          exact ⟨zeb w,#[],0,_,Heap.get?_push_of_some _ hS,⟨rfl,rfl,rfl⟩,rfl,rfl, .fresh _,fun e he=>by simp at he,by simp [uqN]⟩
        case r0 =>
          intro h' tk hk hS'
          refine wpAny_pure ?_
          show wpAny _ _ (ret Value.none) _ _ _
          refine wpAny_pure ⟨rfl,hS',fun b o e=>?_,h',tk,rfl⟩
          have hlt:b<s.heap.objs.size:=Heap.lt_size e
          refine hk b o ?_ (Heap.get?_push_of_some _ (Heap.get?_push_of_some _ e))
          rw [hz]
          simp only [mem_cons,not_mem_nil,or_false,not_or]
          exact ⟨Nat.ne_of_lt hlt,Nat.ne_of_lt (Nat.lt_succ_of_lt hlt)⟩
      · cases r2 with
        | error e=>exact hr2
        | ok fl2 =>
          cases fl2 with
          | ret r =>
            obtain ⟨rfl,hm⟩:=hr2
            repeat (any_goals (first | assumption | wp_step))
            exact h _ hm
          | _=>exact hr2.elim
    | _=>exact hr.elim
end
end M
namespace M
open PySem PySem.Spec PyProof.Rows L2
section
variable {X:Cx} {pins:List (Addr×Obj)} {σ:L2.St} {H:Hp} {s s':Shared}
theorem zQp (hc:X.calm=true):zNi X (.type "set") (fun xs H Q=>∃ (a:Addr) (ns:List Int),xs = [.ref a]∧SqT X.K H a (ns.map V.int)∧ns.length+1<scanBound∧∀ p,H p=none→Q (.ref p) (upd H p (zxn X p (uqN (fun i=>ns.getD i 0) ns.length)))):=by
  intro pins s σ H xs us Q I r ⟨a,ns,e,hq,hb,k⟩
  subst e
  obtain ⟨u,rfl,rx⟩:=vals1 r
  cases rx
  obtain ⟨its,rv,pl,hz⟩:=I.tuple hq
  have hl:its.length=ns.length:=by rw [← rv.length];simp
  refine zUl (I.ok.hd hc) pl (its:=its.toArray) (ns:=ns) (by simpa using zFg rv) (by simp;omega) fun s' ⟨hS,hk,h',tk,e⟩=>?_
  subst e
  rw [show its.toArray.size=ns.length by simp;exact hl] at hS
  refine ⟨.ref s.heap.objs.size,_,I.laid (t':=tk) hk (Nat.le_refl _) (show ObjOk X.prog X.w _ h' _ (zxn X _ _) from ⟨hS,?_,fun h1 h2 x y=>x.at' y⟩),rfl,k _ I.fresh⟩
  obtain ⟨o,_,_,_,ho,_⟩:=hS
  exact ⟨o,ho⟩
end
noncomputable def zWl (φ:FE):FE:=fun δ μ=>(φ δ μ).bind fun p=>match p.1 with
  | .tup ds=>(z2g ds).bind fun ns=>bif decide (ns.length≤4000∧(uqL ns).length<64) then some (.loc p.2.length,p.2 ++ [.lst ((zrn ns).map .int)]) else none
  | _=>none
section
variable {X:Cx} {a b c e:Expr} {es:List Expr} {φ ψ χ:FE} {pos pos2 p1 p2:Pos}
theorem zws (hm1:X.mg "sorted" = none) (hv1:bootBuiltins "sorted" = some (.builtin "sorted")) (hm2:X.mg "set" = none) (hv2:bootBuiltins "set" = some (.type "set")) (h:ME X e φ) (hc:X.calm=true:=by rfl) (hg1:Gl X "sorted":=by rfl) (hg2:Gl X "set":=by rfl)
    (he:starEach [e] X.env=(false,eval e X.env) :: starEach [] X.env:=by rfl) (he2:starEach [.Call (.Name "set" p2) [e] [] pos2] X.env=(false,eval (.Call (.Name "set" p2) [e] [] pos2) X.env) :: starEach [] X.env:=by rfl) :
    ME X (.Call (.Name "sorted" p1) [.Call (.Name "set" p2) [e] [] pos2] [] pos) (zWl φ) :=
  zcd (zxk (zuj hc) hg1 hm1 hv1 (zmc (zqd (zQp hc) hg2 hm2 hv2 (zmc h zhe he) (by decide) (by decide) he rfl) zhe he2) (by decide) (by decide) he2 rfl) fun ρ δ μ σ H d μ' Q A e k=>by
    obtain ⟨⟨x,μ1⟩,e1,e⟩:=zf e
    refine ⟨ρ,δ,μ,x,μ1,A,e1,fun ρ1 H1 v x1 R1 r1=>?_⟩
    dsimp only at e
    split at e
    · obtain ⟨ns,e2,e⟩:=zf e
      obtain ⟨hb,e⟩:=zM e
      have hb:=of_decide_eq_true hb
      cases e
      have hm:=zzd e2
      subst hm
      obtain ⟨p,vs,rfl,ep,q⟩:=r1.tup_inv
      rw [zUf q] at ep
      refine ⟨p,ns,rfl,SqT.of ep,by unfold scanBound;omega,fun p1 hp1=>?_⟩
      refine ⟨p1,uqL ns,rfl,zo,hb.2,fun p2 ms hp2 hpm hpw=>?_⟩
      have hms:ms=zrn ns:=zof (hpm.trans (List.mergeSort_perm _ _).symm) hpw (z8m _)
      subst hms
      have R2:=R1.newTup (o:=zxn X p1 (uqL ns)) hp1
      exact k _ _ _ (x1.trans ((Ext.new hp1).trans (Ext.push hp2))) (R2.push hp2 ⟨_,zo,zDe⟩) (.loc (zvb R2))
    · cases e
end
@[simp] theorem zBx {α:Type} (l:List α):(l.all fun _=>true)=true:=by simp
theorem zAt {μ g:Mem} {n:Nat} (h:n < μ.length):(μ ++ g)[n]? = μ[n]?:=List.getElem?_append_left h
theorem zF {μ g:Mem} {n:Nat} {o:LObj} (h:μ[n]?=some o):(μ ++ g)[n]?=some o:=by
  rw [zAt (List.getElem?_eq_some_iff.mp h).1];exact h
theorem zov {K:W.Frag} {F:FF} {H:Hp} {a:Addr} {ns:List Int} (hF:∃ μ',F [.fz (ns.map D.int)] []=some (.bl true,μ')) (hO:zDw H) (hS:SqL K H a (ns.map V.int)):spM K 1 F [.ref a] H (fun v _=>v = .bl true) fun _ _ _=>False:=by
  obtain ⟨μ',e⟩:=hF
  have fz:FzL K H a (ns.map V.int):=by
    rcases hS with (h | ⟨o,h⟩) | h
    · rcases hO a with z | ⟨o,xs,z⟩
      · rw [h] at z;cases z
      · rw [h] at z;cases z
    · exact .inl ⟨o,h⟩
    · exact .inr h
  have hints:∀ ns:List Int,RepVs K [] H (ns.map D.int) (ns.map V.int):=fun ns=>by
    induction ns with
    | nil=>exact .nil
    | cons i r ih=>exact .cons .int ih
  exact ⟨rfl,[],[.fz (ns.map D.int)],[], .bl true,μ', .cons (.fz fz (hints ns)) .nil,⟨List.nodup_nil,rfl,fun n a o h1 _=>by simp at h1⟩,e,fun ρ' H' v _ _ r=>r.bl_inv⟩
structure WE (φ:FE) (δ:Loc) (μ:Mem) (Q:D→Mem→Prop):Prop where
  ex:∃ d μ',φ δ μ = some (d,μ')∧Q d μ'
structure WT (φ:FT) (δ:Loc) (μ:Mem) (Q:Bool→Mem→Prop):Prop where
  ex:∃ d μ',φ δ μ = some (d,μ')∧Q d μ'
structure WA (φ:FA) (δ:Loc) (μ:Mem) (Q:List D→Mem→Prop):Prop where
  ex:∃ d μ',φ δ μ = some (d,μ')∧Q d μ'
structure WO (φ:FO) (δ:Loc) (μ:Mem) (Q:Option Int→Mem→Prop):Prop where
  ex:∃ d μ',φ δ μ = some (d,μ')∧Q d μ'
structure W2 (g:G2) (x y:D) (μ:Mem) (Q:D→Mem→Prop):Prop where
  ex:∃ d μ',g x y μ = some (d,μ')∧Q d μ'
structure WF (F:FF) (ds:List D) (μ:Mem) (Q:D→Mem→Prop):Prop where
  ex:∃ d μ',F ds μ = some (d,μ')∧Q d μ'
structure WM (g:GM) (x:D) (ds:List D) (μ:Mem) (Q:D→Mem→Prop):Prop where
  ex:∃ d μ',g x ds μ = some (d,μ')∧Q d μ'
structure WI (i:FI) (δ:Loc) (μ:Mem) (Q:List D→(Mem→Bool)→Mem→Prop):Prop where
  ex:∃ ds ok μ',i δ μ = some (ds,ok,μ')∧Q ds ok μ'
structure WG (g:FG) (d:D) (δ:Loc) (μ:Mem) (Q:Loc→Mem→Prop):Prop where
  ex:∃ δ' μ',g d δ μ = some (δ',μ')∧Q δ' μ'
structure WGs (g:FGs) (ds:List D) (δ:Loc) (μ:Mem) (Q:Loc→Mem→Prop):Prop where
  ex:∃ δ' μ',g ds δ μ = some (δ',μ')∧Q δ' μ'
structure WL (g:FG) (c:FT) (φ:FE) (ok:Mem→Bool) (δ:Loc) (xs ys:List D) (μ:Mem) (Q:D→Mem→Prop):Prop where
  ex:∃ d μ',zCr g c φ ok δ xs ys μ = some (d,μ')∧Q d μ'
def Ek (nx:Loc→Mem→Prop) (rt:D→Mem→Prop) (bk ct:Loc→Mem→Prop):Out→Prop
  | .next δ μ=>nx δ μ
  | .ret d μ=>rt d μ
  | .brk δ μ=>bk δ μ
  | .cont δ μ=>ct δ μ
  | .exc _ _ _=>False
structure WS (ψ:FS) (δ:Loc) (μ:Mem) (nx:Loc→Mem→Prop) (rt:D→Mem→Prop) (bk ct:Loc→Mem→Prop):Prop where
  ex:∃ o,ψ δ μ = some o∧Ek nx rt bk ct o
structure WFor (g:FG) (body:FS) (ok:Mem→Bool) (xs:List D) (δ:Loc) (μ:Mem) (nx:Loc→Mem→Prop) (rt:D→Mem→Prop):Prop where
  ex:∃ o,zXg g body ok xs δ μ = some o∧Ek nx rt (fun _ _=>False) (fun _ _=>False) o
def Keep (μ μ':Mem):Prop:=∀ (n:Nat) (o:LObj),μ[n]?=some o→μ'[n]?=some o
theorem Keep.refl {μ:Mem}:Keep μ μ:=fun _ _ h=>h
theorem Keep.trans {μ μ1 μ2:Mem} (a:Keep μ μ1) (b:Keep μ1 μ2):Keep μ μ2:=fun n o h=>b n o (a n o h)
theorem Keep.app {μ g:Mem}:Keep μ (μ ++ g):=fun _ _ h=>zF h
theorem Keep.to {μ μ1 g:Mem} (a:Keep μ μ1):Keep μ (μ1++g):=a.trans .app
theorem Keep.len {μ μ':Mem} (a:Keep μ μ'):μ.length≤μ'.length:=by
  rcases Nat.lt_or_ge μ'.length μ.length with h | h
  · have:=a μ'.length μ[μ'.length] (by simp [h])
    simp at this
  · exact h
theorem zt {μ:Mem} {o:LObj}:(μ ++ [o])[μ.length]?=some o:=by simp
theorem zz {μ:Mem} {n:Nat} {o:LObj} (h:μ[n]?=some o):n < μ.length:=(List.getElem?_eq_some_iff.mp h).1
theorem zI {μ:Mem} {n m:Nat} {o o':LObj} (h:μ[n]?=some o) (hne:m≠n):(μ.set m o')[n]?=some o:=by
  rw [List.getElem?_set_ne hne];exact h
theorem zK {μ:Mem} {n:Nat} {o o':LObj} (h:μ[n]?=some o):(μ.set n o')[n]?=some o':=by
  rw [List.getElem?_set_self (zz h)]
theorem zx {μ:Mem} {n:Nat} {ds:List D} (h:μ[n]?=some (.lst ds)):items μ (.loc n)=some ds:=by simp [h]
section
variable {φ ψ χ:FE} {g g2:G2} {δ:Loc} {μ:Mem} {Q:D→Mem→Prop} {i j:Int} {d x y:D} {ds xs:List D}
theorem WE.mono {Q':D→Mem→Prop} (h:WE φ δ μ Q) (k:∀ d μ',Q d μ'→Q' d μ'):WE φ δ μ Q':=let ⟨d,μ',e,q⟩:=h;⟨d,μ',e,k d μ' q⟩
theorem zb {n:Nat} (h:δ[n]?=some (some d)) (q:Q d μ):WE (zi n) δ μ Q:=⟨d,μ,by simp [h],q⟩
theorem w_c (q:Q d μ):WE (fC d) δ μ Q:=⟨d,μ,rfl,q⟩
theorem zk (h:WE φ δ μ fun x μ1=>WE ψ δ μ1 fun y μ2=>W2 g x y μ2 Q):WE (zu g φ ψ) δ μ Q:=by
  obtain ⟨x,μ1,e1,y,μ2,e2,d,μ3,e3,q⟩:=h
  exact ⟨d,μ3,by simp [e1,e2,e3],q⟩
theorem zwx (h:WE φ δ μ fun x μ1=>∃ b,x = .bl b∧(b=true→WE ψ δ μ1 Q)∧(b=false→Q (.bl false) μ1)):WE (z7x φ ψ) δ μ Q:=by
  obtain ⟨x,μ1,e1,b,rfl,h1,h2⟩:=h
  cases b with
  | true=>obtain ⟨d,μ2,e2,q⟩:=h1 rfl;exact ⟨d,μ2,by simp [e1,e2],q⟩
  | false=>exact ⟨_,μ1,by simp [e1],h2 rfl⟩
theorem zIx (h:WE φ δ μ fun x μ1=>∃ b,x = .bl b∧(b=false→WE ψ δ μ1 Q)∧(b=true→Q (.bl true) μ1)):WE (fOr φ ψ) δ μ Q:=by
  obtain ⟨x,μ1,e1,b,rfl,h1,h2⟩:=h
  cases b with
  | false=>obtain ⟨d,μ2,e2,q⟩:=h1 rfl;exact ⟨d,μ2,by simp [e1,e2],q⟩
  | true=>exact ⟨_,μ1,by simp [e1],h2 rfl⟩
theorem w_not (h:WE φ δ μ fun x μ1=>∃ b,x = .bl b∧Q (.bl (!b)) μ1):WE (zhy φ) δ μ Q:=by
  obtain ⟨x,μ1,e1,b,rfl,q⟩:=h
  exact ⟨_,μ1,by simp [e1],q⟩
theorem ziv (h:WE φ δ μ fun x μ1=>∃ i,x = .int i∧Q (.int (-i)) μ1):WE (zYw φ) δ μ Q:=by
  obtain ⟨x,μ1,e1,b,rfl,q⟩:=h
  exact ⟨_,μ1,by simp [e1],q⟩
theorem zMd {α:FA} (h:WA α δ μ fun ds μ1=>Q (.tup ds) μ1):WE (z3i α) δ μ Q:=by
  obtain ⟨x,μ1,e1,q⟩:=h
  exact ⟨_,μ1,by simp [e1],q⟩
theorem zcg {α:FA} (h:WA α δ μ fun ds μ1=>Q (.loc μ1.length) (μ1 ++ [.lst ds])):WE (zcl α) δ μ Q:=by
  obtain ⟨x,μ1,e1,q⟩:=h
  exact ⟨_,_,by simp [e1] <;> rfl,q⟩
theorem zow (h:Q (.loc μ.length) (μ ++ [.dct []])):WE zSw δ μ Q:=⟨_,_,rfl,h⟩
theorem zww {lo hi:FO} (h:WE φ δ μ fun x μ1=>WO lo δ μ1 fun l μ2=>WO hi δ μ2 fun u μ3=>∃ ds,x = .tup ds∧Q (.tup (cutD ds l u)) μ3):WE (fSl φ lo hi) δ μ Q:=by
  obtain ⟨x,μ1,e1,l,μ2,e2,u,μ3,e3,ds,rfl,q⟩:=h
  exact ⟨_,_,by simp [e1,e2,e3] <;> rfl,q⟩
theorem zAl {R:Option Int→Mem→Prop} (q:R none μ):WO pNo δ μ R:=⟨_,_,rfl,q⟩
theorem zph {R:Option Int→Mem→Prop} (h:WE φ δ μ fun x μ1=>∃ i,x = .int i∧R (some i) μ1):WO (z7p φ) δ μ R:=by
  obtain ⟨x,μ1,e1,i,rfl,q⟩:=h
  exact ⟨_,_,by simp [e1] <;> rfl,q⟩
theorem zp {F:FF} {α:FA} (h:WA α δ μ fun ds μ1=>WF F ds μ1 Q):WE (zy F α) δ μ Q:=by
  obtain ⟨ds,μ1,e1,d,μ2,e2,q⟩:=h
  exact ⟨d,μ2,by simp [e1,e2],q⟩
theorem z8d {m:GM} {α:FA} (h:WE φ δ μ fun x μ1=>∃ n xs,x = .loc n∧μ1[n]?=some (.lst xs)∧WA α δ μ1 fun ds μ2=>WM m (.loc n) ds μ2 Q):WE (z2e m φ α) δ μ Q:=by
  obtain ⟨x,μ1,e1,n,xs,rfl,e2,ds,μ2,e3,d,μ3,e4,q⟩:=h
  exact ⟨d,μ3,by simp [e1,e2,e3,e4],q⟩
theorem zil {n:Nat} {fr:List Nat} {it:FI} {tg:FG} {c:FT} (h:WI it δ μ fun ds ok μ1=>few ds=true∧WL tg c φ ok (δC n fr δ) ds [] μ1 Q):WE (fLC n fr it tg c φ) δ μ Q:=by
  obtain ⟨ds,ok,μ1,e1,hf,d,μ2,e2,q⟩:=h
  exact ⟨d,μ2,by unfold fLC;simp only [e1,Option.bind_some,hf,cond_true];exact e2,q⟩
theorem zVs (h:WE φ δ μ fun x μ1=>∃ n ns,x = .loc n∧μ1[n]?=some (.lst (ns.map .int))∧ns.length≤4000∧(uqL ns).length<64∧Q (.loc μ1.length) (μ1 ++ [.lst ((zrn ns).map .int)])):WE (zXo φ) δ μ Q:=by
  obtain ⟨x,μ1,e1,n,ns,rfl,e2,h1,h2,q⟩:=h
  exact ⟨_,_,by simp [zXo,e1,e2,h1,h2] <;> rfl,q⟩
theorem zA {R:Bool→Mem→Prop} (h:WE φ δ μ fun x μ1=>∃ b,x = .bl b∧R b μ1):WT (zO φ) δ μ R:=by
  obtain ⟨x,μ1,e1,b,rfl,q⟩:=h
  exact ⟨_,_,by simp [e1] <;> rfl,q⟩
theorem zxp {c e:FT} {R:Bool→Mem→Prop} (h:WT c δ μ fun b μ1=>(b=true→WT e δ μ1 R)∧(b=false→R false μ1)):WT (zNs c e) δ μ R:=by
  obtain ⟨b,μ1,e1,h1,h2⟩:=h
  cases b with
  | true=>obtain ⟨d,μ2,e2,q⟩:=h1 rfl;exact ⟨d,μ2,by simp [e1,e2],q⟩
  | false=>exact ⟨_,μ1,by simp [e1],h2 rfl⟩
theorem zTg {c e:FT} {R:Bool→Mem→Prop} (h:WT c δ μ fun b μ1=>(b=false→WT e δ μ1 R)∧(b=true→R true μ1)):WT (zgo c e) δ μ R:=by
  obtain ⟨b,μ1,e1,h1,h2⟩:=h
  cases b with
  | false=>obtain ⟨d,μ2,e2,q⟩:=h1 rfl;exact ⟨d,μ2,by simp [e1,e2],q⟩
  | true=>exact ⟨_,μ1,by simp [e1],h2 rfl⟩
theorem zhg {c:FT} {R:Bool→Mem→Prop} (h:WT c δ μ fun b μ1=>R (!b) μ1):WT (z4i c) δ μ R:=by
  obtain ⟨b,μ1,e1,q⟩:=h
  exact ⟨_,_,by simp [e1] <;> rfl,q⟩
theorem zuu {R:Bool→Mem→Prop} (q:R true μ):WT zzo δ μ R:=⟨_,_,rfl,q⟩
theorem zn {R:List D→Mem→Prop} (q:R [] μ):WA zD δ μ R:=⟨_,_,rfl,q⟩
theorem zc {α:FA} {R:List D→Mem→Prop} (h:WE φ δ μ fun x μ1=>WA α δ μ1 fun xs μ2=>R (x :: xs) μ2):WA (ze φ α) δ μ R:=by
  obtain ⟨x,μ1,e1,xs,μ2,e2,q⟩:=h
  exact ⟨_,_,by simp [e1,e2] <;> rfl,q⟩
theorem zde (q:Q (.int (i+j)) μ):W2 zWd (.int i) (.int j) μ Q:=⟨_,_,rfl,q⟩
theorem zLn {as bs:List D} (h:as.length+bs.length≤1000000) (q:Q (.tup (as++bs)) μ):W2 zWd (.tup as) (.tup bs) μ Q:=⟨_,_,by simp [h] <;> rfl,q⟩
theorem z5s {l m:Nat} {as bs:List D} (h1:μ[l]?=some (.lst as)) (h2:μ[m]?=some (.lst bs)) (h:as.length+bs.length≤1000000) (q:Q (.loc μ.length) (μ ++ [.lst (as++bs)])):W2 zWd (.loc l) (.loc m) μ Q:=⟨_,_,by simp [h1,h2,h] <;> rfl,q⟩
theorem zep (q:Q (.int (i - j)) μ):W2 zJs (.int i) (.int j) μ Q:=⟨_,_,rfl,q⟩
theorem z0l (h:z2h i j=true) (q:Q (.int (i * j)) μ):W2 zii (.int i) (.int j) μ Q:=⟨_,_,by simp [zii,h] <;> rfl,q⟩
theorem zVk (h:0<j) (q:Q (.int (i % j)) μ):W2 z9m (.int i) (.int j) μ Q:=⟨_,_,by simp [h] <;> rfl,q⟩
theorem zYr (h:0<j) (h':j<1606938044258990275541962092341162602522202993782792835301376) (q:Q (.int (i / j)) μ):W2 zTt (.int i) (.int j) μ Q:=⟨_,_,by simp [h,h'] <;> rfl,q⟩
theorem z9u (h:0≤j) (h1:j≤100000) (h2:i.natAbs<1606938044258990275541962092341162602522202993782792835301376) (q:Q (.int (i ^ j.toNat)) μ):W2 zMu (.int i) (.int j) μ Q:=⟨_,_,by simp only [zMu];rw [decide_eq_true ⟨h,h1,h2⟩];rfl,q⟩
theorem z6f {r:Int→Int→Bool} (q:Q (.bl (r i j)) μ):W2 (zTj r) (.int i) (.int j) μ Q:=⟨_,_,rfl,q⟩
theorem zRc (h:items μ x=some xs) (h2:atI xs i=some d) (q:Q d μ):W2 gIx x (.int i) μ Q:=⟨_,_,by show ((items μ x).bind fun ds=>(atI ds i).bind fun d=>some (d,μ))=_;rw [h,Option.bind_some,h2,Option.bind_some],q⟩
theorem zgj (q:Q (.bl (i == j)) μ):W2 gEq (.int i) (.int j) μ Q:=⟨_,_,by simp [gEq,toP,PyData.eqv] <;> rfl,q⟩
theorem z1t (q:Q (.bl (!(i == j))) μ):W2 gNe (.int i) (.int j) μ Q:=⟨_,_,by simp [gNe,toP,PyData.eqv] <;> rfl,q⟩
theorem z6w {p p':PyData} (h1:toP μ 8 x=some p) (h2:toP μ 8 y=some p') (q:Q (.bl (PyData.eqv p p')) μ):W2 gEq x y μ Q:=⟨_,_,by simp [gEq,h1,h2] <;> rfl,q⟩
theorem zPx {p p':PyData} (h1:toP μ 8 x=some p) (h2:toP μ 8 y=some p') (q:Q (.bl (!PyData.eqv p p')) μ):W2 gNe x y μ Q:=⟨_,_,by simp [gNe,h1,h2] <;> rfl,q⟩
theorem z3w {a b:Bool} (q:Q (.bl (a == b)) μ):W2 gIs (.bl a) (.bl b) μ Q:=⟨_,_,rfl,q⟩
theorem z0r {a b:Bool} (q:Q (.bl (a != b)) μ):W2 zef (.bl a) (.bl b) μ Q:=⟨_,_,rfl,q⟩
theorem zrr (h:items μ y=some xs) (h1:zQc x=true) (h2:xs.all zQc=true) (q:Q (.bl (!xs.any fun d=>eqF d x)) μ):W2 zog x y μ Q:=⟨_,_,by simp only [zog,h,Option.bind_some,h1,h2,Bool.and_self,cond_true],q⟩
theorem zbe (h:items μ x=some xs) (q:Q (.int xs.length) μ):WF zsj [x] μ Q:=⟨_,_,by show ((items μ x).bind fun xs=>some (D.int xs.length,μ))=_;rw [h,Option.bind_some],q⟩
theorem zMq (h:items μ x=some xs) (q:Q (.loc μ.length) (μ ++ [.lst xs])):WF z5p [x] μ Q:=⟨_,_,by show ((items μ x).bind fun xs=>some (D.loc μ.length,μ ++ [LObj.lst xs]))=_;rw [h,Option.bind_some],q⟩
theorem z6k (h:items μ x=some xs) (q:Q (.tup xs) μ):WF zcf [x] μ Q:=by
  refine ⟨_,_,?_,q⟩
  cases x <;> first | (cases h;rfl) | (simp only [zcf,h];rfl)
theorem zot {c t:Ty} (h:zyw μ x=some t) (q:Q (.bl (zRw t c)) μ):WF (zZq c) [x, .ty c.name] μ Q:=⟨_,_,by simp only [zZq,beq_self_eq_true,cond_true,h,Option.bind_some],q⟩
theorem zrx {n:Nat} {ns:List Int} (h:μ[n]?=some (.lst (ns.map .int))) (q:Q (.int ns.sum) μ):WF zOu [.loc n] μ Q:=⟨_,_,by simp [h] <;> rfl,q⟩
theorem zKv {n:Nat} {bs:List Bool} (h:μ[n]?=some (.lst (bs.map .bl))) (q:Q (.bl (bs.all fun b=>b)) μ):WF zrw [.loc n] μ Q:=⟨_,_,by simp [h,all_map,Function.comp_def],q⟩
theorem zQe {n:Nat} (h:μ[n]?=some (.lst xs)) (hl:xs.length≤1000000) (q:Q .non (μ.set n (.lst (xs ++ [d])))):WM zed (.loc n) [d] μ Q:=⟨_,_,by simp [h,hl] <;> rfl,q⟩
theorem zAv {n:Nat} (h:μ[n]?=some (.lst xs)) (hl:xs.length+ds.length≤1000000) (q:Q .non (μ.set n (.lst (xs++ds)))):WM zIu (.loc n) [.tup ds] μ Q:=⟨_,_,by simp [h,hl] <;> rfl,q⟩
theorem zFb {F:FF} {N:List Str} {p:FS} (hF:F=fun ds μ=>zzb (p (zG N ds) μ)) (h:WS p (zG N ds) μ (fun _ μ'=>Q .non μ') Q (fun _ _=>False) fun _ _=>False):WF F ds μ Q:=by
  subst hF
  obtain ⟨o,e,k⟩:=h
  cases o with
  | next δ' μ'=>exact ⟨_,_,by rw [e];rfl,k⟩
  | ret d μ'=>exact ⟨_,_,by rw [e];rfl,k⟩
  | brk _ _=>exact k.elim
  | cont _ _=>exact k.elim
  | exc _ _ _=>exact k.elim
theorem zrf {α:FA} {R:List D→(Mem→Bool)→Mem→Prop} (h:WA α δ μ fun ds μ1=>∃ j:Int,ds = [.int j]∧-(2 ^ 62)≤j∧j<2 ^ 62∧R ((List.range j.toNat).map fun (k:Nat) => .int k) yes μ1):WI (z7d α) δ μ R:=by
  obtain ⟨ds,μ1,e1,j,rfl,h1,h2,q⟩:=h
  refine ⟨_,_,_,?_,q⟩
  unfold z7d
  simp only [e1,Option.bind_some]
  rw [decide_eq_true ⟨h1,h2⟩]
  rfl
theorem zrd {R:List D→(Mem→Bool)→Mem→Prop} (h:WE φ δ μ fun x μ1=>(∃ ds,x = .tup ds∧R ds yes μ1)∨(∃ ds,x = .fz ds∧R ds yes μ1)∨∃ n ds,x = .loc n∧μ1[n]?=some (.lst ds)∧R ds (z9k n ds) μ1):WI (zCg φ) δ μ R:=by
  obtain ⟨x,μ1,e1,⟨ds,rfl,q⟩ | ⟨ds,rfl,q⟩ | ⟨n,ds,rfl,e2,q⟩⟩:=h
  · exact ⟨_,_,_,by simp [e1] <;> rfl,q⟩
  · exact ⟨_,_,_,by simp [e1] <;> rfl,q⟩
  · exact ⟨_,_,_,by simp [e1,e2] <;> rfl,q⟩
theorem zoc {n:Nat} {R:Loc→Mem→Prop} (q:R (δ.set n (some d)) μ):WG (gN n) d δ μ R:=⟨_,_,rfl,q⟩
theorem zFx {n:Nat} {gs:FGs} {R:Loc→Mem→Prop} (hl:ds.length=n) (h:WGs gs ds δ μ R):WG (gT n gs) (.tup ds) δ μ R:=by
  obtain ⟨δ',μ',e,q⟩:=h
  exact ⟨δ',μ',by simp [hl,e],q⟩
theorem zYh {gs:FGs} {R:Loc→Mem→Prop} {a b:D} (h:WGs gs [a,b] δ μ R):WG (gT 2 gs) (.tup [a,b]) δ μ R:=zFx rfl h
theorem znx {gs:FGs} {R:Loc→Mem→Prop} {a b c:D} (h:WGs gs [a,b,c] δ μ R):WG (gT 3 gs) (.tup [a,b,c]) δ μ R:=zFx rfl h
theorem zvh {R:Loc→Mem→Prop} (q:R δ μ):WGs zyg [] δ μ R:=⟨_,_,rfl,q⟩
theorem zlc {t:FG} {gs:FGs} {R:Loc→Mem→Prop} (h:WG t d δ μ fun δ1 μ1=>WGs gs ds δ1 μ1 R):WGs (znb t gs) (d :: ds) δ μ R:=by
  obtain ⟨δ1,μ1,e1,δ2,μ2,e2,q⟩:=h
  exact ⟨δ2,μ2,by simp [e1,e2],q⟩
end
section
variable {φ ψ:FE} {δ:Loc} {μ:Mem} {nx:Loc→Mem→Prop} {rt:D→Mem→Prop} {bk ct:Loc→Mem→Prop} {p q:FS}
theorem z9 (h:nx δ μ):WS zJb δ μ nx rt bk ct:=⟨.next δ μ,rfl,h⟩
theorem zr (h:WS p δ μ (fun δ' μ'=>WS q δ' μ' nx rt bk ct) rt bk ct):WS (zX p q) δ μ nx rt bk ct:=by
  obtain ⟨o,e,k⟩:=h
  cases o with
  | next δ' μ'=>obtain ⟨o2,e2,k2⟩:=k;exact ⟨o2,by simp [e,e2],k2⟩
  | ret d μ'=>exact ⟨.ret d μ',by simp only [zX,e],k⟩
  | brk d μ'=>exact ⟨.brk d μ',by simp only [zX,e],k⟩
  | cont d μ'=>exact ⟨.cont d μ',by simp only [zX,e],k⟩
  | exc _ _ _=>exact k.elim
theorem zdb {n:Nat} (h:WE φ δ μ fun d μ'=>nx (δ.set n (some d)) μ'):WS (zbc n φ) δ μ nx rt bk ct:=by
  obtain ⟨d,μ',e,k⟩:=h
  exact ⟨.next _ _,by simp only [zbc,e,Option.bind_some],k⟩
theorem z5i {g:FG} (h:WE φ δ μ fun d μ1=>WG g d δ μ1 nx):WS (z8o φ g) δ μ nx rt bk ct:=by
  obtain ⟨d,μ1,e,δ',μ2,e2,k⟩:=h
  exact ⟨.next _ _,by simp only [z8o,e,Option.bind_some,e2],k⟩
theorem zoe (h:WE φ δ μ fun _ μ'=>nx δ μ'):WS (zHg φ) δ μ nx rt bk ct:=by
  obtain ⟨d,μ',e,k⟩:=h
  exact ⟨.next _ _,by simp only [zHg,e,Option.bind_some],k⟩
theorem zab (h:WE φ δ μ rt):WS (zUb φ) δ μ nx rt bk ct:=by
  obtain ⟨d,μ',e,k⟩:=h
  exact ⟨.ret _ _,by simp only [zUb,e,Option.bind_some],k⟩
theorem z1e {c:FT} (h:WT c δ μ fun b μ1=>(b=true→WS p δ μ1 nx rt bk ct)∧(b=false→WS q δ μ1 nx rt bk ct)):WS (sIf c p q) δ μ nx rt bk ct:=by
  obtain ⟨b,μ1,e,h1,h2⟩:=h
  cases b with
  | true=>obtain ⟨o,e2,k⟩:=h1 rfl;exact ⟨o,by simp [e,e2],k⟩
  | false=>obtain ⟨o,e2,k⟩:=h2 rfl;exact ⟨o,by simp [e,e2],k⟩
theorem zLd {it:FI} {g:FG} {body:FS} (h:WI it δ μ fun ds ok μ1=>WFor g body ok ds δ μ1 nx rt):WS (zti it g body) δ μ nx rt bk ct:=by
  obtain ⟨ds,ok,μ1,e,o,e2,k⟩:=h
  refine ⟨o,by simp only [zti,e,Option.bind_some];exact e2,?_⟩
  cases o with
  | next _ _=>exact k
  | ret _ _=>exact k
  | brk _ _=>exact k.elim
  | cont _ _=>exact k.elim
  | exc _ _ _=>exact k.elim
theorem ztq {g:FG} {body:FS} {ok:Mem→Bool} {nx:Loc→Mem→Prop} {rt:D→Mem→Prop} (I:Nat→Loc→Mem→Prop):∀ {xs:List D} {n:Nat} {δ:Loc} {μ:Mem},I n δ μ→(∀ m δ μ,I m δ μ→ok μ = true) →
    (∀ (m:Nat) (x:D) (δ:Loc) (μ:Mem),xs[m]?=some x→I (n+m) δ μ→WG g x δ μ fun δ1 μ1=>WS body δ1 μ1 (I (n+m+1)) rt nx (I (n+m+1)))→(∀ δ μ,I (n+xs.length) δ μ→nx δ μ)→WFor g body ok xs δ μ nx rt
  | [],n,δ,μ,h0,hok,_,hend=>⟨.next δ μ,by simp only [zXg,hok _ _ _ h0,cond_true],hend δ μ h0⟩
  | x :: xs,n,δ,μ,h0,hok,hs,hend=>by
    obtain ⟨δ1,μ1,e1,o,e2,k⟩:=hs 0 x δ μ rfl h0
    cases o with
    | next δ2 μ2 =>
      obtain ⟨o3,e3,k3⟩:=ztq I (xs:=xs) (n:=n+1) (δ:=δ2) (μ:=μ2) k hok (fun m y δ μ hy hI=>by
        have:=hs (m+1) y δ μ (by simpa using hy) (by rw [show n+(m+1)=n+1+m by omega];exact hI)
        rw [show n+(m+1)=n+1+m by omega] at this
        exact this) (fun δ μ hI=>hend δ μ (by rw [length_cons,show n+(xs.length+1)=n+1+xs.length by omega];exact hI))
      exact ⟨o3,by simp only [zXg,hok _ _ _ h0,cond_true,e1,Option.bind_some,e2];exact e3,k3⟩
    | cont δ2 μ2 =>
      obtain ⟨o3,e3,k3⟩:=ztq I (xs:=xs) (n:=n+1) (δ:=δ2) (μ:=μ2) k hok (fun m y δ μ hy hI=>by
        have:=hs (m+1) y δ μ (by simpa using hy) (by rw [show n+(m+1)=n+1+m by omega];exact hI)
        rw [show n+(m+1)=n+1+m by omega] at this
        exact this) (fun δ μ hI=>hend δ μ (by rw [length_cons,show n+(xs.length+1)=n+1+xs.length by omega];exact hI))
      exact ⟨o3,by simp only [zXg,hok _ _ _ h0,cond_true,e1,Option.bind_some,e2];exact e3,k3⟩
    | brk δ2 μ2=>exact ⟨.next δ2 μ2,by simp only [zXg,hok _ _ _ h0,cond_true,e1,Option.bind_some,e2],k⟩
    | ret d μ2=>exact ⟨.ret d μ2,by simp only [zXg,hok _ _ _ h0,cond_true,e1,Option.bind_some,e2],k⟩
    | exc _ _ _=>exact k.elim
end
theorem z9s {g:FG} {c:FT} {φ:FE} {ok:Mem→Bool} {δ:Loc} {Q:D→Mem→Prop} (I:Nat→List D→Mem→Prop):∀ {xs ys:List D} {n:Nat} {μ:Mem},I n ys μ→(∀ m ys μ,I m ys μ→ok μ = true) →
    (∀ (m:Nat) (x:D) (ys:List D) (μ:Mem),xs[m]?=some x→I (n+m) ys μ→WG g x δ μ fun δ1 μ1=>WT c δ1 μ1 fun b μ2=>(b=true→WE φ δ1 μ2 fun d μ3=>I (n+m+1) (ys ++ [d]) μ3)∧(b=false→I (n+m+1) ys μ2)) →
    (∀ ys μ,I (n+xs.length) ys μ→Q (.loc μ.length) (μ ++ [.lst ys]))→WL g c φ ok δ xs ys μ Q
  | [],ys,n,μ,h0,hok,_,hend=>⟨_,_,by simp only [zCr,hok _ _ _ h0,cond_true],hend ys μ h0⟩
  | x :: xs,ys,n,μ,h0,hok,hs,hend=>by
    obtain ⟨δ1,μ1,e1,b,μ2,e2,ht,hf⟩:=hs 0 x ys μ rfl h0
    have step:∀ ys2 μ3,I (n+1) ys2 μ3→WL g c φ ok δ xs ys2 μ3 Q:=fun ys2 μ3 h=>z9s I (n:=n+1) h hok (fun m y ys μ hy hI=>by
        have:=hs (m+1) y ys μ (by simpa using hy) (by rw [show n+(m+1)=n+1+m by omega];exact hI)
        rw [show n+(m+1)=n+1+m by omega] at this
        exact this) (fun ys μ hI=>hend ys μ (by rw [length_cons,show n+(xs.length+1)=n+1+xs.length by omega];exact hI))
    cases b with
    | true =>
      obtain ⟨d,μ3,e3,h3⟩:=ht rfl
      obtain ⟨d',μ4,e4,q⟩:=step _ _ h3
      exact ⟨d',μ4,by simp only [zCr,hok _ _ _ h0,cond_true,e1,Option.bind_some,e2,e3];exact e4,q⟩
    | false =>
      obtain ⟨d',μ4,e4,q⟩:=step _ _ (hf rfl)
      exact ⟨d',μ4,by simp only [zCr,hok _ _ _ h0,cond_true,e1,Option.bind_some,e2,cond_false];exact e4,q⟩
theorem zsb {g:FG} {body:FS} {ok:Mem→Bool} {nx:Loc→Mem→Prop} {rt:D→Mem→Prop} {xs:List D} {δ:Loc} {μ:Mem} (I:Nat→Loc→Mem→Prop) (h0:I 0 δ μ) (hok:∀ m δ μ,I m δ μ→ok μ = true)
    (hs:∀ (m:Nat) (x:D) (δ:Loc) (μ:Mem),xs[m]?=some x→I m δ μ→WG g x δ μ fun δ1 μ1=>WS body δ1 μ1 (I (m+1)) rt nx (I (m+1))) (hend:∀ δ μ,I xs.length δ μ→nx δ μ):WFor g body ok xs δ μ nx rt :=
  ztq I (n:=0) h0 hok (fun m x δ μ hx h=>by
    rw [Nat.zero_add] at h ⊢
    exact hs m x δ μ hx h) (fun δ μ h=>hend δ μ (by rw [Nat.zero_add] at h;exact h))
theorem zan {g:FG} {c:FT} {φ:FE} {ok:Mem→Bool} {δ:Loc} {Q:D→Mem→Prop} {xs:List D} {μ:Mem} (I:Nat→List D→Mem→Prop) (h0:I 0 [] μ) (hok:∀ m ys μ,I m ys μ→ok μ = true)
    (hs:∀ (m:Nat) (x:D) (ys:List D) (μ:Mem),xs[m]?=some x→I m ys μ→WG g x δ μ fun δ1 μ1=>WT c δ1 μ1 fun b μ2=>(b=true→WE φ δ1 μ2 fun d μ3=>I (m+1) (ys ++ [d]) μ3)∧(b=false→I (m+1) ys μ2))
    (hend:∀ ys μ,I xs.length ys μ→Q (.loc μ.length) (μ ++ [.lst ys])):WL g c φ ok δ xs [] μ Q :=
  z9s I (n:=0) h0 hok (fun m x ys μ hx h=>by
    rw [Nat.zero_add] at h ⊢
    exact hs m x ys μ hx h) (fun ys μ h=>hend ys μ (by rw [Nat.zero_add] at h;exact h))
theorem zCk {j m:Nat} {x:D} (h:((List.range j).map fun (k:Nat)=>D.int k)[m]?=some x):m<j∧x = .int m:=by
  have h1:=(List.getElem?_eq_some_iff.mp h).1
  simp at h1
  refine ⟨h1,?_⟩
  simp [h1] at h
  exact h.symm
theorem zle {α:Type} {g:FG} {c:FT} {φ:FE} {ok:Mem→Bool} {δ:Loc} {Q:D→Mem→Prop} {μ:Mem} (e:α→D) (l:List α) (f:α→D) (p:α→Bool) (hok:∀ μ',Keep μ μ'→ok μ'=true)
    (hs:∀ x∈l,∀ μ',Keep μ μ'→WG g (e x) δ μ' fun δ1 μ1=>WT c δ1 μ1 fun b μ2=>b=p x∧Keep μ μ2∧(b=true→WE φ δ1 μ2 fun d μ3=>d=f x∧Keep μ μ3))
    (hq:∀ μ',Keep μ μ'→Q (.loc μ'.length) (μ' ++ [.lst ((l.filter p).map f)])):WL g c φ ok δ (l.map e) [] μ Q:=by
  refine zan (fun m ys μ'=>Keep μ μ'∧ys=((l.take m).filter p).map f) ⟨.refl,by simp⟩ (fun m ys μ' h=>hok μ' h.1) (fun m x ys μ' hx h=>?_) (fun ys μ' h=>?_)
  · rw [List.getElem?_map] at hx
    cases hy:l[m]? with
    | none=>rw [hy] at hx;cases hx
    | some y =>
      rw [hy] at hx
      cases hx
      obtain ⟨δ1,μ1,e1,b,μ2,e2,hb,k2,h3⟩:=hs y (mem_of_getElem? hy) μ' h.1
      have ht:l.take (m+1)=l.take m ++ [y]:=by
        rw [take_succ,hy]
        rfl
      refine ⟨δ1,μ1,e1,b,μ2,e2,fun hb1=>?_,fun hb1=>⟨k2,?_⟩⟩
      · obtain ⟨d,μ3,e3,rfl,k3⟩:=h3 hb1
        refine ⟨_,_,e3,k3,?_⟩
        rw [ht,List.filter_append,map_append,← h.2,List.filter_cons_of_pos (by rw [← hb,hb1])]
        rfl
      · rw [ht,List.filter_append,map_append,← h.2,List.filter_cons_of_neg (by rw [← hb,hb1];exact Bool.false_ne_true)]
        simp
  · rw [length_map,take_length] at h
    rw [h.2]
    exact hq μ' h.1
theorem zzi {α:Type} {g:FG} {φ:FE} {ok:Mem→Bool} {δ:Loc} {Q:D→Mem→Prop} {μ:Mem} (e:α→D) (l:List α) (f:α→D) (hok:∀ μ',Keep μ μ'→ok μ'=true)
    (hs:∀ x∈l,∀ μ',Keep μ μ'→WG g (e x) δ μ' fun δ1 μ1=>WE φ δ1 μ1 fun d μ3=>d=f x∧Keep μ μ3∧Keep μ μ1)
    (hq:∀ μ',Keep μ μ'→Q (.loc μ'.length) (μ' ++ [.lst (l.map f)])):WL g zzo φ ok δ (l.map e) [] μ Q :=
  zle e l f (fun _=>true) hok (fun x hx μ' k=>by
    obtain ⟨δ1,μ1,e1,d,μ3,e3,h1,h2,h3⟩:=hs x hx μ' k
    exact ⟨δ1,μ1,e1,true,μ1,rfl,rfl,h3,fun _=>⟨d,μ3,e3,h1,h2⟩⟩) (fun μ' k=>by rw [List.filter_eq_self.mpr (fun _ _=>rfl)];exact hq μ' k)
theorem zhc {ds:List D} (h:ds.length≤1000000):few ds=true:=decide_eq_true h
theorem z5 {n:Nat} {ds:List D} {μ μ':Mem} (h:μ[n]?=some (.lst ds)) (k:Keep μ μ'):z9k n ds μ'=true:=stays_iff.mpr (k n _ h)
theorem zEt {ns:List Int} {k:Int}:k∈uqL ns↔k∈ns:=by
  unfold uqL
  rw [z0q,List.mem_iff_getElem]
  constructor
  · rintro ⟨j,hj,h⟩
    exact ⟨j,hj,by simpa [hj] using h⟩
  · rintro ⟨j,hj,h⟩
    exact ⟨j,hj,by simpa [hj] using h⟩
theorem z7k {ns l:List Int} (h1:∀ k,k∈l↔k∈ns) (h2:l.Pairwise (· < ·)):(uqL ns).Perm l:=by
  refine (List.perm_ext_iff_of_nodup (zgm _ _) (h2.imp fun h=>Int.ne_of_lt h)).mpr fun k=>?_
  rw [h1]
  exact zEt
theorem zFk {ns l:List Int} (h1:∀ k,k∈l↔k∈ns) (h2:l.Pairwise (· < ·)):zrn ns=l :=
  zof ((List.mergeSort_perm _ _).trans (z7k h1 h2)) (z8m _) (h2.imp fun h=>Int.le_of_lt h)
structure KB (L:List Nat) (μ μ':Mem):Prop where
  len:μ.length≤μ'.length
  at_:∀ (n:Nat) (o:LObj),n∉L→μ[n]?=some o→μ'[n]?=some o
section
variable {L:List Nat} {μ μ1 μ2 μ':Mem} {n:Nat} {o:LObj}
theorem KB.refl:KB L μ μ:=⟨Nat.le_refl _,fun _ _ _ h=>h⟩
theorem KB.trans (a:KB L μ μ1) (b:KB L μ1 μ2):KB L μ μ2:=⟨Nat.le_trans a.len b.len,fun n o h e=>b.at_ n o h (a.at_ n o h e)⟩
theorem KB.app {g:Mem} (a:KB L μ μ1):KB L μ (μ1++g):=⟨by simp;have:=a.len;omega,fun n o h e=>zF (a.at_ n o h e)⟩
theorem KB.set {m:Nat} (a:KB L μ μ1) (h:m∈L∨μ.length≤m):KB L μ (μ1.set m o):=⟨by simp;exact a.len,fun n o' hn e=>by
  rw [List.getElem?_set_ne]
  · exact a.at_ n o' hn e
  · rintro rfl
    rcases h with h | h
    · exact hn h
    · exact absurd (zz e) (by first|decide|omega)⟩
theorem KB.of_keep (a:Keep μ μ'):KB L μ μ':=⟨a.len,fun n o _ e=>a n o e⟩
end
section
variable {φ ψ χ:FE} {g g2:G2} {δ:Loc} {μ:Mem} {Q:D→Mem→Prop} {i j:Int} {d x y:D} {ds xs:List D}
theorem zUn (h:WE φ δ μ fun x μ1=>∃ j:Int,x = .int j∧(-(2 ^ 62)≤j∧j≤1000000)∧Q (.loc μ1.length) (μ1 ++ [.lst ((List.range j.toNat).map fun (k:Nat) => .int k)])):WE (z1k φ) δ μ Q:=by
  obtain ⟨x,μ1,e1,j,rfl,h1,q⟩:=h
  exact ⟨_,_,by simp only [z1k,e1,Option.bind_some];rw [decide_eq_true h1];rfl,q⟩
theorem zjv (q:Q (.int i) μ):WF zDx [.int i] μ Q:=⟨_,_,rfl,q⟩
theorem zkv {b:Bool} (q:Q (.int (if b then 1 else 0)) μ):WF zDx [.bl b] μ Q:=⟨_,_,rfl,q⟩
theorem zSv (q:Q (.int (if j<i then j else i)) μ):WF zvx [.int i, .int j] μ Q:=⟨_,_,rfl,q⟩
theorem zUu (q:Q (.int (if j > i then j else i)) μ):WF zax [.int i, .int j] μ Q:=⟨_,_,rfl,q⟩
theorem z1w {c:FT} (h:WT c δ μ fun b μ1=>(b=true→WE φ δ μ1 Q)∧(b=false→WE ψ δ μ1 Q)):WE (fIf c φ ψ) δ μ Q:=by
  obtain ⟨b,μ1,e,h1,h2⟩:=h
  cases b with
  | true=>obtain ⟨d,μ2,e2,k⟩:=h1 rfl;exact ⟨d,μ2,by simp [e,e2],k⟩
  | false=>obtain ⟨d,μ2,e2,k⟩:=h2 rfl;exact ⟨d,μ2,by simp [e,e2],k⟩
theorem zkw {l:Nat} {n:Int} (h:μ[l]?=some (.lst xs)) (h1:n≤1000) (h2:-(2 ^ 62)≤n) (h3:xs.length≤1000) (q:Q (.loc μ.length) (μ ++ [.lst (List.replicate n.toNat xs).flatten])):W2 zii (.loc l) (.int n) μ Q :=
  ⟨_,_,by simp only [zii,h];rw [decide_eq_true ⟨h1,h2,h3⟩];rfl,q⟩
theorem zsu {lo hi:FO} (h:WE φ δ μ fun x μ1=>WO lo δ μ1 fun l μ2=>WO hi δ μ2 fun u μ3=>∃ n ds,x = .loc n∧μ3[n]?=some (.lst ds)∧Q (.loc μ3.length) (μ3 ++ [.lst (cutD ds l u)])):WE (fSl φ lo hi) δ μ Q:=by
  obtain ⟨x,μ1,e1,l,μ2,e2,u,μ3,e3,n,ds,rfl,e4,q⟩:=h
  exact ⟨_,_,by simp [e1,e2,e3,e4] <;> rfl,q⟩
theorem zZp {R:Loc→Mem→Prop} (h:WE φ δ μ fun x μ1=>WE ψ δ μ1 fun y μ2=>∃ (n:Nat) (i:Int) (zs:List D),x = .loc n∧y = .int i∧μ2[n]?=some (.lst zs)∧(0≤i∧i<zs.length)∧R δ (μ2.set n (.lst (zs.set i.toNat d)))):WG (gAt φ ψ) d δ μ R:=by
  obtain ⟨x,μ1,e1,y,μ2,e2,n,i,zs,rfl,rfl,e3,hi,q⟩:=h
  have e4:ixN zs.length i=some i.toNat:=by unfold ixN;rw [if_pos hi.1,if_pos hi.2]
  exact ⟨_,_,by simp [e1,e2,e3,e4] <;> rfl,q⟩
end
noncomputable abbrev nat (S:List Nat):List D:=S.map fun (k:Nat)=>D.int k
theorem zCc (a b:List Nat):nat (a++b)=nat a++nat b:=map_append
theorem zel {α:Type} (f:α→Nat) (l:List α):nat (l.map f)=l.map fun a=>D.int (f a:Nat):=map_map
class Enc (α:Type) where
  d:α→D
  p:α→PyData
  dep:Nat
  rd:∀ (μ:Mem) (n:Nat) (a:α),toP μ (n+dep) (d a)=some (p a)
  eq:∀ a b:α,PyData.eqv (p a) (p b)=true↔a=b
noncomputable instance:Enc Int:=⟨.int, .int,1,fun _ _ _=>rfl,fun a b=>by simp [PyData.eqv]⟩
noncomputable instance:Enc Nat:=⟨fun (k:Nat) => .int k,fun (k:Nat) => .int k,1,fun _ _ _=>rfl,fun a b=>by simp [PyData.eqv];omega⟩
noncomputable instance:Enc Bool:=⟨.bl, .bool,1,fun _ _ _=>rfl,fun a b=>by simp [PyData.eqv]⟩
noncomputable abbrev onD:Option Nat→D
  | none => .non
  | some k => .int k
noncomputable instance:Enc (Option Nat):=⟨onD,fun | none => .none | some k => .int k,1,fun _ _ a=>by cases a <;> rfl,fun a b=>by cases a <;> cases b <;> simp [PyData.eqv];omega⟩
theorem zSg {α:Type} [Enc α]:∀ xs ys:List α,PyData.eqvAll (xs.map Enc.p) (ys.map Enc.p)=true↔xs=ys
  | [],[]=>by simp [PyData.eqvAll]
  | [],y :: ys=>by simp [PyData.eqvAll]
  | x :: xs,[]=>by simp [PyData.eqvAll]
  | x :: xs,y :: ys=>by
    rw [map_cons,map_cons,PyData.eqvAll,Bool.and_eq_true,Enc.eq,zSg xs ys,List.cons.injEq]
theorem rdAll {α:Type} [Enc α] (μ:Mem) (n:Nat):∀ xs:List α,(xs.map Enc.d).mapM (toP μ (n+Enc.dep α))=some (xs.map Enc.p)
  | []=>rfl
  | x :: xs=>by rw [map_cons,mapM_cons,rdAll μ n xs,Enc.rd];rfl
noncomputable instance instEncList {α:Type} [Enc α]:Enc (List α):=⟨fun xs => .tup (xs.map Enc.d),fun xs => .tuple (xs.map Enc.p),Enc.dep α + 1,fun μ n xs=>by
    show ((xs.map Enc.d).mapM (toP μ (n+Enc.dep α))).bind (fun ps=>some (PyData.tuple ps))=_
    rw [rdAll];rfl,fun a b=>by rw [PyData.eqv];exact zSg a b⟩
theorem zGh {μ:Mem} {α:Type} [Enc α] (a:α) (h:Enc.dep α≤8):toP μ 8 (Enc.d a)=some (Enc.p a):=by
  have:=Enc.rd μ (8 - Enc.dep α) a
  rw [Nat.sub_add_cancel h] at this
  exact this
theorem zag {b:Bool} {p:Prop} [Decidable p] (h:b=true↔p):b=decide p:=by
  cases b <;> simp_all
section
variable {φ ψ χ:FE} {g g2:G2} {δ:Loc} {μ:Mem} {Q:D→Mem→Prop} {i j:Int} {d x y:D} {ds xs:List D} {α:Type} [Enc α] [DecidableEq α]
theorem zup (a b:α) (q:Q (.bl (decide (a=b))) μ) (hx:x=Enc.d a:=by rfl) (hy:y=Enc.d b:=by rfl) (h:Enc.dep α≤8:=by decide):W2 gEq x y μ Q:=by
  subst hx hy
  exact z6w (zGh a h) (zGh b h) (by rw [zag (Enc.eq a b)];exact q)
theorem zux (a b:α) (q:Q (.bl (!decide (a=b))) μ) (hx:x=Enc.d a:=by rfl) (hy:y=Enc.d b:=by rfl) (h:Enc.dep α≤8:=by decide):W2 gNe x y μ Q:=by
  subst hx hy
  exact zPx (zGh a h) (zGh b h) (by rw [zag (Enc.eq a b)];exact q)
theorem zXn {n:Nat} (as:List α) (e:μ[n]?=some (.lst (as.map Enc.d))) (h:Enc.dep α≤7):toP μ 8 (.loc n)=some (.list (as.map Enc.p)):=by
  show (match μ[n]? with
      | some (.lst ds)=>(ds.mapM (toP μ 7)).bind fun ps=>some (PyData.list ps)
      | _=>none)=_
  rw [e]
  show ((as.map Enc.d).mapM (toP μ 7)).bind (fun ps=>some (PyData.list ps))=_
  have:=rdAll μ (7 - Enc.dep α) as
  rw [Nat.sub_add_cancel h] at this
  rw [this];rfl
theorem zex (as bs:List α) {m n:Nat} (e1:μ[m]?=some (.lst (as.map Enc.d))) (e2:μ[n]?=some (.lst (bs.map Enc.d))) (q:Q (.bl (decide (as=bs))) μ) (h:Enc.dep α≤7:=by decide):W2 gEq (.loc m) (.loc n) μ Q :=
  z6w (zXn as e1 h) (zXn bs e2 h) (by rw [PyData.eqv,zag (zSg as bs)];exact q)
theorem zpo (S:List Nat):(nat S).all zQc=true:=List.all_eq_true.mpr fun x hx=>by
  obtain ⟨k,_,rfl⟩:=List.mem_map.mp hx
  rfl
theorem z1q (k:Nat):∀ S:List Nat,((nat S).any fun d=>eqF d (.int k))=decide (k∈S):=fun S=>by
  refine zag ?_
  rw [List.any_eq_true]
  constructor
  · rintro ⟨x,hx,e⟩
    obtain ⟨j,hj,rfl⟩:=List.mem_map.mp hx
    have h1:(j:Int)=k:=beq_iff_eq.mp (show ((j:Int) == (k:Int))=true from e)
    have h2:j=k:=by omega
    exact h2▸hj
  · intro h
    exact ⟨.int k,List.mem_map.mpr ⟨k,h,rfl⟩,(show ((k:Int) == (k:Int))=true from beq_self_eq_true _)⟩
theorem zyh {k:Nat} {S:List Nat} (h:items μ y=some (nat S)) (q:Q (.bl (!decide (k∈S))) μ):W2 zog (.int k) y μ Q:=zrr h rfl (zpo S) (by rw [z1q];exact q)
theorem zHp (S:List (Option Nat)):(S.map onD).all zQc=true:=List.all_eq_true.mpr fun x hx=>by
  obtain ⟨k,_,rfl⟩:=List.mem_map.mp hx
  cases k <;> rfl
theorem zcv (a b:Option Nat):eqF (onD a) (onD b)=decide (a=b):=by
  cases a <;> cases b <;> try rfl
  rename_i a b
  show (((a:Nat):Int) == (b:Nat))=decide (some a=some b)
  rw [Bool.eq_iff_iff,beq_iff_eq,decide_eq_true_iff,Option.some.injEq,Int.natCast_inj]
theorem z0s {n:Nat} {S:List Nat} (h:μ[n]?=some (.lst (nat S))) (q:Q (.int (S.sum:Nat)) μ):WF zOu [.loc n] μ Q:=by
  refine zrx (ns:=S.map fun (k:Nat)=>(k:Int)) (by rw [h];simp) ?_
  have:(S.map fun (k:Nat)=>(k:Int)).sum=((S.sum:Nat):Int):=by
    clear h q
    induction S with
    | nil=>rfl
    | cons a S ih=>rw [map_cons,sum_cons,sum_cons,ih];omega
  rw [this];exact q
theorem zVn {S:List Nat} {i:Nat} (h:i<S.length):atI (nat S) (i:Int)=some (.int (S.getD i 0:Nat)):=zYd (by simp [h])
end
section
variable {φ ψ χ:FE} {g g2:G2} {δ:Loc} {μ:Mem} {Q:D→Mem→Prop} {i j:Int} {d x y:D} {ds xs:List D}
theorem z9g {R:List D→(Mem→Bool)→Mem→Prop} (h:WE φ δ μ fun x μ1=>(∃ ds,x = .tup ds∧R (zwf ds) yes μ1)∨(∃ ds,x = .fz ds∧R (zwf ds) yes μ1)∨∃ n ds,x = .loc n∧μ1[n]?=some (.lst ds)∧R (zwf ds) (z9k n ds) μ1):WI (zrk φ) δ μ R:=by
  obtain ⟨x,μ1,e1,⟨ds,rfl,q⟩ | ⟨ds,rfl,q⟩ | ⟨n,ds,rfl,e2,q⟩⟩:=h
  · exact ⟨_,_,_,by simp [e1] <;> rfl,q⟩
  · exact ⟨_,_,_,by simp [e1] <;> rfl,q⟩
  · exact ⟨_,_,_,by simp [e1,e2] <;> rfl,q⟩
theorem z5j {α:Type} {f:α→D} {xs:List α} {m:Nat} {x:D} (h:(zwf (xs.map f))[m]?=some x):∃ y,xs[m]?=some y∧x = .tup [.int m,f y]:=by
  obtain ⟨z,hz,rfl⟩:=ztk h
  rw [List.getElem?_map] at hz
  cases e:xs[m]? with
  | none=>rw [e] at hz;cases hz
  | some y=>rw [e] at hz;cases hz;exact ⟨y,rfl,rfl⟩
theorem zXt {m:GM} (h:WE φ δ μ fun x μ1=>∃ n xs,x = .loc n∧μ1[n]?=some (.lst xs)∧WM m (.loc n) [] μ1 Q):WE (zyo m φ) δ μ Q:=by
  obtain ⟨x,μ1,e1,n,xs,rfl,e2,d,μ3,e4,q⟩:=h
  exact ⟨d,μ3,by simp [e1,e2,e4],q⟩
theorem zou {n:Nat} (h:μ[n]?=some (.lst xs)) (q:Q .non (μ.set n (.lst []))):WM zkm (.loc n) [] μ Q:=⟨_,_,by simp [h] <;> rfl,q⟩
theorem zEp {n:Nat} (h:μ[n]?=some (.lst xs)) (h1:zQc d=true) (h2:xs.all zQc=true) (q:Q (.int (xs.countP fun y=>eqF y d:Nat)) μ):WM zZh (.loc n) [d] μ Q:=⟨_,_,by simp only [zZh,h,h1,h2,Bool.and_self,cond_true],q⟩
theorem z6q {n k:Nat} {S:List Nat} (h:μ[n]?=some (.lst (nat S))) (hk:k∈S) (q:Q .non (μ.set n (.lst (nat (S.erase k))))):WM zWg (.loc n) [.int k] μ Q:=by
  have e1:nat S=(S.map fun (k:Nat)=>(k:Int)).map D.int:=by simp
  have e2:∀ T:List Nat,(T.map fun (k:Nat)=>(k:Int)).erase (k:Int)=(T.erase k).map fun (k:Nat)=>(k:Int):=fun T=>by
    induction T with
    | nil=>rfl
    | cons t T ih =>
      rw [map_cons]
      by_cases ht:t=k
      · subst ht;simp
      · rw [List.erase_cons_tail (by simp;omega),List.erase_cons_tail (by simpa using ht),ih];rfl
  have e3:(S.map fun (k:Nat)=>(k:Int)).contains (k:Int)=true:=by
    rw [List.contains_iff_mem]
    exact List.mem_map.mpr ⟨k,hk,rfl⟩
  refine ⟨.non,_,?_,q⟩
  simp only [zWg,h]
  rw [e1,z3h]
  simp only [Option.bind_some,e3,cond_true,e2]
  rw [map_map]
  rfl
end
section
variable {φ ψ:FE} {δ:Loc} {μ:Mem} {nx:Loc→Mem→Prop} {rt:D→Mem→Prop} {bk ct:Loc→Mem→Prop} {p q:FS}
theorem zzx {i:Nat} {g:G2} {x:D} (hx:δ[i]?=some (some x)) (h:WE φ δ μ fun y μ1=>W2 g x y μ1 fun d μ2=>nx (δ.set i (some d)) μ2):WS (ziw i g φ) δ μ nx rt bk ct:=by
  obtain ⟨y,μ1,e1,d,μ2,e2,k⟩:=h
  exact ⟨.next _ _,by simp only [ziw,hx,e1,Option.bind_some,e2],k⟩
theorem zNv {i j:Int} {Q:D→Mem→Prop} (q:Q (.int (i+j)) μ):W2 zEr (.int i) (.int j) μ Q:=⟨_,_,rfl,q⟩
theorem zKk {c:FT} {body:FS} (I:Nat→Loc→Mem→Prop):∀ {n m:Nat} {δ:Loc} {μ:Mem},m<n→I m δ μ →
    (∀ m δ μ,I m δ μ→WT c δ μ fun b μ1=>(b=true→WS body δ μ1 (fun δ' μ'=>∃ m',m'<m∧I m' δ' μ') rt nx (fun δ' μ'=>∃ m',m'<m∧I m' δ' μ'))∧(b=false→nx δ μ1))→WS (zhm n c body) δ μ nx rt bk ct
  | 0,m,δ,μ,h,_,_=>absurd h (Nat.not_lt_zero _)
  | n+1,m,δ,μ,h,h0,hs=>by
    obtain ⟨b,μ1,e1,ht,hf⟩:=hs m δ μ h0
    cases b with
    | false=>exact ⟨.next δ μ1,by show zyb c body (n+1) δ μ = _;simp only [zyb,e1,Option.bind_some,cond_false],hf rfl⟩
    | true =>
      obtain ⟨o,e2,k⟩:=ht rfl
      have step:∀ δ' μ',(∃ m',m'<m∧I m' δ' μ')→∃ o,zyb c body n δ' μ'=some o∧Ek nx rt bk ct o:=fun δ' μ' ⟨m',hm',hI⟩=>by
        obtain ⟨o,e,k⟩:=zKk I (n:=n) (m:=m') (by first|decide|omega) hI hs
        exact ⟨o,e,k⟩
      cases o with
      | next δ' μ'=>obtain ⟨o,e3,k3⟩:=step δ' μ' k;exact ⟨o,by show zyb c body (n+1) δ μ = _;simp only [zyb,e1,Option.bind_some,cond_true,e2];exact e3,k3⟩
      | cont δ' μ'=>obtain ⟨o,e3,k3⟩:=step δ' μ' k;exact ⟨o,by show zyb c body (n+1) δ μ = _;simp only [zyb,e1,Option.bind_some,cond_true,e2];exact e3,k3⟩
      | brk δ' μ'=>exact ⟨.next δ' μ',by show zyb c body (n+1) δ μ = _;simp only [zyb,e1,Option.bind_some,cond_true,e2],k⟩
      | ret d μ'=>exact ⟨.ret d μ',by show zyb c body (n+1) δ μ = _;simp only [zyb,e1,Option.bind_some,cond_true,e2],k⟩
      | exc _ _ _=>exact k.elim
end
theorem zMc {α:Type} (f:α→D) (xs:List α) (d:α):zwf (xs.map f)=(List.range xs.length).map fun (k:Nat) => .tup [.int k,f (xs.getD k d)]:=by
  refine List.ext_getElem? fun i=>?_
  unfold zwf
  simp only [List.getElem?_map,List.getElem?_zipIdx]
  by_cases h:i<xs.length
  · simp [h]
  · simp [h]
theorem z7s {n:Nat} {xs:List D} {μ:Mem} {Q:D→Mem→Prop} (h:μ[n]?=some (.lst xs)) (q:Q (.bl true) μ):WF (zZq .lst) [.loc n, .ty "list"] μ Q:=zot (c := .lst) (t := .lst) (by simp [h]) q
theorem zjw {i:Int} {μ:Mem} {Q:D→Mem→Prop} (q:Q (.bl true) μ):WF (zZq .int) [.int i, .ty "int"] μ Q:=zot (c := .int) (t := .int) rfl q
theorem z0t {i:Int} {μ:Mem} {Q:D→Mem→Prop} (q:Q (.bl false) μ):WF (zZq .bl) [.int i, .ty "bool"] μ Q:=zot (c := .bl) (t := .int) rfl q
noncomputable abbrev oiD:Option Int→D
  | none => .non
  | some k => .int k
noncomputable instance:Enc (Option Int):=⟨oiD,fun | none => .none | some k => .int k,1,fun _ _ a=>by cases a <;> rfl,fun a b=>by cases a <;> cases b <;> simp [PyData.eqv]⟩
noncomputable def zvv:D→Bool
  | .non=>true
  | _=>false
theorem zAe {d:D} {μ:Mem} {Q:D→Mem→Prop} (h:zQc d=true) (q:Q (.bl (!zvv d)) μ):W2 zef d .non μ Q:=by
  cases d <;> first | exact ⟨_,_,rfl,q⟩ | cases h
theorem zKn (a:Option Nat):zQc (onD a)=true:=by cases a <;> rfl
noncomputable def zwu (ds:List D) (h:Nat):Nat:=ds.countP fun y=>eqF y (.int h)
theorem z6p (lay:List (Option Nat)) (h:Nat):zwu (lay.map onD) h=lay.count (some h):=by
  unfold zwu List.count
  rw [List.countP_map]
  congr 1
  funext a
  have:=zcv a (some h)
  show eqF (onD a) (onD (some h))=_
  rw [this]
  exact (Bool.beq_eq_decide_eq a (some h)).symm
theorem z2p {n:Nat} {lay:List (Option Nat)} {h:Nat} {μ:Mem} {Q:D→Mem→Prop} (e:μ[n]?=some (.lst (lay.map onD))) (q:Q (.int (lay.count (some h):Nat)) μ):WM zZh (.loc n) [.int h] μ Q :=
  zEp e rfl (zHp lay) (by rw [show (lay.map onD).countP (fun y=>eqF y (.int h))=lay.count (some h) from z6p lay h];exact q)
theorem z9j {n m:Nat} {p:Nat→Bool} (h:p m=true) (hlt:m<n) (hb:∀ j<m,p j=false):(List.range n).find? p=some m:=by
  rw [List.find?_eq_some_iff_append]
  refine ⟨h,List.range m,(List.range' (m+1) (n - m - 1)),?_,fun a ha=>by simp [hb a (by simpa using ha)]⟩
  have:List.range n=List.range m++List.range' m (n - m):=by
    have e:n=m+(n - m):=by omega
    have:=List.range'_append_1 (s:=0) (m:=m) (n:=n - m)
    rw [← e] at this
    rw [List.range_eq_range',List.range_eq_range',← this]
    simp
  rw [this,show n - m=(n - m - 1)+1 by first|decide|omega,List.range'_succ]
  simp
theorem zse {n:Nat} {p:Nat→Bool} (h:∀ j<n,p j=false):(List.range n).find? p=none:=by
  rw [List.find?_eq_none]
  intro x hx
  rw [h x (by simpa using hx)]
  exact Bool.false_ne_true
section
variable {φ ψ χ:FE} {g g2:G2} {δ:Loc} {μ:Mem} {Q:D→Mem→Prop} {i j:Int} {d x y:D} {ds xs:List D} {kvs:List (Int×D)} {n:Nat}
theorem z4j (h:μ[n]?=some (.dct kvs)):zSb μ (.loc n)=some kvs:=by simp [h]
theorem zUg (h:μ[n]?=some (.dcf kvs)):zSb μ (.loc n)=some kvs:=by simp [h]
theorem zXu (h:zSb μ x=some kvs) (h2:zSc kvs i=some d) (q:Q d μ):W2 zJu x (.int i) μ Q:=⟨_,_,by simp only [zJu,h,Option.bind_some,h2],q⟩
theorem zZv (h:zSb μ y=some kvs) (q:Q (.bl (zSc kvs i).isSome) μ):W2 zDm (.int i) y μ Q:=⟨_,_,by simp only [zDm,h,Option.bind_some],q⟩
theorem zpv (h:zSb μ y=some kvs) (h2:kvs.all (fun p=>decide (0≤p.1∧p.1<1000))=true) (q:Q (.bl false) μ):W2 zDm .non y μ Q:=⟨_,_,by simp only [zDm,h,Option.bind_some,h2,cond_true],q⟩
theorem zTr (h:zSb μ y=some kvs) (q:Q (.bl (!(zSc kvs i).isSome)) μ):W2 zki (.int i) y μ Q:=⟨_,_,by simp only [zki,h,Option.bind_some],q⟩
theorem zQs {R:Loc→Mem→Prop} (h:WE φ δ μ fun x μ1=>WE ψ δ μ1 fun y μ2=>∃ (n:Nat) (i:Int) (kvs:List (Int×D)),x = .loc n∧y = .int i∧μ2[n]?=some (.dct kvs)∧kvs.length≤1000000∧R δ (μ2.set n (.dct (zSp kvs i d)))):WG (zxw φ ψ) d δ μ R:=by
  obtain ⟨x,μ1,e1,y,μ2,e2,n,i,kvs,rfl,rfl,e3,hi,q⟩:=h
  exact ⟨_,_,by simp [e1,e2,e3,hi] <;> rfl,q⟩
theorem znt (h:zSb μ x=some kvs) (q:Q (.loc μ.length) (μ ++ [.lst (zqi kvs)])):WF zem [x] μ Q:=⟨_,_,by simp only [zem,h,Option.bind_some],q⟩
theorem zBt {R:List D→(Mem→Bool)→Mem→Prop} (h:WE φ δ μ fun x μ1=>∃ n kvs,x = .loc n∧μ1[n]?=some (.dct kvs)∧R (zqi kvs) yes (μ1.set n (.dcf kvs))):WI (zmu φ) δ μ R:=by
  obtain ⟨x,μ1,e1,n,kvs,rfl,e2,q⟩:=h
  exact ⟨_,_,_,by simp [e1,e2] <;> rfl,q⟩
theorem zPv (h:WE φ δ μ fun x μ1=>∃ n ds,x = .loc n∧μ1[n]?=some (.lst ds)∧Q (.loc μ1.length) (μ1 ++ [.lst ds.reverse])):WE (zFr φ) δ μ Q:=by
  obtain ⟨x,μ1,e1,n,ds,rfl,e2,q⟩:=h
  exact ⟨_,_,by simp [zFr,e1,e2] <;> rfl,q⟩
end
end M
namespace M
open PySem PySem.W PyProof.Rows L2
theorem zZm {h:Heap}:∀ {as:List Addr} {a:Addr} {o:Obj},(kOf as h).lookup a=some o→h.get? a=some o
  | [],a,o,e=>by cases e
  | b :: as,a,o,e=>by
    unfold kOf at e
    rw [filterMap_cons] at e
    cases hb:h.get? b with
    | none=>rw [hb] at e;exact zZm (as:=as) e
    | some u =>
      rw [hb] at e
      change List.lookup a ((b,u) :: kOf as h)=some o at e
      rw [lookup_cons] at e
      by_cases q:a == b
      · rw [q] at e
        cases e
        rw [eq_of_beq q];exact hb
      · rw [Bool.not_eq_true] at q
        rw [q] at e
        exact zZm (as:=as) e
theorem z7t {h:Heap}:(zev h).In h:=fun _ _ e=>zZm e
theorem zDr (s:Stmt):zLt s=znc s:=by cases s <;> rfl
theorem zBs (s:Stmt):zAu s=zIb s:=by cases s <;> rfl
theorem zYq (s:Stmt):zur s=zm s:=by cases s <;> rfl
theorem zeo {K:Frag} {a:Addr} {nm qual:Str} {st:Stmt} (e:zLl K a qual=zzn nm qual st):∃ (oc:Value) (od:Option Addr) (sl:Array (Option Value)) (kV dc pm:Value) (an:Option Addr) (cd ct:Value),
    K.lookup a=some ⟨oc,od, .func (fnOf nm qual (znc st) (zIb st) (zm st) .none kV dc pm an cd ct),sl⟩∧codeIn K cd qual=true∧keepIn K (.ref a)=true:=by
  rw [← zDr,← zBs,← zYq]
  unfold zLl at e
  split at e
  · rename_i oc od fd sl hl
    obtain ⟨x1,x2,x3,x4,x5,x6,x7,x8,x9,x10,x11,x12,x13,x14,x15⟩:=fd
    have e:=Option.some.inj e
    simp only [SeenD.mk.injEq] at e
    obtain ⟨rfl,rfl,rfl,rfl,rfl,rfl,rfl,rfl,rfl,h1,h2⟩:=e
    exact ⟨_,_,_,_,_,_,_,_,_,hl,h1,h2⟩
  · cases e
theorem fnl {K:Frag} {nm:Str} {st:Stmt} {l l':List (Option SeenD)} (e:zT K nm :: l=zU nm st :: l'):(∃ (f:Addr) (oc:Value) (od:Option Addr) (sl:Array (Option Value)) (kV dc pm:Value) (an:Option Addr) (cd ct:Value),
    nsIn K mainGlobals nm=some (some (.ref f))∧K.lookup f=some ⟨oc,od, .func (fnOf nm nm (znc st) (zIb st) (zm st) .none kV dc pm an cd ct),sl⟩∧codeIn K cd nm=true∧keepIn K (.ref f)=true)∧l=l':=by
  obtain ⟨h1,h2⟩:=List.cons.inj e
  refine ⟨?_,h2⟩
  unfold zT at h1
  split at h1
  · rename_i a ha
    obtain ⟨oc,od,sl,kV,dc,pm,an,cd,ct,q⟩:=zeo (show zLl K a nm=zzn nm nm st from h1)
    exact ⟨a,oc,od,sl,kV,dc,pm,an,cd,ct,ha,q⟩
  · cases h1
theorem fnc {K:Frag} {nm:Str} {st:Stmt} {l l':List (Option SeenD)} (e:zT K nm :: l=zU nm st :: l'):(∃ (f:Addr) (fd:FuncData),nsIn K mainGlobals nm=some (some (.ref f))∧Fun K nm nm st f fd)∧l=l':=by
  obtain ⟨⟨f,oc,od,sl,kV,dc,pm,an,cd,ct,a,l,c,k⟩,e⟩:=fnl e
  exact ⟨⟨f,_,a,zbo l c k⟩,e⟩
theorem own_head {l:OpenLaw} {q:Program} {loose:List Str} {d:DefRec} {α:Type} {obs:Frag→α} {good:α} {N:Nat} (said:l.wellSaid=true)
    (left:LeftO l.prog q loose (fun _=>true) (fun s=>obs (zev s.heap)) (fun _=>good) N) (hdef:defOf q l.name=some (d,[])) (hp:l.prog.theDef l.name=some (d.params,d.body,d.scope))
    (hk:kwWritten? d.params.kwonlyargs d.params.kw_defaults=some []) (ok:(chainsOk q && opensWell l.prog && (frees l.row.toRowW && l.row.within.isEmpty))=true) (hb:l.prog.bare) (hw:l.row.toRowW.promised)
    (walk:∀ K:Frag,obs K=good→WalkO q loose (fun _ _=>True) (fun _ h=>K.In h) l.row.toRowW d [] fun f vs=>PySem.call f vs):l.Holds:=by
  refine holds_law said fun said=>?_
  refine holds_open (r:=l.row) (q:=q) (loose:=loose) (Xt:=fun _=>true) (XP:=fun _ _=>True) (Yf:=fun s=>obs (zev s.heap)) (Ya:=fun _=>good) (YP:=fun _ h=>∃ K:Frag,obs K=good∧K.In h) (N:=N) left
    (fun w s e=>⟨_,e,z7t⟩) (fun w h h' ⟨K,e,k⟩ x=>⟨K,e,k.keeps x⟩) (fun _ _=>trivial) (fun _ _ _ _ _=>trivial) hdef hp hk (fun s _=>?_) ?_ said ok hb hw (fun w s₀ s₁ mg mb G Y=>?_)
  · exact (show RecFacts [] s.heap from ⟨fun x h=>(nomatch h),fun x h=>(nomatch h),fun c c' a hc=>(nomatch hc),fun c fs hf=>(nomatch hf)⟩)
  · show (!l.row.writes || true)=true
    exact Bool.or_true _
  · obtain ⟨K,e,k⟩:=Y
    exact walk K e w s₀ s₁ mg mb G k
end M
namespace M
open PySem PySem.W PyProof.Rows L2
theorem zDs {K:Frag} {C:Addr} {n:String} {bm:List Value} (e:zqq K C=some (.type "type",n, .ref C :: bm,true,false)) :
    ∃ (nm q:Str) (N:Addr) (bs:List Value) (sn:List Str) (sub:List Value) (ab:Bool) (col:Option Bool) (dd:Option Addr) (k0 k1 k2 k3 k5:Option Value),K.lookup C=some (excClassObj nm q C N bs bm true sn sub ab col dd k0 k1 k2 k3 k5 n):=by
  unfold zqq at e
  split at e
  · rename_i c dd cd sl hl
    split at e
    · rename_i k0 k1 k2 k3 m k5 hs
      obtain ⟨x1,x2,x3,x4,x5,x6,x7,x8,x9,x10,x11⟩:=cd
      have e:=Option.some.inj e
      simp only [Prod.mk.injEq] at e
      obtain ⟨rfl,rfl,rfl,rfl,rfl⟩:=e
      have:sl = #[k0,k1,k2,k3,some (.builtin m),k5]:=Array.toList_inj.mp hs
      subst this
      exact ⟨_,_,_,_,_,_,_,_,_,_,_,_,_,_,hl⟩
    · cases e
  · cases e
theorem z4p {K:Frag} {C:Addr} (e:(clsIn K C).isSome=true):∃ cd,clsIn K C=some cd:=Option.isSome_iff_exists.mp e
end M
namespace P
open PySem PySem.Spec PyProof.Rows L2 M
noncomputable def top (i:Nat):Stmt:=PySem.Challenge.pw_keynests_k40_webs_that_do_not_fit.main.body.getD i (.Pass ⟨0,0,0,0⟩)
noncomputable def kit:Kit:=[((some "NoFit", .own "Full"),false),((some "NoFit", .own "NoKey"),false),((some "NoFit", .own "NoPairs"),false),((some "NoFit", .own "NoPush"),false),((some "NoFit", .own "NoRow"),false),((some "NoFit", .own "NoRule"),false),((some "NoFit", .own "NoText"),false),((some "NoFit", .own "Twice"),false),((some "NoFit", .own "NoFit"),true),((some "NoFit", .ty "ValueError"),true)]
noncomputable def z6g:List Str:=["_law_script","_law_k","_law_cell","_law_one","_law_two"]
noncomputable def zYc:FS:=(zX (zbc 2 (fC (.int 29))) (zX (sIf (zO (zu (zTj fun i j=>decide (j<i)) (zy zsj (ze (zi 0) zD)) (fC (.int 0)))) (zbc 2 (zu gIx (zi 0) (zu z9m (zi 1) (zy zsj (ze (zi 0) zD))))) zJb) (zX (zbc 3 (zu z9m (zu zWd (zu zii (zu zWd (zu zWd (zi 2) (zu zii (fC (.int 40503)) (zi 1))) (fC (.int 1))) (fC (.int 48271))) (zu zii (zi 1) (zi 1))) (fC (.int 2147483647)))) (zX (zbc 4 (zu z9m (zu zWd (zu zWd (zu zii (zi 3) (zi 3)) (zu zii (fC (.int 69621)) (zi 3))) (zu zii (fC (.int 31)) (zi 1))) (fC (.int 2147483629)))) (zUb (zu z9m (zu zWd (zu zWd (zu zii (zi 4) (zi 4)) (zu zii (fC (.int 16807)) (zi 4))) (zi 1)) (fC (.int 1073741789))))))))
noncomputable def zUc:FF:=fun ds μ=>zzb (zYc (zG z6g ds) μ)
noncomputable def z6h:List Str:=["_law_pen_here","_law_many","_law_script","_law_is_mixed","_law_k","_law_rest"]
noncomputable def zZd:FS:=(zX (z8o (zi 0) (gTL 4 (znb (gN 2) (znb (gN 3) (znb (gN 4) (znb (gN 5) zyg)))))) (zX (z8o (zu zWd (zi 4) (fC (.int 1))) (gAt (zi 0) (fC (.int 2)))) (zX (sIf (zO (zi 3)) (zUb (zu z9m (zy zUc (ze (zi 2) (ze (zi 4) zD))) (zi 1))) zJb) (zX (sIf (zO (zu gEq (zu z9m (zi 4) (fC (.int 60))) (fC (.int 0)))) (zX (zbc 5 (fC (.int 0))) (sIf (zO (zu (zTj fun i j=>decide (i<j)) (zu zWd (zu zTt (zi 4) (fC (.int 60))) (fC (.int 1))) (zy zsj (ze (zi 2) zD)))) (zbc 5 (zu gIx (zi 2) (zu zWd (zu zTt (zi 4) (fC (.int 60))) (fC (.int 1))))) zJb)) zJb) (zX (z8o (zu zTt (zi 5) (zi 1)) (gAt (zi 0) (fC (.int 3)))) (zUb (zu z9m (zi 5) (zi 1))))))))
noncomputable def zB:FF:=fun ds μ=>zzb (zZd (zG z6h ds) μ)
noncomputable def zgh:FE:=(zy zB (ze (zi 1) (ze (zi 2) zD)))
noncomputable def z2c:FS:=(zX (zbc 8 (zu zWd (fC (.int 2)) (zy zB (ze (zi 0) (ze (fC (.int 2)) zD))))) (zHg (z2e zed (zi 6) (ze (zy zcf (ze (fLC 1 [0,2] (z7d (ze (zi 8) zD)) (gN 0) zzo zgh) zD)) zD))))
noncomputable def zie:FE:=(zy zB (ze (zi 1) (ze (zi 2) zD)))
noncomputable def zAj:List Str:=["_law_pen_here","_law_many","_law_nests","_law_wide","_law_rooms","_law_at","_law_keys","_law_k","_law_size"]
noncomputable def zXe:FS:=(zX (zbc 2 (zu zWd (fC (.int 1)) (zy zB (ze (zi 0) (ze (fC (.int 6)) zD))))) (zX (sIf (zO (zu gEq (zy zB (ze (zi 0) (ze (fC (.int 8)) zD))) (fC (.int 5)))) (zbc 2 (zu zWd (fC (.int 5)) (zy zB (ze (zi 0) (ze (fC (.int 6)) zD))))) zJb) (zX (zbc 3 (zu gIx (zcl (ze (fC (.int 2)) (ze (fC (.int 3)) (ze (fC (.int 3)) (ze (fC (.int 10)) zD))))) (zy zB (ze (zi 0) (ze (fC (.int 4)) zD))))) (zX (zbc 4 (zy zcf (ze (fLC 1 [0,3] (z7d (ze (zi 2) zD)) (gN 0) zzo zie) zD))) (zX (sIf (zO (zu gEq (zy zB (ze (zi 0) (ze (fC (.int 8)) zD))) (fC (.int 3)))) (zX (zbc 5 (zy zB (ze (zi 0) (ze (zi 2) zD)))) (zbc 4 (zu zWd (zu zWd (fSl (zi 4) pNo (z7p (zi 5))) (z3i (ze (zu zWd (zu gIx (zi 4) (zi 5)) (zu gIx (zcl (ze (fC (.int 1)) (ze (fC (.int 10)) (ze (zu zMu (fC (.int 10)) (fC (.int 40))) zD)))) (zy zB (ze (zi 0) (ze (fC (.int 3)) zD))))) zD))) (fSl (zi 4) (z7p (zu zWd (zi 5) (fC (.int 1)))) pNo)))) zJb) (zX (zbc 6 (zcl zD)) (zX (zti (z7d (ze (zy zB (ze (zi 0) (ze (zi 1) zD))) zD)) (gN 7) z2c) (zUb (z3i (ze (zi 4) (ze (zy zcf (ze (zi 6) zD)) zD)))))))))))
noncomputable def zHe:FF:=fun ds μ=>zzb (zXe (zG zAj ds) μ)
noncomputable def zVj:List Str:=["_law_script"]
noncomputable def zMe:FS:=(zUb (zcl (ze (zi 0) (ze (fOr (zu gEq (zy zsj (ze (zi 0) zD)) (fC (.int 0))) (zu gEq (zu z9m (zu gIx (zi 0) (fC (.int 0))) (fC (.int 2))) (fC (.int 0)))) (ze (fC (.int 0)) (ze (fC (.int 0)) zD))))))
noncomputable def zPe:FF:=fun ds μ=>zzb (zMe (zG zVj ds) μ)
noncomputable def zHl:FE:=(zi 0)
noncomputable def zjr:FT:=(zO (zu gEq (zi 1) (zi 2)))
noncomputable def z0p:List Str:=["laying","nest"]
noncomputable def zOk:FS:=(zUb (fLC 2 [1] (zrk (zi 0)) (gT 2 (znb (gN 0) (znb (gN 1) zyg))) zjr zHl))
noncomputable def zXk:FF:=fun ds μ=>zzb (zOk (zG z0p ds) μ)
noncomputable def zZf:FS:=(sIf (zO (zu zki (zi 4) (zi 3))) (zX (z8o (z3i (ze (zi 7) (ze (zu gIx (zi 5) (zi 6)) zD))) (zxw (zi 3) (zi 4))) (zHg (z2e zed (zi 5) (ze (zi 4) zD)))) zJb)
noncomputable def zUd:FS:=(zti (zCg (zu gIx (zu gIx (zi 0) (fC (.int 1))) (zi 7))) (gN 4) zZf)
noncomputable def zVf:FS:=(zX (zti (zCg (zy zXk (ze (zi 1) (ze (zu gIx (zi 5) (zi 6)) zD)))) (gN 7) zUd) (ziw 6 zEr (fC (.int 1))))
noncomputable def zJf:FS:=(z8o (z3i (ze (zi 2) (ze (fC .non) zD))) (zxw (zi 3) (zi 4)))
noncomputable def z0h:List Str:=["web","laying","key","pushes","nest","nests","at","other"]
noncomputable def zKd:FS:=(zX (zbc 3 zSw) (zX (zti (zCg (zu gIx (zu gIx (zi 0) (fC (.int 1))) (zi 2))) (gN 4) zJf) (zX (zbc 5 (zy zem (ze (zi 3) zD))) (zX (zbc 6 (fC (.int 0))) (zX (zhm 100000 (zO (zu (zTj fun i j=>decide (i<j)) (zi 6) (zy zsj (ze (zi 5) zD)))) zVf) (zUb (zi 3)))))))
noncomputable def zId:FF:=fun ds μ=>zzb (zKd (zG z0h ds) μ)
noncomputable def zMs:FE:=(zu zJs (zi 1) (z2e zZh (zi 2) (ze (zi 0) zD)))
noncomputable def zYs:List Str:=["web","laying"]
noncomputable def zIj:FS:=(zUb (fLC 2 [1] (zrk (zu gIx (zi 0) (fC (.int 0)))) (gT 2 (znb (gN 0) (znb (gN 1) zyg))) zzo zMs))
noncomputable def zei:FF:=fun ds μ=>zzb (zIj (zG zYs ds) μ)
noncomputable def zXj:FS:=(zX (zHg (z2e zed (zi 2) (ze (z3i (ze (zu gIx (zu zJu (zi 0) (zi 1)) (fC (.int 0))) (ze (zi 1) zD))) zD))) (zbc 1 (zu gIx (zu zJu (zi 0) (zi 1)) (fC (.int 1)))))
noncomputable def zZn:List Str:=["pushes","nest","row"]
noncomputable def zDh:FS:=(zX (zbc 2 (zcl zD)) (zX (zhm 100000 (zO (zu zef (zi 1) (fC .non))) zXj) (zUb (zFr (zi 2)))))
noncomputable def zIh:FF:=fun ds μ=>zzb (zDh (zG zZn ds) μ)
noncomputable def z8j:FE:=(zi 0)
noncomputable def zdk:FT:=(zgo (zO (zu gEq (zi 0) (zi 2))) (zO (zu zDm (zi 1) (zi 3))))
noncomputable def zDj:FS:=(sIf (zO (zu (zTj fun i j=>decide (j<i)) (zu gIx (zi 4) (zi 5)) (fC (.int 0)))) (zUb (z3i (ze (fC (.str "put")) (ze (zy zIh (ze (zi 3) (ze (zi 5) zD))) zD)))) zJb)
noncomputable def zBn:List Str:=["web","laying","key","pushes","room","nest"]
noncomputable def zBh:FS:=(zX (zbc 3 (zy zId (ze (zi 0) (ze (zi 1) (ze (zi 2) zD))))) (zX (zbc 4 (zy zei (ze (zi 0) (ze (zi 1) zD)))) (zX (zti (zmu (zi 3)) (gN 5) zDj) (zUb (z3i (ze (fC (.str "full")) (ze (fLC 2 [2,3] (zrk (zi 1)) (gT 2 (znb (gN 0) (znb (gN 1) zyg))) zdk z8j) zD)))))))
noncomputable def z0e:FF:=fun ds μ=>zzb (zBh (zG zBn ds) μ)
noncomputable def z3p:FS:=(sIf (zO (zu (zTj fun i j=>decide (i<j)) (zi 4) (fC (.int 0)))) (zUb (z3i (ze (fC (.str "room")) (ze (zi 3) zD)))) zJb)
noncomputable def z2q:FS:=(sIf (zNs (zO (zu zef (zi 3) (fC .non))) (zO (zu zog (zi 3) (zu gIx (zu gIx (zi 0) (fC (.int 1))) (zi 2))))) (zUb (z3i (ze (fC (.str "home")) (ze (zi 2) zD)))) zJb)
noncomputable def zLp:List Str:=["web","laying","key","nest","room"]
noncomputable def zal:FS:=(zX (zti (zrk (zi 1)) (gT 2 (znb (gN 2) (znb (gN 3) zyg))) z2q) (zX (zti (zrk (zy zei (ze (zi 0) (ze (zi 1) zD)))) (gT 2 (znb (gN 3) (znb (gN 4) zyg))) z3p) (zUb (fC .non))))
noncomputable def zRk:FF:=fun ds μ=>zzb (zal (zG zLp ds) μ)
noncomputable def zwi:FE:=(zu gIx (zi 0) (fC (.int 0)))
noncomputable def zwl:List Str:=["web","laying","row","at","key"]
noncomputable def z5f:FS:=(zX (zbc 4 (zu gIx (zu gIx (zi 2) (zi 3)) (fC (.int 0)))) (zX (sIf (zgo (zO (zu (zTj fun i j=>decide (i<j)) (zi 4) (fC (.int 0)))) (zO (zu (zTj fun i j=>decide (j≤i)) (zi 4) (zy zsj (ze (zi 1) zD))))) (zUb (fC (.bl false))) zJb) (zX (sIf (zgo (zO (zu zog (zu gIx (zu gIx (zi 2) (zi 3)) (fC (.int 1))) (zu gIx (zu gIx (zi 0) (fC (.int 1))) (zi 4)))) (zO (zu gEq (zu gIx (zu gIx (zi 2) (zi 3)) (fC (.int 1))) (zu gIx (zi 1) (zi 4))))) (zUb (fC (.bl false))) zJb) (zUb (zu zog (zi 4) (fLC 1 [] (zCg (fSl (zi 2) pNo (z7p (zi 3)))) (gN 0) zzo zwi))))))
noncomputable def zzf:FF:=fun ds μ=>zzb (z5f (zG zwl ds) μ)
noncomputable def zim:List Str:=["laying","key","row","at"]
noncomputable def zyf:FS:=(zX (sIf (zO (zu gEq (zi 3) (fC (.int 0)))) (zUb (zu gEq (zu gIx (zu gIx (zi 2) (fC (.int 0))) (fC (.int 0))) (zi 1))) zJb) (zUb (zu gEq (zu gIx (zi 0) (zu gIx (zu gIx (zi 2) (zi 3)) (fC (.int 0)))) (zu gIx (zu gIx (zi 2) (zu zJs (zi 3) (fC (.int 1)))) (fC (.int 1))))))
noncomputable def zTf:FF:=fun ds μ=>zzb (zyf (zG zim ds) μ)
noncomputable def zek:FS:=(zX (sIf (z4i (zNs (zO (zy zzf (ze (zi 0) (ze (zi 1) (ze (zi 3) (ze (zi 5) zD)))))) (zO (zy zTf (ze (zi 1) (ze (zi 2) (ze (zi 3) (ze (zi 5) zD)))))))) zlq zJb) (z8o (zu gIx (zi 6) (fC (.int 1))) (gAt (zi 4) (zu gIx (zi 6) (fC (.int 0))))))
noncomputable def zto:List Str:=["web","laying","key","row","behind","at","push"]
noncomputable def zSh:FS:=(zX (zbc 4 (zy z5p (ze (zi 1) zD))) (zX (zti (zrk (zi 3)) (gT 2 (znb (gN 5) (znb (gN 6) zyg))) zek) (zX (sIf (zgo (zO (zu gEq (zy zsj (ze (zi 3) zD)) (fC (.int 0)))) (zO (zu zef (zy zRk (ze (zi 0) (ze (zi 4) zD))) (fC .non)))) zlq zJb) (zUb (zi 4)))))
noncomputable def zTh:FF:=fun ds μ=>zzb (zSh (zG zto ds) μ)
noncomputable def zrg:FS:=(zX (zbc 5 (zy z0e (ze (zi 0) (ze (zi 1) (ze (zi 4) zD))))) (sIf (zO (zu gEq (zu gIx (zi 5) (fC (.int 0))) (fC (.str "put")))) (zbc 1 (zy zTh (ze (zi 0) (ze (zi 1) (ze (zi 4) (ze (zu gIx (zi 5) (fC (.int 1))) zD)))))) (zHg (z2e zIu (zi 3) (ze (zu gIx (zi 5) (fC (.int 1))) zD)))))
noncomputable def zsi:List Str:=["web","laying","keys","crowded","key","told"]
noncomputable def zJd:FS:=(zX (zbc 3 (zcl zD)) (zX (zti (zCg (zi 2)) (gN 4) zrg) (zUb (z3i (ze (zi 1) (ze (zXo (zi 3)) zD))))))
noncomputable def zSd:FF:=fun ds μ=>zzb (zJd (zG zsi ds) μ)
noncomputable def zXf:List Str:=["web"]
noncomputable def zvc:FS:=(zUb (zy zSd (ze (zi 0) (ze (zu zii (zcl (ze (fC .non) zD)) (zy zsj (ze (zu gIx (zi 0) (fC (.int 1))) zD))) (ze (z1k (zy zsj (ze (zu gIx (zi 0) (fC (.int 1))) zD))) zD)))))
noncomputable def zyc:FF:=fun ds μ=>zzb (zvc (zG zXf ds) μ)
noncomputable def zbi:FE:=(zu gIx (zu gIx (zi 1) (fC (.int 0))) (zi 0))
noncomputable def zsm:List Str:=["web","nests"]
noncomputable def zKf:FS:=(zUb (zy zOu (ze (fLC 1 [0] (zCg (zi 1)) (gN 0) zzo zbi) zD)))
noncomputable def z0f:FF:=fun ds μ=>zzb (zKf (zG zsm ds) μ)
noncomputable def z3g:FS:=(zHg (z2e zIu (zi 2) (ze (zu gIx (zu gIx (zi 0) (fC (.int 1))) (zi 3)) zD)))
noncomputable def zRj:List Str:=["web","some","found","key"]
noncomputable def zYe:FS:=(zX (zbc 2 (zcl zD)) (zX (zti (zCg (zi 1)) (gN 3) z3g) (zUb (zXo (zi 2)))))
noncomputable def zWe:FF:=fun ds μ=>zzb (zYe (zG zRj ds) μ)
noncomputable def zUj:List Str:=["web","some"]
noncomputable def zZe:FS:=(zUb (zu (zTj fun i j=>decide (i<j)) (zy z0f (ze (zi 0) (ze (zy zWe (ze (zi 0) (ze (zi 1) zD))) zD))) (zy zsj (ze (zi 1) zD))))
noncomputable def zEe:FF:=fun ds μ=>zzb (zZe (zG zUj ds) μ)
noncomputable def z4f:FE:=(zi 0)
noncomputable def z2k:FT:=(zO (zu gNe (zi 0) (zi 1)))
noncomputable def zSf:FS:=(sIf (zO (zy zEe (ze (zi 0) (ze (fLC 1 [2] (zCg (zi 1)) (gN 0) z2k z4f) zD)))) (zUb (zi 2)) zJb)
noncomputable def zOi:List Str:=["web","some","key"]
noncomputable def zGd:FS:=(zX (zti (zCg (zi 1)) (gN 2) zSf) (zUb (fC .non)))
noncomputable def zNc:FF:=fun ds μ=>zzb (zGd (zG zOi ds) μ)
noncomputable def z8h:FS:=(zX (zHg (z2e zWg (zi 2) (ze (zi 3) zD))) (zbc 3 (zy zNc (ze (zi 0) (ze (zi 2) zD)))))
noncomputable def zAm:List Str:=["web","some","rest","spare"]
noncomputable def zdg:FS:=(zX (zbc 2 (zy z5p (ze (zi 1) zD))) (zX (zbc 3 (zy zNc (ze (zi 0) (ze (zi 2) zD)))) (zX (zhm 100000 (zO (zu zef (zi 3) (fC .non))) z8h) (zUb (zi 2)))))
noncomputable def zMf:FF:=fun ds μ=>zzb (zdg (zG zAm ds) μ)
noncomputable def z8n:List Str:=["web","told"]
noncomputable def zCh:FS:=(zX (zbc 1 (zy zyc (ze (zi 0) zD))) (zX (sIf (zO (zu gEq (zu gIx (zi 1) (fC (.int 1))) (zcl zD))) (zUb (z3i (ze (fC (.str "fits")) (ze (zu gIx (zi 1) (fC (.int 0))) zD)))) zJb) (zUb (z3i (ze (fC (.str "crowd")) (ze (zy zMf (ze (zi 0) (ze (zu gIx (zi 1) (fC (.int 1))) zD))) zD))))))
noncomputable def zFh:FF:=fun ds μ=>zzb (zCh (zG z8n ds) μ)
noncomputable def zRl:List Str:=["web","key","nest"]
noncomputable def z8f:FS:=(zUb (z3i (ze (zu gIx (zi 0) (fC (.int 0))) (ze (zu zWd (zu zWd (fSl (zu gIx (zi 0) (fC (.int 1))) pNo (z7p (zi 1))) (z3i (ze (z3i (ze (zi 2) (ze (zi 2) zD))) zD))) (fSl (zu gIx (zi 0) (fC (.int 1))) (z7p (zu zWd (zi 1) (fC (.int 1)))) pNo)) zD))))
noncomputable def zQf:FF:=fun ds μ=>zzb (z8f (zG zRl ds) μ)
noncomputable def zNj:List Str:=["web","laying","key","nest","others"]
noncomputable def zCe:FS:=(zX (zbc 4 (zu zWd (zu zWd (fSl (zi 1) pNo (z7p (zi 2))) (zcl (ze (fC .non) zD))) (fSl (zi 1) (z7p (zu zWd (zi 2) (fC (.int 1)))) pNo))) (zUb (zu gEq (zu gIx (zy z0e (ze (zy zQf (ze (zi 0) (ze (zi 2) (ze (zi 3) zD)))) (ze (zi 4) (ze (zi 2) zD)))) (fC (.int 0))) (fC (.str "put")))))
noncomputable def zJe:FF:=fun ds μ=>zzb (zCe (zG zNj ds) μ)
noncomputable def zwj:FE:=(zi 0)
noncomputable def zrj:FT:=(zO (zy zJe (ze (zi 1) (ze (zu gIx (zi 2) (fC (.int 1))) (ze (zi 3) (ze (zi 0) zD))))))
noncomputable def z2j:FS:=(zHg (z2e zed (zi 2) (ze (fLC 1 [0,1,3] (zCg (zWl (zi 4))) (gN 0) zrj zwj) zD)))
noncomputable def zdo:List Str:=["web","told","found","key","homes"]
noncomputable def zJh:FS:=(zX (zbc 1 (zy zFh (ze (zi 0) zD))) (zX (sIf (zO (zu gEq (zu gIx (zi 1) (fC (.int 0))) (fC (.str "crowd")))) (zFi "NoFit" "some" (ze (zu gIx (zi 1) (fC (.int 1))) zD)) zJb) (zX (zbc 2 (zcl zD)) (zX (zti (zrk (zu gIx (zi 0) (fC (.int 1)))) (gT 2 (znb (gN 3) (znb (gN 4) zyg))) z2j) (zUb (zi 2))))))
noncomputable def zAh:FX:=fun ds μ=>zpx (zJh (zG zdo ds) μ)
noncomputable def zch:List Str:=["_law_web_here","_law_found","_law_kept","e"]
noncomputable def zXc:FS:=(zX (zbc 1 (fC .non)) (zX (zbc 2 (fC .non)) (zX (z4s (zFp 1 zAh (ze (zi 0) zD)) (hAs 3 [("NoFit",true)] (zbc 2 (zi 3)) zWu)) (zUb (z3i (ze (zi 1) (ze (zi 2) zD)))))))
noncomputable def zVc:FF:=fun ds μ=>zzb (zXc (zG zch ds) μ)
noncomputable def zxg:FE:=(zi 0)
noncomputable def zEf:FT:=(zO (zu gEq (zi 0) (zi 1)))
noncomputable def zVi:List Str:=["_law_web_here","_law_laying","_law_nest"]
noncomputable def zHd:FS:=(zUb (zu zJs (zu gIx (zu gIx (zi 0) (fC (.int 0))) (zi 2)) (zy zsj (ze (fLC 1 [2] (zCg (zi 1)) (gN 0) zEf zxg) zD))))
noncomputable def zYb:FF:=fun ds μ=>zzb (zHd (zG zVi ds) μ)
noncomputable def z3d (G:FF):FE:=(zi 0)
noncomputable def z0d (G:FF):FT:=(zO (zu gEq (zu gIx (zi 1) (zi 0)) (zi 2)))
noncomputable def z9d (G:FF):FS:=(sIf (zO (zy G (ze (zi 0) (ze (zi 1) (ze (zi 5) (ze (zi 3) zD)))))) (zX (z8o (zi 4) (gAt (zi 1) (zi 2))) (zUb (fC (.bl true)))) zJb)
noncomputable def z6d (G:FF):FS:=(sIf (zO (zu zog (zi 4) (zi 3))) (zX (zHg (z2e zed (zi 3) (ze (zi 4) zD))) (zX (sIf (zO (zu (zTj fun i j=>decide (j<i)) (zy zYb (ze (zi 0) (ze (zi 1) (ze (zi 4) zD)))) (fC (.int 0)))) (zX (z8o (zi 4) (gAt (zi 1) (zi 2))) (zUb (fC (.bl true)))) zJb) (zti (zCg (fLC 1 [1,4] (z7d (ze (zy zsj (ze (zi 1) zD)) zD)) (gN 0) (z0d G) (z3d G))) (gN 5) (z9d G)))) zJb)
noncomputable def zfd:List Str:=["_law_web_here","_law_laying","_law_key","_law_met","_law_nest","_law_other"]
noncomputable def zGb (G:FF):FS:=(zX (zti (zCg (zu gIx (zu gIx (zi 0) (fC (.int 1))) (zi 2))) (gN 4) (z6d G)) (zUb (fC (.bl false))))
noncomputable def zfb:Nat→FF
  | 0=>fun _ _=>none
  | n+1=>fun ds μ=>zzb (zGb (zfb n) (zG zfd ds) μ)
noncomputable def zbd:FF:=zfb 12
noncomputable def zoh:FE:=(zy zbd (ze (zi 1) (ze (zi 2) (ze (zi 0) (ze (zcl zD) zD)))))
noncomputable def zeh:FE:=(fC .non)
noncomputable def z7j:List Str:=["_law_web_here","_law_laying"]
noncomputable def zze:FS:=(zX (zbc 1 (fLC 1 [] (zCg (zu gIx (zi 0) (fC (.int 1)))) (gN 0) zzo zeh)) (zUb (zy zrw (ze (fLC 1 [0,1] (z7d (ze (zy zsj (ze (zi 1) zD)) zD)) (gN 0) zzo zoh) zD))))
noncomputable def zKe:FF:=fun ds μ=>zzb (zze (zG z7j ds) μ)
noncomputable def z2d:FS:=(zX (sIf (zgo (z4i (zO (zy (zZq .int) (ze (zi 3) (ze (fC (.ty "int")) zD))))) (zgo (zO (zy (zZq .bl) (ze (zi 3) (ze (fC (.ty "bool")) zD)))) (zgo (zO (zu (zTj fun i j=>decide (i≤j)) (zi 3) (zi 2))) (zO (zu (zTj fun i j=>decide (j≤i)) (zi 3) (zi 1)))))) (zUb (fC (.bl false))) zJb) (zbc 2 (zi 3)))
noncomputable def zgf:List Str:=["_law_some","_law_many","_law_last","_law_key"]
noncomputable def zac:FS:=(zX (sIf (z4i (zO (zy (zZq .lst) (ze (zi 0) (ze (fC (.ty "list")) zD))))) (zUb (fC (.bl false))) zJb) (zX (zbc 2 (zYw (fC (.int 1)))) (zX (zti (zCg (zi 0)) (gN 3) z2d) (zUb (fC (.bl true))))))
noncomputable def z8b:FF:=fun ds μ=>zzb (zac (zG zgf ds) μ)
noncomputable def z8e:FS:=(sIf (zO (zu zog (zi 4) (zi 2))) (zHg (z2e zed (zi 2) (ze (zi 4) zD))) zJb)
noncomputable def zbf:FS:=(zti (zCg (zu gIx (zu gIx (zi 0) (fC (.int 1))) (zi 3))) (gN 4) z8e)
noncomputable def z4g:List Str:=["_law_web_here","_law_some","_law_found","_law_key","_law_nest"]
noncomputable def z4c:FS:=(zX (zbc 2 (zcl zD)) (zX (zti (zCg (zi 1)) (gN 3) zbf) (zUb (zi 2))))
noncomputable def z1c:FF:=fun ds μ=>zzb (z4c (zG z4g ds) μ)
noncomputable def zme:FE:=(zu gIx (zu gIx (zi 1) (fC (.int 0))) (zi 0))
noncomputable def zNf:List Str:=["_law_web_here","_law_some"]
noncomputable def zuc:FS:=(zUb (zu zJs (zy zsj (ze (zi 1) zD)) (zy zOu (ze (fLC 1 [0] (zCg (zy z1c (ze (zi 0) (ze (zi 1) zD)))) (gN 0) zzo zme) zD))))
noncomputable def zTb:FF:=fun ds μ=>zzb (zuc (zG zNf ds) μ)
noncomputable def z5d:FE:=(zi 0)
noncomputable def zae:FT:=(zO (zu gNe (zi 0) (zi 1)))
noncomputable def z1d:FE:=(zu (zTj fun i j=>decide (i<j)) (zy zTb (ze (zi 1) (ze (fLC 1 [0] (zCg (zi 2)) (gN 0) zae z5d) zD))) (fC (.int 1)))
noncomputable def zdf:List Str:=["_law_web_here","_law_kept","_law_some"]
noncomputable def z6b:FS:=(zX (sIf (zgo (z4i (zO (zy (zjq kit) (ze (zi 1) (ze (fC (.own "NoFit")) zD))))) (z4i (zO (zy (zjq kit) (ze (zi 1) (ze (fC (.ty "ValueError")) zD)))))) (zUb (fC (.bl false))) zJb) (zX (sIf (zO (zy (zjq kit) (ze (zi 1) (ze (z3i (ze (fC (.own "Full")) (ze (fC (.own "NoKey")) (ze (fC (.own "NoPairs")) (ze (fC (.own "NoPush")) (ze (fC (.own "NoRow")) (ze (fC (.own "NoRule")) (ze (fC (.own "NoText")) (ze (fC (.own "Twice")) zD))))))))) zD)))) (zUb (fC (.bl false))) zJb) (zX (zbc 2 (fAt "NoFit" "some" (zi 1))) (zX (sIf (zgo (z4i (zO (zy z8b (ze (zi 2) (ze (zy zsj (ze (zu gIx (zi 0) (fC (.int 1))) zD)) zD))))) (zO (zu (zTj fun i j=>decide (i<j)) (zy zTb (ze (zi 0) (ze (zi 2) zD))) (fC (.int 1))))) (zUb (fC (.bl false))) zJb) (zUb (zy zrw (ze (fLC 1 [0,2] (zCg (zi 2)) (gN 0) zzo z1d) zD)))))))
noncomputable def z5b:FF:=fun ds μ=>zzb (z6b (zG zdf ds) μ)
noncomputable def zrq:FS:=(zX (z8o (zy zVc (ze (zi 1) zD)) (gT 2 (znb (gN 3) (znb (gN 4) zyg)))) (sIf (zO (zy zKe (ze (zi 1) zD))) (sIf (zgo (zO (zu zef (zi 4) (fC .non))) (zgo (z4i (zO (zy (zZq .lst) (ze (zi 3) (ze (fC (.ty "list")) zD))))) (zO (zu gNe (zy zsj (ze (zi 3) zD)) (zy zsj (ze (zu gIx (zi 1) (fC (.int 1))) zD)))))) (zUb (fC (.bl false))) zJb) (sIf (zgo (zO (zu zef (zi 3) (fC .non))) (z4i (zO (zy z5b (ze (zi 1) (ze (zi 4) zD)))))) (zUb (fC (.bl false))) (zHg (zyo zkm (fAt "NoFit" "some" (zi 4)))))))
noncomputable def z0v:List Str:=["_law_script","_law_web_here","_law_turn","_law_found","_law_kept"]
noncomputable def zRr:FS:=(zX (zbc 1 (zy zHe (ze (zy zPe (ze (zi 0) zD)) (ze (fC (.int 20)) zD)))) (zX (zti (z7d (ze (fC (.int 2)) zD)) (gN 2) zrq) (zUb (fC (.bl true)))))
noncomputable def zrp:FF:=fun ds μ=>zzb (zRr (zG z0v ds) μ)
structure Txt (K:W.Frag) (mg:Str→Option Value):Prop where
  x_NoFit:∃ C,W.nsIn K mainGlobals "NoFit" = some (some (.ref C))∧mg "NoFit" = some (.ref C)∧W.ktsIn K C "BaseException" = true
  x_NestError:∃ C,W.nsIn K mainGlobals "NestError" = some (some (.ref C))∧mg "NestError" = some (.ref C)∧W.ktsIn K C "BaseException" = true
  x_Twice:∃ C,W.nsIn K mainGlobals "Twice" = some (some (.ref C))∧mg "Twice" = some (.ref C)∧W.ktsIn K C "BaseException" = true
  x_NoText:∃ C,W.nsIn K mainGlobals "NoText" = some (some (.ref C))∧mg "NoText" = some (.ref C)∧W.ktsIn K C "BaseException" = true
  x_NoRule:∃ C,W.nsIn K mainGlobals "NoRule" = some (some (.ref C))∧mg "NoRule" = some (.ref C)∧W.ktsIn K C "BaseException" = true
  x_NoRow:∃ C,W.nsIn K mainGlobals "NoRow" = some (some (.ref C))∧mg "NoRow" = some (.ref C)∧W.ktsIn K C "BaseException" = true
  x_NoPush:∃ C,W.nsIn K mainGlobals "NoPush" = some (some (.ref C))∧mg "NoPush" = some (.ref C)∧W.ktsIn K C "BaseException" = true
  x_NoPairs:∃ C,W.nsIn K mainGlobals "NoPairs" = some (some (.ref C))∧mg "NoPairs" = some (.ref C)∧W.ktsIn K C "BaseException" = true
  x_NoKey:∃ C,W.nsIn K mainGlobals "NoKey" = some (some (.ref C))∧mg "NoKey" = some (.ref C)∧W.ktsIn K C "BaseException" = true
  x_Full:∃ C,W.nsIn K mainGlobals "Full" = some (some (.ref C))∧mg "Full" = some (.ref C)∧W.ktsIn K C "BaseException" = true
  s_NestError:∀ C,W.nsIn K mainGlobals "NestError" = some (some (.ref C))→Subs K C [("NoFit",true)]
  kit:KitOk K kit
  a_NoFit:AtC K "NoFit" "some"
  n_ValueError:mg "ValueError" = none
  n_all:mg "all" = none
  n_bool:mg "bool" = none
  n_enumerate:mg "enumerate" = none
  n_int:mg "int" = none
  n_isinstance:mg "isinstance" = none
  n_len:mg "len" = none
  n_list:mg "list" = none
  n_range:mg "range" = none
  n_reversed:mg "reversed" = none
  n_set:mg "set" = none
  n_sorted:mg "sorted" = none
  n_sum:mg "sum" = none
  n_tuple:mg "tuple" = none
theorem zbl:bootBuiltins "ValueError" = some (.type "ValueError"):=by decide +kernel
theorem zWs:bootBuiltins "all" = some (.builtin "all"):=by decide +kernel
theorem zru:bootBuiltins "bool" = some (.type "bool"):=by decide +kernel
theorem zxb:bootBuiltins "enumerate" = some (.type "enumerate"):=by decide +kernel
theorem ztv:bootBuiltins "int" = some (.type "int"):=by decide +kernel
theorem zlb:bootBuiltins "isinstance" = some (.builtin "isinstance"):=by decide +kernel
theorem zjc:bootBuiltins "len" = some (.builtin "len"):=by decide +kernel
theorem zee:bootBuiltins "list" = some (.type "list"):=by decide +kernel
theorem zLm:bootBuiltins "reversed" = some (.type "reversed"):=by decide +kernel
theorem z7q:bootBuiltins "set" = some (.type "set"):=by decide +kernel
theorem zli:bootBuiltins "sorted" = some (.builtin "sorted"):=by decide +kernel
theorem zZs:bootBuiltins "sum" = some (.builtin "sum"):=by decide +kernel
theorem z0k:bootBuiltins "tuple" = some (.type "tuple"):=by decide +kernel
section
variable {P:Program} {w:World} {K:W.Frag} {mg:Str→Option Value} {base:Heap}
set_option maxHeartbeats 4000000
noncomputable abbrev zPb:Stmt:=zHt (top 10)
noncomputable abbrev zcb:List Str:=["self","some"]
theorem zok:FnScope zcb zcb (zm zPb):=⟨rfl,rfl,rfl,by decide +kernel,rfl,by decide +kernel,by decide +kernel⟩
theorem zej (T:Txt K mg) {C NE fI:Addr} {fd:FuncData} (B:IniAt K mg "NoFit" "some" "NoFit.__init__" zPb zcb C NE fI fd):FnOk P w K mg base CX0 1 fI fd zcb (spL C "some"):=by
  refine B.fn.ok (k:=0) zok (fun vs H Q E ⟨e,a,ns,h,_⟩=>by rw [h];rfl) (fun cdv A outer s H vs Q E hr ⟨e,a,ns,hv,hsm,ha,he,hq⟩=>⟨_,zso (zSq (zSt B.ex B.ne (zmc (pv 0) (zmc (zOs (pv 1) hr.gd hr.units) zhe)))) (zar (zXq B.ex (pv 0) (zqd zlh rfl T.n_list zee (zmc (pv 1) zhe)))),?_⟩)
  subst hv
  exact ⟨_,rfl,_,rfl,a,ns,rfl,ha,hsm,fun y=>⟨e,_,rfl,he,_,rfl,a,_,rfl, .inl (SqL.of ha),fun l hl=>⟨_,rfl,e,rfl,by rw [zw (zq he hl)];exact he,fun p hp hpe=>by
    have hpl:p≠l:=fun z=>by rw [z,zo] at hp;cases hp
    exact hq l p hl (Ne.symm (zq he hl)) (by rwa [zw hpl] at hp) hpe hpl⟩⟩⟩
noncomputable abbrev z0c:Stmt:=top 38
noncomputable abbrev zCb:List Str:=["_law_script","_law_k"]
theorem sc__law_mixed:FnScope z6g zCb (zm z0c):=⟨rfl,rfl,rfl,by decide +kernel,rfl,by decide +kernel,by decide +kernel⟩
theorem zjj (T:Txt K mg) {f:Addr} {fd:FuncData} (B:FnAt K mg "_law_mixed" z0c zCb f fd):FnOk P w K mg base CX0 1 f fd zCb (spM K 2 zUc):=by
  refine fnM B.fn sc__law_mixed rfl (fun cdv A outer s H E hr=>⟨zYc,?_,fun _ _ _ _ _ e=>e⟩)
  have hu:=hr.units
  exact (zh (zL 2 zl (hN:=sc__law_mixed.nd)) (zh (zHb (zP ztr (zE zV T.n_len zjc (za (mv 0) zd)) zl) (zj (zL 2 (zJ (mv 0) (z7 zqe (mv 1) (zE zV T.n_len zjc (za (mv 0) zd)))) (hN:=sc__law_mixed.nd))) zS) (zh (zL 3 (z7 zqe (z7 z8 (z7 zNd (z7 z8 (z7 z8 (mv 2) (z7 zNd zl (mv 1))) zl) zl) (z7 zNd (mv 1) (mv 1))) zl) (hN:=sc__law_mixed.nd)) (zh (zL 4 (z7 zqe (z7 z8 (z7 z8 (z7 zNd (mv 3) (mv 3)) (z7 zNd zl (mv 3))) (z7 zNd zl (mv 1))) zl) (hN:=sc__law_mixed.nd)) (zj (zC (z7 zqe (z7 z8 (z7 z8 (z7 zNd (mv 4) (mv 4)) (z7 zNd zl (mv 4))) (mv 1)) zl)))))))
noncomputable abbrev zXd:Stmt:=top 39
noncomputable abbrev zLb:List Str:=["_law_pen_here","_law_many"]
theorem sc__law_take:FnScope z6h zLb (zm zXd):=⟨rfl,rfl,rfl,by decide +kernel,rfl,by decide +kernel,by decide +kernel⟩
theorem zwk (T:Txt K mg) {z8g:Addr} {zbg:FuncData} (z3c:FnAt K mg "_law_mixed" z0c zCb z8g zbg) (zVd:FnOk P w K mg base CX0 1 z8g zbg zCb (spM K 2 zUc)) {f:Addr} {fd:FuncData} (B:FnAt K mg "_law_take" zXd zLb f fd):FnOk P w K mg base CX0 2 f fd zLb (spM K 2 zB):=by
  refine fnM B.fn sc__law_take rfl (fun cdv A outer s H E hr=>⟨zZd,?_,fun _ _ _ _ _ e=>e⟩)
  have hu:=hr.units
  exact (zh (zxf (mv 0) (zpt (ztb (zR 2 (hN:=sc__law_take.nd)) (ztb (zR 3 (hN:=sc__law_take.nd)) (ztb (zR 4 (hN:=sc__law_take.nd)) (ztb (zR 5 (hN:=sc__law_take.nd)) zKg)))))) (zh (zxf (z7 z8 (mv 4) zl) (zoq (mv 0) zl)) (zh (zHb (zpc (mv 3)) (zj (zC (z7 zqe (mcall z3c zVd hr (za (mv 2) (za (mv 4) zd))) (mv 1)))) zS) (zh (zHb (zP (zWb hu) (z7 zqe (mv 4) zl) zl) (zh (zL 5 zl (hN:=sc__law_take.nd)) (zj (zHb (zP zBi (z7 z8 (z7 znn (mv 4) zl) zl) (zE zV T.n_len zjc (za (mv 2) zd))) (zj (zL 5 (zJ (mv 2) (z7 z8 (z7 znn (mv 4) zl) zl)) (hN:=sc__law_take.nd))) zS))) zS) (zh (zxf (z7 znn (mv 5) (mv 1)) (zoq (mv 0) zl)) (zj (zC (z7 zqe (mv 5) (mv 1)))))))))
noncomputable abbrev zwe:Stmt:=top 40
noncomputable abbrev z3b:List Str:=["_law_pen_here","_law_many"]
theorem sc__law_web:FnScope zAj z3b (zm zwe):=⟨rfl,rfl,rfl,by decide +kernel,rfl,by decide +kernel,by decide +kernel⟩
theorem zGl (T:Txt K mg) {zxi:Addr} {zah:FuncData} (zQ:FnAt K mg "_law_take" zXd zLb zxi zah) (zN:FnOk P w K mg base CX0 2 zxi zah zLb (spM K 2 zB)) {f:Addr} {fd:FuncData} (B:FnAt K mg "_law_web" zwe z3b f fd):FnOk P w K mg base CX0 3 f fd z3b (spM K 2 zHe):=by
  refine fnM B.fn sc__law_web rfl (fun cdv A outer s H E hr=>⟨zXe,?_,fun _ _ _ _ _ e=>e⟩)
  have hu:=hr.units
  exact (zh (zL 2 (z7 z8 zl (mcall zQ zN hr (za (mv 0) (za zl zd)))) (hN:=sc__law_web.nd)) (zh (zHb (zP (zWb hu) (mcall zQ zN hr (za (mv 0) (za zl zd))) zl) (zj (zL 2 (z7 z8 zl (mcall zQ zN hr (za (mv 0) (za zl zd)))) (hN:=sc__law_web.nd))) zS) (zh (zL 3 (zJ (zsd (za zl (za zl (za zl (za zl zd))))) (mcall zQ zN hr (za (mv 0) (za zl zd)))) (hN:=sc__law_web.nd)) (zh (zL 4 (zRe zjf T.n_tuple z0k (za (mlc ["_law_nest"] [0,3] (zUe T.n_range (za (mv 2) zd)) (fun _ _ _ _ _=>(zZ 0 (hN:=zY (by rfl)))) (fun _ _ _ _ _=>ztg) (fun _ _ _ _ _=>(mcall zQ zN hr (za (mv 1) (za (mv 2) zd)))) (zbb ⟨_,rfl,rfl⟩ (zbb ⟨_,rfl,rfl⟩ zrc))) zd)) (hN:=sc__law_web.nd)) (zh (zHb (zP (zWb hu) (mcall zQ zN hr (za (mv 0) (za zl zd))) zl) (zh (zL 5 (mcall zQ zN hr (za (mv 0) (za (mv 2) zd))) (hN:=sc__law_web.nd)) (zj (zL 4 (z7 z8 (z7 z8 (zOm (mv 4) zEm (z5h (mv 5))) (zic (za (z7 z8 (zJ (mv 4) (mv 5)) (zJ (zsd (za zl (za zl (za (z7 zau zl zl) zd)))) (mcall zQ zN hr (za (mv 0) (za zl zd))))) zd))) (zOm (mv 4) (z5h (z7 z8 (mv 5) zl)) zEm)) (hN:=sc__law_web.nd)))) zS) (zh (zL 6 (zsd zd) (hN:=sc__law_web.nd)) (zh (zVb (zUe T.n_range (za (mcall zQ zN hr (za (mv 0) (za (mv 1) zd))) zd)) (zR 7 (hN:=sc__law_web.nd)) (zh (zL 8 (z7 z8 zl (mcall zQ zN hr (za (mv 0) (za zl zd)))) (hN:=sc__law_web.nd)) (zj (zid (zud (mv 6) (za (zRe zjf T.n_tuple z0k (za (mlc ["_law_j"] [0,2] (zUe T.n_range (za (mv 8) zd)) (fun _ _ _ _ _=>(zZ 0 (hN:=zY (by rfl)))) (fun _ _ _ _ _=>ztg) (fun _ _ _ _ _=>(mcall zQ zN hr (za (mv 1) (za (mv 2) zd)))) (zbb ⟨_,rfl,rfl⟩ (zbb ⟨_,rfl,rfl⟩ zrc))) zd)) zd)))))) (zj (zC (zic (za (mv 4) (za (zRe zjf T.n_tuple z0k (za (mv 6) zd)) zd))))))))))))
noncomputable abbrev zFe:Stmt:=top 37
noncomputable abbrev z2b:List Str:=["_law_script"]
theorem zvn:FnScope zVj z2b (zm zFe):=⟨rfl,rfl,rfl,by decide +kernel,rfl,by decide +kernel,by decide +kernel⟩
theorem z6l (T:Txt K mg) {f:Addr} {fd:FuncData} (B:FnAt K mg "_law_pen" zFe z2b f fd):FnOk P w K mg base CX0 1 f fd z2b (spM K 1 zPe):=by
  refine fnM B.fn zvn rfl (fun cdv A outer s H E hr=>⟨zMe,?_,fun _ _ _ _ _ e=>e⟩)
  have hu:=hr.units
  exact (zj (zC (zsd (za (mv 0) (za (zkx (zkh (zWb hu) (zE zV T.n_len zjc (za (mv 0) zd)) zl) (zHv (zkh (zWb hu) (z7 zqe (zJ (mv 0) zl) zl) zl))) (za zl (za zl zd)))))))
noncomputable abbrev zBk:Stmt:=top 14
noncomputable abbrev zIe:List Str:=["laying","nest"]
theorem zAs:FnScope z0p zIe (zm zBk):=⟨rfl,rfl,rfl,by decide +kernel,rfl,by decide +kernel,by decide +kernel⟩
theorem z1p (T:Txt K mg) {f:Addr} {fd:FuncData} (B:FnAt K mg "lying" zBk zIe f fd):FnOk P w K mg base CX0 1 f fd zIe (spM K 2 zXk):=by
  refine fnM B.fn zAs rfl (fun cdv A outer s H E hr=>⟨zOk,?_,fun _ _ _ _ _ e=>e⟩)
  have hu:=hr.units
  exact (zj (zC (mlc ["key","place"] [1] (znf T.n_enumerate zxb (mv 0)) (fun _ _ _ _ _=>(zhn (zvd (zZ 0 (hN:=zY (by rfl))) (zvd (zZ 1 (hN:=zY (by rfl))) zMk)))) (fun _ _ _ _ _=>(z2i (zP (zWb hu) (mv 1) (mv 2)))) (fun _ _ _ _ _=>(mv 0)) (zbb ⟨_,rfl,rfl⟩ zrc))))
noncomputable abbrev zOd:Stmt:=top 19
noncomputable abbrev zMb:List Str:=["web","laying","key"]
theorem sc_pushes_to:FnScope z0h zMb (zm zOd):=⟨rfl,rfl,rfl,by decide +kernel,rfl,by decide +kernel,by decide +kernel⟩
theorem zvk (T:Txt K mg) {zcq:Addr} {zIn:FuncData} (zGk:FnAt K mg "lying" zBk zIe zcq zIn) (zdl:FnOk P w K mg base CX0 1 zcq zIn zIe (spM K 2 zXk)) {f:Addr} {fd:FuncData} (B:FnAt K mg "pushes_to" zOd zMb f fd):FnOk P w K mg base CX0 2 f fd zMb (spM K 3 zId):=by
  refine fnM B.fn sc_pushes_to rfl (fun cdv A outer s H E hr=>⟨zKd,?_,fun _ _ _ _ _ e=>e⟩)
  have hu:=hr.units
  exact (zh (zL 3 zQv (hN:=sc_pushes_to.nd)) (zh (zVb (zOb (zJ (zJ (mv 0) zl) (mv 2))) (zR 4 (hN:=sc_pushes_to.nd)) (zj (zxf (zic (za (mv 2) (za zZc zd))) (zht (mv 3) (mv 4))))) (zh (zL 5 (zRe (zXm rfl) T.n_list zee (za (mv 3) zd)) (hN:=sc_pushes_to.nd)) (zh (zL 6 zl (hN:=sc_pushes_to.nd)) (zh (z4k 100000 (zP zBi (mv 6) (zE zV T.n_len zjc (za (mv 5) zd))) (zh (zVb (zOb (mcall zGk zdl hr (za (mv 1) (za (zJ (mv 5) (mv 6)) zd)))) (zR 7 (hN:=sc_pushes_to.nd)) (zj (zVb (zOb (zJ (zJ (mv 0) zl) (mv 7))) (zR 4 (hN:=sc_pushes_to.nd)) (zj (zHb (zP zJo (mv 4) (mv 3)) (zh (zxf (zic (za (mv 7) (za (zJ (mv 5) (mv 6)) zd))) (zht (mv 3) (mv 4))) (zj (zid (zud (mv 5) (za (mv 4) zd))))) zS))))) (zj (zcw 6 ztu zl (hN:=sc_pushes_to.nd))))) (zj (zC (mv 3))))))))
noncomputable abbrev zzl:Stmt:=top 12
noncomputable abbrev zte:List Str:=["web","laying"]
theorem zDu:FnScope zYs zte (zm zzl):=⟨rfl,rfl,rfl,by decide +kernel,rfl,by decide +kernel,by decide +kernel⟩
theorem z5r (T:Txt K mg) {f:Addr} {fd:FuncData} (B:FnAt K mg "left" zzl zte f fd):FnOk P w K mg base CX0 1 f fd zte (spM K 2 zei):=by
  refine fnM B.fn zDu rfl (fun cdv A outer s H E hr=>⟨zIj,?_,fun _ _ _ _ _ e=>e⟩)
  have hu:=hr.units
  exact (zj (zC (mlc ["nest","room"] [1] (znf T.n_enumerate zxb (zJ (mv 0) zl)) (fun _ _ _ _ _=>(zhn (zvd (zZ 0 (hN:=zY (by rfl))) (zvd (zZ 1 (hN:=zY (by rfl))) zMk)))) (fun _ _ _ _ _=>ztg) (fun _ _ _ _ _=>(z7 zgk (mv 1) (zls (mv 2) (za (mv 0) zd)))) (zbb ⟨_,rfl,rfl⟩ zrc))))
noncomputable abbrev zPh:Stmt:=top 20
noncomputable abbrev zxd:List Str:=["pushes","nest"]
theorem sc_row_to:FnScope zZn zxd (zm zPh):=⟨rfl,rfl,rfl,by decide +kernel,rfl,by decide +kernel,by decide +kernel⟩
theorem zlp (T:Txt K mg) {f:Addr} {fd:FuncData} (B:FnAt K mg "row_to" zPh zxd f fd):FnOk P w K mg base CX0 1 f fd zxd (spM K 2 zIh):=by
  refine fnM B.fn sc_row_to rfl (fun cdv A outer s H E hr=>⟨zDh,?_,fun _ _ _ _ _ e=>e⟩)
  have hu:=hr.units
  exact (zh (zL 2 (zsd zd) (hN:=sc_row_to.nd)) (zh (z4k 100000 (zP zpd (mv 1) zZc) (zh (zid (zud (mv 2) (za (zic (za (zJ (z8s (mv 0) (mv 1)) zl) (za (mv 1) zd))) zd))) (zj (zL 1 (zJ (z8s (mv 0) (mv 1)) zl) (hN:=sc_row_to.nd))))) (zj (zC (zxu T.n_list zee T.n_reversed zLm (mv 2))))))
noncomputable abbrev zWf:Stmt:=top 21
noncomputable abbrev zkc:List Str:=["web","laying","key"]
theorem sc_put_in:FnScope zBn zkc (zm zWf):=⟨rfl,rfl,rfl,by decide +kernel,rfl,by decide +kernel,by decide +kernel⟩
theorem zmp (T:Txt K mg) {zri:Addr} {zfh:FuncData} (zQd:FnAt K mg "pushes_to" zOd zMb zri zfh) (zke:FnOk P w K mg base CX0 2 zri zfh zMb (spM K 3 zId)) {zDl:Addr} {zyi:FuncData} (zYi:FnAt K mg "left" zzl zte zDl zyi) (zYg:FnOk P w K mg base CX0 1 zDl zyi zte (spM K 2 zei)) {z9n:Addr} {zyl:FuncData} (zKh:FnAt K mg "row_to" zPh zxd z9n zyl) (zAi:FnOk P w K mg base CX0 1 z9n zyl zxd (spM K 2 zIh)) {f:Addr} {fd:FuncData} (B:FnAt K mg "put_in" zWf zkc f fd):FnOk P w K mg base CX0 3 f fd zkc (spM K 3 z0e):=by
  refine fnM B.fn sc_put_in rfl (fun cdv A outer s H E hr=>⟨zBh,?_,fun _ _ _ _ _ e=>e⟩)
  have hu:=hr.units
  exact (zh (zL 3 (mcall zQd zke hr (za (mv 0) (za (mv 1) (za (mv 2) zd)))) (hN:=sc_put_in.nd)) (zh (zL 4 (mcall zYi zYg hr (za (mv 0) (za (mv 1) zd))) (hN:=sc_put_in.nd)) (zh (zVb (zxt (mv 3)) (zR 5 (hN:=sc_put_in.nd)) (zj (zHb (zP ztr (zJ (mv 4) (mv 5)) zl) (zj (zC (zic (za zAf (za (mcall zKh zAi hr (za (mv 3) (za (mv 5) zd))) zd))))) zS))) (zj (zC (zic (za zAf (za (mlc ["other","nest"] [2,3] (znf T.n_enumerate zxb (mv 1)) (fun _ _ _ _ _=>(zhn (zvd (zZ 0 (hN:=zY (by rfl))) (zvd (zZ 1 (hN:=zY (by rfl))) zMk)))) (fun _ _ _ _ _=>(z2i (MW.mt (zsh (zP (zWb hu) (mv 0) (mv 2)) (z2f (zP z4r (mv 1) (mv 3))))))) (fun _ _ _ _ _=>(mv 0)) (zbb ⟨_,rfl,rfl⟩ (zbb ⟨_,rfl,rfl⟩ zrc))) zd))))))))
noncomputable abbrev zUk:Stmt:=top 13
noncomputable abbrev zve:List Str:=["web","laying"]
theorem sc_fault:FnScope zLp zve (zm zUk):=⟨rfl,rfl,rfl,by decide +kernel,rfl,by decide +kernel,by decide +kernel⟩
theorem znr (T:Txt K mg) {zDl:Addr} {zyi:FuncData} (zYi:FnAt K mg "left" zzl zte zDl zyi) (zYg:FnOk P w K mg base CX0 1 zDl zyi zte (spM K 2 zei)) {f:Addr} {fd:FuncData} (B:FnAt K mg "fault" zUk zve f fd):FnOk P w K mg base CX0 2 f fd zve (spM K 2 zRk):=by
  refine fnM B.fn sc_fault rfl (fun cdv A outer s H E hr=>⟨zal,?_,fun _ _ _ _ _ e=>e⟩)
  have hu:=hr.units
  exact (zh (zVb (znf T.n_enumerate zxb (mv 1)) (zIl (ztb (zR 2 (hN:=sc_fault.nd)) (ztb (zR 3 (hN:=sc_fault.nd)) zKg))) (zj (zHb (MW.mt (zft (zP zpd (mv 3) zZc) (zHq (zP zje (mv 3) (zJ (zJ (mv 0) zl) (mv 2)))))) (zj (zC (zic (za zAf (za (mv 2) zd))))) zS))) (zh (zVb (znf T.n_enumerate zxb (mcall zYi zYg hr (za (mv 0) (za (mv 1) zd)))) (zIl (ztb (zR 3 (hN:=sc_fault.nd)) (ztb (zR 4 (hN:=sc_fault.nd)) zKg))) (zj (zHb (zP zBi (mv 4) zl) (zj (zC (zic (za zAf (za (mv 3) zd))))) zS))) (zj (zC zZc))))
noncomputable abbrev z1f:Stmt:=top 16
noncomputable abbrev zFc:List Str:=["web","laying","row","at"]
theorem sc_is_push:FnScope zwl zFc (zm z1f):=⟨rfl,rfl,rfl,by decide +kernel,rfl,by decide +kernel,by decide +kernel⟩
theorem zen (T:Txt K mg) {f:Addr} {fd:FuncData} (B:FnAt K mg "is_push" z1f zFc f fd):FnOk P w K mg base CX0 1 f fd zFc (spM K 4 zzf):=by
  refine fnM B.fn sc_is_push rfl (fun cdv A outer s H E hr=>⟨z5f,?_,fun _ _ _ _ _ e=>e⟩)
  have hu:=hr.units
  exact (zh (zL 4 (zJ (zJ (mv 2) (mv 3)) zl) (hN:=sc_is_push.nd)) (zh (zHb (MW.mt (zsh (zP zBi (mv 4) zl) (z2f (zP zgt (mv 4) (zE zV T.n_len zjc (za (mv 1) zd)))))) (zj (zC zDf)) zS) (zh (zHb (MW.mt (zsh (zP zje (zJ (zJ (mv 2) (mv 3)) zl) (zJ (zJ (mv 0) zl) (mv 4))) (z2f (zP (zWb hu) (zJ (zJ (mv 2) (mv 3)) zl) (zJ (mv 1) (mv 4)))))) (zj (zC zDf)) zS) (zj (zC (zkh zje (mv 4) (mlc ["push"] [] (zOb (zOm (mv 2) zEm (z5h (mv 3)))) (fun _ _ _ _ _=>(zZ 0 (hN:=zY (by rfl)))) (fun _ _ _ _ _=>ztg) (fun _ _ _ _ _=>(zJ (mv 0) zl)) zrc)))))))
noncomputable abbrev zHf:Stmt:=top 17
noncomputable abbrev zEc:List Str:=["laying","key","row","at"]
theorem z7o:FnScope zim zEc (zm zHf):=⟨rfl,rfl,rfl,by decide +kernel,rfl,by decide +kernel,by decide +kernel⟩
theorem z3m (T:Txt K mg) {f:Addr} {fd:FuncData} (B:FnAt K mg "follows" zHf zEc f fd):FnOk P w K mg base CX0 1 f fd zEc (spM K 4 zTf):=by
  refine fnM B.fn z7o rfl (fun cdv A outer s H E hr=>⟨zyf,?_,fun _ _ _ _ _ e=>e⟩)
  have hu:=hr.units
  exact (zh (zHb (zP (zWb hu) (mv 3) zl) (zj (zC (zkh (zWb hu) (zJ (zJ (mv 2) zl) zl) (mv 1)))) zS) (zj (zC (zkh (zWb hu) (zJ (mv 0) (zJ (zJ (mv 2) (mv 3)) zl)) (zJ (zJ (mv 2) (z7 zgk (mv 3) zl)) zl)))))
noncomputable abbrev zNh:Stmt:=top 18
noncomputable abbrev zmd:List Str:=["web","laying","key","row"]
theorem sc_pushed:FnScope zto zmd (zm zNh):=⟨rfl,rfl,rfl,by decide +kernel,rfl,by decide +kernel,by decide +kernel⟩
theorem znp (T:Txt K mg) {zGq:Addr} {zoo:FuncData} (zJk:FnAt K mg "fault" zUk zve zGq zoo) (zQk:FnOk P w K mg base CX0 2 zGq zoo zve (spM K 2 zRk)) {z1l:Addr} {z0j:FuncData} (zLf:FnAt K mg "is_push" z1f zFc z1l z0j) (zPg:FnOk P w K mg base CX0 1 z1l z0j zFc (spM K 4 zzf)) {zEl:Addr} {zck:FuncData} (z7f:FnAt K mg "follows" zHf zEc zEl zck) (zZg:FnOk P w K mg base CX0 1 zEl zck zEc (spM K 4 zTf)) {f:Addr} {fd:FuncData} (B:FnAt K mg "pushed" zNh zmd f fd):FnOk P w K mg base CX0 3 f fd zmd (spM K 4 zTh):=by
  refine fnM B.fn sc_pushed rfl (fun cdv A outer s H E hr=>⟨zSh,?_,fun _ _ _ _ _ e=>e⟩)
  have hu:=hr.units
  exact (zh (zL 4 (zRe zyj T.n_list zee (za (mv 1) zd)) (hN:=sc_pushed.nd)) (zh (zVb (znf T.n_enumerate zxb (mv 3)) (zIl (ztb (zR 5 (hN:=sc_pushed.nd)) (ztb (zR 6 (hN:=sc_pushed.nd)) zKg))) (zh (zHb (zhh (MW.mt (zft (zpc (mcall zLf zPg hr (za (mv 0) (za (mv 1) (za (mv 3) (za (mv 5) zd)))))) (zHq (zpc (mcall z7f zZg hr (za (mv 1) (za (mv 2) (za (mv 3) (za (mv 5) zd)))))))))) (zj zno) zS) (zj (zxf (zJ (mv 6) zl) (zoq (mv 4) (zJ (mv 6) zl)))))) (zh (zHb (MW.mt (zsh (zP (zWb hu) (zE zV T.n_len zjc (za (mv 3) zd)) zl) (z2f (zP zpd (mcall zJk zQk hr (za (mv 0) (za (mv 4) zd))) zZc)))) (zj zno) zS) (zj (zC (mv 4))))))
noncomputable abbrev zEd:Stmt:=top 22
noncomputable abbrev zNb:List Str:=["web","laying","keys"]
theorem sc_laid_more:FnScope zsi zNb (zm zEd):=⟨rfl,rfl,rfl,by decide +kernel,rfl,by decide +kernel,by decide +kernel⟩
theorem zjk (T:Txt K mg) {zlg:Addr} {zne:FuncData} (zDd:FnAt K mg "put_in" zWf zkc zlg zne) (zld:FnOk P w K mg base CX0 3 zlg zne zkc (spM K 3 z0e)) {zqo:Addr} {zvl:FuncData} (zLh:FnAt K mg "pushed" zNh zmd zqo zvl) (zWh:FnOk P w K mg base CX0 3 zqo zvl zmd (spM K 4 zTh)) {f:Addr} {fd:FuncData} (B:FnAt K mg "laid_more" zEd zNb f fd):FnOk P w K mg base CX0 4 f fd zNb (spM K 3 zSd):=by
  refine fnM B.fn sc_laid_more rfl (fun cdv A outer s H E hr=>⟨zJd,?_,fun _ _ _ _ _ e=>e⟩)
  have hu:=hr.units
  exact (zh (zL 3 (zsd zd) (hN:=sc_laid_more.nd)) (zh (zVb (zOb (mv 2)) (zR 4 (hN:=sc_laid_more.nd)) (zh (zL 5 (mcall zDd zld hr (za (mv 0) (za (mv 1) (za (mv 4) zd)))) (hN:=sc_laid_more.nd)) (zj (zHb (zP (zWb hu) (zJ (mv 5) zl) zAf) (zj (zL 1 (mcall zLh zWh hr (za (mv 0) (za (mv 1) (za (mv 4) (za (zJ (mv 5) zl) zd))))) (hN:=sc_laid_more.nd))) (zj (zid (zym (mv 3) (za (zJ (mv 5) zl) zd)))))))) (zj (zC (zic (za (mv 1) (za (zYp T.n_sorted zli T.n_set z7q (mv 3)) zd)))))))
noncomputable abbrev zBc:Stmt:=top 23
noncomputable abbrev zqb:List Str:=["web"]
theorem z9i:FnScope zXf zqb (zm zBc):=⟨rfl,rfl,rfl,by decide +kernel,rfl,by decide +kernel,by decide +kernel⟩
theorem zMi (T:Txt K mg) {zfi:Addr} {z7g:FuncData} (zTd:FnAt K mg "laid_more" zEd zNb zfi z7g) (zge:FnOk P w K mg base CX0 4 zfi z7g zNb (spM K 3 zSd)) {f:Addr} {fd:FuncData} (B:FnAt K mg "laid_at_all" zBc zqb f fd):FnOk P w K mg base CX0 5 f fd zqb (spM K 1 zyc):=by
  refine fnM B.fn z9i rfl (fun cdv A outer s H E hr=>⟨zvc,?_,fun _ _ _ _ _ e=>e⟩)
  have hu:=hr.units
  exact (zj (zC (mcall zTd zge hr (za (mv 0) (za (z7 zNd (zsd (za zZc zd)) (zE zV T.n_len zjc (za (zJ (mv 0) zl) zd))) (za (zgq T.n_list zee T.n_range (zE zV T.n_len zjc (za (zJ (mv 0) zl) zd))) zd))))))
noncomputable abbrev zkg:Stmt:=top 26
noncomputable abbrev zDc:List Str:=["web","nests"]
theorem zap:FnScope zsm zDc (zm zkg):=⟨rfl,rfl,rfl,by decide +kernel,rfl,by decide +kernel,by decide +kernel⟩
theorem zKm (T:Txt K mg) {f:Addr} {fd:FuncData} (B:FnAt K mg "room_of" zkg zDc f fd):FnOk P w K mg base CX0 1 f fd zDc (spM K 2 z0f):=by
  refine fnM B.fn zap rfl (fun cdv A outer s H E hr=>⟨zKf,?_,fun _ _ _ _ _ e=>e⟩)
  have hu:=hr.units
  exact (zj (zC (zE (zQl rfl) T.n_sum zZs (za (mlc ["nest"] [0] (zOb (mv 1)) (fun _ _ _ _ _=>(zZ 0 (hN:=zY (by rfl)))) (fun _ _ _ _ _=>ztg) (fun _ _ _ _ _=>(zJ (zJ (mv 1) zl) (mv 0))) (zbb ⟨_,rfl,rfl⟩ zrc)) zd))))
noncomputable abbrev zSe:Stmt:=top 25
noncomputable abbrev z1b:List Str:=["web","some"]
theorem sc_homes_of:FnScope zRj z1b (zm zSe):=⟨rfl,rfl,rfl,by decide +kernel,rfl,by decide +kernel,by decide +kernel⟩
theorem zVl (T:Txt K mg) {f:Addr} {fd:FuncData} (B:FnAt K mg "homes_of" zSe z1b f fd):FnOk P w K mg base CX0 1 f fd z1b (spM K 2 zWe):=by
  refine fnM B.fn sc_homes_of rfl (fun cdv A outer s H E hr=>⟨zYe,?_,fun _ _ _ _ _ e=>e⟩)
  have hu:=hr.units
  exact (zh (zL 2 (zsd zd) (hN:=sc_homes_of.nd)) (zh (zVb (zOb (mv 1)) (zR 3 (hN:=sc_homes_of.nd)) (zj (zid (zym (mv 2) (za (zJ (zJ (mv 0) zl) (mv 3)) zd))))) (zj (zC (zYp T.n_sorted zli T.n_set z7q (mv 2))))))
noncomputable abbrev zxe:Stmt:=top 28
noncomputable abbrev zZb:List Str:=["web","some"]
theorem zfn:FnScope zUj zZb (zm zxe):=⟨rfl,rfl,rfl,by decide +kernel,rfl,by decide +kernel,by decide +kernel⟩
theorem ztm (T:Txt K mg) {zdm:Addr} {zFj:FuncData} (zfg:FnAt K mg "room_of" zkg zDc zdm zFj) (z0g:FnOk P w K mg base CX0 1 zdm zFj zDc (spM K 2 z0f)) {z1j:Addr} {zRi:FuncData} (zOe:FnAt K mg "homes_of" zSe z1b z1j zRi) (zlf:FnOk P w K mg base CX0 1 z1j zRi z1b (spM K 2 zWe)) {f:Addr} {fd:FuncData} (B:FnAt K mg "is_crowd" zxe zZb f fd):FnOk P w K mg base CX0 2 f fd zZb (spM K 2 zEe):=by
  refine fnM B.fn zfn rfl (fun cdv A outer s H E hr=>⟨zZe,?_,fun _ _ _ _ _ e=>e⟩)
  have hu:=hr.units
  exact (zj (zC (zkh zBi (mcall zfg z0g hr (za (mv 0) (za (mcall zOe zlf hr (za (mv 0) (za (mv 1) zd))) zd))) (zE zV T.n_len zjc (za (mv 1) zd)))))
noncomputable abbrev zCd:Stmt:=top 29
noncomputable abbrev zKb:List Str:=["web","some"]
theorem sc_spare_key:FnScope zOi zKb (zm zCd):=⟨rfl,rfl,rfl,by decide +kernel,rfl,by decide +kernel,by decide +kernel⟩
theorem zfl (T:Txt K mg) {zSj:Addr} {zTi:FuncData} (zue:FnAt K mg "is_crowd" zxe zZb zSj zTi) (zsf:FnOk P w K mg base CX0 2 zSj zTi zZb (spM K 2 zEe)) {f:Addr} {fd:FuncData} (B:FnAt K mg "spare_key" zCd zKb f fd):FnOk P w K mg base CX0 3 f fd zKb (spM K 2 zNc):=by
  refine fnM B.fn sc_spare_key rfl (fun cdv A outer s H E hr=>⟨zGd,?_,fun _ _ _ _ _ e=>e⟩)
  have hu:=hr.units
  exact (zh (zVb (zOb (mv 1)) (zR 2 (hN:=sc_spare_key.nd)) (zj (zHb (zpc (mcall zue zsf hr (za (mv 0) (za (mlc ["other"] [2] (zOb (mv 1)) (fun _ _ _ _ _=>(zZ 0 (hN:=zY (by rfl)))) (fun _ _ _ _ _=>(z2i (zP (zDq hu) (mv 0) (mv 1)))) (fun _ _ _ _ _=>(mv 0)) (zbb ⟨_,rfl,rfl⟩ zrc)) zd)))) (zj (zC (mv 2))) zS))) (zj (zC zZc)))
noncomputable abbrev zRf:Stmt:=top 30
noncomputable abbrev zGc:List Str:=["web","some"]
theorem sc_trimmed:FnScope zAm zGc (zm zRf):=⟨rfl,rfl,rfl,by decide +kernel,rfl,by decide +kernel,by decide +kernel⟩
theorem z1m (T:Txt K mg) {zji:Addr} {znh:FuncData} (zPc:FnAt K mg "spare_key" zCd zKb zji znh) (z9c:FnOk P w K mg base CX0 3 zji znh zKb (spM K 2 zNc)) {f:Addr} {fd:FuncData} (B:FnAt K mg "trimmed" zRf zGc f fd):FnOk P w K mg base CX0 4 f fd zGc (spM K 2 zMf):=by
  refine fnM B.fn sc_trimmed rfl (fun cdv A outer s H E hr=>⟨zdg,?_,fun _ _ _ _ _ e=>e⟩)
  have hu:=hr.units
  exact (zh (zL 2 (zRe zyj T.n_list zee (za (mv 1) zd)) (hN:=sc_trimmed.nd)) (zh (zL 3 (mcall zPc z9c hr (za (mv 0) (za (mv 2) zd))) (hN:=sc_trimmed.nd)) (zh (z4k 100000 (zP zpd (mv 3) zZc) (zh (zid (zdr (mv 2) (za (mv 3) zd))) (zj (zL 3 (mcall zPc z9c hr (za (mv 0) (za (mv 2) zd))) (hN:=sc_trimmed.nd))))) (zj (zC (mv 2))))))
noncomputable abbrev zMh:Stmt:=top 31
noncomputable abbrev zod:List Str:=["web"]
theorem sc_fitted:FnScope z8n zod (zm zMh):=⟨rfl,rfl,rfl,by decide +kernel,rfl,by decide +kernel,by decide +kernel⟩
theorem z4o (T:Txt K mg) {zvg:Addr} {z4e:FuncData} (zzc:FnAt K mg "laid_at_all" zBc zqb zvg z4e) (zhd:FnOk P w K mg base CX0 5 zvg z4e zqb (spM K 1 zyc)) {ztl:Addr} {zKj:FuncData} (zsg:FnAt K mg "trimmed" zRf zGc ztl zKj) (zQg:FnOk P w K mg base CX0 4 ztl zKj zGc (spM K 2 zMf)) {f:Addr} {fd:FuncData} (B:FnAt K mg "fitted" zMh zod f fd):FnOk P w K mg base CX0 6 f fd zod (spM K 1 zFh):=by
  refine fnM B.fn sc_fitted rfl (fun cdv A outer s H E hr=>⟨zCh,?_,fun _ _ _ _ _ e=>e⟩)
  have hu:=hr.units
  exact (zh (zL 1 (mcall zzc zhd hr (za (mv 0) zd)) (hN:=sc_fitted.nd)) (zh (zHb (zP (zWb hu) (zJ (mv 1) zl) (zsd zd)) (zj (zC (zic (za zAf (za (zJ (mv 1) zl) zd))))) zS) (zj (zC (zic (za zAf (za (mcall zsg zQg hr (za (mv 0) (za (zJ (mv 1) zl) zd))) zd)))))))
noncomputable abbrev zqg:Stmt:=top 33
noncomputable abbrev zHc:List Str:=["web","key","nest"]
theorem zpp:FnScope zRl zHc (zm zqg):=⟨rfl,rfl,rfl,by decide +kernel,rfl,by decide +kernel,by decide +kernel⟩
theorem zQm (T:Txt K mg) {f:Addr} {fd:FuncData} (B:FnAt K mg "held_to" zqg zHc f fd):FnOk P w K mg base CX0 1 f fd zHc (spM K 3 zQf):=by
  refine fnM B.fn zpp rfl (fun cdv A outer s H E hr=>⟨z8f,?_,fun _ _ _ _ _ e=>e⟩)
  have hu:=hr.units
  exact (zj (zC (zic (za (zJ (mv 0) zl) (za (z7 z8 (z7 z8 (zOm (zJ (mv 0) zl) zEm (z5h (mv 1))) (zic (za (zic (za (mv 2) (za (mv 2) zd))) zd))) (zOm (zJ (mv 0) zl) (z5h (z7 z8 (mv 1) zl)) zEm)) zd)))))
noncomputable abbrev zLe:Stmt:=top 34
noncomputable abbrev zXb:List Str:=["web","laying","key","nest"]
theorem sc_can_move:FnScope zNj zXb (zm zLe):=⟨rfl,rfl,rfl,by decide +kernel,rfl,by decide +kernel,by decide +kernel⟩
theorem zqm (T:Txt K mg) {zlg:Addr} {zne:FuncData} (zDd:FnAt K mg "put_in" zWf zkc zlg zne) (zld:FnOk P w K mg base CX0 3 zlg zne zkc (spM K 3 z0e)) {zSl:Addr} {zZj:FuncData} (zPf:FnAt K mg "held_to" zqg zHc zSl zZj) (zNg:FnOk P w K mg base CX0 1 zSl zZj zHc (spM K 3 zQf)) {f:Addr} {fd:FuncData} (B:FnAt K mg "can_move" zLe zXb f fd):FnOk P w K mg base CX0 4 f fd zXb (spM K 4 zJe):=by
  refine fnM B.fn sc_can_move rfl (fun cdv A outer s H E hr=>⟨zCe,?_,fun _ _ _ _ _ e=>e⟩)
  have hu:=hr.units
  exact (zh (zL 4 (z7 z8 (z7 z8 (zOm (mv 1) zEm (z5h (mv 2))) (zsd (za zZc zd))) (zOm (mv 1) (z5h (z7 z8 (mv 2) zl)) zEm)) (hN:=sc_can_move.nd)) (zj (zC (zkh (zWb hu) (zJ (mcall zDd zld hr (za (mcall zPf zNg hr (za (mv 0) (za (mv 2) (za (mv 3) zd)))) (za (mv 4) (za (mv 2) zd)))) zl) zAf))))
noncomputable abbrev zzh:Stmt:=top 35
noncomputable abbrev zkd:List Str:=["web"]
theorem sc_places:FnScope zdo zkd (zm zzh):=⟨rfl,rfl,rfl,by decide +kernel,rfl,by decide +kernel,by decide +kernel⟩
theorem zFo (T:Txt K mg) {zmo:Addr} {zpm:FuncData} (zEh:FnAt K mg "fitted" zMh zod zmo zpm) (zhi:FnOk P w K mg base CX0 6 zmo zpm zod (spM K 1 zFh)) {zGj:Addr} {zKi:FuncData} (zTe:FnAt K mg "can_move" zLe zXb zGj zKi) (zkf:FnOk P w K mg base CX0 4 zGj zKi zXb (spM K 4 zJe)) {z4m zKr zro:Addr} {fd_init_NoFit:FuncData} (B_init_NoFit:IniAt K mg "NoFit" "some" "NoFit.__init__" zPb zcb z4m zKr zro fd_init_NoFit) (ok_init_NoFit:FnOk P w K mg base CX0 1 zro fd_init_NoFit zcb (spL z4m "some")) {f:Addr} {fd:FuncData} (B:FnAt K mg "places" zzh zkd f fd):FnOk P w K mg base (CXq P w) 7 f fd zkd (spX K 1 zAh):=by
  refine fnX B.fn sc_places rfl (fun cdv A outer s H E hr=>⟨zJh,?_,fun _ _ _ _ e=>e⟩)
  have hu:=hr.units
  exact (zh (zL 1 (mcall zEh zhi hr (za (mv 0) zd)) (hN:=sc_places.nd)) (zh (zHb (zP (zWb hu) (zJ (mv 1) zl) zAf) (zj (zUp B_init_NoFit.nm B_init_NoFit.ex ok_init_NoFit B_init_NoFit.bd hr (za (zJ (mv 1) zl) zd))) zS) (zh (zL 2 (zsd zd) (hN:=sc_places.nd)) (zh (zVb (znf T.n_enumerate zxb (zJ (mv 0) zl)) (zIl (ztb (zR 3 (hN:=sc_places.nd)) (ztb (zR 4 (hN:=sc_places.nd)) zKg))) (zj (zid (zud (mv 2) (za (mlc ["nest"] [0,1,3] (zOb (zws T.n_sorted zli T.n_set z7q (mv 4))) (fun _ _ _ _ _=>(zZ 0 (hN:=zY (by rfl)))) (fun _ _ _ _ _=>(z2i (zpc (mcall zTe zkf hr (za (mv 1) (za (zJ (mv 2) zl) (za (mv 3) (za (mv 0) zd)))))))) (fun _ _ _ _ _=>(mv 0)) (zbb ⟨_,rfl,rfl⟩ (zbb ⟨_,rfl,rfl⟩ (zbb ⟨_,rfl,rfl⟩ zrc)))) zd))))) (zj (zC (mv 2)))))))
noncomputable abbrev zTc:Stmt:=top 47
noncomputable abbrev zDb:List Str:=["_law_web_here"]
theorem sc__law_heard:FnScope zch zDb (zm zTc):=⟨rfl,rfl,rfl,by decide +kernel,rfl,by decide +kernel,by decide +kernel⟩
theorem zfj (T:Txt K mg) {zJn:Addr} {zbm:FuncData} (zHh:FnAt K mg "places" zzh zkd zJn zbm) (zHi:FnOk P w K mg base (CXq P w) 7 zJn zbm zkd (spX K 1 zAh)) {f:Addr} {fd:FuncData} (B:FnAt K mg "_law_heard" zTc zDb f fd):FnOk P w K mg base CX0 8 f fd zDb (spM K 1 zVc):=by
  obtain ⟨ztn,n_NestError,m_NestError,k_NestError⟩:=T.x_NestError
  refine fnM B.fn sc__law_heard rfl (fun cdv A outer s H E hr=>⟨zXc,?_,fun _ _ _ _ _ e=>e⟩)
  have hu:=hr.units
  exact (zh (zL 1 zZc (hN:=sc__law_heard.nd)) (zh (zL 2 zZc (hN:=sc__law_heard.nd)) (zh (zzv (zIv (zsw 1 zHh zHi hr (za (mv 0) zd) (hN:=sc__law_heard.nd))) (zox 3 [("NoFit",true)] n_NestError k_NestError (T.s_NestError ztn n_NestError) (fun _=>(zj (zL 2 (mv 3) (hN:=sc__law_heard.nd)))) zbu (hN:=sc__law_heard.nd))) (zj (zC (zic (za (mv 1) (za (mv 2) zd))))))))
noncomputable abbrev z4b:Stmt:=top 41
noncomputable abbrev z6:List Str:=["_law_web_here","_law_laying","_law_nest"]
theorem zrl:FnScope zVi z6 (zm z4b):=⟨rfl,rfl,rfl,by decide +kernel,rfl,by decide +kernel,by decide +kernel⟩
theorem zhl (T:Txt K mg) {f:Addr} {fd:FuncData} (B:FnAt K mg "_law_room" z4b z6 f fd):FnOk P w K mg base CX0 1 f fd z6 (spM K 3 zYb):=by
  refine fnM B.fn zrl rfl (fun cdv A outer s H E hr=>⟨zHd,?_,fun _ _ _ _ _ e=>e⟩)
  have hu:=hr.units
  exact (zj (zC (z7 zgk (zJ (zJ (mv 0) zl) (mv 2)) (zE zV T.n_len zjc (za (mlc ["_law_other"] [2] (zOb (mv 1)) (fun _ _ _ _ _=>(zZ 0 (hN:=zY (by rfl)))) (fun _ _ _ _ _=>(z2i (zP (zWb hu) (mv 0) (mv 1)))) (fun _ _ _ _ _=>(mv 0)) (zbb ⟨_,rfl,rfl⟩ zrc)) zd)))))
noncomputable abbrev zpb:Stmt:=top 42
noncomputable abbrev zH:List Str:=["_law_web_here","_law_laying","_law_key","_law_met"]
theorem sc__law_laid_by:FnScope zfd zH (zm zpb):=⟨rfl,rfl,rfl,by decide +kernel,rfl,by decide +kernel,by decide +kernel⟩
theorem zrh (T:Txt K mg) {zAb:Addr} {zkb:FuncData} (zmb:FnAt K mg "_law_room" z4b z6 zAb zkb) (zjb:FnOk P w K mg base CX0 1 zAb zkb z6 (spM K 3 zYb)) {f:Addr} {fd:FuncData} (B:FnAt K mg "_law_laid_by" zpb zH f fd) {n:Nat} {G:FF} (hn:1≤n) (ok:FnOk P w K mg base CX0 n f fd zH (spM K 4 G)):FnOk P w K mg base CX0 (n+1) f fd zH (spM K 4 fun ds μ=>zzb (zGb G (zG zfd ds) μ)):=by
  refine fnM B.fn sc__law_laid_by rfl (fun cdv A outer s H E hr=>⟨zGb G,?_,fun _ _ _ _ _ e=>e⟩)
  have hu:=hr.units
  exact (zh (zVb (zOb (zJ (zJ (mv 0) zl) (mv 2))) (zR 4 (hN:=sc__law_laid_by.nd)) (zj (zHb (zP zje (mv 4) (mv 3)) (zh (zid (zud (mv 3) (za (mv 4) zd))) (zh (zHb (zP ztr (mcall zmb zjb hr (za (mv 0) (za (mv 1) (za (mv 4) zd))) (hj:=hn)) zl) (zh (zxf (mv 4) (zoq (mv 1) (mv 2))) (zj (zC zDf))) zS) (zj (zVb (zOb (mlc ["_law_other"] [1,4] (zUe T.n_range (za (zE zV T.n_len zjc (za (mv 1) zd)) zd)) (fun _ _ _ _ _=>(zZ 0 (hN:=zY (by rfl)))) (fun _ _ _ _ _=>(z2i (zP (zWb hu) (zJ (mv 1) (mv 0)) (mv 2)))) (fun _ _ _ _ _=>(mv 0)) (zbb ⟨_,rfl,rfl⟩ (zbb ⟨_,rfl,rfl⟩ zrc)))) (zR 5 (hN:=sc__law_laid_by.nd)) (zj (zHb (zpc (mcall B ok hr (za (mv 0) (za (mv 1) (za (mv 5) (za (mv 3) zd)))) (hj:=Nat.le_refl _))) (zh (zxf (mv 4) (zoq (mv 1) (mv 2))) (zj (zC zDf))) zS)))))) zS))) (zj (zC zDf)))
theorem z4d (T:Txt K mg) {zAb:Addr} {zkb:FuncData} (zmb:FnAt K mg "_law_room" z4b z6 zAb zkb) (zjb:FnOk P w K mg base CX0 1 zAb zkb z6 (spM K 3 zYb)) {f:Addr} {fd:FuncData} (B:FnAt K mg "_law_laid_by" zpb zH f fd):∀ n,FnOk P w K mg base CX0 (n+1) f fd zH (spM K 4 (zfb n))
  | 0=>⟨fun vs H Q E h=>h.1,fun A outer s H args us vs Q E _ _ _ _ h=>(by obtain ⟨_,_,_,_,_,_,_,_,e,_⟩:=h;cases e)⟩
  | n+1=>zrh T zmb zjb B (Nat.le_add_left _ _) (z4d T zmb zjb B n)
theorem zth (T:Txt K mg) {zAb:Addr} {zkb:FuncData} (zmb:FnAt K mg "_law_room" z4b z6 zAb zkb) (zjb:FnOk P w K mg base CX0 1 zAb zkb z6 (spM K 3 zYb)) {f:Addr} {fd:FuncData} (B:FnAt K mg "_law_laid_by" zpb zH f fd):FnOk P w K mg base CX0 13 f fd zH (spM K 4 zbd):=z4d T zmb zjb B 12
noncomputable abbrev zGe:Stmt:=top 43
noncomputable abbrev z0b:List Str:=["_law_web_here"]
theorem sc__law_fit:FnScope z7j z0b (zm zGe):=⟨rfl,rfl,rfl,by decide +kernel,rfl,by decide +kernel,by decide +kernel⟩
theorem zjl (T:Txt K mg) {z7e:Addr} {zpe:FuncData} (zec:FnAt K mg "_law_laid_by" zpb zH z7e zpe) (zLc:FnOk P w K mg base CX0 13 z7e zpe zH (spM K 4 zbd)) {f:Addr} {fd:FuncData} (B:FnAt K mg "_law_fit" zGe z0b f fd):FnOk P w K mg base CX0 14 f fd z0b (spM K 1 zKe):=by
  refine fnM B.fn sc__law_fit rfl (fun cdv A outer s H E hr=>⟨zze,?_,fun _ _ _ _ _ e=>e⟩)
  have hu:=hr.units
  exact (zh (zL 1 (mlc ["_law_key"] [] (zOb (zJ (mv 0) zl)) (fun _ _ _ _ _=>(zZ 0 (hN:=zY (by rfl)))) (fun _ _ _ _ _=>ztg) (fun _ _ _ _ _=>zZc) zrc) (hN:=sc__law_fit.nd)) (zj (zC (zE (zxm rfl) T.n_all zWs (za (mlc ["_law_key"] [0,1] (zUe T.n_range (za (zE zV T.n_len zjc (za (mv 1) zd)) zd)) (fun _ _ _ _ _=>(zZ 0 (hN:=zY (by rfl)))) (fun _ _ _ _ _=>ztg) (fun _ _ _ _ _=>(mcall zec zLc hr (za (mv 1) (za (mv 2) (za (mv 0) (za (zsd zd) zd)))))) (zbb ⟨_,rfl,rfl⟩ (zbb ⟨_,rfl,rfl⟩ zrc))) zd)))))
noncomputable abbrev zgc:Stmt:=top 46
noncomputable abbrev zib:List Str:=["_law_some","_law_many"]
theorem sc__law_is_some:FnScope zgf zib (zm zgc):=⟨rfl,rfl,rfl,by decide +kernel,rfl,by decide +kernel,by decide +kernel⟩
theorem zwh (T:Txt K mg) {f:Addr} {fd:FuncData} (B:FnAt K mg "_law_is_some" zgc zib f fd):FnOk P w K mg base CX0 1 f fd zib (spM K 2 z8b):=by
  refine fnM B.fn sc__law_is_some rfl (fun cdv A outer s H E hr=>⟨zac,?_,fun _ _ _ _ _ e=>e⟩)
  have hu:=hr.units
  exact (zh (zHb (zhh (zpc (zE (zjg .lst) T.n_isinstance zlb (za (mv 0) (za (zom T.n_list zee) zd))))) (zj (zC zDf)) zS) (zh (zL 2 (z6u zl) (hN:=sc__law_is_some.nd)) (zh (zVb (zOb (mv 0)) (zR 3 (hN:=sc__law_is_some.nd)) (zh (zHb (MW.mt (zsh (zhh (zpc (zE (zjg .int) T.n_isinstance zlb (za (mv 3) (za (zom T.n_int ztv) zd))))) (zsh (zpc (zE (zjg .bl) T.n_isinstance zlb (za (mv 3) (za (zom T.n_bool zru) zd)))) (zsh (zP zlv (mv 3) (mv 2)) (z2f (zP zgt (mv 3) (mv 1))))))) (zj (zC zDf)) zS) (zj (zL 2 (mv 3) (hN:=sc__law_is_some.nd))))) (zj (zC zDf)))))
noncomputable abbrev z8c:Stmt:=top 44
noncomputable abbrev zEb:List Str:=["_law_web_here","_law_some"]
theorem sc__law_homes:FnScope z4g zEb (zm z8c):=⟨rfl,rfl,rfl,by decide +kernel,rfl,by decide +kernel,by decide +kernel⟩
theorem zbj (T:Txt K mg) {f:Addr} {fd:FuncData} (B:FnAt K mg "_law_homes" z8c zEb f fd):FnOk P w K mg base CX0 1 f fd zEb (spM K 2 z1c):=by
  refine fnM B.fn sc__law_homes rfl (fun cdv A outer s H E hr=>⟨z4c,?_,fun _ _ _ _ _ e=>e⟩)
  have hu:=hr.units
  exact (zh (zL 2 (zsd zd) (hN:=sc__law_homes.nd)) (zh (zVb (zOb (mv 1)) (zR 3 (hN:=sc__law_homes.nd)) (zj (zVb (zOb (zJ (zJ (mv 0) zl) (mv 3))) (zR 4 (hN:=sc__law_homes.nd)) (zj (zHb (zP zje (mv 4) (mv 2)) (zj (zid (zud (mv 2) (za (mv 4) zd)))) zS))))) (zj (zC (mv 2)))))
noncomputable abbrev zAc:Stmt:=top 45
noncomputable abbrev zrb:List Str:=["_law_web_here","_law_some"]
theorem zcj:FnScope zNf zrb (zm zAc):=⟨rfl,rfl,rfl,by decide +kernel,rfl,by decide +kernel,by decide +kernel⟩
theorem zSi (T:Txt K mg) {z5g:Addr} {zYf:FuncData} (z5c:FnAt K mg "_law_homes" z8c zEb z5g zYf) (zAd:FnOk P w K mg base CX0 1 z5g zYf zEb (spM K 2 z1c)) {f:Addr} {fd:FuncData} (B:FnAt K mg "_law_excess" zAc zrb f fd):FnOk P w K mg base CX0 2 f fd zrb (spM K 2 zTb):=by
  refine fnM B.fn zcj rfl (fun cdv A outer s H E hr=>⟨zuc,?_,fun _ _ _ _ _ e=>e⟩)
  have hu:=hr.units
  exact (zj (zC (z7 zgk (zE zV T.n_len zjc (za (mv 1) zd)) (zE (zQl rfl) T.n_sum zZs (za (mlc ["_law_nest"] [0] (zOb (mcall z5c zAd hr (za (mv 0) (za (mv 1) zd)))) (fun _ _ _ _ _=>(zZ 0 (hN:=zY (by rfl)))) (fun _ _ _ _ _=>ztg) (fun _ _ _ _ _=>(zJ (zJ (mv 1) zl) (mv 0))) (zbb ⟨_,rfl,rfl⟩ zrc)) zd)))))
noncomputable abbrev zfc:Stmt:=top 48
noncomputable abbrev zhb:List Str:=["_law_web_here","_law_kept"]
theorem sc__law_refused:FnScope zdf zhb (zm zfc):=⟨rfl,rfl,rfl,by decide +kernel,rfl,by decide +kernel,by decide +kernel⟩
theorem zxh (T:Txt K mg) {z6e:Addr} {zre:FuncData} (zcc:FnAt K mg "_law_is_some" zgc zib z6e zre) (zIc:FnOk P w K mg base CX0 1 z6e zre zib (spM K 2 z8b)) {zug:Addr} {z5e:FuncData} (zRb:FnAt K mg "_law_excess" zAc zrb zug z5e) (zdc:FnOk P w K mg base CX0 2 zug z5e zrb (spM K 2 zTb)) {f:Addr} {fd:FuncData} (B:FnAt K mg "_law_refused" zfc zhb f fd):FnOk P w K mg base CX0 3 f fd zhb (spM K 2 z5b):=by
  obtain ⟨z4m,n_NoFit,m_NoFit,k_NoFit⟩:=T.x_NoFit
  obtain ⟨z5w,n_Twice,m_Twice,k_Twice⟩:=T.x_Twice
  obtain ⟨zCw,n_NoText,m_NoText,k_NoText⟩:=T.x_NoText
  obtain ⟨zFw,n_NoRule,m_NoRule,k_NoRule⟩:=T.x_NoRule
  obtain ⟨zJw,n_NoRow,m_NoRow,k_NoRow⟩:=T.x_NoRow
  obtain ⟨zzw,n_NoPush,m_NoPush,k_NoPush⟩:=T.x_NoPush
  obtain ⟨zRv,n_NoPairs,m_NoPairs,k_NoPairs⟩:=T.x_NoPairs
  obtain ⟨zUw,n_NoKey,m_NoKey,k_NoKey⟩:=T.x_NoKey
  obtain ⟨zAx,n_Full,m_Full,k_Full⟩:=T.x_Full
  refine fnM B.fn sc__law_refused rfl (fun cdv A outer s H E hr=>⟨z6b,?_,fun _ _ _ _ _ e=>e⟩)
  have hu:=hr.units
  exact (zh (zHb (MW.mt (zsh (zhh (zpc (zE (z0i T.kit) T.n_isinstance zlb (za (mv 1) (za (zzg n_NoFit m_NoFit) zd))))) (z2f (zhh (zpc (zE (z0i T.kit) T.n_isinstance zlb (za (mv 1) (za (zom T.n_ValueError zbl) zd)))))))) (zj (zC zDf)) zS) (zh (zHb (zpc (zE (z0i T.kit) T.n_isinstance zlb (za (mv 1) (za (zic (za (zzg n_Full m_Full) (za (zzg n_NoKey m_NoKey) (za (zzg n_NoPairs m_NoPairs) (za (zzg n_NoPush m_NoPush) (za (zzg n_NoRow m_NoRow) (za (zzg n_NoRule m_NoRule) (za (zzg n_NoText m_NoText) (za (zzg n_Twice m_Twice) zd))))))))) zd)))) (zj (zC zDf)) zS) (zh (zL 2 (zRu T.a_NoFit (mv 1)) (hN:=sc__law_refused.nd)) (zh (zHb (MW.mt (zsh (zhh (zpc (mcall zcc zIc hr (za (mv 2) (za (zE zV T.n_len zjc (za (zJ (mv 0) zl) zd)) zd))))) (z2f (zP zBi (mcall zRb zdc hr (za (mv 0) (za (mv 2) zd))) zl)))) (zj (zC zDf)) zS) (zj (zC (zE (zxm rfl) T.n_all zWs (za (mlc ["_law_key"] [0,2] (zOb (mv 2)) (fun _ _ _ _ _=>(zZ 0 (hN:=zY (by rfl)))) (fun _ _ _ _ _=>ztg) (fun _ _ _ _ _=>(zkh zBi (mcall zRb zdc hr (za (mv 1) (za (mlc ["_law_one"] [0] (zOb (mv 2)) (fun _ _ _ _ _=>(zZ 0 (hN:=zY (by rfl)))) (fun _ _ _ _ _=>(z2i (zP (zDq hu) (mv 0) (mv 1)))) (fun _ _ _ _ _=>(mv 0)) (zbb ⟨_,rfl,rfl⟩ zrc)) zd))) zl)) (zbb ⟨_,rfl,rfl⟩ (zbb ⟨_,rfl,rfl⟩ zrc))) zd))))))))
noncomputable abbrev zyn:Stmt:=top 49
noncomputable abbrev zAn:List Str:=["_law_script"]
theorem sc_law:FnScope z0v zAn (zm zyn):=⟨rfl,rfl,rfl,by decide +kernel,rfl,by decide +kernel,by decide +kernel⟩
theorem z4t (T:Txt K mg) {zBj:Addr} {zdi:FuncData} (zVe:FnAt K mg "_law_web" zwe z3b zBj zdi) (zif:FnOk P w K mg base CX0 3 zBj zdi z3b (spM K 2 zHe)) {zbk:Addr} {zoi:FuncData} (zye:FnAt K mg "_law_pen" zFe z2b zbk zoi) (zmf:FnOk P w K mg base CX0 1 zbk zoi z2b (spM K 1 zPe)) {zmh:Addr} {zIf:FuncData} (zad:FnAt K mg "_law_heard" zTc zDb zmh zIf) (zPd:FnOk P w K mg base CX0 8 zmh zIf zDb (spM K 1 zVc)) {zmj:Addr} {z9h:FuncData} (zBe:FnAt K mg "_law_fit" zGe z0b zmj z9h) (zuf:FnOk P w K mg base CX0 14 zmj z9h z0b (spM K 1 zKe)) {zaf:Addr} {zfe:FuncData} (z9b:FnAt K mg "_law_refused" zfc zhb zaf zfe) (zJc:FnOk P w K mg base CX0 3 zaf zfe zhb (spM K 2 z5b)) {f:Addr} {fd:FuncData} (B:FnAt K mg "law" zyn zAn f fd):FnOk P w K mg base CX0 15 f fd zAn (spM K 1 zrp):=by
  refine fnM B.fn sc_law rfl (fun cdv A outer s H E hr=>⟨zRr,?_,fun _ _ _ _ _ e=>e⟩)
  have hu:=hr.units
  exact (zh (zL 1 (mcall zVe zif hr (za (mcall zye zmf hr (za (mv 0) zd)) (za zl zd))) (hN:=sc_law.nd)) (zh (zVb (zUe T.n_range (za zl zd)) (zR 2 (hN:=sc_law.nd)) (zh (zxf (mcall zad zPd hr (za (mv 1) zd)) (zIl (ztb (zR 3 (hN:=sc_law.nd)) (ztb (zR 4 (hN:=sc_law.nd)) zKg)))) (zj (zHb (zpc (mcall zBe zuf hr (za (mv 1) zd))) (zj (zHb (MW.mt (zsh (zP zpd (mv 4) zZc) (zsh (zhh (zpc (zE (zjg .lst) T.n_isinstance zlb (za (mv 3) (za (zom T.n_list zee) zd))))) (z2f (zP (zDq hu) (zE zV T.n_len zjc (za (mv 3) zd)) (zE zV T.n_len zjc (za (zJ (mv 1) zl) zd))))))) (zj (zC zDf)) zS)) (zj (zHb (MW.mt (zsh (zP zpd (mv 3) zZc) (z2f (zhh (zpc (mcall z9b zJc hr (za (mv 1) (za (mv 4) zd)))))))) (zj (zC zDf)) (zj (zid (zus (zRu T.a_NoFit (mv 4))))))))))) (zj (zC zDf))))
end
end P
namespace P
open PySem PySem.Spec PyProof.Rows L2 M
set_option maxHeartbeats 4000000
variable {R:List Nat} {K:List (List Nat)} {μ:Mem} {Q:D→Mem→Prop}
theorem zQi {xs:List D} {i:Nat}:M.cutD xs none (some (i:Int))=xs.take i:=by
  unfold M.cutD
  rw [HT.sIx_none,HT.sIx_nat,List.drop_zero,Nat.sub_zero]
  rcases Nat.le_total i xs.length with h | h
  · rw [Nat.min_eq_left h]
  · rw [Nat.min_eq_right h,take_length,List.take_of_length_le h]
theorem zhk {xs:List D} {i:Nat}:M.cutD xs (some (i:Int)) none=xs.drop i:=by
  unfold M.cutD
  rw [HT.sIx_none,HT.sIx_nat]
  rcases Nat.le_total i xs.length with h | h
  · rw [Nat.min_eq_left h,List.take_of_length_le (by simp)]
  · rw [Nat.min_eq_right h,Nat.sub_self,List.take_zero,List.drop_eq_nil_of_le h]
local macro_rules | `(tactic| walk_at "w") => `(tactic| first
  | refine zr ?_ | refine zdb ?_ | refine z5i ?_ | refine zab ?_ | refine zoe ?_ | refine z1e ?_ | refine z9 ?_ | refine zLd ?_
  | refine zb rfl ?_ | refine w_c ?_ | refine zk ?_ | refine zp ?_ | refine zc ?_ | refine zn ?_ | refine zMd ?_ | refine zcg ?_ | refine zow ?_ | refine zAl ?_ | refine zph ?_ | refine zwx ?_ | refine zIx ?_ | refine w_not ?_ | refine ziv ?_ | refine z8d ?_ | refine zil ?_ | refine zUn ?_ | refine z1w ?_
  | refine zA ?_ | refine zxp ?_ | refine zTg ?_ | refine zhg ?_ | refine zuu ?_ | refine zrf ?_ | refine zoc ?_ | refine zYh ?_ | refine znx ?_ | refine zlc ?_ | refine zvh ?_
  | refine zde ?_ | refine zep ?_ | refine zVk (by first | decide | omega) ?_ | refine zYr (by first | decide | omega) (by first | decide | omega) ?_ | refine z6f ?_ | refine zgj ?_ | refine z1t ?_ | refine z3w ?_ | refine z0r ?_ | refine z9u (by decide) (by decide) (by decide) ?_ | refine zjv ?_ | refine zkv ?_ | refine zSv ?_ | refine zUu ?_
  | refine zbe rfl ?_ | refine zMq rfl ?_ | refine z6k rfl ?_ | with_reducible refine ⟨_,rfl,?_⟩)
local macro_rules | `(tactic| walk_at "om") => `(tactic| first | omega | (simp only [length_map, length_range, Int.toNat_natCast, length_append, length_cons, List.length_nil] at *; omega) | (simp <;> omega))
structure WebA (L:Int) (rooms:List Int) (ks:List (List Int)):Prop where
  rl:1≤rooms.length∧rooms.length≤10
  rn:∀ r∈rooms,0≤r
  kl:ks.length≤L
  kn:∀ k∈ks,(2≤k.length∧k.length≤3)∧∀ i∈k,0≤i∧i<rooms.length
theorem zbt {ds:List D} {i:Int} (h0:0≤i) (h1:i<ds.length):∃ d,d∈ds∧ds[i.toNat]?=some d∧atI ds i=some d:=by
  have hi:i.toNat<ds.length:=by omega
  refine ⟨ds[i.toNat],getElem_mem hi,by simp [hi],?_⟩
  have:=zYd (xs:=ds) (j:=i.toNat) (v:=ds[i.toNat]) (by simp [hi])
  rw [Int.toNat_of_nonneg h0] at this
  exact this
def PenC (ns:List Int) (μ:Mem) (l B:Nat):Prop:=∃ (b:Bool) (k:Nat) (r:Int),k≤B∧μ[l]?=some (.lst [.fz (ns.map .int), .bl b, .int (k:Nat), .int r])
section
variable {ns:List Int}
theorem PenC.kb {μ μ':Mem} {L:List Nat} {l B:Nat} (h:PenC ns μ l B) (k:KB L μ μ') (hl:l∉L):PenC ns μ' l B:=by
  obtain ⟨b,j,r,hj,e⟩:=h
  exact ⟨b,j,r,hj,k.at_ _ _ hl e⟩
theorem PenC.app {μ g:Mem} {l B:Nat} (h:PenC ns μ l B):PenC ns (μ ++ g) l B:=h.kb (L:=[]) (KB.refl.app) (by simp)
theorem PenC.lt {l B:Nat} (h:PenC ns μ l B):l < μ.length:=by
  obtain ⟨b,j,r,hj,e⟩:=h
  exact zz e
theorem PenC.set {l m B:Nat} {o:LObj} (h:PenC ns μ l B) (hne:m≠l):PenC ns (μ.set m o) l B:=by
  obtain ⟨b,j,r,hj,e⟩:=h
  exact ⟨b,j,r,hj,zI e hne⟩
theorem PenC.up {l B B':Nat} (h:PenC ns μ l B) (hb:B≤B'):PenC ns μ l B':=by
  obtain ⟨b,j,r,hj,e⟩:=h
  exact ⟨b,j,r,by first|decide|omega,e⟩
theorem zOt (q:∀ μ',Keep μ μ'→PenC ns μ' μ.length 0→μ'.length = μ.length+1→Q (.loc μ.length) μ'):WF zPe [.fz (ns.map .int)] μ Q:=by
  refine zFb rfl ?_
  show WS zMe [some (.fz (ns.map .int))] μ _ _ _ _
  unfold zMe
  refine zab (zcg (zc (zb rfl (zc (zIx (zk (zp (zc (zb rfl (zn (zbe rfl (w_c (zgj ⟨_,rfl,fun h=>?_,fun h=>?_⟩)))))))))))))
  · have h0:ns≠[]:=by
      rintro rfl
      simp at h
    obtain ⟨n,ns',rfl⟩:=List.exists_cons_of_ne_nil h0
    refine zk (zk (zk (zb rfl (w_c (zRc rfl (zYd (j:=0) (v:=D.int n) rfl) (w_c (zVk (by first|decide|omega) (w_c (zgj ?_)))))))))
    exact zc (w_c (zc (w_c (zn (q _ .app ⟨_,0,0,Nat.le_refl _,zt⟩ (by simp))))))
  · exact zc (w_c (zc (w_c (zn (q _ .app ⟨_,0,0,Nat.le_refl _,zt⟩ (by simp))))))
theorem zTp {k:Nat} (hk:k≤1000000) (q:∀ v:Int,Q (.int v) μ):WF zUc [.fz (ns.map .int), .int (k:Nat)] μ Q:=by
  refine zFb rfl ?_
  show WS zYc [some (.fz (ns.map .int)),some (.int (k:Nat)),none,none,none] μ _ _ _ _
  unfold zYc
  have mk:∀ {i:Int},z2h i (k:Nat)=true:=fun {i}=>by
    unfold z2h
    rw [decide_eq_true (show -(2 ^ 64)<((k:Nat):Int)∧((k:Nat):Int)<2 ^ 64 by first|decide|omega)]
    simp
  have rest:∀ c:Int,WS (zX (zbc 3 (zu z9m (zu zWd (zu zii (zu zWd (zu zWd (zi 2) (zu zii (fC (.int 40503)) (zi 1))) (fC (.int 1))) (fC (.int 48271))) (zu zii (zi 1) (zi 1))) (fC (.int 2147483647)))) (zX (zbc 4 (zu z9m (zu zWd (zu zWd (zu zii (zi 3) (zi 3)) (zu zii (fC (.int 69621)) (zi 3))) (zu zii (fC (.int 31)) (zi 1))) (fC (.int 2147483629)))) (zUb (zu z9m (zu zWd (zu zWd (zu zii (zi 4) (zi 4)) (zu zii (fC (.int 16807)) (zi 4))) (zi 1)) (fC (.int 1073741789)))))) [some (.fz (ns.map .int)),some (.int (k:Nat)),some (.int c),none,none] μ (fun _ μ'=>Q .non μ') Q (fun _ _=>False) (fun _ _=>False):=fun c=>by
    refine zr (zdb (zk (zk (zk (zk (zk (zb rfl (zk (w_c (zb rfl (z0l mk (zde (w_c (zde (w_c (z0l (by unfold z2h;simp) (zk (zb rfl (zb rfl (z0l mk (zde (w_c (zVk (by first|decide|omega) ?_)))))))))))))))))))))))
    have h1:∀ x:Int,0≤x % 2147483647∧x % 2147483647<2147483647:=fun x=>⟨Int.emod_nonneg _ (by first|decide|omega),Int.emod_lt_of_pos _ (by first|decide|omega)⟩
    obtain ⟨a1,b1⟩:=h1 ((c+40503 * (k:Nat)+1) * 48271+(k:Nat) * (k:Nat))
    generalize ((c+40503 * ((k:Nat):Int)+1) * 48271+((k:Nat):Int) * ((k:Nat):Int)) % 2147483647=x at a1 b1
    have mx:∀ {i:Int},z2h i x=true:=fun {i}=>by
      unfold z2h
      rw [decide_eq_true (show -(2 ^ 64)<x∧x<2 ^ 64 by first|decide|omega)]
      simp
    refine zr (zdb (zk (zk (zk (zk (zb rfl (zb rfl (z0l mx (zk (w_c (zb rfl (z0l mx (zde (zk (w_c (zb rfl (z0l mk (zde (w_c (zVk (by first|decide|omega) ?_))))))))))))))))))))
    have h2:∀ y:Int,0≤y % 2147483629∧y % 2147483629<2147483629:=fun y=>⟨Int.emod_nonneg _ (by first|decide|omega),Int.emod_lt_of_pos _ (by first|decide|omega)⟩
    obtain ⟨a2,b2⟩:=h2 (x * x+69621 * x+31 * (k:Nat))
    generalize (x * x+69621 * x+31 * ((k:Nat):Int)) % 2147483629=y at a2 b2
    have my:∀ {i:Int},z2h i y=true:=fun {i}=>by
      unfold z2h
      rw [decide_eq_true (show -(2 ^ 64)<y∧y<2 ^ 64 by first|decide|omega)]
      simp
    exact zab (zk (zk (zk (zk (zb rfl (zb rfl (z0l my (zk (w_c (zb rfl (z0l my (zde (zb rfl (zde (w_c (zVk (by first|decide|omega) (q _)))))))))))))))))
  refine zr (zdb (w_c ?_))
  refine zr (z1e (zA (zk (zp (zc (zb rfl (zn (zbe rfl (w_c (z6f ⟨_,rfl,fun h2=>?_,fun h2=>z9 (rest _)⟩))))))))))
  have h2:=of_decide_eq_true h2
  obtain ⟨d,hm,_,ha⟩:=zbt (ds:=ns.map .int) (i:=(k:Nat) % ((ns.map D.int).length:Int)) (Int.emod_nonneg _ (by first|decide|omega)) (Int.emod_lt_of_pos _ h2)
  obtain ⟨v,_,rfl⟩:=List.mem_map.mp hm
  exact zdb (zk (zb rfl (zk (zb rfl (zp (zc (zb rfl (zn (zbe rfl (zVk h2 (zRc rfl ha (rest _))))))))))))
theorem z3v {gs:FGs} {P:M.Loc→Mem→Prop} {a b c d:D} {l:Nat} {δ:M.Loc} (e:μ[l]?=some (.lst [a,b,c,d])) (h:WGs gs [a,b,c,d] δ μ P):WG (gTL 4 gs) (.loc l) δ μ P:=by
  obtain ⟨δ1,μ1,e1,q⟩:=h
  refine ⟨δ1,μ1,?_,q⟩
  unfold gTL
  dsimp only
  rw [e]
  exact e1
theorem znk {l B:Nat} {s:Int} (h:PenC ns μ l B) (hB:B≤1000000) (h0:0<s) (h1:s<1606938044258990275541962092341162602522202993782792835301376)
    (q:∀ v μ',0≤v→v<s→KB [l] μ μ'→μ'.length = μ.length→PenC ns μ' l (B+1)→Q (.int v) μ'):WF zB [.loc l, .int s] μ Q:=by
  obtain ⟨b,k,r,hk,e⟩:=h
  have hlt:=zz e
  refine zFb rfl ?_
  show WS zZd [some (.loc l),some (.int s),none,none,none,none] μ _ _ _ _
  unfold zZd
  refine zr (z5i (zb rfl (z3v e (zlc (zoc (zlc (zoc (zlc (zoc (zlc (zoc (zvh ?_))))))))))))
  refine zr (z5i (zk (zb rfl (w_c (zde ?_)))))
  refine zZp (zb rfl (w_c ⟨_,_,_,rfl,rfl,e,⟨by first|decide|omega,by simp⟩,?_⟩))
  show WS _ _ (μ.set l (.lst [.fz (ns.map .int), .bl b, .int (((k:Nat):Int)+1), .int r])) _ _ _ _
  have e2:(μ.set l (LObj.lst [.fz (ns.map .int), .bl b, .int (((k:Nat):Int)+1), .int r]))[l]?=some (.lst [.fz (ns.map .int), .bl b, .int ((k+1:Nat):Int), .int r]):=zK e
  have k2:KB [l] μ (μ.set l (LObj.lst [.fz (ns.map .int), .bl b, .int (((k:Nat):Int)+1), .int r])):=KB.refl.set (.inl (by simp))
  have l2:(μ.set l (LObj.lst [.fz (ns.map .int), .bl b, .int (((k:Nat):Int)+1), .int r])).length = μ.length:=by simp
  generalize μ.set l (LObj.lst [.fz (ns.map .int), .bl b, .int (((k:Nat):Int)+1), .int r]) = μ2 at e2 k2 l2
  refine zr (z1e (zA (zb rfl ⟨_,rfl,fun hb=>?_,fun hb=>z9 ?_⟩)))
  · refine zab (zk (zp (zc (zb rfl (zc (zb rfl (zn ?_))))))) 
    refine zTp (by first|decide|omega) fun v=>zb rfl (zVk h0 ?_)
    exact q _ _ (Int.emod_nonneg _ (by first|decide|omega)) (Int.emod_lt_of_pos _ h0) k2 l2 ⟨b,k+1,r,by first|decide|omega,e2⟩
  · have last:∀ r':Int,WS (zX (z8o (zu zTt (zi 5) (zi 1)) (gAt (zi 0) (fC (.int 3)))) (zUb (zu z9m (zi 5) (zi 1)))) [some (.loc l),some (.int s),some (.fz (ns.map .int)),some (.bl b),some (.int (k:Nat)),some (.int r')] μ2 (fun _ μ'=>Q .non μ') Q (fun _ _=>False) (fun _ _=>False):=fun r'=>by
      refine zr (z5i (zk (zb rfl (zb rfl (zYr h0 h1 ?_)))))
      refine zZp (zb rfl (w_c ⟨_,_,_,rfl,rfl,e2,⟨by first|decide|omega,by simp⟩,?_⟩))
      show WS _ _ (μ2.set l (.lst [.fz (ns.map .int), .bl b, .int ((k+1:Nat):Int), .int (r' / s)])) _ _ _ _
      refine zab (zk (zb rfl (zb rfl (zVk h0 ?_))))
      exact q _ _ (Int.emod_nonneg _ (by first|decide|omega)) (Int.emod_lt_of_pos _ h0) (k2.trans (KB.refl.set (.inl (by simp)))) (by simp [l2]) ⟨b,k+1,r' / s,by first|decide|omega,zK e2⟩
    refine zr (z1e (zA (zk (zk (zb rfl (w_c (zVk (by first|decide|omega) (w_c (zgj ⟨_,rfl,fun hz=>?_,fun hz=>z9 (last r)⟩)))))))))
    refine zr (zdb (w_c ?_))
    refine z1e (zA (zk (zk (zk (zb rfl (w_c (zYr (by first|decide|omega) (by first|decide|omega) (w_c (zde (zp (zc (zb rfl (zn (zbe rfl (z6f ⟨_,rfl,fun h2=>?_,fun h2=>z9 (last 0)⟩)))))))))))))))
    have h2:=of_decide_eq_true h2
    obtain ⟨d,hm,_,ha⟩:=zbt (ds:=ns.map .int) (i:=((k:Nat):Int) / 60+1) (by first|decide|omega) h2
    obtain ⟨v,_,rfl⟩:=List.mem_map.mp hm
    exact zdb (zk (zb rfl (zk (zk (zb rfl (w_c (zYr (by first|decide|omega) (by first|decide|omega) (w_c (zde (zRc rfl ha (last v)))))))))))
theorem zlo {l s B:Nat} {m:Nat} {φ:FE} {δ:M.Loc} (hp:PenC ns μ l B)
    (he:∀ (k:Nat) (μ':Mem) (Q':D→Mem→Prop),k<m→PenC ns μ' l (B+k)→KB [l] μ μ'→(∀ v μ'',0≤v→v<(s:Int)→KB [l] μ' μ''→PenC ns μ'' l (B+k+1)→Q' (.int v) μ'')→WE φ (δ.set 0 (some (.int k))) μ' Q')
    (q:∀ (S:List Nat) (μ':Mem),S.length=m→(∀ h∈S,h<s)→KB [l] μ μ'→PenC ns μ' l (B+m)→Q (.loc μ'.length) (μ' ++ [.lst (nat S)])) :
    WL (gN 0) zzo φ yes δ ((List.range m).map fun (k:Nat) => .int k) [] μ Q:=by
  refine zan (fun i ys μ'=>∃ S:List Nat,ys=nat S∧S.length=i∧(∀ h∈S,h<s)∧KB [l] μ μ'∧PenC ns μ' l (B+i)) ⟨[],rfl,rfl,by simp, .refl,hp⟩ (fun _ _ _ _=>rfl) ?_ ?_
  · rintro i x ys μ' hx ⟨S,rfl,hl,hS,k,p⟩
    obtain ⟨hi,rfl⟩:=zCk hx
    refine zoc (zuu ⟨fun _=>?_,fun hf=>(by cases hf)⟩)
    refine he i μ' _ hi p k fun v μ'' a b k' p'=>?_
    obtain ⟨v,rfl⟩:=Int.eq_ofNat_of_zero_le a
    refine ⟨S ++ [v],by rw [zCc];rfl,by simp [hl],fun h hh=>?_,k.trans k',p'⟩
    rcases List.mem_append.mp hh with hh | hh
    · exact hS h hh
    · rw [List.mem_singleton.mp hh];omega
  · rintro ys μ' ⟨S,rfl,hl,hS,k,p⟩
    simp only [length_map,length_range] at hl p
    exact q S μ' hl hS k p
end
noncomputable abbrev tn (ns:List Nat):D := .tup (nat ns)
noncomputable abbrev wn (R:List Nat) (K:List (List Nat)):D := .tup [tn R, .tup (K.map tn)]
structure Wb (L:Nat) (R:List Nat) (K:List (List Nat)):Prop where
  rl:1≤R.length∧R.length≤10
  kl:K.length≤L
  kn:∀ k∈K,(2≤k.length∧k.length≤3)∧∀ h∈k,h<R.length
theorem Wb.key {L:Nat} (w:Wb L R K) {k:Nat} (h:k<K.length):(2≤(K.getD k []).length∧(K.getD k []).length≤3)∧∀ x∈K.getD k [],x<R.length:=by
  have:K.getD k []=K[k]:=by simp [h]
  rw [this]
  exact w.kn _ (getElem_mem h)
theorem zDg (q:Q (tn R) μ):W2 gIx (wn R K) (.int 0) μ Q:=zRc rfl (show atI [tn R, .tup (K.map tn)] 0=some (tn R) from rfl) q
theorem zOc (q:Q (.tup (K.map tn)) μ):W2 gIx (wn R K) (.int 1) μ Q:=zRc rfl (show atI [tn R, .tup (K.map tn)] 1=some (.tup (K.map tn)) from rfl) q
theorem z0m {k:Nat} (h:k<K.length) (q:Q (tn (K.getD k [])) μ):W2 gIx (.tup (K.map tn)) (.int k) μ Q :=
  zRc rfl (zYd (v:=tn (K.getD k [])) (by simp [h])) q
theorem zmq {k:Nat} (h:k<R.length) (q:Q (.int (R.getD k 0:Nat)) μ):W2 gIx (tn R) (.int k) μ Q:=zRc rfl (zVn h) q
theorem zHr {xs:List Nat} {i:Nat} {d:Nat} (h:i<xs.length):M.cutD (nat xs) none (some (i:Int)) ++ [D.int (d:Nat)]++M.cutD (nat xs) (some ((i:Int)+1)) none=nat (xs.set i d):=by
  have e1:=zQi (xs:=nat xs) (i:=i)
  have e2:=zhk (xs:=nat xs) (i:=i+1)
  have e3:(((i+1:Nat)):Int)=(i:Int)+1:=by omega
  rw [e3] at e2
  rw [e1,e2]
  show (xs.map _).take i ++ [_]++(xs.map _).drop (i+1)=(xs.set i d).map _
  rw [List.set_eq_take_append_cons_drop,if_pos h,map_append,map_cons,List.map_take,List.map_drop]
  simp
theorem zwc {ns:List Int} {l B s:Nat} (h:PenC ns μ l B) (hB:B≤1000000) (h0:0<s) (h1:s≤1000) (q:∀ (v:Nat) (μ':Mem),v<s→KB [l] μ μ'→PenC ns μ' l (B+1)→Q (.int (v:Nat)) μ'):WF zB [.loc l, .int (s:Nat)] μ Q :=
  znk h hB (by first|decide|omega) (by first|decide|omega) fun v μ' a b k _ p=>by
    obtain ⟨v,rfl⟩:=Int.eq_ofNat_of_zero_le a
    exact q v μ' (by first|decide|omega) k p
theorem nin1 {a l:Nat} (h:l≠a):a∉[l]:=fun hm=>h (List.mem_singleton.mp hm).symm
theorem PenC.new {ns:List Int} {l B:Nat} (h:PenC ns μ l B):μ.length∉[l]:=nin1 (Nat.ne_of_lt h.lt)
theorem up100 {B k:Nat} (hB:B≤200000) (hk:k≤100):B+k≤1000000:=by omega
theorem zMl {ns:List Int} {l B N m:Nat} {x3 x5:Option D} {ν:Mem} (hB:B≤200000) (h1:0<N) (hN:N≤10) (hm:0<m) (hm31:m≤31) (hR:R.length=N) (p:PenC ns ν l B) (q:∀ R K μ',Wb (m - 1) R K→KB [l] ν μ'→PenC ns μ' l (B+200)→Q (wn R K) μ') :
    WS (zX (zbc 6 (zcl zD)) (zX (zti (z7d (ze (zy zB (ze (zi 0) (ze (zi 1) zD))) zD)) (gN 7) z2c) (zUb (z3i (ze (zi 4) (ze (zy zcf (ze (zi 6) zD)) zD)))))) [some (.loc l),some (.int (m:Nat)),some (.int (N:Nat)),x3,some (tn R),x5,none,none,none] ν (fun _ μ'=>Q .non μ') Q (fun _ _=>False) (fun _ _=>False):=by
  have hlc:l≠ν.length:=Nat.ne_of_lt p.lt
  refine zr (zdb (zcg (zn ?_)))
  have pa:=p.app (g:=[LObj.lst []])
  have ka:KB [l] ν (ν ++ [LObj.lst []]):=KB.refl.app
  have ga:(ν ++ [LObj.lst []])[ν.length]?=some (.lst []):=zt
  generalize ν ++ [LObj.lst []] = νa at pa ka ga
  generalize hcc:ν.length=c at ga hlc
  refine zr (zLd (zrf (zc (zp (zc (zb rfl (zc (zb rfl (zn ?_)))))))))
  refine zwc pa (up100 (k:=0) hB (by decide)) hm (Nat.le_trans hm31 (by decide)) fun t νb b0 kb pb=>zn ⟨_,rfl,Int.natCast_nonneg _,by first|decide|omega,?_⟩
  rw [Int.toNat_natCast]
  have ht:t≤m - 1:=by omega
  have ht30:t≤30:=by omega
  refine zsb (fun i δ μ=>∃ (K:List (List Nat)) (y z:Option D),δ = [some (.loc l),some (.int (m:Nat)),some (.int (N:Nat)),x3,some (tn R),x5,some (.loc c),y,z]∧K.length=i∧(∀ k∈K,(2≤k.length∧k.length≤3)∧∀ h∈k,h<N)∧KB [l] ν μ∧PenC ns μ l (B+1+4 * i)∧μ[c]?=some (.lst (K.map tn)))
    ⟨[],_,_,rfl,rfl,by simp,ka.trans kb,pb,kb.at_ _ _ (nin1 hlc) ga⟩ (fun _ _ _ _=>rfl) ?_ ?_
  · rintro i z0 δ ν1 hz ⟨K,y,z,rfl,hKl,hK,kk,pp,gg⟩
    obtain ⟨hi,rfl⟩:=zCk hz
    have hi30:i<30:=by omega
    have hB1:B+1+4 * i≤300000:=by omega
    clear hz hi ht ht30 hm31 hm b0
    refine zoc ?_
    unfold z2c
    refine zr (zdb (zk (w_c (zp (zc (zb rfl (zc (w_c (zn ?_)))))))))
    refine zwc (s:=2) pp (Nat.le_trans hB1 (by decide)) (by decide) (by decide) fun v ν2 b2 k2 p2=>zde ?_
    have hv:(2:Int)+(v:Nat)=((2+v:Nat):Int):=by omega
    rw [hv]
    have hz:2≤2+v∧2+v≤3:=by omega
    clear hv b2
    generalize 2+v=z at hz
    have g2:=k2.at_ _ _ (nin1 hlc) gg
    refine zoe (z8d (zb rfl ⟨_,_,rfl,g2,?_⟩))
    refine zc (zp (zc (zil (zrf (zc (zb rfl (zn ⟨_,rfl,Int.natCast_nonneg _,by first|decide|omega,zhc (by simp;omega),?_⟩)))))))
    rw [Int.toNat_natCast]
    refine zlo (s:=N) p2 (fun k μ' Q' hk p' k' q'=>?_) fun S ν3 hSl hS k3 p3=>zn (z6k (zx zt) (zn ?_))
    · unfold zgh
      exact zp (zc (zb rfl (zc (zb rfl (zn (znk p' (by first|decide|omega) (by first|decide|omega) (by first|decide|omega) fun v μ'' a b k'' e'' p''=>q' v μ'' a b k'' p''))))))
    have g3:(ν3 ++ [LObj.lst (nat S)])[c]?=some (.lst (K.map tn)):=zF (k3.at_ _ _ (nin1 hlc) g2)
    refine zQe g3 (by rw [length_map];omega) ?_
    refine ⟨K ++ [S],_,_,rfl,by rw [length_append,hKl];rfl,fun k hk=>?_,((kk.trans (k2.trans k3)).app).set (.inr (Nat.le_of_eq hcc)),((p3.app).set (Ne.symm hlc)).up (by first|decide|omega),?_⟩
    · rcases List.mem_append.mp hk with hk | hk
      · exact hK k hk
      · rw [List.mem_singleton.mp hk];exact ⟨by rw [hSl];exact hz,hS⟩
    · rw [zK g3,map_append];rfl
  · rintro δ ν1 ⟨K,y,z,rfl,hKl,hK,kk,pp,gg⟩
    simp only [length_map,length_range] at hKl pp
    refine zab (zMd (zc (zb rfl (zc (zp (zc (zb rfl (zn (z6k (zx gg) (zn ?_))))))))))
    refine q R K ν1 ⟨by rw [hR];exact ⟨h1,hN⟩,by rw [hKl];exact ht,fun k hk=>?_⟩ kk (pp.up (by first|decide|omega))
    rw [hR]
    exact hK k hk
theorem zBp (xs:List D) (lo hi:Option Int):(M.cutD xs lo hi).length≤xs.length:=by
  unfold M.cutD
  rw [length_take,length_drop]
  exact Nat.le_trans (Nat.min_le_right _ _) (Nat.sub_le _ _)
theorem zHj {ns:List Int} {l B N m:Nat} {ν:Mem} {Q:D→Mem→Prop} (hB:B≤150000) (h1:0<N) (hN:N≤10) (hm:0<m) (hm31:m≤31) (p:PenC ns ν l B) (q:∀ R K μ',Wb (m - 1) R K→KB [l] ν μ'→PenC ns μ' l (B+300)→Q (wn R K) μ') :
    WS (zX (zbc 3 (zu gIx (zcl (ze (fC (.int 2)) (ze (fC (.int 3)) (ze (fC (.int 3)) (ze (fC (.int 10)) zD))))) (zy zB (ze (zi 0) (ze (fC (.int 4)) zD))))) (zX (zbc 4 (zy zcf (ze (fLC 1 [0,3] (z7d (ze (zi 2) zD)) (gN 0) zzo zie) zD))) (zX (sIf (zO (zu gEq (zy zB (ze (zi 0) (ze (fC (.int 8)) zD))) (fC (.int 3)))) (zX (zbc 5 (zy zB (ze (zi 0) (ze (zi 2) zD)))) (zbc 4 (zu zWd (zu zWd (fSl (zi 4) pNo (z7p (zi 5))) (z3i (ze (zu zWd (zu gIx (zi 4) (zi 5)) (zu gIx (zcl (ze (fC (.int 1)) (ze (fC (.int 10)) (ze (zu zMu (fC (.int 10)) (fC (.int 40))) zD)))) (zy zB (ze (zi 0) (ze (fC (.int 3)) zD))))) zD))) (fSl (zi 4) (z7p (zu zWd (zi 5) (fC (.int 1)))) pNo)))) zJb) (zX (zbc 6 (zcl zD)) (zX (zti (z7d (ze (zy zB (ze (zi 0) (ze (zi 1) zD))) zD)) (gN 7) z2c) (zUb (z3i (ze (zi 4) (ze (zy zcf (ze (zi 6) zD)) zD))))))))) [some (.loc l),some (.int (m:Nat)),some (.int (N:Nat)),none,none,none,none,none,none] ν (fun _ μ'=>Q .non μ') Q (fun _ _=>False) (fun _ _=>False):=by
  have hB2:B≤200000:=Nat.le_trans hB (by decide)
  have hN':N≤1000:=Nat.le_trans hN (by decide)
  refine zr (zdb (zk (zcg (zc (w_c (zc (w_c (zc (w_c (zc (w_c (zn (zp (zc (zb rfl (zc (w_c (zn ?_))))))))))))))))))
  refine zwc (s:=4) p.app (up100 (k:=0) hB2 (by decide)) (by decide) (by decide) fun x ν3 b3 k3 p3=>?_
  have g3:ν3[ν.length]?=some (.lst [.int 2, .int 3, .int 3, .int 10]):=k3.at_ _ _ p.new zt
  have k3':KB [l] ν ν3:=KB.refl.app.trans k3
  have hx:∃ wd:Nat,atI [D.int 2, .int 3, .int 3, .int 10] (x:Nat)=some (.int wd)∧2≤wd∧wd≤10:=by
    clear g3 k3' k3 p3 p q
    match x,b3 with
    | 0,_=>exact ⟨2,rfl,by decide⟩
    | 1,_=>exact ⟨3,rfl,by decide⟩
    | 2,_=>exact ⟨3,rfl,by decide⟩
    | 3,_=>exact ⟨10,rfl,by decide⟩
  obtain ⟨wd,ha,hw⟩:=hx
  refine zRc (zx g3) ha ?_
  clear g3 ha b3
  refine zr (zdb (zp (zc (zil (zrf (zc (zb rfl (zn ⟨_,rfl,Int.natCast_nonneg _,by first|decide|omega,zhc (by simp;omega),?_⟩))))))))
  rw [Int.toNat_natCast]
  refine zlo (s:=wd) (m:=N) p3 (fun k μ' Q' hk p' k' q'=>?_) fun R ν4 hRl hR k4 p4=>zn (z6k (zx zt) ?_)
  · unfold zie
    exact zp (zc (zb rfl (zc (zb rfl (zn (znk p' (by first|decide|omega) (by first|decide|omega) (by first|decide|omega) fun v μ'' a b k'' e'' p''=>q' v μ'' a b k'' p''))))))
  have k4':=(k3'.trans k4).app (g:=[.lst (nat R)])
  have p4':=(p4.app (g:=[.lst (nat R)])).up (B':=B+20) (by first|decide|omega)
  clear k4 p4 k3 p3 hw hR
  generalize ν4 ++ [LObj.lst (nat R)] = ν5 at k4' p4'
  refine zr (z1e (zA (zk (zp (zc (zb rfl (zc (w_c (zn ?_)))))))))
  refine zwc (s:=8) p4' (up100 (k:=20) hB2 (by decide)) (by decide) (by decide) fun v6 ν6 b6 k6 p6=>?_
  refine w_c (zgj ⟨_,rfl,fun _=>?_,fun _=>z9 (zMl (B:=B+21) (Nat.le_trans (Nat.add_le_add_right hB 21) (by decide)) h1 hN hm hm31 hRl p6 fun R K μ' w k p'=>q R K μ' w (k4'.trans (k6.trans k)) (p'.up (by first|decide|omega)))⟩)
  refine zr (zdb (zp (zc (zb rfl (zc (zb rfl (zn ?_)))))))
  refine zwc p6 (up100 (k:=21) hB2 (by decide)) h1 hN' fun i ν7 b7 k7 p7=>?_
  have hiR:i<R.length:=by rw [hRl];exact b7
  refine zdb (zk (zk (zww (zb rfl (zAl (zph (zb rfl ⟨_,rfl,_,rfl,?_⟩)))))))
  refine zMd (zc (zk (zk (zb rfl (zb rfl (zRc rfl (zVn hiR) (zk (zcg (zc (w_c (zc (w_c (zc (zk (w_c (w_c (z9u (by decide) (by decide) (by decide) (zn (zp (zc (zb rfl (zc (w_c (zn ?_))))))))))))))))))))))))
  refine zwc (s:=3) p7.app (up100 (k:=22) hB2 (by decide)) (by decide) (by decide) fun y ν8 b8 k8 p8=>?_
  have g8:ν8[ν7.length]?=some (.lst [.int 1, .int 10, .int ((10:Int) ^ Int.toNat 40)]):=k8.at_ _ _ p7.new zt
  have hy:∃ u:Nat,atI [D.int 1,D.int 10,D.int ((10:Int) ^ Int.toNat 40)] (y:Nat)=some (.int u):=by
    clear g8 k8 p8 k7 p7 k6 p6 k4' p4' q
    match y,b8 with
    | 0,_=>exact ⟨1,rfl⟩
    | 1,_=>exact ⟨10,rfl⟩
    | 2,_=>exact ⟨10 ^ 40,rfl⟩
  obtain ⟨u,hy⟩:=hy
  refine zRc (zx g8) hy (zde (zn ?_))
  have c1:=zBp (nat R) none (some (i:Int))
  have c2:=zBp (nat R) (some ((i:Int)+1)) none
  rw [length_map,hRl] at c1 c2
  clear hy g8 b8 b7 b6
  refine zLn (by simp;omega) (zww (zb rfl (zph (zk (zb rfl (w_c (zde ⟨_,rfl,zAl ⟨_,rfl,?_⟩⟩)))))))
  refine zLn (by simp;omega) ?_
  have ed:((R.getD i 0:Nat):Int)+(u:Nat)=((R.getD i 0+u:Nat):Int):=(Int.natCast_add _ _).symm
  rw [ed,zHr hiR]
  exact zMl (B:=B+23) (Nat.le_trans (Nat.add_le_add_right hB 23) (by decide)) h1 hN hm hm31 (by rw [length_set];exact hRl) p8 fun R K μ' w k p'=>q R K μ' w ((k4'.trans (k6.trans k7)).app.trans (k8.trans k)) (p'.up (by first|decide|omega))
theorem ziu {ns:List Int} {l B:Nat} {m:Nat} (h:PenC ns μ l B) (hB:B≤100000) (hm:0<m∧m≤31)
    (q:∀ R K μ',Wb (m - 1) R K→KB [l] μ μ'→PenC ns μ' l (B+1000)→Q (wn R K) μ'):WF zHe [.loc l, .int (m:Nat)] μ Q:=by
  refine zFb rfl ?_
  show WS zXe [some (.loc l),some (.int (m:Nat)),none,none,none,none,none,none,none] μ _ _ _ _
  unfold zXe
  have hB2:B≤200000:=Nat.le_trans hB (by decide)
  refine zr (zdb (zk (w_c (zp (zc (zb rfl (zc (w_c (zn ?_)))))))))
  refine zwc (s:=6) h (up100 (k:=0) hB2 (by decide)) (by decide) (by decide) fun n0 μ1 b1 k1 p1=>zde ?_
  refine zr (z1e (zA (zk (zp (zc (zb rfl (zc (w_c (zn ?_)))))))))
  refine zwc (s:=8) p1 (up100 (k:=1) hB2 (by decide)) (by decide) (by decide) fun v2 μ2 b2 k2 p2=>w_c (zgj ⟨_,rfl,fun _=>?_,fun _=>z9 ?_⟩)
  · refine zdb (zk (w_c (zp (zc (zb rfl (zc (w_c (zn ?_))))))))
    refine zwc (s:=6) p2 (up100 (k:=2) hB2 (by decide)) (by decide) (by decide) fun n1 μ3 b3 k3 p3=>zde ?_
    rw [show (5:Int)+(n1:Nat)=((5+n1:Nat):Int) from (Int.natCast_add 5 n1).symm]
    exact zHj (B:=B+3) (Nat.le_trans (Nat.add_le_add_right hB 3) (by decide)) (by first|decide|omega) (by first|decide|omega) hm.1 hm.2 p3 fun R K μ' w k p'=>q R K μ' w (k1.trans (k2.trans (k3.trans k))) (p'.up (by first|decide|omega))
  · rw [show (1:Int)+(n0:Nat)=((1+n0:Nat):Int) from (Int.natCast_add 1 n0).symm]
    exact zHj (B:=B+2) (Nat.le_trans (Nat.add_le_add_right hB 2) (by decide)) (by first|decide|omega) (by first|decide|omega) hm.1 hm.2 p2 fun R K μ' w k p'=>q R K μ' w (k1.trans (k2.trans k)) (p'.up (by first|decide|omega))
structure RightL (R:List Nat) (K:List (List Nat)) (lay:List (Option Nat)):Prop where
  len:lay.length=K.length
  home:∀ k h,lay[k]?=some (some h)→h∈K.getD k []
  room:∀ h,lay.count (some h)≤R.getD h 0
noncomputable def zlj (K:List (List Nat)) (S:List Nat):List Nat:=S.flatMap fun k=>K.getD k []
noncomputable def ztc (n:Nat) (K:List (List Nat)) (S:List Nat):List Nat:=(List.range n).filter fun h=>decide (∃ k∈S,h∈K.getD k [])
noncomputable def z3e (R:List Nat) (N:List Nat):Nat:=(N.map fun h=>R.getD h 0).sum
theorem zwd {L:Nat} {S:List Nat} (w:Wb L R K) (h:Nat):h∈ztc R.length K S↔∃ k∈S,h∈K.getD k []:=by
  unfold ztc
  rw [mem_filter,mem_range,decide_eq_true_iff]
  constructor
  · exact fun q=>q.2
  · rintro ⟨k,hk,hh⟩
    refine ⟨?_,k,hk,hh⟩
    rw [getD_eq_getElem?_getD] at hh
    cases e:K[k]? with
    | none=>rw [e] at hh;simp at hh
    | some x=>rw [e] at hh;exact (w.kn x (mem_of_getElem? e)).2 h hh
theorem zio {n:Nat} {S:List Nat}:∀ h∈ztc n K S,h<n:=fun h hh=>by
  have:=(List.mem_filter.mp hh).1
  simpa using this
theorem z6r (n:Nat) (K:List (List Nat)) (S:List Nat):(ztc n K S).Pairwise (· < ·):=List.pairwise_lt_range.filter _
theorem zam (n:Nat) (K:List (List Nat)) (S:List Nat):(ztc n K S).length≤n:=by
  unfold ztc
  refine Nat.le_trans (List.length_filter_le _ _) ?_
  simp
theorem z4h {L:Nat} {R:List Nat} {K:List (List Nat)} (w:Wb L R K):∀ S:List Nat,(zlj K S).length≤3 * S.length
  | []=>by simp [zlj]
  | k :: S=>by
    have ih:=z4h w S
    have h1:(K.getD k []).length≤3:=by
      rw [getD_eq_getElem?_getD]
      cases e:K[k]? with
      | none=>simp
      | some x=>exact (w.kn x (mem_of_getElem? e)).1.2
    unfold zlj at ih ⊢
    rw [List.flatMap_cons,length_append,length_cons]
    omega
noncomputable def zqc (R:List Nat) (K:List (List Nat)) (S:List Nat):Bool:=decide (z3e R (ztc R.length K S)<S.length)
theorem zIo {L:Nat} {S:List Nat} {n:Nat} (w:Wb L R K) (hn:μ[n]?=some (.lst (nat S))) (hS:∀ k∈S,k<K.length) (hl:S.length≤1000)
    (q:∀ (l:Nat) (μ':Mem),Keep μ μ'→μ.length≤l→μ'[l]?=some (.lst (nat (ztc R.length K S)))→Q (.loc l) μ'):WF zWe [wn R K, .loc n] μ Q:=by
  refine zFb rfl ?_
  show WS zYe [some (wn R K),some (.loc n),none,none] μ _ _ _ _
  unfold zYe
  (refine zr ?_;refine zdb ?_;refine zcg ?_;refine zn ?_;refine zr ?_;refine zLd ?_)
  have hnl:=zz hn
  refine zrd (zb rfl (.inr (.inr ⟨n,_,rfl,zF hn,?_⟩)))
  refine zsb (fun m δ μ'=>∃ a:Option D,δ = [some (wn R K),some (.loc n),some (.loc μ.length),a]∧Keep μ μ'∧μ'[μ.length]?=some (.lst (nat (zlj K (S.take m))))) ⟨none,rfl, .app,by simp [zlj]⟩ (fun m δ μ' ⟨a,_,k,_⟩=>z5 hn k) ?_ ?_
  · rintro m x δ μ1 hx ⟨a,rfl,k,hg⟩
    rw [List.getElem?_map] at hx
    cases hy:S[m]? with
    | none=>rw [hy] at hx;cases hx
    | some kk =>
      rw [hy] at hx
      cases hx
      have hkk:=hS kk (mem_of_getElem? hy)
      (refine zoc ?_)
      unfold z3g
      (refine zoe ?_;refine z8d ?_;refine zb rfl ?_)
      refine ⟨μ.length,_,rfl,hg,?_⟩
      (refine zc ?_;refine zk ?_;refine zk ?_;refine zb rfl ?_;refine w_c ?_)
      refine zOc ?_
      (refine zb rfl ?_)
      refine z0m hkk ?_
      (refine zn ?_)
      have hfl:=z4h w (S.take m)
      have hks:=(w.key hkk).1
      have htl:(S.take m).length≤1000:=Nat.le_trans (by simp;omega) hl
      refine zAv hg (by simp only [length_map];omega) ?_
      refine ⟨_,rfl,fun i o e=>zI (k i o e) (Nat.ne_of_gt (zz e)),?_⟩
      rw [zK hg]
      have ht:S.take (m+1)=S.take m ++ [kk]:=by rw [take_succ,hy];rfl
      have e2:zlj K (S.take (m+1))=zlj K (S.take m)++K.getD kk []:=by
        unfold zlj
        rw [ht,List.flatMap_append]
        simp
      rw [e2,zCc]
  · rintro δ μ1 ⟨a,rfl,k,hg⟩
    rw [length_map,take_length] at hg
    have hmem:∀ i:Int,i∈(ztc R.length K S).map (fun (k:Nat)=>(k:Int))↔i∈(zlj K S).map (fun (k:Nat)=>(k:Int)):=fun i=>by
      simp only [mem_map]
      constructor
      · rintro ⟨h,hh,rfl⟩
        obtain ⟨k,hk,hh⟩:=(zwd w h).mp hh
        exact ⟨h,List.mem_flatMap.mpr ⟨k,hk,hh⟩,rfl⟩
      · rintro ⟨h,hh,rfl⟩
        obtain ⟨k,hk,hh⟩:=List.mem_flatMap.mp hh
        exact ⟨h,(zwd w h).mpr ⟨k,hk,hh⟩,rfl⟩
    have hpw:((ztc R.length K S).map (fun (k:Nat)=>(k:Int))).Pairwise (· < ·):=by
      rw [List.pairwise_map]
      exact (z6r R.length K S).imp fun h=>by omega
    have hp:=z7k hmem hpw
    have hsort:=zFk hmem hpw
    have hfl:=z4h w S
    have hrl:=w.rl
    have hnl2:=zam R.length K S
    refine zab (zVs (zb rfl ⟨_,(zlj K S).map (fun (k:Nat)=>(k:Int)),rfl,by rw [hg,map_map];rfl,by rw [length_map];omega,by rw [hp.length_eq,length_map];omega,?_⟩))
    rw [hsort,map_map]
    exact q _ _ k.to k.len zt
theorem zAr {S:List Nat} {n:Nat} (hn:μ[n]?=some (.lst (nat S))) (hS:∀ k∈S,k<R.length) (hl:S.length≤1000)
    (q:∀ (μ':Mem),Keep μ μ'→Q (.int (z3e R S:Nat)) μ'):WF z0f [wn R K, .loc n] μ Q:=by
  refine zFb rfl ?_
  show WS zKf [some (wn R K),some (.loc n)] μ _ _ _ _
  unfold zKf
  (refine zab ?_;refine zp ?_;refine zc ?_;refine zil ?_)
  refine zrd (zb rfl (.inr (.inr ⟨n,_,rfl,hn,zhc (by simp;omega),?_⟩)))
  refine zzi (fun (k:Nat)=>D.int k) S (fun k => .int (R.getD k 0:Nat)) (fun μ' k=>z5 hn k) (fun k hk μ' kp=>?_) (fun μ' kp=>?_)
  · have hkk:=hS k hk
    (refine zoc ?_)
    unfold zbi
    (refine zk ?_;refine zk ?_;refine zb rfl ?_;refine w_c ?_)
    refine zDg ?_
    (refine zb rfl ?_)
    exact zmq hkk ⟨rfl,kp,kp⟩
  · (refine zn ?_)
    refine z0s (S:=S.map fun k=>R.getD k 0) (by rw [zt,zel]) ?_
    exact q _ kp.to
theorem zVo {L:Nat} {S:List Nat} {n:Nat} (w:Wb L R K) (hn:μ[n]?=some (.lst (nat S))) (hS:∀ k∈S,k<K.length) (hl:S.length≤1000)
    (q:∀ μ',Keep μ μ'→Q (.bl (zqc R K S)) μ'):WF zEe [wn R K, .loc n] μ Q:=by
  refine zFb rfl ?_
  show WS zZe [some (wn R K),some (.loc n)] μ _ _ _ _
  unfold zZe
  (refine zab ?_;refine zk ?_;refine zp ?_;refine zc ?_;refine zb rfl ?_;refine zc ?_;refine zp ?_;refine zc ?_;refine zb rfl ?_;refine zc ?_;refine zb rfl ?_;refine zn ?_)
  refine zIo w hn hS hl fun l μ1 k1 hl1 g1=>?_
  (refine zn ?_)
  have hnl:=zam R.length K S
  have hrl:=w.rl
  refine zAr g1 zio (by first|decide|omega) fun μ2 k2=>?_
  (refine zp ?_;refine zc ?_;refine zb rfl ?_;refine zn ?_)
  refine zbe (zx (k2 _ _ (k1 _ _ hn))) ?_
  (refine z6f ?_)
  have:=q μ2 (k1.trans k2)
  unfold zqc at this
  simp only [length_map,Int.ofNat_lt]
  exact this
theorem zIm (lay:List (Option Nat)) (a:Option Nat):lay.count a=((List.range lay.length).filter fun k=>decide (lay.getD k none=a)).length:=by
  have e:lay=(List.range lay.length).map fun k=>lay.getD k none:=by
    refine List.ext_getElem? fun i=>?_
    by_cases h:i<lay.length
    · simp [h]
    · simp [h]
  conv=>lhs;rw [e]
  rw [List.count,List.countP_map,List.countP_eq_length_filter]
  congr 1
  refine List.filter_congr fun k _=>?_
  simp only [Function.comp]
  exact Bool.beq_eq_decide_eq _ _
noncomputable def lyN (lay:List (Option Nat)) (N:List Nat):List Nat:=(List.range lay.length).filter fun k=>decide (∃ h∈N,lay.getD k none=some h)
theorem lyN_mem {lay:List (Option Nat)} {N:List Nat} {k:Nat}:k∈lyN lay N↔∃ h∈N,lay.getD k none=some h:=by
  unfold lyN
  rw [mem_filter,mem_range,decide_eq_true_iff]
  constructor
  · exact fun q=>q.2
  · rintro ⟨h,hh,e⟩
    refine ⟨?_,h,hh,e⟩
    refine Nat.lt_of_not_le fun hle=>?_
    rw [getD_eq_getElem?_getD,List.getElem?_eq_none hle] at e
    cases e
theorem zyv (lay:List (Option Nat)) (N:List Nat):(lyN lay N).Nodup:=List.nodup_range.sublist filter_sublist
theorem zeg {α:Type} (p q:α→Bool) (h:∀ x,p x=true→q x=false):∀ l:List α,(l.filter fun x=>p x || q x).length=(l.filter p).length+(l.filter q).length
  | []=>rfl
  | x :: l=>by
    have ih:=zeg p q h l
    cases hp:p x with
    | true=>simp [List.filter_cons,hp,h x hp,ih];omega
    | false =>
      cases hq:q x with
      | true=>simp [List.filter_cons,hp,hq,ih];omega
      | false=>simp [List.filter_cons,hp,hq,ih]
theorem zFm {lay:List (Option Nat)}:∀ {N:List Nat},N.Nodup→(lyN lay N).length=(N.map fun h=>lay.count (some h)).sum
  | [],_=>by simp [lyN]
  | h :: N,nd=>by
    obtain ⟨h1,h2⟩:=List.nodup_cons.mp nd
    rw [map_cons,sum_cons,← zFm h2,zIm]
    have:=zeg (fun k=>decide (lay.getD k none=some h)) (fun k=>decide (∃ g∈N,lay.getD k none=some g)) (fun k hk=>by
      have hk:=of_decide_eq_true hk
      refine decide_eq_false ?_
      rintro ⟨g,hg,e⟩
      rw [hk] at e
      cases e
      exact h1 hg) (List.range lay.length)
    rw [show lyN lay N=(List.range lay.length).filter fun k=>decide (∃ g∈N,lay.getD k none=some g) from rfl,← this]
    unfold lyN
    congr 1
    refine List.filter_congr fun k _=>?_
    rw [← Bool.decide_or]
    refine decide_eq_decide.mpr ?_
    simp only [mem_cons]
    constructor
    · rintro ⟨g,rfl | hg,e⟩
      · exact .inl e
      · exact .inr ⟨g,hg,e⟩
    · rintro (e | ⟨g,hg,e⟩)
      · exact ⟨h, .inl rfl,e⟩
      · exact ⟨g, .inr hg,e⟩
theorem zJq {α:Type} {f g:α→Nat}:∀ {l:List α},(∀ x∈l,f x≤g x)→(l.map f).sum≤(l.map g).sum
  | [],_=>Nat.le_refl _
  | x :: l,h=>by
    rw [map_cons,map_cons,sum_cons,sum_cons]
    have h1:=h x mem_cons_self
    have h2:=zJq (l:=l) fun y hy=>h y (mem_cons_of_mem _ hy)
    omega
theorem zob {α:Type} [DecidableEq α]:∀ {l m:List α},l.Nodup→(∀ x∈l,x∈m)→l.length≤m.length
  | [],_,_,_=>Nat.zero_le _
  | x :: l,m,nd,h=>by
    obtain ⟨h1,h2⟩:=List.nodup_cons.mp nd
    have hx:=h x mem_cons_self
    have ih:=zob (l:=l) (m:=m.erase x) h2 fun y hy=>(List.mem_erase_of_ne (by rintro rfl;exact h1 hy)).mpr (h y (mem_cons_of_mem _ hy))
    rw [List.length_erase_of_mem hx] at ih
    have:=List.length_pos_of_mem hx
    rw [length_cons]
    omega
theorem zuq {lay:List (Option Nat)} {T:List Nat} {L:Nat} (w:Wb L R K) (r:RightL R K lay) (hd:T.Nodup) (hT:∀ k∈T,k<K.length) (hall:∀ k∈T,(lay.getD k none).isSome=true):zqc R K T=false:=by
  refine decide_eq_false ?_
  have hN:(ztc R.length K T).Nodup:=List.nodup_range.sublist filter_sublist
  have h1:T.length≤(lyN lay (ztc R.length K T)).length:=zob hd fun k hk=>by
    rw [lyN_mem]
    have hs:=hall k hk
    cases e:lay.getD k none with
    | none=>rw [e] at hs;cases hs
    | some h =>
      refine ⟨h,?_,rfl⟩
      rw [zwd w]
      refine ⟨k,hk,r.home k h ?_⟩
      have hkl:k<lay.length:=by rw [r.len];exact hT k hk
      simp [hkl] at e
      simp [hkl,e]
  rw [zFm hN] at h1
  have h2:((ztc R.length K T).map fun h=>lay.count (some h)).sum≤z3e R (ztc R.length K T):=zJq fun h _=>r.room h
  omega
structure Shut (R:List Nat) (K:List (List Nat)) (lay:List (Option Nat)) (C:List Nat):Prop where
  keys:∀ k∈C,k<K.length
  full:∀ k∈C,∀ h∈K.getD k [],R.getD h 0≤lay.count (some h)
  lies:∀ k∈C,∀ h∈K.getD k [],∀ o,lay.getD o none=some h→o∈C
theorem Shut.nil {lay:List (Option Nat)}:Shut R K lay []:=⟨by simp,by simp,by simp⟩
theorem Shut.app {lay:List (Option Nat)} {C E:List Nat} (a:Shut R K lay C) (b:Shut R K lay E):Shut R K lay (C++E):=by
  refine ⟨fun k hk=>?_,fun k hk=>?_,fun k hk h hh o e=>?_⟩
  · rcases List.mem_append.mp hk with hk | hk
    · exact a.keys k hk
    · exact b.keys k hk
  · rcases List.mem_append.mp hk with hk | hk
    · exact a.full k hk
    · exact b.full k hk
  · rcases List.mem_append.mp hk with hk | hk
    · exact mem_append_left _ (a.lies k hk h hh o e)
    · exact mem_append_right _ (b.lies k hk h hh o e)
theorem Shut.congr {lay:List (Option Nat)} {C E:List Nat} (a:Shut R K lay C) (h:∀ k,k∈E↔k∈C):Shut R K lay E :=
  ⟨fun k hk=>a.keys k ((h k).mp hk),fun k hk=>a.full k ((h k).mp hk),fun k hk g hg o e=>(h o).mpr (a.lies k ((h k).mp hk) g hg o e)⟩
theorem zOg {lay:List (Option Nat)} {C:List Nat} {L:Nat} (w:Wb L R K) (s:Shut R K lay C) (hl:lay.length=K.length) {k0:Nat} (hk0:k0∈C) (hn:lay.getD k0 none=none):zqc R K C=true:=by
  refine decide_eq_true ?_
  have hN:(ztc R.length K C).Nodup:=List.nodup_range.sublist filter_sublist
  have h1:z3e R (ztc R.length K C)≤((ztc R.length K C).map fun h=>lay.count (some h)).sum:=zJq fun h hh=>by
    obtain ⟨k,hk,hm⟩:=(zwd w h).mp hh
    exact s.full k hk h hm
  rw [← zFm hN] at h1
  have h2:(k0 :: lyN lay (ztc R.length K C)).length≤C.length:=zob (List.nodup_cons.mpr ⟨fun hm=>(by
    obtain ⟨h,_,e⟩:=lyN_mem.mp hm
    rw [hn] at e
    cases e),zyv _ _⟩) fun x hx=>by
    rcases List.mem_cons.mp hx with rfl | hx
    · exact hk0
    · obtain ⟨h,hh,e⟩:=lyN_mem.mp hx
      obtain ⟨k,hk,hm⟩:=(zwd w h).mp hh
      exact s.lies k hk h hm x e
  rw [length_cons] at h2
  omega
structure RowOk (K:List (List Nat)) (lay:List (Option Nat)) (key:Nat) (row:List (Nat×Nat)):Prop where
  first:∃ h r,row=(key,h) :: r
  mem:∀ p∈row,p.1<K.length∧p.2∈K.getD p.1 []∧lay.getD p.1 none≠some p.2
  link:∀ i p q,row[i]?=some p→row[i+1]?=some q→lay.getD q.1 none=some p.2
  nd:(row.map (·.1)).Nodup
noncomputable def zgd (lay:List (Option Nat)) (row:List (Nat×Nat)):List (Option Nat):=row.foldl (fun l p=>l.set p.1 (some p.2)) lay
theorem zOf (row:List (Nat×Nat)):∀ lay:List (Option Nat),(zgd lay row).length=lay.length:=by
  induction row with
  | nil=>intro lay;rfl
  | cons p row ih=>intro lay;show (zgd (lay.set p.1 (some p.2)) row).length=_;rw [ih];simp
theorem zPj (lay:List (Option Nat)) (row:List (Nat×Nat)) (p:Nat×Nat):zgd lay (row ++ [p])=(zgd lay row).set p.1 (some p.2):=by
  unfold zgd
  rw [List.foldl_append]
  rfl
theorem zKc {row:List (Nat×Nat)}:∀ {lay:List (Option Nat)} {k:Nat},k∉row.map (·.1)→(zgd lay row).getD k none=lay.getD k none:=by
  induction row with
  | nil=>intro lay k _;rfl
  | cons p row ih =>
    intro lay k hk
    rw [map_cons,mem_cons,not_or] at hk
    show (zgd (lay.set p.1 (some p.2)) row).getD k none=_
    rw [ih hk.2]
    simp only [getD_eq_getElem?_getD]
    rw [List.getElem?_set_ne (Ne.symm hk.1)]
theorem zRh {row:List (Nat×Nat)} (nd:(row.map (·.1)).Nodup):∀ {lay:List (Option Nat)} {p:Nat×Nat},p∈row→p.1<lay.length→(zgd lay row).getD p.1 none=some p.2:=by
  induction row with
  | nil=>intro lay p hp;cases hp
  | cons q row ih =>
    intro lay p hp hl
    rw [map_cons,nodup_cons] at nd
    show (zgd (lay.set q.1 (some q.2)) row).getD p.1 none=_
    rcases List.mem_cons.mp hp with rfl | hp
    · rw [zKc nd.1]
      simp [hl]
    · exact ih nd.2 hp (by simpa using hl)
theorem count_set {lay:List (Option Nat)} {k:Nat} {a b:Option Nat} (hk:k<lay.length) (ha:lay.getD k none=a) (x:Option Nat):(lay.set k b).count x+(if a=x then 1 else 0)=lay.count x+(if b=x then 1 else 0):=by
  have e1:lay=lay.take k++a :: lay.drop (k+1):=by
    have:lay[k]=a:=by simpa [hk] using ha
    rw [← this,List.getElem_cons_drop,take_append_drop]
  have e2:lay.set k b=lay.take k++b :: lay.drop (k+1):=by rw [List.set_eq_take_append_cons_drop,if_pos hk]
  rw [e2]
  conv=>rhs;rw [e1]
  rw [List.count_append,List.count_append,count_cons,count_cons]
  simp only [beq_iff_eq]
  split <;> split <;> omega
theorem z1i {lay:List (Option Nat)} {key:Nat} {row:List (Nat×Nat)} (r:RowOk K lay key row) (hl:lay.length=K.length) (hkey:lay.getD key none=none):∀ i,i<row.length→∀ h:Nat,(zgd lay (row.take (i+1))).count (some h)=lay.count (some h)+(if (row.getD i (0,0)).2=h then 1 else 0):=by
  intro i
  induction i with
  | zero =>
    intro hi h
    obtain ⟨h0,r0,e⟩:=r.first
    have hm:=r.mem (key,h0) (by rw [e];simp)
    subst e
    have:=count_set (lay:=lay) (k:=key) (b:=some h0) (by rw [hl];exact hm.1) hkey (some h)
    show (lay.set key (some h0)).count (some h)=_
    simpa using this
  | succ i ih =>
    intro hi h
    have ih:=ih (by first|decide|omega) h
    have hp:row[i]?=some row[i]:=by simp [show i<row.length by omega]
    have hq:row[i+1]?=some row[i+1]:=by simp [hi]
    have hlink:=r.link i _ _ hp hq
    have hm:=r.mem row[i+1] (getElem_mem hi)
    have et:row.take (i+1+1)=row.take (i+1) ++ [row[i+1]]:=by simp
    have hnot:(row[i+1]).1∉(row.take (i+1)).map (·.1):=by
      intro hmem
      have nd:=r.nd
      rw [← take_append_drop (i+1) row,map_append,nodup_append] at nd
      refine nd.2.2 _ hmem _ ?_ rfl
      refine List.mem_map.mpr ⟨row[i+1],?_,rfl⟩
      rw [drop_eq_getElem_cons hi]
      exact mem_cons_self
    have hcur:(zgd lay (row.take (i+1))).getD (row[i+1]).1 none=some (row[i]).2:=by rw [zKc hnot];exact hlink
    rw [et,zPj]
    have:=count_set (lay:=zgd lay (row.take (i+1))) (k:=(row[i+1]).1) (b:=some (row[i+1]).2) (by rw [zOf,hl];exact hm.1) hcur (some h)
    have e1:row.getD i (0,0)=row[i]:=by simp [show i<row.length by omega]
    have e2:row.getD (i+1) (0,0)=row[i+1]:=by simp [hi]
    rw [e1] at ih
    rw [e2]
    simp only [Option.some.injEq] at this
    omega
theorem zpf {lay:List (Option Nat)} {key:Nat} {row:List (Nat×Nat)} (rt:RightL R K lay) (r:RowOk K lay key row) (hkey:lay.getD key none=none) (hroom:lay.count (some (row.getD (row.length - 1) (0,0)).2)<R.getD (row.getD (row.length - 1) (0,0)).2 0):RightL R K (zgd lay row):=by
  have hpos:0<row.length:=by
    obtain ⟨h,q,e⟩:=r.first
    rw [e];simp
  refine ⟨by rw [zOf];exact rt.len,fun k h e=>?_,fun h=>?_⟩
  · have e':(zgd lay row).getD k none=some h:=by rw [getD_eq_getElem?_getD,e];rfl
    by_cases hk:k∈row.map (·.1)
    · obtain ⟨p,hp,rfl⟩:=List.mem_map.mp hk
      have hm:=r.mem p hp
      rw [zRh r.nd hp (by rw [rt.len];exact hm.1)] at e'
      cases e'
      exact hm.2.1
    · rw [zKc hk] at e'
      refine rt.home k h ?_
      rw [getD_eq_getElem?_getD] at e'
      cases q:lay[k]? with
      | none=>rw [q] at e';cases e'
      | some z=>rw [q] at e';exact congrArg some e'
  · have:=z1i r rt.len hkey (row.length - 1) (by first|decide|omega) h
    rw [show row.length - 1+1=row.length by first|decide|omega,take_length] at this
    rw [this]
    have hr:=rt.room h
    split
    · rename_i e
      rw [e] at hroom
      omega
    · omega
theorem zDt {lay:List (Option Nat)} {key:Nat} {row:List (Nat×Nat)} {C:List Nat} (s:Shut R K lay C) (r:RowOk K lay key row) (hroom:lay.count (some (row.getD (row.length - 1) (0,0)).2)<R.getD (row.getD (row.length - 1) (0,0)).2 0) :
    ∀ p∈row,∀ k∈C,p.2∉K.getD k []:=by
  have key1:∀ (j i:Nat),i+j+1=row.length→∀ k∈C,(row.getD i (0,0)).2∉K.getD k []:=by
    intro j
    induction j with
    | zero =>
      intro i hi k hk hm
      have:=s.full k hk _ hm
      rw [show row.length - 1=i by omega] at hroom
      omega
    | succ j ih =>
      intro i hi k hk hm
      have hp:row[i]?=some row[i]:=by simp [show i<row.length by omega]
      have hq:row[i+1]?=some row[i+1]:=by simp [show i+1<row.length by omega]
      have e1:row.getD i (0,0)=row[i]:=by simp [show i<row.length by omega]
      have e2:row.getD (i+1) (0,0)=row[i+1]:=by simp [show i+1<row.length by omega]
      rw [e1] at hm
      have hin:=s.lies k hk _ hm _ (r.link i _ _ hp hq)
      refine ih (i+1) (by first|decide|omega) _ hin ?_
      rw [e2]
      exact (r.mem _ (getElem_mem _)).2.1
  intro p hp k hk
  obtain ⟨i,hi,rfl⟩:=List.mem_iff_getElem.mp hp
  have:=key1 (row.length - 1 - i) i (by first|decide|omega) k hk
  rwa [show row.getD i (0,0)=row[i] by simp [hi]] at this
theorem Shut.push {lay:List (Option Nat)} {key:Nat} {row:List (Nat×Nat)} {C:List Nat} (s:Shut R K lay C) (rt:RightL R K lay) (r:RowOk K lay key row) (hkey:lay.getD key none=none)
    (hroom:lay.count (some (row.getD (row.length - 1) (0,0)).2)<R.getD (row.getD (row.length - 1) (0,0)).2 0):Shut R K (zgd lay row) C:=by
  have hpos:0<row.length:=by
    obtain ⟨h,q,e⟩:=r.first
    rw [e];simp
  have hout:=zDt s r hroom
  refine ⟨s.keys,fun k hk h hh=>?_,fun k hk h hh o e=>?_⟩
  · have:=z1i r rt.len hkey (row.length - 1) (by first|decide|omega) h
    rw [show row.length - 1+1=row.length by first|decide|omega,take_length] at this
    have h1:=s.full k hk h hh
    omega
  · by_cases ho:o∈row.map (·.1)
    · obtain ⟨p,hp,rfl⟩:=List.mem_map.mp ho
      rw [zRh r.nd hp (by rw [rt.len];exact (r.mem p hp).1)] at e
      cases e
      exact absurd hh (hout p hp k hk)
    · rw [zKc ho] at e
      exact s.lies k hk h hh o e
noncomputable def zWj (lay:List (Option Nat)) (h:Nat):List Nat:=(List.range lay.length).filter fun k=>decide (lay.getD k none=some h)
noncomputable def z2t (R:List Nat) (lay:List (Option Nat)):List Int:=(List.range R.length).map fun h=>(R.getD h 0:Int) - (lay.count (some h):Nat)
theorem zFs {lay:List (Option Nat)} {n h:Nat} (hn:μ[n]?=some (.lst (lay.map onD))) (hl:lay.length≤1000) (q:∀ (l:Nat) (μ':Mem),Keep μ μ'→μ.length≤l→μ'[l]?=some (.lst (nat (zWj lay h)))→Q (.loc l) μ'):WF zXk [.loc n, .int h] μ Q:=by
  refine zFb rfl ?_
  show WS zOk [some (.loc n),some (.int h)] μ _ _ _ _
  unfold zOk
  (refine zab ?_;refine zil ?_)
  refine z9g (zb rfl (.inr (.inr ⟨n,_,rfl,hn,zhc (by rw [zQb,length_map];omega),?_⟩)))
  rw [zMc onD lay none]
  refine zle (fun (k:Nat) => .tup [.int k,onD (lay.getD k none)]) (List.range lay.length) (fun (k:Nat)=>D.int k) (fun k=>decide (lay.getD k none=some h)) (fun μ' k=>z5 hn k) (fun k hk μ' kp=>?_) (fun μ' kp=>?_)
  · (refine zYh ?_;refine zlc ?_;refine zoc ?_;refine zlc ?_;refine zoc ?_;refine zvh ?_;refine zA ?_;refine zk ?_;refine zb rfl ?_;refine zb rfl ?_)
    refine zup (α:=Option Nat) (lay.getD k none) (some h) ?_
    (with_reducible refine ⟨_,rfl,?_⟩)
    refine ⟨rfl,kp,fun _=>?_⟩
    unfold zHl
    exact zb rfl ⟨rfl,kp⟩
  · exact q _ _ kp.to kp.len zt
theorem zlt {L:Nat} {lay:List (Option Nat)} {n:Nat} (w:Wb L R K) (hn:μ[n]?=some (.lst (lay.map onD))) (q:∀ (l:Nat) (μ':Mem),Keep μ μ'→μ.length≤l→μ'[l]?=some (.lst ((z2t R lay).map .int))→Q (.loc l) μ'):WF zei [wn R K, .loc n] μ Q:=by
  have hrl:=w.rl
  refine zFb rfl ?_
  show WS zIj [some (wn R K),some (.loc n)] μ _ _ _ _
  unfold zIj
  (refine zab ?_;refine zil ?_)
  refine z9g ?_
  (refine zk ?_;refine zb rfl ?_;refine w_c ?_)
  refine zDg (.inl ⟨_,rfl,zhc (by rw [zQb,length_map];omega),?_⟩)
  rw [zMc (fun (k:Nat)=>D.int k) R 0]
  refine zzi (fun (k:Nat) => .tup [.int k, .int (R.getD k 0:Nat)]) (List.range R.length) (fun (k:Nat)=>D.int ((R.getD k 0:Int) - (lay.count (some k):Nat))) (fun _ _=>rfl) (fun k hk μ' kp=>?_) (fun μ' kp=>?_)
  · (refine zYh ?_;refine zlc ?_;refine zoc ?_;refine zlc ?_;refine zoc ?_;refine zvh ?_;refine zk ?_;refine zb rfl ?_;refine z8d ?_;refine zb rfl ?_)
    refine ⟨_,_,rfl,kp _ _ hn,?_⟩
    (refine zc ?_;refine zb rfl ?_;refine zn ?_)
    refine z2p (kp _ _ hn) ?_
    (refine zep ?_)
    exact ⟨rfl,kp,kp⟩
  · refine q _ _ kp.to kp.len ?_
    rw [zt]
    unfold z2t
    rw [map_map]
    rfl
noncomputable def zpk (K:List (List Nat)) (ds:List D) (k:Nat):Bool:=!zvv (ds.getD k .non) && !((nat (K.getD k [])).any fun y=>eqF y (ds.getD k .non))
noncomputable def zJp (R:List Nat) (ds:List D) (h:Nat):Bool:=decide ((R.getD h 0:Nat)<(zwu ds h:Int))
noncomputable def z3j (R:List Nat) (K:List (List Nat)) (ds:List D):D:=match (List.range K.length).find? (zpk K ds) with
  | some k => .tup [.str "home", .int k]
  | none=>match (List.range R.length).find? (zJp R ds) with
    | some h => .tup [.str "room", .int h]
    | none => .non
theorem zXr {L:Nat} {ds:List D} {n:Nat} (w:Wb L R K) (hf:ds.all zQc=true) (hn:μ[n]?=some (.lst ds)) (q:∀ (l:Nat) (μ':Mem),Keep μ μ'→μ.length≤l→μ'[l]?=some (.lst (((List.range R.length).map fun h=>(R.getD h 0:Int) - (zwu ds h:Nat)).map .int))→Q (.loc l) μ'):WF zei [wn R K, .loc n] μ Q:=by
  have hrl:=w.rl
  refine zFb rfl ?_
  show WS zIj [some (wn R K),some (.loc n)] μ _ _ _ _
  unfold zIj
  (refine zab ?_;refine zil ?_)
  refine z9g ?_
  (refine zk ?_;refine zb rfl ?_;refine w_c ?_)
  refine zDg (.inl ⟨_,rfl,zhc (by rw [zQb,length_map];omega),?_⟩)
  rw [zMc (fun (k:Nat)=>D.int k) R 0]
  refine zzi (fun (k:Nat) => .tup [.int k, .int (R.getD k 0:Nat)]) (List.range R.length) (fun (k:Nat)=>D.int ((R.getD k 0:Int) - (zwu ds k:Nat))) (fun _ _=>rfl) (fun k hk μ' kp=>?_) (fun μ' kp=>?_)
  · (refine zYh ?_;refine zlc ?_;refine zoc ?_;refine zlc ?_;refine zoc ?_;refine zvh ?_;refine zk ?_;refine zb rfl ?_;refine z8d ?_;refine zb rfl ?_)
    refine ⟨_,_,rfl,kp _ _ hn,?_⟩
    (refine zc ?_;refine zb rfl ?_;refine zn ?_)
    refine zEp (kp _ _ hn) rfl hf ?_
    (refine zep ?_)
    exact ⟨rfl,kp,kp⟩
  · refine q _ _ kp.to kp.len ?_
    rw [zt,map_map]
    rfl
theorem zhs {ds:List D} (hf:ds.all zQc=true) {k:Nat} {d:D} (h:ds[k]?=some d):zQc d=true:=List.all_eq_true.mp hf d (mem_of_getElem? h)
theorem zJr {L:Nat} {ds:List D} {n:Nat} (w:Wb L R K) (hf:ds.all zQc=true) (hl:ds.length=K.length) (hn:μ[n]?=some (.lst ds)) (q:∀ (μ':Mem),Keep μ μ'→Q (z3j R K ds) μ'):WF zRk [wn R K, .loc n] μ Q:=by
  have hrl:=w.rl
  refine zFb rfl ?_
  show WS zal [some (wn R K),some (.loc n),none,none,none] μ _ _ _ _
  unfold zal
  refine zr (zLd (z9g (zb rfl (.inr (.inr ⟨n,_,rfl,hn,?_⟩)))))
  refine zsb (fun m δ μ'=>∃ a b:Option D,δ = [some (wn R K),some (.loc n),a,b,none]∧μ' = μ∧∀ j<m,zpk K ds j=false) ⟨_,_,rfl,rfl,by simp⟩ (fun m δ μ' h=>by obtain ⟨_,_,_,rfl,_⟩:=h;exact z5 hn .refl) ?_ ?_
  · rintro m x δ μ' hx ⟨a,b,rfl,rfl,hb⟩
    obtain ⟨y,hy,rfl⟩:=ztk hx
    have hm:m<ds.length:=(List.getElem?_eq_some_iff.mp hy).1
    have hfy:=zhs hf hy
    have hgy:ds.getD m .non=y:=by rw [getD_eq_getElem?_getD,hy];rfl
    have hgo:zpk K ds m=false→∀ j<m+1,zpk K ds j=false:=fun h j hj=>by
      by_cases e:j=m
      · subst e;exact h
      · exact hb j (by first|decide|omega)
    (refine zYh ?_;refine zlc ?_;refine zoc ?_;refine zlc ?_;refine zoc ?_;refine zvh ?_;refine z1e ?_;refine zxp ?_;refine zA ?_;refine zk ?_;refine zb rfl ?_;refine w_c ?_)
    refine zAe hfy ?_
    (with_reducible refine ⟨_,rfl,?_⟩)
    refine ⟨fun h1=>?_,fun h1=>⟨fun hc=>(by cases hc),fun _=>?_⟩⟩
    · (refine zA ?_;refine zk ?_;refine zb rfl ?_;refine zk ?_;refine zk ?_;refine zb rfl ?_;refine w_c ?_)
      refine zOc ?_
      (refine zb rfl ?_)
      refine z0m (by first|decide|omega) ?_
      refine zrr rfl hfy (zpo _) ?_
      (with_reducible refine ⟨_,rfl,?_⟩)
      refine ⟨fun h2=>?_,fun h2=>?_⟩
      · (refine zab ?_;refine zMd ?_;refine zc ?_;refine w_c ?_;refine zc ?_;refine zb rfl ?_;refine zn ?_)
        have hh:zpk K ds m=true:=by
          unfold zpk
          rw [hgy,h1,h2];rfl
        have:=q μ' .refl
        unfold z3j at this
        rw [z9j hh (by first|decide|omega) hb] at this
        exact this
      · (refine z9 ?_)
        refine ⟨_,_,rfl,rfl,hgo ?_⟩
        unfold zpk
        rw [hgy,h2,Bool.and_false]
    · (refine z9 ?_)
      refine ⟨_,_,rfl,rfl,hgo ?_⟩
      unfold zpk
      rw [hgy,h1,Bool.false_and]
  · rintro δ μ' ⟨a,b,rfl,rfl,hb⟩
    rw [zQb,hl] at hb
    refine zr (zLd (z9g (zp (zc (zb rfl (zc (zb rfl (zn ?_))))))))
    refine zXr w hf hn fun l μ1 k1 hl1 g1 => .inr (.inr ⟨l,_,rfl,g1,?_⟩)
    rw [zMc D.int _ 0]
    refine zsb (fun m δ μ'=>∃ a b c:Option D,δ = [some (wn R K),some (.loc n),a,b,c]∧μ' = μ1∧∀ j<m,zJp R ds j=false) ⟨_,_,_,rfl,rfl,by simp⟩ (fun m δ μ' h=>by obtain ⟨_,_,_,_,rfl,_⟩:=h;exact z5 g1 .refl) ?_ ?_
    · rintro m x δ μ2 hx ⟨a,b,c,rfl,rfl,hr⟩
      have hm:m<R.length:=by
        have:=(List.getElem?_eq_some_iff.mp hx).1
        simpa using this
      have ex:x = .tup [.int m, .int ((R.getD m 0:Int) - (zwu ds m:Nat))]:=by
        rw [List.getElem?_map] at hx
        simp [hm] at hx
        rw [← hx]
        simp [hm]
      subst ex
      (refine zYh ?_;refine zlc ?_;refine zoc ?_;refine zlc ?_;refine zoc ?_;refine zvh ?_;refine z1e ?_;refine zA ?_;refine zk ?_;refine zb rfl ?_;refine w_c ?_;refine z6f ?_;with_reducible refine ⟨_,rfl,?_⟩)
      have hdec:decide ((R.getD m 0:Int) - (zwu ds m:Nat)<0)=zJp R ds m:=by
        unfold zJp
        exact decide_eq_decide.mpr (by first|decide|omega)
      rw [hdec]
      refine ⟨fun h1=>?_,fun h1=>?_⟩
      · (refine zab ?_;refine zMd ?_;refine zc ?_;refine w_c ?_;refine zc ?_;refine zb rfl ?_;refine zn ?_)
        have:=q μ2 k1
        unfold z3j at this
        rw [zse hb,z9j h1 hm hr] at this
        exact this
      · (refine z9 ?_)
        refine ⟨_,_,_,rfl,rfl,fun j hj=>?_⟩
        by_cases e:j=m
        · subst e;exact h1
        · exact hr j (by first|decide|omega)
    · rintro δ μ2 ⟨a,b,c,rfl,rfl,hr⟩
      simp only [length_map,length_range] at hr
      (refine zab ?_;refine w_c ?_)
      have:=q μ2 k1
      unfold z3j at this
      rw [zse hb,zse hr] at this
      exact this
noncomputable abbrev PT:=List (Nat×Nat×Option Nat)
noncomputable def dkP (P:PT):List (Int×D):=P.map fun p=>((p.1:Int), .tup [.int (p.2.1:Nat),onD p.2.2])
theorem z6n (P:PT):zqi (dkP P)=nat (P.map (·.1)):=by
  unfold zqi dkP
  rw [map_map,zel]
  rfl
theorem zon (P:PT) (h:Nat):((dkP P).any fun p=>decide (p.1=(h:Int)))=decide (h∈P.map (·.1)):=by
  refine zag ?_
  unfold dkP
  rw [any_map,List.any_eq_true]
  simp only [Function.comp,decide_eq_true_iff,mem_map]
  constructor
  · rintro ⟨p,hp,e⟩
    exact ⟨p,hp,by first|decide|omega⟩
  · rintro ⟨p,hp,e⟩
    exact ⟨p,hp,by first|decide|omega⟩
theorem zCi {P:PT} {h:Nat}:(zSc (dkP P) (h:Int)).isSome=decide (h∈P.map (·.1)):=by
  rw [← zon,Bool.eq_iff_iff]
  unfold zSc
  rw [Option.isSome_map,List.find?_isSome,List.any_eq_true]
theorem zvt {P:PT} (nd:(P.map (·.1)).Nodup) {p:Nat×Nat×Option Nat} (hp:p∈P):zSc (dkP P) (p.1:Int)=some (.tup [.int (p.2.1:Nat),onD p.2.2]):=by
  induction P with
  | nil=>cases hp
  | cons q P ih =>
    rw [map_cons,nodup_cons] at nd
    have e:zSc (dkP (q :: P)) (p.1:Int)=if (q.1:Int)=p.1 then some (.tup [.int (q.2.1:Nat),onD q.2.2]) else zSc (dkP P) (p.1:Int):=by
      unfold zSc dkP
      rw [map_cons,List.find?_cons]
      by_cases h:(q.1:Int)=p.1
      · simp [h]
      · simp [h]
    rw [e]
    rcases List.mem_cons.mp hp with rfl | hp
    · rw [if_pos rfl]
    · rw [if_neg,ih nd.2 hp]
      intro h
      refine nd.1 (List.mem_map.mpr ⟨p,hp,by first|decide|omega⟩)
theorem zWp {P:PT} {h k:Nat} {f:Option Nat} (hn:h∉P.map (·.1)):zSp (dkP P) (h:Int) (.tup [.int k,onD f])=dkP (P ++ [(h,k,f)]):=by
  unfold zSp
  rw [zon,decide_eq_false hn,if_neg Bool.false_ne_true]
  simp [dkP]
theorem zJt {P:PT} {h k:Nat} {f:Option Nat} (hn:h∈P.map (·.1)) (ha:∀ p∈P,p.2=(k,f)):zSp (dkP P) (h:Int) (.tup [.int k,onD f])=dkP P:=by
  unfold zSp
  rw [zon,decide_eq_true hn,if_pos rfl]
  unfold dkP
  rw [map_map]
  refine List.map_congr_left fun p hp=>?_
  simp only [Function.comp]
  split
  · rw [ha p hp]
  · rfl
structure Tree (R:List Nat) (K:List (List Nat)) (lay:List (Option Nat)) (key:Nat) (P:PT):Prop where
  nd:(P.map (·.1)).Nodup
  lt:∀ p∈P,p.1<R.length
  ok:∀ (i:Nat) p,P[i]?=some p→p.2.1<K.length∧p.1∈K.getD p.2.1 []∧((p.2.2=none∧p.2.1=key)∨∃ (j:Nat) (q:Nat×Nat×Option Nat),j<i∧P[j]?=some q∧p.2.2=some q.1∧lay.getD p.2.1 none=some q.1)
theorem Tree.len {lay:List (Option Nat)} {key:Nat} {P:PT} (t:Tree R K lay key P):P.length≤R.length:=by
  have:=zob t.nd (m:=List.range R.length) fun x hx=>by
    obtain ⟨p,hp,rfl⟩:=List.mem_map.mp hx
    simpa using t.lt p hp
  simpa using this
theorem Tree.add {lay:List (Option Nat)} {key:Nat} {P:PT} (t:Tree R K lay key P) {h k:Nat} {f:Option Nat} (hn:h∉P.map (·.1)) (hr:h<R.length) (hk:k<K.length) (hm:h∈K.getD k [])
    (hf:(f=none∧k=key)∨∃ (j:Nat) (q:Nat×Nat×Option Nat),P[j]?=some q∧f=some q.1∧lay.getD k none=some q.1):Tree R K lay key (P ++ [(h,k,f)]):=by
  refine ⟨?_,fun p hp=>?_,fun i p e=>?_⟩
  · rw [map_append,nodup_append]
    refine ⟨t.nd,by simp,fun a ha b hb=>?_⟩
    simp at hb
    subst hb
    exact fun e=>hn (e▸ha)
  · rcases List.mem_append.mp hp with hp | hp
    · exact t.lt p hp
    · rw [List.mem_singleton.mp hp];exact hr
  · by_cases hi:i<P.length
    · rw [List.getElem?_append_left hi] at e
      obtain ⟨h1,h2,h3⟩:=t.ok i p e
      refine ⟨h1,h2,?_⟩
      rcases h3 with h3 | ⟨j,q,hj,eq,h4⟩
      · exact .inl h3
      · exact .inr ⟨j,q,hj,by rw [List.getElem?_append_left (by first|decide|omega)];exact eq,h4⟩
    · rw [List.getElem?_append_right (by first|decide|omega)] at e
      have hi0:i - P.length=0:=by
        have:=(List.getElem?_eq_some_iff.mp e).1
        simp at this;omega
      rw [hi0] at e
      have e:(h,k,f)=p:=by simpa using e
      subst e
      refine ⟨hk,hm,?_⟩
      rcases hf with hf | ⟨j,q,eq,h4⟩
      · exact .inl hf
      · have hj:=(List.getElem?_eq_some_iff.mp eq).1
        exact .inr ⟨j,q,by first|decide|omega,by rw [List.getElem?_append_left hj];exact eq,h4⟩
def zNp (d l:Nat) (μ ν:Mem):Prop:=∀ i o,i≠d→i≠l→μ[i]?=some o→ν[i]?=some o
abbrev JPa (R:List Nat) (K:List (List Nat)) (lay:List (Option Nat)) (key n d l2 at_ o:Nat) (P0:PT) (ν:Mem):Nat→M.Loc→Mem→Prop:=fun m δ ν'=>∃ (P:PT) (x:Option D),δ = [some (wn R K),some (.loc n),some (.int key),some (.loc d),x,some (.loc l2),some (.int at_),some (.int o)]∧(∃ E,P=P0++E)∧Tree R K lay key P∧(∀ h∈(K.getD o []).take m,h∈P.map (·.1))∧zNp d l2 ν ν'∧ν'[d]?=some (.dct (dkP P))∧ν'[l2]?=some (.lst (nat (P.map (·.1))))
theorem zbs {L:Nat} {lay:List (Option Nat)} {key n d l2 at_ o:Nat} {P0:PT} {q:Nat×Nat×Option Nat} {x4:Option D} {ν:Mem} {nx:M.Loc→Mem→Prop} {rt:D→Mem→Prop} {bk ct:M.Loc→Mem→Prop} (w:Wb L R K) (t:Tree R K lay key P0) (ho:o<K.length) (hq:P0[at_]?=some q) (hlo:lay.getD o none=some q.1)
    (hl2:d<l2) (gd:ν[d]?=some (.dct (dkP P0))) (gl:ν[l2]?=some (.lst (nat (P0.map (·.1)))))
    (k:∀ (P:PT) (x:Option D) (ν':Mem),(∃ E,P=P0++E)→Tree R K lay key P→(∀ h∈K.getD o [],h∈P.map (·.1))→zNp d l2 ν ν'→ν'[d]?=some (.dct (dkP P))→ν'[l2]?=some (.lst (nat (P.map (·.1))))→nx [some (wn R K),some (.loc n),some (.int key),some (.loc d),x,some (.loc l2),some (.int at_),some (.int o)] ν') :
    WS zUd [some (wn R K),some (.loc n),some (.int key),some (.loc d),x4,some (.loc l2),some (.int at_),some (.int o)] ν nx rt bk ct:=by
  unfold zUd
  refine zLd (zrd (zk (zk (zb rfl (w_c (zOc (zb rfl (z0m ho (.inl ⟨_,rfl,?_⟩)))))))))
  refine zsb (JPa R K lay key n d l2 at_ o P0 ν) ⟨P0,_,rfl,⟨[],by simp⟩,t,by simp,fun _ _ _ _ e=>e,gd,gl⟩ (fun _ _ _ _=>rfl) ?_ ?_
  · rintro m x δ ν1 hx ⟨P,y,rfl,⟨E,hE⟩,tP,hm,k1,g1,g2⟩
    rw [List.getElem?_map] at hx
    cases hy:(K.getD o [])[m]? with
    | none=>rw [hy] at hx;cases hx
    | some h =>
      rw [hy] at hx
      cases hx
      have hmem:=mem_of_getElem? hy
      have htk:(K.getD o []).take (m+1)=(K.getD o []).take m ++ [h]:=by rw [take_succ,hy];rfl
      have hpl:=tP.len
      have hrl:=w.rl
      have hat:(P.map (·.1))[at_]?=some q.1:=by
        have hlt:=(List.getElem?_eq_some_iff.mp hq).1
        rw [hE,map_append,List.getElem?_append_left (by simpa using hlt),List.getElem?_map,hq]
        rfl
      refine zoc ?_
      unfold zZf
      refine z1e (zA (zk (zb rfl (zb rfl (zTr (z4j g1) ⟨_,rfl,fun hb=>?_,fun hb=>z9 ?_⟩)))))
      · have hnew:h∉P.map (·.1):=by
          rw [zCi] at hb
          simpa using hb
        refine zr (z5i (zMd (zc (zb rfl (zc (zk (zb rfl (zb rfl (zRc (zx g2) (zYd (v := .int (q.1:Nat)) (by rw [List.getElem?_map,hat];rfl)) (zn ?_))))))))))
        refine zQs (zb rfl (zb rfl ⟨_,_,_,rfl,rfl,g1,by simp [dkP];omega,?_⟩))
        rw [show (D.tup [.int (o:Nat), .int (q.1:Nat)]) = .tup [.int (o:Nat),onD (some q.1)] from rfl,zWp hnew]
        have g1':=zK (o':=LObj.dct (dkP (P ++ [(h,o,some q.1)]))) g1
        have g2':=zI (o':=LObj.dct (dkP (P ++ [(h,o,some q.1)]))) g2 (by omega:d≠l2)
        refine zoe (z8d (zb rfl ⟨_,_,rfl,g2',?_⟩))
        refine zc (zb rfl (zn ?_))
        refine zQe g2' (by rw [length_map,length_map];omega) ?_
        have hatP:P[at_]?=some q:=by
          have hlt:=(List.getElem?_eq_some_iff.mp hq).1
          rw [hE,List.getElem?_append_left hlt]
          exact hq
        refine ⟨P ++ [(h,o,some q.1)],_,rfl,⟨E ++ [(h,o,some q.1)],by rw [hE];simp⟩,tP.add hnew ((w.key ho).2 h hmem) ho hmem (.inr ⟨at_,q,hatP,rfl,hlo⟩),fun g hg=>?_,fun i o' hi1 hi2 e'=>zI (zI (k1 i o' hi1 hi2 e') (Ne.symm hi1)) (Ne.symm hi2),zI g1' (by first|decide|omega),?_⟩
        · rw [htk] at hg
          rw [map_append,mem_append]
          rcases List.mem_append.mp hg with hg | hg
          · exact .inl (hm g hg)
          · rw [List.mem_singleton.mp hg];exact .inr (by simp)
        · rw [zK g2',map_append,zCc]
          rfl
      · have hold:h∈P.map (·.1):=by
          rw [zCi] at hb
          simpa using hb
        refine ⟨P,_,rfl,⟨E,hE⟩,tP,fun g hg=>?_,k1,g1,g2⟩
        rw [htk] at hg
        rcases List.mem_append.mp hg with hg | hg
        · exact hm g hg
        · rw [List.mem_singleton.mp hg];exact hold
  · rintro δ ν1 ⟨P,y,rfl,hE,tP,hm,k1,g1,g2⟩
    rw [length_map,take_length] at hm
    exact k P y ν1 hE tP hm k1 g1 g2
abbrev JPb (R:List Nat) (K:List (List Nat)) (lay:List (Option Nat)) (key n:Nat) (μ:Mem):Nat→M.Loc→Mem→Prop:=fun m δ ν=>∃ (P:PT) (x:Option D),δ = [some (wn R K),some (.loc n),some (.int key),some (.loc μ.length),x,none,none,none]∧Tree R K lay key P∧(∀ p∈P,p.2=(key,none))∧(∀ h∈(K.getD key []).take m,h∈P.map (·.1))∧Keep μ ν∧ν[μ.length]?=some (.dct (dkP P))
abbrev JPc (R:List Nat) (K:List (List Nat)) (lay:List (Option Nat)) (key n:Nat) (μ ν1:Mem):Nat→M.Loc→Mem→Prop:=fun m δ ν=>∃ (P:PT) (at_:Nat) (x y:Option D),m=R.length - at_∧at_≤P.length∧δ = [some (wn R K),some (.loc n),some (.int key),some (.loc μ.length),x,some (.loc ν1.length),some (.int at_),y]∧Tree R K lay key P∧(∀ h∈K.getD key [],h∈P.map (·.1))∧(∀ (i:Nat) p,i<at_→P[i]?=some p→∀ o,lay.getD o none=some p.1→∀ h∈K.getD o [],h∈P.map (·.1))∧Keep μ ν∧ν[μ.length]?=some (.dct (dkP P))∧ν[ν1.length]?=some (.lst (nat (P.map (·.1))))
abbrev JPd (R:List Nat) (K:List (List Nat)) (lay:List (Option Nat)) (key n:Nat) (μ ν1:Mem) (at_:Nat) (P:PT) (q0:Nat×Nat×Option Nat) (l4:Nat):Nat→M.Loc→Mem→Prop:=fun j δ ν=>∃ (P':PT) (x y:Option D),δ = [some (wn R K),some (.loc n),some (.int key),some (.loc μ.length),x,some (.loc ν1.length),some (.int at_),y]∧(∃ E,P'=P++E)∧Tree R K lay key P'∧(∀ o∈(zWj lay q0.1).take j,∀ h∈K.getD o [],h∈P'.map (·.1))∧Keep μ ν∧ν[μ.length]?=some (.dct (dkP P'))∧ν[ν1.length]?=some (.lst (nat (P'.map (·.1))))∧ν[l4]?=some (.lst (nat (zWj lay q0.1)))
theorem zjn {L:Nat} {lay:List (Option Nat)} {key n:Nat} (w:Wb L R K) (hlen:lay.length=K.length) (hL:L≤1000) (hn:μ[n]?=some (.lst (lay.map onD))) (hk:key<K.length)
    (q:∀ (P:PT) (d:Nat) (μ':Mem),Tree R K lay key P→(∀ h∈K.getD key [],h∈P.map (·.1))→(∀ p∈P,∀ o,lay.getD o none=some p.1→∀ h∈K.getD o [],h∈P.map (·.1))→Keep μ μ'→μ.length≤d→μ'[d]?=some (.dct (dkP P))→Q (.loc d) μ'):WF zId [wn R K, .loc n, .int key] μ Q:=by
  have hrl:=w.rl
  have hkl:=w.kl
  refine zFb rfl ?_
  show WS zKd [some (wn R K),some (.loc n),some (.int key),none,none,none,none,none] μ _ _ _ _
  unfold zKd
  refine zr (zdb (zow (zr (zLd (zrd (zk (zk (zb rfl (w_c (zOc (zb rfl (z0m hk (.inl ⟨_,rfl,?_⟩))))))))))))) 
  refine zsb (JPb R K lay key n μ) ⟨[],_,rfl,⟨by simp,by simp,fun i p e=>by simp at e⟩,by simp,by simp, .app,zt⟩ (fun _ _ _ _=>rfl) ?_ ?_
  · rintro m x δ ν1 hx ⟨P,y,rfl,tP,ha,hm,k1,g1⟩
    rw [List.getElem?_map] at hx
    cases hy:(K.getD key [])[m]? with
    | none=>rw [hy] at hx;cases hx
    | some h =>
      rw [hy] at hx
      cases hx
      have hmem:=mem_of_getElem? hy
      have htk:(K.getD key []).take (m+1)=(K.getD key []).take m ++ [h]:=by rw [take_succ,hy];rfl
      have hpl:=tP.len
      refine zoc ?_
      unfold zJf
      refine z5i (zMd (zc (zb rfl (zc (w_c (zn ?_))))))
      refine zQs (zb rfl (zb rfl ⟨_,_,_,rfl,rfl,g1,by simp [dkP];omega,?_⟩))
      rw [show (D.tup [.int (key:Nat), .non]) = .tup [.int (key:Nat),onD none] from rfl]
      have kk:∀ o':LObj,Keep μ (ν1.set μ.length o'):=fun o' i o e=>zI (k1 i o e) (Nat.ne_of_gt (zz e))
      by_cases hin:h∈P.map (·.1)
      · rw [zJt hin ha]
        refine ⟨P,_,rfl,tP,ha,fun g hg=>?_,kk _,zK g1⟩
        rw [htk] at hg
        rcases List.mem_append.mp hg with hg | hg
        · exact hm g hg
        · rw [List.mem_singleton.mp hg];exact hin
      · rw [zWp hin]
        refine ⟨P ++ [(h,key,none)],_,rfl,tP.add hin ((w.key hk).2 h hmem) hk hmem (.inl ⟨rfl,rfl⟩),fun p hp=>?_,fun g hg=>?_,kk _,zK g1⟩
        · rcases List.mem_append.mp hp with hp | hp
          · exact ha p hp
          · rw [List.mem_singleton.mp hp]
        · rw [htk] at hg
          rw [map_append,mem_append]
          rcases List.mem_append.mp hg with hg | hg
          · exact .inl (hm g hg)
          · rw [List.mem_singleton.mp hg];exact .inr (by simp)
  · rintro δ ν1 ⟨P0,y,rfl,tP0,_,hm0,k1,g1⟩
    rw [length_map,take_length] at hm0
    refine zr (zdb (zp (zc (zb rfl (zn (znt (z4j g1) ?_))))))
    rw [z6n]
    have hl2:μ.length < ν1.length:=zz g1
    refine zr (zdb (w_c (zr ?_)))
    refine zKk (JPc R K lay key n μ ν1) (m:=R.length) (by first|decide|omega) ⟨P0,0,_,_,by simp,by simp,rfl,tP0,hm0,by simp,k1.to,zF g1,zt⟩ ?_
    rintro m δ ν2 ⟨P,at_,x,y,rfl,hat,rfl,tP,hkey,hcl,k2,g2,g3⟩
    have hpl:=tP.len
    (refine zA ?_;refine zk ?_;refine zb rfl ?_;refine zp ?_;refine zc ?_;refine zb rfl ?_;refine zn ?_)
    refine zbe (zx g3) ?_
    refine z6f ⟨_,rfl,fun h1=>?_,fun h1=>?_⟩
    · have h1:at_<P.length:=by
        have:=of_decide_eq_true h1
        simp only [length_map] at this
        omega
      have hq:P[at_]?=some P[at_]:=by simp [h1]
      generalize P[at_]=q0 at hq
      have hat':(P.map (·.1))[at_]?=some q0.1:=by rw [List.getElem?_map,hq];rfl
      unfold zVf
      refine zr (zLd (zrd (zp (zc (zb rfl (zc (zk (zb rfl (zb rfl (zRc (zx g3) (zYd (v := .int (q0.1:Nat)) (by rw [List.getElem?_map,hat'];rfl)) (zn ?_)))))))))))
      refine zFs (h:=q0.1) (k2 _ _ hn) (by first|decide|omega) fun l4 ν4 k4 hl4 g4 => .inr (.inr ⟨l4,_,rfl,g4,?_⟩)
      have hν2:=zz g3
      refine zsb (JPd R K lay key n μ ν1 at_ P q0 l4) ⟨P,_,_,rfl,⟨[],by simp⟩,tP,by simp,k2.trans k4,k4 _ _ g2,k4 _ _ g3,g4⟩ (fun j δ ν ⟨_,_,_,_,_,_,_,_,_,_,h⟩=>z5 h .refl) ?_ ?_
      · rintro j z δ ν5 hz ⟨P',x',y',rfl,⟨E,hE⟩,tP',hdone,k5,g5,g6,g7⟩
        rw [List.getElem?_map] at hz
        cases ho:(zWj lay q0.1)[j]? with
        | none=>rw [ho] at hz;cases hz
        | some o =>
          rw [ho] at hz
          cases hz
          have hom:=mem_of_getElem? ho
          have hom':=List.mem_filter.mp hom
          have hol:o<K.length:=by rw [← hlen];simpa using hom'.1
          have hlo:=of_decide_eq_true hom'.2
          have htk:(zWj lay q0.1).take (j+1)=(zWj lay q0.1).take j ++ [o]:=by rw [take_succ,ho];rfl
          have hq':P'[at_]?=some q0:=by rw [hE,List.getElem?_append_left h1];exact hq
          refine zoc ?_
          have hl5:=zz g6
          refine zbs w tP' hol hq' hlo hl2 g5 g6 fun P'' x'' ν6 ⟨E',hE'⟩ tP'' hall k6 g8 g9=>⟨P'',_,_,rfl,⟨E++E',by rw [hE',hE,append_assoc]⟩,tP'',fun o' ho' h hh=>?_,fun i o' e'=>k6 i o' (Nat.ne_of_lt (zz e')) (by have:=zz e';omega) (k5 i o' e'),g8,g9,k6 l4 _ (by first|decide|omega) (by first|decide|omega) g7⟩
          rw [htk] at ho'
          rcases List.mem_append.mp ho' with ho' | ho'
          · rw [hE',map_append,mem_append]
            exact .inl (hdone o' ho' h hh)
          · rw [List.mem_singleton.mp ho'] at hh
            exact hall h hh
      · rintro δ ν5 ⟨P',x',y',rfl,⟨E,hE⟩,tP',hdone,k5,g5,g6,g7⟩
        rw [nat,length_map,take_length] at hdone
        have hpl':=tP'.len
        refine zzx rfl (w_c (zNv ?_))
        refine ⟨R.length - (at_+1),by first|decide|omega,P',at_+1,_,_,rfl,by rw [hE];simp;omega,rfl,tP',fun h hh=>?_,fun i p hi e o ho h hh=>?_,k5,g5,g6⟩
        · rw [hE,map_append,mem_append]
          exact .inl (hkey h hh)
        · by_cases hia:i<at_
          · rw [hE,List.getElem?_append_left (by first|decide|omega)] at e
            rw [hE,map_append,mem_append]
            exact .inl (hcl i p hia e o ho h hh)
          · have:i=at_:=by omega
            subst this
            rw [hE,List.getElem?_append_left h1,hq] at e
            cases e
            refine hdone o ?_ h hh
            refine List.mem_filter.mpr ⟨?_,decide_eq_true ho⟩
            rw [mem_range]
            refine Nat.lt_of_not_le fun hle=>?_
            rw [getD_eq_getElem?_getD,List.getElem?_eq_none hle] at ho
            cases ho
    · refine zab (zb rfl ?_)
      have h1:at_=P.length:=by
        have:=of_decide_eq_false h1
        simp only [length_map] at this
        omega
      refine q P _ ν2 tP hkey (fun p hp o e h hh=>?_) k2 (Nat.le_refl _) g2
      obtain ⟨i,hi,rfl⟩:=List.mem_iff_getElem.mp hp
      exact hcl i P[i] (by first|decide|omega) (by simp [hi]) o e h hh
noncomputable abbrev pD (p:Nat×Nat):D := .tup [.int (p.1:Nat), .int (p.2:Nat)]
inductive Path (P:PT) (lay:List (Option Nat)):Nat→List (Nat×Nat)→Prop
  | one {i:Nat} {p:Nat×Nat×Option Nat} (e:P[i]?=some p):Path P lay i [(p.2.1,p.1)]
  | up {i j:Nat} {p q:Nat×Nat×Option Nat} {row:List (Nat×Nat)} (h:Path P lay i row) (e:P[i]?=some p) (eq:P[j]?=some q) (hj:j<i) (hf:p.2.2=some q.1) (hl:lay.getD p.2.1 none=some q.1):Path P lay j ((q.2.1,q.1) :: row)
theorem Path.head {P:PT} {lay:List (Option Nat)} {i:Nat} {row:List (Nat×Nat)} (h:Path P lay i row):∃ p r,P[i]?=some p∧row=(p.2.1,p.1) :: r:=by
  cases h with
  | one e=>exact ⟨_,_,e,rfl⟩
  | up h e eq hj hf hl=>exact ⟨_,_,eq,rfl⟩
theorem Path.idx {P:PT} {lay:List (Option Nat)} {i:Nat} {row:List (Nat×Nat)} (h:Path P lay i row):∀ x∈row,∃ j p,i≤j∧P[j]?=some p∧x=(p.2.1,p.1):=by
  induction h with
  | one e=>intro x hx;rw [List.mem_singleton.mp hx];exact ⟨_,_,Nat.le_refl _,e,rfl⟩
  | up h e eq hj hf hl ih =>
    intro x hx
    rcases List.mem_cons.mp hx with rfl | hx
    · exact ⟨_,_,Nat.le_refl _,eq,rfl⟩
    · obtain ⟨m,p,hm,e',r⟩:=ih x hx
      exact ⟨m,p,by first|decide|omega,e',r⟩
theorem Path.tail {P:PT} {lay:List (Option Nat)} {i:Nat} {row:List (Nat×Nat)} (h:Path P lay i row):∀ x∈row.tail,∃ j p,i≤j∧P[j]?=some p∧lay.getD x.1 none=some p.1:=by
  induction h with
  | one e=>intro x hx;cases hx
  | up h e eq hj hf hl ih =>
    intro x hx
    obtain ⟨p',r,e',er⟩:=h.head
    rw [e] at e'
    cases e'
    rw [List.tail_cons,er] at hx
    rcases List.mem_cons.mp hx with rfl | hx
    · exact ⟨_,_,Nat.le_refl _,eq,hl⟩
    · obtain ⟨m,p,hm,e',r⟩:=ih x (by rw [er];exact hx)
      exact ⟨m,p,by first|decide|omega,e',r⟩
theorem Path.link {P:PT} {lay:List (Option Nat)} {i:Nat} {row:List (Nat×Nat)} (h:Path P lay i row):∀ n p q,row[n]?=some p→row[n+1]?=some q→lay.getD q.1 none=some p.2:=by
  induction h with
  | one e=>intro n p q _ e2;simp at e2
  | up h e eq hj hf hl ih =>
    intro n p q e1 e2
    cases n with
    | zero =>
      obtain ⟨p',r,e',er⟩:=h.head
      rw [e] at e'
      cases e'
      rw [er] at e2
      simp at e1 e2
      subst e1 e2
      exact hl
    | succ n=>exact ih n p q (by simpa using e1) (by simpa using e2)
theorem zqw {P:PT} (nd:(P.map (·.1)).Nodup) {i j:Nat} {p q:Nat×Nat×Option Nat} (e1:P[i]?=some p) (e2:P[j]?=some q) (h:p.1=q.1):i=j:=by
  have h1:(P.map (·.1))[i]?=some p.1:=by rw [List.getElem?_map,e1];rfl
  have h2:(P.map (·.1))[j]?=some p.1:=by rw [List.getElem?_map,e2,h];rfl
  obtain ⟨a,h1⟩:=List.getElem?_eq_some_iff.mp h1
  obtain ⟨b,h2⟩:=List.getElem?_eq_some_iff.mp h2
  have pw:=List.pairwise_iff_getElem.mp nd
  rcases Nat.lt_trichotomy i j with h | h | h
  · exact absurd (h1.trans h2.symm) (pw i j a b h)
  · exact h
  · exact absurd (h2.trans h1.symm) (pw j i b a h)
theorem Path.ndk {P:PT} {lay:List (Option Nat)} {key i:Nat} {row:List (Nat×Nat)} (t:Tree R K lay key P) (hkey:lay.getD key none=none) (h:Path P lay i row):(row.map (·.1)).Nodup:=by
  induction h with
  | one e=>simp
  | @up i j p q row h e eq hj hf hl ih =>
    rw [map_cons,nodup_cons]
    refine ⟨fun hm=>?_,ih⟩
    obtain ⟨x,hx,ex⟩:=List.mem_map.mp hm
    have ht:=(Path.up h e eq hj hf hl).tail x hx
    obtain ⟨m,p',hm',e',el⟩:=ht
    rw [ex] at el
    obtain ⟨_,_,h3⟩:=t.ok j q eq
    rcases h3 with ⟨_,h3⟩ | ⟨j',q',hj',eq',_,h4⟩
    · simp only at el
      rw [h3,hkey] at el
      cases el
    · simp only at el
      rw [h4] at el
      have:=zqw t.nd eq' e' (by injection el)
      omega
theorem Path.ok {P:PT} {lay:List (Option Nat)} {key i:Nat} {row:List (Nat×Nat)} {p:Nat×Nat×Option Nat} (t:Tree R K lay key P) (hkey:lay.getD key none=none) (h:Path P lay i row) (e:P[i]?=some p) (hp:p.2.2=none):RowOk K lay key row:=by
  refine ⟨?_,fun x hx=>?_,h.link,h.ndk t hkey⟩
  · obtain ⟨p',r,e',er⟩:=h.head
    rw [e] at e'
    cases e'
    rcases (t.ok i p e).2.2 with ⟨_,h3⟩ | ⟨_,_,_,_,h3,_⟩
    · exact ⟨p.1,r,by rw [er,h3]⟩
    · rw [hp] at h3;cases h3
  · obtain ⟨j,q,_,eq,rfl⟩:=h.idx x hx
    obtain ⟨h1,h2,h3⟩:=t.ok j q eq
    refine ⟨h1,h2,?_⟩
    rcases h3 with ⟨_,h3⟩ | ⟨j',q',hj',eq',_,h4⟩
    · simp only
      rw [h3,hkey]
      exact fun h=>by cases h
    · simp only
      rw [h4]
      intro h
      have:=zqw t.nd eq' eq (by injection h)
      omega
abbrev JRo (P:PT) (lay:List (Option Nat)) (p0:Nat×Nat×Option Nat) (d:Nat) (μ:Mem):Nat→M.Loc→Mem→Prop:=fun m δ ν=>∃ (acc:List (Nat×Nat)) (f:Option Nat),δ = [some (.loc d),some (onD f),some (.loc μ.length)]∧Keep μ ν∧ν[μ.length]?=some (.lst (acc.map pD))∧acc.length+m≤P.length ∧
    ((f=none∧(∃ k,acc[0]?=some (k,p0.1))∧∃ i p,Path P lay i acc.reverse∧P[i]?=some p∧p.2.2=none) ∨
     (∃ i p,m=i+1∧P[i]?=some p∧f=some p.1∧((acc = []∧p=p0)∨((∃ k,acc[0]?=some (k,p0.1))∧∃ i' p',i<i'∧Path P lay i' acc.reverse∧P[i']?=some p'∧p'.2.2=some p.1∧lay.getD p'.2.1 none=some p.1))))
theorem zvs {lay:List (Option Nat)} {key d i0:Nat} {p0:Nat×Nat×Option Nat} {P:PT} (t:Tree R K lay key P) (hR:R.length≤10) (hkey:lay.getD key none=none) (hd:zSb μ (.loc d)=some (dkP P)) (hp0:P[i0]?=some p0)
    (q:∀ (row:List (Nat×Nat)) (l:Nat) (μ':Mem),RowOk K lay key row→(row.getD (row.length - 1) (0,0)).2=p0.1→row.length≤P.length→Keep μ μ'→μ.length≤l→μ'[l]?=some (.lst (row.map pD))→Q (.loc l) μ'):WF zIh [.loc d, .int p0.1] μ Q:=by
  have hpl:=t.len
  refine zFb rfl ?_
  show WS zDh [some (.loc d),some (.int p0.1),none] μ _ _ _ _
  unfold zDh
  refine zr (zdb (zcg (zn (zr ?_))))
  have hi0:=(List.getElem?_eq_some_iff.mp hp0).1
  have hdk:∀ {μ':Mem},Keep μ μ'→zSb μ' (.loc d)=some (dkP P):=fun {μ'} kp=>by
    cases e:μ[d]? with
    | none=>simp [e] at hd
    | some o =>
      have e':=kp _ _ e
      simp only [zSb,e] at hd
      simp only [zSb,e']
      exact hd
  refine zKk (JRo P lay p0 d μ) (m:=i0+1) (by first|decide|omega)
    ⟨[],some p0.1,rfl, .app,zt,by simp;omega, .inr ⟨i0,p0,rfl,hp0,rfl, .inl ⟨rfl,rfl⟩⟩⟩ ?_
  rintro m δ ν ⟨acc,f,rfl,kp,g,hlen,h⟩
  refine zA (zk (zb rfl (w_c (zAe (zKn _) ⟨_,rfl,fun h1=>?_,fun h1=>?_⟩))))
  · rcases h with ⟨rfl,_⟩ | ⟨i,p,rfl,ep,rfl,h⟩
    · cases h1
    · have hlook:=zvt t.nd (mem_of_getElem? ep)
      have hnew:Path P lay i ((p.2.1,p.1) :: acc.reverse):=by
        rcases h with ⟨rfl,rfl⟩ | ⟨_,i',p',hi',hpa,ep',hf,hl⟩
        · exact .one ep
        · exact .up hpa ep' ep hi' hf hl
      have hac:∃ k,(acc ++ [(p.2.1,p.1)])[0]?=some (k,p0.1):=by
        rcases h with ⟨rfl,rfl⟩ | ⟨⟨k,hk⟩,_⟩
        · exact ⟨p.2.1,rfl⟩
        · refine ⟨k,?_⟩
          rw [List.getElem?_append_left (List.getElem?_eq_some_iff.mp hk).1]
          exact hk
      unfold zXj
      refine zr (zoe (z8d (zb rfl ⟨_,_,rfl,g,?_⟩)))
      refine zc (zMd (zc (zk (zk (zb rfl (zb rfl (zXu (hdk kp) hlook (w_c (zRc rfl rfl (zc (zb rfl (zn (zn ?_)))))))))))))
      refine zQe g (by rw [length_map];omega) ?_
      have kp2:Keep μ (ν.set μ.length (.lst (acc.map pD ++ [pD (p.2.1,p.1)]))):=fun a o e=>zI (kp a o e) (Nat.ne_of_gt (zz e))
      refine zdb (zk (zk (zb rfl (zb rfl (zXu (hdk kp2) hlook (w_c (zRc rfl rfl ?_)))))))
      obtain ⟨_,_,h3⟩:=t.ok i p ep
      rcases h3 with ⟨h3,_⟩ | ⟨j,q',hj,eq',h3,h4⟩
      · refine ⟨0,by first|decide|omega,acc ++ [(p.2.1,p.1)],none,?_,kp2,?_,by rw [length_append];simp;omega, .inl ⟨rfl,hac,i,p,?_,ep,h3⟩⟩
        · rw [h3];rfl
        · rw [zK g,map_append];rfl
        · rw [List.reverse_append];exact hnew
      · refine ⟨j+1,by first|decide|omega,acc ++ [(p.2.1,p.1)],some q'.1,?_,kp2,?_,by rw [length_append];simp;omega, .inr ⟨j,q',rfl,eq',rfl, .inr ⟨hac,i,p,hj,?_,ep,h3,h4⟩⟩⟩
        · rw [h3];rfl
        · rw [zK g,map_append];rfl
        · rw [List.reverse_append];exact hnew
  · rcases h with ⟨rfl,⟨k,hk⟩,i,p,hpa,ep,hn⟩ | ⟨i,p,rfl,ep,rfl,h⟩
    · refine zab (zPv (zb rfl ⟨_,_,rfl,g,?_⟩))
      refine q acc.reverse _ _ (hpa.ok t hkey ep hn) ?_ (by rw [List.length_reverse];omega) kp.to kp.len ?_
      · have h0:=(List.getElem?_eq_some_iff.mp hk).1
        have:acc.reverse[acc.reverse.length - 1]?=some (k,p0.1):=by
          rw [List.length_reverse,List.getElem?_reverse (by first|decide|omega),show acc.length - 1 - (acc.length - 1)=0 by omega]
          exact hk
        rw [getD_eq_getElem?_getD,this]
        rfl
      · rw [zt,List.map_reverse]
    · cases h1
noncomputable def zmv (P:PT) (lay:List (Option Nat)) (key:Nat):List Nat:=(List.range lay.length).filter fun o=>decide (o=key) || decide (∃ p∈P,lay.getD o none=some p.1)
theorem z2n {L:Nat} {lay:List (Option Nat)} {key n:Nat} (w:Wb L R K) (hlen:lay.length=K.length) (hL:L≤1000) (hn:μ[n]?=some (.lst (lay.map onD))) (hk:key<K.length) (hkey:lay.getD key none=none)
    (q1:∀ (row:List (Nat×Nat)) (l:Nat) (μ':Mem),RowOk K lay key row→lay.count (some (row.getD (row.length - 1) (0,0)).2)<R.getD (row.getD (row.length - 1) (0,0)).2 0→row.length≤10→Keep μ μ'→μ.length≤l→μ'[l]?=some (.lst (row.map pD))→Q (.tup [.str "put", .loc l]) μ')
    (q2:∀ (S:List Nat) (l:Nat) (μ':Mem),S.Sublist (List.range K.length)→key∈S→Shut R K lay S→Keep μ μ'→μ.length≤l→μ'[l]?=some (.lst (nat S))→Q (.tup [.str "full", .loc l]) μ'):WF z0e [wn R K, .loc n, .int key] μ Q:=by
  have hrl:=w.rl
  have hkl:=w.kl
  refine zFb rfl ?_
  show WS zBh [some (wn R K),some (.loc n),some (.int key),none,none,none] μ _ _ _ _
  unfold zBh
  refine zr (zdb (zp (zc (zb rfl (zc (zb rfl (zc (zb rfl (zn ?_)))))))))
  refine zjn w hlen hL hn hk fun P d μ1 t hhome hcl k1 hd g1=>?_
  refine zr (zdb (zp (zc (zb rfl (zc (zb rfl (zn ?_)))))))
  refine zlt w (k1 _ _ hn) fun l2 μ2 k2 hl2 g2=>?_
  have g1':=k2 _ _ g1
  have hpl:=t.len
  refine zr (zLd (zBt (zb rfl ⟨_,_,rfl,g1',?_⟩)))
  have hd1:d < μ1.length:=zz g1
  have kf:Keep μ (μ2.set d (.dcf (dkP P))):=fun i o e=>zI ((k1.trans k2) i o e) (by have:=zz e;omega)
  have gd:=zK (o':=LObj.dcf (dkP P)) g1'
  have gl:=zI (o':=LObj.dcf (dkP P)) g2 (by omega:d≠l2)
  generalize μ2.set d (.dcf (dkP P)) = μ3 at kf gd gl
  rw [z6n]
  refine zsb (fun m δ ν=>∃ x:Option D,δ = [some (wn R K),some (.loc n),some (.int key),some (.loc d),some (.loc l2),x]∧ν = μ3∧∀ (i:Nat) p,i<m→P[i]?=some p→R.getD p.1 0≤lay.count (some p.1)) ⟨_,rfl,rfl,by simp⟩ (fun _ _ _ _=>rfl) ?_ ?_
  · rintro m x δ ν hx ⟨y,rfl,rfl,hb⟩
    rw [List.getElem?_map,List.getElem?_map] at hx
    cases ep:P[m]? with
    | none=>rw [ep] at hx;cases hx
    | some p =>
      rw [ep] at hx
      cases hx
      have hlt:=t.lt p (mem_of_getElem? ep)
      refine zoc ?_
      unfold zDj
      refine z1e (zA (zk (zk (zb rfl (zb rfl (zRc (zx gl) (zYd (v := .int ((R.getD p.1 0:Int) - (lay.count (some p.1):Nat))) (by unfold z2t;simp [hlt])) (w_c (z6f ⟨_,rfl,fun h1=>?_,fun h1=>?_⟩))))))))
      · have h1:=of_decide_eq_true h1
        refine zab (zMd (zc (w_c (zc (zp (zc (zb rfl (zc (zb rfl (zn ?_))))))))))
        refine zvs t hrl.2 hkey (zUg gd) ep fun row l μ4 hrow hlast hrl4 k4 hl4 g4=>zn ?_
        refine q1 row l μ4 hrow ?_ (by first|decide|omega) (kf.trans k4) (by have:=kf.len;omega) g4
        rw [hlast]
        omega
      · have h1:=of_decide_eq_false h1
        refine z9 ⟨_,rfl,rfl,fun i p' hi e'=>?_⟩
        by_cases hm:i=m
        · subst hm
          rw [ep] at e'
          cases e'
          omega
        · exact hb i p' (by first|decide|omega) e'
  · rintro δ ν ⟨y,rfl,rfl,hb⟩
    rw [nat,length_map,length_map] at hb
    have hfull:∀ p∈P,R.getD p.1 0≤lay.count (some p.1):=fun p hp=>by
      obtain ⟨i,hi,rfl⟩:=List.mem_iff_getElem.mp hp
      exact hb i P[i] hi (by simp [hi])
    refine zab (zMd (zc (w_c (zc (zil ?_)))))
    refine z9g (zb rfl (.inr (.inr ⟨n,_,rfl,kf _ _ hn,zhc (by rw [zQb,length_map];omega),?_⟩)))
    rw [zMc onD lay none]
    refine zle (fun (k:Nat) => .tup [.int k,onD (lay.getD k none)]) (List.range lay.length) (fun (k:Nat)=>D.int k) (fun o=>decide (o=key) || decide (∃ p∈P,lay.getD o none=some p.1)) (fun μ' k'=>z5 (kf _ _ hn) k') (fun k hk' μ' kp=>?_) (fun μ' kp=>?_)
    · have gd':=kp _ _ gd
      refine zYh (zlc (zoc (zlc (zoc (zvh ?_)))))
      unfold zdk z8j
      refine zTg (zA (zk (zb rfl (zb rfl (zgj ⟨_,rfl,fun h1=>?_,fun h1=>?_⟩)))))
      · have h1:k≠key:=by
          intro e
          rw [e] at h1
          simp at h1
        rw [decide_eq_false h1,Bool.false_or]
        cases e:lay.getD k none with
        | none =>
          refine zA (zk (zb rfl (zb rfl (zpv (zUg gd') ?_ ⟨_,rfl,?_,kp,fun hb=>(by cases hb)⟩))))
          · rw [List.all_eq_true]
            intro x hx
            obtain ⟨p,hp,rfl⟩:=List.mem_map.mp hx
            have:=t.lt p hp
            exact decide_eq_true (by simp only;omega)
          · symm
            refine decide_eq_false ?_
            rintro ⟨p,_,e⟩
            cases e
        | some h =>
          refine zA (zk (zb rfl (zb rfl (zZv (zUg gd') ⟨_,rfl,?_,kp,fun hb=>zb rfl ⟨rfl,kp⟩⟩))))
          rw [zCi]
          refine decide_eq_decide.mpr ?_
          rw [mem_map]
          constructor
          · rintro ⟨p,hp,rfl⟩
            exact ⟨p,hp,rfl⟩
          · rintro ⟨p,hp,e⟩
            cases e
            exact ⟨p,hp,rfl⟩
      · have h1:k=key:=by
          have:=beq_iff_eq.mp h1
          omega
        rw [decide_eq_true h1,Bool.true_or]
        exact ⟨rfl,kp,fun _=>zb rfl ⟨rfl,kp⟩⟩
    · refine zn (q2 (zmv P lay key) _ _ ?_ ?_ ?_ (kf.trans kp.to) (kf.trans kp).len zt)
      · rw [← hlen];exact filter_sublist
      · exact List.mem_filter.mpr ⟨by simpa [hlen] using hk,by simp⟩
      · have hin:∀ k∈zmv P lay key,∀ h∈K.getD k [],∃ p∈P,p.1=h:=fun k hkm h hh=>by
          have hm:=(List.mem_filter.mp hkm).2
          rw [Bool.or_eq_true,decide_eq_true_iff,decide_eq_true_iff] at hm
          rcases hm with rfl | ⟨p,hp,e⟩
          · obtain ⟨p,hp,e⟩:=List.mem_map.mp (hhome h hh)
            exact ⟨p,hp,e⟩
          · obtain ⟨p',hp',e'⟩:=List.mem_map.mp (hcl p hp k e h hh)
            exact ⟨p',hp',e'⟩
        refine ⟨fun k hkm=>?_,fun k hkm h hh=>?_,fun k hkm h hh o e=>?_⟩
        · have:=(List.mem_filter.mp hkm).1
          rw [← hlen]
          simpa using this
        · obtain ⟨p,hp,rfl⟩:=hin k hkm h hh
          exact hfull p hp
        · obtain ⟨p,hp,rfl⟩:=hin k hkm h hh
          refine List.mem_filter.mpr ⟨?_,?_⟩
          · rw [mem_range]
            refine Nat.lt_of_not_le fun hle=>?_
            rw [getD_eq_getElem?_getD,List.getElem?_eq_none hle] at e
            cases e
          · rw [Bool.or_eq_true]
            exact .inr (decide_eq_true ⟨p,hp,e⟩)
theorem z0u {n m:Nat} {xs ys:List D} (h:μ[n]?=some (.lst xs)) (h2:μ[m]?=some (.lst ys)) (hl:xs.length+ys.length≤1000000) (q:Q .non (μ.set n (.lst (xs++ys)))):WM zIu (.loc n) [.loc m] μ Q:=⟨_,_,by simp [h,h2,hl] <;> rfl,q⟩
theorem zrt {lay:List (Option Nat)} {k:Nat} (h:k<lay.length):atI (lay.map onD) (k:Int)=some (onD (lay.getD k none)):=zYd (by simp [h])
theorem zBo {row:List (Nat×Nat)} {i:Nat} {p:Nat×Nat} (e:row[i]?=some p):atI (row.map pD) (i:Int)=some (pD p):=zYd (by rw [List.getElem?_map,e];rfl)
theorem zKq {L:Nat} {lay:List (Option Nat)} {key n r i:Nat} {row:List (Nat×Nat)} {p:Nat×Nat} (w:Wb L R K) (hlen:lay.length=K.length) (hn:μ[n]?=some (.lst (lay.map onD))) (hr:μ[r]?=some (.lst (row.map pD))) (hrl:row.length≤1000) (ok:RowOk K lay key row) (e:row[i]?=some p)
    (q:∀ μ',Keep μ μ'→Q (.bl true) μ'):WF zzf [wn R K, .loc n, .loc r, .int i] μ Q:=by
  have hm:=ok.mem p (mem_of_getElem? e)
  have hi:=(List.getElem?_eq_some_iff.mp e).1
  refine zFb rfl ?_
  show WS z5f [some (wn R K),some (.loc n),some (.loc r),some (.int i),none] μ _ _ _ _
  unfold z5f
  refine zr (zdb (zk (zk (zb rfl (zb rfl (zRc (zx hr) (zBo e) (w_c (zRc rfl rfl ?_))))))))
  refine zr (z1e (zTg (zA (zk (zb rfl (w_c (z6f ⟨_,rfl,fun h1=>?_,fun h1=>?_⟩)))))))
  case refine_2=>have:=of_decide_eq_true h1;omega
  refine zA (zk (zb rfl (zp (zc (zb rfl (zn (zbe (zx hn) (z6f ⟨_,rfl,fun h2=>?_,fun h2=>z9 ?_⟩))))))))
  · have:=of_decide_eq_true h2
    rw [length_map] at this
    omega
  refine zr (z1e (zTg (zA (zk (zk (zk (zb rfl (zb rfl (zRc (zx hr) (zBo e) (w_c (zRc rfl rfl (zk (zk (zb rfl (w_c (zOc (zb rfl (z0m hm.1 (zyh rfl ⟨_,rfl,fun h3=>?_,fun h3=>?_⟩)))))))))))))))))))
  case refine_2=>rw [decide_eq_true hm.2.1] at h3;cases h3
  refine zA (zk (zk (zk (zb rfl (zb rfl (zRc (zx hr) (zBo e) (w_c (zRc rfl rfl (zk (zb rfl (zb rfl (zRc (zx hn) (zrt (by first|decide|omega)) (zup (α:=Option Nat) (some p.2) (lay.getD p.1 none) ⟨_,rfl,fun h4=>?_,fun h4=>z9 ?_⟩)))))))))))))
  · exact absurd (of_decide_eq_true h4).symm hm.2.2
  refine zab (zk (zb rfl (zil (zrd (zsu (zb rfl (zAl (zph (zb rfl ⟨_,rfl,_,_,rfl,hr, .inr (.inr ⟨_,_,rfl,zt,?_,?_⟩)⟩)))))))))
  · rw [zQi];exact zhc (by rw [length_take,length_map];omega)
  rw [zQi,← List.map_take]
  refine zzi pD (row.take i) (fun x => .int (x.1:Nat)) (fun μ' k=>z5 zt k) (fun x hx μ' kp=>?_) (fun μ' kp=>?_)
  · unfold zwi
    exact zoc (zk (zb rfl (w_c (zRc rfl rfl ⟨rfl,kp,kp⟩))))
  · have e2:((row.take i).map fun x=>D.int (x.1:Nat))=nat ((row.take i).map (·.1)):=(zel _ _).symm
    rw [e2]
    refine zyh (zx zt) ?_
    have hnot:p.1∉(row.take i).map (·.1):=by
      intro hmem
      have nd:=ok.nd
      rw [← take_append_drop i row,map_append,nodup_append] at nd
      refine nd.2.2 _ hmem _ ?_ rfl
      refine List.mem_map.mpr ⟨p,?_,rfl⟩
      rw [drop_eq_getElem_cons hi,(List.getElem?_eq_some_iff.mp e).2]
      exact mem_cons_self
    rw [decide_eq_false hnot]
    exact q _ (Keep.app.trans (kp.to))
theorem zYo {lay:List (Option Nat)} {key n r i:Nat} {row:List (Nat×Nat)} {p:Nat×Nat} (hlen:lay.length=K.length) (hn:μ[n]?=some (.lst (lay.map onD))) (hr:μ[r]?=some (.lst (row.map pD))) (ok:RowOk K lay key row) (e:row[i]?=some p)
    (q:Q (.bl true) μ):WF zTf [.loc n, .int key, .loc r, .int i] μ Q:=by
  refine zFb rfl ?_
  show WS zyf [some (.loc n),some (.int key),some (.loc r),some (.int i)] μ _ _ _ _
  unfold zyf
  refine zr (z1e (zA (zk (zb rfl (w_c (zgj ⟨_,rfl,fun h1=>?_,fun h1=>z9 ?_⟩))))))
  · obtain ⟨h,r0,e0⟩:=ok.first
    refine zab (zk (zk (zk (zb rfl (w_c (zRc (zx hr) (zBo (i:=0) (p:=(key,h)) (by rw [e0];rfl)) (w_c (zRc rfl rfl (zb rfl (zgj ?_))))))))))
    rw [beq_self_eq_true]
    exact q
  · cases i with
    | zero=>exact absurd h1 (by decide)
    | succ j =>
      have hj:j<row.length:=by
        have:=(List.getElem?_eq_some_iff.mp e).1
        omega
      have ej:row[j]?=some row[j]:=by simp [hj]
      have hl:=ok.link j _ _ ej e
      have hm:=ok.mem p (mem_of_getElem? e)
      refine zab (zk (zk (zb rfl (zk (zk (zb rfl (zb rfl (zRc (zx hr) (zBo e) (w_c (zRc rfl rfl (zRc (zx hn) (zrt (by first|decide|omega)) (zk (zk (zb rfl (zk (zb rfl (w_c (zep ?_))))))))))))))))))
      rw [show ((j+1:Nat):Int) - 1=(j:Int) by omega]
      refine zRc (zx hr) (zBo ej) (w_c (zRc rfl rfl (zup (α:=Option Nat) (lay.getD p.1 none) (some (row[j]).2) ?_)))
      rw [decide_eq_true hl]
      exact q
theorem zGm {lay:List (Option Nat)} (r:RightL R K lay):z3j R K (lay.map onD) = .non:=by
  unfold z3j
  rw [zse fun k hk=>?_,zse fun h hh=>?_]
  · unfold zJp
    rw [z6p]
    have:=r.room h
    exact decide_eq_false (by first|decide|omega)
  · unfold zpk
    have e:(lay.map onD).getD k .non=onD (lay.getD k none):=by
      have hk':k<lay.length:=by rw [r.len];exact hk
      simp [hk']
    rw [e]
    cases e2:lay.getD k none with
    | none=>rfl
    | some h =>
      have hm:h∈K.getD k []:=r.home k h (by
        have hk':k<lay.length:=by rw [r.len];exact hk
        simp [hk'] at e2
        simp [hk',e2])
      show (_ && !((nat (K.getD k [])).any fun y=>eqF y (.int h)))=false
      rw [z1q,decide_eq_true hm,Bool.not_true,Bool.and_false]
theorem zSu (lay:List (Option Nat)) (k h:Nat):(lay.set k (some h)).map onD=(lay.map onD).set k (.int h):=map_set
theorem zwp {L:Nat} {lay:List (Option Nat)} {key n r:Nat} {row:List (Nat×Nat)} (w:Wb L R K) (hL:L≤1000) (rt:RightL R K lay) (hn:μ[n]?=some (.lst (lay.map onD))) (hr:μ[r]?=some (.lst (row.map pD))) (hrl:row.length≤1000) (ok:RowOk K lay key row) (hkey:lay.getD key none=none) (hroom:lay.count (some (row.getD (row.length - 1) (0,0)).2)<R.getD (row.getD (row.length - 1) (0,0)).2 0)
    (q:∀ (l:Nat) (μ':Mem),Keep μ μ'→μ.length≤l→μ'[l]?=some (.lst ((zgd lay row).map onD))→Q (.loc l) μ'):WF zTh [wn R K, .loc n, .int key, .loc r] μ Q:=by
  have hkl:=w.kl
  have hlen:=rt.len
  refine zFb rfl ?_
  show WS zSh [some (wn R K),some (.loc n),some (.int key),some (.loc r),none,none,none] μ _ _ _ _
  unfold zSh
  refine zr (zdb (zp (zc (zb rfl (zn (zMq (zx hn) ?_))))))
  refine zr (zLd (z9g (zb rfl (.inr (.inr ⟨r,_,rfl,zF hr,?_⟩)))))
  refine zsb (fun m δ ν=>∃ x y:Option D,δ = [some (wn R K),some (.loc n),some (.int key),some (.loc r),some (.loc μ.length),x,y]∧Keep μ ν∧ν[μ.length]?=some (.lst ((zgd lay (row.take m)).map onD))) ⟨_,_,rfl, .app,zt⟩ (fun m δ ν ⟨_,_,_,k,_⟩=>z5 hr k) ?_ ?_
  · rintro m x δ ν hx ⟨a,b,rfl,kp,g⟩
    obtain ⟨p,ep,rfl⟩:=z5j hx
    have hm:=ok.mem p (mem_of_getElem? ep)
    have htk:row.take (m+1)=row.take m ++ [p]:=by rw [take_succ,ep];rfl
    refine zYh (zlc (zoc (zlc (zoc (zvh ?_)))))
    unfold zek
    refine zr (z1e (zhg (zxp (zA (zp (zc (zb rfl (zc (zb rfl (zc (zb rfl (zc (zb rfl (zn ?_))))))))))))))
    refine zKq w hlen (kp _ _ hn) (kp _ _ hr) hrl ok ep fun μ1 k1=>⟨_,rfl,fun _=>?_,fun h=>(by cases h)⟩
    refine zA (zp (zc (zb rfl (zc (zb rfl (zc (zb rfl (zc (zb rfl (zn ?_))))))))))
    refine zYo hlen ((kp.trans k1) _ _ hn) ((kp.trans k1) _ _ hr) ok ep ⟨_,rfl,fun h=>(by cases h),fun _=>z9 ?_⟩
    refine z5i (zk (zb rfl (w_c (zRc rfl rfl ?_))))
    have g1:=k1 _ _ g
    refine zZp (zb rfl (zk (zb rfl (w_c (zRc rfl rfl ⟨_,_,_,rfl,rfl,g1,?_,?_⟩)))))
    · rw [length_map,zOf];omega
    · refine ⟨_,_,rfl,fun i o e=>zI (k1 _ _ (kp i o e)) (Nat.ne_of_gt (zz e)),?_⟩
      rw [zK g1,htk,zPj,zSu]
      rfl
  · rintro δ ν ⟨a,b,rfl,kp,g⟩
    rw [zQb,length_map,take_length] at g
    have hpos:0<row.length:=by
      obtain ⟨h,q,e⟩:=ok.first
      rw [e];simp
    refine zr (z1e (zTg (zA (zk (zp (zc (zb rfl (zn (zbe (zx (kp _ _ hr)) (w_c (zgj ⟨_,rfl,fun h1=>?_,fun h1=>?_⟩)))))))))))
    case refine_2 =>
      have:=beq_iff_eq.mp h1
      rw [length_map] at this
      omega
    have hr2:=zpf rt ok hkey hroom
    refine zA (zk (zp (zc (zb rfl (zc (zb rfl (zn ?_)))))))
    refine zJr w (zHp _) (by rw [length_map,zOf];exact hlen) g fun μ1 k1=>?_
    rw [zGm hr2]
    refine w_c (zAe rfl ⟨_,rfl,fun h=>(by cases h),fun _=>z9 (zab (zb rfl ?_))⟩)
    exact q _ _ (kp.trans k1) (Nat.le_refl _) (k1 _ _ g)
noncomputable def znd (S:List Nat) (k:Nat):List Nat:=S.filter fun o=>!decide (o=k)
noncomputable def zBb (R:List Nat) (K:List (List Nat)) (S:List Nat):Option Nat:=S.find? fun k=>zqc R K (znd S k)
theorem zLg {S:List Nat} {k:Nat} (h:zBb R K S=some k):k∈S:=List.mem_of_find?_eq_some h
theorem zll {S:List Nat} {k:Nat} (h:zBb R K S=some k):zqc R K (znd S k)=true:=List.find?_some (p:=fun k=>zqc R K (znd S k)) h
theorem zTm {S:List Nat} (h:zBb R K S=none):∀ k∈S,zqc R K (znd S k)=false:=fun k hk=>by
  have:=List.find?_eq_none.mp h k hk
  simpa using this
theorem zyd (S:List Nat) (k:Nat):(znd S k).Sublist S:=filter_sublist
theorem zGi {S:List Nat} (h:S.Nodup) (k:Nat):S.erase k=znd S k:=by
  rw [h.erase_eq_filter]
  unfold znd
  refine List.filter_congr fun x _=>?_
  by_cases e:x=k <;> simp [e]
theorem zpi {S:List Nat} (h:S.Nodup) {k:Nat} (hk:k∈S):(znd S k).length+1=S.length:=by
  rw [← zGi h,List.length_erase_of_mem hk]
  have:=List.length_pos_of_mem hk
  omega
noncomputable def zaj (R:List Nat) (K:List (List Nat)):Nat→List Nat→List Nat
  | 0,S=>S
  | n+1,S=>match zBb R K S with
    | none=>S
    | some k=>zaj R K n (znd S k)
noncomputable def zwm (R:List Nat) (K:List (List Nat)) (S:List Nat):List Nat:=zaj R K S.length S
theorem zUo {S:List Nat} (h:zBb R K S=none):zwm R K S=S:=by
  unfold zwm
  cases S with
  | nil=>rfl
  | cons a S=>rw [length_cons,zaj,h]
theorem zDo {S:List Nat} {k:Nat} (hd:S.Nodup) (h:zBb R K S=some k):zwm R K S=zwm R K (znd S k):=by
  have h1:=zpi hd (zLg h)
  unfold zwm
  conv=>lhs;rw [← h1,zaj,h]
theorem z3l {R:List Nat} {K:List (List Nat)}:∀ (n:Nat) (S:List Nat),(zaj R K n S).Sublist S
  | 0,S=>List.Sublist.refl _
  | n+1,S=>by
    unfold zaj
    cases zBb R K S with
    | none=>exact List.Sublist.refl _
    | some k=>exact (z3l n _).trans (zyd S k)
theorem zml {R:List Nat} {K:List (List Nat)}:∀ (n:Nat) (S:List Nat),S.Nodup→S.length≤n→zBb R K (zaj R K n S)=none
  | 0,S,_,h=>by
    have:S = []:=List.length_eq_zero_iff.mp (by first|decide|omega)
    subst this
    rfl
  | n+1,S,hd,h=>by
    unfold zaj
    cases e:zBb R K S with
    | none=>exact e
    | some k =>
      have:=zpi hd (zLg e)
      exact zml n _ (hd.sublist (zyd S k)) (by first|decide|omega)
theorem zui {R:List Nat} {K:List (List Nat)}:∀ (n:Nat) (S:List Nat),zqc R K S=true→zqc R K (zaj R K n S)=true
  | 0,S,h=>h
  | n+1,S,h=>by
    unfold zaj
    cases e:zBb R K S with
    | none=>exact h
    | some k=>exact zui n _ (zll e)
theorem zXi {L:Nat} {S:List Nat} {n:Nat} (w:Wb L R K) (hn:μ[n]?=some (.lst (nat S))) (hS:∀ k∈S,k<K.length) (hl:S.length≤1000)
    (q:∀ μ',Keep μ μ'→Q (onD (zBb R K S)) μ'):WF zNc [wn R K, .loc n] μ Q:=by
  refine zFb rfl ?_
  show WS zGd [some (wn R K),some (.loc n),none] μ _ _ _ _
  unfold zGd
  refine zr (zLd (zrd (zb rfl (.inr (.inr ⟨n,_,rfl,hn,?_⟩)))))
  refine zsb (fun m δ μ'=>∃ a:Option D,δ = [some (wn R K),some (.loc n),a]∧Keep μ μ'∧∀ k∈S.take m,zqc R K (znd S k)=false) ⟨_,rfl, .refl,by simp⟩ (fun m δ μ' ⟨a,_,k,_⟩=>z5 hn k) ?_ ?_
  · rintro m x δ μ1 hx ⟨a,rfl,k1,hb⟩
    rw [List.getElem?_map] at hx
    cases hy:S[m]? with
    | none=>rw [hy] at hx;cases hx
    | some kk =>
      rw [hy] at hx
      cases hx
      have ht:S.take (m+1)=S.take m ++ [kk]:=by rw [take_succ,hy];rfl
      refine zoc ?_
      unfold zSf
      refine z1e (zA (zp (zc (zb rfl (zc (zil ?_))))))
      refine zrd (zb rfl (.inr (.inr ⟨n,_,rfl,k1 _ _ hn,zhc (by rw [length_map];omega),?_⟩)))
      refine zle (fun (k:Nat)=>D.int k) S (fun (k:Nat)=>D.int k) (fun o=>!decide (o=kk)) (fun μ' k'=>z5 (k1 _ _ hn) k') (fun j hj μ' kp=>?_) (fun μ2 k2=>?_)
      · (refine zoc ?_;refine zA ?_;refine zk ?_;refine zb rfl ?_;refine zb rfl ?_;refine z1t ?_;with_reducible refine ⟨_,rfl,?_⟩)
        refine ⟨?_,kp,fun _=>?_⟩
        · congr 1
          by_cases e:j=kk
          · subst e;simp
          · simp [e];omega
        · unfold z4f
          exact zb rfl ⟨rfl,kp⟩
      · refine zn ?_
        have hls:(znd S kk).length≤S.length:=(zyd S kk).length_le
        refine zVo w (S:=znd S kk) zt (fun k hk=>hS k ((zyd S kk).subset hk)) (by first|decide|omega) fun μ3 k3=>⟨_,rfl,fun h1=>?_,fun h1=>?_⟩
        · refine zab (zb rfl ?_)
          have:=q μ3 (k1.trans (k2.to.trans k3))
          have e:zBb R K S=some kk:=by
            unfold zBb
            rw [List.find?_eq_some_iff_append]
            refine ⟨h1,S.take m,S.drop (m+1),?_,fun a ha=>by rw [hb a ha];rfl⟩
            have hlt:=(List.getElem?_eq_some_iff.mp hy).1
            have e1:S.drop m=kk :: S.drop (m+1):=by
              rw [drop_eq_getElem_cons hlt,(List.getElem?_eq_some_iff.mp hy).2]
            rw [← e1,take_append_drop]
          rw [e] at this
          exact this
        · refine z9 ⟨_,rfl,k1.trans (k2.to.trans k3),fun k hk=>?_⟩
          rw [ht] at hk
          rcases List.mem_append.mp hk with hk | hk
          · exact hb k hk
          · rw [List.mem_singleton.mp hk];exact h1
  · rintro δ μ1 ⟨a,rfl,k1,hb⟩
    rw [length_map,take_length] at hb
    refine zab (w_c ?_)
    have:=q μ1 k1
    have e:zBb R K S=none:=by
      unfold zBb
      rw [List.find?_eq_none]
      intro k hk
      rw [hb k hk]
      exact Bool.false_ne_true
    rw [e] at this
    exact this
theorem zEo {L:Nat} {S:List Nat} {n:Nat} (w:Wb L R K) (hn:μ[n]?=some (.lst (nat S))) (hS:∀ k∈S,k<K.length) (hl:S.length≤1000) (hd:S.Nodup)
    (q:∀ (l:Nat) (μ':Mem),Keep μ μ'→μ.length≤l→μ'[l]?=some (.lst (nat (zwm R K S)))→Q (.loc l) μ'):WF zMf [wn R K, .loc n] μ Q:=by
  refine zFb rfl ?_
  show WS zdg [some (wn R K),some (.loc n),none,none] μ _ _ _ _
  unfold zdg
  refine zr (zdb (zp (zc (zb rfl (zn (zMq (zx hn) ?_))))))
  refine zr (zdb (zp (zc (zb rfl (zc (zb rfl (zn ?_)))))))
  refine zXi w zt hS hl fun μ1 k1=>?_
  refine zr ?_
  refine zKk (fun m δ μ'=>∃ T:List Nat,m=T.length∧δ = [some (wn R K),some (.loc n),some (.loc μ.length),some (onD (zBb R K T))]∧Keep μ μ'∧μ'[μ.length]?=some (.lst (nat T))∧T.Sublist S∧zwm R K S=zwm R K T) (m:=S.length) (by first|decide|omega) ⟨S,rfl,rfl,Keep.app.trans k1,k1 _ _ zt,List.Sublist.refl _,rfl⟩ ?_
  rintro m δ μ' ⟨T,rfl,rfl,k2,g2,hT,ht⟩
  have hTd:=hd.sublist hT
  have hTl:=hT.length_le
  (refine zA ?_;refine zk ?_;refine zb rfl ?_;refine w_c ?_)
  refine zAe (zKn _) ⟨_,rfl,fun h1=>?_,fun h1=>?_⟩
  · cases e:zBb R K T with
    | none=>rw [e] at h1;cases h1
    | some k =>
      have hk:=zLg e
      have hle:=zpi hTd hk
      unfold z8h
      refine zr (zoe (z8d (zb rfl ⟨_,_,rfl,g2,?_⟩)))
      refine zc (zb rfl (zn ?_))
      refine z6q g2 hk ?_
      rw [zGi hTd]
      refine zdb (zp (zc (zb rfl (zc (zb rfl (zn ?_))))))
      have g3:=zK (o':=LObj.lst (nat (znd T k))) g2
      refine zXi w g3 (fun x hx=>hS x (hT.subset ((zyd T k).subset hx))) (by first|decide|omega) fun μ3 k3=>?_
      exact ⟨(znd T k).length,by first|decide|omega,znd T k,rfl,rfl,fun i o e'=>k3 _ _ (zI (k2 _ _ e') (Nat.ne_of_gt (zz e'))),k3 _ _ g3,(zyd T k).trans hT,by rw [ht,zDo hTd e]⟩
  · refine zab (zb rfl ?_)
    have e:zBb R K T=none:=by
      cases e:zBb R K T with
      | none=>rfl
      | some k=>rw [e] at h1;cases h1
    refine q _ _ k2 (Nat.le_refl _) ?_
    rw [ht,zUo e]
    exact g2
theorem zWr {lay:List (Option Nat)} {key:Nat} {row:List (Nat×Nat)} (ok:RowOk K lay key row) {k:Nat} (h:k∈row.map (·.1)):k=key∨(lay.getD k none).isSome=true:=by
  obtain ⟨p,hp,rfl⟩:=List.mem_map.mp h
  obtain ⟨i,hi,rfl⟩:=List.mem_iff_getElem.mp hp
  cases i with
  | zero =>
    obtain ⟨h,r,e⟩:=ok.first
    subst e
    exact .inl rfl
  | succ j =>
    have:=ok.link j row[j] row[j+1] (by simp [show j<row.length by omega]) (by simp [hi])
    exact .inr (by rw [this];rfl)
theorem zDi {lay:List (Option Nat)} {key:Nat} {row:List (Nat×Nat)} (hlen:lay.length=K.length) (ok:RowOk K lay key row) {k:Nat} (h:k=key∨(lay.getD k none).isSome=true):((zgd lay row).getD k none).isSome=true:=by
  by_cases hm:k∈row.map (·.1)
  · obtain ⟨p,hp,rfl⟩:=List.mem_map.mp hm
    rw [zRh ok.nd hp (by rw [hlen];exact (ok.mem p hp).1)]
    rfl
  · rcases h with rfl | h
    · obtain ⟨h,r,e⟩:=ok.first
      subst e
      exact absurd (by simp) hm
    · rw [zKc hm];exact h
theorem zZi {lay:List (Option Nat)} {key:Nat} {row:List (Nat×Nat)} (ok:RowOk K lay key row) {k:Nat} (h:lay.getD k none=none) (hk:k≠key):(zgd lay row).getD k none=none:=by
  rw [zKc fun hm=>?_]
  · exact h
  · rcases zWr ok hm with e | e
    · exact hk e
    · rw [h] at e;cases e
theorem zor {s:Str} (h:PyData.strOk s=true):toP μ 8 (.str s)=some (.str s):=by
  show (bif PyData.strOk s then some (PyData.str s) else none)=_
  rw [h];rfl
theorem z1g {a b:Str} (q:Q (.bl (PyData.eqv (.str a) (.str b))) μ) (ha:PyData.strOk a=true:=by decide +kernel) (hb:PyData.strOk b=true:=by decide +kernel):W2 gEq (.str a) (.str b) μ Q:=z6w (zor ha) (zor hb) q
structure Done (R:List Nat) (K:List (List Nat)) (lay0 lay:List (Option Nat)) (ks C:List Nat):Prop where
  right:RightL R K lay
  shut:Shut R K lay C
  old:∀ k,(lay0.getD k none).isSome=true→(lay.getD k none).isSome=true
  non:∀ k,k∉ks→lay0.getD k none=none→lay.getD k none=none
  all:∀ k∈ks,(lay.getD k none).isSome=true∨(k∈C∧lay.getD k none=none)
  out:C≠[]→∃ k∈C,k∈ks∧lay.getD k none=none
theorem Done.put {lay0 lay:List (Option Nat)} {ks C:List Nat} {key:Nat} {row:List (Nat×Nat)} (d:Done R K lay0 lay ks C) (hk:key∉ks) (hkey:lay.getD key none=none) (ok:RowOk K lay key row)
    (hroom:lay.count (some (row.getD (row.length - 1) (0,0)).2)<R.getD (row.getD (row.length - 1) (0,0)).2 0):Done R K lay0 (zgd lay row) (ks ++ [key]) C:=by
  have hlen:=d.right.len
  refine ⟨zpf d.right ok hkey hroom,d.shut.push d.right ok hkey hroom,fun k h=>zDi hlen ok (.inr (d.old k h)),fun k h h0=>?_,fun k h=>?_,fun hC=>?_⟩
  · rw [mem_append,not_or] at h
    exact zZi ok (d.non k h.1 h0) (by simpa using h.2)
  · rcases List.mem_append.mp h with h' | h
    · rcases d.all k h' with h1 | ⟨h1,h2⟩
      · exact .inl (zDi hlen ok (.inr h1))
      · exact .inr ⟨h1,zZi ok h2 (by rintro rfl;exact hk h')⟩
    · rw [List.mem_singleton.mp h]
      exact .inl (zDi hlen ok (.inl rfl))
  · obtain ⟨k,h1,h2,h3⟩:=d.out hC
    exact ⟨k,h1,mem_append_left _ h2,zZi ok h3 (by rintro rfl;exact hk h2)⟩
theorem Done.full {lay0 lay:List (Option Nat)} {ks C S:List Nat} {key:Nat} (d:Done R K lay0 lay ks C) (hkey:lay.getD key none=none) (hS:key∈S) (s:Shut R K lay S):Done R K lay0 lay (ks ++ [key]) (C++S):=by
  refine ⟨d.right,d.shut.app s,d.old,fun k h h0=>?_,fun k h=>?_,fun hC=>⟨key,mem_append_right _ hS,by simp,hkey⟩⟩
  · rw [mem_append,not_or] at h
    exact d.non k h.1 h0
  · rcases List.mem_append.mp h with h | h
    · rcases d.all k h with h1 | ⟨h1,h2⟩
      · exact .inl h1
      · exact .inr ⟨mem_append_left _ h1,h2⟩
    · rw [List.mem_singleton.mp h]
      exact .inr ⟨mem_append_right _ hS,hkey⟩
noncomputable def zfp (m:Nat) (C:List Nat):List Nat:=(List.range m).filter fun k=>decide (k∈C)
theorem zGf {m:Nat} {C:List Nat} (h:∀ k∈C,k<m) (k:Nat):k∈zfp m C↔k∈C:=by
  unfold zfp
  rw [mem_filter,mem_range,decide_eq_true_iff]
  exact ⟨fun q=>q.2,fun q=>⟨h k q,q⟩⟩
theorem zdu {m n:Nat} {C:List Nat} {φ:FE} {δ:M.Loc} (hC:∀ k∈C,k<m) (hm:m<64) (hl:C.length≤4000) (h:WE φ δ μ fun x μ1=>x = .loc n∧μ1[n]?=some (.lst (nat C))∧Q (.loc μ1.length) (μ1 ++ [.lst (nat (zfp m C))])):WE (zXo φ) δ μ Q:=by
  have hmem:∀ i:Int,i∈(zfp m C).map (fun (k:Nat)=>(k:Int))↔i∈C.map (fun (k:Nat)=>(k:Int)):=fun i=>by
    simp only [mem_map]
    constructor
    · rintro ⟨k,hk,rfl⟩
      exact ⟨k,(zGf hC k).mp hk,rfl⟩
    · rintro ⟨k,hk,rfl⟩
      exact ⟨k,(zGf hC k).mpr hk,rfl⟩
  have hpw:((zfp m C).map (fun (k:Nat)=>(k:Int))).Pairwise (· < ·):=by
    rw [List.pairwise_map]
    exact (List.pairwise_lt_range.filter _).imp fun h=>by omega
  have hp:=z7k hmem hpw
  have hsort:=zFk hmem hpw
  have hsl:(zfp m C).length≤m:=by unfold zfp;simpa using (filter_sublist (l:=List.range m) (p:=fun k=>decide (k∈C))).length_le
  refine zVs (h.mono ?_)
  rintro x μ1 ⟨rfl,g,q⟩
  refine ⟨_,C.map (fun (k:Nat)=>(k:Int)),rfl,by rw [g,map_map];rfl,by rw [length_map];omega,by rw [hp.length_eq,length_map];omega,?_⟩
  rw [hsort,map_map]
  exact q
abbrev JLm (R:List Nat) (K:List (List Nat)) (lay0:List (Option Nat)) (ks:List Nat) (n m:Nat) (μ:Mem):Nat→M.Loc→Mem→Prop:=fun i δ ν=>∃ (lay:List (Option Nat)) (C:List Nat) (l:Nat) (x y:Option D),δ = [some (wn R K),some (.loc l),some (.loc m),some (.loc μ.length),x,y]∧Done R K lay0 lay (ks.take i) C∧C.length≤i * K.length∧Keep μ ν∧(l=n∧lay=lay0∨μ.length<l)∧ν[μ.length]?=some (.lst (nat C))∧ν[l]?=some (.lst (lay.map onD))
theorem z6m {L:Nat} {lay0:List (Option Nat)} {ks:List Nat} {n m:Nat} (w:Wb L R K) (hL:L≤60) (rt:RightL R K lay0) (hn:μ[n]?=some (.lst (lay0.map onD))) (hm:μ[m]?=some (.lst (nat ks))) (hks:∀ k∈ks,k<K.length) (hnd:ks.Nodup) (hnon:∀ k∈ks,lay0.getD k none=none)
    (q:∀ (lay:List (Option Nat)) (C:List Nat) (l l2:Nat) (μ':Mem),Done R K lay0 lay ks C→Keep μ μ'→(l=n∧lay=lay0∨μ.length≤l)→μ.length≤l2→l≠l2→μ'[l]?=some (.lst (lay.map onD))→μ'[l2]?=some (.lst (nat (zfp K.length C)))→Q (.tup [.loc l, .loc l2]) μ'):WF zSd [wn R K, .loc n, .loc m] μ Q:=by
  have hkl:=w.kl
  have hkn:ks.length≤K.length:=by
    have:=zob hnd (m:=List.range K.length) fun x hx=>by simpa using hks x hx
    simpa using this
  refine zFb rfl ?_
  show WS zJd [some (wn R K),some (.loc n),some (.loc m),none,none,none] μ _ _ _ _
  unfold zJd
  refine zr (zdb (zcg (zn (zr (zLd (zrd (zb rfl (.inr (.inr ⟨m,_,rfl,zF hm,?_⟩)))))))))
  have hnl:=zz hn
  refine zsb (JLm R K lay0 ks n m μ)
    ⟨lay0,[],n,_,_,rfl,⟨rt, .nil,fun _ h=>h,fun _ _ h=>h,by simp,fun h=>absurd rfl h⟩,by simp, .app, .inl ⟨rfl,rfl⟩,zt,zF hn⟩ (fun i δ ν ⟨_,_,_,_,_,_,_,_,k,_⟩=>z5 hm k) ?_ ?_
  · rintro i z δ ν hz ⟨lay,C,l,x,y,rfl,d,hCl,kp,hl,gC,gl⟩
    rw [List.getElem?_map] at hz
    cases ek:ks[i]? with
    | none=>rw [ek] at hz;cases hz
    | some key =>
      rw [ek] at hz
      cases hz
      have hkm:=mem_of_getElem? ek
      have hil:=(List.getElem?_eq_some_iff.mp ek).1
      have htk:ks.take (i+1)=ks.take i ++ [key]:=by rw [take_succ,ek];rfl
      have hkt:key∉ks.take i:=by
        intro hmem
        have nd:=hnd
        rw [← take_append_drop i ks,nodup_append] at nd
        refine nd.2.2 _ hmem _ ?_ rfl
        rw [drop_eq_getElem_cons hil,(List.getElem?_eq_some_iff.mp ek).2]
        exact mem_cons_self
      have hkey:=d.non key hkt (hnon key hkm)
      have hCb:i * K.length≤60 * 60:=Nat.mul_le_mul (by first|decide|omega) (by first|decide|omega)
      refine zoc ?_
      unfold zrg
      refine zr (zdb (zp (zc (zb rfl (zc (zb rfl (zc (zb rfl (zn ?_)))))))))
      refine z2n w d.right.len (by first|decide|omega) gl (hks key hkm) hkey (fun row r μ1 ok hroom hrl k1 hr gr=>?_) (fun S r μ1 hS hkS s k1 hr gr=>?_)
      · refine z1e (zA (zk (zk (zb rfl (w_c (zRc rfl rfl (w_c (z1g ⟨_,rfl,fun _=>?_,fun h=>absurd h (by decide +kernel)⟩))))))))
        refine zdb (zp (zc (zb rfl (zc (zb rfl (zc (zb rfl (zc (zk (zb rfl (w_c (zRc rfl rfl (zn ?_)))))))))))))
        refine zwp w (by first|decide|omega) d.right (k1 _ _ gl) gr (by first|decide|omega) ok hkey hroom fun l' μ2 k2 hl' g2=>?_
        refine ⟨zgd lay row,C,l',_,_,rfl,by rw [htk];exact d.put hkt hkey ok hroom,by rw [Nat.succ_mul];omega,kp.trans (k1.trans k2), .inr ?_,(k1.trans k2) _ _ gC,g2⟩
        have:=(kp.trans k1).len
        have:=k1.len
        have:=zz gC
        omega
      · refine z1e (zA (zk (zk (zb rfl (w_c (zRc rfl rfl (w_c (z1g ⟨_,rfl,fun h=>?_,fun _=>?_⟩))))))))
        · exact absurd h (by decide +kernel)
        have hSl:S.length≤K.length:=by simpa using hS.length_le
        refine zoe (z8d (zb rfl ⟨_,_,rfl,k1 _ _ gC,?_⟩))
        refine zc (zk (zb rfl (w_c (zRc rfl rfl (zn ?_)))))
        refine z0u (k1 _ _ gC) gr (by simp only [length_map];omega) ?_
        have hlt:=zz gC
        refine ⟨lay,C++S,l,_,_,rfl,by rw [htk];exact d.full hkey hkS s,by rw [Nat.succ_mul,length_append];omega,fun a o e=>zI (k1 _ _ (kp a o e)) (Nat.ne_of_gt (zz e)),hl,?_,zI (k1 _ _ gl) (by rcases hl with ⟨h,_⟩ | h <;> omega)⟩
        rw [zK (k1 _ _ gC),zCc]
  · rintro δ ν ⟨lay,C,l,x,y,rfl,d,hCl,kp,hl,gC,gl⟩
    rw [length_map,take_length] at d
    rw [length_map] at hCl
    have hCb:ks.length * K.length≤60 * 60:=Nat.mul_le_mul (by first|decide|omega) (by first|decide|omega)
    refine zab (zMd (zc (zb rfl (zc ?_))))
    refine zdu (n:=μ.length) (m:=K.length) d.shut.keys (by first|decide|omega) (by first|decide|omega) (zb rfl ⟨rfl,gC,zn ?_⟩)
    have:=zz gl
    exact q lay C l _ _ d kp.to (by rcases hl with h | h;exact .inl h;exact .inr (by first|decide|omega)) kp.len (by first|decide|omega) (zF gl) zt
theorem zFl {L:Nat} (w:Wb L R K) (hL:L≤60)
    (q:∀ (lay:List (Option Nat)) (C:List Nat) (l l2:Nat) (μ':Mem),Done R K (List.replicate K.length none) lay (List.range K.length) C→Keep μ μ'→μ.length≤l→μ.length≤l2→l≠l2→μ'[l]?=some (.lst (lay.map onD))→μ'[l2]?=some (.lst (nat (zfp K.length C)))→Q (.tup [.loc l, .loc l2]) μ'):WF zyc [wn R K] μ Q:=by
  have hkl:=w.kl
  refine zFb rfl ?_
  show WS zvc [some (wn R K)] μ _ _ _ _
  unfold zvc
  refine zab (zp (zc (zb rfl (zc (zk (zcg (zc (w_c (zn (zp (zc (zk (zb rfl (w_c (zOc (zn (zbe rfl ?_)))))))))))))))))
  refine zkw zt (by rw [length_map];omega) (by first|decide|omega) (by simp) ?_
  refine zc (zUn (zp (zc (zk (zb rfl (w_c (zOc (zn (zbe rfl ⟨_,rfl,?_,zn ?_⟩)))))))))
  · rw [length_map];omega
  have e1:(List.replicate (((K.map tn).length:Nat):Int).toNat [D.non]).flatten=(List.replicate K.length (none:Option Nat)).map onD:=by
    rw [Int.toNat_natCast,length_map,List.map_replicate,List.flatten_replicate_singleton]
  rw [e1,Int.toNat_natCast,length_map]
  have hrep:∀ k,(List.replicate K.length (none:Option Nat)).getD k none=none:=fun k=>by
    rw [getD_eq_getElem?_getD,List.getElem?_replicate]
    split <;> rfl
  refine z6m (ks:=List.range K.length) w hL ⟨by simp,fun k h e=>?_,fun h=>?_⟩ (zF zt) zt (by simp) List.nodup_range (fun k _=>hrep k) fun lay C l l2 μ' d k hl hl2 hne g g2=>?_
  · rw [List.getElem?_replicate] at e
    split at e
    · cases e
    · cases e
  · rw [List.count_replicate]
    simp
  · have k':=(Keep.to (Keep.to (Keep.app (μ:=μ) (g:=[.lst [.non]])))).trans k
    refine q lay C l l2 μ' d k' ?_ ?_ hne g g2
    · rcases hl with ⟨rfl,_⟩ | hl
      · simp
      · simp at hl;omega
    · simp at hl2;omega
theorem z3q {L:Nat} (w:Wb L R K) (hL:L≤60)
    (q1:∀ (lay:List (Option Nat)) (l:Nat) (μ':Mem),RightL R K lay→(∀ k<K.length,(lay.getD k none).isSome=true)→Keep μ μ'→μ.length≤l→μ'[l]?=some (.lst (lay.map onD))→Q (.tup [.str "fits", .loc l]) μ')
    (q2:∀ (T:List Nat) (l:Nat) (μ':Mem),T.Sublist (List.range K.length)→zqc R K T=true→zBb R K T=none→Keep μ μ'→μ.length≤l→μ'[l]?=some (.lst (nat T))→Q (.tup [.str "crowd", .loc l]) μ'):WF zFh [wn R K] μ Q:=by
  have hkl:=w.kl
  refine zFb rfl ?_
  show WS zCh [some (wn R K),none] μ _ _ _ _
  unfold zCh
  refine zr (zdb (zp (zc (zb rfl (zn ?_)))))
  refine zFl w hL fun lay C l l2 μ1 d k1 hl hl2 hne g g2=>?_
  refine zr (z1e (zA (zk (zk (zb rfl (w_c (zRc rfl rfl (zcg (zn ?_)))))))))
  refine zex (α:=Nat) (zfp K.length C) [] (zF g2) zt ⟨_,rfl,fun h1=>?_,fun h1=>z9 ?_⟩
  · have h1:=of_decide_eq_true h1
    refine zab (zMd (zc (w_c (zc (zk (zb rfl (w_c (zRc rfl rfl (zn ?_)))))))))
    refine q1 lay l _ d.right (fun k hk=>?_) k1.to hl (zF g)
    rcases d.all k (by simpa using hk) with h | ⟨h,_⟩
    · exact h
    · have:=(zGf d.shut.keys k).mpr h
      rw [h1] at this
      cases this
  · have h1:=of_decide_eq_false h1
    have hC:C≠[]:=by
      rintro rfl
      exact h1 (by unfold zfp;simp)
    obtain ⟨k0,hk0,_,hn0⟩:=d.out hC
    have hsub:(zfp K.length C).Sublist (List.range K.length):=filter_sublist
    have hcr:=zOg w (d.shut.congr (zGf d.shut.keys)) d.right.len ((zGf d.shut.keys k0).mpr hk0) hn0
    have hsl:(zfp K.length C).length≤K.length:=by simpa using hsub.length_le
    have hnd:=List.nodup_range.sublist hsub
    refine zab (zMd (zc (w_c (zc (zp (zc (zb rfl (zc (zk (zb rfl (w_c (zRc rfl rfl (zn ?_)))))))))))))
    refine zEo w (zF g2) (fun k hk=>by simpa using hsub.subset hk) (by first|decide|omega) hnd fun l3 μ3 k3 hl3 g3=>zn ?_
    exact q2 _ l3 μ3 ((z3l _ _).trans hsub) (zui _ _ hcr) (zml _ _ hnd (Nat.le_refl _)) (k1.to.trans k3) (by have:=k1.len;simp at hl3;omega) g3
def ztf (R:List Nat) (K:List (List Nat)):Prop:=∃ lay,RightL R K lay∧∀ k<K.length,(lay.getD k none).isSome=true
theorem zfk {L:Nat} {T:List Nat} (w:Wb L R K) (hT:T.Sublist (List.range K.length)) (hc:zqc R K T=true):¬ ztf R K:=by
  rintro ⟨lay,r,h⟩
  have hTk:∀ k∈T,k<K.length:=fun k hk=>by simpa using hT.subset hk
  have:=zuq w r (List.nodup_range.sublist hT) hTk fun k hk=>h k (hTk k hk)
  rw [hc] at this
  cases this
noncomputable def zce (K:List (List Nat)) (key nest:Nat):List (List Nat):=K.set key [nest,nest]
theorem zIt {key nest k:Nat} (h:k≠key):(zce K key nest).getD k []=K.getD k []:=by
  unfold zce
  rw [getD_eq_getElem?_getD,getD_eq_getElem?_getD,List.getElem?_set_ne (Ne.symm h)]
theorem zsn {L:Nat} {key nest:Nat} (w:Wb L R K) (hn:nest<R.length):Wb L R (zce K key nest) :=
  ⟨w.rl,by unfold zce;rw [length_set];exact w.kl,fun k hk=>by
    rcases List.mem_or_eq_of_mem_set hk with hk | rfl
    · exact w.kn k hk
    · refine ⟨by simp,fun h hh=>?_⟩
      have:h=nest:=by simpa using hh
      omega⟩
theorem z4q {i:Nat} {d:D} (h:i<K.length):M.cutD (K.map tn) none (some (i:Int)) ++ [d]++M.cutD (K.map tn) (some ((i:Int)+1)) none=(K.map tn).set i d:=by
  have e1:=zQi (xs:=K.map tn) (i:=i)
  have e2:=zhk (xs:=K.map tn) (i:=i+1)
  have e3:(((i+1:Nat)):Int)=(i:Int)+1:=by omega
  rw [e3] at e2
  rw [e1,e2,List.set_eq_take_append_cons_drop,if_pos (by simpa using h)]
  simp
theorem zBq {L:Nat} {key nest:Nat} (w:Wb L R K) (hL:L≤1000) (hk:key<K.length) (q:Q (wn R (zce K key nest)) μ):WF zQf [wn R K, .int key, .int nest] μ Q:=by
  have hkl:=w.kl
  refine zFb rfl ?_
  show WS z8f [some (wn R K),some (.int key),some (.int nest)] μ _ _ _ _
  unfold z8f
  refine zab (zMd (zc (zk (zb rfl (w_c (zDg (zc (zk (zk (zww (zk (zb rfl (w_c (zOc (zAl (zph (zb rfl ⟨_,rfl,_,rfl,?_⟩)))))))))))))))))
  refine zMd (zc (zMd (zc (zb rfl (zc (zb rfl (zn (zn ?_))))))))
  have hcl:∀ (lo hi:Option Int),(M.cutD (K.map tn) lo hi).length≤K.length:=fun lo hi=>by
    unfold M.cutD
    rw [length_take,length_drop,length_map]
    omega
  have c1:=hcl none (some (key:Int))
  have c2:=hcl (some ((key:Int)+1)) none
  refine zLn (by simp;omega) (zww (zk (zb rfl (w_c (zOc (zph (zk (zb rfl (w_c (zde ⟨_,rfl,zAl ⟨_,rfl,?_⟩⟩))))))))))
  refine zLn (by simp;omega) (zn ?_)
  have e:=z4q (d:=tn [nest,nest]) hk
  have e2:(K.map tn).set key (tn [nest,nest])=(zce K key nest).map tn:=by
    unfold zce
    rw [map_set]
  rw [e2] at e
  rw [show M.cutD (K.map tn) none (some (key:Int)) ++ [D.tup [D.int (nest:Nat),D.int (nest:Nat)]]++M.cutD (K.map tn) (some ((key:Int)+1)) none=(zce K key nest).map tn from e]
  exact q
theorem zNk {R:List Nat}:∀ {S T:List Nat},S.Nodup→(∀ k∈S,k∈T)→z3e R S≤z3e R T
  | [],_,_,_=>Nat.zero_le _
  | x :: S,T,nd,h=>by
    rw [nodup_cons] at nd
    have hx:=h x mem_cons_self
    have hp:=List.perm_cons_erase hx
    have e:z3e R T=z3e R (x :: T.erase x):=by
      unfold z3e
      exact (hp.map _).sum_nat
    have:=zNk (R:=R) (S:=S) (T:=T.erase x) nd.2 fun k hk=>by
      have hne:k≠x:=by rintro rfl;exact nd.1 hk
      exact (List.mem_erase_of_ne hne).mpr (h k (mem_cons_of_mem _ hk))
    rw [e]
    unfold z3e at this ⊢
    rw [map_cons,map_cons,sum_cons,sum_cons]
    omega
theorem zBu (n:Nat) (K:List (List Nat)) (S:List Nat):(ztc n K S).Nodup:=List.nodup_range.filter _
structure LayA (R:List Nat) (K:List (List Nat)) (X:List Nat):Prop where
  len:X.length=K.length
  home:∀ (i h:Nat) (k:List Nat),X[i]?=some h→K[i]?=some k→h∈k
  room:∀ h,X.count h≤R.getD h 0
theorem zJj (X:List Nat) (h:Nat):(X.map some).count (some h)=X.count h:=by
  induction X with
  | nil=>rfl
  | cons x X ih =>
    rw [map_cons,count_cons,count_cons,ih]
    congr 1
theorem zMn:∀ {lay:List (Option Nat)},(∀ k<lay.length,(lay.getD k none).isSome=true)→∃ X:List Nat,lay=X.map some
  | [],_=>⟨[],rfl⟩
  | x :: lay,h=>by
    obtain ⟨X,rfl⟩:=zMn (lay:=lay) fun k hk=>by simpa using h (k+1) (by simp;omega)
    have h0:=h 0 (by simp)
    cases x with
    | none=>cases h0
    | some n=>exact ⟨n :: X,rfl⟩
theorem z1r {lay:List (Option Nat)} (r:RightL R K lay) (hall:∀ k<K.length,(lay.getD k none).isSome=true):∃ X:List Nat,lay.map onD=nat X∧LayA R K X:=by
  have hl:=r.len
  obtain ⟨X,rfl⟩:=zMn (lay:=lay) fun k h=>hall k (by first|decide|omega)
  refine ⟨X,by rw [map_map];rfl,⟨by rw [length_map] at hl;exact hl,fun i h k e1 e2=>?_,fun h=>?_⟩⟩
  · have h1:=r.home i h (by rw [List.getElem?_map,e1];rfl)
    rw [getD_eq_getElem?_getD,e2] at h1
    exact h1
  · have:=r.room h
    rw [zJj] at this
    exact this
theorem LayA.right {X:List Nat} (a:LayA R K X):RightL R K (X.map some):=by
  have hl:=a.len
  refine ⟨by rw [length_map];exact hl,fun k h e=>?_,fun h=>by rw [zJj];exact a.room h⟩
  rw [List.getElem?_map] at e
  cases ex:X[k]? with
  | none=>rw [ex] at e;cases e
  | some h' =>
    rw [ex] at e
    cases e
    have hk:=(List.getElem?_eq_some_iff.mp ex).1
    have ek:K[k]?=some (K.getD k []):=by rw [getD_eq_getElem?_getD,List.getElem?_eq_getElem (by first|decide|omega)];rfl
    exact a.home k h _ ex ek
theorem zBm {X:List Nat} {k:Nat} (h:k<X.length):((X.map some).getD k none).isSome=true:=by
  rw [getD_eq_getElem?_getD,List.getElem?_map,List.getElem?_eq_getElem h]
  rfl
theorem zig (K:List (List Nat)) (key nest:Nat):(zce K key nest).length=K.length:=by unfold zce;rw [length_set]
theorem zOp {X:List Nat} {key nest:Nat} (a:LayA R K X) (hk:key<K.length):RightL R (zce K key nest) ((X.map some).set key none):=by
  have r:=a.right
  have hl:=a.len
  refine ⟨by rw [length_set,length_map,zig];exact hl,fun k h e=>?_,fun h=>?_⟩
  · by_cases hkk:k=key
    · subst hkk
      rw [List.getElem?_set_self (by rw [length_map];omega)] at e
      cases e
    · rw [List.getElem?_set_ne (Ne.symm hkk)] at e
      rw [zIt hkk]
      exact r.home k h e
  · have:=r.room h
    have h2:=List.count_set (a:=none) (b:=some h) (l:=X.map some) (i:=key) (by rw [length_map];omega)
    rw [h2]
    have e3:((none:Option Nat) == some h)=false:=rfl
    rw [e3]
    simp only [Bool.false_eq_true,if_false]
    omega
theorem zzu {X:List Nat} {key nest:Nat} {row:List (Nat×Nat)} (a:LayA R K X) (hk:key<K.length) (hr:RowOk (zce K key nest) ((X.map some).set key none) key row) (hroom:((X.map some).set key none).count (some (row.getD (row.length - 1) (0,0)).2)<R.getD (row.getD (row.length - 1) (0,0)).2 0):ztf R (zce K key nest):=by
  have hl:=a.len
  have r:=zOp (nest:=nest) a hk
  have hnone:((X.map some).set key none).getD key none=none:=by
    rw [getD_eq_getElem?_getD,List.getElem?_set_self (by rw [length_map];omega)]
    rfl
  refine ⟨_,zpf r hr hnone hroom,fun k h=>?_⟩
  rw [zig] at h
  by_cases hm:k∈row.map (·.1)
  · obtain ⟨p,hp,rfl⟩:=List.mem_map.mp hm
    rw [zRh hr.nd hp (by rw [length_set,length_map];omega)]
    rfl
  · rw [zKc hm]
    have hne:k≠key:=by
      rintro rfl
      obtain ⟨h',r',e⟩:=hr.first
      rw [e] at hm
      simp at hm
    rw [getD_eq_getElem?_getD,List.getElem?_set_ne (Ne.symm hne),← getD_eq_getElem?_getD]
    exact zBm (by first|decide|omega)
theorem zhq {X:List Nat} {i:Nat} (h:i<X.length):M.cutD (nat X) none (some (i:Int)) ++ [D.non]++M.cutD (nat X) (some ((i:Int)+1)) none=((X.map some).set i none).map onD:=by
  have e1:=zQi (xs:=nat X) (i:=i)
  have e2:=zhk (xs:=nat X) (i:=i+1)
  have e3:(((i+1:Nat)):Int)=(i:Int)+1:=by omega
  rw [e3] at e2
  rw [e1,e2,map_set,map_map,List.set_eq_take_append_cons_drop,if_pos (by simpa using h)]
  simp
  rfl
theorem zTs (xs:List D) (lo hi:Option Int):(M.cutD xs lo hi).length≤xs.length:=by
  unfold M.cutD
  rw [length_take,length_drop]
  omega
structure WX (F:FX) (ds:List D) (μ:Mem) (Q:D→Mem→Prop):Prop where
  ex:∃ d μ',F ds μ = some (.ok d μ')∧Q d μ'
theorem zVv {tb:Kit} {n:Nat} {c s:Str} {fs:List (Str×D)} {b:Bool} (h:μ[n]?=some (.exc c fs)) (ha:tb.lookup (some c,CN.own s)=some b) (q:Q (.bl b) μ):WF (zjq tb) [.loc n, .own s] μ Q:=⟨_,_,by simp only [zjq,zgn,h,Option.bind_some,zNu,zBw,ha],q⟩
theorem zYv {tb:Kit} {n:Nat} {c:Str} {s:String} {fs:List (Str×D)} {b:Bool} (h:μ[n]?=some (.exc c fs)) (ha:tb.lookup (some c,CN.ty s)=some b) (q:Q (.bl b) μ):WF (zjq tb) [.loc n, .ty s] μ Q:=⟨_,_,by simp only [zjq,zgn,h,Option.bind_some,zNu,zBw,ha],q⟩
theorem zlw {tb:Kit} {n:Nat} {c:Str} {d:D} {ds:List D} {fs:List (Str×D)} {b:Bool} (h:μ[n]?=some (.exc c fs)) (ha:zMj tb (some c) (d :: ds)=some b) (q:Q (.bl b) μ):WF (zjq tb) [.loc n, .tup (d :: ds)] μ Q:=⟨_,_,by simp only [zjq,zgn,h,Option.bind_some,ha],q⟩
def zWx (nx:M.Loc→Mem→Prop) (rt:D→Mem→Prop) (ex:Str→List (Str×D)→Mem→Prop):Out→Prop
  | .next δ μ=>nx δ μ
  | .ret d μ=>rt d μ
  | .exc c fs μ=>ex c fs μ
  | _=>False
structure WXs (p:FS) (δ:M.Loc) (μ:Mem) (nx:M.Loc→Mem→Prop) (rt:D→Mem→Prop) (ex:Str→List (Str×D)→Mem→Prop):Prop where
  ex:∃ o,p δ μ = some o∧zWx nx rt ex o
section
variable {p q:FS} {δ:M.Loc} {μ:Mem} {nx:M.Loc→Mem→Prop} {rt:D→Mem→Prop} {ex:Str→List (Str×D)→Mem→Prop}
theorem zFv (h:WS p δ μ nx rt (fun _ _=>False) fun _ _=>False):WXs p δ μ nx rt ex:=by
  obtain ⟨o,e,k⟩:=h
  cases o with
  | next _ _=>exact ⟨_,e,k⟩
  | ret _ _=>exact ⟨_,e,k⟩
  | brk _ _=>exact k.elim
  | cont _ _=>exact k.elim
  | exc _ _ _=>exact k.elim
theorem zNl (h:WXs p δ μ (fun δ' μ'=>WXs q δ' μ' nx rt ex) rt ex):WXs (zX p q) δ μ nx rt ex:=by
  obtain ⟨o,e,k⟩:=h
  cases o with
  | next δ' μ'=>obtain ⟨o2,e2,k2⟩:=k;exact ⟨o2,by simp [e,e2],k2⟩
  | ret d μ'=>exact ⟨.ret d μ',by simp only [zX,e],k⟩
  | exc c fs μ'=>exact ⟨.exc c fs μ',by simp only [zX,e],k⟩
  | brk _ _=>exact k.elim
  | cont _ _=>exact k.elim
theorem zCx {c:FT} (h:WT c δ μ fun b μ1=>(b=true→WXs p δ μ1 nx rt ex)∧(b=false→WXs q δ μ1 nx rt ex)):WXs (sIf c p q) δ μ nx rt ex:=by
  obtain ⟨b,μ1,e,h1,h2⟩:=h
  cases b with
  | true=>obtain ⟨o,e2,k⟩:=h1 rfl;exact ⟨o,by simp [e,e2],k⟩
  | false=>obtain ⟨o,e2,k⟩:=h2 rfl;exact ⟨o,by simp [e,e2],k⟩
end
structure WXr (F:FX) (ds:List D) (μ:Mem) (Q:D→Mem→Prop) (ex:Str→List (Str×D)→Mem→Prop):Prop where
  ex:(∃ d μ',F ds μ = some (.ok d μ')∧Q d μ')∨∃ c fs μ',F ds μ = some (.exc c fs μ')∧ex c fs μ'
theorem zVw {F:FX} {N:List Str} {p:FS} {ds:List D} {ex:Str→List (Str×D)→Mem→Prop} (hF:F=fun ds μ=>zpx (p (zG N ds) μ)) (h:WXs p (zG N ds) μ (fun _ μ'=>Q .non μ') Q ex):WXr F ds μ Q ex:=by
  subst hF
  obtain ⟨o,e,k⟩:=h
  cases o with
  | next δ' μ'=>exact ⟨.inl ⟨_,_,by rw [e];rfl,k⟩⟩
  | ret d μ'=>exact ⟨.inl ⟨_,_,by rw [e];rfl,k⟩⟩
  | exc c fs μ'=>exact ⟨.inr ⟨_,_,_,by rw [e];rfl,k⟩⟩
  | brk _ _=>exact k.elim
  | cont _ _=>exact k.elim
theorem zys {F:FX} {φ:FA} {i j:Nat} {tb:List (Str×Bool)} {q:FS} {η:FH} {δ:M.Loc} {nx:M.Loc→Mem→Prop} {rt:D→Mem→Prop} {bk ct:M.Loc→Mem→Prop} (h:WA φ δ μ fun ds μ1=>WXr F ds μ1 (fun d μ'=>nx (δ.set i (some d)) μ')
    (fun c fs μ'=>tb.lookup c=some true∧WS q (δ.set j (some (.loc μ'.length))) (μ' ++ [.exc c fs]) (fun δ' μ''=>nx (δ'.set j none) μ'') rt (fun _ _=>False) (fun _ _=>False))):WS (z4s (zFp i F φ) (hAs j tb q η)) δ μ nx rt bk ct:=by
  obtain ⟨ds,μ1,e1,⟨d,μ',e2,k⟩ | ⟨c,fs,μ',e2,ht,o,e3,k⟩⟩:=h
  · exact ⟨.next _ μ',by simp [e1,e2],k⟩
  · cases o with
    | next δ' μ2=>exact ⟨.next _ μ2,by simp only [z4s,zFp,zAw,e1,Option.bind_some,e2,hAs,ht,e3,behind],k⟩
    | ret d μ2=>exact ⟨.ret d μ2,by simp only [z4s,zFp,zAw,e1,Option.bind_some,e2,hAs,ht,e3,behind],k⟩
    | brk _ _=>exact k.elim
    | cont _ _=>exact k.elim
    | exc _ _ _=>exact k.elim
theorem zXv {c f:Str} {φ:FE} {δ:M.Loc} (h:WE φ δ μ fun x μ1=>∃ n fs d,x = .loc n∧μ1[n]?=some (.exc c fs)∧fs.lookup f=some d∧Q d μ1):WE (fAt c f φ) δ μ Q:=by
  obtain ⟨x,μ1,e1,n,fs,d,rfl,e2,e3,q⟩:=h
  exact ⟨d,μ1,by simp only [fAt,e1,Option.bind_some,e2,if_true,e3],q⟩
structure RowsX (μ:Mem) (f:Nat) (ls:List Nat) (rows:List (List Nat)):Prop where
  at_:μ[f]?=some (.lst (ls.map D.loc))
  len:ls.length=rows.length
  row:∀ (j n:Nat) (r:List Nat),ls[j]?=some n→rows[j]?=some r→μ[n]?=some (.lst (nat r))
theorem RowsX.keep {μ μ':Mem} {f:Nat} {ls:List Nat} {rows:List (List Nat)} (h:RowsX μ f ls rows) (k:Keep μ μ'):RowsX μ' f ls rows:=⟨k _ _ h.at_,h.len,fun j n r a b=>k _ _ (h.row j n r a b)⟩
theorem RowsX.push {c n:Nat} {lc:List Nat} {lon:List (List Nat)} {r:List Nat} (h:RowsX μ c lc lon) (hc:∀ m∈lc,c<m) (g:μ[n]?=some (.lst (nat r))) (hn:c<n):RowsX (μ.set c (.lst (lc.map D.loc ++ [D.loc n]))) c (lc ++ [n]) (lon ++ [r]):=by
  have hl:=h.len
  refine ⟨by rw [zK h.at_,map_append];rfl,by simp [hl],fun j m s e1 e2=>?_⟩
  by_cases hj:j<lc.length
  · rw [List.getElem?_append_left hj] at e1
    rw [List.getElem?_append_left (by first|decide|omega)] at e2
    have:=hc m (mem_of_getElem? e1)
    exact zI (h.row j m s e1 e2) (by first|decide|omega)
  · have hj2:=(List.getElem?_eq_some_iff.mp e1).1
    rw [length_append,List.length_singleton] at hj2
    have ej:j=lc.length:=by omega
    subst ej
    rw [List.getElem?_append_right (Nat.le_refl _),Nat.sub_self] at e1
    rw [hl,List.getElem?_append_right (Nat.le_refl _),Nat.sub_self] at e2
    cases e1
    cases e2
    exact zI g (by first|decide|omega)
theorem zkt {φ:FE} {δ:M.Loc} (h:WE φ δ μ fun x μ1=>∃ ns:List Int,x = .tup (ns.map .int)∧ns.length≤4000∧(uqL ns).length<64∧Q (.loc μ1.length) (μ1 ++ [.lst ((zrn ns).map .int)])):WE (zWl φ) δ μ Q:=by
  obtain ⟨x,μ1,e1,ns,rfl,h1,h2,q⟩:=h
  exact ⟨_,_,by simp [zWl,e1,h1,h2] <;> rfl,q⟩
theorem zKo {L:Nat} {X:List Nat} {key nest n:Nat} (w:Wb L R K) (hL:L≤60) (a:LayA R K X) (hk:key<K.length) (hnR:nest<R.length) (hn:μ[n]?=some (.lst (nat X)))
    (q:∀ (b:Bool) (μ':Mem),(b=true↔ztf R (zce K key nest))→Keep μ μ'→Q (.bl b) μ'):WF zJe [wn R K, .loc n, .int key, .int nest] μ Q:=by
  have hkl:=w.kl
  have hX:=a.len
  refine zFb rfl ?_
  show WS zCe [some (wn R K),some (.loc n),some (.int key),some (.int nest),none] μ _ _ _ _
  unfold zCe
  have c1:=zTs (nat X) none (some (key:Int))
  have c2:=zTs (nat X) (some ((key:Int)+1)) none
  rw [length_map] at c1 c2
  refine zr (zdb (zk (zk (zsu (zb rfl (zAl (zph (zb rfl ⟨_,rfl,n,_,rfl,hn,?_⟩))))))))
  refine zcg (zc (w_c (zn (z5s (zF zt) zt (by simp;omega) ?_))))
  refine zsu (zb rfl (zph (zk (zb rfl (w_c (zde ⟨_,rfl,zAl ⟨n,_,rfl,zF (zF (zF hn)),?_⟩⟩))))))
  refine z5s (zF zt) zt (by simp;omega) ?_
  rw [zhq (by omega:key<X.length)]
  refine zab (zk (zk (zp (zc (zp (zc (zb rfl (zc (zb rfl (zc (zb rfl (zn ?_))))))))))))
  refine zBq w (by first|decide|omega) hk (zc (zb rfl (zc (zb rfl (zn ?_)))))
  have hnone:((X.map some).set key none).getD key none=none:=by
    rw [getD_eq_getElem?_getD,List.getElem?_set_self (by rw [length_map];omega)]
    rfl
  refine z2n (zsn w hnR) (by rw [length_set,length_map,zig];exact hX) (by first|decide|omega) zt (by rw [zig];exact hk) hnone (fun row l μ1 ro hroom _ k1 hl g=>?_) (fun S l μ1 hS hkS sh k1 hl g=>?_)
  · refine w_c (zRc rfl rfl (w_c (z1g ?_)))
    refine q _ _ ⟨fun _=>zzu a hk ro hroom,fun _=>by decide +kernel⟩ ?_
    exact Keep.trans (Keep.to (Keep.to (Keep.to (Keep.to (Keep.to .refl))))) k1
  · refine w_c (zRc rfl rfl (w_c (z1g ?_)))
    have hc:=zOg (zsn (key:=key) w hnR) sh (by rw [length_set,length_map,zig];exact hX) hkS hnone
    have nf:=zfk (zsn w hnR) hS hc
    refine q _ _ ⟨fun h=>absurd h (by decide +kernel),fun h=>absurd h nf⟩ ?_
    exact Keep.trans (Keep.to (Keep.to (Keep.to (Keep.to (Keep.to .refl))))) k1
theorem zLr {φ:FA} {c f:Str} {δ:M.Loc} {nx:M.Loc→Mem→Prop} {rt:D→Mem→Prop} {ex:Str→List (Str×D)→Mem→Prop} (h:WA φ δ μ fun ds μ1=>∃ (n:Nat) (ns:List Int),ds = [.loc n]∧μ1[n]?=some (.lst (ns.map D.int))∧z9e ns∧ex c [(f, .loc μ1.length)] (μ1 ++ [.lst (ns.map D.int)])):WXs (zFi c f φ) δ μ nx rt ex:=by
  obtain ⟨ds,μ1,e,n,ns,rfl,hm,hs,k⟩:=h
  exact ⟨Out.exc c [(f,D.loc μ1.length)] (μ1 ++ [LObj.lst (ns.map D.int)]),by simp only [zFi,e,Option.bind_some,hm,z3h,decide_eq_true hs,cond_true],k⟩
theorem zQh (T:List Nat):nat T=(T.map fun (k:Nat)=>(k:Int)).map D.int:=by rw [map_map];rfl
noncomputable def plc (R:List Nat) (K:List (List Nat)) (j:Nat):List Nat:=((List.range R.length).filter fun h=>decide (h∈K.getD j [])).filter fun h=>@decide (ztf R (zce K j h)) (Classical.propDecidable _)
theorem z2r {R ks:List Nat} {φ:FE} {δ:M.Loc} (hk3:ks.length≤3) (hkn:∀ h∈ks,h<R.length) (h:WE φ δ μ fun x μ1=>x=tn ks∧Q (.loc μ1.length) (μ1 ++ [.lst (nat ((List.range R.length).filter fun h=>decide (h∈ks)))])):WE (zWl φ) δ μ Q:=by
  obtain ⟨x,μ1,e1,rfl,q⟩:=h
  obtain ⟨U,hU⟩:∃ U,U=(List.range R.length).filter fun h=>decide (h∈ks):=⟨_,rfl⟩
  rw [← hU] at q
  have hUm:∀ h,h∈U↔h∈ks:=fun h=>by
    rw [hU,mem_filter,mem_range,decide_eq_true_iff]
    exact ⟨fun h=>h.2,fun h'=>⟨hkn h h',h'⟩⟩
  have hUp:U.Pairwise (· < ·):=by rw [hU];exact List.pairwise_lt_range.filter _
  have hmem:∀ i:Int,i∈U.map (fun (k:Nat)=>(k:Int))↔i∈ks.map (fun (k:Nat)=>(k:Int)):=fun i=>by
    simp only [mem_map]
    constructor
    · rintro ⟨h,hh,rfl⟩
      exact ⟨h,(hUm h).mp hh,rfl⟩
    · rintro ⟨h,hh,rfl⟩
      exact ⟨h,(hUm h).mpr hh,rfl⟩
  have hpw:(U.map (fun (k:Nat)=>(k:Int))).Pairwise (· < ·):=by
    rw [List.pairwise_map]
    exact hUp.imp fun h=>by omega
  have h2:(uqL (ks.map fun (k:Nat)=>(k:Int))).length≤(ks.map fun (k:Nat)=>(k:Int)).length:=z7m _ _
  rw [length_map] at h2
  have hs:=zFk hmem hpw
  have e2:tn ks = .tup ((ks.map fun (k:Nat)=>(k:Int)).map D.int):=by
    show D.tup (nat ks)=_
    rw [zQh]
  rw [e2] at e1
  refine zkt ⟨_,μ1,e1,ks.map (fun (k:Nat)=>(k:Int)),rfl,by rw [length_map];omega,by first|decide|omega,?_⟩
  rw [hs,← zQh]
  exact q
abbrev JPx (R:List Nat) (K:List (List Nat)) (X:List Nat) (l c:Nat) (μ:Mem):Nat→M.Loc→Mem→Prop:=fun i δ ν=>∃ (ls:List Nat) (x y:Option D),δ = [some (wn R K),some (.tup [.str "fits", .loc l]),some (.loc c),x,y]∧Keep μ ν∧ν[l]?=some (.lst (nat X))∧RowsX ν c ls ((List.range i).map (plc R K))∧∀ m∈ls,c<m
theorem zEq {L:Nat} {ex:Str→List (Str×D)→Mem→Prop} (w:Wb L R K) (hL:L≤60)
    (q:∀ (l:Nat) (ls:List Nat) (μ':Mem),ztf R K→RowsX μ' l ls ((List.range K.length).map (plc R K))→(∀ m∈ls,l<m)→μ.length≤l→Keep μ μ'→Q (.loc l) μ')
    (x:∀ (T:List Nat) (n:Nat) (μ':Mem),¬ ztf R K→T.Sublist (List.range K.length)→zqc R K T=true→zBb R K T=none→μ.length≤n→μ'[n]?=some (.lst (nat T))→Keep μ μ'→ex "NoFit" [("some", .loc n)] μ'):WXr zAh [wn R K] μ Q ex:=by
  have hkl:=w.kl
  have hrl:=w.rl
  refine zVw rfl ?_
  show WXs zJh [some (wn R K),none,none,none,none] μ _ _ _
  unfold zJh
  refine zNl (zFv (zdb (zp (zc (zb rfl (zn ?_))))))
  refine z3q w hL (fun lay l μ1 r hall k1 hl g=>?_) (fun T l μ1 hT hc hs k1 hl g=>?_)
  · have hf:ztf R K:=⟨lay,r,hall⟩
    obtain ⟨X,e,a⟩:=z1r r hall
    rw [e] at g
    refine zNl (zCx (zA (zk (zk (zb rfl (w_c (zRc rfl rfl (w_c (z1g ⟨_,rfl,fun h=>absurd h (by decide +kernel),fun _=>zFv (z9 ?_)⟩)))))))))
    refine zNl (zFv (zdb (zcg (zn ?_))))
    refine zNl (zFv (zLd (z9g (zk (zb rfl (w_c (zOc (.inl ⟨_,rfl,?_⟩))))))))
    have kl:Keep μ (μ1 ++ [LObj.lst []]):=k1.to
    have gl:(μ1 ++ [LObj.lst []])[l]?=some (.lst (nat X)):=zF g
    have gc:(μ1 ++ [LObj.lst []])[μ1.length]?=some (.lst []):=zt
    have hc:μ.length≤μ1.length:=k1.len
    have hlc:l < μ1.length:=zz g
    generalize μ1 ++ [LObj.lst []] = μ2 at kl gl gc
    generalize μ1.length=c at gc hc hlc
    refine zsb (JPx R K X l c μ) ⟨[],_,_,rfl,kl,gl,⟨gc,rfl,fun j n r e _=>by cases e⟩,by simp⟩ (fun _ _ _ _=>rfl) ?_ ?_
    · rintro key z δ ν hz ⟨ls,x1,y1,rfl,kν,gν,hr,hls⟩
      obtain ⟨ks,hks,rfl⟩:=z5j hz
      have hk:=(List.getElem?_eq_some_iff.mp hks).1
      have eks:K.getD key []=ks:=by rw [getD_eq_getElem?_getD,hks];rfl
      obtain ⟨hk3,hkn⟩:=w.key hk
      rw [eks] at hk3 hkn
      refine zYh (zlc (zoc (zlc (zoc (zvh ?_)))))
      unfold z2j
      refine zoe (z8d (zb rfl ⟨_,_,rfl,hr.at_,zc (zil (zrd (z2r (ks:=ks) hk3.2 hkn (zb rfl ⟨rfl, .inr (.inr ⟨_,_,rfl,zt,zhc ?_,?_⟩)⟩))))⟩))
      · have:=List.length_filter_le (fun h=>decide (h∈ks)) (List.range R.length)
        rw [length_range] at this
        rw [length_map]
        omega
      obtain ⟨U,hU⟩:∃ U,U=(List.range R.length).filter fun h=>decide (h∈ks):=⟨_,rfl⟩
      have hUm:∀ h∈U,h<R.length:=fun h hh=>by
        rw [hU,mem_filter,mem_range] at hh
        exact hh.1
      rw [← hU]
      have kn:Keep μ (ν ++ [LObj.lst (nat U)]):=kν.to
      have gn:(ν ++ [LObj.lst (nat U)])[l]?=some (.lst (nat X)):=zF gν
      have hrn:RowsX (ν ++ [LObj.lst (nat U)]) c ls ((List.range key).map (plc R K)):=hr.keep .app
      have gu:(ν ++ [LObj.lst (nat U)])[ν.length]?=some (.lst (nat U)):=zt
      show WL _ _ _ (z9k ν.length (nat U)) _ (nat U) [] (ν ++ [LObj.lst (nat U)]) _
      generalize ν ++ [LObj.lst (nat U)] = ν1 at kn gn hrn gu
      generalize ν.length=ul at gu
      refine zle (fun (k:Nat)=>D.int k) U (fun (k:Nat)=>D.int k) (fun h=>@decide (ztf R (zce K key h)) (Classical.propDecidable _)) (fun μ' k=>z5 gu k) (fun h hh μ' kp=>?_) (fun μ' kp=>?_)
      · refine zoc ?_
        unfold zrj zwj
        refine zA (zp (zc (zb rfl (zc (zk (zb rfl (w_c (zRc rfl rfl (zc (zb rfl (zc (zb rfl (zn ?_)))))))))))))
        refine zKo w hL a hk (hUm h hh) (kp _ _ gn) fun b μ3 hb k3=>⟨b,rfl,?_,kp.trans k3,fun _=>zb rfl ⟨rfl,kp.trans k3⟩⟩
        by_cases hf:ztf R (zce K key h)
        · rw [hb.mpr hf,@decide_eq_true _ (Classical.propDecidable _) hf]
        · have:b=false:=by
            cases b with
            | false=>rfl
            | true=>exact absurd (hb.mp rfl) hf
          rw [this,@decide_eq_false _ (Classical.propDecidable _) hf]
      · have hp:U.filter (fun h=>@decide (ztf R (zce K key h)) (Classical.propDecidable _))=plc R K key:=by
          unfold plc
          rw [eks,← hU]
        refine zn ?_
        rw [hp]
        have hr2:RowsX (μ' ++ [LObj.lst (nat (plc R K key))]) c ls ((List.range key).map (plc R K)):=(hrn.keep kp).keep .app
        have hcl:=zz (hrn.keep kp).at_
        refine zQe hr2.at_ (by rw [length_map];have:=hr2.len;simp at this;omega) ?_
        have hr3:=hr2.push hls (n:=μ'.length) (r:=plc R K key) zt hcl
        refine ⟨ls ++ [μ'.length],_,_,rfl,?_,zI (zF (kp _ _ gn)) (by first|decide|omega),?_,?_⟩
        · intro i o e
          have hi:=zz e
          exact zI (zF (kp _ _ (kn _ _ e))) (by first|decide|omega)
        · rw [List.range_succ,map_append]
          exact hr3
        · intro m hm
          rcases List.mem_append.mp hm with hm | hm
          · exact hls m hm
          · rw [List.mem_singleton.mp hm];exact hcl
    · rintro δ ν ⟨ls,x1,y1,rfl,kν,gν,hr,hls⟩
      have e:(zwf (K.map tn)).length=K.length:=by rw [zQb,length_map]
      rw [e] at hr
      exact zFv (zab (zb rfl (q c ls ν hf hr hls hc kν)))
  · have nf:=zfk w hT hc
    have hTl:=hT.length_le
    rw [length_range] at hTl
    refine zNl (zCx (zA (zk (zk (zb rfl (w_c (zRc rfl rfl (w_c (z1g ⟨_,rfl,fun _=>?_,fun h=>absurd h (by decide +kernel)⟩)))))))))
    refine zLr (zc (zk (zb rfl (w_c (zRc rfl rfl (zn ⟨l,T.map fun (k:Nat)=>(k:Int),rfl,by rw [← zQh];exact g,⟨by rw [length_map];omega,fun n hn=>?_⟩,?_⟩))))))
    · obtain ⟨k,hk,rfl⟩:=List.mem_map.mp hn
      have:=hT.subset hk
      rw [mem_range] at this
      omega
    · rw [← zQh]
      exact x T _ _ nf hT hc hs k1.len zt k1.to
theorem z6c {lay:List (Option Nat)} {k j:Nat} {a:Option Nat} (hk:k<lay.length):(lay.set k a).getD j none=if j=k then a else lay.getD j none:=by
  rw [getD_eq_getElem?_getD,getD_eq_getElem?_getD,List.getElem?_set]
  by_cases z:k=j
  · subst z
    rw [if_pos rfl,if_pos rfl,if_pos hk]
    rfl
  · rw [if_neg z,if_neg (Ne.symm z)]
structure Moved (R:List Nat) (K:List (List Nat)) (lay:List (Option Nat)) (key:Nat) (met:List Nat) (lay':List (Option Nat)):Prop where
  len:lay'.length=lay.length
  home:∀ k h,lay'.getD k none=some h→h∈K.getD k []
  last:∃ e,e∉met∧lay.count (some e)<R.getD e 0∧∀ h,lay'.count (some h)+(if lay.getD key none=some h then 1 else 0)=lay.count (some h)+(if e=h then 1 else 0)
  laid:(lay'.getD key none).isSome=true
  rest:∀ k,k≠key→(lay'.getD k none).isSome=(lay.getD k none).isSome
  keep:∀ k,k≠key→(∀ h,lay.getD k none=some h→h∈met)→lay'.getD k none=lay.getD k none
structure Stuck (R:List Nat) (K:List (List Nat)) (lay:List (Option Nat)) (S met met':List Nat):Prop where
  sub:∀ h∈met,h∈met'
  nd:met'.Nodup
  lt:∀ h∈met',h<R.length
  homes:∀ h∈S,h∈met'
  shut:∀ h∈met',h∉met→R.getD h 0≤lay.count (some h)∧∀ k,lay.getD k none=some h→∀ x∈K.getD k [],x∈met'
theorem z8p {lay:List (Option Nat)} {key nest:Nat} {met:List Nat} (hk:key<lay.length) (hh:∀ k h,lay.getD k none=some h→h∈K.getD k []) (hn:nest∈K.getD key []) (hm:nest∉met) (hr:lay.count (some nest)<R.getD nest 0):Moved R K lay key met (lay.set key (some nest)):=by
  refine ⟨length_set ..,fun k h e=>?_,⟨nest,hm,hr,fun h=>?_⟩,?_,fun k z=>?_,fun k z _=>?_⟩
  · rw [z6c hk] at e
    by_cases z:k=key
    · rw [if_pos z] at e
      cases e
      rw [z]
      exact hn
    · rw [if_neg z] at e
      exact hh k h e
  · have:=count_set (b:=some nest) hk rfl (some h)
    simp only [Option.some.injEq] at this
    exact this
  · rw [z6c hk,if_pos rfl]
    rfl
  · rw [z6c hk,if_neg z]
  · rw [z6c hk,if_neg z]
theorem zSo {lay lay':List (Option Nat)} {key other nest:Nat} {met met1:List Nat} (hk:key<lay.length) (hn:nest∈K.getD key []) (hm:nest∉met) (hs:∀ h∈met,h∈met1) (ho:lay.getD other none=some nest) (hp:∀ h,lay.getD key none=some h→h∈met) (mv:Moved R K lay other met1 lay'):Moved R K lay key met (lay'.set key (some nest)):=by
  have hne:key≠other:=fun z=>hm (hp nest (by rw [z];exact ho))
  have hk':key<lay'.length:=by rw [mv.len];exact hk
  have hkeep:=mv.keep key hne fun h e=>hs h (hp h e)
  obtain ⟨e,he,hc,hcount⟩:=mv.last
  refine ⟨by rw [length_set,mv.len],fun k h e=>?_,⟨e,fun z=>he (hs e z),hc,fun h=>?_⟩,?_,fun k z=>?_,fun k z hz=>?_⟩
  · rw [z6c hk'] at e
    by_cases z:k=key
    · rw [if_pos z] at e
      cases e
      rw [z]
      exact hn
    · rw [if_neg z] at e
      exact mv.home k h e
  · have h1:=count_set (b:=some nest) hk' hkeep (some h)
    have h2:=hcount h
    rw [ho] at h2
    omega
  · rw [z6c hk',if_pos rfl]
    rfl
  · rw [z6c hk',if_neg z]
    by_cases z2:k=other
    · rw [z2,mv.laid,ho]
      rfl
    · exact mv.rest k z2
  · rw [z6c hk',if_neg z]
    have z2:k≠other:=fun e=>hm (hz nest (by rw [e];exact ho))
    exact mv.keep k z2 fun h e=>hs h (hz h e)
theorem zns {L:Nat} {lay:List (Option Nat)} {ln h:Nat} (hh:h<R.length) (hl:lay.length≤1000) (g:μ[ln]?=some (.lst (lay.map onD))) (q:∀ μ',Keep μ μ'→Q (.int ((R.getD h 0:Int) - (lay.count (some h):Nat))) μ'):WF zYb [wn R K, .loc ln, .int h] μ Q:=by
  refine zFb rfl ?_
  show WS zHd [some (wn R K),some (.loc ln),some (.int h)] μ _ _ _ _
  unfold zHd
  refine zab (zk (zk (zk (zb rfl (w_c (zDg (zb rfl (zmq hh (zp (zc (zil (zrd (zb rfl (.inr (.inr ⟨ln,_,rfl,g,zhc (by rw [length_map];omega),?_⟩)))))))))))))))
  refine zle onD lay onD (fun x=>decide (x=some h)) (fun μ' k=>z5 g k) (fun x hx μ' kp=>?_) (fun μ' kp=>?_)
  · refine zoc ?_
    unfold zEf zxg
    exact zA (zk (zb rfl (zb rfl (zup (α:=Option Nat) x (some h) ⟨_,rfl,rfl,kp,fun _=>zb rfl ⟨rfl,kp⟩⟩))))
  · refine zn (zbe (zx zt) (zep ?_))
    have e:((lay.filter fun x=>decide (x=some h)).map onD).length=lay.count (some h):=by
      rw [length_map,List.count_eq_length_filter]
      congr 1
      refine List.filter_congr fun x _=>?_
      rw [Bool.eq_iff_iff,decide_eq_true_iff,beq_iff_eq]
    rw [e]
    exact q _ kp.to
abbrev JU (R:List Nat) (K:List (List Nat)) (lay:List (Option Nat)) (key:Nat) (met:List Nat) (ln mn:Nat) (μ:Mem):Nat→M.Loc→Mem→Prop:=fun m δ ν=>∃ (met1:List Nat) (x4 x5:Option D),δ = [some (wn R K),some (.loc ln),some (.int key),some (.loc mn),x4,x5]∧Stuck R K lay ((K.getD key []).take m) met met1∧KB [ln,mn] μ ν∧ν[ln]?=some (.lst (lay.map onD))∧ν[mn]?=some (.lst (nat met1))
abbrev JV (R:List Nat) (K:List (List Nat)) (lay:List (Option Nat)) (key:Nat) (met met1 OS:List Nat) (h vl ln mn:Nat) (μ:Mem):Nat→M.Loc→Mem→Prop:=fun j δ ν=>∃ (met2:List Nat) (x5:Option D),δ = [some (wn R K),some (.loc ln),some (.int key),some (.loc mn),some (.int h),x5]∧((∀ x∈met1,x∈met2)∧h∈met2∧met2.Nodup∧(∀ x∈met2,x<R.length)∧(∀ o∈OS.take j,∀ x∈K.getD o [],x∈met2)∧(∀ x∈met2,x∉met→x≠h→R.getD x 0≤lay.count (some x)∧∀ k,lay.getD k none=some x→∀ y∈K.getD k [],y∈met2))∧KB [ln,mn] μ ν∧ν[ln]?=some (.lst (lay.map onD))∧ν[mn]?=some (.lst (nat met2))∧ν[vl]?=some (.lst (nat OS))
theorem zxl {L:Nat} {R:List Nat} {K:List (List Nat)} (w:Wb L R K) (hL:L≤60):∀ (n:Nat) {lay:List (Option Nat)} {met:List Nat} {ln mn key:Nat} {μ:Mem} {Q:D→Mem→Prop},key<K.length→lay.length=K.length→(∀ k h,lay.getD k none=some h→h∈K.getD k [])→(∀ h,lay.getD key none=some h→h∈met)→met.Nodup→(∀ h∈met,h<R.length)→R.length<n+met.length→ln≠mn→μ[ln]?=some (.lst (lay.map onD))→μ[mn]?=some (.lst (nat met)) →
    (∀ (lay':List (Option Nat)) (μ':Mem),Moved R K lay key met lay'→KB [ln,mn] μ μ'→μ'[ln]?=some (.lst (lay'.map onD))→Q (.bl true) μ')→(∀ (met':List Nat) (μ':Mem),Stuck R K lay (K.getD key []) met met'→KB [ln,mn] μ μ'→μ'[ln]?=some (.lst (lay.map onD))→μ'[mn]?=some (.lst (nat met'))→Q (.bl false) μ')→WF (zfb n) [wn R K, .loc ln, .int key, .loc mn] μ Q
  | 0,lay,met,ln,mn,key,μ,Q,_,_,_,_,nd,hlt,hf,_,_,_,_,_=>by
    have:met.length≤(List.range R.length).length:=zob nd fun h hh=>List.mem_range.mpr (hlt h hh)
    rw [length_range] at this
    omega
  | n+1,lay,met,ln,mn,key,μ,Q,hk,hlen,hh,hp,nd,hlt,hf,hne,gl,gm,q1,q2=>by
    have ih:=@zxl L R K w hL n
    have hkl:=w.kl
    have hrl:=w.rl
    have hlnl:=zz gl
    have hmnl:=zz gm
    refine zFb rfl ?_
    show WS (zGb (zfb n)) [some (wn R K),some (.loc ln),some (.int key),some (.loc mn),none,none] μ _ _ _ _
    unfold zGb
    generalize zfb n=G at ih ⊢
    refine zr (zLd (zrd (zk (zk (zb rfl (w_c (zOc (zb rfl (z0m hk (.inl ⟨_,rfl,?_⟩))))))))))
    refine zsb (JU R K lay key met ln mn μ) ⟨met,_,_,rfl,⟨fun h hh=>hh,nd,hlt,by simp,fun h h1 h2=>absurd h1 h2⟩, .refl,gl,gm⟩ (fun _ _ _ _=>rfl) ?_ ?_
    · rintro m z δ ν hz ⟨met1,x4,x5,rfl,st,kν,gν,hν⟩
      rw [List.getElem?_map] at hz
      cases ey:(K.getD key [])[m]? with
      | none=>rw [ey] at hz;cases hz
      | some h =>
        rw [ey] at hz
        cases hz
        have hhk:=mem_of_getElem? ey
        have hhR:=(w.key hk).2 h hhk
        have ht:(K.getD key []).take (m+1)=(K.getD key []).take m ++ [h]:=by rw [take_succ,ey];rfl
        have hm1:met1.length≤R.length:=by
          have:met1.length≤(List.range R.length).length:=zob st.nd fun x hx=>List.mem_range.mpr (st.lt x hx)
          rwa [length_range] at this
        have hmm:met.length≤met1.length:=zob nd st.sub
        refine zoc ?_
        unfold z6d
        refine z1e (zA (zk (zb rfl (zb rfl (zyh (zx hν) ⟨_,rfl,fun hin=>?_,fun hin=>z9 ?_⟩)))))
        · have hin:h∉met1:=by simpa using hin
          have hin0:h∉met:=fun z=>hin (st.sub h z)
          refine zr (zoe (z8d (zb rfl ⟨_,_,rfl,hν,zc (zb rfl (zn (zQe hν (by rw [length_map];omega) ?_)))⟩)))
          have k1:KB [ln,mn] μ (ν.set mn (.lst (nat met1 ++ [.int h]))):=kν.set (.inl (by simp))
          have g1:(ν.set mn (.lst (nat met1 ++ [.int h])))[ln]?=some (.lst (lay.map onD)):=zI gν (Ne.symm hne)
          have h1:(ν.set mn (.lst (nat met1 ++ [.int h])))[mn]?=some (.lst (nat (met1 ++ [h]))):=by rw [zK hν,zCc];rfl
          generalize ν.set mn (.lst (nat met1 ++ [.int h])) = ν1 at k1 g1 h1 ⊢
          refine zr (z1e (zA (zk (zp (zc (zb rfl (zc (zb rfl (zc (zb rfl (zn ?_)))))))))))
          refine zns (L:=L) hhR (by first|decide|omega) g1 fun ν2 k2=>w_c (z6f ⟨_,rfl,fun hgt=>?_,fun hle=>z9 ?_⟩)
          · have hgt:=of_decide_eq_true hgt
            have g2:=k2 _ _ g1
            refine zr (z5i (zb rfl (zZp (zb rfl (zb rfl ⟨ln,key,lay.map onD,rfl,rfl,g2,⟨by first|decide|omega,by rw [length_map];omega⟩,?_⟩)))))
            refine zab (w_c (q1 (lay.set key (some h)) _ (z8p (by first|decide|omega) hh hhk hin0 (by first|decide|omega)) ((k1.trans (KB.of_keep k2)).set (.inl (by simp))) ?_))
            rw [zK g2,Int.toNat_natCast,map_set]
          · have hle:¬ (0:Int)<(R.getD h 0:Int) - (lay.count (some h):Nat):=of_decide_eq_false hle
            have g2:=k2 _ _ g1
            have h2:=k2 _ _ h1
            have k2':=k1.trans (KB.of_keep (L:=[ln,mn]) k2)
            clear k1 g1 h1 k2
            refine zLd (zrd (zil (zrf (zc (zp (zc (zb rfl (zn (zbe (zx g2) (zn ⟨_,rfl,by first|decide|omega,by rw [length_map];omega,zhc (by simp;omega),?_⟩))))))))))
            rw [Int.toNat_natCast,length_map]
            refine zle (fun (k:Nat)=>D.int k) (List.range lay.length) (fun (k:Nat)=>D.int k) (fun k=>decide (lay.getD k none=some h)) (fun _ _=>rfl) (fun k hk' μ' kp=>?_) (fun ν3 k3=>?_)
            · have hk':=List.mem_range.mp hk'
              refine zoc ?_
              unfold z0d z3d
              exact zA (zk (zk (zb rfl (zb rfl (zRc (zx (kp _ _ g2)) (zrt hk') (zb rfl (zup (α:=Option Nat) (lay.getD k none) (some h) ⟨_,rfl,rfl,kp,fun _=>zb rfl ⟨rfl,kp⟩⟩)))))))
            obtain ⟨OS,hOS⟩:∃ OS,OS=(List.range lay.length).filter fun k=>decide (lay.getD k none=some h):=⟨_,rfl⟩
            have hOm:∀ o,o∈OS↔o<lay.length∧lay.getD o none=some h:=fun o=>by rw [hOS,mem_filter,mem_range,decide_eq_true_iff]
            rw [← hOS]
            have g4:(ν3 ++ [LObj.lst (OS.map fun (k:Nat)=>D.int k)])[ν3.length]?=some (.lst (nat OS)):=zt
            have k4:KB [ln,mn] μ (ν3 ++ [LObj.lst (OS.map fun (k:Nat)=>D.int k)]):=k2'.trans (KB.of_keep k3.to)
            have gl4:(ν3 ++ [LObj.lst (OS.map fun (k:Nat)=>D.int k)])[ln]?=some (.lst (lay.map onD)):=zF (k3 _ _ g2)
            have gm4:(ν3 ++ [LObj.lst (OS.map fun (k:Nat)=>D.int k)])[mn]?=some (.lst (nat (met1 ++ [h]))):=zF (k3 _ _ h2)
            have hvl:μ.length≤ν3.length:=Nat.le_trans k2'.len k3.len
            refine .inr (.inr ⟨ν3.length,_,rfl,zt,?_⟩)
            generalize ν3 ++ [LObj.lst (OS.map fun (k:Nat)=>D.int k)] = ν4 at g4 k4 gl4 gm4 ⊢
            generalize ν3.length=vl at g4 hvl ⊢
            refine zsb (JV R K lay key met met1 OS h vl ln mn μ) ⟨met1 ++ [h],_,rfl,⟨fun x hx=>mem_append_left _ hx,by simp,?_,fun x hx=>?_,by simp,fun x hx hxm hxh=>?_⟩,k4,gl4,gm4,g4⟩ (fun j δ ν ⟨_,_,_,_,_,_,_,g⟩=>stays_iff.mpr g) ?_ ?_
            · rw [nodup_append]
              exact ⟨st.nd,by simp,fun a ha b hb=>by rw [List.mem_singleton.mp hb];rintro rfl;exact hin ha⟩
            · rcases List.mem_append.mp hx with hx | hx
              · exact st.lt x hx
              · rw [List.mem_singleton.mp hx];exact hhR
            · rcases List.mem_append.mp hx with hx | hx
              · obtain ⟨a,b⟩:=st.shut x hx hxm
                exact ⟨a,fun k e y hy=>mem_append_left _ (b k e y hy)⟩
              · exact absurd (List.mem_singleton.mp hx) hxh
            · rintro j z δ ν5 hz ⟨met2,y5,rfl,⟨s1,s2,s3,s4,s5,s6⟩,k5,gl5,gm5,gv5⟩
              rw [List.getElem?_map] at hz
              cases eo:OS[j]? with
              | none=>rw [eo] at hz;cases hz
              | some o =>
                rw [eo] at hz
                cases hz
                obtain ⟨ho1,ho2⟩:=(hOm o).mp (mem_of_getElem? eo)
                have hto:OS.take (j+1)=OS.take j ++ [o]:=by rw [take_succ,eo];rfl
                have hm2:met1.length+1≤met2.length:=by
                  have:(h :: met1).length≤met2.length:=zob (List.nodup_cons.mpr ⟨hin,st.nd⟩) fun x hx=>by
                    rcases List.mem_cons.mp hx with rfl | hx
                    · exact s2
                    · exact s1 x hx
                  exact this
                have hsub:∀ x∈met,x∈met2:=fun x hx=>s1 x (st.sub x hx)
                refine zoc ?_
                unfold z9d
                refine z1e (zA (zp (zc (zb rfl (zc (zb rfl (zc (zb rfl (zc (zb rfl (zn ?_)))))))))))
                refine ih (by first|decide|omega) hlen hh (fun x e=>by rw [ho2] at e;cases e;exact s2) s3 s4 (by first|decide|omega) hne gl5 gm5 (fun lay' ν6 mv k6 g6=>⟨_,rfl,fun _=>?_,fun h=>(by cases h)⟩) (fun met' ν6 st' k6 g6 h6=>⟨_,rfl,fun h=>(by cases h),fun _=>z9 ?_⟩)
                · refine zr (z5i (zb rfl (zZp (zb rfl (zb rfl ⟨ln,key,lay'.map onD,rfl,rfl,g6,⟨by first|decide|omega,by rw [length_map,mv.len];omega⟩,?_⟩)))))
                  refine zab (w_c (q1 (lay'.set key (some h)) _ (zSo (by first|decide|omega) hhk hin0 hsub ho2 hp mv) ((k5.trans k6).set (.inl (by simp))) ?_))
                  rw [zK g6,Int.toNat_natCast,map_set]
                · refine ⟨met',_,rfl,⟨fun x hx=>st'.sub x (s1 x hx),st'.sub h s2,st'.nd,st'.lt,fun o' ho' x hx=>?_,fun x hx hxm hxh=>?_⟩,k5.trans k6,g6,h6,k6.at_ _ _ (by simp;omega) gv5⟩
                  · rw [hto] at ho'
                    rcases List.mem_append.mp ho' with ho' | ho'
                    · exact st'.sub x (s5 o' ho' x hx)
                    · rw [List.mem_singleton.mp ho'] at hx
                      exact st'.homes x hx
                  · by_cases hx2:x∈met2
                    · obtain ⟨a,b⟩:=s6 x hx2 hxm hxh
                      exact ⟨a,fun k e y hy=>st'.sub y (b k e y hy)⟩
                    · exact st'.shut x hx hx2
            · rintro δ ν5 ⟨met2,y5,rfl,⟨s1,s2,s3,s4,s5,s6⟩,k5,gl5,gm5,gv5⟩
              rw [length_map,take_length] at s5
              refine ⟨met2,_,_,rfl,⟨fun x hx=>s1 x (st.sub x hx),s3,s4,fun x hx=>?_,fun x hx hxm=>?_⟩,k5,gl5,gm5⟩
              · rw [ht] at hx
                rcases List.mem_append.mp hx with hx | hx
                · exact s1 x (st.homes x hx)
                · rw [List.mem_singleton.mp hx];exact s2
              · by_cases hxh:x=h
                · subst hxh
                  refine ⟨by first|decide|omega,fun k e=>s5 k ((hOm k).mpr ⟨?_,e⟩)⟩
                  rcases Nat.lt_or_ge k lay.length with z | z
                  · exact z
                  · rw [getD_eq_getElem?_getD,List.getElem?_eq_none z] at e
                    cases e
                · exact s6 x hx hxm hxh
        · have hin:h∈met1:=by simpa using hin
          refine ⟨met1,_,_,rfl,⟨st.sub,st.nd,st.lt,fun x hx=>?_,st.shut⟩,kν,gν,hν⟩
          rw [ht] at hx
          rcases List.mem_append.mp hx with hx | hx
          · exact st.homes x hx
          · rw [List.mem_singleton.mp hx];exact hin
    · rintro δ ν ⟨met1,x4,x5,rfl,st,kν,gν,hν⟩
      rw [length_map,take_length] at st
      exact zab (w_c (q2 met1 ν st kν gν hν))
theorem zRq {S:List Nat} {n m:Nat} (hS:S.Sublist (List.range m)) (hn:μ[n]?=some (.lst (nat S))) (q:∀ μ',Keep μ μ'→Q (.bl true) μ'):WF z8b [.loc n, .int (m:Nat)] μ Q:=by
  have pw:S.Pairwise (· < ·):=List.pairwise_lt_range.sublist hS
  refine zFb rfl ?_
  show WS zac [some (.loc n),some (.int (m:Nat)),none,none] μ _ _ _ _
  unfold zac
  refine zr (z1e (zhg (zA (zp (zc (zb rfl (zc (w_c (zn (z7s hn ⟨_,rfl,fun h=>(by cases h),fun _=>z9 ?_⟩)))))))))) 
  refine zr (zdb (ziv (w_c ⟨_,rfl,?_⟩)))
  refine zr (zLd (zrd (zb rfl (.inr (.inr ⟨n,_,rfl,hn,?_⟩)))))
  refine zsb (fun i δ ν=>∃ (t:Int) (a:Option D),δ = [some (.loc n),some (.int (m:Nat)),some (.int t),a]∧Keep μ ν∧∀ (j k:Nat),i≤j→S[j]?=some k→t<k) ⟨-1,_,rfl, .refl,fun j k _ _=>by first|decide|omega⟩ (fun i δ ν ⟨a,b,_,k,_⟩=>z5 hn k) ?_ ?_
  · rintro i z δ ν hz ⟨t,a,rfl,k,ht⟩
    rw [List.getElem?_map] at hz
    cases er:S[i]? with
    | none=>rw [er] at hz;cases hz
    | some p =>
      rw [er] at hz
      cases hz
      have h1:=ht i p (Nat.le_refl _) er
      have h2:p<m:=List.mem_range.mp (hS.subset (mem_of_getElem? er))
      refine zoc ?_
      unfold z2d
      refine zr (z1e (zTg (zhg (zA (zp (zc (zb rfl (zc (w_c (zn (zjw ⟨_,rfl,fun _=>?_,fun h=>(by cases h)⟩)))))))))))
      refine zTg (zA (zp (zc (zb rfl (zc (w_c (zn (z0t ⟨_,rfl,fun _=>?_,fun h=>(by cases h)⟩))))))))
      refine zTg (zA (zk (zb rfl (zb rfl (z6f ⟨_,rfl,fun _=>?_,fun h=>absurd (of_decide_eq_true h) (by first|decide|omega)⟩)))))
      refine zA (zk (zb rfl (zb rfl (z6f ⟨_,rfl,fun h=>absurd (of_decide_eq_true h) (by first|decide|omega),fun _=>z9 ?_⟩))))
      refine zdb (zb rfl ⟨(p:Nat),_,rfl,k,fun j k' hj e=>?_⟩)
      obtain ⟨a1,b1⟩:=List.getElem?_eq_some_iff.mp er
      obtain ⟨a2,b2⟩:=List.getElem?_eq_some_iff.mp e
      have:=List.pairwise_iff_getElem.mp pw i j a1 a2 (by first|decide|omega)
      rw [b1,b2] at this
      omega
  · rintro δ ν ⟨t,a,rfl,k,ht⟩
    exact zab (w_c (q ν k))
theorem zwr {L:Nat} {S:List Nat} {n:Nat} (w:Wb L R K) (hL:L≤60) (hS:S.Sublist (List.range K.length)) (hn:μ[n]?=some (.lst (nat S)))
    (q:∀ (H:List Nat) (c:Nat) (μ':Mem),H.Nodup→(∀ h,h∈H↔h∈ztc R.length K S)→Keep μ μ'→μ'[c]?=some (.lst (nat H))→Q (.loc c) μ'):WF z1c [wn R K, .loc n] μ Q:=by
  have hkl:=w.kl
  have hSl:S.length≤K.length:=by simpa using hS.length_le
  have hSk:∀ k∈S,k<K.length:=fun k hk=>List.mem_range.mp (hS.subset hk)
  have hnl:=zz hn
  refine zFb rfl ?_
  show WS z4c [some (wn R K),some (.loc n),none,none,none] μ _ _ _ _
  unfold z4c
  refine zr (zdb (zcg (zn ?_)))
  refine zr (zLd (zrd (zb rfl (.inr (.inr ⟨n,_,rfl,zF hn,?_⟩)))))
  have toK:∀ {ν:Mem},KB [] μ ν→Keep μ ν:=fun k a o h=>k.at_ _ _ (by simp) h
  refine zsb (fun i δ ν=>∃ (H:List Nat) (a b:Option D),δ = [some (wn R K),some (.loc n),some (.loc μ.length),a,b]∧H.Nodup∧H.length≤4 * i∧(∀ h,h∈H↔∃ k∈S.take i,h∈K.getD k [])∧KB [] μ ν∧ν[μ.length]?=some (.lst (nat H))) ⟨[],_,_,rfl,by simp,by simp,by simp,KB.refl.app,zt⟩ (fun i δ ν ⟨H,a,b,_,_,_,_,k,_⟩=>z5 hn (toK k)) ?_ ?_
  · rintro i z δ ν hz ⟨H,a,b,rfl,nd,hl,hm,k,g⟩
    rw [List.getElem?_map] at hz
    cases er:S[i]? with
    | none=>rw [er] at hz;cases hz
    | some p =>
      rw [er] at hz
      cases hz
      have hi:=(List.getElem?_eq_some_iff.mp er).1
      have hp:=hSk p (mem_of_getElem? er)
      obtain ⟨⟨hp2,hp3⟩,_⟩:=w.key hp
      have ht:S.take (i+1)=S.take i ++ [p]:=by rw [take_succ,er];rfl
      refine zoc ?_
      unfold zbf
      refine zLd (zrd (zk (zk (zb rfl (w_c (zOc (zb rfl (z0m hp (.inl ⟨_,rfl,?_⟩)))))))))
      refine zsb (fun j δ ν=>∃ (H:List Nat) (b:Option D),δ = [some (wn R K),some (.loc n),some (.loc μ.length),some (.int (p:Nat)),b]∧H.Nodup∧H.length≤4 * i+j∧(∀ h,h∈H↔(∃ k∈S.take i,h∈K.getD k [])∨h∈(K.getD p []).take j)∧KB [] μ ν∧ν[μ.length]?=some (.lst (nat H))) ⟨H,_,rfl,nd,by first|decide|omega,fun h=>by rw [hm h];simp,k,g⟩ (fun _ _ _ _=>rfl) ?_ ?_
      · rintro j z δ ν1 hz ⟨H1,b1,rfl,nd1,hl1,hm1,k1,g1⟩
        rw [List.getElem?_map] at hz
        cases ej:(K.getD p [])[j]? with
        | none=>rw [ej] at hz;cases hz
        | some h =>
          rw [ej] at hz
          cases hz
          have hj:=(List.getElem?_eq_some_iff.mp ej).1
          have ht1:(K.getD p []).take (j+1)=(K.getD p []).take j ++ [h]:=by rw [take_succ,ej];rfl
          refine zoc ?_
          unfold z8e
          refine z1e (zA (zk (zb rfl (zb rfl (zyh (zx g1) ⟨_,rfl,fun hin=>?_,fun hin=>z9 ?_⟩)))))
          · have hin:h∉H1:=by simpa using hin
            refine zoe (z8d (zb rfl ⟨_,_,rfl,g1,zc (zb rfl (zn (zQe g1 (by rw [length_map];omega) ?_)))⟩))
            refine ⟨H1 ++ [h],_,rfl,?_,by simp;omega,fun x=>?_,k1.set (.inr (Nat.le_refl _)),by rw [zK g1,zCc];rfl⟩
            · rw [nodup_append]
              exact ⟨nd1,by simp,fun a ha b hb=>by rw [List.mem_singleton.mp hb];rintro rfl;exact hin ha⟩
            · rw [ht1,mem_append,mem_append,hm1 x,or_assoc]
          · have hin:h∈H1:=by simpa using hin
            refine ⟨H1,_,rfl,nd1,by first|decide|omega,fun x=>?_,k1,g1⟩
            rw [ht1,mem_append,← or_assoc,← hm1 x]
            constructor
            · exact .inl
            · rintro (h' | h')
              · exact h'
              · rw [List.mem_singleton.mp h'];exact hin
      · rintro δ ν1 ⟨H1,b1,rfl,nd1,hl1,hm1,k1,g1⟩
        simp only [length_map] at hl1 hm1
        refine ⟨H1,_,_,rfl,nd1,by first|decide|omega,fun x=>?_,k1,g1⟩
        rw [hm1 x,ht,take_length]
        constructor
        · rintro (⟨y,hy,hx⟩ | hx)
          · exact ⟨y,mem_append_left _ hy,hx⟩
          · exact ⟨p,mem_append_right _ (by simp),hx⟩
        · rintro ⟨y,hy,hx⟩
          rcases List.mem_append.mp hy with hy | hy
          · exact .inl ⟨y,hy,hx⟩
          · rw [List.mem_singleton.mp hy] at hx;exact .inr hx
  · rintro δ ν ⟨H,a,b,rfl,nd,hl,hm,k,g⟩
    rw [length_map,take_length] at hm
    exact zab (zb rfl (q H _ ν nd (fun h=>by rw [hm h,zwd w h]) (toK k) g))
theorem znq {R H N:List Nat} (nh:H.Nodup) (nn:N.Nodup) (h:∀ x,x∈H↔x∈N):z3e R H=z3e R N :=
  Nat.le_antisymm (zNk nh fun k hk=>(h k).mp hk) (zNk nn fun k hk=>(h k).mpr hk)
theorem z5l {L:Nat} {S:List Nat} {n:Nat} (w:Wb L R K) (hL:L≤60) (hS:S.Sublist (List.range K.length)) (hn:μ[n]?=some (.lst (nat S)))
    (q:∀ μ',Keep μ μ'→Q (.int ((S.length:Int) - (z3e R (ztc R.length K S):Nat))) μ'):WF zTb [wn R K, .loc n] μ Q:=by
  have hkl:=w.kl
  have hrl:=w.rl
  refine zFb rfl ?_
  show WS zuc [some (wn R K),some (.loc n)] μ _ _ _ _
  unfold zuc
  refine zab (zk (zp (zc (zb rfl (zn (zbe (zx hn) (zp (zc (zil (zrd (zp (zc (zb rfl (zc (zb rfl (zn ?_))))))))))))))))
  refine zwr w hL hS hn fun H c μ1 nd hm k1 g => .inr (.inr ⟨c,_,rfl,g,?_⟩)
  have hH:∀ h∈H,h<R.length:=fun h hh=>zio h ((hm h).mp hh)
  have hHl:H.length≤R.length:=by simpa using zob (m:=List.range R.length) nd fun h hh=>List.mem_range.mpr (hH h hh)
  refine ⟨zhc (by rw [length_map];omega),?_⟩
  refine zzi (fun (h:Nat)=>D.int h) H (fun h => .int (R.getD h 0:Nat)) (fun μ' k'=>z5 g k') (fun h hh μ2 k2=>?_) (fun μ2 k2=>?_)
  · refine zoc ?_
    unfold zme
    exact zk (zk (zb rfl (w_c (zDg (zb rfl (zmq (hH h hh) ⟨rfl,k2,k2⟩))))))
  · refine zn (z0s (S:=H.map fun h=>R.getD h 0) (by rw [zt,zel]) (zep ?_))
    have e:(H.map fun h=>R.getD h 0).sum=z3e R (ztc R.length K S):=znq nd (zBu _ _ _) hm
    rw [e,length_map]
    exact q _ (k1.trans k2.to)
theorem zzp {L:Nat} {lay:List (Option Nat)} {key:Nat} {met:List Nat} (w:Wb L R K) (hlen:lay.length=K.length) (hk:key<K.length) (hn:lay.getD key none=none) (hh:∀ k h,lay.getD k none=some h→h∈K.getD k []) (st:Stuck R K lay (K.getD key []) [] met):¬ ztf R K:=by
  obtain ⟨C,hC⟩:∃ C,C=(List.range K.length).filter fun k=>decide (k=key∨∃ h∈met,lay.getD k none=some h):=⟨_,rfl⟩
  have hCm:∀ k,k∈C↔k<K.length∧(k=key∨∃ h∈met,lay.getD k none=some h):=fun k=>by rw [hC,mem_filter,mem_range,decide_eq_true_iff]
  have hin:∀ k∈C,∀ h∈K.getD k [],h∈met:=fun k hkC h hhk=>by
    rcases ((hCm k).mp hkC).2 with rfl | ⟨x,hx,e⟩
    · exact st.homes h hhk
    · exact (st.shut x hx (by simp)).2 k e h hhk
  have sh:Shut R K lay C:=by
    refine ⟨fun k hkC=>((hCm k).mp hkC).1,fun k hkC h hhk=>(st.shut h (hin k hkC h hhk) (by simp)).1,fun k hkC h hhk o e=>(hCm o).mpr ⟨?_, .inr ⟨h,hin k hkC h hhk,e⟩⟩⟩
    rw [← hlen]
    rcases Nat.lt_or_ge o lay.length with z | z
    · exact z
    · rw [getD_eq_getElem?_getD,List.getElem?_eq_none z] at e
      cases e
  have hc:=zOg w sh hlen ((hCm key).mpr ⟨hk, .inl rfl⟩) hn
  exact zfk w (by rw [hC];exact filter_sublist) hc
theorem z3n {L:Nat} (w:Wb L R K) (hL:L≤60) (q:∀ (b:Bool) (μ':Mem),(b=true↔ztf R K)→Keep μ μ'→Q (.bl b) μ'):WF zKe [wn R K] μ Q:=by
  have hkl:=w.kl
  have hrl:=w.rl
  refine zFb rfl ?_
  show WS zze [some (wn R K),none] μ _ _ _ _
  unfold zze
  refine zr (zdb (zil (zrd (zk (zb rfl (w_c (zOc (.inl ⟨_,rfl,zhc (by rw [length_map];omega),?_⟩))))))))
  refine zzi tn K (fun _=>D.non) (fun _ _=>rfl) (fun k hk μ' kp=>?_) (fun μ1 k1=>?_)
  · refine zoc ?_
    unfold zeh
    exact w_c ⟨rfl,kp,kp⟩
  have e0:(K.map fun _=>D.non)=(K.map fun _=>(none:Option Nat)).map onD:=by rw [map_map];rfl
  rw [e0]
  have gl:(μ1 ++ [LObj.lst ((K.map fun _=>(none:Option Nat)).map onD)])[μ1.length]?=some (.lst ((K.map fun _=>(none:Option Nat)).map onD)):=zt
  have k2:Keep μ (μ1 ++ [LObj.lst ((K.map fun _=>(none:Option Nat)).map onD)]):=k1.to
  have hln:μ.length≤μ1.length:=k1.len
  generalize μ1 ++ [LObj.lst ((K.map fun _=>(none:Option Nat)).map onD)] = μ2 at gl k2 ⊢
  generalize μ1.length=ln at gl hln ⊢
  refine zab (zp (zc (zil (zrf (zc (zp (zc (zb rfl (zn (zbe (zx gl) (zn ⟨_,rfl,by first|decide|omega,by simp;omega,zhc (by simp;omega),?_⟩)))))))))))
  rw [Int.toNat_natCast,length_map,length_map]
  have hno:∀ k,(K.map fun _=>(none:Option Nat)).getD k none=none:=fun k=>by
    rw [getD_eq_getElem?_getD,List.getElem?_map]
    cases K[k]? <;> rfl
  refine zan (fun i ys μ'=>∃ (lay:List (Option Nat)) (bs:List Bool),ys=bs.map .bl∧lay.length=K.length∧(∀ k h,lay.getD k none=some h→h∈K.getD k [])∧(∀ h,lay.count (some h)≤R.getD h 0)∧(∀ k,i≤k→lay.getD k none=none)∧((bs.all fun b=>b)=true→∀ k<i,(lay.getD k none).isSome=true)∧((bs.all fun b=>b)=false→¬ ztf R K)∧Keep μ μ'∧μ'[ln]?=some (.lst (lay.map onD))) ⟨K.map fun _=>none,[],rfl,by simp,fun k h e=>?_,fun h=>?_,fun k _=>hno k,fun _ k hk=>absurd hk (Nat.not_lt_zero _),fun h=>(by cases h),k2,gl⟩ (fun _ _ _ _=>rfl) ?_ ?_
  · rw [hno k] at e
    cases e
  · have:(K.map fun _=>(none:Option Nat)).count (some h)=0:=List.count_eq_zero.mpr fun hm=>by
      obtain ⟨_,_,e⟩:=List.mem_map.mp hm
      cases e
    omega
  · rintro i x ys μ3 hx ⟨lay,bs,rfl,hlen,hh,hroom,hnon,hall,hnot,k3,g3⟩
    obtain ⟨hi,rfl⟩:=zCk hx
    refine zoc (zuu ⟨fun _=>?_,fun h=>(by cases h)⟩)
    unfold zoh
    refine zp (zc (zb rfl (zc (zb rfl (zc (zb rfl (zc (zcg (zn (zn ?_))))))))))
    have hl3:=zz g3
    have h3:=k3.len
    show WF (zfb 12) [wn R K, .loc ln, .int i, .loc μ3.length] _ _
    have kp:∀ {μ':Mem},KB [ln,μ3.length] (μ3 ++ [LObj.lst []]) μ'→Keep μ μ':=fun kb a o e=>kb.at_ a o (by have:=zz e;simp;omega) (zF (k3 a o e))
    refine zxl w hL 12 (met:=[]) hi hlen hh (fun h e=>by rw [hnon i (Nat.le_refl _)] at e;cases e) (by simp) (by simp) (by simp;omega) (by first|decide|omega) (zF g3) zt (fun lay' μ4 mv kb g4=>?_) (fun met' μ4 st kb g4 h4=>?_)
    · obtain ⟨e,_,he,hc⟩:=mv.last
      refine ⟨lay',bs ++ [true],by rw [map_append];rfl,by rw [mv.len,hlen],mv.home,fun h=>?_,fun k hk=>?_,fun hb k hk=>?_,fun hb=>hnot ?_,kp kb,g4⟩
      · have:=hc h
        rw [hnon i (Nat.le_refl _),if_neg (by simp)] at this
        have hr:=hroom h
        by_cases z:e=h
        · subst z
          rw [if_pos rfl] at this
          omega
        · rw [if_neg z] at this
          omega
      · rw [mv.keep k (by first|decide|omega) fun h e=>by rw [hnon k (by first|decide|omega)] at e;cases e]
        exact hnon k (by first|decide|omega)
      · rw [List.all_append,Bool.and_eq_true] at hb
        by_cases z:k=i
        · rw [z]
          exact mv.laid
        · rw [mv.rest k z]
          exact hall hb.1 k (by first|decide|omega)
      · rw [List.all_append] at hb
        simpa using hb
    · have nf:=zzp w hlen hi (hnon i (Nat.le_refl _)) hh st
      refine ⟨lay,bs ++ [false],by rw [map_append];rfl,hlen,hh,hroom,fun k hk=>hnon k (by first|decide|omega),fun hb=>?_,fun _=>nf,kp kb,g4⟩
      rw [List.all_append] at hb
      simp at hb
  · rintro ys μ3 ⟨lay,bs,rfl,hlen,hh,hroom,hnon,hall,hnot,k3,g3⟩
    simp only [length_map,length_range] at hall
    refine zn (zKv (bs:=bs) zt (q _ _ ⟨fun hb=>⟨lay,⟨hlen,fun k h e=>hh k h ?_,hroom⟩,hall hb⟩,fun hf=>?_⟩ k3.to))
    · rw [getD_eq_getElem?_getD,e]
      rfl
    · cases e:bs.all fun b=>b with
      | true=>rfl
      | false=>exact absurd hf (hnot e)
theorem zbp {L:Nat} (w:Wb L R K) (hL:L≤60)
    (q1:∀ (l:Nat) (ls:List Nat) (μ':Mem),ztf R K→RowsX μ' l ls ((List.range K.length).map (plc R K))→Keep μ μ'→Q (.tup [.loc l, .non]) μ')
    (q2:∀ (T:List Nat) (e n:Nat) (μ':Mem),¬ ztf R K→T.Sublist (List.range K.length)→zqc R K T=true→zBb R K T=none→μ'[e]?=some (.exc "NoFit" [("some", .loc n)])→μ'[n]?=some (.lst (nat T))→Keep μ μ'→Q (.tup [.non, .loc e]) μ'):WF zVc [wn R K] μ Q:=by
  refine zFb rfl ?_
  show WS zXc [some (wn R K),none,none,none] μ _ _ _ _
  unfold zXc
  refine zr (zdb (w_c (zr (zdb (w_c ?_)))))
  refine zr (zys (zc (zb rfl (zn ?_))))
  exact zEq w hL (fun l ls μ1 f hr hls hl k=>zab (zMd (zc (zb rfl (zc (zb rfl (zn (q1 l ls μ1 f hr k)))))))) (fun T n μ1 nf hT hc hs hn g k=>⟨rfl,zdb (zb rfl (zab (zMd (zc (zb rfl (zc (zb rfl (zn (q2 T _ n _ nf hT hc hs zt (zF g) k.to)))))))))⟩)
theorem zfm {L:Nat} {T:List Nat} {e n:Nat} (w:Wb L R K) (hL:L≤60) (hT:T.Sublist (List.range K.length)) (hc:zqc R K T=true) (hs:zBb R K T=none) (ge:μ[e]?=some (.exc "NoFit" [("some", .loc n)])) (gn:μ[n]?=some (.lst (nat T))) (q:∀ μ',Keep μ μ'→Q (.bl true) μ'):WF z5b [wn R K, .loc e] μ Q:=by
  have hkl:=w.kl
  have hTl:T.length≤K.length:=by simpa using hT.length_le
  refine zFb rfl ?_
  show WS z6b [some (wn R K),some (.loc e),none] μ _ _ _ _
  unfold z6b
  refine zr (z1e (zTg (zhg (zA (zp (zc (zb rfl (zc (w_c (zn (zVv (b:=true) ge rfl ⟨_,rfl,fun _=>?_,fun h=>(by cases h)⟩)))))))))))
  refine zhg (zA (zp (zc (zb rfl (zc (w_c (zn (zYv (b:=true) ge rfl ⟨_,rfl,fun h=>(by cases h),fun _=>z9 ?_⟩))))))))
  refine zr (z1e (zA (zp (zc (zb rfl (zc (zMd (zc (w_c (zc (w_c (zc (w_c (zc (w_c (zc (w_c (zc (w_c (zc (w_c (zc (w_c (zn (zn (zlw (b:=false) ge rfl ⟨_,rfl,fun h=>(by cases h),fun _=>z9 ?_⟩))))))))))))))))))))))))))
  refine zr (zdb (zXv (zb rfl ⟨e,_,_,rfl,ge,rfl,?_⟩)))
  refine zr (z1e (zTg (zhg (zA (zp (zc (zb rfl (zc (zp (zc (zk (zb rfl (w_c (zOc (zn (zbe rfl (zn ?_)))))))))))))))))
  rw [length_map]
  refine zRq hT gn fun μ1 k1=>⟨_,rfl,fun _=>?_,fun h=>(by cases h)⟩
  refine zA (zk (zp (zc (zb rfl (zc (zb rfl (zn ?_)))))))
  refine z5l w hL hT (k1 _ _ gn) fun μ2 k2=>w_c (z6f ⟨_,rfl,fun hlt=>?_,fun _=>z9 ?_⟩)
  · have h1:=of_decide_eq_true hlt
    have h2:z3e R (ztc R.length K T)<T.length:=of_decide_eq_true hc
    omega
  have k12:=k1.trans k2
  have g2:=k12 _ _ gn
  refine zab (zp (zc (zil (zrd (zb rfl (.inr (.inr ⟨n,_,rfl,g2,zhc (by rw [length_map];omega),?_⟩)))))))
  refine zzi (fun (k:Nat)=>D.int k) T (fun _ => .bl true) (fun μ' k=>z5 g2 k) (fun key hkey μ' kp=>?_) (fun μ' kp=>?_)
  · refine zoc ?_
    unfold z1d
    have g3:=kp _ _ g2
    refine zk (zp (zc (zb rfl (zc (zil (zrd (zb rfl (.inr (.inr ⟨n,_,rfl,g3,zhc (by rw [length_map];omega),?_⟩)))))))))
    refine zle (fun (k:Nat)=>D.int k) T (fun (k:Nat)=>D.int k) (fun o=>!decide (o=key)) (fun μ' k=>z5 g3 k) (fun o ho μ4 k4=>?_) (fun μ4 k4=>?_)
    · refine zoc ?_
      unfold zae z5d
      exact zA (zk (zb rfl (zb rfl (zux (α:=Nat) o key ⟨_,rfl,rfl,k4,fun _=>zb rfl ⟨rfl,k4⟩⟩))))
    · have hless:(T.filter fun o=>!decide (o=key))=znd T key:=rfl
      rw [hless]
      refine zn (z5l w hL ((hless▸filter_sublist:(znd T key).Sublist T).trans hT) zt fun μ5 k5=>w_c (z6f ⟨?_,(kp.trans k4.to).trans k5,kp⟩))
      have h2:=zTm hs key hkey
      have h2:¬ z3e R (ztc R.length K (znd T key))<(znd T key).length:=of_decide_eq_false h2
      rw [decide_eq_true (by first|decide|omega)]
  · refine zn (zKv (bs:=T.map fun _=>true) (by rw [zt,map_map];rfl) ?_)
    have:(T.map fun _=>true).all (fun b=>b)=true:=by
      rw [all_map]
      exact List.all_eq_true.mpr fun _ _=>rfl
    rw [this]
    exact q _ (k12.trans kp.to)
theorem z3r (ns:List Int) (_hn:ns.length≤63):∃ μ',zrp [.fz (ns.map .int)] []=some (.bl true,μ'):=by
  have main:WF zrp [.fz (ns.map .int)] [] fun d _=>d = .bl true:=by
    refine zFb rfl ?_
    show WS zRr [some (.fz (ns.map .int)),none,none,none,none] [] _ _ _ _
    unfold zRr
    refine zr (zdb (zp (zc (zp (zc (zb rfl (zn ?_)))))))
    refine zOt fun μ1 k1 p1 e1=>zc (w_c (zn ?_))
    refine ziu (m:=20) p1 (by first|decide|omega) ⟨by first|decide|omega,by first|decide|omega⟩ fun R K μ2 w k2 p2=>?_
    have hkl:K.length≤19:=w.kl
    have hrl:=w.rl
    refine zr (zLd (zrf (zc (w_c (zn ⟨_,rfl,by first|decide|omega,by first|decide|omega,?_⟩)))))
    refine zsb (fun _ δ _=>∃ x2 x3 x4:Option D,δ = [some (.fz (ns.map .int)),some (wn R K),x2,x3,x4]) ⟨_,_,_,rfl⟩ (fun _ _ _ _=>rfl) ?_ ?_
    · rintro m z δ ν hz ⟨x2,x3,x4,rfl⟩
      refine zoc ?_
      unfold zrq
      refine zr (z5i (zp (zc (zb rfl (zn ?_)))))
      refine zbp w (by first|decide|omega) (fun l ls μ3 hf hr k3=>?_) (fun T e n μ3 nf hT hc hs ge gn k3=>?_)
      · refine zYh (zlc (zoc (zlc (zoc (zvh ?_)))))
        refine z1e (zA (zp (zc (zb rfl (zn ?_)))))
        refine z3n w (by first|decide|omega) fun b μ4 hb k4=>⟨_,rfl,fun _=>?_,fun h=>absurd (hb.mpr hf) (by rw [h];decide)⟩
        have hr4:=hr.keep k4
        have hls:ls.length=K.length:=by have:=hr.len;simpa using this
        refine z1e (zTg (zA (zk (zb rfl (w_c (zAe rfl ⟨_,rfl,fun _=>?_,fun h=>(by cases h)⟩))))))
        refine zTg (zhg (zA (zp (zc (zb rfl (zc (w_c (zn (z7s hr4.at_ ⟨_,rfl,fun _=>?_,fun h=>(by cases h)⟩)))))))))
        refine zA (zk (zp (zc (zb rfl (zn (zbe (zx hr4.at_) (zp (zc (zk (zb rfl (w_c (zOc (zn (zbe rfl (z1t ⟨_,rfl,fun h=>?_,fun _=>z9 ⟨_,_,_,rfl⟩⟩)))))))))))))))
        rw [length_map,length_map,hls] at h
        simp at h
      · refine zYh (zlc (zoc (zlc (zoc (zvh ?_)))))
        refine z1e (zA (zp (zc (zb rfl (zn ?_)))))
        refine z3n w (by first|decide|omega) fun b μ4 hb k4=>⟨_,rfl,fun h=>absurd (hb.mp h) nf,fun _=>?_⟩
        refine z1e (zTg (zA (zk (zb rfl (w_c (zAe rfl ⟨_,rfl,fun _=>?_,fun h=>(by cases h)⟩))))))
        refine zhg (zA (zp (zc (zb rfl (zc (zb rfl (zn ?_)))))))
        refine zfm w (by first|decide|omega) hT hc hs (k4 _ _ ge) (k4 _ _ gn) fun μ5 k5=>⟨_,rfl,fun h=>(by cases h),fun _=>?_⟩
        have gn5:=k5 _ _ (k4 _ _ gn)
        exact zoe (zXt (zXv (zb rfl ⟨e,_,_,rfl,k5 _ _ (k4 _ _ ge),rfl,n,_,rfl,gn5,zou gn5 ⟨_,_,_,rfl⟩⟩)))
    · rintro δ ν ⟨x2,x3,x4,rfl⟩
      exact zab (w_c rfl)
  obtain ⟨d,μ',e,rfl⟩:=main
  exact ⟨μ',e⟩
end P
namespace P
open PySem PySem.Spec PyProof.Rows L2 M
set_option maxHeartbeats 4000000
theorem ln1 {α:Type}:∀ {us:List α},us.length=1→∃ a0,us = [a0]
  | [a0],_=>⟨a0,rfl⟩
theorem fa1 {K:W.Frag} {mg:Str→Option Value} {h:Heap} {x p0:Str} {st:Stmt} {f:Addr} {fd:FuncData} (X:K.In h) (G:h.Ns mainGlobals mg) (a:W.nsIn K mainGlobals x=some (some (.ref f))) (u:Fun K x x st f fd)
    (b:∀ (kV doc pm:Value) (an:Option Addr) (cdv ct a0:Value),bindArgs (W.fnOf x x (znc st) (zIb st) (zm st) .none kV doc pm an cdv ct) ⟨[a0],[]⟩ = pure [(p0,a0)]):FnAt K mg x st [p0] f fd :=
  ⟨u,W.mg_of X G a,u.binds fun kV doc pm an cdv ct us hl=>by obtain ⟨a0,rfl⟩:=ln1 hl;exact b kV doc pm an cdv ct a0⟩
theorem ln2 {α:Type}:∀ {us:List α},us.length=2→∃ a0 a1,us = [a0,a1]
  | [a0,a1],_=>⟨a0,a1,rfl⟩
theorem fa2 {K:W.Frag} {mg:Str→Option Value} {h:Heap} {x p0 p1:Str} {st:Stmt} {f:Addr} {fd:FuncData} (X:K.In h) (G:h.Ns mainGlobals mg) (a:W.nsIn K mainGlobals x=some (some (.ref f))) (u:Fun K x x st f fd)
    (b:∀ (kV doc pm:Value) (an:Option Addr) (cdv ct a0 a1:Value),bindArgs (W.fnOf x x (znc st) (zIb st) (zm st) .none kV doc pm an cdv ct) ⟨[a0,a1],[]⟩ = pure [(p0,a0),(p1,a1)]):FnAt K mg x st [p0,p1] f fd :=
  ⟨u,W.mg_of X G a,u.binds fun kV doc pm an cdv ct us hl=>by obtain ⟨a0,a1,rfl⟩:=ln2 hl;exact b kV doc pm an cdv ct a0 a1⟩
theorem ln3 {α:Type}:∀ {us:List α},us.length=3→∃ a0 a1 a2,us = [a0,a1,a2]
  | [a0,a1,a2],_=>⟨a0,a1,a2,rfl⟩
theorem fa3 {K:W.Frag} {mg:Str→Option Value} {h:Heap} {x p0 p1 p2:Str} {st:Stmt} {f:Addr} {fd:FuncData} (X:K.In h) (G:h.Ns mainGlobals mg) (a:W.nsIn K mainGlobals x=some (some (.ref f))) (u:Fun K x x st f fd)
    (b:∀ (kV doc pm:Value) (an:Option Addr) (cdv ct a0 a1 a2:Value),bindArgs (W.fnOf x x (znc st) (zIb st) (zm st) .none kV doc pm an cdv ct) ⟨[a0,a1,a2],[]⟩ = pure [(p0,a0),(p1,a1),(p2,a2)]):FnAt K mg x st [p0,p1,p2] f fd :=
  ⟨u,W.mg_of X G a,u.binds fun kV doc pm an cdv ct us hl=>by obtain ⟨a0,a1,a2,rfl⟩:=ln3 hl;exact b kV doc pm an cdv ct a0 a1 a2⟩
theorem ln4 {α:Type}:∀ {us:List α},us.length=4→∃ a0 a1 a2 a3,us = [a0,a1,a2,a3]
  | [a0,a1,a2,a3],_=>⟨a0,a1,a2,a3,rfl⟩
theorem fa4 {K:W.Frag} {mg:Str→Option Value} {h:Heap} {x p0 p1 p2 p3:Str} {st:Stmt} {f:Addr} {fd:FuncData} (X:K.In h) (G:h.Ns mainGlobals mg) (a:W.nsIn K mainGlobals x=some (some (.ref f))) (u:Fun K x x st f fd)
    (b:∀ (kV doc pm:Value) (an:Option Addr) (cdv ct a0 a1 a2 a3:Value),bindArgs (W.fnOf x x (znc st) (zIb st) (zm st) .none kV doc pm an cdv ct) ⟨[a0,a1,a2,a3],[]⟩ = pure [(p0,a0),(p1,a1),(p2,a2),(p3,a3)]):FnAt K mg x st [p0,p1,p2,p3] f fd :=
  ⟨u,W.mg_of X G a,u.binds fun kV doc pm an cdv ct us hl=>by obtain ⟨a0,a1,a2,a3,rfl⟩:=ln4 hl;exact b kV doc pm an cdv ct a0 a1 a2 a3⟩
theorem all_of {l:W.OpenLaw} {w:World} {K:W.Frag} {h:Heap} {mg:Str→Option Value} {fa:Addr} (X:K.In h) (G:h.Ns mainGlobals mg) (hfa:mg "law" = some (.ref fa)) (e:Hd.obs K=Hd.good)
    : ∃ fd:FuncData,(∀ (s:Shared) (v:Value),BindsTo s fd ⟨[v],[]⟩ [("_law_script",v)])∧∀ base:Heap,K.In base→base.Ns mainGlobals mg→FnOk l.prog w K mg base CX0 15 fa fd ["_law_script"] (spM K 1 zrp):=by
  have e_fn:=congrArg (·.1) e
  have e_vv:=congrArg (·.2.1) e
  have e_bb:=congrArg (·.2.2.1) e
  have e_ob:=congrArg (·.2.2.2.1) e
  have e_ov:=congrArg (·.2.2.2.2.1) e
  have e_cf:=congrArg (·.2.2.2.2.2.1) e
  have e_ex:=congrArg (·.2.2.2.2.2.2) e
  obtain ⟨⟨_,_,a0,u0⟩,e_fn⟩:=fnc e_fn
  have z3c:FnAt K mg "_law_mixed" z0c zCb _ _:=fa2 X G a0 u0 fun _ _ _ _ _ _ _ _=>rfl
  obtain ⟨⟨_,_,a1,u1⟩,e_fn⟩:=fnc e_fn
  have zQ:FnAt K mg "_law_take" zXd zLb _ _:=fa2 X G a1 u1 fun _ _ _ _ _ _ _ _=>rfl
  obtain ⟨⟨_,_,a2,u2⟩,e_fn⟩:=fnc e_fn
  have zVe:FnAt K mg "_law_web" zwe z3b _ _:=fa2 X G a2 u2 fun _ _ _ _ _ _ _ _=>rfl
  obtain ⟨⟨_,_,a3,u3⟩,e_fn⟩:=fnc e_fn
  have zye:FnAt K mg "_law_pen" zFe z2b _ _:=fa1 X G a3 u3 fun _ _ _ _ _ _ _=>rfl
  obtain ⟨⟨_,_,a4,u4⟩,e_fn⟩:=fnc e_fn
  have zGk:FnAt K mg "lying" zBk zIe _ _:=fa2 X G a4 u4 fun _ _ _ _ _ _ _ _=>rfl
  obtain ⟨⟨_,_,a5,u5⟩,e_fn⟩:=fnc e_fn
  have zQd:FnAt K mg "pushes_to" zOd zMb _ _:=fa3 X G a5 u5 fun _ _ _ _ _ _ _ _ _=>rfl
  obtain ⟨⟨_,_,a6,u6⟩,e_fn⟩:=fnc e_fn
  have zYi:FnAt K mg "left" zzl zte _ _:=fa2 X G a6 u6 fun _ _ _ _ _ _ _ _=>rfl
  obtain ⟨⟨_,_,a7,u7⟩,e_fn⟩:=fnc e_fn
  have zKh:FnAt K mg "row_to" zPh zxd _ _:=fa2 X G a7 u7 fun _ _ _ _ _ _ _ _=>rfl
  obtain ⟨⟨_,_,a8,u8⟩,e_fn⟩:=fnc e_fn
  have zDd:FnAt K mg "put_in" zWf zkc _ _:=fa3 X G a8 u8 fun _ _ _ _ _ _ _ _ _=>rfl
  obtain ⟨⟨_,_,a9,u9⟩,e_fn⟩:=fnc e_fn
  have zJk:FnAt K mg "fault" zUk zve _ _:=fa2 X G a9 u9 fun _ _ _ _ _ _ _ _=>rfl
  obtain ⟨⟨_,_,a10,u10⟩,e_fn⟩:=fnc e_fn
  have zLf:FnAt K mg "is_push" z1f zFc _ _:=fa4 X G a10 u10 fun _ _ _ _ _ _ _ _ _ _=>rfl
  obtain ⟨⟨_,_,a11,u11⟩,e_fn⟩:=fnc e_fn
  have z7f:FnAt K mg "follows" zHf zEc _ _:=fa4 X G a11 u11 fun _ _ _ _ _ _ _ _ _ _=>rfl
  obtain ⟨⟨_,_,a12,u12⟩,e_fn⟩:=fnc e_fn
  have zLh:FnAt K mg "pushed" zNh zmd _ _:=fa4 X G a12 u12 fun _ _ _ _ _ _ _ _ _ _=>rfl
  obtain ⟨⟨_,_,a13,u13⟩,e_fn⟩:=fnc e_fn
  have zTd:FnAt K mg "laid_more" zEd zNb _ _:=fa3 X G a13 u13 fun _ _ _ _ _ _ _ _ _=>rfl
  obtain ⟨⟨_,_,a14,u14⟩,e_fn⟩:=fnc e_fn
  have zzc:FnAt K mg "laid_at_all" zBc zqb _ _:=fa1 X G a14 u14 fun _ _ _ _ _ _ _=>rfl
  obtain ⟨⟨_,_,a15,u15⟩,e_fn⟩:=fnc e_fn
  have zfg:FnAt K mg "room_of" zkg zDc _ _:=fa2 X G a15 u15 fun _ _ _ _ _ _ _ _=>rfl
  obtain ⟨⟨_,_,a16,u16⟩,e_fn⟩:=fnc e_fn
  have zOe:FnAt K mg "homes_of" zSe z1b _ _:=fa2 X G a16 u16 fun _ _ _ _ _ _ _ _=>rfl
  obtain ⟨⟨_,_,a17,u17⟩,e_fn⟩:=fnc e_fn
  have zue:FnAt K mg "is_crowd" zxe zZb _ _:=fa2 X G a17 u17 fun _ _ _ _ _ _ _ _=>rfl
  obtain ⟨⟨_,_,a18,u18⟩,e_fn⟩:=fnc e_fn
  have zPc:FnAt K mg "spare_key" zCd zKb _ _:=fa2 X G a18 u18 fun _ _ _ _ _ _ _ _=>rfl
  obtain ⟨⟨_,_,a19,u19⟩,e_fn⟩:=fnc e_fn
  have zsg:FnAt K mg "trimmed" zRf zGc _ _:=fa2 X G a19 u19 fun _ _ _ _ _ _ _ _=>rfl
  obtain ⟨⟨_,_,a20,u20⟩,e_fn⟩:=fnc e_fn
  have zEh:FnAt K mg "fitted" zMh zod _ _:=fa1 X G a20 u20 fun _ _ _ _ _ _ _=>rfl
  obtain ⟨⟨_,_,a21,u21⟩,e_fn⟩:=fnc e_fn
  have zPf:FnAt K mg "held_to" zqg zHc _ _:=fa3 X G a21 u21 fun _ _ _ _ _ _ _ _ _=>rfl
  obtain ⟨⟨_,_,a22,u22⟩,e_fn⟩:=fnc e_fn
  have zTe:FnAt K mg "can_move" zLe zXb _ _:=fa4 X G a22 u22 fun _ _ _ _ _ _ _ _ _ _=>rfl
  obtain ⟨⟨_,_,a23,u23⟩,e_fn⟩:=fnc e_fn
  have zHh:FnAt K mg "places" zzh zkd _ _:=fa1 X G a23 u23 fun _ _ _ _ _ _ _=>rfl
  obtain ⟨⟨_,_,a24,u24⟩,e_fn⟩:=fnc e_fn
  have zad:FnAt K mg "_law_heard" zTc zDb _ _:=fa1 X G a24 u24 fun _ _ _ _ _ _ _=>rfl
  obtain ⟨⟨_,_,a25,u25⟩,e_fn⟩:=fnc e_fn
  have zmb:FnAt K mg "_law_room" z4b z6 _ _:=fa3 X G a25 u25 fun _ _ _ _ _ _ _ _ _=>rfl
  obtain ⟨⟨_,_,a26,u26⟩,e_fn⟩:=fnc e_fn
  have zec:FnAt K mg "_law_laid_by" zpb zH _ _:=fa4 X G a26 u26 fun _ _ _ _ _ _ _ _ _ _=>rfl
  obtain ⟨⟨_,_,a27,u27⟩,e_fn⟩:=fnc e_fn
  have zBe:FnAt K mg "_law_fit" zGe z0b _ _:=fa1 X G a27 u27 fun _ _ _ _ _ _ _=>rfl
  obtain ⟨⟨_,_,a28,u28⟩,e_fn⟩:=fnc e_fn
  have zcc:FnAt K mg "_law_is_some" zgc zib _ _:=fa2 X G a28 u28 fun _ _ _ _ _ _ _ _=>rfl
  obtain ⟨⟨_,_,a29,u29⟩,e_fn⟩:=fnc e_fn
  have z5c:FnAt K mg "_law_homes" z8c zEb _ _:=fa2 X G a29 u29 fun _ _ _ _ _ _ _ _=>rfl
  obtain ⟨⟨_,_,a30,u30⟩,e_fn⟩:=fnc e_fn
  have zRb:FnAt K mg "_law_excess" zAc zrb _ _:=fa2 X G a30 u30 fun _ _ _ _ _ _ _ _=>rfl
  obtain ⟨⟨_,_,a31,u31⟩,e_fn⟩:=fnc e_fn
  have z9b:FnAt K mg "_law_refused" zfc zhb _ _:=fa2 X G a31 u31 fun _ _ _ _ _ _ _ _=>rfl
  obtain ⟨⟨f32,oc32,od32,sl32,kV32,dc32,pm32,an32,cd32,ct32,a32,l32,c32,k32⟩,e_fn⟩:=fnl e_fn
  have u32:=zbo (st:=zyn) l32 c32 k32
  have zsx:FnAt K mg "law" zyn zAn _ _:=fa1 X G a32 u32 fun _ _ _ _ _ _ _=>rfl
  have e:=hfa.symm.trans (W.mg_of X G a32)
  cases e
  obtain ⟨zZl,e_vv⟩:=List.cons.inj e_vv
  obtain ⟨zNw,e_vv⟩:=List.cons.inj e_vv
  obtain ⟨zLv,e_vv⟩:=List.cons.inj e_vv
  obtain ⟨zCm,e_vv⟩:=List.cons.inj e_vv
  obtain ⟨zOw,e_vv⟩:=List.cons.inj e_vv
  obtain ⟨zjm,e_vv⟩:=List.cons.inj e_vv
  obtain ⟨zjx,e_vv⟩:=List.cons.inj e_vv
  obtain ⟨zCv,e_vv⟩:=List.cons.inj e_vv
  obtain ⟨zUt,e_vv⟩:=List.cons.inj e_vv
  obtain ⟨zNo,e_vv⟩:=List.cons.inj e_vv
  obtain ⟨ztx,e_vv⟩:=List.cons.inj e_vv
  obtain ⟨zes,e_vv⟩:=List.cons.inj e_vv
  obtain ⟨zmx,e_vv⟩:=List.cons.inj e_vv
  obtain ⟨zZt,e_vv⟩:=List.cons.inj e_vv
  obtain ⟨zgb,e_vv⟩:=List.cons.inj e_vv
  obtain ⟨z0n,e_bb⟩:=List.cons.inj e_bb
  obtain ⟨zWc,e_vv⟩:=List.cons.inj e_vv
  obtain ⟨zlm,e_bb⟩:=List.cons.inj e_bb
  obtain ⟨zDk,e_vv⟩:=List.cons.inj e_vv
  obtain ⟨zKs,e_bb⟩:=List.cons.inj e_bb
  obtain ⟨zWi,e_vv⟩:=List.cons.inj e_vv
  obtain ⟨zyp,e_bb⟩:=List.cons.inj e_bb
  obtain ⟨zVh,e_vv⟩:=List.cons.inj e_vv
  obtain ⟨zQq,e_bb⟩:=List.cons.inj e_bb
  obtain ⟨zkk,e_vv⟩:=List.cons.inj e_vv
  obtain ⟨zps,e_bb⟩:=List.cons.inj e_bb
  obtain ⟨zIi,e_vv⟩:=List.cons.inj e_vv
  obtain ⟨zeq,e_bb⟩:=List.cons.inj e_bb
  obtain ⟨zGg,e_vv⟩:=List.cons.inj e_vv
  obtain ⟨zPo,e_bb⟩:=List.cons.inj e_bb
  obtain ⟨zYk,e_vv⟩:=List.cons.inj e_vv
  obtain ⟨zLs,e_bb⟩:=List.cons.inj e_bb
  obtain ⟨zPm,e_vv⟩:=List.cons.inj e_vv
  obtain ⟨zEu,e_bb⟩:=List.cons.inj e_bb
  obtain ⟨zBf,e_ob⟩:=List.cons.inj e_ob
  obtain ⟨i4,e_bb⟩:=List.cons.inj e_bb
  obtain ⟨i7,e_vv⟩:=List.cons.inj e_vv
  obtain ⟨i8,e_bb⟩:=List.cons.inj e_bb
  obtain ⟨i9,e_cf⟩:=List.cons.inj e_cf
  obtain ⟨_,_,_,_,_,_,_,_,_,_,_,_,_,_,zts⟩:=zDs (List.cons.inj e_ex).1
  replace e_ex:=(List.cons.inj e_ex).2
  obtain ⟨zPr,e_vv⟩:=List.cons.inj e_vv
  obtain ⟨z7r,e_ov⟩:=List.cons.inj e_ov
  obtain ⟨zOr,e_vv⟩:=List.cons.inj e_vv
  obtain ⟨zGn,e_vv⟩:=List.cons.inj e_vv
  obtain ⟨zGs,e_bb⟩:=List.cons.inj e_bb
  obtain ⟨_,_,_,_,_,_,_,_,_,zRn,zHn,zxo⟩:=zeo (List.cons.inj e_fn).1
  replace e_fn:=(List.cons.inj e_fn).2
  obtain ⟨_,zho⟩:=z4p (List.cons.inj e_bb).1
  replace e_bb:=(List.cons.inj e_bb).2
  obtain ⟨zuo,e_vv⟩:=List.cons.inj e_vv
  obtain ⟨zfo,e_vv⟩:=List.cons.inj e_vv
  obtain ⟨zYn,e_ob⟩:=List.cons.inj e_ob
  obtain ⟨zDn,e_vv⟩:=List.cons.inj e_vv
  obtain ⟨zTn,e_ob⟩:=List.cons.inj e_ob
  obtain ⟨q4,e_vv⟩:=List.cons.inj e_vv
  obtain ⟨q5,e_ob⟩:=List.cons.inj e_ob
  obtain ⟨zZk,e_ob⟩:=List.cons.inj e_ob
  obtain ⟨zhj,e_ob⟩:=List.cons.inj e_ob
  obtain ⟨zuh,e_ob⟩:=List.cons.inj e_ob
  obtain ⟨zXh,e_ob⟩:=List.cons.inj e_ob
  obtain ⟨z7i,e_ob⟩:=List.cons.inj e_ob
  obtain ⟨z7h,e_ob⟩:=List.cons.inj e_ob
  obtain ⟨zEi,e_ob⟩:=List.cons.inj e_ob
  obtain ⟨zdj,e_ob⟩:=List.cons.inj e_ob
  obtain ⟨zij,e_ob⟩:=List.cons.inj e_ob
  obtain ⟨zqf,e_ob⟩:=List.cons.inj e_ob
  have z7b:W.AskC K 154:=⟨by rw [zho];rfl,zuo,zfo,zYn,zDn,q4,q5,zTn⟩
  have T:Txt K mg:=⟨⟨154,zgb,W.mg_of X G zgb,z0n⟩,⟨24,zWc,W.mg_of X G zWc,zlm⟩,⟨61,zDk,W.mg_of X G zDk,zKs⟩,⟨85,zWi,W.mg_of X G zWi,zyp⟩,⟨37,zVh,W.mg_of X G zVh,zQq⟩,⟨97,zkk,W.mg_of X G zkk,zps⟩,⟨135,zIi,W.mg_of X G zIi,zeq⟩,⟨49,zGg,W.mg_of X G zGg,zPo⟩,⟨73,zYk,W.mg_of X G zYk,zLs⟩,⟨116,zPm,W.mg_of X G zPm,zEu⟩,(fun C h=>by rw [zWc] at h;cases h;exact (Subs.cons zgb z0n zBf Subs.nil)),(KitOk.some zgb z7b (zxc (P:=fun v=>W.kitOne K (.ref 154) v=some false) zPm zZk) (KitOk.some zgb z7b (zxc (P:=fun v=>W.kitOne K (.ref 154) v=some false) zYk zhj) (KitOk.some zgb z7b (zxc (P:=fun v=>W.kitOne K (.ref 154) v=some false) zGg zuh) (KitOk.some zgb z7b (zxc (P:=fun v=>W.kitOne K (.ref 154) v=some false) zIi zXh) (KitOk.some zgb z7b (zxc (P:=fun v=>W.kitOne K (.ref 154) v=some false) zkk z7i) (KitOk.some zgb z7b (zxc (P:=fun v=>W.kitOne K (.ref 154) v=some false) zVh z7h) (KitOk.some zgb z7b (zxc (P:=fun v=>W.kitOne K (.ref 154) v=some false) zWi zEi) (KitOk.some zgb z7b (zxc (P:=fun v=>W.kitOne K (.ref 154) v=some false) zDk zdj) (KitOk.some zgb z7b (zxc (P:=fun v=>W.kitOne K (.ref 154) v=some true) zgb zij) (KitOk.some zgb z7b (zgu (P:=fun v=>W.kitOne K (.ref 154) v=some true) zqf) KitOk.nil)))))))))),⟨fun C h=>by rw [zgb] at h;cases h;exact ⟨⟨by rw [zho];rfl,zuo,zfo,zYn,zDn,q4,q5,zTn⟩,zGn,zGs⟩⟩,W.mg_none_of X G zZl,W.mg_none_of X G zNw,W.mg_none_of X G zLv,W.mg_none_of X G zCm,W.mg_none_of X G zOw,W.mg_none_of X G zjm,W.mg_none_of X G zjx,W.mg_none_of X G zCv,W.mg_none_of X G zUt,W.mg_none_of X G zNo,W.mg_none_of X G ztx,W.mg_none_of X G zes,W.mg_none_of X G zmx,W.mg_none_of X G zZt⟩
  refine ⟨W.fnOf "law" "law" (znc zyn) (zIb zyn) (zm zyn) .none kV32 dc32 pm32 an32 cd32 ct32,fun s v => .of_eq rfl,fun base _ _=>?_⟩
  have B_init_NoFit:IniAt K mg "NoFit" "some" "NoFit.__init__" zPb zcb _ _ _ _:=⟨zgb,W.mg_of X G zWc,⟨⟨_,_,_,_,_,_,_,_,_,_,_,_,_,_,zts⟩,zPr,z7r,i4,zOr,zGn,i7,i8,i9⟩,(zbo (st:=zPb) zRn zHn zxo),(zbo (st:=zPb) zRn zHn zxo).binds (ps:=zcb) fun _ _ _ _ _ _ us hl=>by obtain ⟨_,_,rfl⟩:=ln2 hl;rfl⟩
  have ok_init_NoFit:=zej (P:=l.prog) (w:=w) (base:=base) T B_init_NoFit
  have zVd:=zjj (P:=l.prog) (w:=w) (base:=base) T z3c
  have zN:=zwk T z3c zVd zQ
  have zif:=zGl T zQ zN zVe
  have zmf:=z6l (P:=l.prog) (w:=w) (base:=base) T zye
  have zdl:=z1p (P:=l.prog) (w:=w) (base:=base) T zGk
  have zke:=zvk T zGk zdl zQd
  have zYg:=z5r (P:=l.prog) (w:=w) (base:=base) T zYi
  have zAi:=zlp (P:=l.prog) (w:=w) (base:=base) T zKh
  have zld:=zmp T zQd zke zYi zYg zKh zAi zDd
  have zQk:=znr T zYi zYg zJk
  have zPg:=zen (P:=l.prog) (w:=w) (base:=base) T zLf
  have zZg:=z3m (P:=l.prog) (w:=w) (base:=base) T z7f
  have zWh:=znp T zJk zQk zLf zPg z7f zZg zLh
  have zge:=zjk T zDd zld zLh zWh zTd
  have zhd:=zMi T zTd zge zzc
  have z0g:=zKm (P:=l.prog) (w:=w) (base:=base) T zfg
  have zlf:=zVl (P:=l.prog) (w:=w) (base:=base) T zOe
  have zsf:=ztm T zfg z0g zOe zlf zue
  have z9c:=zfl T zue zsf zPc
  have zQg:=z1m T zPc z9c zsg
  have zhi:=z4o T zzc zhd zsg zQg zEh
  have zNg:=zQm (P:=l.prog) (w:=w) (base:=base) T zPf
  have zkf:=zqm T zDd zld zPf zNg zTe
  have zHi:=zFo T zEh zhi zTe zkf B_init_NoFit ok_init_NoFit zHh
  have zPd:=zfj T zHh zHi zad
  have zjb:=zhl (P:=l.prog) (w:=w) (base:=base) T zmb
  have zLc:=zth T zmb zjb zec
  have zuf:=zjl T zec zLc zBe
  have zIc:=zwh (P:=l.prog) (w:=w) (base:=base) T zcc
  have zAd:=zbj (P:=l.prog) (w:=w) (base:=base) T z5c
  have zdc:=zSi T z5c zAd zRb
  have zJc:=zxh T zcc zIc zRb zdc z9b
  exact z4t T zVe zif zye zmf zad zPd zBe zuf z9b zJc zsx
theorem walk {l:W.OpenLaw} {q:Program} {loose:List Str} {XP:(Str→Option Value)→Heap→Prop} {YP:World→Heap→Prop} {d:DefRec} {K:Params→W.Frag} (hn:l.most=some 63) (hdf:d.params.defaults = [])
    (hY:∀ (w:World) (h:Heap),YP w h→(K w.params).In h)
    (F:∀ (w:World) (mg:Str→Option Value) (fa:Addr) (h:Heap),(K w.params).In h→h.Ns mainGlobals mg→mg d.name=some (.ref fa) →
      ∃ fd:FuncData,(∀ (s:Shared) (u:Value),BindsTo s fd ⟨[u],[]⟩ [("_law_script",u)])∧∀ base:Heap,(K w.params).In base→base.Ns mainGlobals mg→FnOk l.prog w (K w.params) mg base CX0 15 fa fd ["_law_script"] (spM (K w.params) 1 zrp)) :
    W.WalkO q loose XP YP l.row.toRowW d [] (fun f vs=>PySem.call f vs) :=
  L2.walk_of (n:=63) (k:=15) (x:="_law_script") (CX:=fun _=>CX0) (sp:=fun w=>spM (K w.params) 1 zrp) hn (by decide) hdf (by first | exact ⟨rfl,by decide,by decide,rfl⟩ | exact ⟨rfl,by decide,by decide⟩) hY F (fun _ _ a ns hl hO hS=>zov (z3r ns hl) hO hS) fun _ _ _ _ _ z=>z
end P
open PySem PySem.W PyProof.Rows
set_option maxRecDepth 100000 in
set_option maxHeartbeats 0 in
theorem PySem.Challenge.cw_keynests_k40_webs_that_do_not_fit_holds : PySem.Challenge.rw_keynests_k40_webs_that_do_not_fit.Holds := by
  refine M.own_head (l:=PySem.Challenge.rw_keynests_k40_webs_that_do_not_fit) (q:=Hd.qv) (loose:=Hd.lse) (d:=Hd.dl) (obs:=Hd.obs) (good:=Hd.good) (N:=60000) Hd.hd1 Hd.hd2 Hd.hd3 Hd.hd4 Hd.hd5 Hd.hd6 Hd.hd7 ?hw fun K e=>?_
  case hw=>w_witness2
  exact P.walk (l:=PySem.Challenge.rw_keynests_k40_webs_that_do_not_fit) (K:=fun _=>K) (by rfl) (by rfl) (fun w h Y=>Y) fun w mg fa h KX G hmg=>P.all_of KX G hmg e
